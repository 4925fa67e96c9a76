import PyProof.Rows.All
import Wide.All
import OpenK.AllK
import Wide.FinOn
import Lean
import PyProof.EqAt
import PyProof.EqKinds
import PyProof.TupleCall
import PySem.Challenge.RW_stepgrove_k26_refused_growth
set_option Elab.async false
set_option linter.all false
set_option compiler.extract_closed false
set_option maxRecDepth 100000
abbrev Ah:=@List.length_map
abbrev BC:=@List.getElem?_map
abbrev A4:=@List.map_append
abbrev CP:=@List.take_add_one
abbrev FQ:=@List.getD_eq_getElem?_getD
abbrev DM:=@List.size_toArray
abbrev DC:=@List.take_length
abbrev C0:=@List.map_cons
abbrev Ge:=@List.length_append
abbrev Fo:=@Bool.true_and
abbrev Ht:=@List.all_eq_true
abbrev LL:=@List.length_singleton
abbrev HF:=@Bool.false_and
abbrev Im:=@List.length_cons
abbrev JZ:=@List.length_take
abbrev HM:=@List.map_map
abbrev Lh:=@Bool.and_eq_true
abbrev NZ:=@List.replicate_succ
abbrev MS:=@List.length_drop
abbrev KG:=@List.sum_cons
abbrev MP:=@Bool.and_false
abbrev MO:=@PySem.Heap.size_push
abbrev OD:=@Int.toNat_natCast
abbrev O7:=@List.flatten_cons
abbrev NI:=@Bool.eq_iff_iff
abbrev Qz:=@Array.length_toList
abbrev OH:=@Option.bind_some
abbrev Od:=@List.append_nil
abbrev Ny:=@List.range_succ
abbrev ZA:=@Array.getD_eq_getD_getElem?
abbrev Mu:=@Nat.mul_succ
abbrev Qe:=@List.foldl_cons
abbrev So:=@List.foldl_append
abbrev MD:=List PySem.PyData->Option PySem.PyData
abbrev Fg:=PySem.W.Frag
abbrev Wb:=@PySem.wpAny_bind
abbrev PD:=PySem.PyData
abbrev SD:=PySem.Shared
abbrev VL:=PySem.Value
abbrev AD:=PySem.Addr
abbrev aA:=@PySem.wpAny_pure
abbrev aB:=@List.getElem?_eq_some_iff
abbrev aC:=@Option.bind_eq_some_iff
abbrev aD:=@PySem.Heap.lt_size
abbrev aE:=@PySem.Heap.get?_push_of_some
abbrev aF:=@Option.map_eq_some_iff
abbrev aG:=@List.getElem?_eq_getElem
abbrev aH:=@Nat.le_refl
abbrev aI:=@List.mem_of_getElem?
abbrev aJ:=@Nat.lt_of_le_of_lt
abbrev aK:=@Nat.lt_of_lt_of_le
abbrev aL:=@List.mem_map
abbrev aM:=@PySem.PassesOwn.never
abbrev aN:=@List.mem_cons_of_mem
abbrev aO:=@Bool.false_ne_true
abbrev aP:=@Nat.ne_of_lt
abbrev aQ:=@List.mem_append
abbrev aR:=@List.mem_cons_self
abbrev aS:=@Nat.le_trans
abbrev aT:=@Nat.mul_le_mul_left
abbrev aU:=@List.mem_cons
abbrev aV:=@PySem.Heap.get?_push_size
abbrev aW:=@PySem.wpAny_mono
abbrev aX:=@PyProof.Rows.boot_isinstance
abbrev aY:=@PySem.wpAny_newObj_type
abbrev aZ:=@Bool.eq_false_iff
abbrev aa:=@List.mem_append_right
abbrev ae:=@of_decide_eq_true
abbrev af:=@PySem.boot_len
abbrev ag:=@PySem.F.plainAttrs_list
abbrev ah:=@List.getElem?_of_mem
abbrev ai:=@PySem.wpAny_setField_rec
abbrev aj:=@PySem.wpAny_field
abbrev ak:=@PySem.wpAny_callSpecial?_slot
abbrev ao:=@Option.some.inj
abbrev aq:=@List.getElem_mem
abbrev ar:=@Nat.zero_le
abbrev au:=@PySem.F.slot_list_append
abbrev av:=@PySem.F.type_list_append
abbrev ax:=@PySem.wpAny_call_entry
abbrev ay:=@Nat.pow_le_pow_right
abbrev az:=@of_decide_eq_false
abbrev bA:=@congrArg
abbrev bC:=@List.not_mem_nil
abbrev bD:=@PySem.wpAny_holding
abbrev bE:=@PySem.W.kia_one
abbrev bF:=@Nat.ne_of_gt
abbrev bH:=@PySem.wpAny_typeNameOfWhole_itemiter
abbrev bI:=@PySem.wpAny_isOneOf_itemiter
abbrev bJ:=@PySem.F.slot_dict_itemiterator_next
abbrev bK:=@PySem.Heap.SameBut.update
abbrev bL:=@Nat.add_le_add_left
abbrev bM:=@decide_eq_false
abbrev bN:=@PyProof.Rows.boot_tuple
abbrev bO:=@List.mem_append_left
abbrev bP:=@List.map_congr_left
abbrev bQ:=@PySem.wpAny_typeNameOf_itemiter
abbrev bS:=@PyProof.Rows.boot_sum
abbrev bU:=@List.mem_range
abbrev bV:=@decide_eq_true
abbrev bW:=@List.mem_of_mem_take
abbrev bX:=@List.mem_of_mem_drop
abbrev bY:=@Nat.lt_succ_of_lt
abbrev bZ:=@PyProof.Rows.callWith_type1
abbrev ba:=@Nat.le_of_lt
abbrev bc:=@PySem.wpAny_attempt
abbrev bf:=@PySem.wpAny_Call_Name_kw
abbrev bg:=@PySem.F.plain_extend_loop
abbrev bh:=@List.of_mem_zip
abbrev bj:=@PyProof.Rows.KeyOrd.kle_refl
abbrev bo:=@List.length_map
abbrev bp:=@Nat.mul_le_mul_right
abbrev bq:=@PySem.wpAny_dictEntries
abbrev bw:=@PySem.wpAny_seqItems
abbrev bx:=@PySem.wpAny_fieldsOf
abbrev bz:=@List.mem_flatten
abbrev cA:=@Nat.mul_le_mul
abbrev cC:=@List.nodup_cons
abbrev cD:=@Nat.not_lt_zero
set_option maxHeartbeats 0
abbrev tZ:=List PD
abbrev tf:=List VL
abbrev tj:=VL->SD->Prop
abbrev tm:=PySem.Str->Option VL
abbrev tq:=Option PD
abbrev tw:=Array Nat
abbrev t6:=List Int
abbrev t7:=List PySem.Str
abbrev t8:=List PySem.Expr
abbrev uA:=Option Int
abbrev uC:=List Rat
abbrev uF:=List AD
abbrev uG:=List PySem.Stmt
abbrev uH:=List PySem.Env
abbrev uI:=List (Option Nat)
abbrev F0a:=PySem.FuncData
abbrev F0b:=PySem.Program
abbrev F0c:=PySem.World
abbrev F0d:=PySem.Around
set_option hygiene false
local macro_rules
|`(AC)=>`(by lia)
|`(AS)=>`(by decide)
|`(AT)=>`(Or.inl rfl)
|`(As)=>`(fun cdv A outer s H vs Q E hr h=>?_)
|`(At)=>`(model X.prog X.w)
|`(BY)=>`(fun vs H Q E h=>?_)
|`(By)=>`(fun _ _=>rfl)
|`(Ch)=>`(List (List Ag))
|`(Cl)=>`(Inv X pins σ H s)
|`(Da)=>`(model prog w)
|`(Db)=>`(List (AD×Obj))
|`(Do)=>`(by simp)
|`(ED)=>`(A7 X scope cl N C s₀ H₀ fp)
|`(EQ)=>`(["thing","unknowns"])
|`(Ev)=>`({ s with heap:=((s.heap.update a (Obj.mapSeq fun _ => #[])).push (seqObj "tuple" us.toArray 0)).push (seqObj "list" #[] 0) })
|`(FI)=>`(["thing"])
|`(FS)=>`(pv 0)
|`(Fa)=>`(pv 1)
|`(Fk)=>`(AD->Option Bool)
|`(F9)=>`(fun _ _ _ _ _=>BH)
|`(GE)=>`(x==("__debug__" : Str))
|`(GM)=>`((by have:=hr.units;exact aJ (bL (show 1<=64 by decide) _) this))
|`(GT)=>`(ps.map V.int)
|`(Gg)=>`(∀(D C:AD) (s':SD) (H':Hp) m,s'.heap.Ns C m->Q (.ref D) H'->(∀h',Heap.SameBut C s'.heap h'->Inv X pins σ H' { s' with heap:=h'})->C≠D->(∀b o,s2.heap.get? b=some o->b≠C)->H' C=none->s2.heap.objs.size<=C->RR (.ref D) C (.ok .next) s')
|`(Go)=>`(["table","change","start"])
|`(G6)=>`(.Call (.Name x p) (e::es) [] pos)
|`(Hq)=>`(fun z=>nomatch z)
|`(IF)=>`(List (List Key×V))
|`(IN)=>`(pv 2)
|`(IO)=>`(.ref C)
|`(IR)=>`(List V)
|`(IS)=>`(.ListComp elt [⟨.Name x px,iter,ifs,0⟩] scope pos)
|`(Id)=>`(.lst ys)
namespace Opn
open PySem PySem.W PyProof.Rows PySem.Calls
noncomputable def q0:Pos:=⟨0,0,0,0⟩
noncomputable def qw:Obj:={ cls:=.type "tuple",data:=.seq #[]}
noncomputable def qu:Obj:={ cls:=.none,data:=.fields #[]}
noncomputable def ql:Obj:={ cls:=.type "code",data:=.fields #[.str (Str.ofString "<module>") 182,.str (Str.ofString "<module>") 183,.str (Str.ofString "/claim/cut.py") 184,.int 1 0,.int 0 0,.int 0 0,.int 0 0,.int 0 0,.ref 11,.bool false,.int 181 0,.ref 12,.none,.none,.none,.none,.int 185 0,.int 1 0,.str (Str.ofString "/claim/cut.py") 186]}
noncomputable def qk:Obj:={ cls:=.type "frame",slots:=#[some (.ref 13),some (.ref 3),some (.ref 3),none,some (.str (Str.ofString "__main__") 164),none,some (.ref 0)]}
noncomputable def qB(P:Params):List Obj:=(boot_heap P).objs.toList++[qw,qu,ql,qk]
noncomputable def nN(P:Params)(o:Params->Obj)(l r:BT):BT:=.node (o P) l r
noncomputable def lN(P:Params)(o:Params->Obj):BT:=.node (o P) .nil .nil
noncomputable def qW(P:Params):BT :=
 nN P boot_o_0 (nN P boot_o_1 (nN P boot_o_3 (lN P boot_o_7) (.node qw .nil .nil)) (nN P boot_o_5 (lN P boot_o_9) (.node ql .nil .nil)))
  (nN P boot_o_2 (nN P boot_o_4 (lN P boot_o_8) (.node qu .nil .nil)) (nN P boot_o_6 (lN P boot_o_10) (.node qk .nil .nil)))
noncomputable def iJ:Life:=Life.mk [] [] [] 0 [] [] false #[] [] 0 false false false 0 [2000,10,10] false 0 true [] [] 0 false
noncomputable def sA(w:F0c)(os:OsState):SD:=⟨⟨⟨qB w.params⟩,iJ⟩,#[],boot_drawn,187,os⟩
noncomputable def sB(w:F0c)(os:OsState):SharedT:=⟨qW w.params,15,iJ,#[],boot_drawn,187,os⟩
noncomputable def QM(p:F0b):Env:={ scope:=p.main.scope,locals:=mainNs,globals:=mainNs,cells:=[],code:=.ref 13,frame:=some 14}
noncomputable def cB(p:F0b):Code:=.body (behindTheImports p) (QM p)
noncomputable abbrev KN:Option VL:=some (.ref 6)
noncomputable abbrev bB:List Frame:=[topFrame q0]
noncomputable def Yz(p:F0b)(M:Nat)(w:F0c)(os:OsState):Option (Flow×SharedT×Code×Pos) :=
 PySem.W.Fast.tw10110043849684766642 PySem.W.Fast.tw14364793385576792824 p w 11 KN 1 M (sB w os) (piecesOf (behindTheImports p) (QM p) (cB p) q0 bB)
noncomputable def Y8(p:F0b)(M:Nat)(w:F0c)(os:OsState):SharedT:=match Yz p M w os with|some (_,s,_)=>s|none=>sB w os
def kJ{p:F0b}{M:Nat}{w:F0c}{os:OsState}{r:Option (Flow×SharedT×Code×Pos)}(h:Yz p M w os=r):segRunT treeTable p w 11 KN 1 M (sB w os) (piecesOf (behindTheImports p) (QM p) (cB p) q0 bB)=r:=by
 have e:segRunT treeTable=PySem.W.Fast.tw10110043849684766642 PySem.W.Fast.tw14364793385576792824:=congr PySem.W.Fast.te10110043849684766642 PySem.W.Fast.te14364793385576792824;rw[e];exact h
def ou{p:F0b}{M R:Nat}{g:Pos}{w:F0c}{os:OsState} (pre:topGo treeTable p w 11 KN 12 ⟨boot_heap w.params,#[],boot_drawn,boot_toks,os⟩ (topStub p)=some (sA w os,⟨denote treeTable (cB p),cB p,q0,bB⟩)) (I:segRun treeTable p w 11 KN 1 1 (sA w os) (blockOf (behindTheImports p) (QM p) (cB p) q0 bB)=some (.next,(sB w os).abs,cB p,q0)) (seg:Yz p M w os=some (.next,Y8 p M w os,cB p,g)) (fin:∀s,topRun treeTable p w 11 KN 2 s (restOf [] (QM p) (cB p) g bB)=some s)(U:R=12+(1+(M+2))):topRun treeTable p w 11 KN R ⟨boot_heap w.params,#[],boot_drawn,boot_toks,os⟩ (topStub p)=some (Y8 p M w os).abs:=by
 subst U;refine go_top pre (piece_block I ?_);have h:=piece_app (rest:=[]) (segRun_of (kJ seg)) (fin _);rw[(Od)]at h;exact h
def ju{p q:F0b}{loose:t7}{Xt:SD->Bool}{α:Type}{Yf:SD->α}{Ya:F0c->α}{N M:Nat}{S:F0c->OsState->SD} (g:∀w:F0c,(fencedOpening treeTable p w N).map (fun s=>(s.heap,s.gens,s.drawn,s.toks))=some (boot_heap w.params,#[],boot_drawn,boot_toks)) (size:∀w:F0c,((boot_heap w.params).isNs mainGlobals&&(#[]:Array GenState).size==0,(boot_heap w.params).objs.size,(boot_heap w.params).nsMap mainGlobals "__annotations__")=(true,11,KN)) (run:∀w os,topRun treeTable p w 11 KN M ⟨boot_heap w.params,#[],boot_drawn,boot_toks,os⟩ (topStub p)=some (S w os))(le:Nat.ble M N=true) (ok:∀w os,(staticsOk (importedModules p.main.body) (boot_heap w.params) (S w os).heap&&namesBound p (S w os).heap&&gensDone (S w os)&&laidKept (boot_heap w.params) (S w os).heap)=true) (seen:∀w os,openSeen q loose (importedModules p.main.body) Xt true (S w os)=openGood q loose) (Z:∀w os,Yf (S w os)=Ya w):LeftO p q loose Xt Yf Ya N:=fun w=>by
 obtain⟨⟨h,gs,d,k,os⟩,e,e'⟩:=aF.mp (g w);obtain⟨rfl,rfl,rfl,rfl⟩:h=boot_heap w.params/\gs=#[]/\d=boot_drawn/\k=boot_toks:=by simpa using e'
 obtain⟨U,R,I⟩:_/\_/\_:=by simpa only[Prod.mk.injEq]using size w
 have Y:=ok w os;have r:=topRun_mono (N-M) _ _ _ _ (run w os);rw[show M+(N-M)=N by have:=Nat.le_of_ble_eq_true le;lia]at r;have t:topFrom treeTable p w N ⟨boot_heap w.params,#[],boot_drawn,boot_toks,os⟩=some (S w os):=by
  unfold topFrom;dsimp only;rw[U,R,I,r];show(match staticsOk (importedModules p.main.body) (boot_heap w.params) (S w os).heap&&namesBound p (S w os).heap&&gensDone (S w os)&&laidKept (boot_heap w.params) (S w os).heap with|true=>_|false=>_)=_;rw[Y]
 unfold openEnds;rw[e];show(topFrom treeTable p w N _).map _=_;rw[t];exact bA some (Prod.ext (seen w os) (Z w os))
def qf(w:F0c):((boot_heap w.params).isNs mainGlobals&&(#[]:Array GenState).size==0,(boot_heap w.params).objs.size,(boot_heap w.params).nsMap mainGlobals "__annotations__")=(true,11,KN):=by kernel_rfl
end Opn
namespace Q26
open PySem
def top(i:Nat):Stmt:=PySem.Challenge.pw_stepgrove_k26_refused_growth.main.body.getD i (.Pass ⟨0,0,0,0⟩)
end Q26
namespace L2
open PySem
def G5(s:Stmt):Arguments:=match s with
 |.FunctionDef _ a _ _ _ _ _ _ _ _=>a
 |_=>{ posonlyargs:=[],args:=[],vararg:=none,kwonlyargs:=[],kw_defaults:=[],kwarg:=none,defaults:=[]}
def EA(s:Stmt):uG:=match s with
 |.FunctionDef _ _ b _ _ _ _ _ _ _=>b
 |_=>[]
def AQ(s:Stmt):Scope:=match s with
 |.FunctionDef _ _ _ _ _ _ sc _ _ _=>sc
 |_=>{ kind:=.function,names:=[],isGenerator:=false,isCoroutine:=false}
end L2
namespace Q26
open PySem L2
section
open PySem.W PyProof.Rows PySem.Calls
abbrev FJ:F0b:=PySem.Challenge.pw_stepgrove_k26_refused_growth
abbrev Df:OpenLaw:=PySem.Challenge.rw_stepgrove_k26_refused_growth
noncomputable abbrev dE(P:Params)(x:String)(t:Nat)(v:VL):DictEntry:=⟨PyData.keyHash P (Str.ofString x),.str (Str.ofString x) t,v⟩
noncomputable abbrev sV(x:String)(t:Nat):VL:=.str (Str.ofString x) t
noncomputable abbrev fO(n:String)(i:Nat)(m:String)(t c:Nat):Obj:=⟨.type "function",none,.func (fnOf n n (G5 (top i)) (EA (top i)) (AQ (top i)) .none .none .none (.str (Str.ofString m) t) none (.ref c) .none),#[]⟩
noncomputable abbrev cO(n:String)(t l a k r:Nat)(b:Bool)(U:Nat)(R M I v4:VL)(g:Nat):Obj:=⟨.type "code",none,.fields #[sV n t,sV n (t+1),sV "/claim/cut.py" (t+2),.int l 0,.int a 0,.int 0 0,.int 0 0,.int k 0,.ref r,.bool b,.int 181 0,.ref U,R,M,I,v4,.int g 0,.int l 0,sV "/claim/cut.py" (g+1)],#[]⟩
noncomputable abbrev Kg:String×Nat:=("stepgrove.fracs",399)
noncomputable abbrev Kh:String×Nat:=("stepgrove.polys",469)
noncomputable abbrev qj:String×Nat:=("stepgrove.trees",539)
noncomputable abbrev JD:String×Nat:=("stepgrove.wholes",550)
noncomputable abbrev i5:String×Nat:=("stepgrove.changes",621)
noncomputable abbrev Kk:String×Nat:=("stepgrove.growth",638)
noncomputable abbrev X6:String×Nat:=("stepgrove.tables",705)
noncomputable abbrev JG:String×Nat:=("stepgrove.steps",732)
noncomputable abbrev HC:String×Nat:=("law_stepgrove_k26_refused_growth",792)
noncomputable def oC(P:Params)(K:Frag):Nat->List String->Frag
 |_,[]=>K
 |k,x::xs=>(16+12*k,⟨.type "tuple",none,.seq #[.ref 24] 0,#[]⟩)::(23+12*k,⟨.type "tuple",none,.seq #[] 0,#[]⟩) ::
  (24+12*k,⟨.type "dict",none,.dict #[dE P "__module__" (198+16*k) (sV "stepgrove.errors" 187),dE P "__firstlineno__" (202+16*k) (.int (Int.ofNat (2+2*k)) (201+16*k)),dE P "__static_attributes__" (203+16*k) (.ref (23+12*k)),dE P "__doc__" (204+16*k) .none] 2,#[]⟩) ::
  (25+12*k,⟨.type "type",none,.cls ⟨Str.ofString x,[.ref 24],[.ref (25+12*k),.ref 24,.type "ValueError",.type "Exception",.type "BaseException",.type "object"],24+12*k,Str.ofString x,true,[],[],false,none,false⟩,#[some (.ref (16+12*k)),none,some (sV x (191+16*k)),some (sV x (199+16*k)),some (.builtin "ValueError.__new__"),some (.bool true)]⟩)::oC P K (k+1) xs
noncomputable def oW(m:String×Nat)(n:String)(t l a r g i:Nat)(K:Frag):Frag:=(r+5,cO n t l a 3 r true (r+1) .none (.ref (r+2)) (.ref (r+3)) (.ref (r+4)) g)::(r+6,fO n i m.1 m.2 (r+5))::K
noncomputable def oN(m:String×Nat)(n:String)(t l a r g i:Nat)(K:Frag):Frag:=(r+3,cO n t l a 3 r true (r+1) .none .none .none (.ref (r+2)) g)::(r+4,fO n i m.1 m.2 (r+3))::K
def Ju:Nat->List Nat->List Nat
 |_,[]=>[]
 |a,d::g=>(a+d)::Ju (a+d) g
noncomputable abbrev dR(P:Params)(x:String)(t a:Nat):DictEntry:=dE P x t (.ref a)
noncomputable def kH:Params->Frag:=fun P=>
 (nat_lit 2,⟨.none,none,(.dict #[] 0),#[]⟩) ::
 (nat_lit 3,⟨(.type "dict"),none,(.dict #[dE P "__name__" 165 (sV "law_stepgrove_k26_refused_growth" 792),dE P "__doc__" 166 .none,dE P "__package__" 167 .none,dE P "__loader__" 168 (.builtin "__main__.__loader__#opaque"),dE P "__spec__" 169 .none,dR P "__annotations__" 170 6,dR P "__builtins__" 171 4,dE P "__file__" 173 (sV "/claim/cut.py" 172),dE P "__cached__" 174 .none,dR P "GroveError" 206 24,dR P "NoBottom" 222 37,dR P "NoTree" 238 49,dR P "NoChange" 254 61,dR P "NoStart" 270 73,dR P "NoTable" 286 85,dR P "NoName" 302 97,dR P "NoWeighing" 318 109,dR P "NotAlike" 334 121,dR P "NoParts" 350 133,dR P "TooMany" 366 145,dR P "NoText" 382 157,dR P "NoLine" 398 169,dR P "fraction_of" 409 178,dR P "is_fraction" 416 185,dR P "are_fractions" 424 192,dR P "is_whole" 431 199,dR P "greatest_divisor" 442 206,dR P "common_bottom" 451 213,dR P "frac_total" 457 218,dR P "power_of" 468 225,dR P "is_poly" 480 232,dR P "is_term" 488 239,dR P "are_powers" 497 246,dR P "refuse_no_start" 505 253,dR P "refuse_start" 511 260,dR P "one_less" 519 267,dR P "worth_at" 525 272,dR P "term_worth" 538 279,dR P "product_up_to" 549 286,dR P "grain_of" 557 291,dR P "pace_of" 565 298,dR P "whole_start" 571 303,dR P "tops_over" 577 308,dR P "table_bottom" 583 313,dR P "whole_change" 589 318,dR P "whole_poly" 603 325,dR P "speeds_bottom" 609 330,dR P "greatest_power" 620 337,dR P "is_change" 630 344,dR P "refuse_no_change" 637 351,dE P "MOST_POWER" 641 (.int 7 640),dR P "growth_rows" 647 356,dR P "refuse_too_many" 654 363,dR P "row_of_fractions" 666 370,dR P "whole_rows" 672 375,dR P "powers_needed" 684 382,dR P "first_unknown" 692 389,dR P "product_at" 698 394,dR P "speed_at" 704 399,dE P "MOST_ROWS" 708 (.int 40 707),dR P "is_table" 715 406,dR P "refuse_no_table" 722 413,dR P "are_rows" 731 420,dR P "step_to" 739 425,dR P "step_rows" 745 430,dR P "refuse_no_step" 754 437,dR P "rows_that_read" 761 444,dR P "speeds_at" 767 449,dR P "led_to" 773 454,dR P "whole_step" 779 459,dR P "speed_rows" 785 464,dR P "read_at" 791 469,dR P "_law_cell" 805 476,dR P "_law_take" 814 483,dR P "_law_shared" 822 490,dR P "_law_frac" 831 497,dR P "_law_plus" 839 504,dR P "_law_by" 847 511,dR P "_law_part" 855 518,dR P "_law_poly" 872 525,dR P "_law_change" 878 530,dR P "_law_start" 884 535,dR P "_law_table" 890 540,dR P "_law_called" 896 545,dR P "_law_flags" 907 552,dR P "law" 913 557] 86),#[]⟩) ::
 (nat_lit 15,⟨(.type "tuple"),none,(.seq #[(.type "ValueError")] 0),#[]⟩) ::
 (nat_lit 22,⟨(.type "tuple"),none,(.seq #[] 0),#[]⟩) ::
 (nat_lit 23,⟨(.type "dict"),none,(.dict #[dE P "__module__" 196 (sV "stepgrove.errors" 187),dE P "__firstlineno__" 200 (.int 2 199),dR P "__static_attributes__" 201 22,dR P "__weakref__" 203 25,dE P "__doc__" 204 .none] 3),#[]⟩) ::
 (nat_lit 24,⟨(.type "type"),none,(.cls ⟨Str.ofString "GroveError",[(.type "ValueError")],[(.ref 24),(.type "ValueError"),(.type "Exception"),(.type "BaseException"),(.type "object")],23,Str.ofString "GroveError",true,[],[(.ref 37),(.ref 49),(.ref 61),(.ref 73),(.ref 85),(.ref 97),(.ref 109),(.ref 121),(.ref 133),(.ref 145),(.ref 157),(.ref 169)],false,none,false⟩),#[some (.ref 15),none,some (sV "GroveError" 189),some (sV "GroveError" 197),some (.builtin "ValueError.__new__"),some (.bool true)]⟩) ::
 (nat_lit 25,⟨(.type "getset_descriptor"),none,(.fields #[(sV "__weakref__" 202),(.ref 24),(.builtin "ExceptionGroup.__weakref__"),.none]),#[]⟩) ::
 oC P (
 oW Kg "fraction_of" 401 29 2 172 407 15 (
 oW Kg "is_fraction" 410 36 1 179 414 16 (
 oW Kg "are_fractions" 417 42 1 186 422 17 (
 oW Kg "is_whole" 425 49 1 193 429 18 (
 oW Kg "greatest_divisor" 432 51 2 200 440 19 (
 oW Kg "common_bottom" 443 59 1 207 449 20 (
 oN Kg "frac_total" 452 64 1 214 455 21 (
 oW Kg "power_of" 458 67 2 219 466 22 (
 oW Kh "is_poly" 471 79 2 226 478 24 (
 oW Kh "is_term" 481 86 2 233 486 25 (
 oW Kh "are_powers" 489 90 2 240 495 26 (
 oW Kh "refuse_no_start" 498 97 2 247 503 27 (
 oW Kh "refuse_start" 506 100 0 254 509 28 (
 oW Kh "one_less" 512 102 2 261 517 29 (
 oN Kh "worth_at" 520 104 2 268 523 30 (
 oW Kh "term_worth" 526 106 3 273 536 31 (
 oW qj "product_up_to" 541 114 1 280 547 33 (
 oN JD "grain_of" 552 120 1 287 555 35 (
 oW JD "pace_of" 558 122 2 292 563 36 (
 oN JD "whole_start" 566 124 2 299 569 37 (
 oN JD "tops_over" 572 126 2 304 575 38 (
 oN JD "table_bottom" 578 128 1 309 581 39 (
 oN JD "whole_change" 584 133 2 314 587 40 (
 oW JD "whole_poly" 590 137 4 319 601 41 (
 oN JD "speeds_bottom" 604 143 1 326 607 42 (
 oW JD "greatest_power" 610 148 1 331 618 43 (
 oW i5 "is_change" 623 155 1 338 628 45 (
 oW i5 "refuse_no_change" 631 162 1 345 635 46 (
 oN Kk "growth_rows" 642 167 3 352 645 49 (
 oW Kk "refuse_too_many" 648 176 1 357 652 50 (
 oW Kk "row_of_fractions" 655 179 3 364 664 51 (
 oN Kk "whole_rows" 667 186 4 371 670 52 (
 oW Kk "powers_needed" 673 198 1 376 682 53 (
 oW Kk "first_unknown" 685 208 1 383 690 54 (
 oN Kk "product_at" 693 213 4 390 696 55 (
 oN Kk "speed_at" 699 219 3 395 702 56 (
 oW X6 "is_table" 709 223 1 400 713 59 (
 oW X6 "refuse_no_table" 716 227 1 407 720 60 (
 oW X6 "are_rows" 723 230 1 414 729 61 (
 oN JG "step_to" 734 238 4 421 737 63 (
 oN JG "step_rows" 740 247 4 426 743 64 (
 oW JG "refuse_no_step" 746 256 3 431 752 65 (
 oW JG "rows_that_read" 755 260 1 438 759 66 (
 oN JG "speeds_at" 762 262 2 445 765 67 (
 oN JG "led_to" 768 266 4 450 771 68 (
 oN JG "whole_step" 774 273 4 455 777 69 (
 oN JG "speed_rows" 780 281 4 460 783 70 (
 oN JG "read_at" 786 291 4 465 789 71 (
 oW HC "_law_cell" 794 298 2 470 803 73 (
 oW HC "_law_take" 806 310 2 477 812 74 (
 oW HC "_law_shared" 815 314 2 484 820 75 (
 oW HC "_law_frac" 823 318 2 491 829 76 (
 oW HC "_law_part" 848 327 1 512 853 79 (
 oW HC "_law_poly" 856 330 3 519 870 80 (
 oN HC "_law_change" 873 346 4 526 876 81 (
 oN HC "_law_table" 885 351 3 536 888 83 (
 oN HC "_law_called" 891 359 1 541 894 84 (
 oW HC "_law_flags" 897 371 3 546 905 85 (
 oN HC "law" 908 383 1 553 911 86 (
 [])))))))))))))))))))))))))))))))))))))))))))))))))))))))))))) 1 ["NoBottom","NoTree","NoChange","NoStart","NoTable","NoName","NoWeighing","NotAlike","NoParts","TooMany","NoText","NoLine"]
abbrev qX:F0b:=view FJ [1,2,3,4,5,6,7,8,9,10,11,12,13,15,16,17,18,19,20,21,22,24,25,26,27,28,29,30,31,33,35,36,37,38,39,40,41,42,43,45,46,48,49,50,51,52,53,54,55,56,58,59,60,61,63,64,65,66,67,68,69,70,71,73,74,75,76,77,78,79,80,81,82,83,84,85,86]
noncomputable abbrev hX:Hook:=kHook kH (Ju 0 [2,1,12,7,1,1,1,3,7,1,1,3,7,1,1,3,7,1,1,3,7,1,1,3,7,1,1,3,7,1,1,3,7,1,1,3,7,1,1,3,7,1,1,3,7,1,1,3,7,1,1,3,7,1,1,8,1,6,1,6,1,6,1,6,1,6,1,4,1,6,1,6,1,6,1,6,1,6,1,6,1,6,1,4,1,6,1,6,1,4,1,6,1,4,1,4,1,4,1,4,1,6,1,4,1,6,1,6,1,6,1,4,1,6,1,6,1,4,1,6,1,6,1,4,1,4,1,6,1,6,1,6,1,4,1,4,1,6,1,6,1,4,1,4,1,4,1,4,1,4,1,6,1,6,1,6,1,6,1,20,1,6,1,4,1,9,1,4,1,6,1,4,1]) (fun _=>by kernel_rfl)
noncomputable def dX:DefRec:=⟨Str.ofString "law",G5 (top 86),EA (top 86),AQ (top 86),⟨383,0,413,15⟩⟩
def pZ:Df.wellSaid=true:=(congrFun PySem.W.Fast.te9446332074065402090 _).trans (by kernel_rfl)
def se(w:F0c)(os:OsState):topGo treeTable FJ w 11 Opn.KN 12 ⟨boot_heap w.params,#[],boot_drawn,boot_toks,os⟩ (topStub FJ)=some (Opn.sA w os,⟨denote treeTable (Opn.cB FJ),Opn.cB FJ,Opn.q0,Opn.bB⟩):=by kernel_rfl
def sQ(w:F0c)(os:OsState):segRun treeTable FJ w 11 Opn.KN 1 1 (Opn.sA w os) (blockOf (behindTheImports FJ) (Opn.QM FJ) (Opn.cB FJ) Opn.q0 Opn.bB)=some (.next,(Opn.sB w os).abs,Opn.cB FJ,Opn.q0):=by kernel_rfl
def rP(w:F0c)(s:SD):topRun treeTable FJ w 11 Opn.KN 2 s (restOf [] (Opn.QM FJ) (Opn.cB FJ) ⟨383,0,413,15⟩ Opn.bB)=some s:=by kernel_rfl
def rJ(w:F0c)(os:OsState):Opn.Yz FJ 4660 w os=some (.next,Opn.Y8 FJ 4660 w os,Opn.cB FJ,⟨383,0,413,15⟩):=by kernel_rfl
noncomputable abbrev sX(w:F0c)(os:OsState):SD:=(Opn.Y8 FJ 4660 w os).abs
def rQ(w:F0c)(os:OsState):(staticsOk (importedModules FJ.main.body) (boot_heap w.params) (sX w os).heap&&namesBound FJ (sX w os).heap&&gensDone (sX w os)&&laidKept (boot_heap w.params) (sX w os).heap)=true:=by kernel_rfl
def pE(w:F0c)(os:OsState):hX.obs (sX w os)=hX.val w:=by kernel_rfl
noncomputable abbrev YH:SD->Bool:=fun s=>xlAt qX [] s&&recOk (RowW.records Df.row.toRowW) s
def pD(w:F0c)(os:OsState):(openSeen qX [] (importedModules FJ.main.body) YH true (sX w os)).1=(openGood qX []).1:=by kernel_rfl
def pT(w:F0c)(os:OsState):(openSeen qX [] (importedModules FJ.main.body) YH true (sX w os)).2.1=(openGood qX []).2.1:=by kernel_rfl
def pH(w:F0c)(os:OsState):(openSeen qX [] (importedModules FJ.main.body) YH true (sX w os)).2.2=(openGood qX []).2.2:=by kernel_rfl
def qS(w:F0c)(os:OsState):openSeen qX [] (importedModules FJ.main.body) YH true (sX w os)=openGood qX []:=Prod.ext (pD w os) (Prod.ext (pT w os) (pH w os))
def qJ(w:F0c):(fencedOpening treeTable FJ w 9444).map (fun s=>(s.heap,s.gens,s.drawn,s.toks))=some (boot_heap w.params,#[],boot_drawn,boot_toks):=boot_open (p:=FJ) (N:=9444) (by kernel_rfl) (by kernel_rfl) (fun _=>by kernel_rfl) w
def qA:LeftO FJ qX [] YH hX.obs hX.val 9444:=Opn.ju (M:=4675) (S:=sX) qJ Opn.qf (fun w os=>Opn.ou (se w os) (sQ w os) (rJ w os) (rP w) (by kernel_rfl)) (by kernel_rfl) rQ qS pE
def sC:defOf qX Df.row.name=some (dX,[]):=by kernel_rfl
def rX:FJ.theDef Df.row.name=some (dX.params,dX.body,dX.scope):=by kernel_rfl
def tF:kwWritten? dX.params.kwonlyargs dX.params.kw_defaults=some []:=by kernel_rfl
def rR:(chainsOk qX&&opensWell Df.row.prog&&(frees Df.row.toRowW&&Df.row.within.isEmpty))=true:=by kernel_rfl
def qQ:FJ.bare:=⟨rfl,rfl,rfl,rfl,rfl,by decide +kernel⟩
def openX(R:Df.row.toRowW.promised)(U:WalkO qX [] (XL qX []) hX.says Df.row.toRowW dX [] (fun f vs=>PySem.call f vs)):Df.Holds :=
 holds_law pZ fun g=>holds_open (r:=Df.row) (q:=qX) (loose:=[]) (Xt:=YH) (XP:=XL qX []) (Yf:=hX.obs) (Ya:=hX.val) (YP:=hX.says) (d:=dX) (kwd:=[]) (N:=9444) qA hX.of hX.keeps (fun s e=>xl_of s (Bool.and_eq_true_iff.mp e).1) XL.keeps sC rX tF (fun s e=>recFacts_of (Bool.and_eq_true_iff.mp e).2) rfl g rR qQ R U
end
end Q26
namespace L2
open PySem PySem.Spec PyProof.Rows
abbrev Key:=Sum Int Str
def Pc:Key->VL->Bool
 |.inl k,v=>Value.isInt k v
 |.inr x,v=>Value.isStrOf x v
def rM(w:F0c):Key->Int
 |.inl k=>hashInt k
 |.inr x=>hashStr w x
def Dz:∀ {k:Key} {v:VL},Pc k v=true->(∃i t,k=Sum.inl i/\v=Value.int i t)\/(∃x t,k=Sum.inr x/\v=Value.str x t)
 |.inl i,v,h=>by
  obtain⟨t,e⟩:=Value.isInt_shape (k:=i) (v:=v) h;exact .inl ⟨i,t,rfl,e⟩
 |.inr x,v,h=>by
  obtain⟨t,e⟩:=Value.isStrOf_shape (x:=x) (v:=v) h;exact .inr ⟨x,t,rfl,e⟩
def eB(i:Int)(t:Tok):Pc (.inl i) (.int i t)=true:=by simp[Pc,Value.isInt]
def cK(x:Str)(t:Tok):Pc (.inr x) (.str x t)=true:=by simp[Pc,Value.isStrOf]
def oH(a b:Int):decide ((Sum.inl a:Key)=Sum.inl b)=(a==b):=by
 by_cases e:a=b
 .subst e;simp
 .have h:¬(Sum.inl a:Key)=Sum.inl b:=fun q=>e (Sum.inl.inj q);rw[decide_eq_false h];exact(beq_eq_false_iff_ne.mpr e).symm
def lC(a b:Str):decide ((Sum.inr a:Key)=Sum.inr b)=decide (a=b):=by
 by_cases e:a=b
 .subst e;simp
 .have h:¬(Sum.inr a:Key)=Sum.inr b:=fun q=>e (Sum.inr.inj q);rw[decide_eq_false h,decide_eq_false e]
def ox(a:Int)(b:Str):decide ((Sum.inl a:Key)=Sum.inr b)=false:=bM (fun q=>nomatch q)
def mU(a:Str)(b:Int):decide ((Sum.inr a:Key)=Sum.inl b)=false:=bM (fun q=>nomatch q)
def EY(prog:F0b)(w:F0c):PySem.KeyKind prog w Key where
 is:=Pc
 hash:=rM w
 inj:=fun v a b ha hb=>by
  rcases Dz ha with ⟨i,t,rfl,rfl⟩|⟨x,t,rfl,rfl⟩
  .rcases Dz hb with ⟨j,u,rfl,e⟩|⟨y,u,rfl,e⟩
   .injection e with e1 _;rw[e1]
   .exact nomatch e
  .rcases Dz hb with ⟨j,u,rfl,e⟩|⟨y,u,rfl,e⟩
   .exact nomatch e
   .injection e with e1 _;rw[e1]
 byValue:=fun k v h=>by
  rcases Dz h with ⟨i,t,rfl,rfl⟩|⟨x,t,rfl,rfl⟩<;>rfl
 pyHash:=fun hv h=>by
  rcases Dz hv with ⟨i,t,rfl,rfl⟩|⟨x,t,rfl,rfl⟩
  .exact wpAny_pyHash_int h
  .exact wpAny_pyHash_str h
 eqBool:=fun hu hv h=>by
  rcases Dz hu with ⟨i,t,rfl,rfl⟩|⟨x,t,rfl,rfl⟩
  .rcases Dz hv with ⟨j,u,rfl,rfl⟩|⟨y,u,rfl,rfl⟩
   .rw[oH]at h;exact wpAny_eqBool_int h
   .rw[ox]at h;exact SeqAt.EqAt.int_str i t y u _ _ _ _ h
  .rcases Dz hv with ⟨j,u,rfl,rfl⟩|⟨y,u,rfl,rfl⟩
   .rw[mU]at h;exact SeqAt.EqAt.str_int x t j u _ _ _ _ h
   .rw[lC]at h;exact wpAny_eqBool_str h
 «strs»:=fun k x t v h=>by
  rcases Dz h with ⟨i,u,rfl,e⟩|⟨y,u,rfl,e⟩
  .exact nomatch e
  .injection e with e1 _
   subst e1;cases v<;>rfl
def Xd(prog:F0b)(w:F0c)(i:Int)(t:Tok):(EY prog w).is (.inl i) (.int i t)=true:=eB i t
def XX(prog:F0b)(w:F0c)(x:Str)(t:Tok):(EY prog w).is (.inr x) (.str x t)=true:=cK x t
inductive V where
 |Bj|bl (b:Bool)|int (i:Int)|str (x:Str)|OV (b:Array UInt8)|Xo (b:UInt64)|ref (a:Addr)|ty (n:String)
 deriving DecidableEq
abbrev uD:=List V
def RelV:V->VL->Prop
 |.Bj,u=>u=Value.none
 |.bl b,u=>u=Value.bool b
 |.int i,u=>∃t,u=Value.int i t
 |.str x,u=>∃t,u=Value.str x t
 |.OV b,u=>∃t,u=Value.bytes b t
 |.Xo b,u=>∃t,u=Value.float b t
 |.ref a,u=>u=Value.ref a
 |.ty n,u=>u=Value.type n
abbrev Vals:List V->List VL->Prop:=Paired RelV
def Vals.length{xs:uD}{us:tf}(r:Vals xs us):xs.length=us.length:=Paired.length r
theorem Vals.get:∀ {xs:IR} {us:List VL} {i:Nat} {x:V},Vals xs us->xs[i]? = some x->∃u,us[i]? = some u/\RelV x u
 |_,_,_,_,.nil,e=>by simp at e
 |_,_,0,_,.cons r _,e=>by simp at e;subst e;exact⟨_,rfl,r⟩
 |_,_,i+1,x,.cons _ t,e=>by
  obtain⟨u,I,g⟩:=Vals.get (i:=i) (x:=x) t (by simpa using e);exact⟨u,by simpa using I,g⟩
theorem Vals.set{x:V}{u:VL}(r:RelV x u):∀ {xs:IR} {us:List VL} (i:Nat),Vals xs us->Vals (xs.set i x) (us.set i u)
 |_,_,_,.nil=>.nil
 |_,_,0,.cons _ t=>.cons r t
 |_,_,i+1,.cons q t=>.cons q (Vals.set r i t)
theorem Vals.append:∀ {xs ys:IR} {us g:List VL},Vals xs us->Vals ys g->Vals (xs++ys) (us++g)
 |_,_,_,_,.nil,s=>s
 |_,_,_,_,.cons r t,s=>.cons r (Vals.append t s)
theorem Vals.take:∀ {xs:IR} {us:List VL} (n:Nat),Vals xs us->Vals (xs.take n) (us.take n)
 |_,_,0,_=>.nil
 |_,_,_+1,.nil=>.nil
 |_,_,n+1,.cons r t=>.cons r (Vals.take n t)
theorem Vals.drop:∀ {xs:IR} {us:List VL} (n:Nat),Vals xs us->Vals (xs.drop n) (us.drop n)
 |_,_,0,r=>r
 |_,_,_+1,.nil=>.nil
 |_,_,n+1,.cons _ t=>Vals.drop n t
def Ld:Option V->Option VL->Prop
 |some v,some u=>RelV v u
 |none,none=>True
 |_,_=>False
def KV{κ:Type}:List (κ×V)->List (κ×VL)->Prop:=Paired fun(p:κ×V) (q:κ×VL)=>p.1=q.1/\RelV p.2 q.2
def kV:Key->V
 |.inl i=>.int i
 |.inr x=>.str x
inductive HO where
 |lst (xs:IR)
 |tup (xs:IR)
 |dK (kvs:List (Key×V))|dT (kvs:IF)
 |set (S:Int->Bool) (n:Nat)
 |ins (C dx:Addr) (fs:List (Str×V))
 |own (x:Addr)
 |xd (fs:List (Str×V))
 |met (f x:Addr)
 |iW (lo hi:Int)
 |JH (o:Obj) (u:HO)
 |QC (ps:Array Value)
 |ext (φ:Heap->Prop)
abbrev Hp:=AD->Option HO
def upd(H:Hp)(a:AD)(o:HO):Hp:=fun b=>if b=a then some o else H b
def AM{H:Hp}{a:AD}{o:HO}:upd H a o a=some o:=by unfold upd;rw[if_pos rfl]
def AN{H:Hp}{a b:AD}{o:HO}(h:b≠a):upd H a o b=H b:=by unfold upd;rw[if_neg h]
def qG{H:Hp}{a b:AD}{o u:HO}(h:H a=some o)(h':H b=some u)(d:o≠u):a≠b:=by
 intro e;subst e;rw[h]at h';exact d (ao h')
def AR{H:Hp}{a b:AD}{o:HO}(h:H a=some o)(h':H b=none):a≠b:=by
 intro e;subst e;rw[h]at h';cases h'
section
variable(P:F0b)(w:F0c)
def CJ(H:Hp)(h:Heap)(a:AD):HO->Prop
 |.lst xs=>xs.length<=sizeLine/\∃(g:List VL) (n:Nat),Vals xs g/\h.get? a=some { cls:=.type "list",data:=.seq g.toArray n}
 |.tup xs=>xs.length<=sizeLine/\∃g:List VL,Vals xs g/\IsTup h a g.toArray
 |.dK kvs=>kvs.length<=sizeLine/\(a==sysModules)=false/\∃vs,KV kvs vs/\h.DictOf (EY P w) a vs
 |.dT kvs=>kvs.length<=sizeLine/\(a==sysModules)=false/\∃xs:List (List Key×AD×VL),
   Paired (fun(p:List Key×V) (q:List Key×AD×VL)=>p.1=q.1/\H q.2.1=some (.tup (p.1.map kV))/\RelV p.2 q.2.2) kvs xs /\
   ∃o R U,h.get? a=some o/\o.ExactDict/\o.data=.dict R U/\R.toList=xs.map (entryOfKey (tupleKind (EY P w)))/\(xs.map (·.1)).Nodup
 |.set S n=>h.SetOf (intKind P w) a S n
 |.ins C dx fs=>H dx=some (.own a)/\fs.length<=1000/\dx≠a/\h.get? a=some (PySem.W.instObj C dx) /\
   ∃mA,h.Ns1 dx mA/\(∀f,Ld (fs.lookup f) (mA f))/\PySem.Within mA (fs.map (·.1))
 |.own _=>∃o,h.get? a=some o
 |.xd fs=>∃mA,h.Ns1 a mA/\∀f,Ld (fs.lookup f) (mA f)
 |.iW lo hi=>∃t u v,h.get? a=some { cls:=.type "range",data:=.fields #[.int lo t,.int hi u,.int 1 v]}
 |.JH o u=>h.get? a=some o/\CJ H h a u
 |.QC ps=>h.get? a=some { cls:=.none,data:=.fields ps}
 |.met f x=>h.get? a=some (PySem.W.methodObj (.ref f) (.ref x))
 |.ext φ=>φ h/\(∃o,h.get? a=some o)/\∀M I:Heap,φ M->(∀o,M.get? a=some o->I.get? a=some o)->φ I
def Dd(H:Hp)(h:Heap):Prop:=∀a o,H a=some o->CJ P w H h a o
end
section
variable{P:F0b}{w:F0c}{H H':Hp}{h h':Heap}{a:AD}{o:HO}
def CJ.lt(x:CJ P w H h a o):a<h.objs.size:=by
 cases o with
 |lst xs=>obtain⟨_,_,_,_,e⟩:=x;exact aD e
 |tup xs=>obtain⟨_,_,_,p⟩:=x;exact p.lt
 |dK kvs=>obtain⟨_,_,_,_,o,_,_,e,_⟩:=x;exact aD e
 |dT kvs=>obtain⟨_,_,_,_,o,_,_,e,_⟩:=x;exact aD e
 |set S n=>obtain⟨o,_,_,_,e,_⟩:=x;exact aD e
 |ins C dx fs=>obtain⟨_,_,_,e,_⟩:=x;exact aD e
 |own y=>obtain⟨_,e⟩:=x;exact aD e
 |xd fs=>obtain⟨_,⟨_,_,_,e,_⟩,_⟩:=x;exact aD e
 |iW lo hi=>obtain⟨_,_,_,e⟩:=x;exact aD e
 |JH ob u=>obtain⟨e,_⟩:=x;exact aD e
 |QC ps=>exact aD (show h.get? a=some _ from x)
 |met f y=>exact aD (show h.get? a=some _ from x)
 |ext φ=>obtain⟨_,⟨_,e⟩,_⟩:=x;exact aD e
theorem Paired.fU{α β:Type}{F G:α->β->Prop}:∀ {I:List α} {g:List β},Paired F I g->(∀a b,F a b->G a b)->Paired G I g
 |_,_,.nil,_=>.nil
 |_,_,.cons r t,f=>.cons (f _ _ r) (Paired.fU t f)
def CJ.JL(x:CJ P w H h a o)(k:∀b u,(b=a\/H b=some (.own a))->h.get? b=some u->h'.get? b=some u) (Y:∀b,H b=some (.own a)->H' b=some (.own a))(U:∀b xs,H b=some (.tup xs)->H' b=some (.tup xs)):CJ P w H' h' a o:=by
 induction o with
 |lst xs=>obtain⟨z,M,n,r,e⟩:=x;exact⟨z,M,n,r,k _ _ (.inl rfl) e⟩
 |tup xs=>obtain⟨z,M,r,ob,e,c⟩:=x;exact⟨z,M,r,ob,k _ _ (.inl rfl) e,c⟩
 |dK kvs=>obtain⟨z,y,vs,r,ob,g,I,e,c⟩:=x;exact⟨z,y,vs,r,ob,g,I,k _ _ (.inl rfl) e,c⟩
 |dT kvs=>
  obtain⟨z,y,xs,r,ob,g,I,e,c⟩:=x;exact⟨z,y,xs,Paired.fU r fun p q z=>⟨z.1,U _ _ z.2.1,z.2.2⟩,ob,g,I,k _ _ (.inl rfl) e,c⟩
 |set S n=>obtain⟨ob,g,I,t,e,c⟩:=x;exact⟨ob,g,I,t,k _ _ (.inl rfl) e,c⟩
 |ins C dx fs=>
  obtain⟨d,z,ne,e,mA,⟨od,g,I,Z,c⟩,r⟩:=x;exact⟨Y _ d,z,ne,k _ _ (.inl rfl) e,mA,⟨od,g,I,k _ _ (.inr d) Z,c⟩,r⟩
 |own y=>obtain⟨ob,e⟩:=x;exact⟨ob,k _ _ (.inl rfl) e⟩
 |xd fs=>obtain⟨mA,⟨od,g,I,e,c⟩,r⟩:=x;exact⟨mA,⟨od,g,I,k _ _ (.inl rfl) e,c⟩,r⟩
 |iW lo hi=>obtain⟨t,u,v,e⟩:=x;exact⟨t,u,v,k _ _ (.inl rfl) e⟩
 |JH ob u R=>obtain⟨e,q⟩:=x;exact⟨k _ _ (.inl rfl) e,R q⟩
 |QC ps=>
  have e:h.get? a=some { cls:=.none,data:=.fields ps}:=x;show h'.get? a=some { cls:=.none,data:=.fields ps};exact k a _ (.inl rfl) e
 |met f y=>
  have e:h.get? a=some (PySem.W.methodObj (.ref f) (.ref y)):=x;show h'.get? a=some (PySem.W.methodObj (.ref f) (.ref y));exact k a _ (.inl rfl) e
 |ext φ=>obtain⟨p,⟨o,e⟩,st⟩:=x;exact⟨st _ _ p fun o q=>k _ _ (.inl rfl) q,⟨o,k _ _ (.inl rfl) e⟩,st⟩
def Dd.lt(x:Dd P w H h)(e:H a=some o):a<h.objs.size:=(x a o e).lt
def Dd.fresh(x:Dd P w H h)(e:h.objs.size<=a):H a=none:=by
 cases q:H a with
 |none=>rfl
 |some u=>exact absurd (aK (x.lt q) e) (Nat.lt_irrefl _)
def Dd.kept(x:Dd P w H h)(k:∀b u,h.get? b=some u->h'.get? b=some u):Dd P w H h':=fun a o e=>
 (x a o e).JL (fun b u _ q=>k b u q) (fun _ q=>q) fun _ _ q=>q
def Dd.laid(x:Dd P w H h)(k:∀b u,h.get? b=some u->h'.get? b=some u)(g:h.objs.size<=a)(new:CJ P w (upd H a o) h' a o):Dd P w (upd H a o) h':=fun b u e=>by
 have hn:=x.fresh g;by_cases hb:b=a
 .subst hb;rw[AM]at e;cases e;exact new
 .rw[AN hb]at e;exact(x b u e).JL (fun c v _ q=>k c v q) (fun c q=>by rw[AN (AR q hn)];exact q) fun c xs q=>by rw[AN (AR q hn)];exact q
end
def Rd(H:Hp)(a:AD)(u:HO):Prop:=H a=some u\/∃o,H a=some (.JH o u)
def Rd.ok{P:F0b}{w:F0c}{H:Hp}{h:Heap}{a:AD}{u:HO}(r:Rd H a u)(x:Dd P w H h):CJ P w H h a u:=by
 rcases r with r|⟨o,r⟩
 .exact x a u r
 .obtain⟨_,q⟩:=x a _ r;exact q
def b8:Option HO->Prop
 |some (.lst _)=>True
 |some (.dK _)=>True
 |some (.dT _)=>True
 |some (.set _ _)=>True
 |some (.ins _ _ _)=>True
 |some (.ext _)=>True
 |_=>False
section
variable{P:F0b}{w:F0c}{H:Hp}{h h':Heap}{x e:AD}{o':HO}
def Dd.write(ok:Dd P w H h)(M:b8 (H x))(Z:e=x\/H e=some (.own x))(k:∀b u,b≠e->h.get? b=some u->h'.get? b=some u)(U:∃u,h'.get? e=some u) (new:CJ P w (upd H x o') h' x o'):Dd P w (upd H x o') h':=fun b u q=>by
 have I:∀c y,H c=some (.own y)->c≠x:=fun c y r z=>by subst z;rw[r]at M;exact M
 have ZJ:∀c xs,H c=some (.tup xs)->c≠x:=fun c xs r z=>by subst z;rw[r]at M;exact M
 by_cases hb:b=x
 .subst hb;rw[AM]at q;cases q;exact new
 .rw[AN hb]at q;by_cases g:b=e
  .have Y:H b=some (.own x):=by
    rcases Z with z|z
    .exact absurd (g.trans z) hb
    .rw[g];exact z
   rw[q]at Y;cases Y;obtain⟨v,hv⟩:=U;exact⟨v,by rw[g];exact hv⟩
  .refine(ok b u q).JL (fun c v R r=>k c v ?_ r) (fun c r=>by rw[AN (I c b r)];exact r) fun c xs r=>by rw[AN (ZJ c xs r)];exact r
   rcases R with rfl|R
   .exact g
   .rintro rfl;rcases Z with z|z
    .exact I c b R z
    .rw[R]at z;cases z;exact hb rfl
end
structure Un(fs ex:List Addr)(H H':Hp)(h h':Heap):Prop where
 keep:∀b o,h.get? b=some o->H b=none->b ∉ fs->b ∉ ex->h'.get? b=some o
 slot:∀b o,h.get? b=some o->H b=none->b∈fs->b ∉ ex->∃sl,h'.get? b=some {o with slots:=sl}
 free:∀b o,h.get? b=some o->H b=none->b ∉ ex->H' b=none
 there:∀b o,h.get? b=some o->b ∉ ex->∃o',h'.get? b=some o'
 FW:∀b xs,H b=some (.tup xs)->H' b=some (.tup xs)
 GG:∀b o u,H b=some (.JH o u)->H' b=some (.JH o u)
 HL:∀b ps,H b=some (.QC ps)->∃more,H' b=some (.QC (ps++more))
 HG:∀b xs o,H b=some (.tup xs)->h.get? b=some o->b ∉ ex->h'.get? b=some o
section
variable{fs ex:uF}{H H1:Hp}{h h1 h':Heap}{a x e:AD}{o:HO}
def Un.any(u:Un fs ex H H1 h h1){b:AD}{ob:Obj}(q:h.get? b=some ob)(n:H b=none)(g:b ∉ ex):∃sl,h1.get? b=some {ob with slots:=sl}:=by
 by_cases hb:b∈fs
 .exact u.slot b ob q n hb g
 .exact⟨ob.slots,u.keep b ob q n hb g⟩
def Un.kept(k:∀b u,h.get? b=some u->h'.get? b=some u):Un fs ex H H h h' :=
 ⟨fun b ob q _ _ _=>k b ob q,fun b ob q _ _ _=>⟨ob.slots,k b ob q⟩,fun _ _ _ n _=>n,fun b ob q _=>⟨ob,k b ob q⟩,fun _ _ q=>q,fun _ _ _ q=>q,fun _ ps q=>⟨#[],by rw[q];simp⟩,fun _ _ ob _ e _=>k _ ob e⟩
def Un.refl:Un fs ex H H h h:=Un.kept fun _ _ q=>q
def Un.laid(k:∀b u,h.get? b=some u->h'.get? b=some u)(hp:h.objs.size<=a)(hn:H a=none):Un fs ex H (upd H a o) h h' where
 keep:=fun b u q _ _ _=>k b u q
 slot:=fun b u q _ _ _=>⟨u.slots,k b u q⟩
 free:=fun b u q n _=>by rw[AN (aP (aK (aD q) hp))];exact n
 there:=fun b u q _=>⟨u,k b u q⟩
 FW:=fun b xs q=>by rw[AN (AR q hn)];exact q
 GG:=fun b u xs q=>by rw[AN (AR q hn)];exact q
 HL:=fun b ps q=>⟨#[],by rw[AN (AR q hn),q];simp⟩
 HG:=fun b _ u _ e _=>k b u e
def Un.write(I:b8 (H x))(U:e=x\/H e=some (.own x))(k:∀b u,b≠e->h.get? b=some u->h'.get? b=some u)(M:∃u,h'.get? e=some u):Un fs ex H (upd H x o) h h':=by
 have R:∀b,H b=none->b≠x:=fun b n z=>by subst z;rw[n]at I;exact I
 have hb:∀b,H b=none->b≠e:=fun b n z=>by
  subst z;rcases U with r|r
  .exact R b n r
  .rw[n]at r;cases r
 have hm:∀b u,H b=some u->¬b8 (some u)->b≠x:=fun b u q nm z=>by subst z;rw[q]at I;exact nm I
 refine⟨fun b u q n _ _=>k b u (hb b n) q,fun b u q n _ _=>⟨u.slots,k b u (hb b n) q⟩,fun b u q n _=>by rw[AN (R b n)];exact n,fun b u q _=>?_,
  fun b xs q=>by rw[AN (hm b _ q fun z=>z)];exact q,fun b u xs q=>by rw[AN (hm b _ q fun z=>z)];exact q,fun b ps q=>⟨#[],by rw[AN (hm b _ q fun z=>z),q];simp⟩,fun b xs u q e _=>k b u (fun z=>by
   rcases U with r|r
   .exact hm b _ q (fun z=>z) (z.trans r)
   .rw[<-z,q]at r;cases r) e⟩
 by_cases g:b=e
 .subst g;exact M
 .exact⟨u,k b u g q⟩
end
def Pr(h:Heap)(H:Hp):uF:=(List.range h.objs.size).filter fun a=>(H a).isSome
def NO(h:Heap)(H:Hp):Heap:=PySem.W.hideAll h (Pr h H)
def Zx(h:Heap)(H:Hp):(NO h H).objs.size=h.objs.size:=PySem.W.hideAll_size _ _
def gj{h:Heap}{H:Hp}{b:AD}{o:Obj}(e:h.get? b=some o)(n:H b=none):(NO h H).get? b=some o :=
 PySem.W.hideAll_get _ e fun hm=>by
  have q:(H b).isSome=true:=(List.mem_filter.mp hm).2;rw[n]at q;simp at q
def kI{h:Heap}{H:Hp}{b:AD}{o:Obj}(e:(NO h H).get? b=some o):h.get? b=some o/\H b=none:=by
 have g:h.get? b=some o:=PySem.W.of_hideAll (Pr h H) e;refine⟨g,?_⟩;cases q:H b with
 |none=>rfl
 |some x=>
  have hm:b∈Pr h H:=List.mem_filter.mpr ⟨bU.mpr (aD g),by simp[q]⟩;have z:(NO h H).get? b=none:=PySem.W.hideAll_none (Pr h H) hm;rw[z]at e;cases e
structure Mod(K:Fg)(mg:Str->Option Value)(base:Heap):Prop where
 P4:K.In base
 glob:base.Ns mainGlobals mg
 blt:∃mb,base.Ns builtinsNs mb/\∀x:Str,x ≠ "__name__" -> mb x=bootBuiltins x
 nolimit:base.NoLimit
def sk(d:Nat):List uD:=[[],[.ref (d+1)],[.int 1,.int 1],[.ref (d+3)],[.ref (d+2),.ref (d+4)],[],[.int 1,.int 2],[.ref (d+7)],[.ref (d+6),.ref (d+8)],[.int 0,.int 1],[.int 1,.int 1],[.ref (d+10),.ref (d+11)],[.ref (d+9),.ref (d+12)],[],[.int 1,.int 1],[.ref (d+15)],[.ref (d+14),.ref (d+16)],[.int 1,.int 2],[.int 1,.int 2],[.ref (d+18),.ref (d+19)],[.ref (d+17),.ref (d+20)],[],[.int 1,.int 3],[.ref (d+23)],[.int 0,.int 1],[.int 2,.int 3],[.ref (d+25),.ref (d+26)],[.ref (d+22),.ref (d+24),.ref (d+27)],[.int 1,.int 4],[.int 0,.int 1],[.int 3,.int 4],[.ref (d+29),.ref (d+30),.ref (d+31)],[.ref (d+28),.ref (d+32)],[],[.int 1,.int 2],[.ref (d+35)],[.int 0,.int 1],[.int 1,.int 2],[.ref (d+37),.ref (d+38)],[.int 0,.int 1],[.int 0,.int 1],[.int 1,.int 1],[.ref (d+40),.ref (d+41),.ref (d+42)],[.ref (d+34),.ref (d+36),.ref (d+39),.ref (d+43)],[.int 1,.int 6],[.int 1,.int 3],[.int 1,.int 3],[.int 1,.int 6],[.ref (d+45),.ref (d+46),.ref (d+47),.ref (d+48)],[.ref (d+44),.ref (d+49)]]
def sr(d:Nat):List (Key×V):=[(.inr "plain",.ref (d+5)),(.inr "middle",.ref (d+13)),(.inr "heel",.ref (d+21)),(.inr "third",.ref (d+33)),(.inr "fourth",.ref (d+50))]
def KTb(mg:tm)(H:Hp):Prop:=∀d:AD,mg "NAMED_TABLES" = some (.ref d)->(∃o,H d=some (.JH o (.dK (sr d))))/\∀j xs,(sk d)[j]? = some xs->H (d+1+j)=some (.tup xs)
def KTb.un{mg:tm}{fs ex:uF}{H H':Hp}{h h':Heap}(k:KTb mg H)(u:Un fs ex H H' h h'):KTb mg H':=fun d e=>by
 obtain⟨⟨o,I⟩,g⟩:=k d e;exact⟨⟨o,u.GG _ _ _ I⟩,fun j xs q=>u.FW _ _ (g j xs q)⟩
structure Cx where
 prog:Program
 w:World
 K:Fg
 mg:Str->Option Value
 base:Heap
 A:Around
 N:List Str
 s₀:Shared
 H₀:Hp
 env:Env
 outer:List Env
 stack:List Env
 ex:List Addr
 fn:Str->Bool
 calm:Bool
 pn:List (Addr×Obj)
 xe:Value->Shared->Prop
def GR(l:uH):uF:=l.filterMap (·.frame)
abbrev Cx.fs(X:Cx):List AD:=GR X.outer
def lQ(sc:Scope)(x:Str):Prop:=sc.names.lookup x=some .local\/sc.names.lookup x=some .cell\/sc.names.lookup x=some .free
def Loc(sc:Scope)(x:Str):Prop:=sc.names.lookup x=some .local\/sc.names.lookup x=some .cell
def Look(env:Env)(h:Heap)(m:tm)(x:Str)(u:VL):Prop :=
 (env.kindOf x=some .local/\m x=some u)\/((env.kindOf x=some .cell\/env.kindOf x=some .free)/\∃c,env.cells.lookup x=some c/\h.IsCell c (some u))
structure Cx.Ok(X:Cx):Prop where
 mod:Mod X.K X.mg X.base
 kind:X.env.scope.kind=.function
 glob:X.env.globals=mainGlobals
 blt:X.env.builtins=builtinsNs
 above:X.s₀.heap.objs.size<=X.env.locals
 inj:∀x y c,X.env.cells.lookup x=some c->X.env.cells.lookup y=some c->x=y
 has:∀x,(X.env.kindOf x=some .cell\/X.env.kindOf x=some .free)->∃c,X.env.cells.lookup x=some c
 Vi:∀x c,X.fn x=true->X.env.cells.lookup x=some c->X.s₀.heap.objs.size<=c
 hd:X.calm=true->X.A.handled=none
 frames:X.A.frames=some X.stack
 Q5:X.stack=X.outer\/(X.stack=X.env::X.outer/\X.env.frame=some X.env.locals)
 kq:∀b∈X.ex,b≠X.env.locals/\∀x c,X.env.cells.lookup x=some c->c≠b
 bs:∀b o,X.base.get? b=some o->X.s₀.heap.get? b=some o/\X.H₀ b=none
 RU:X.base.objs.size<=X.s₀.heap.objs.size
 TC:∀b o,X.base.get? b=some o->b ∉ X.ex
 Sd:∀b∈X.ex,b ∉ X.fs
 Ig:X.s₀.heap.FunFrames X.base X.outer
 RM:∀b∈X.fs,X.H₀ b=none
 kt:KTb X.mg X.H₀
structure Inv(X:Cx)(pins:List (Addr×Obj))(σ:List (Option V))(H:Hp)(s:Shared):Prop where
 ok:X.Ok
 os:s.os=X.s₀.os
 bare:AllBare s.gens
 base:Un X.fs X.ex X.H₀ H X.s₀.heap s.heap
 loc:∃m,s.heap.Ns X.env.locals m/\∀(i:Nat) (x:Str) (v:V),X.N[i]? = some x->σ[i]? = some (some v)->lQ X.env.scope x->∃u,RelV v u/\Look X.env s.heap m x u
 cell:∀x c,X.env.cells.lookup x=some c->∃v,s.heap.IsCell c v
 free:H X.env.locals=none
 GJ:∀x c,X.env.cells.lookup x=some c->H c=none
 pin:∀p∈X.pn++pins,s.heap.get? p.1=some p.2/\H p.1=none/\p.1≠X.env.locals/\p.1 ∉ X.fs/\∀v,p.2.data≠.cell v
 Am:Dd X.prog X.w H s.heap
 len:σ.length=X.N.length
def Inv.kt{X:Cx}{pins:Db}{σ:List (Option V)}{H:Hp}{s:SD}(I:Cl):KTb X.mg H:=I.ok.kt.un I.base
section
variable{X:Cx}{pins:Db}{σ:List (Option V)}{H H':Hp}{s:SD}{h':Heap}
def Cx.Ok.rz(ok:X.Ok){b:AD}{o:Obj}(e:X.base.get? b=some o):b ∉ X.fs:=fun hb=>by
 have:=(ok.Ig.mem hb).1;rw[e]at this;cases this
def Inv.bs(I:Cl):∀b o,X.base.get? b=some o->s.heap.get? b=some o/\H b=none:=fun b o e=>
 ⟨I.base.keep b o (I.ok.bs b o e).1 (I.ok.bs b o e).2 (I.ok.rz e) (I.ok.TC b o e),I.base.free b o (I.ok.bs b o e).1 (I.ok.bs b o e).2 (I.ok.TC b o e)⟩
def Inv.bk(I:Cl):∀b o,X.base.get? b=some o->s.heap.get? b=some o:=fun b o e=>(I.bs b o e).1
def Inv.mod(I:Cl):Mod X.K X.mg X.base:=I.ok.mod
def Inv.Gf(I:Cl):X.K.In s.heap:=I.ok.mod.P4.keeps I.bk
def Inv.lt(I:Cl):X.env.locals<s.heap.objs.size:=let⟨_,hn,_⟩:=I.loc;hn.lt
def Inv.sz(I:Cl):X.s₀.heap.objs.size<=s.heap.objs.size:=aS I.ok.above (ba I.lt)
def Inv.rE(I:Cl){a:AD}(h:s.heap.objs.size<=a):a ∉ X.fs:=fun hb=>by
 obtain⟨_,o,g,_⟩:=I.ok.Ig.mem hb;exact absurd (aK (aD g) (aS I.sz h)) (Nat.lt_irrefl _)
def Inv.Rl(I:Cl):∀x c,X.env.cells.lookup x=some c->c≠X.env.locals:=fun x c e z=>by
 obtain⟨v,o,R,hd⟩:=I.cell x c e;obtain⟨m,⟨o',U,Y,g,M,_⟩,_⟩:=I.loc;rw[z,g]at R;cases R;rw[M]at hd;cases hd
def Inv.Ig(I:Cl):s.heap.FunFrames X.base X.outer:=by
 have all:∀(l:List Env),(∀b∈GR l,b∈X.fs)->X.s₀.heap.FunFrames X.base l->s.heap.FunFrames X.base l:=by
  intro l
  induction l with
  |nil=>intro _ _;trivial
  |cons env r R=>
   intro M Z;obtain⟨hk,⟨L,o,hf,hn,Y,hd⟩,U⟩:=Z;have g:L∈X.fs:=M L (by unfold GR;rw[List.filterMap_cons,hf];exact aR);obtain⟨sl,e⟩:=I.base.slot L o Y (I.ok.RM L g) g fun z=>I.ok.Sd L z g;exact⟨hk,⟨L,_,hf,hn,e,hd⟩,R (fun b hb=>M b (by unfold GR;rw[List.filterMap_cons,hf];exact aN _ hb)) U⟩
 exact all X.outer (fun _ hb=>hb) I.ok.Ig
def Inv.stack(I:Cl):s.heap.FunFrames X.base X.stack:=by
 rcases I.ok.Q5 with e|⟨e,hf⟩
 .rw[e];exact I.Ig
 .rw[e];obtain⟨m,hn,_⟩:=I.loc;refine .cons (by rw[I.ok.kind];decide) hf hn ?_ I.Ig;exact Heap.get?_none_of_le (aS I.ok.RU I.ok.above)
def Inv.Ow(I:Cl):∀b∈GR X.stack,b∈X.env.locals::X.fs:=fun b hb=>by
 rcases I.ok.Q5 with e|⟨e,hf⟩
 .rw[e]at hb;exact aN _ hb
 .rw[e]at hb;unfold GR at hb;rw[List.filterMap_cons,hf]at hb;exact hb
def Inv.Sv(I:Cl):∀b∈GR X.stack,H b=none:=fun b hb=>by
 rcases aU.mp (I.Ow b hb) with e|hb
 .rw[e];exact I.free
 .obtain⟨_,o,g,_⟩:=I.ok.Ig.mem hb;exact I.base.free b o g (I.ok.RM b hb) fun z=>I.ok.Sd b z hb
def Inv.step{g':Array GenState}{t':Nat}{d':Drawn}{ch:uF}(I:Cl) (U:∀b∈ch,(b∈X.ex\/X.s₀.heap.objs.size<=b)/\b≠X.env.locals/\(∀x c,X.env.cells.lookup x=some c->c≠b)/\∀p∈X.pn++pins,p.1≠b) (keep:∀b o,b≠X.env.locals->b ∉ X.fs->b ∉ ch->s.heap.get? b=some o->H b=none->h'.get? b=some o) (slot:∀b o,b≠X.env.locals->b∈X.fs->b ∉ ch->s.heap.get? b=some o->H b=none->∃sl,h'.get? b=some {o with slots:=sl})(free:∀b o,b ∉ ch->s.heap.get? b=some o->H b=none->H' b=none) (there:∀b o,b ∉ ch->s.heap.get? b=some o->∃o',h'.get? b=some o') (FW:∀b xs,H b=some (.tup xs)->H' b=some (.tup xs))(GG:∀b o u,H b=some (.JH o u)->H' b=some (.JH o u))(HL:∀b ps,H b=some (.QC ps)->∃more,H' b=some (.QC (ps++more))) (HG:∀b xs o,b ∉ ch->H b=some (.tup xs)->s.heap.get? b=some o->h'.get? b=some o) (ns:∀m,s.heap.Ns X.env.locals m->h'.Ns X.env.locals m)(Am:Dd X.prog X.w H' h')(hg:AllBare g'):Inv X pins σ H' {s with heap:=h',gens:=g',drawn:=d',toks:=t'}:=by
 have neL:∀b o,X.s₀.heap.get? b=some o->b≠X.env.locals:=fun b o e=>aP (aK (aD e) I.ok.above);have M:∀b o,X.s₀.heap.get? b=some o->b ∉ X.ex->b ∉ ch:=fun b o e g hb=>by
  rcases(U b hb).1 with z|z
  .exact g z
  .exact absurd (aK (aD e) z) (Nat.lt_irrefl _)
 have cellK:∀x c,X.env.cells.lookup x=some c->∀v,s.heap.IsCell c v->h'.IsCell c v:=fun x c e v ⟨o,Z,hd⟩=>by
  have R:c ∉ ch:=fun z=>(U c z).2.2.1 x c e rfl;by_cases hc:c∈X.fs
  .obtain⟨sl,q⟩:=slot c o (I.Rl x c e) hc R Z (I.GJ x c e);exact⟨_,q,hd⟩
  .exact⟨o,keep c o (I.Rl x c e) hc R Z (I.GJ x c e),hd⟩
 refine⟨I.ok,I.os,hg,⟨fun b o e n hb g=>?_,fun b o e n hb g=>?_,fun b o e n g=>?_,fun b o e g=>?_,fun b xs e=>FW b xs (I.base.FW b xs e),fun b o xs e=>GG b o xs (I.base.GG b o xs e),fun b ps e=>?_,fun b xs o q e g=>HG b xs o (M b o e g) (I.base.FW b xs q) (I.base.HG b xs o q e g)⟩,?_,fun x c e=>?_,?_,fun x c e=>?_,fun p hp=>?_,Am,I.len⟩
 .exact keep b o (neL b o e) hb (M b o e g) (I.base.keep b o e n hb g) (I.base.free b o e n g)
 .obtain⟨sl,Y⟩:=I.base.slot b o e n hb g;obtain⟨sl',e2⟩:=slot b _ (neL b o e) hb (M b o e g) Y (I.base.free b o e n g);exact⟨sl',e2⟩
 .obtain⟨o',Y⟩:=I.base.there b o e g;exact free b o' (M b o e g) Y (I.base.free b o e n g)
 .obtain⟨o',Y⟩:=I.base.there b o e g;exact there b o' (M b o e g) Y
 .obtain⟨m1,Y⟩:=I.base.HL b ps e;obtain⟨m2,e2⟩:=HL b _ Y;exact⟨m1++m2,by rw[e2,Array.append_assoc]⟩
 .obtain⟨m,hn,hl⟩:=I.loc;refine⟨m,ns m hn,fun i x v Y e2 e3=>?_⟩;obtain⟨u,r,l⟩:=hl i x v Y e2 e3;refine⟨u,r,?_⟩;rcases l with l|⟨k,c,e,z⟩
  .exact .inl l
  .exact .inr ⟨k,c,e,cellK x c e _ z⟩
 .obtain⟨v,z⟩:=I.cell x c e;exact⟨v,cellK x c e v z⟩
 .obtain⟨m,⟨o,_,_,Z,_⟩,_⟩:=I.loc;exact free _ o (fun z=>(U _ z).2.1 rfl) Z I.free
 .obtain⟨v,o,Z,hd⟩:=I.cell x c e;exact free c o (fun z=>(U c z).2.2.1 x c e rfl) Z (I.GJ x c e)
 .obtain⟨e,n,ne,nf,d⟩:=I.pin p hp;have R:p.1 ∉ ch:=fun z=>(U p.1 z).2.2.2 p hp rfl;exact⟨keep p.1 p.2 ne nf R e n,free p.1 p.2 R e n,ne,nf,d⟩
def Inv.un{t':Nat}(I:Cl)(u:Un X.fs [] H H' s.heap h')(Am:Dd X.prog X.w H' h'):Inv X pins σ H' {s with heap:=h',toks:=t'}:=by
 obtain⟨m,⟨o,es,ep,U,r⟩,_⟩:=id I.loc;obtain⟨sl,Z⟩:=u.any U I.free Do;exact I.step (g':=s.gens) (d':=s.drawn) (ch:=[]) (fun _ z=>nomatch z) (fun b o _ hb _ e n=>u.keep b o e n hb Do) (fun b o _ hb _ e n=>u.slot b o e n hb Do) (fun b o _ e n=>u.free b o e n Do) (fun b o _ e=>u.there b o e Do) u.FW u.GG u.HL (fun b xs o _ q e=>u.HG b xs o q e Do) (fun m' hm=>by
  obtain⟨o',M,R,g,Y⟩:=hm;rw[U]at g;cases g;exact⟨_,M,R,Z,Y⟩) Am I.bare
def Inv.call{g':Array GenState}{t':Nat}{d':Drawn}{ch:uF}(I:Cl)(u:Un (GR X.stack) ch H H' s.heap h')(Am:Dd X.prog X.w H' h')(hg:AllBare g') (R:∀b∈ch,(b∈X.ex\/X.s₀.heap.objs.size<=b)/\b≠X.env.locals/\(∀x c,X.env.cells.lookup x=some c->c≠b)/\∀p∈X.pn++pins,p.1≠b):Inv X pins σ H' {s with heap:=h',gens:=g',drawn:=d',toks:=t'}:=by
 obtain⟨m,⟨o,es,ep,ho,r⟩,_⟩:=id I.loc;obtain⟨sl,U⟩:=u.any ho I.free fun z=>(R _ z).2.1 rfl;exact I.step (ch:=ch) R (fun b o U hb g e n=>u.keep b o e n (fun z=>(aU.mp (I.Ow b z)).elim U hb) g) (fun b o _ _ g e n=>u.any e n g) (fun b o g e n=>u.free b o e n g) (fun b o g e=>u.there b o e g) u.FW u.GG u.HL (fun b xs o g q e=>u.HG b xs o q e g) (fun m' hm=>by
  obtain⟨o',Y,Z,M,r'⟩:=hm;rw[ho]at M;cases M;exact⟨_,Y,Z,U,r'⟩) Am hg
def Inv.turned{t':Nat}{it:AD}(I:Cl)(k:∀b o,b≠it->s.heap.get? b=some o->h'.get? b=some o)(hn:H it=none)(R:it≠X.env.locals) (h1:it∈X.ex\/X.s₀.heap.objs.size<=it)(Z:∀x c,X.env.cells.lookup x=some c->c≠it)(Y:∀p∈X.pn++pins,p.1≠it):Inv X pins σ H {s with heap:=h',toks:=t'}:=by
 have M:∀b u,H b=some u->b≠it:=fun b u e z=>by rw[z,hn]at e;cases e
 refine I.step (g':=s.gens) (d':=s.drawn) (ch:=[it]) (fun b hb=>?_) (fun b o _ _ g e _=>k b o (fun z=>g (by simp[z])) e) (fun b o _ _ g e _=>⟨o.slots,k b o (fun z=>g (by simp[z])) e⟩) (fun _ _ _ _ n=>n)
  (fun b o g e=>⟨o,k b o (fun z=>g (by simp[z])) e⟩) (fun _ _ e=>e) (fun _ _ _ e=>e) (fun b ps e=>⟨#[],by rw[e];simp⟩) (fun b xs o g _ e=>k b o (fun z=>g (by simp[z])) e) (fun m hm=>?_) (fun b u e=>?_) I.bare
 .have e:b=it:=by simpa using hb
  subst e;exact⟨h1,R,Z,Y⟩
 .obtain⟨o,es,ep,U,r⟩:=hm;exact⟨o,es,ep,k _ o (Ne.symm R) U,r⟩
 .refine(I.Am b u e).JL (fun c v g q=>k c v ?_ q) (fun _ q=>q) fun _ _ q=>q;rcases g with z|z
  .rw[z];exact M b u e
  .exact M c _ z
def Inv.tok(I:Cl)(t:Nat):Inv X pins σ H {s with toks:=t}:=I.un (h':=s.heap) (t':=t) Un.refl I.Am
def Inv.kept{t':Nat}(I:Cl)(k:∀b u,s.heap.get? b=some u->h'.get? b=some u):Inv X pins σ H {s with heap:=h',toks:=t'}:=I.un (Un.kept k) (I.Am.kept k)
def Inv.laid{a:AD}{o:HO}{t':Nat}(I:Cl)(k:∀b u,s.heap.get? b=some u->h'.get? b=some u)(g:s.heap.objs.size<=a)(new:CJ X.prog X.w (upd H a o) h' a o):Inv X pins σ (upd H a o) {s with heap:=h',toks:=t'}:=I.un (Un.laid k g (I.Am.fresh g)) (I.Am.laid k g new)
def Inv.write{x e:AD}{o:HO}{t':Nat}(I:Cl)(M:b8 (H x))(R:e=x\/H e=some (.own x))(k:∀b u,b≠e->s.heap.get? b=some u->h'.get? b=some u)(g:∃u,h'.get? e=some u) (new:CJ X.prog X.w (upd H x o) h' x o):Inv X pins σ (upd H x o) {s with heap:=h',toks:=t'}:=I.un (Un.write M R k g) (I.Am.write M R k g new)
def Inv.YA{g:Db}(I:Cl)(h:∀p∈g,s.heap.get? p.1=some p.2/\H p.1=none/\p.1≠X.env.locals/\p.1 ∉ X.fs/\∀v,p.2.data≠.cell v):Inv X g σ H s :=
 ⟨I.ok,I.os,I.bare,I.base,I.loc,I.cell,I.free,I.GJ,fun p M=>(aQ.mp M).elim (fun z=>I.pin p (bO _ z)) (h p),I.Am,I.len⟩
def QZ{N:t7}(g:N.Nodup){i j:Nat}{x:Str}(a:N[i]? = some x)(b:N[j]? = some x):i=j:=by
 obtain⟨U,M⟩:=aB.mp a;obtain⟨R,I⟩:=aB.mp b;exact(List.getElem_inj g).mp (M.trans I.symm)
def Ov{M:Model}{A:F0d}{E:tj}{i:Nat}{x:Str}{v:V}{u:VL}{Q:Unit->SD->Prop}(I:Cl)(hN:X.N.Nodup)(hi:X.N[i]? = some x)(R:Loc X.env.scope x)(r:RelV v u) (h:∀s',Inv X pins (σ.set i (some v)) H s'->(∃a,Heap.SameBut a s.heap s'.heap/\(a=X.env.locals\/X.env.cells.lookup x=some a))->Q () s')(hf:X.fn x=true\/X.env.scope.names.lookup x=some .local:=by first|exact .inl rfl|exact .inr rfl|assumption):wpAny M A (storeName X.env x u) Q E s:=by
 obtain⟨m,hn,hl⟩:=id I.loc;have hcls:(X.env.scope.kind==.class||(X.env.scope.kind==.module&&X.env.locals != X.env.globals))=false:=by rw[I.ok.kind];rfl
 have hiσ:i<σ.length:=by rw[I.len];exact(aB.mp hi).1
 have Rl:=I.Rl;have tracked:∀ {a:AD} {h':Heap},(∃o,s.heap.get? a=some o/\H a=none)->Heap.SameBut a s.heap h'->Dd X.prog X.w H h':=fun {a h'} ha g b ob e=>by
  obtain⟨_,_,Z⟩:=ha;refine(I.Am b ob e).JL (fun c w' Y q=>(g.2 c ?_).trans q) (fun _ q=>q) fun _ _ q=>q;rintro rfl;rcases Y with rfl|Y
  .rw[Z]at e;cases e
  .rw[Z]at Y;cases Y
 rcases R with hk|hk
 .refine wpAny_storeName_local hk hn (fun h' hn' g=>?_) hcls;obtain⟨oL,_,_,hoL,_⟩:=id hn;refine h _ ⟨I.ok,I.os,I.bare,⟨fun b o e n hb R=>?_,fun b o e n hb R=>?_,I.base.free,fun b o e R=>?_,I.base.FW,I.base.GG,I.base.HL,fun b xs o q e R=>(g.2 b (aP (aK (aD e) I.ok.above))).trans (I.base.HG b xs o q e R)⟩,⟨_,hn',fun j y v' U e2 e3=>?_⟩,fun y c e=>?_,I.free,I.GJ,fun p hp=>?_,tracked ⟨oL,hoL,I.free⟩ g,by simpa using I.len⟩ ⟨_,g,.inl rfl⟩
  .exact(g.2 b (aP (aK (aD e) I.ok.above))).trans (I.base.keep b o e n hb R)
  .obtain⟨sl,U⟩:=I.base.slot b o e n hb R;exact⟨sl,(g.2 b (aP (aK (aD e) I.ok.above))).trans U⟩
  .obtain⟨o',U⟩:=I.base.there b o e R;exact⟨o',(g.2 b (aP (aK (aD e) I.ok.above))).trans U⟩
  .by_cases hj:j=i
   .subst hj;rw[hi]at U;cases U;rw[List.getElem?_set_self hiσ]at e2;cases e2;exact⟨u,r,.inl ⟨hk,by simp⟩⟩
   .rw[List.getElem?_set_ne (Ne.symm hj)]at e2;obtain⟨u',r',q⟩:=hl j y v' U e2 e3;refine⟨u',r',?_⟩;rcases q with ⟨k,e⟩|⟨k,c,e,z⟩
    .refine .inl ⟨k,?_⟩;have:y≠x:=fun e=>hj (QZ hN U (e ▸ hi));simp[this,e]
    .exact .inr ⟨k,c,e,z.sameBut g (Rl y c e)⟩
  .obtain⟨w',z⟩:=I.cell y c e;exact⟨w',z.sameBut g (Rl y c e)⟩
  .obtain⟨e,n,ne,nf,d⟩:=I.pin p hp;exact⟨(g.2 p.1 ne).trans e,n,ne,nf,d⟩
 .have hfn:X.fn x=true:=by
   rcases hf with z|z
   .exact z
   .rw[z]at hk;cases hk
  obtain⟨c,Y⟩:=I.ok.has x (.inl hk);obtain⟨w',z⟩:=I.cell x c Y;refine wpAny_storeName_cell I.ok.kind hk Y z (fun h' hc' g=>?_);obtain⟨oc,hoc,hocd⟩:=id z;refine h {s with heap:=h'} ⟨I.ok,I.os,I.bare,⟨fun b o e n hb R=>?_,fun b o e n hb R=>?_,I.base.free,fun b o e R=>?_,I.base.FW,I.base.GG,I.base.HL,fun b xs o q e R=>(g.2 b (aP (aK (aD e) (I.ok.Vi x c hfn Y)))).trans (I.base.HG b xs o q e R)⟩,⟨m,hn.sameBut g (Ne.symm (Rl x c Y)),fun j y v' U e2 e3=>?_⟩,fun y c' e=>?_,I.free,I.GJ,fun p hp=>?_,tracked ⟨oc,hoc,I.GJ x c Y⟩ g,by simpa using I.len⟩ ⟨c,g,.inr Y⟩
  .exact(g.2 b (aP (aK (aD e) (I.ok.Vi x c hfn Y)))).trans (I.base.keep b o e n hb R)
  .obtain⟨sl,U⟩:=I.base.slot b o e n hb R;exact⟨sl,(g.2 b (aP (aK (aD e) (I.ok.Vi x c hfn Y)))).trans U⟩
  .obtain⟨o',U⟩:=I.base.there b o e R;exact⟨o',(g.2 b (aP (aK (aD e) (I.ok.Vi x c hfn Y)))).trans U⟩
  .by_cases hj:j=i
   .subst hj;rw[hi]at U;cases U;rw[List.getElem?_set_self hiσ]at e2;cases e2;exact⟨u,r,.inr ⟨.inl hk,c,Y,hc'⟩⟩
   .rw[List.getElem?_set_ne (Ne.symm hj)]at e2;obtain⟨u',r',q⟩:=hl j y v' U e2 e3;refine⟨u',r',?_⟩;rcases q with q|⟨k,c',e,z'⟩
    .exact .inl q
    .refine .inr ⟨k,c',e,z'.sameBut g ?_⟩;rintro rfl;exact hj (QZ hN U (I.ok.inj _ _ _ e Y ▸ hi))
  .by_cases hcc:c'=c
   .subst hcc;exact⟨_,hc'⟩
   .obtain⟨w2,z2⟩:=I.cell y c' e;exact⟨w2,z2.sameBut g hcc⟩
  .obtain⟨e,n,ne,nf,d⟩:=I.pin p hp;refine⟨(g.2 p.1 ?_).trans e,n,ne,nf,d⟩;intro q;rw[q,hoc]at e;have q':oc=p.2:=ao e;exact d w' (by rw[<-q'];exact hocd)
def LY{M:Model}{A:F0d}{E:tj}{i:Nat}{x:Str}{v:V}{u:VL}{Q:Unit->SD->Prop}(I:Cl)(R:X.N.Nodup)(hi:X.N[i]? = some x)(g:Loc X.env.scope x)(r:RelV v u) (h:∀s',Inv X pins (σ.set i (some v)) H s'->Q () s')(hf:X.fn x=true\/X.env.scope.names.lookup x=some .local:=by first|exact .inl rfl|exact .inr rfl|assumption):wpAny M A (storeName X.env x u) Q E s :=
 Ov I R hi g r (fun s' U _=>h s' U) hf
def Inv.iO{s':SD}{ch:uF}(I:Cl)(Y:s'.os=s.os)(u:Un (GR X.stack) ch H H' s.heap s'.heap)(Am:Dd X.prog X.w H' s'.heap)(hg:AllBare s'.gens) (g:∀b∈ch,(b∈X.ex\/X.s₀.heap.objs.size<=b)/\b≠X.env.locals/\(∀x c,X.env.cells.lookup x=some c->c≠b)/\∀p∈X.pn++pins,p.1≠b):Inv X pins σ H' s':=by
 obtain⟨h',R,U,M,o'⟩:=s';have e:o'=s.os:=Y;subst e;exact I.call (g':=R) (t':=M) (d':=U) u Am hg g
end
abbrev XK:=VL->Option AD->Hp->Prop
abbrev St:=List (Option V)
abbrev VK:=V->Hp->Prop
abbrev TE:=St->Hp->VK->Prop
abbrev TT:=St->Hp->(Bool->Hp->Prop)->Prop
abbrev TA:=St->Hp->(List V->Hp->Prop)->Prop
structure Ends where
 nx:St->Hp->Prop
 rt:VK
 bk:St->Hp->Prop:=fun _ _=>False
 ct:St->Hp->Prop:=fun _ _=>False
abbrev TS:=Ends->St->Hp->Prop
def EP(X:Cx)(pins:Db)(σ:St)(Q:VK)(u:VL)(s':SD):Prop:=∃v H',Inv X pins σ H' s'/\RelV v u/\Q v H'
def TP(X:Cx)(pins:Db)(σ:St)(Q:Bool->Hp->Prop)(b:Bool)(s':SD):Prop:=∃H',Inv X pins σ H' s'/\Q b H'
def AP(X:Cx)(pins:Db)(σ:St)(Q:List V->Hp->Prop)(us:tf)(s':SD):Prop:=∃vs H',Inv X pins σ H' s'/\Vals vs us/\Q vs H'
def SP(X:Cx)(pins:Db)(D:Ends)(f:Flow)(s':SD):Prop :=
 match f with
 |.next=>∃g H',Inv X pins g H' s'/\D.nx g H'
 |.brk=>∃g H',Inv X pins g H' s'/\D.bk g H'
 |.cont=>∃g H',Inv X pins g H' s'/\D.ct g H'
 |.ret u=>∃v g H',Inv X pins g H' s'/\RelV v u/\D.rt v H'
def PE(X:Cx)(e:Expr)(t:TE):Prop :=
 ∀(pins:Db) (s:SD) (σ:St) (H:Hp) (Q:VK),Inv X pins σ H s->t σ H Q->wpAny At X.A (eval e X.env) (EP X pins σ Q) X.xe s
def PT(X:Cx)(e:Expr)(t:TT):Prop :=
 ∀(pins:Db) (s:SD) (σ:St) (H:Hp) (Q:Bool->Hp->Prop),Inv X pins σ H s->t σ H Q->wpAny At X.A (isTrue e X.env (eval e X.env)) (TP X pins σ Q) X.xe s
def PW(X:Cx)(e:Expr)(t:TT):Prop :=
 ∀(g:Sem VL) (pins:Db) (s:SD) (σ:St) (H:Hp) (Q:Bool->Hp->Prop),Inv X pins σ H s->t σ H Q->wpAny At X.A (isTrue e X.env g) (TP X pins σ Q) X.xe s
def PW.pt{X:Cx}{e:Expr}{t:TT}(h:PW X e t):PT X e t:=h _
def PA(X:Cx)(es:t8)(t:TA):Prop :=
 ∀(pos:Pos) (pins:Db) (s:SD) (σ:St) (H:Hp) (Q:List V->Hp->Prop),Inv X pins σ H s->t σ H Q->wpAny At X.A (spliced (backTo pos (starEach es X.env))) (AP X pins σ Q) X.xe s
def PS(X:Cx)(st:Stmt)(t:TS):Prop :=
 ∀(pins:Db) (s:SD) (σ:St) (H:Hp) (D:Ends),Inv X pins σ H s->t D σ H->wpAny At X.A (exec st X.env) (SP X pins D) X.xe s
def J9(X:Cx)(st:uG)(t:TS):Prop :=
 ∀(pins:Db) (s:SD) (σ:St) (H:Hp) (D:Ends),Inv X pins σ H s->t D σ H->wpAny At X.A (execs st X.env) (SP X pins D) X.xe s
def BA{α:Type}{t:Sem α}{Q g:α->SD->Prop}{M:Model}{A:F0d}{E:tj}{s:SD}(h:wpAny M A t Q E s)(I:∀a s,Q a s->g a s):wpAny M A t g E s:=aW h I fun _ _ x=>x
section
variable{X:Cx}
def Zg(i:Nat):TE:=fun σ H Q=>∃v,σ[i]? = some (some v)/\Q v H
def tC(v:V):TE:=fun _ H Q=>Q v H
def nK{i:Nat}{x:Str}{pos:Pos}(Z:X.N[i]? = some x)(U:lQ X.env.scope x)(hd:GE=false:=by decide)(M:(x==("__classdict__" : Str))=false:=by decide):PE X (.Name x pos) (Zg i):=by
 intro pins s σ H Q I h;obtain⟨v,e,h⟩:=h;obtain⟨m,hn,Y⟩:=I.loc;obtain⟨u,r,l⟩:=Y i x v Z e U;have fin:EP X pins σ Q u s:=⟨v,H,I,r,h⟩;rcases l with ⟨hk,hm⟩|⟨hk,c,R,g⟩
 .exact wpAny_Name (wpAny_loadName_local I.ok.kind hk hn hm fin) hd
 .rcases hk with hk|hk
  .exact wpAny_Name (wpAny_loadName_cell I.ok.kind hk R g fin) hd
  .exact wpAny_Name (wpAny_loadName_free I.ok.kind hk R g fin M) hd
def AJ{i j pos}:PE X (.Constant (.int i) j pos) (tC (.int i)):=fun _ _ _ H _ I h=>wpAny_Constant_int ⟨.int i,H,I.tok _,⟨_,rfl⟩,h⟩
def Ds{b j pos}:PE X (.Constant (.bool b) j pos) (tC (.bl b)):=fun _ _ _ H _ I h=>Constant_bool ⟨.bl b,H,I,rfl,h⟩
def lz{j pos}:PE X (.Constant .none j pos) (tC .Bj):=fun _ _ _ H _ I h=>Constant_none ⟨.Bj,H,I,rfl,h⟩
def oS{x j pos}:PE X (.Constant (.str x) j pos) (tC (.str x)):=fun _ _ _ H _ I h=>Calls.Constant_str ⟨.str x,H,I.tok _,⟨_,rfl⟩,h⟩
def Gl(X:Cx)(x:Str):Prop:=X.env.kindOf x=some .globalImplicit
def JK{E:tj}{pins:Db}{s:SD}{σ:St}{H:Hp}{x:Str}{u:VL}{pos:Pos}{Q:tj}(I:Cl)(hg:Gl X x)(hm:X.mg x=some u)(h:Q u s) (hd:GE=false:=by decide):wpAny At X.A (eval (.Name x pos) X.env) Q E s :=
 Calls.Name_function_global I.ok.kind hg (Calls.loadGlobal_global (by rw[I.ok.glob];exact I.mod.glob.keeps I.bk) hm h) hd
def HN{E:tj}{pins:Db}{s:SD}{σ:St}{H:Hp}{x:Str}{u:VL}{pos:Pos}{Q:tj}(I:Cl)(hg:Gl X x)(hm:X.mg x=none)(g:bootBuiltins x=some u)(h:Q u s) (hn:x ≠ "__name__":=by decide)(hd:GE=false:=by decide):wpAny At X.A (eval (.Name x pos) X.env) Q E s:=by
 obtain⟨mb,R,M⟩:=I.mod.blt;exact Calls.Name_function_global I.ok.kind hg (Calls.loadGlobal_builtin (by rw[I.ok.glob];exact I.mod.glob.keeps I.bk) hm (by rw[I.ok.blt];exact R.keeps I.bk) ((M x hn).trans g) h) hd
def Dh{x:Str}{v:V}{u:VL}{pos:Pos}(hg:Gl X x)(hm:X.mg x=some u)(r:RelV v u)(hd:GE=false:=by decide):PE X (.Name x pos) (tC v) :=
 fun _ _ _ H _ I h=>JK I hg hm ⟨v,H,I,r,h⟩ hd
def FX{x:Str}{v:V}{u:VL}{pos:Pos}(hg:Gl X x)(hm:X.mg x=none)(g:bootBuiltins x=some u)(r:RelV v u)(hn:x ≠ "__name__":=by decide)(hd:GE=false:=by decide):PE X (.Name x pos) (tC v) :=
 fun _ _ _ H _ I h=>HN I hg hm g ⟨v,H,I,r,h⟩ hn hd
variable{a b:Expr}{ta tb:TE}{pos:Pos}
def PC(X:Cx)(op:CmpOp)(a b:Expr)(t:TE):Prop :=
 ∀(pins:Db) (s:SD) (σ:St) (H:Hp) (Q:VK),Inv X pins σ H s->t σ H Q ->
  wpAny At X.A (eval a X.env) (fun v I=>wpAny At X.A (eval b X.env) (fun u g=>wpAny At X.A (compareOp op v u) (EP X pins σ Q) X.xe g) X.xe I) X.xe s
def tB(t:TE):TT:=fun σ H Q=>t σ H fun x H1=>∃c,x=.bl c/\Q c H1
def mq{op:CmpOp}{t:TE}(h:PC X op a b t)(h1:behindInMarks op b=false:=by first|exact g _ AS AS|rfl):PT X (.Compare a [op] [b] pos) (tB t):=by
 intro pins s σ H Q I U;refine wpAny_isTrue_Compare1 (BA (h pins s σ H _ I U) fun v s1 h1=>BA h1 fun u s2 Y=>BA Y fun c s3 ⟨x,H1,Z,M,R⟩=>?_) h1;obtain⟨d,rfl,q⟩:=R;cases M;exact wpAny_truthy_bool ⟨H1,Z,q⟩
def C6{e : Expr}{t : TE}(h : PE X e t)(he : ∀ whole,isTrue e X.env whole = (do let v <- whole; standAt e.pos; holding [v] (truthy v)):=by intro _; rfl):PT X e (tB t):=by
  intro pins s σ H Q I hw
  refine isTrue_plain (BA (h pins s σ H _ I hw) fun v s1 ⟨x,H1,I1,r1,q1⟩ => ?_) (he _)
  obtain ⟨d,rfl,q⟩:=q1
  cases r1
  exact wpAny_truthy_bool ⟨H1,I1,q⟩
variable{tA tB':TT}{rest:t8}
def sR(t u:TT):TT:=fun σ H Q=>t σ H fun c H1=>if c=true then u σ H1 Q else Q false H1
def tE(t u:TT):TT:=fun σ H Q=>t σ H fun c H1=>if c=true then Q true H1 else u σ H1 Q
def sS(t:TT):TT:=fun σ H Q=>t σ H fun c H1=>Q (!c) H1
def Xq(ha:PT X a tA):PW X (.BoolOp .And [a] pos) tA:=by
 intro g pins s σ H Q I h;refine isTrue_and (BA (ha pins s σ H Q I h) fun c s1 e=>?_);cases c with
 |true=>exact isTrue_and_nil e
 |false=>exact e
def Fb(ha:PT X a tA):PW X (.BoolOp .Or [a] pos) tA:=by
 intro g pins s σ H Q I h;refine isTrue_or (BA (ha pins s σ H Q I h) fun c s1 e=>?_);cases c with
 |false=>exact isTrue_or_nil e
 |true=>exact e
def Z6(ha:PT X a tA)(hb:PW X (.BoolOp .And (b::rest) pos) tB'):PW X (.BoolOp .And (a::b::rest) pos) (sR tA tB'):=by
 intro R pins s σ H Q I h;refine isTrue_and (BA (ha pins s σ H _ I h) fun c s1 ⟨H1,M,g⟩=>?_);cases c with
 |true=>exact hb R pins s1 σ H1 Q M g
 |false=>exact⟨H1,M,g⟩
def Fv(ha:PT X a tA)(hb:PW X (.BoolOp .Or (b::rest) pos) tB'):PW X (.BoolOp .Or (a::b::rest) pos) (tE tA tB'):=by
 intro R pins s σ H Q I h;refine isTrue_or (BA (ha pins s σ H _ I h) fun c s1 ⟨H1,M,g⟩=>?_);cases c with
 |true=>exact⟨H1,M,g⟩
 |false=>exact hb R pins s1 σ H1 Q M g
def C8(ha:PT X a tA):PT X (.UnaryOp .Not a pos) (sS tA):=by
 intro pins s σ H Q I h;exact isTrue_not (ha pins s σ H (fun c H1=>Q (!c) H1) I h)
def pB(ta tb:TE):TE:=fun σ H Q=>ta σ H fun x H1=>∃c,x=.bl c/\if c=true then tb σ H1 Q else Q (.bl false) H1
def pG(ta:TE):TE:=fun σ H Q=>ta σ H fun x H1=>∃c,x=.bl c/\Q (.bl (!c)) H1
def R6{op}{t:TE}(h:PE X a t):PE X (.BoolOp op [a] pos) t:=fun pins s σ H Q I g=>BoolOp_one (h pins s σ H Q I g)
def O1(ha:PE X a ta)(hb:PE X (.BoolOp .And (b::rest) pos) tb):PE X (.BoolOp .And (a::b::rest) pos) (pB ta tb):=by
 intro pins s σ H Q I h;refine BoolOp_and (BA (ha pins s σ H _ I h) fun v s1 ⟨x,H1,M,R,g⟩=>?_);obtain⟨c,rfl,g⟩:=g;cases R;refine wpAny_truthy_bool ?_;cases c with
 |true=>exact hb pins s1 σ H1 Q M g
 |false=>exact⟨.bl false,H1,M,rfl,g⟩
def nG(ha:PE X a ta):PE X (.UnaryOp .Not a pos) (pG ta):=by
 intro pins s σ H Q I h;refine UnaryOp_ (BA (ha pins s σ H _ I h) fun v s1 ⟨x,H1,R,M,g⟩=>?_);obtain⟨c,rfl,g⟩:=g;cases M;exact not_of (wpAny_truthy_bool ⟨.bl (!c),H1,R,rfl,g⟩)
def sy(t:TT)(ta tb:TE):TE:=fun σ H Q=>t σ H fun c H1=>if c=true then ta σ H1 Q else tb σ H1 Q
def ei{c:Expr}(R:PT X c tA)(ha:PE X a ta)(hb:PE X b tb):PE X (.IfExp c a b pos) (sy tA ta tb):=by
 intro pins s σ H Q I h;refine wpAny_IfExp (BA (R pins s σ H _ I h) fun d s1 ⟨H1,M,g⟩=>?_);cases d with
 |true=>exact ha pins s1 σ H1 Q M g
 |false=>exact hb pins s1 σ H1 Q M g
end
def AU(K:Fg)(H:Hp)(a:AD)(xs:uD):Prop :=
 Rd H a (.lst xs) \/
  ∃(o:Obj) (g:Array VL) (n:Nat),K.lookup a=some o/\o.cls=.type "list" /\ o.dict=none/\o.data=.seq g n/\g.size<=sizeLine/\Vals xs g.toList
def Al(K:Fg)(H:Hp)(a:AD)(xs:uD):Prop :=
 Rd H a (.tup xs) \/
  ∃(o:Obj) (g:Array VL) (n:Nat),K.lookup a=some o/\o.cls=.type "tuple" /\ o.data=.seq g n/\g.size<=sizeLine/\Vals xs g.toList
def qz:VL->Option V
 |.none=>some .Bj
 |.bool b=>some (.bl b)
 |.int i _=>some (.int i)
 |.str x _=>some (.str x)
 |.bytes b _=>some (.OV b)
 |.float b _=>some (.Xo b)
 |.ref a=>some (.ref a)
 |.type n=>some (.ty n)
 |_=>none
def RelV.abs{x:V}{u:VL}(r:RelV x u):qz u=some x:=by
 cases x with
 |Bj=>cases r;rfl
 |bl _=>cases r;rfl
 |int _=>obtain⟨t,rfl⟩:=r;rfl
 |str _=>obtain⟨t,rfl⟩:=r;rfl
 |OV _=>obtain⟨t,rfl⟩:=r;rfl
 |Xo _=>obtain⟨t,rfl⟩:=r;rfl
 |ref _=>cases r;rfl
 |ty _=>cases r;rfl
def RelV.inj{x y:V}{u:VL}(r:RelV x u)(q:RelV y u):x=y:=ao (r.abs.symm.trans q.abs)
theorem Vals.inj:∀ {xs ys:IR} {us:List VL},Vals xs us->Vals ys us->xs=ys
 |_,_,_,.nil,.nil=>rfl
 |_,_,_,.cons r t,.cons I g=>by rw[r.inj I,Vals.inj t g]
section
variable{X:Cx}{pins:Db}{σ:St}{H:Hp}{s:SD}{a:AD}{xs ys:uD}
def AU.of{K:Fg}(h:H a=some (.lst xs)):AU K H a xs:=.inl (.inl h)
def Al.of{K:Fg}(h:H a=some (.tup xs)):Al K H a xs:=.inl (.inl h)
def Inv.list(I:Cl)(h:AU X.K H a xs):∃g:tf,Vals xs g/\PlainL s.heap a g.toArray/\xs.length<=sizeLine:=by
 rcases h with h|⟨o,g,n,hk,R,hd,M,U,r⟩
 .obtain⟨z,g,n,r,e⟩:=h.ok I.Am;exact⟨g,r,⟨_,n,e,rfl,rfl,rfl⟩,z⟩
 .refine⟨g.toList,r,⟨o,n,I.Gf a o hk,R,hd,by simpa using M⟩,?_⟩;have e:=r.length;simp only[Array.length_toList]at e
  lia
def Inv.tuple(I:Cl)(h:Al X.K H a xs):∃g:tf,Vals xs g/\IsTup s.heap a g.toArray/\xs.length<=sizeLine:=by
 rcases h with h|⟨o,g,n,hk,R,M,U,r⟩
 .obtain⟨z,g,r,p⟩:=h.ok I.Am;exact⟨g,r,p,z⟩
 .refine⟨g.toList,r,⟨o,I.Gf a o hk,R,n,by simpa using M⟩,?_⟩;have e:=r.length;simp only[Array.length_toList]at e
  lia
def Inv.VQ(I:Cl)(h:AU X.K H a xs)(h':AU X.K H a ys):xs=ys:=by
 obtain⟨M,r,⟨o,n,e,_,_,d⟩,_⟩:=I.list h;obtain⟨g,Y,⟨o',n',R,_,_,U⟩,_⟩:=I.list h';rw[e]at R;cases R;rw[d]at U
 injection U with Z _
 have:M=g:=by simpa using bA Array.toList Z
 subst this;exact r.inj Y
def Inv.eJ(I:Cl)(h:Al X.K H a xs)(h':Al X.K H a ys):xs=ys:=by
 obtain⟨M,r,⟨o,e,_,n,d⟩,_⟩:=I.tuple h;obtain⟨g,Y,⟨o',R,_,n',U⟩,_⟩:=I.tuple h';rw[e]at R;cases R;rw[d]at U
 injection U with Z _
 have:M=g:=by simpa using bA Array.toList Z
 subst this;exact r.inj Y
end
abbrev Cx.Hy(X:Cx)(E:VL->SD->Prop):Cx:={X with xe:=E}
abbrev Cx.Ki(X:Cx):Cx:=X.Hy fun _ _=>False
def Cx.Ok.Hy{X:Cx}(ok:X.Ok)(E:tj):(X.Hy E).Ok :=
 ⟨ok.mod,ok.kind,ok.glob,ok.blt,ok.above,ok.inj,ok.has,ok.Vi,ok.hd,ok.frames,ok.Q5,ok.kq,ok.bs,ok.RU,ok.TC,ok.Sd,ok.Ig,ok.RM,ok.kt⟩
def Cx.Ok.Ex{X:Cx}{E:tj}(ok:(X.Hy E).Ok):X.Ok :=
 ⟨ok.mod,ok.kind,ok.glob,ok.blt,ok.above,ok.inj,ok.has,ok.Vi,ok.hd,ok.frames,ok.Q5,ok.kq,ok.bs,ok.RU,ok.TC,ok.Sd,ok.Ig,ok.RM,ok.kt⟩
section
variable{X:Cx}{pins:Db}{σ:St}{H:Hp}{s:SD}{E:tj}
def Inv.Hy(I:Cl)(E:tj):Inv (X.Hy E) pins σ H s:=⟨I.ok.Hy E,I.os,I.bare,I.base,I.loc,I.cell,I.free,I.GJ,I.pin,I.Am,I.len⟩
def Inv.Ex(I:Inv (X.Hy E) pins σ H s):Inv X pins σ H s:=⟨I.ok.Ex,I.os,I.bare,I.base,I.loc,I.cell,I.free,I.GJ,I.pin,I.Am,I.len⟩
def SP.Ex{D:Ends}{f:Flow}{s':SD}(h:SP (X.Hy E) pins D f s'):SP X pins D f s':=by
 cases f with
 |next=>obtain⟨g,H',I,q⟩:=h;exact⟨g,H',I.Ex,q⟩
 |brk=>obtain⟨g,H',I,q⟩:=h;exact⟨g,H',I.Ex,q⟩
 |cont=>obtain⟨g,H',I,q⟩:=h;exact⟨g,H',I.Ex,q⟩
 |ret u=>obtain⟨v,g,H',I,r,q⟩:=h;exact⟨v,g,H',I.Ex,r,q⟩
def J9.Ki{st:uG}{t:TS}(h:J9 X.Ki st t):J9 X st t:=fun pins s σ H D I g=>
 aW (h pins s σ H D (I.Hy _) g) (fun _ _ q=>q.Ex) fun _ _ z=>False.elim z
end
section
variable{X:Cx}{st:Stmt}{rest:uG}{t u:TS}{e:Expr}{te:TE}{pos:Pos}
def qa:TS:=fun D σ H=>D.nx σ H
def nu(t u:TS):TS:=fun D σ H=>t {D with nx:=u D} σ H
def BL:J9 X [] qa:=fun _ _ σ H _ I h=>wpAny_execs_nil ⟨σ,H,I,h⟩
def AG(h1:PS X st t)(M:J9 X rest u):J9 X (st::rest) (nu t u):=by
 intro pins s σ H D I h;refine wpAny_execs_cons (BA (h1 pins s σ H {D with nx:=u D} I h) fun f s1 q=>?_);cases f with
 |next=>
  obtain⟨g,H',R,q⟩:=q;exact M pins s1 g H' D R q
 |ret v=>exact q
 |brk=>exact q
 |cont=>exact q
def AL(h1:PS X st t):J9 X [st] t:=by
 intro pins s σ H D I h;refine wpAny_execs_cons (BA (h1 pins s σ H D I h) fun f s1 q=>?_);cases f with
 |next=>exact wpAny_execs_nil q
 |ret v=>exact q
 |brk=>exact q
 |cont=>exact q
def Inv.quiet{pins:Db}{σ:St}{H:Hp}{s:SD}(I:Cl):interactive X.env=false:=by simp[interactive,I.ok.kind]
def Zc(te:TE):TS:=fun D σ H=>te σ H fun _ H1=>D.nx σ H1
def BK(R:PE X e te)(M:swapsWith e none pos.line X.env=pure false:=by rfl):PS X (.Expr e pos) (Zc te):=by
 intro pins s σ H D I h;exact wpAny_Expr_any (BA (R pins s σ H _ I h) fun v s1 ⟨x,H1,U,Y,g⟩=>⟨σ,H1,U,g⟩) I.quiet M
def rV(te:TE):TS:=fun D σ H=>te σ H D.rt
def Aj(R:PE X e te):PS X (.Return (some e) pos) (rV te):=by
 intro pins s σ H D I h;exact wpAny_Return_some (BA (R pins s σ H _ I h) fun v s1 ⟨x,H1,U,g,M⟩=>⟨x,σ,H1,U,g,M⟩)
def rS(c:TT)(t u:TS):TS:=fun D σ H=>c σ H fun b H1=>if b=true then t D σ H1 else u D σ H1
def B5{c:Expr}{a b:uG}{g:TT}(U:PT X c g)(ha:J9 X a t)(hb:J9 X b u):PS X (.If c a b pos) (rS g t u):=by
 intro pins s σ H D I h;refine wpAny_If (BA (U pins s σ H _ I h) fun d s1 ⟨H1,R,M⟩=>?_);cases d with
 |true=>exact ha pins s1 σ H1 D R M
 |false=>exact hb pins s1 σ H1 D R M
def l7:TS:=fun _ _ _=>False
def NV:PS X st l7:=fun _ _ _ _ _ _ h=>h.elim
end
abbrev TG:=V->St->Hp->(St->Hp->Prop)->Prop
abbrev Wi:=List V->St->Hp->(St->Hp->Prop)->Prop
def PG(X:Cx)(target:Expr)(t:TG):Prop :=
 ∀(pins:Db) (s:SD) (σ:St) (H:Hp) (v:V) (u:VL) (Q:St->Hp->Prop),Inv X pins σ H s->RelV v u->t v σ H Q ->
  wpAny At X.A (assign target X.env u) (fun _ s'=>∃g H',Inv X pins g H' s'/\Q g H') X.xe s
def iK(X:Cx)(ts:t8)(t:Wi):Prop :=
 ∀(pins:Db) (s:SD) (σ:St) (H:Hp) (vs:IR) (us:List VL) (Q:St->Hp->Prop),Inv X pins σ H s->Vals vs us->t vs σ H Q ->
  wpAny At X.A (assignInOrder ((assignEach ts X.env).map (·.2)) us) (fun _ s'=>∃g H',Inv X pins g H' s'/\Q g H') X.xe s
abbrev gp:=V->V->V->Hp->(Hp->Prop)->Prop
def lA(X:Cx)(t:gp):Prop :=
 ∀(pins:Db) (s:SD) (σ:St) (H:Hp) (o i v:V) (g I u:VL) (Q:Hp->Prop),Inv X pins σ H s->RelV o g->RelV i I->RelV v u->t o i v H Q ->
  wpAny At X.A (setItem g I u) (fun _ s'=>∃H',Inv X pins σ H' s'/\Q H') X.xe s
section
variable{X:Cx}{pos:Pos}
def EJ(i:Nat):TG:=fun v σ H Q=>Q (σ.set i (some v)) H
def An{i:Nat}{x:Str}(M:X.N.Nodup)(hi:X.N[i]? = some x)(g:Loc X.env.scope x)(hf:X.fn x=true\/X.env.scope.names.lookup x=some .local:=by first|exact .inl rfl|exact .inr rfl|assumption):PG X (.Name x pos) (EJ i):=by
 intro pins s σ H v u Q I r h;exact wpAny_assign_Name (LY I M hi g r (fun s' R=>⟨_,H,R,h⟩) hf)
def fP:Wi:=fun vs σ H Q=>vs=[]/\Q σ H
def RG(t:TG)(u:Wi):Wi:=fun vs σ H Q=>∃v r,vs=v::r/\t v σ H fun g H'=>u r g H' Q
def F8:iK X [] fP:=by
 intro pins s σ H vs us Q I r h;obtain⟨e,h⟩:=h;subst e;cases r;exact assignInOrder_nil ⟨σ,H,I,h⟩
def Bw{e:Expr}{es:t8}{t:TG}{u:Wi}(h1:PG X e t)(Y:iK X es u) (U:(assignEach (e::es) X.env).map (·.2)=assign e X.env::(assignEach es X.env).map (·.2):=by rfl):iK X (e::es) (RG t u):=by
 intro pins s σ H vs us Q I r h;obtain⟨v,vr,Z,h⟩:=h;subst Z;cases r with
 |cons r M=>
  rw[U];refine assignInOrder_cons (BA (h1 pins s σ H _ _ _ I r h) fun _ s1 ⟨g,H1,I1,R⟩=>?_);exact Y pins s1 g H1 _ _ Q I1 M R
def gE(K:Fg)(n:Nat)(t:Wi):TG:=fun v σ H Q=>∃a xs,v=.ref a/\Al K H a xs/\xs.length=n/\t xs σ H Q
def HS{es:t8}{k:Nat}{t:Wi}{n:Nat}(hc:X.calm=true)(h:iK X es t) (hn:(assignEach es X.env).length=n:=by rfl)(M:(assignEach es X.env).findIdx? (·.1)=none:=by rfl):PG X (.Tuple es k pos) (gE X.K n t):=by
 intro pins s σ H v u Q I r g;obtain⟨a,xs,e1,hq,hl,g⟩:=g;subst e1;cases r;obtain⟨U,R,Z,hz⟩:=I.tuple hq;refine assign_Tuple_tuple (I.ok.hd hc) Z (by simp[hn,<-hl,R.length]) M fun h' Y=>?_;have I1:Inv X pins σ H {s with heap:=h'}:=I.kept (t':=s.toks) fun b o e=>Y b o (aP (aD e)) e;exact h pins _ σ H xs _ Q I1 (by simpa using R) g
def mw(to g:TE)(t:gp):TG:=fun v σ H Q=>to σ H fun o H1=>g σ H1 fun i M=>t o i v M fun I=>Q σ I
def cq{o i:Expr}{to ti:TE}{t:gp}(ho:PE X o to)(hi:PE X i ti)(hs:lA X t)
 (ha:∀v,assign (.Subscript o i pos) X.env v=(do
      let ov <-holding [v] (eval o X.env)
      let iv <-holding [v,ov] (eval i X.env)
      standAt pos
      holding [v,ov,iv] (setItem ov iv v)
      release [v,ov,iv] []):=by intro _;rfl):PG X (.Subscript o i pos) (mw to ti t):=by
  intro pins s σ H v u Q I r h
  rw[ha]
  refine Wb (bD (BA (ho pins s σ H _ I h) fun ov s1 ⟨x,H1,I1,r1,q1⟩=>?_))
  refine Wb (bD (BA (hi pins s1 σ H1 _ I1 q1) fun iv s2 ⟨y,H2,I2,r2,q2⟩=>?_))
  refine Wb (wpAny_standAt (Wb (bD (BA (hs pins s2 σ H2 x y v ov iv u _ I2 r1 r2 r q2) fun _ s3 ⟨H3,I3,q3⟩=>?_))))
  exact wpAny_release ⟨σ,H3,I3,q3⟩
def QY(I:TE)(g:TG):TS:=fun D σ H=>I σ H fun x H1=>g x σ H1 D.nx
def Vr{tg e:Expr}{M:TE}{g:TG}(he:PE X e M)(hg:PG X tg g)(Z:swapsWithSole [tg] e pos.line X.env=pure false:=by rfl)(Y:swappedStores [tg] e X.env=pure none:=by rfl) (h1:(assignEach [tg] X.env).map (·.2)=[assign tg X.env]:=by rfl):PS X (.Assign [tg] e pos) (QY M g):=by
 intro pins s σ H D I h;refine wpAny_Assign_stores (BA (he pins s σ H _ I h) fun v s1 ⟨x,H1,I1,R,U⟩=>?_) Z Y;rw[h1];exact BA (hg pins s1 σ H1 x v _ I1 R U) fun _ s2 q=>q
def AX{i:Nat}{x:Str}{e:Expr}{M:TE}{g:Pos}(hN:X.N.Nodup)(hi:X.N[i]? = some x)(Y:Loc X.env.scope x)(he:PE X e M)(Z:swapsWith e (some (.Name x g)) pos.line X.env=pure false:=by rfl)(hf:X.fn x=true\/X.env.scope.names.lookup x=some .local:=by first|exact .inl rfl|exact .inr rfl|assumption):PS X (.Assign [.Name x g] e pos) (QY M (EJ i)):=by
 intro pins s σ H D I h;refine wpAny_Assign_Name (BA (he pins s σ H _ I h) fun v s1 ⟨y,H1,I1,R,U⟩=>?_) Z;exact LY I1 hN hi Y R (fun s2 I2=>⟨_,H1,I2,U⟩) hf
def rC(i j:Nat)(ta:TA):TS:=fun D σ H=>ta σ H fun vs H1=>∃v w,vs=[v,w]/\D.nx ((σ.set i (some v)).set j (some w)) H1
def kT{i j:Nat}{x y:Str}{a b:Expr}{ta:TA}{px py pt:Pos}{kt k2 M}(hc:X.calm=true)(hN:X.N.Nodup)(hi:X.N[i]? = some x)(hj:X.N[j]? = some y)(hij:i≠j) (hx:X.env.scope.names.lookup x=some .local)(hy:X.env.scope.names.lookup y=some .local)(ha:PA X [a,b] ta) (hw:swappedStores [.Tuple [.Name x px,.Name y py] kt pt] (.Tuple [a,b] k2 M) X.env=pure (some [x,y])) (hs:swapsWithSole [.Tuple [.Name x px,.Name y py] kt pt] (.Tuple [a,b] k2 M) pos.line X.env=pure false:=by rfl):PS X (.Assign [.Tuple [.Name x px,.Name y py] kt pt] (.Tuple [a,b] k2 M) pos) (rC i j ta):=by
 intro pins s σ H D I h;rw[exec_Assign_arm];refine Wb (wpAny_standAt ?_);rw[hs];refine Wb (aA ?_);rw[if_neg AS];refine Wb (Tuple_ (BA (ha _ pins s σ H _ I h) fun us s1 ⟨vs,H1,I1,r1,Z⟩=>?_));obtain⟨v,w,e1,Z⟩:=Z;subst e1;obtain⟨U,R,rfl,rv,Y⟩:∃U R,us=[U,R]/\RelV v U/\RelV w R:=by
  cases r1 with
  |cons p q=>
   cases q with
   |cons p' q'=>
    cases q';exact⟨_,_,rfl,p,p'⟩
 refine aY ?_ (by show 2<=sizeLine;decide);have I2:Inv X pins σ H1 {s1 with heap:=s1.heap.push { cls:=.type "tuple",data:=.seq [U,R].toArray} }:=I1.kept (t':=s1.toks) fun b o e=>aE _ e;rw[hw];refine Wb (aA ?_);show wpAny At X.A (do rule "assign.swapped-stores"; let g <-unpackItems (.ref s1.heap.objs.size) 2 none;assignInOrder [fun v=>bindName X.env y v,fun v=>bindName X.env x v] g.reverse;pure Flow.next) _ _ _;refine Wb (wpAny_rule (Wb (unpackItems_tuple (items:=#[U,R]) (I.ok.hd hc) (IsTup.new s1.heap _) fun h' hx'=>?_)));have I3:=I2.kept (h':=h') (t':=s1.toks) fun b o e=>hx' b o (aP (aD e)) e;show wpAny _ _ (assignInOrder [fun v=>bindName X.env y v,fun v=>bindName X.env x v] [R,U]>>=fun _=>pure Flow.next) _ _ _;refine Wb (assignInOrder_cons (wpAny_bindName (LY I3 hN hj (.inl hy) Y (fun s2 I4=>?_) (.inr hy))));refine assignInOrder_cons (wpAny_bindName (LY I4 hN hi (.inl hx) rv (fun s3 I5=>assignInOrder_nil (aA ?_)) (.inr hx)));rw[List.set_comm _ _ (Ne.symm hij)]at I5;exact⟨_,H1,I5,Z⟩
end
section
variable{X:Cx}{pos:Pos}
def cX(c:TT)(tb:TS):TS:=fun D σ H=>∃W:Nat->St->Hp->Prop,(∃m,W m σ H)/\∀m σ H,W m σ H ->
 c σ H fun b H1=>if b=true then ∃N:St->Hp->Prop,(∀g H',N g H'->∃I,I<m/\W I g H')/\tb {D with nx:=N,ct:=N,bk:=D.nx} σ H1 else D.nx σ H1
def K7{c:Expr}{R:uG}{tc:TT}{tb:TS}(hp:PassesOwn At X.A X.env X.xe)(hc:PT X c tc)(hb:J9 X R tb):PS X (.While c R [] pos) (cX tc tb):=by
 intro pins s σ H D I h;obtain⟨W,⟨m0,w0⟩,turn⟩:=h;refine wpAny_While (codeAny_whileLoop (fun n s'=>∃U H',Inv X pins U H' s'/\W n U H') ?_ m0 ⟨σ,H,I,w0⟩);rintro n s1 ⟨M,H1,I1,w1⟩;refine wpAny_passesOwn hp (BA (hc pins s1 M H1 _ I1 (turn n M H1 w1)) fun b s2 ⟨H2,I2,q2⟩=>?_);cases b with
 |true=>
  obtain⟨N,hN,q2⟩:=q2;rw[if_pos rfl];refine wpAny_passesOwn hp (BA (hb pins s2 M H2 _ I2 q2) fun f s3 Z=>?_);cases f with
  |next=>
   obtain⟨g,Y,I3,n3⟩:=Z;obtain⟨m',hm,w3⟩:=hN g Y n3;exact⟨m',hm,g,Y,I3,w3⟩
  |cont=>
   obtain⟨g,Y,I3,n3⟩:=Z;obtain⟨m',hm,w3⟩:=hN g Y n3;exact⟨m',hm,g,Y,I3,w3⟩
  |brk=>exact Z
  |ret v=>exact Z
 |false=>
  rw[if_neg aO];exact wpAny_execs_nil ⟨M,H2,I2,q2⟩
end
structure It where
 go:Nat->Hp->Prop
 F6:Nat->Hp->V->Hp->Prop
 stop:Nat->Hp->Prop
def KW(X:Cx)(pins:Db)(H:Hp)(b:AD):Prop :=
 H b=none/\b≠X.env.locals/\b ∉ X.fs/\(b∈X.ex\/X.s₀.heap.objs.size<=b)/\(∀x c,X.env.cells.lookup x=some c->c≠b)/\∀p∈X.pn++pins,p.1≠b
def Inv.W6{X:Cx}{pins:Db}{σ:St}{H H':Hp}{s:SD}{b:AD}(I:Cl)(hb:s.heap.objs.size<=b)(hn:H' b=none):KW X pins H' b:=by
 refine⟨hn,Nat.ne_of_gt (aK I.lt hb),I.rE hb,.inr (aS I.sz hb),fun x c e z=>?_,fun p g z=>?_⟩
 .obtain⟨v,q⟩:=I.cell x c e;exact absurd (aK q.lt (by rw[z];exact hb)) (Nat.lt_irrefl _)
 .exact absurd (aK (aD (I.pin p g).1) (by rw[z];exact hb)) (Nat.lt_irrefl _)
structure Turn(P:Program)(w:World)(K:Fg)(tg:Expr)(J:It)(fp:List Addr)(it:Addr)(tn:Nat->Heap->Prop):Prop where
 mem:it∈fp
 obj:∀i h,tn i h->∀b∈fp,∃o,h.get? b=some o/\∀v,o.data≠.cell v
 keep:∀i h h',tn i h->(∀b∈fp,∀o,h.get? b=some o->h'.get? b=some o)->tn i h'
 item:∀(X:Cx),X.prog=P->X.w=w->X.K=K->X.calm=true->∀(i:Nat) (pins:List (Addr×Obj)) (s:Shared) (σ:St) (H:Hp) (E:Value->Shared->Prop),Inv X pins σ H s->(∀b∈fp,KW X pins H b)->tn i s.heap->J.go i H ->
  wpAny (model P w) X.A (pyNext (.ref it)) (fun r s1=>∃u,r=some u /\
   wpAny (model P w) X.A (letOwnedTupleGo tg (.ref it) u) (fun _ s2=>∃x H',Inv X pins σ H' s2/\RelV x u/\J.F6 i H x H'/\tn (i+1) s2.heap/\∀b∈fp,H' b=none) E s1) E s
 done:∀(X:Cx),X.prog=P->X.w=w->X.K=K->X.calm=true->∀(i:Nat) (pins:List (Addr×Obj)) (s:Shared) (σ:St) (H:Hp) (E:Value->Shared->Prop),Inv X pins σ H s->(∀b∈fp,KW X pins H b)->tn i s.heap->J.stop i H ->
  wpAny (model P w) X.A (pyNext (.ref it)) (fun r s1=>r=none/\Inv X pins σ H s1) E s
 self:∀(A:Around) (i:Nat) (s:Shared) (Q:Value->Shared->Prop) (E:Value->Shared->Prop),tn i s.heap->Q (.ref it) s->wpAny (model P w) A (pyIter (.ref it)) Q E s
abbrev TI:=St->Hp->(It->Hp->Prop)->Prop
def qo(X:Cx)(pins:Db)(σ:St)(tg:Expr)(R:It->Hp->Prop)(g:VL)(s2:SD):Prop :=
 ∃(it:AD) (fp:List AD) (tn:Nat->Heap->Prop) (J:It) (H':Hp),g=.ref it/\Inv X pins σ H' s2/\Turn X.prog X.w X.K tg J fp it tn/\tn 0 s2.heap/\(∀b∈fp,KW X pins H' b)/\R J H'
def PI(X:Cx)(tg iter:Expr)(g:TI):Prop :=
 ∀(pins:Db) (s:SD) (σ:St) (H:Hp) (R:It->Hp->Prop),Inv X pins σ H s->g σ H R ->
  wpAny At X.A (eval iter X.env) (fun v s1=>wpAny At X.A (pyIter v) (qo X pins σ tg R) X.xe s1) X.xe s
def Yg{M:Model}{A:F0d}{E:tj}{s:SD}{tg:Expr}{it:AD}{u:VL}{o:Obj}{n:String}{vs:Array VL}{Q:Unit->SD->Prop}(I:s.heap.get? it=some o)(R:o.cls=.type n)(hd:o.data=.fields vs) (hn:["enumerate","zip","dict_itemiterator","dict_reverseitemiterator","odict_iterator","itertools.zip_longest","itertools.pairwise"].contains n=false)(g:Q () s):wpAny M A (letOwnedTupleGo tg (.ref it) u) Q E s:=by
 unfold letOwnedTupleGo;cases tg<;>first
  |exact aA g
  |(cases u<;>first
    |exact aA g
    |(refine Wb (wpAny_load I ?_)
      rw[R,hd];show wpAny M A (if(["enumerate","zip","dict_itemiterator","dict_reverseitemiterator","odict_iterator","itertools.zip_longest","itertools.pairwise"].contains n&&vs[0]? == some (rawInt _))=true then _ else _) Q E s;rw[if_neg (by intro h;rw[hn,(HF)]at h;cases h)];exact aA g))
def YI(K:Fg)(a:AD):It :=
 ⟨fun i H=>∃xs x,AU K H a xs/\xs[i]? = some x,fun i H x H'=>H'=H/\∀xs,AU K H a xs->xs[i]? = some x,fun i H=>∃xs,AU K H a xs/\xs.length<=i⟩
def YL(K:Fg)(a:AD):It :=
 ⟨fun i H=>∃xs x,Al K H a xs/\xs[i]? = some x,fun i H x H'=>H'=H/\∀xs,Al K H a xs->xs[i]? = some x,fun i H=>∃xs,Al K H a xs/\xs.length<=i⟩
def UR(lo:Int)(n:Nat):It:=⟨fun i _=>i<n,fun i H x H'=>H'=H/\x=.int (lo+i),fun i _=>n<=i⟩
def eC{P:F0b}{w:F0c}{K:Fg}{tg:Expr}(a it:AD):Turn P w K tg (YI K a) [it] it (fun i h=>h.IsListIter it a i) where
 mem:=by simp
 obj:=fun i h st b hb=>by
  have e:b=it:=by simpa using hb
  subst e;obtain⟨o,e,c,d⟩:=st;exact⟨o,e,fun v z=>by rw[d]at z;cases z⟩
 keep:=fun i h h' st k=>st.at fun o e=>k it Do o e
 item:=by
  intro X hP hw hK hc i pins s σ H E I hf st hg;subst hP hw hK;obtain⟨xs,x,hq,hx⟩:=hg;obtain⟨its,rv,p,hz⟩:=I.list hq;obtain⟨u,hu,ru⟩:=rv.get hx;obtain⟨f0,f1,f2,f3,f4,f5⟩:=hf it Do;refine wpAny_pyNext_list_item st p.isList (x:=u) (by simpa using hu) fun h' st' sb=>?_;have I1:Inv X pins σ H {s with heap:=h'}:=I.turned (t':=s.toks) (fun b o hb e=>(sb.2 b hb).trans e) f0 f1 f3 f4 f5;obtain⟨o,e,c,d⟩:=id st';exact⟨u,rfl,Yg (s:={s with heap:=h'}) e c d AS ⟨x,H,I1,ru,⟨rfl,fun ys hy=>by rw[I.VQ hy hq];exact hx⟩,st',fun b hb=>(hf b hb).1⟩⟩
 done:=by
  intro X hP hw hK hc i pins s σ H E I hf st hg;subst hP hw hK;obtain⟨xs,hq,hx⟩:=hg;obtain⟨its,rv,p,hz⟩:=I.list hq;obtain⟨f0,f1,f2,f3,f4,f5⟩:=hf it Do;have hl:=rv.length;exact wpAny_pyNext_list_end (I.ok.hd hc) st p.isList (by simp;lia) fun h' eb=>⟨rfl,I.turned (t':=s.toks) (fun b o hb e=>eb b o hb e) f0 f1 f3 f4 f5⟩
 self:=fun _ _ _ _ _ st h=>wpAny_pyIter_listiter st h
def Y3{P:F0b}{w:F0c}{K:Fg}{tg:Expr}(a it:AD):Turn P w K tg (YL K a) [it] it (fun i h=>h.IsTupleIter it a i) where
 mem:=by simp
 obj:=fun i h st b hb=>by
  have e:b=it:=by simpa using hb
  subst e;obtain⟨o,e,c,d⟩:=st;exact⟨o,e,fun v z=>by rw[d]at z;cases z⟩
 keep:=fun i h h' st k=>st.at fun o e=>k it Do o e
 item:=by
  intro X hP hw hK hc i pins s σ H E I hf st hg;subst hP hw hK;obtain⟨xs,x,hq,hx⟩:=hg;obtain⟨its,rv,p,hz⟩:=I.tuple hq;obtain⟨u,hu,ru⟩:=rv.get hx;obtain⟨f0,f1,f2,f3,f4,f5⟩:=hf it Do;refine wpAny_pyNext_tuple_item st (show s.heap.IsTuple a its.toArray from p) (x:=u) (by simpa using hu) fun h' st' sb=>?_;have I1:Inv X pins σ H {s with heap:=h'}:=I.turned (t':=s.toks) (fun b o hb e=>(sb.2 b hb).trans e) f0 f1 f3 f4 f5;obtain⟨o,e,c,d⟩:=id st';exact⟨u,rfl,Yg (s:={s with heap:=h'}) e c d AS ⟨x,H,I1,ru,⟨rfl,fun ys hy=>by rw[I.eJ hy hq];exact hx⟩,st',fun b hb=>(hf b hb).1⟩⟩
 done:=by
  intro X hP hw hK hc i pins s σ H E I hf st hg;subst hP hw hK;obtain⟨xs,hq,hx⟩:=hg;obtain⟨its,rv,p,hz⟩:=I.tuple hq;obtain⟨f0,f1,f2,f3,f4,f5⟩:=hf it Do;have hl:=rv.length;exact wpAny_pyNext_tuple_end (I.ok.hd hc) st (show s.heap.IsTuple a its.toArray from p) (by simp;lia) fun h' eb=>⟨rfl,I.turned (t':=s.toks) (fun b o hb e=>eb b o hb e) f0 f1 f3 f4 f5⟩
 self:=fun _ _ _ _ _ st h=>wpAny_pyIter_tupleiter st h
def YZ{P:F0b}{w:F0c}{K:Fg}{tg:Expr}(it:AD)(lo:Int)(n:Nat):Turn P w K tg (UR lo n) [it] it (fun i h=>IsRangeIter h it (lo+(i:Nat)*1) ((n:Int)-(i:Nat)) 1) where
 mem:=by simp
 obj:=fun i h st b hb=>by
  have e:b=it:=by simpa using hb
  subst e;exact⟨_,st,fun v z=>by
   have z':Data.fields _=Data.cell v:=z;cases z'⟩
 keep:=fun i h h' st k=>k it Do _ st
 item:=by
  intro X hP hw hK hc i pins s σ H E I hf st hg;subst hP hw hK;obtain⟨f0,f1,f2,f3,f4,f5⟩:=hf it Do;have W:=Walks.range (prog:=X.prog) (w:=X.w) (I.ok.hd hc) it lo 1 n;refine W.item i s _ _ hg st fun v h' tk hv st' kk=>?_;obtain⟨t,rfl⟩:=hv;have I1:Inv X pins σ H {s with heap:=h',toks:=tk}:=I.turned (fun b o hb e=>kk b o (by simpa using hb) e) f0 f1 f3 f4 f5;refine⟨_,rfl,Yg (s:={s with heap:=h',toks:=tk}) (n := "range_iterator") st' rfl rfl AS ⟨.int (lo+i),H,I1,⟨t,?_⟩,⟨rfl,rfl⟩,st',fun b hb=>(hf b hb).1⟩⟩;rw[Int.mul_one]
 done:=by
  intro X hP hw hK hc i pins s σ H E I hf st hg;subst hP hw hK;obtain⟨f0,f1,f2,f3,f4,f5⟩:=hf it Do;exact wpAny_pyNext_range_end (I.ok.hd hc) st (by have:n<=i:=hg;lia) fun h' eb=>⟨rfl,I.turned (t':=s.toks) (fun b o hb e=>eb b o hb e) f0 f1 f3 f4 f5⟩
 self:=fun _ _ _ _ _ st h=>wpAny_pyIter_rangeiter st h
section
variable{X:Cx}{tg:Expr}
def qd(K:Fg)(tl:TE):TI:=fun σ H R=>tl σ H fun x H1=>∃a,x=.ref a/\(∃xs,AU K H1 a xs)/\R (YI K a) H1
def sN(K:Fg)(tl:TE):TI:=fun σ H R=>tl σ H fun x H1=>∃a,x=.ref a/\(∃xs,Al K H1 a xs)/\R (YL K a) H1
def Av{l:Expr}{tl:TE}(hl:PE X l tl):PI X tg l (qd X.K tl):=by
 intro pins s σ H R I h;refine BA (hl pins s σ H _ I h) fun v s1 ⟨x,H1,g,M,U⟩=>?_;obtain⟨a,e,⟨xs,Z⟩,q⟩:=U;subst e;cases M;obtain⟨Y,rv,p,hz⟩:=g.list Z;refine wpAny_pyIter_list p.isList ?_;refine⟨s1.heap.objs.size,[s1.heap.objs.size],_,_,H1,rfl,g.kept (t':=s1.toks) fun b o e=>aE _ e,eC a _,⟨_,Heap.get?_push_size _ rfl,rfl,rfl⟩,fun b hb=>?_,q⟩;have e:b=s1.heap.objs.size:=by simpa using hb
 subst e;exact g.W6 (aH _) (g.Am.fresh (aH _))
def a9{l:Expr}{tl:TE}(hl:PE X l tl):PI X tg l (sN X.K tl):=by
 intro pins s σ H R I h;refine BA (hl pins s σ H _ I h) fun v s1 ⟨x,H1,g,U,Y⟩=>?_;obtain⟨a,e,⟨xs,Z⟩,q⟩:=Y;subst e;cases U;obtain⟨M,rv,p,hz⟩:=g.tuple Z;refine wpAny_pyIter_tuple (show s1.heap.IsTuple a M.toArray from p) ?_;refine⟨s1.heap.objs.size,[s1.heap.objs.size],_,_,H1,rfl,g.kept (t':=s1.toks) fun b o e=>aE _ e,Y3 a _,⟨_,Heap.get?_push_size _ rfl,rfl,rfl⟩,fun b hb=>?_,q⟩;have e:b=s1.heap.objs.size:=by simpa using hb
 subst e;exact g.W6 (aH _) (g.Am.fresh (aH _))
def We{pins:Db}{σ:St}{H:Hp}{s:SD}{R:It->Hp->Prop}{E:tj}{lo hi:Int}{t u v:Tok}{tk:Nat}(I:Cl)(h1:-(2^62)<=lo)(Y:lo<2^62)(U:-(2^62)<=hi)(M:hi<2^62) (q:R (UR lo (hi-lo).toNat) H):wpAny At X.A (pyIter (.ref s.heap.objs.size)) (qo X pins σ tg R) E {s with heap:=s.heap.push { cls:=.type "range",data:=.fields #[.int lo t,.int hi u,.int 1 v]},toks:=tk}:=by
 refine wpAny_pyIter_range (IsRange.new ..) (small_one h1 Y U M) ?_;have g:Inv X pins σ H {s with heap:=s.heap.push { cls:=.type "range",data:=.fields #[.int lo t,.int hi u,.int 1 v]},toks:=tk}:=I.kept fun b o e=>aE _ e;refine⟨(s.heap.push { cls:=.type "range",data:=.fields #[.int lo t,.int hi u,.int 1 v]}).objs.size,[(s.heap.push { cls:=.type "range",data:=.fields #[.int lo t,.int hi u,.int 1 v]}).objs.size],_,_,H,rfl,
  g.kept (t':=tk) fun b o e=>aE _ e,YZ _ lo (hi-lo).toNat,?_,fun b hb=>?_,q⟩
 .have e1:lo+((0:Nat):Int)*1=lo:=by simp
  have Z:(((hi-lo).toNat:Nat):Int)-((0:Nat):Int)=Builtin.Range.rangeSize lo hi 1:=by rw[rangeSize_one];split<;>lia
  show IsRangeIter _ _ (lo+((0:Nat):Int)*1) ((((hi-lo).toNat:Nat):Int)-((0:Nat):Int)) 1;rw[e1,Z];exact aV _ rfl
 .have e:b=(s.heap.push { cls:=.type "range",data:=.fields #[.int lo t,.int hi u,.int 1 v]}).objs.size:=by simpa using hb
  subst e;exact g.W6 (aH _) (g.Am.fresh (aH _))
def pj(ta:TA):TI:=fun σ H R=>ta σ H fun vs H1=>∃j:Int,vs=[.int j]/\-(2^62)<=j/\j<2^62/\R (UR 0 j.toNat) H1
def pU(ta:TA):TI:=fun σ H R=>ta σ H fun vs H1=>∃i j:Int,vs=[.int i,.int j]/\(-(2^62)<=i/\i<2^62/\-(2^62)<=j/\j<2^62)/\R (UR i (j-i).toNat) H1
def C4{a:Expr}{ta:TA}{p pos:Pos}(hg:Gl X "range")(hm:X.mg "range" = none)(ha:PA X [a] ta)(Z:starEach [a] X.env=[(false,eval a X.env)]:=by rfl):PI X tg (.Call (.Name "range" p) [a] [] pos) (pj ta):=by
 intro pins s σ H R I h;refine Call_ (HN I hg hm boot_range (bZ (BA (ha pos pins s σ H _ I h) fun us s1 ⟨vs,H1,I1,U,g⟩=>?_) Z rfl));obtain⟨j,e,g,Y,q⟩:=g;subst e;cases U with
 |cons r M=>
  cases M;obtain⟨t,rfl⟩:=r;exact call_range_1 (We I1 AC AC g Y (by simpa using q))
def eN{a b:Expr}{ta:TA}{p pos:Pos}(hg:Gl X "range")(hm:X.mg "range" = none)(ha:PA X [a,b] ta)(hs:starEach [a,b] X.env=[(false,eval a X.env),(false,eval b X.env)]:=by rfl)(g:starEach [b] X.env=[(false,eval b X.env)]:=by rfl):PI X tg (.Call (.Name "range" p) [a,b] [] pos) (pU ta):=by
 intro pins s σ H R I h;refine Call_ (HN I hg hm boot_range (bZ (BA (ha pos pins s σ H _ I h) fun us s1 ⟨vs,H1,I1,Y,U⟩=>?_) (by rw[hs,g]) (by rw[g];rfl)));obtain⟨i,j,e,⟨U,q2,q3,q4⟩,q⟩:=U;subst e;cases Y with
 |cons r M=>
  cases M with
  |cons Z M=>
   cases M;obtain⟨t,rfl⟩:=r;obtain⟨t',rfl⟩:=Z;exact call_range_2 (We I1 U q2 q3 q4 q)
def rh(U:TI)(g:TG)(tb:TS):TS:=fun D σ H=>U σ H fun J H1=>∃W:Nat->Nat->St->Hp->Prop,(∃m,W 0 m σ H1)/\∀i m σ H,W i m σ H ->
 (J.stop i H/\D.nx σ H)\/(J.go i H/\∃N:St->Hp->Prop,(∀I H',N I H'->∃R,R<m/\W (i+1) R I H')/\∀x H',J.F6 i H x H'->g x σ H' fun M Y=>tb {D with nx:=N,ct:=N,bk:=D.nx} M Y)
def OU(fp:uF)(h:Heap):List (AD×Obj):=fp.filterMap fun b=>(h.get? b).map fun o=>(b,o)
def Ku{fp:uF}{h:Heap}{b:AD}{o:Obj}(hb:b∈fp)(e:h.get? b=some o):(b,o)∈OU fp h:=List.mem_filterMap.mpr ⟨b,hb,by rw[e];rfl⟩
def dG{fp:uF}{h:Heap}{p:AD×Obj}(g:p∈OU fp h):p.1∈fp/\h.get? p.1=some p.2:=by
 obtain⟨b,hb,e⟩:=List.mem_filterMap.mp g;cases q:h.get? b with
 |none=>rw[q]at e;cases e
 |some o=>
  rw[q]at e;have I:(b,o)=p:=ao e;subst I;exact⟨hb,q⟩
def Inv.pinned{pins:Db}{σ:St}{H:Hp}{s:SD}{fp:uF}(I:Cl)(hf:∀b∈fp,KW X pins H b)(R:∀b∈fp,∃o,s.heap.get? b=some o/\∀v,o.data≠.cell v):Inv X (pins++OU fp s.heap) σ H s :=
 I.YA fun p M=>(aQ.mp M).elim (fun z=>I.pin p (aa _ z)) fun z=>by
  obtain⟨hb,e⟩:=dG z;obtain⟨U,f1,f2,_⟩:=hf p.1 hb;obtain⟨o,g,d⟩:=R p.1 hb;rw[e]at g;cases g;exact⟨e,U,f1,f2,d⟩
def Inv.M8{pins g:Db}{σ:St}{H:Hp}{s:SD}(I:Inv X (pins++g) σ H s):Inv X pins σ H s:=I.YA fun p M=>I.pin p (aa _ (bO _ M))
def Bg{iter:Expr}{body:uG}{wi:TI}{g:TG}{tb:TS}{pos:Pos}(hp:PassesOwn At X.A X.env X.xe)(hc:X.calm=true)(hi:PI X tg iter wi)(hg:PG X tg g)(hb:J9 X body tb) (hs:∀x,foldedSetIterable iter X.env x=pure x:=by intro _;rfl):PS X (.For tg iter body [] pos) (rh wi g tb):=by
 intro pins s σ H D I h;refine wpAny_For (BA (hi pins s σ H _ I h) fun v s1 h1=>BA h1 fun itv s2 h2=>?_) hs;obtain⟨it,fp,tn,J,H2,e,I2,T,st2,f2,W,⟨m0,w0⟩,turn⟩:=h2;subst e;have Y:∀ {H':Hp},(∀b∈fp,H' b=none)->∀b∈fp,KW X pins H' b:=fun hn b hb=>⟨hn b hb,(f2 b hb).2⟩;refine codeAny_forLoop_any (fun n s'=>∃i U H',Inv X pins U H' s'/\tn i s'.heap/\(∀b∈fp,H' b=none)/\W i n U H') ?_ m0 ⟨0,σ,H2,I2,st2,fun b hb=>(f2 b hb).1,w0⟩;rintro n s3 ⟨i,R,H3,I3,st3,fr3,w3⟩;rcases turn i n R H3 w3 with ⟨stop,qn⟩|⟨go,N,hN,step⟩
 .refine wpAny_passesOwn hp (BA (T.done X rfl rfl rfl hc i pins s3 R H3 X.xe I3 (Y fr3) st3 stop) fun r s4 ⟨hr,I4⟩=>?_);subst hr;exact wpAny_execs_nil ⟨R,H3,I4,qn⟩
 .refine wpAny_passesOwn hp (BA (T.item X rfl rfl rfl hc i pins s3 R H3 X.xe I3 (Y fr3) st3 go) fun r s4 ⟨u,hr,h4⟩=>?_);subst hr;refine wpAny_passesOwn hp (BA h4 fun _ s5 ⟨x,H5,I5,r5,y5,st5,fr5⟩=>?_);have I5':=I5.pinned (Y fr5) (T.obj _ _ st5);refine wpAny_passesOwn hp (BA (hg _ s5 R H5 x u _ I5' r5 (step x H5 y5)) fun _ s6 ⟨σ6,H6,I6,q6⟩=>?_);refine wpAny_passesOwn hp (BA (hb _ s6 σ6 H6 _ I6 q6) fun f s7 q7=>?_);have again:∀ {M:St} {H7:Hp},Inv X (pins++OU fp s5.heap) M H7 s7->N M H7->∃m,m<n/\∃i U H',Inv X pins U H' s7/\tn i s7.heap/\(∀b∈fp,H' b=none)/\W i m U H':=fun {M H7} Z n7=>by
   obtain⟨m',hm,w7⟩:=hN M H7 n7;refine⟨m',hm,i+1,M,H7,Z.M8,T.keep _ _ _ st5 fun b hb o e=>(Z.pin (b,o) (aa _ (aa _ (Ku hb e)))).1,fun b hb=>?_,w7⟩;obtain⟨o,e,d⟩:=T.obj _ _ st5 b hb;exact(Z.pin (b,o) (aa _ (aa _ (Ku hb e)))).2.1
  cases f with
  |next=>obtain⟨M,H7,Z,n7⟩:=q7;exact again Z n7
  |cont=>obtain⟨M,H7,Z,n7⟩:=q7;exact again Z n7
  |brk=>obtain⟨M,H7,Z,q7⟩:=q7;exact⟨M,H7,Z.M8,q7⟩
  |ret v=>obtain⟨x7,M,H7,Z,r7,q7⟩:=q7;exact⟨x7,M,H7,Z.M8,r7,q7⟩
end
def CI{K:Fg}{a:AD}{xs:uD}{g:TG}{tb:TS}{D:Ends}{σ:St}{H:Hp}(Pv:Nat->St->Hp->Prop)(h0:Pv 0 σ H)(hl:∀i σ H,i<=xs.length->Pv i σ H->AU K H a xs) (hs:∀i x σ H,xs[i]? = some x->Pv i σ H->g x σ H fun I U=>tb {D with nx:=Pv (i+1),ct:=Pv (i+1),bk:=D.nx} I U)(hd:∀σ H,Pv xs.length σ H->D.nx σ H):∃W:Nat->Nat->St->Hp->Prop,(∃m,W 0 m σ H)/\∀i m σ H,W i m σ H ->((YI K a).stop i H/\D.nx σ H)\/((YI K a).go i H/\∃N:St->Hp->Prop,(∀M H',N M H'->∃Y,Y<m/\W (i+1) Y M H')/\∀x H',(YI K a).F6 i H x H'->g x σ H' fun I U=>tb {D with nx:=N,ct:=N,bk:=D.nx} I U):=by
 refine⟨fun i m σ H=>m=xs.length-i/\i<=xs.length/\Pv i σ H,⟨xs.length,by simp,Nat.zero_le _,h0⟩,?_⟩;rintro i m σ H ⟨rfl,hi,p⟩;have q:=hl i σ H hi p;by_cases R:i<xs.length
 .refine .inr ⟨⟨xs,xs[i],q,by simp[R]⟩,Pv (i+1),fun M H' Z=>⟨xs.length-(i+1),by lia,rfl,R,Z⟩,fun x H' y=>?_⟩;obtain⟨e,y⟩:=y;subst e;exact hs i x σ _ (y xs q) p
 .have e:i=xs.length:=by lia
  subst e;exact .inl ⟨⟨xs,q,Nat.le_refl _⟩,hd σ H p⟩
def kO{K:Fg}{a:AD}{xs:uD}{g:TG}{tb:TS}{D:Ends}{σ:St}{H:Hp}(Pv:Nat->St->Hp->Prop)(h0:Pv 0 σ H)(hl:∀i σ H,i<=xs.length->Pv i σ H->Al K H a xs) (hs:∀i x σ H,xs[i]? = some x->Pv i σ H->g x σ H fun I U=>tb {D with nx:=Pv (i+1),ct:=Pv (i+1),bk:=D.nx} I U)(hd:∀σ H,Pv xs.length σ H->D.nx σ H):∃W:Nat->Nat->St->Hp->Prop,(∃m,W 0 m σ H)/\∀i m σ H,W i m σ H ->((YL K a).stop i H/\D.nx σ H)\/((YL K a).go i H/\∃N:St->Hp->Prop,(∀M H',N M H'->∃Y,Y<m/\W (i+1) Y M H')/\∀x H',(YL K a).F6 i H x H'->g x σ H' fun I U=>tb {D with nx:=N,ct:=N,bk:=D.nx} I U):=by
 refine⟨fun i m σ H=>m=xs.length-i/\i<=xs.length/\Pv i σ H,⟨xs.length,by simp,Nat.zero_le _,h0⟩,?_⟩;rintro i m σ H ⟨rfl,hi,p⟩;have q:=hl i σ H hi p;by_cases R:i<xs.length
 .refine .inr ⟨⟨xs,xs[i],q,by simp[R]⟩,Pv (i+1),fun M H' Z=>⟨xs.length-(i+1),by lia,rfl,R,Z⟩,fun x H' y=>?_⟩;obtain⟨e,y⟩:=y;subst e;exact hs i x σ _ (y xs q) p
 .have e:i=xs.length:=by lia
  subst e;exact .inl ⟨⟨xs,q,Nat.le_refl _⟩,hd σ H p⟩
def GY{lo:Int}{n:Nat}{g:TG}{tb:TS}{D:Ends}{σ:St}{H:Hp}(Pv:Nat->St->Hp->Prop)(h0:Pv 0 σ H) (hs:∀i σ H,i<n->Pv i σ H->g (.int (lo+i)) σ H fun I U=>tb {D with nx:=Pv (i+1),ct:=Pv (i+1),bk:=D.nx} I U)(hd:∀σ H,Pv n σ H->D.nx σ H):∃W:Nat->Nat->St->Hp->Prop,(∃m,W 0 m σ H)/\∀i m σ H,W i m σ H ->((UR lo n).stop i H/\D.nx σ H)\/((UR lo n).go i H/\∃N:St->Hp->Prop,(∀M H',N M H'->∃Y,Y<m/\W (i+1) Y M H')/\∀x H',(UR lo n).F6 i H x H'->g x σ H' fun I U=>tb {D with nx:=N,ct:=N,bk:=D.nx} I U):=by
 refine⟨fun i m σ H=>m=n-i/\i<=n/\Pv i σ H,⟨n,by simp,Nat.zero_le _,h0⟩,?_⟩;rintro i m σ H ⟨rfl,hi,p⟩;by_cases R:i<n
 .refine .inr ⟨R,Pv (i+1),fun M H' Z=>⟨n-(i+1),by lia,rfl,R,Z⟩,fun x H' y=>?_⟩;obtain⟨e,y⟩:=y;subst e y;exact hs i σ _ R p
 .have e:i=n:=by lia
  subst e;exact .inl ⟨aH _,hd σ H p⟩
def LW{c:TT}{tb:TS}{D:Ends}{σ:St}{H:Hp}(Pv:St->Hp->Prop)(I:St->Hp->Nat)(h0:Pv σ H) (U:∀σ H,Pv σ H->c σ H fun b H1=>if b=true then tb {D with nx:=fun g H'=>Pv g H'/\I g H'<I σ H,ct:=fun g H'=>Pv g H'/\I g H'<I σ H,bk:=D.nx} σ H1 else D.nx σ H1) (mono:∀σ H Q M,(∀b H1,Q b H1->M b H1)->c σ H Q->c σ H M):cX c tb D σ H:=by
 refine⟨fun m σ H=>m=I σ H/\Pv σ H,⟨_,rfl,h0⟩,?_⟩;rintro m σ H ⟨rfl,p⟩;refine mono σ H _ _ (fun b H1 q=>?_) (U σ H p);cases b with
 |true=>exact⟨_,fun g H' ⟨R,l⟩=>⟨_,l,rfl,R⟩,q⟩
 |false=>exact q
abbrev R2:=V->V->Hp->VK->Prop
def Dp(X:Cx)(f:VL->VL->Sem VL)(r:R2):Prop :=
 ∀(pins:Db) (s:SD) (σ:St) (H:Hp) (x y:V) (v u:VL) (Q:VK),Inv X pins σ H s->RelV x v->RelV y u->r x y H Q ->
  wpAny At X.A (f v u) (EP X pins σ Q) X.xe s
def nh(X:Cx)(f:VL->Sem VL)(r:V->Hp->VK->Prop):Prop :=
 ∀(pins:Db) (s:SD) (σ:St) (H:Hp) (x:V) (v:VL) (Q:VK),Inv X pins σ H s->RelV x v->r x H Q ->
  wpAny At X.A (f v) (EP X pins σ Q) X.xe s
def I0(X:Cx)(f:VL)(r:List V->Hp->VK->Prop):Prop :=
 ∀(pins:Db) (s:SD) (σ:St) (H:Hp) (xs:IR) (us:List VL) (Q:VK),Inv X pins σ H s->Vals xs us->r xs H Q ->
  wpAny At X.A (call f us) (EP X pins σ Q) X.xe s
def ia(r:R2)(ta tb:TE):TE:=fun σ H Q=>ta σ H fun x H1=>tb σ H1 fun y g=>r x y g Q
def tK(r:V->Hp->VK->Prop)(ta:TE):TE:=fun σ H Q=>ta σ H fun x H1=>r x H1 Q
def rI(C:Int->Int->Prop)(g:Int->Int->V):R2:=fun x y H Q=>∃i j,x=.int i/\y=.int j/\C i j/\Q (g i j) H
def UG(g:Int->Int->V):R2:=fun x y H Q=>∃i j,x=.int i/\y=.int j/\Q (g i j) H
def rU(g:Int->V):V->Hp->VK->Prop:=fun x H Q=>∃i,x=.int i/\Q (g i) H
section
variable{X:Cx}{a b:Expr}{ta tb:TE}{pos:Pos}
def fF(ha:PE X a ta)(hb:PE X b tb){pins:Db}{s:SD}{σ:St}{H:Hp}{R:V->V->Hp->Prop}(I:Cl) (h:ta σ H fun x H1=>tb σ H1 fun y g=>R x y g){Q:tj}{f:VL->VL->Sem VL} (hf:∀v u s2 x y g,Inv X pins σ g s2->RelV x v->RelV y u->R x y g->wpAny At X.A (f v u) Q X.xe s2):wpAny At X.A (eval a X.env) (fun v U=>wpAny At X.A (eval b X.env) (fun u M=>wpAny At X.A (f v u) Q X.xe M) X.xe U) X.xe s:=by
 refine BA (ha pins s σ H _ I h) fun v s1 ⟨x,H1,I1,Z,q1⟩=>?_;refine BA (hb pins s1 σ H1 _ I1 q1) fun u s2 ⟨y,g,I2,Y,q2⟩=>?_;exact hf v u s2 x y g I2 Z Y q2
def Ae{op:Operator}{r:R2}(R:Dp X (binaryOp op) r)(ha:PE X a ta)(hb:PE X b tb):PE X (.BinOp a op b pos) (ia r ta tb):=by
 intro pins s σ H Q I h;exact wpAny_BinOp (fF ha hb I h fun v u s2 x y Y U M g q=>R pins s2 σ Y x y v u Q U M g q)
def Ux{op:UnaryOp}{r:V->Hp->VK->Prop}(R:nh X (unaryOp op) r)(ha:PE X a ta):PE X (.UnaryOp op a pos) (tK r ta):=by
 intro pins s σ H Q I h;exact UnaryOp_ (BA (ha pins s σ H _ I h) fun v s1 ⟨x,H1,U,g,M⟩=>R pins s1 σ H1 x v Q U g M)
def YO{f:VL->VL->Sem VL}{C:Int->Int->Prop}{g:Int->Int->Int} (rule:∀(i j:Int) (t u:Tok) (s:SD) (Q:tj) (E:tj),C i j->Q (.int (g i j) s.toks) {s with toks:=s.toks+1}->wpAny At X.A (f (.int i t) (.int j u)) Q E s):Dp X f (rI C fun i j=>.int (g i j)):=by
 intro pins s σ H x y v u Q I U R h;obtain⟨i,j,rfl,rfl,Y,q⟩:=h;obtain⟨t,rfl⟩:=U;obtain⟨M,rfl⟩:=R;exact rule i j t M s _ _ Y ⟨.int (g i j),H,I.tok _,⟨_,rfl⟩,q⟩
def lL{f:VL->VL->Sem VL}{g:Int->Int->Int} (rule:∀(i j:Int) (t u:Tok) (s:SD) (Q:tj) (E:tj),Q (.int (g i j) s.toks) {s with toks:=s.toks+1}->wpAny At X.A (f (.int i t) (.int j u)) Q E s):Dp X f (UG fun i j=>.int (g i j)):=by
 intro pins s σ H x y v u Q I U R h;obtain⟨i,j,rfl,rfl,q⟩:=h;obtain⟨t,rfl⟩:=U;obtain⟨M,rfl⟩:=R;exact rule i j t M s _ _ ⟨.int (g i j),H,I.tok _,⟨_,rfl⟩,q⟩
def fB{f:VL->VL->Sem VL}{g:Int->Int->Bool} (rule:∀(i j:Int) (t u:Tok) (s:SD) (Q:tj) (E:tj),Q (.bool (g i j)) s->wpAny At X.A (f (.int i t) (.int j u)) Q E s):Dp X f (UG fun i j=>.bl (g i j)):=by
 intro pins s σ H x y v u Q I U R h;obtain⟨i,j,rfl,rfl,q⟩:=h;obtain⟨t,rfl⟩:=U;obtain⟨M,rfl⟩:=R;exact rule i j t M s _ _ ⟨.bl (g i j),H,I,rfl,q⟩
def rp(i j:Int):Prop:=0<j/\j<1073741824
def rK(i j:Int):Prop:=0<=j/\j<=1000000/\i.natAbs<2^64
def Sk(i j:Int):Prop:=(-(2^64)<i/\i<2^64)\/(-(2^64)<j/\j<2^64)
def Sk.ok{i j:Int}(h:Sk i j):IntMulOk i j:=by
 rcases h with ⟨I,g⟩|⟨I,g⟩
 .exact .of_left (intBits_le_64 I g)
 .exact .of_right (intBits_le_64 I g)
def Cf:Dp X (binaryOp .Add) (UG fun i j=>.int (i+j)):=lL fun _ _ _ _ _ _ _ q=>add_int q
def HQ:Dp X (binaryOp .Sub) (UG fun i j=>.int (i-j)):=lL fun _ _ _ _ _ _ _ q=>sub_int q
def jq:Dp X (binaryOp .FloorDiv) (rI rp fun i j=>.int (i / j)):=YO fun i j _ _ _ _ _ g q=>by
 have M:(0:Int)<j:=g.1;have I:j<1073741824:=g.2;exact floordiv_int AC (by rw[Int.fdiv_eq_ediv_of_nonneg i AC];exact q) (.inl (PyProof.noPylong_small AC))
def Me:Dp X (binaryOp .Mod) (rI (fun _ j=>0<j) fun i j=>.int (i % j)):=YO fun i j _ _ _ _ _ g q=>by
 have I:(0:Int)<j:=g;exact mod_int' AC (by rw[Int.fmod_eq_emod_of_nonneg i AC];exact q)
def Mg:Dp X (binaryOp .Mod) (rI (fun _ j=>j≠0) fun i j=>.int (i.fmod j)):=YO fun _ _ _ _ _ _ _ g q=>mod_int' g q
def Rq:Dp X (binaryOp .Pow) (rI rK fun i j=>.int (i^j.toNat)):=YO fun _ _ _ _ _ _ _ g q=>pow_int_small g.1 g.2.1 g.2.2 q
def tH{f:VL->Sem VL}{g:Int->Int} (rule:∀(i:Int) (t:Tok) (s:SD) (Q:tj) (E:tj),Q (.int (g i) s.toks) {s with toks:=s.toks+1}->wpAny At X.A (f (.int i t)) Q E s):nh X f (rU fun i=>.int (g i)):=by
 intro pins s σ H x v Q I M h;obtain⟨i,rfl,q⟩:=h;obtain⟨t,rfl⟩:=M;exact rule i t s _ _ ⟨.int (g i),H,I.tok _,⟨_,rfl⟩,q⟩
def Rn:nh X (unaryOp .USub) (rU fun i=>.int (-i)):=tH fun _ _ _ _ _ q=>neg_int q
end
def oP:V->V->Bool
 |.Bj,.Bj=>true|.Bj,.int _=>true|.int _,.Bj=>true|.Bj,.bl _=>true|.bl _,.Bj=>true|.Bj,.str _=>true|.str _,.Bj=>true
 |.int _,.int _=>true|.bl _,.bl _=>true|.str _,.str _=>true|.OV _,.OV _=>true
 |.int _,.str _=>true|.str _,.int _=>true|.bl _,.str _=>true|.str _,.bl _=>true
 |_,_=>false
def sx:R2:=fun x y H Q=>oP x y=true/\Q (.bl (decide (x=y))) H
def su:R2:=fun x y H Q=>oP x y=true/\Q (.bl (!decide (x=y))) H
def YJ{i j:Int}:decide (V.int i=V.int j)=(i==j):=by
 rw[(NI)];simp
def cN{i j:Bool}:decide (V.bl i=V.bl j)=(i==j):=by
 rw[(NI)];simp
def YM{i j:Str}:decide (V.str i=V.str j)=(i==j):=by
 rw[(NI)];simp
def Xs{i j:Array UInt8}:decide (V.OV i=V.OV j)=(i.toList==j.toList):=by
 rw[(NI)];cases i;cases j;simp
section
variable{X:Cx}{a b c:Expr}{ta tb:TE}{pos:Pos}
def Bh{pins:Db}{σ:St}{H:Hp}{s:SD}{Q:VK}{k g:Bool}(I:Cl)(q:Q (.bl k) H)(e:k=g):EP X pins σ Q (.bool g) s:=by
 subst e;exact⟨.bl k,H,I,rfl,q⟩
def K0:Dp X (compareOp .Eq) sx:=by
 intro pins s σ H x y v u Q I U g h;obtain⟨R,q⟩:=h;cases x with
 |Bj=>
  cases U;cases y with
  |Bj=>cases g;exact PySem.EqNone.eq_none_none (Bh I q Do)
  |bl j=>cases g;exact PySem.EqNone.eq_none_bool (Bh I q Do)
  |int j=>obtain⟨M,rfl⟩:=g;exact PySem.EqNone.eq_none_int (Bh I q Do)
  |str j=>obtain⟨M,rfl⟩:=g;exact PySem.EqNone.eq_none_str (Bh I q Do)
  |_=>exact absurd (show false=true from R) aO
 |bl i=>
  cases U;cases y with
  |Bj=>cases g;exact PySem.EqNone.eq_bool_none (Bh I q Do)
  |bl j=>cases g;exact eq_bool (Bh I q cN)
  |str j=>obtain⟨M,rfl⟩:=g;exact PySem.EqMixed.eq_bool_str (Bh I q Do)
  |_=>exact absurd (show false=true from R) aO
 |int i=>
  obtain⟨t,rfl⟩:=U;cases y with
  |Bj=>cases g;exact PySem.EqNone.eq_int_none (Bh I q Do)
  |int j=>obtain⟨M,rfl⟩:=g;exact eq_int (Bh I q YJ)
  |str j=>obtain⟨M,rfl⟩:=g;exact PySem.EqMixed.eq_int_str (Bh I q Do)
  |_=>exact absurd (show false=true from R) aO
 |str i=>
  obtain⟨t,rfl⟩:=U;cases y with
  |Bj=>cases g;exact PySem.EqNone.eq_str_none (Bh I q Do)
  |bl j=>cases g;exact PySem.EqMixed.eq_str_bool (Bh I q Do)
  |int j=>obtain⟨M,rfl⟩:=g;exact PySem.EqMixed.eq_str_int (Bh I q Do)
  |str j=>obtain⟨M,rfl⟩:=g;exact eq_str (Bh I q YM)
  |_=>exact absurd (show false=true from R) aO
 |OV i=>
  obtain⟨t,rfl⟩:=U;cases y with
  |OV j=>obtain⟨M,rfl⟩:=g;exact PySem.W.eq_bytes (Bh I q Xs)
  |_=>exact absurd (show false=true from R) aO
 |_=>cases y<;>exact absurd (show false=true from R) aO
def Ks:Dp X (compareOp .NotEq) su:=by
 intro pins s σ H x y v u Q I U g h;obtain⟨R,q⟩:=h;cases x with
 |Bj=>
  cases U;cases y with
  |Bj=>cases g;exact PySem.EqNone.ne_none_none (Bh I q Do)
  |bl j=>cases g;exact PySem.EqNone.ne_none_bool (Bh I q Do)
  |int j=>obtain⟨M,rfl⟩:=g;exact PySem.EqNone.ne_none_int (Bh I q Do)
  |str j=>obtain⟨M,rfl⟩:=g;exact PySem.EqNone.ne_none_str (Bh I q Do)
  |_=>exact absurd (show false=true from R) aO
 |bl i=>
  cases U;cases y with
  |Bj=>cases g;exact PySem.EqNone.ne_bool_none (Bh I q Do)
  |bl j=>cases g;exact ne_bool (Bh I q (bA not cN))
  |str j=>obtain⟨M,rfl⟩:=g;exact PySem.EqMixed.ne_bool_str (Bh I q Do)
  |_=>exact absurd (show false=true from R) aO
 |int i=>
  obtain⟨t,rfl⟩:=U;cases y with
  |Bj=>cases g;exact PySem.EqNone.ne_int_none (Bh I q Do)
  |int j=>obtain⟨M,rfl⟩:=g;exact ne_int (Bh I q (bA not YJ))
  |str j=>obtain⟨M,rfl⟩:=g;exact PySem.EqMixed.ne_int_str (Bh I q Do)
  |_=>exact absurd (show false=true from R) aO
 |str i=>
  obtain⟨t,rfl⟩:=U;cases y with
  |Bj=>cases g;exact PySem.EqNone.ne_str_none (Bh I q Do)
  |bl j=>cases g;exact PySem.EqMixed.ne_str_bool (Bh I q Do)
  |int j=>obtain⟨M,rfl⟩:=g;exact PySem.EqMixed.ne_str_int (Bh I q Do)
  |str j=>obtain⟨M,rfl⟩:=g;exact ne_str (Bh I q (bA not YM))
  |_=>exact absurd (show false=true from R) aO
 |OV i=>
  obtain⟨t,rfl⟩:=U;cases y with
  |OV j=>obtain⟨M,rfl⟩:=g;exact PySem.W.ne_bytes (Bh I q (bA not Xs))
  |_=>exact absurd (show false=true from R) aO
 |_=>cases y<;>exact absurd (show false=true from R) aO
def ND:Dp X (compareOp .Lt) (UG fun i j=>.bl (decide (i<j))):=fB fun _ _ _ _ _ _ _ q=>lt_int q
def Ms:Dp X (compareOp .Gt) (UG fun i j=>.bl (decide (j<i))):=fB fun _ _ _ _ _ _ _ q=>gt_int q
def ZM:Dp X (compareOp .GtE) (UG fun i j=>.bl (decide (j<=i))):=fB fun _ _ _ _ _ _ _ q=>ge_int q
def mi:Dp X (compareOp .Is) (fun x y H Q=>y=.Bj/\Q (.bl (decide (x=.Bj))) H):=by
 intro pins s σ H x y v u Q I g M h;obtain⟨rfl,q⟩:=h;cases M;refine is_none_gen (Bh I q ?_);cases x<;>first
  |(cases g;rfl)
  |(obtain⟨t,rfl⟩:=g;rfl)
def Dp.or{f:VL->VL->Sem VL}{r R:R2}(h:Dp X f r)(h':Dp X f R):Dp X f (fun x y H Q=>r x y H Q\/R x y H Q):=by
 intro pins s σ H x y v u Q I M g q;rcases q with q|q
 .exact h pins s σ H x y v u Q I M g q
 .exact h' pins s σ H x y v u Q I M g q
def Ap(b:Expr){op:CmpOp}(h:op≠.In:=by decide)(g:op≠.NotIn:=by decide):behindInMarks op b=false:=by
 have M:(op==CmpOp.In)=false:=by cases op<;>first|rfl|exact absurd rfl h
 have I:(op==CmpOp.NotIn)=false:=by cases op<;>first|rfl|exact absurd rfl g
 cases b<;>simp[behindInMarks,M,I]
def PN{op:CmpOp}{r:R2}(R:Dp X (compareOp op) r)(ha:PE X a ta)(hb:PE X b tb)(hm:behindInMarks op b=false):PE X (.Compare a [op] [b] pos) (ia r ta tb):=by
 intro pins s σ H Q I h;exact wpAny_Compare1 (fF ha hb I h fun v u s2 x y Y U M g q=>R pins s2 σ Y x y v u Q U M g q) hm
def o7(t:TE):TT:=fun σ H Q=>t σ H fun x H'=>∃k,x=.bl k/\Q k H'
def BM{op:CmpOp}{r:R2}(ho:Dp X (compareOp op) r)(ha:PE X a ta)(hb:PE X b tb)(hm:behindInMarks op b=false):PT X (.Compare a [op] [b] pos) (o7 (ia r ta tb)):=by
 intro pins s σ H Q I h;refine wpAny_isTrue_Compare1 (BA (ha pins s σ H _ I h) fun v s1 ⟨x,H1,I1,R,Z⟩=>BA (hb pins s1 σ H1 _ I1 Z) fun u s2 ⟨y,H2,I2,M,Y⟩=>
  BA (ho pins s2 σ H2 x y v u _ I2 R M Y) fun c s3 ⟨z,H3,I3,g,k,e,U⟩=>?_) hm
 subst e;cases g;exact wpAny_truthy_bool ⟨H3,I3,U⟩
def Oj:(sizeLine:Nat)<2^63:=by rw[sizeLine_eq];decide
def Y9:Dp X (binaryOp .Add) (fun x y H Q=>∃i j,x=.str i/\y=.str j/\i.length+j.length<=sizeLine/\Q (.str (i++j)) H):=by
 intro pins s σ H x y v u Q I R M h;obtain⟨i,j,rfl,rfl,U,q⟩:=h;obtain⟨t,rfl⟩:=R;obtain⟨g,rfl⟩:=M;exact add_str (fun g tk=>⟨.str (i++j),H,I.tok _,⟨_,rfl⟩,q⟩) U
def vals1{x:V}{us:tf}(r:Vals [x] us):∃u,us=[u]/\RelV x u:=by
 cases r with
 |cons I g=>cases g;exact⟨_,rfl,I⟩
def vals2{x y:V}{us:tf}(r:Vals [x,y] us):∃u g,us=[u,g]/\RelV x u/\RelV y g:=by
 cases r with
 |cons U R=>
  cases R with
  |cons M I=>cases I;exact⟨_,_,rfl,U,M⟩
def Qs:I0 X (.builtin "abs") (fun xs H Q=>∃i,xs=[.int i]/\Q (.int (if i<0 then -i else i)) H):=by
 intro pins s σ H xs us Q I r h;obtain⟨i,rfl,q⟩:=h;obtain⟨u,rfl,t,rfl⟩:=vals1 r;exact call_abs_int fun u tk=>⟨.int (if i<0 then -i else i),H,I.tok _,⟨_,rfl⟩,q⟩
def Zq(M:X.calm=true):I0 X (.builtin "max") (fun xs H Q=>∃i j,xs=[.int i,.int j]/\Q (.int (if j > i then j else i)) H):=by
 intro pins s σ H xs us Q I r h;obtain⟨i,j,rfl,q⟩:=h;obtain⟨u,R,rfl,⟨t,rfl⟩,⟨U,rfl⟩⟩:=vals2 r;refine max_two_ints (I.ok.hd M) fun h' tk k=>⟨_,H,I.kept k,?_,q⟩;by_cases g:j > i
 .rw[if_pos g,if_pos g];exact⟨_,rfl⟩
 .rw[if_neg g,if_neg g];exact⟨_,rfl⟩
end
structure gx(h:Heap)(x dx C:Addr)(mA:Str->Option Value):Prop where
 obj:h.get? x=some (PySem.W.instObj C dx)
 ns:h.Ns1 dx mA
 ne:dx≠x
def eO{h:Heap}{dx:AD}{mA:tm}(n:h.Ns1 dx mA):∃od,h.get? dx=some od/\∀name,PySem.W.lookIn name od=some (mA name):=by
 obtain⟨o,I,Y,R,hd,hk,_,hm⟩:=n;refine⟨o,R,fun name=>?_⟩;have e:=hm name;unfold nsFind findBy at e;rw[<-Array.find?_toList]at e;unfold PySem.W.lookIn;rw[hd];dsimp only;split
 .rename_i y q;rw[q]at e;exact bA some e
 .rename_i q;rw[q]at e;have a:I.toList.any (·.refKey)=false:=by
   rw[List.any_eq_false];intro y M;obtain⟨z,t,g⟩:=hk y (Array.mem_toList_iff.mp M);simp[DictEntry.refKey,g]
  have U:¬I.toList.any (·.refKey)=true:=by rw[a];exact aO
  rw[if_neg U];exact bA some e
def gx.look{h:Heap}{x dx C:AD}{mA:tm}(I:gx h x dx C mA):∃od,PySem.W.InstAt h x (PySem.W.instObj C dx) C (some od)/\∀name,PySem.W.lookIn name od=some (mA name) :=
 let⟨od,g,M⟩:=eO I.ns
 ⟨od,⟨I.obj,rfl,rfl,g⟩,M⟩
def Ld.some_of{v:V}{o:Option VL}(r:Ld (some v) o):∃u,o=some u/\RelV v u:=by
 cases o with
 |none=>exact(show False from r).elim
 |some u=>exact⟨u,rfl,r⟩
section
variable{P:F0b}{w:F0c}{H:Hp}{h:Heap}{a C dx:AD}{fs:List (Str×V)}
def jS(Am:Dd P w H h)(e:H a=some (.ins C dx fs)):∃mA,gx h a dx C mA/\(∀f,Ld (fs.lookup f) (mA f))/\PySem.Within mA (fs.map (·.1))/\fs.length<=1000/\H dx=some (.own a):=by
 obtain⟨d,z,ne,ob,mA,n,r,q⟩:=(show CJ P w H h a (.ins C dx fs) from Am a _ e);exact⟨mA,⟨ob,n,ne⟩,r,q,z,d⟩
end
structure YF(K:Fg)(C:Addr):Prop where
 pg:PySem.W.plainGet K C Str.empty=true
 hd:PySem.W.hasDictIn K C=true
 po:PySem.W.plainOver K C=true
 sa:PySem.W.findIn K IO "__setattr__" = some (some (.builtin "object.__setattr__"))
def YF.get{K:Fg}{C:AD}(c:YF K C)(f:Str):PySem.W.plainGet K C f=true:=c.pg
section
variable{X:Cx}{pins:Db}{σ:St}{H:Hp}{s:SD}{A:F0d}{E:tj}{Q:tj}{c:VL}{b:Bool}
inductive IY(K:Fg)(H:Hp):V->Value->Prop where
 |Bj:IY K H .Bj (.type "NoneType")
 |bl (x:Bool):IY K H (.bl x) (.type "bool")
 |int (i:Int):IY K H (.int i) (.type "int")
 |str (x:Str):IY K H (.str x) (.type "str")
 |Xo (x:UInt64):IY K H (.Xo x) (.type "float")
 |lst {a:Addr} {xs:IR} (e:H a=some (.lst xs)):IY K H (.ref a) (.type "list")
 |JH {a:Addr} {o:Obj} {xs:IR} (e:H a=some (.JH o (.lst xs))):IY K H (.ref a) (.type "list")
 |tup {a:Addr} {xs:IR} (e:H a=some (.tup xs)):IY K H (.ref a) (.type "tuple")
 |dK {a:Addr} {kvs:List (Key×V)} (e:H a=some (.dK kvs)):IY K H (.ref a) (.type "dict")
 |dT {a:Addr} {kvs:IF} (e:H a=some (.dT kvs)):IY K H (.ref a) (.type "dict")
 |ins {a C dx:Addr} {fs:List (Str×V)} (e:H a=some (.ins C dx fs)) (cl:YF K C) (ha:PySem.W.findIn K IO "__class__" = some (some (.builtin "object.__class__")))
   (hn:PySem.W.specialIn K (.builtin "object.__class__") "__get__" = some (some (.builtin "getset_descriptor.__get__"))) (htk:PySem.W.takesIn K (.builtin "object.__class__")=some true)
   (hm:PySem.W.mroIn K C (.type "object")=some true):IY K H (.ref a) IO
def Z9{x:V}{u t:VL}(I:Cl)(g:RelV x u)(ty:IY X.K H x t)(e:PySem.W.kitOne X.K t c=some b)(h:∀tk,Q (.bool b) {s with toks:=tk}):wpAny At A (call (.builtin "isinstance") [u,c]) Q E s:=by
 cases ty with
 |Bj=>cases (show u=Value.none from g);exact bE PySem.W.kitx_none I.Gf True.intro e Hq h
 |bl y=>cases (show u=Value.bool y from g);exact bE PySem.W.kitx_bool I.Gf True.intro e Hq h
 |int i=>obtain⟨t,q⟩:=(show ∃t,u=Value.int i t from g);cases q;exact bE PySem.W.kitx_int I.Gf True.intro e Hq h
 |str y=>obtain⟨t,q⟩:=(show ∃t,u=Value.str y t from g);cases q;exact bE PySem.W.kitx_str I.Gf True.intro e Hq h
 |Xo y=>obtain⟨t,q⟩:=(show ∃t,u=Value.float y t from g);cases q;exact bE PySem.W.kitx_float I.Gf True.intro e Hq h
 | @lst a xs ea=>
  cases (show u=Value.ref a from g);obtain⟨_,_,n,_,M⟩:=(show CJ X.prog X.w H s.heap a (.lst xs) from I.Am a _ ea);exact bE PySem.W.kitx_list I.Gf ⟨_,M,rfl⟩ e Hq h
 | @JH a ob xs ea=>
  cases (show u=Value.ref a from g);obtain⟨_,_,_,n,_,M⟩:=(show CJ X.prog X.w H s.heap a (.JH ob (.lst xs)) from I.Am a _ ea);exact bE PySem.W.kitx_list I.Gf ⟨_,M,rfl⟩ e Hq h
 | @tup a xs ea=>
  cases (show u=Value.ref a from g);obtain⟨_,_,_,p⟩:=(show CJ X.prog X.w H s.heap a (.tup xs) from I.Am a _ ea);obtain⟨o,M,R,_⟩:=p;exact bE PySem.W.kitx_tuple I.Gf ⟨o,M,R⟩ e Hq h
 | @dK a kvs ea=>
  cases (show u=Value.ref a from g);obtain⟨_,_,vs,_,p⟩:=(show CJ X.prog X.w H s.heap a (.dK kvs) from I.Am a _ ea);obtain⟨o,U,Y,M,R,_⟩:=p;exact bE PySem.W.kitx_dict I.Gf ⟨o,M,R.1⟩ e Hq h
 | @dT a kvs ea=>
  cases (show u=Value.ref a from g);obtain⟨_,_,xs,_,o,U,Y,M,R,_⟩:=(show CJ X.prog X.w H s.heap a (.dT kvs) from I.Am a _ ea);exact bE PySem.W.kitx_dict I.Gf ⟨o,M,R.1⟩ e Hq h
 | @ins a C dx fs ea cl ha hn htk hm=>
  cases (show u=Value.ref a from g);obtain⟨mA,O,_⟩:=jS I.Am ea;obtain⟨od,J,_⟩:=O.look;exact bE (PySem.W.kitx_own (cl.get _) cl.hd ha hn htk hm) I.Gf J e Hq h
end
structure C9(k:Nat)(A:Around):Prop where
 hd:A.handled=none
 dp:A.depth+3*k+5<recursionLimit
 un:A.units+16*k+200<cLine
def C9.mono{j k:Nat}{A:F0d}(r:C9 k A)(h:j<=k:=by decide):C9 j A:=⟨r.hd,by have:=r.dp;lia,by have:=r.un;lia⟩
def C9.deeper{k:Nat}{A:F0d}(r:C9 (k+1) A)(env:Env):C9 k (A.deeper env) :=
 ⟨r.hd,by have:=r.dp;show A.depth+1+3*k+5<_;lia,by have:=r.un;show A.units+3+16*k+200<_;lia⟩
def C9.depth{k:Nat}{A:F0d}(r:C9 k A):A.depth<recursionLimit:=by have:=r.dp;lia
def C9.units{k:Nat}{A:F0d}(r:C9 k A):A.units+64<cLine:=by have:=r.un;lia
def fY:TA:=fun _ H Q=>Q [] H
def qZ(ta:TE)(tr:TA):TA:=fun σ H Q=>ta σ H fun x H1=>tr σ H1 fun xs g=>Q (x::xs) g
section
variable{X:Cx}{e:Expr}{es:t8}{te:TE}{t:TA}{pos:Pos}
def AB:PA X [] fY:=fun _ _ _ _ H Q I h=>Calls.spliced_nil ⟨[],H,I,.nil,h⟩
def AA(ha:PE X e te)(Z:PA X es t)(Y:starEach (e::es) X.env=(false,eval e X.env)::starEach es X.env:=by rfl):PA X (e::es) (qZ te t):=by
 intro pos pins s σ H Q I h;rw[Y];show wpAny _ _ (spliced ((false,eval e X.env)::backTo pos (starEach es X.env))) _ _ s;refine Calls.spliced_cons (BA (ha pins s σ H _ I h) fun u s1 ⟨x,H1,I1,M,U⟩=>?_);exact BA (Z pos pins s1 σ H1 _ I1 U) fun us s2 ⟨xs,H2,I2,g,R⟩=>⟨x::xs,H2,I2,.cons M g,R⟩
def q9(t:TA):TE:=fun σ H Q=>t σ H fun xs H1=>xs.length<=sizeLine/\∀p,H1 p=none->Q (.ref p) (upd H1 p (.tup xs))
def sJ(t:TA):TE:=fun σ H Q=>t σ H fun xs H1=>xs.length<=sizeLine/\∀p,H1 p=none->Q (.ref p) (upd H1 p (.lst xs))
def Eh{M}(h:PA X es t):PE X (.Tuple es M pos) (q9 t):=by
 intro pins s σ H Q I R;refine wpAny_Tuple_spliced (BA (h pos pins s σ H _ I R) fun us s1 ⟨xs,H1,g,r,z,q⟩=>⟨by rw[<-r.length];exact z,?_⟩);have hf:H1 s1.heap.objs.size=none:=g.Am.fresh (aH _);refine⟨.ref s1.heap.objs.size,upd H1 s1.heap.objs.size (.tup xs),g.laid (t':=s1.toks) (fun b u e=>aE _ e) (aH _) ?_,rfl,q _ hf⟩;exact⟨z,us,r,⟨_,Heap.get?_push_size _ rfl,rfl,_,rfl⟩⟩
def Cu(h:PA X es t):PE X (.List es pos) (sJ t):=by
 intro pins s σ H Q I M;refine wpAny_List_spliced (BA (h pos pins s σ H _ I M) fun us s1 ⟨xs,H1,g,r,z,q⟩=>⟨by rw[<-r.length];exact z,?_⟩);have hf:H1 s1.heap.objs.size=none:=g.Am.fresh (aH _);refine⟨.ref s1.heap.objs.size,upd H1 s1.heap.objs.size (.lst xs),g.laid (t':=s1.toks) (fun b u e=>aE _ e) (aH _) ?_,rfl,q _ hf⟩;exact⟨z,us,0,r,Heap.get?_push_size _ rfl⟩
end
abbrev Sp:=List V->Hp->VK->XK->Prop
abbrev Iw:=List Env->Hp->SD->XK->VL->SD->Prop
structure Yw(P:Program)(w:World)(K:Fg)(mg:Str->Option Value)(base:Heap)(A:Around)(outer:List Env)(s:Shared)(H:Hp):Prop where
 frames:A.frames=some outer
 mod:Mod K mg base
 bs:∀b o,base.get? b=some o->s.heap.get? b=some o/\H b=none
 RU:base.objs.size<=s.heap.objs.size
 Ig:s.heap.FunFrames base outer
 RM:∀b∈GR outer,H b=none
 Am:Dd P w H s.heap
 bare:AllBare s.gens
 kt:KTb mg H
def CE(outer:uH)(P:F0b)(w:F0c)(H:Hp)(s:SD)(Q:VK)(u:VL)(s':SD):Prop :=
 ∃v H',s'.os=s.os/\AllBare s'.gens/\Un (GR outer) [] H H' s.heap s'.heap/\Dd P w H' s'.heap/\RelV v u/\Q v H'
def CR(CX:Iw)(outer:uH)(P:F0b)(w:F0c)(H:Hp)(s:SD)(Q:VK)(E:XK)(r:Result)(s':SD):Prop :=
 match r with
 |.ok (.ret u)=>CE outer P w H s Q u s'
 |.ok _=>False
 |.error e=>CX outer H s E e s'
structure AH(P:Program)(w:World)(K:Fg)(mg:Str->Option Value)(base:Heap)(CX:Iw)(k:Nat)(f:Addr)(fd:FuncData)(ps:List Str)(sp:Sp):Prop where
 len:∀vs H Q E,sp vs H Q E->vs.length=ps.length
 run:∀(A:Around) (outer:List Env) (s:Shared) (H:Hp) (args:Args) (us:List Value) (vs:IR) (Q:VK) (E:XK),C9 k A->Yw P w K mg base A outer s H->BindsTo s fd args (ps.zip us)->Vals vs us->sp vs H Q E ->
  codeAny (model P w) A (.call (.ref f) args) (CR CX outer P w H s Q E) s
def AH.mono{P:F0b}{w:F0c}{K:Fg}{mg:tm}{base:Heap}{CX:Iw}{j k:Nat}{f:AD}{fd:F0a}{ps:t7}{sp:Sp}(F:AH P w K mg base CX j f fd ps sp)(h:j<=k:=by decide):AH P w K mg base CX k f fd ps sp:=⟨F.len,fun A outer s H args us vs Q E g=>F.run A outer s H args us vs Q E (g.mono h)⟩
def AH.imp{P:F0b}{w:F0c}{K:Fg}{mg:tm}{base:Heap}{CX:Iw}{k:Nat}{f:AD}{fd:F0a}{ps:t7}{sp g:Sp}(F:AH P w K mg base CX k f fd ps sp) (h:∀vs H Q E,g vs H Q E->sp vs H Q E):AH P w K mg base CX k f fd ps g :=
 ⟨fun vs H Q E q=>F.len vs H Q E (h _ _ _ _ q),fun A outer s H args us vs Q E R U hb I M=>F.run A outer s H args us vs Q E R U hb I (h _ _ _ _ M)⟩
section
variable{X:Cx}{pins:Db}{σ:St}{H:Hp}{s s':SD}
def Inv.lO(I:Cl):Yw X.prog X.w X.K X.mg X.base X.A X.stack s H :=
 ⟨I.ok.frames,I.ok.mod,I.bs,Nat.le_trans I.ok.RU I.sz,I.stack,I.Sv,I.Am,I.bare,I.kt⟩
def Inv.after{Q:VK}{u:VL}(I:Cl)(h:CE X.stack X.prog X.w H s Q u s'):EP X pins σ Q u s':=by
 obtain⟨v,H',os,bare,un,Am,r,q⟩:=h;obtain⟨R,g,d,t,M⟩:=s';obtain rfl:M=s.os:=os;exact⟨v,H',I.call (h':=R) (g':=g) (d':=d) (t':=t) (ch:=[]) un Am bare (fun b z=>absurd z Do),r,q⟩
end
def U5(sp:Sp)(g:uD)(E:XK)(t:TA):TE:=fun σ H Q=>t σ H fun vs H1=>sp (vs++g) H1 Q E
def Binds(K:Fg)(fd:F0a)(ps:t7)(ds:tf):Prop :=
 ∀(s:SD) (us:List VL),K.In s.heap->(us++ds).length=ps.length->BindsTo s fd ⟨us,[]⟩ (ps.zip (us++ds))
def Binds.all{K:Fg}{fd:F0a}{ps:t7}(h:∀us:tf,us.length=ps.length->bindArgs fd ⟨us,[]⟩=pure (ps.zip us)):Binds K fd ps []:=fun s us _ g=>by
 rw[(Od)]at g ⊢;exact .of_eq (h us g)
def Passes(CX:Iw)(X:Cx)(E:XK):Prop:=∀(pins:Db) (σ:St) (H:Hp) (s:SD) (e:VL) (s':SD),Inv X pins σ H s->CX X.stack H s E e s'->X.xe e s'
section
variable{X:Cx}{CX:Iw}{k:Nat}{f:AD}{fd:F0a}{ps:t7}{sp:Sp}{dvs:uD}{ds:tf}{E:XK}{x:Str}{p pos:Pos}{e:Expr}{es:t8}{t:TA}
def eS{pins:Db}{σ:St}{H:Hp}{s:SD}{Q:VK}{us:tf}{vs:uD}(F:AH X.prog X.w X.K X.mg X.base CX k f fd ps sp)(U:C9 k X.A)(hb:Binds X.K fd ps ds)(hd:Vals dvs ds)(R:Passes CX X E) (I:Cl)(r:Vals vs us)(h:sp (vs++dvs) H Q E):wpAny At X.A (call (.ref f) us) (EP X pins σ Q) X.xe s:=by
 have M:Vals (vs++dvs) (us++ds):=r.append hd;have Y:(us++ds).length=ps.length:=by rw[<-M.length];exact F.len _ _ _ _ h
 refine wpAny_call (codeAny_mono (F.run X.A X.stack s H ⟨us,[]⟩ (us++ds) (vs++dvs) Q E U I.lO (hb s us I.Gf Y) M h) fun r s' g=>?_);cases r with
 |error e=>exact R pins σ H s e s' I g
 |ok Z=>
  cases Z with
  |ret u=>exact I.after g
  |next=>exact False.elim g
  |brk=>exact False.elim g
  |cont=>exact False.elim g
def X3(F:AH X.prog X.w X.K X.mg X.base CX k f fd ps sp)(Y:C9 k X.A)(hg:Gl X x)(hm:X.mg x=some (.ref f))(hk:PySem.W.keepIn X.K (.ref f)=true)(hb:Binds X.K fd ps ds)(hd:Vals dvs ds)(U:Passes CX X E) (ha:PA X (e::es) t)(M:GE=false:=by decide)(Z:starEach (e::es) X.env=(false,eval e X.env)::starEach es X.env:=by rfl)(g:(backTo pos (starEach es X.env)).any (·.1)=false:=by rfl):PE X G6 (U5 sp dvs E t):=by
 intro pins s σ H Q I h;refine bf (JK I hg hm ?_ M);refine PySem.W.callWith_K (h₀:=X.base) I.ok.mod.P4 hk (BA (ha pos pins s σ H _ I h) fun us s1 ⟨vs,H1,R,r,q⟩=>⟨R.Gf,?_⟩) Z g;exact eS F Y hb hd U R r q
def iE(F:AH X.prog X.w X.K X.mg X.base CX k f fd ps sp)(R:C9 k X.A)(hg:Gl X x)(hm:X.mg x=some (.ref f))(hk:PySem.W.keepIn X.K (.ref f)=true)(hb:Binds X.K fd ps ds)(hd:Vals dvs ds)(M:Passes CX X E) (g:GE=false:=by decide):PE X (.Call (.Name x p) [] [] pos) (U5 sp dvs E fY):=by
 intro pins s σ H Q I h;refine bf (JK I hg hm ?_ g);exact PySem.W.callWith_K0 I.Gf hk (eS (us:=[]) F R hb hd M I .nil h)
end
structure Ab(N P:List Str)(sc:Scope):Prop where
 kind:sc.kind=.function
 co:sc.isCoroutine=false
 gen:sc.isGenerator=false
 nd:N.Nodup
 pre:N.take P.length=P
 par:∀x∈P,sc.names.lookup x=some .local\/sc.names.lookup x=some .cell
 mH:∀y∈sc.names,y.2≠.free
def Be{N P:t7}{sc:Scope}(a:sc.kind=.function:=by rfl)(b:sc.isCoroutine=false:=by rfl)(c:sc.isGenerator=false:=by rfl)(d:N.Nodup:=by decide +kernel)(e:N.take P.length=P:=by rfl)(f:∀x ∈ P, sc.names.lookup x=some .local \/ sc.names.lookup x=some .cell:=by decide +kernel)(g:∀y ∈ sc.names, y.2 ≠ .free:=by decide +kernel):Ab N P sc:=⟨a, b, c, d, e, f, g⟩
theorem Ti{kindOf:Str->Option NameKind}{x:Str}:∀ {binds:List (Str×VL)} {m:Str->Option VL},(∀v,(x,v) ∉ binds)->bindL kindOf binds m x=m x
 |[],_,_=>rfl
 |(n,v)::r,m,h=>by
  unfold bindL;rw[Ti fun w g=>h w (aN _ g)];split
  .have:x≠n:=by rintro rfl;exact h v aR
   simp[this]
  .rfl
theorem T5{kindOf:Str->Option NameKind}{x:Str}:∀ {binds:List (Str×VL)} {m:Str->Option VL},(∀v,(x,v) ∉ binds)->bindC kindOf binds m x=m x
 |[],_,_=>rfl
 |(n,v)::r,m,h=>by
  unfold bindC;rw[T5 fun w g=>h w (aN _ g)];split
  .rfl
  .have:x≠n:=by rintro rfl;exact h v aR
   simp[this]
theorem TY{kindOf:Str->Option NameKind}{x:Str}{v:VL}:∀ {P:List Str} {vs:List VL} {i:Nat} {m:Str->Option VL},P.Nodup->P[i]? = some x->vs[i]? = some v->kindOf x=some .local ->
  bindL kindOf (P.zip vs) m x=some v
 |[],_,_,_,_,h,_,_=>by simp at h
 |_::_,[],_,_,_,_,h,_=>by simp at h
 |p::P,w::vs,0,m,nd,I,g,hk=>by
  simp at I g;subst I;subst g;show bindL kindOf ((p,w)::P.zip vs) m p=_;unfold bindL;rw[Ti fun v M=>(cC.mp nd).1 (bh M).1,if_pos hk];simp
 |p::P,w::vs,i+1,m,nd,I,g,hk=>by
  show bindL kindOf ((p,w)::P.zip vs) m x=_;unfold bindL;exact TY (i:=i) (cC.mp nd).2 (by simpa using I) (by simpa using g) hk
theorem UN{kindOf:Str->Option NameKind}{x:Str}{v:VL}:∀ {P:List Str} {vs:List VL} {i:Nat} {m:Str->Option VL},P.Nodup->P[i]? = some x->vs[i]? = some v->kindOf x≠some .local ->
  bindC kindOf (P.zip vs) m x=some v
 |[],_,_,_,_,h,_,_=>by simp at h
 |_::_,[],_,_,_,_,h,_=>by simp at h
 |p::P,w::vs,0,m,nd,I,g,hk=>by
  simp at I g;subst I;subst g;show bindC kindOf ((p,w)::P.zip vs) m p=_;unfold bindC;rw[T5 fun v M=>(cC.mp nd).1 (bh M).1,if_neg hk];simp
 |p::P,w::vs,i+1,m,nd,I,g,hk=>by
  show bindC kindOf ((p,w)::P.zip vs) m x=_;unfold bindC;exact UN (i:=i) (cC.mp nd).2 (by simpa using I) (by simpa using g) hk
def start(N:t7)(vs:uD):St:=vs.map some++List.replicate (N.length-vs.length) none
def Cz(CX:Iw)(P:F0b)(w:F0c)(K:Fg)(mg:tm)(base:Heap)(N:t7)(qual:Str)(scope:Scope)(f:AD)(cd:VL)(A:F0d)(outer:uH)(s:SD)(H:Hp)(E:XK):Cx where
 prog:=P
 w:=w
 K:=K
 mg:=mg
 base:=base
 A:=A.deeper (envOfC qual scope s.heap.objs.size f cd)
 N:=N
 s₀:=s
 H₀:=H
 env:=envOfC qual scope s.heap.objs.size f cd
 outer:=outer
 stack:=envOfC qual scope s.heap.objs.size f cd::outer
 ex:=[]
 calm:=true
 fn:=fun _=>true
 pn:=[]
 xe:=fun e s'=>wpAny (model P w) (A.deeper (envOfC qual scope s.heap.objs.size f cd)) (leaving (envOfC qual scope s.heap.objs.size f cd) e) (fun _ s''=>CX outer H s E e s'') (fun e' s''=>CX outer H s E e' s'') s'
def Wh{sc:Scope}{n:Nat}{x:Str}(h:sc.names.lookup x=some .cell):∃c,(cellsFrom n sc.names []).lookup x=some c:=by
 have q:=PySem.W.cellsFrom_some sc.names n [] (.inl h);exact Option.isSome_iff_exists.mp q
def Z3{CX:Iw}{P:F0b}{w:F0c}{K:Fg}{mg:tm}{base:Heap}{N ps:t7}{qual:Str}{scope:Scope}{f:AD}{cd:VL}{A:F0d}{outer:uH}{s s1:SD}{H:Hp}{E:XK}{us:tf}{vs:uD} (S:Ab N ps scope)(hd:A.handled=none)(I:Yw P w K mg base A outer s H)(hl:vs.length=ps.length)(r:Vals vs us) (x:InCallC s s.heap.objs.size (bindL (envOfC qual scope s.heap.objs.size f cd).kindOf (ps.zip us) fun _=>none) (cellsFrom (s.heap.objs.size+1) scope.names []) (bindC (envOfC qual scope s.heap.objs.size f cd).kindOf (ps.zip us) fun _=>none) s1):Inv (Cz CX P w K mg base N qual scope f cd A outer s H E) [] (start N vs) H s1:=by
 have hpl:ps.length<=N.length:=by have:=bA List.length S.pre;rw[(JZ)]at this;lia
 obtain⟨Z,tk,rfl,hk⟩:=x.done;have M:∀b:AD,b ∉ (Cz CX P w K mg base N qual scope f cd A outer s H E).ex:=fun b z=>absurd (show b∈([]:List AD) from z) Do;refine⟨⟨I.mod,S.kind,rfl,rfl,Nat.le_refl _,fun y z c Z g=>?_,fun y R=>?_,fun y c _ h=>?_,fun _=>hd,Around.frames_deeper I.frames,.inr ⟨rfl,rfl⟩,fun b z=>absurd z (M b),I.bs,I.RU,fun b _ _=>M b,fun b z=>absurd z (M b),I.Ig,I.RM,I.kt⟩,
  rfl,I.bare,Un.kept hk,⟨_,x.toInCall.ns,fun i y v Z g h3=>?_⟩,fun y c h=>⟨_,x.cell y c h⟩,I.Am.fresh (aH _),fun y c h=>?_,fun p Y=>absurd (show p∈([]:List (AD×Obj)) from Y) Do,I.Am.kept hk,?_⟩
 .exact name_of_addr x.apart (PySem.mem_of_lookup Z) (PySem.mem_of_lookup g)
 .have R:scope.names.lookup y=some .cell\/scope.names.lookup y=some .free:=R;rcases R with R|R
  .exact Wh R
  .exact absurd rfl (S.mH _ (PySem.mem_of_lookup R))
 .exact ba (x.above y c (PySem.mem_of_lookup h))
 .have hi:i<vs.length:=by
   unfold start at g;by_cases hi:i<vs.length
   .exact hi
   .rw[List.getElem?_append_right (by simpa using hi)]at g;rw[List.getElem?_replicate]at g;split at g<;>cases g
  have ha:vs[i]? = some v:=by
   unfold start at g;rw[List.getElem?_append_left (by simpa using hi),(BC)]at g;cases e:vs[i]? with
   |none=>rw[e]at g;cases g
   |some a=>rw[e]at g;cases g;rfl
  obtain⟨u,hu,rv⟩:=r.get ha;have Y:ps[i]? = some y:=by
   rw[<-S.pre,List.getElem?_take_of_lt AC];exact Z
  have U:ps.Nodup:=by rw[<-S.pre];exact S.nd.sublist (List.take_sublist _ _)
  refine⟨u,rv,?_⟩;rcases S.par y (aI Y) with k|k
  .exact .inl ⟨k,TY U Y hu k⟩
  .obtain⟨c,e⟩:=Wh (n:=s.heap.objs.size+1) k;refine .inr ⟨.inl k,c,e,?_⟩;have q:=x.cell y c e;rw[UN U Y hu (by show scope.names.lookup y≠_;rw[k];decide)]at q;exact q
 .exact I.Am.fresh (ba (x.above y c (PySem.mem_of_lookup h)))
 .unfold start;show _=N.length;rw[(Ge),(Ah),List.length_replicate]
  lia
def jE{CX:Iw}{P:F0b}{w:F0c}{K:Fg}{mg:tm}{base:Heap}{k:Nat}{f:AD}{name qual:Str}{params:Arguments}{g:uG}{scope:Scope}{dV kV doc pm cdv ct oc:VL}{an od:Option AD} {osl:Array (Option VL)}{N ps:t7}{sp:Sp}(lk:K.lookup f=some ⟨oc,od,.func (PySem.W.fnOf name qual params g scope dV kV doc pm an cdv ct),osl⟩)(hcd:PySem.W.codeIn K cdv qual=true)(S:Ab N ps scope) (len:∀vs H Q E,sp vs H Q E->vs.length=ps.length) (U:∀(A:F0d) (outer:uH) (s:SD) (H:Hp) (vs:uD) (Q:VK) (E:XK),C9 k (A.deeper (envOfC qual scope s.heap.objs.size f cdv))->sp vs H Q E ->∃t,J9 (Cz CX P w K mg base N qual scope f cdv A outer s H E) g t/\t { nx:=fun _ H'=>Q .Bj H',rt:=Q} (start N vs) H):AH P w K mg base CX (k+1) f (PySem.W.fnOf name qual params g scope dV kV doc pm an cdv ct) ps sp:=by
 refine⟨len,fun A outer s H args us vs Q E hr e0 hb r Z=>?_⟩;have hl:=len _ _ _ _ Z;have KX:K.In s.heap:=e0.mod.P4.keeps fun b o e=>(e0.bs b o e).1;have lim:s.heap.NoLimit:=e0.mod.nolimit.keeps fun b o e=>(e0.bs b o e).1;have R:∀y∈ps.zip us,scope.names.lookup y.1=some .local\/(scope.names.lookup y.1=some .cell/\((cellsFrom (s.heap.objs.size+1) scope.names []).lookup y.1).isSome=true):=fun⟨n,v⟩ hy=>by
  rcases S.par n (bh hy).1 with q|q
  .exact .inl q
  .exact .inr ⟨q,PySem.W.cellsFrom_some _ _ _ (.inl q)⟩
 refine codeAny_call_function hr.depth (KX _ _ lk) rfl S.co S.gen rfl (PySem.W.codeRec_of KX hcd) (hb _ _ _ _ ?_);refine wpAny_newFunctionEnv_cells S.kind R fun env he s1 x=>?_;subst he;refine⟨lim.keeps x.toInCall.keep,codeAny_func ?_⟩;obtain⟨t,ht,hq⟩:=U A outer s H vs Q E (hr.deeper _) Z;have I:Inv (Cz CX P w K mg base N qual scope f cdv A outer s H E) [] (start N vs) H s1:=Z3 S hr.hd e0 hl r x;refine aW (ht [] s1 (start N vs) H _ I hq) (fun fl s' Y=>?_) fun e s' Y=>Y;have fin:∀ {M:St} {H':Hp} {v:V} {u:VL},Inv (Cz CX P w K mg base N qual scope f cdv A outer s H E) [] M H' s'->RelV v u->Q v H'->CE outer P w H s Q u s' :=
  fun {M H' v u} J rv q=>⟨v,H',J.os,J.bare,J.base,J.Am,rv,q⟩
 cases fl with
 |ret u=>
  obtain⟨v,M,H',J,rv,q⟩:=Y;exact fin J rv q
 |next=>
  obtain⟨M,H',J,q⟩:=Y;exact fin (v:=V.Bj) (u:=Value.none) J rfl q
 |brk=>
  obtain⟨_,_,_,q⟩:=Y;exact False.elim q
 |cont=>
  obtain⟨_,_,_,q⟩:=Y;exact False.elim q
section
variable{X:Cx}{x:Str}{p pos:Pos}{e:Expr}{es:t8}{t:TA}{id T:String}{r:List V->Hp->VK->Prop}
def qq(r:List V->Hp->VK->Prop)(t:TA):TE:=fun σ H Q=>t σ H fun vs H1=>r vs H1 Q
def Ar(hc:I0 X (.builtin id) r)(hg:Gl X x)(hm:X.mg x=none)(Y:bootBuiltins x=some (.builtin id))(ha:PA X (e::es) t)(hn:x ≠ "__name__":=by decide)(M:GE=false:=by decide) (Z:starEach (e::es) X.env=(false,eval e X.env)::starEach es X.env:=by rfl)(g:(backTo pos (starEach es X.env)).any (·.1)=false:=by rfl):PE X G6 (qq r t):=by
 intro pins s σ H Q I h;refine bf (HN I hg hm Y ?_ hn M);exact PyProof.Rows.callWith_builtin1 (BA (ha pos pins s σ H _ I h) fun us s1 ⟨vs,H1,I1,R,U⟩=>hc pins s1 σ H1 vs us Q I1 R U) Z g
def Tt(hc:I0 X (.type T) r)(hg:Gl X x)(hm:X.mg x=none)(Y:bootBuiltins x=some (.type T))(ha:PA X (e::es) t)(hn:x ≠ "__name__":=by decide)(M:GE=false:=by decide) (Z:starEach (e::es) X.env=(false,eval e X.env)::starEach es X.env:=by rfl)(g:(backTo pos (starEach es X.env)).any (·.1)=false:=by rfl):PE X G6 (qq r t):=by
 intro pins s σ H Q I h;refine bf (HN I hg hm Y ?_ hn M);exact bZ (BA (ha pos pins s σ H _ I h) fun us s1 ⟨vs,H1,I1,R,U⟩=>hc pins s1 σ H1 vs us Q I1 R U) Z g
end
end L2
namespace HT
open PySem PyProof.Rows
section
variable{prog:F0b}{w:F0c}{A:F0d}{E:tj}{s:SD}
def jn{t b:AD}{vs g:tf}{Q:tj}(ht:IsTup s.heap t vs.toArray)(hb:IsTup s.heap b g.toArray)(hv:vs≠[]) (h1:g=[]->Q (.ref t) s)(h2:g≠[]->Q (.ref s.heap.objs.size) {s with heap:=s.heap.push { cls:=.type "tuple",data:=.seq (vs++g).toArray} }) (hsz:vs.length+g.length<=sizeLine):wpAny Da A (binaryOp .Add (.ref t) (.ref b)) Q E s:=by
 obtain⟨⟨cls,dd,data,sl⟩,ho,hc,n,hd⟩:=id ht;obtain⟨⟨cls2,Y,data2,M⟩,I,U,n2,R⟩:=id hb;simp only at hc hd U R;subst hc hd U R;have e:vs.toArray++g.toArray=(vs++g).toArray:=by simp
 by_cases Z:g=[]
 .exact concat_meets ⟨_,ho,rfl⟩ ⟨_,I,rfl⟩ noFill_tuple_add seq_tuple_add PySem.F.slot_tuple_add PySem.F.entry_tuple_add (PySem.F.args_tuple_add_2 _ _)
   (tuple_addW1 t b vs.toArray g.toArray n n2 dd Y sl M (by simpa using hv) (by simp[Z])) ⟨ho,I,h1 Z⟩
 .refine concat_meets ⟨_,ho,rfl⟩ ⟨_,I,rfl⟩ noFill_tuple_add seq_tuple_add PySem.F.slot_tuple_add PySem.F.entry_tuple_add (PySem.F.args_tuple_add_2 _ _)
   (tuple_addW2 t b vs.toArray g.toArray n n2 dd Y sl M (by simpa using hv) (by simpa using Z) (by rw[(DM),(DM)];exact hsz)) ⟨ho,I,?_⟩
  rw[e];exact h2 Z
def BW(n d:Nat):Option Int->Nat
 |none=>d
 |some v=>if v<0 then(v+(n:Int)).toNat else min v.toNat n
def LR(n d:Nat):BW n d none=d:=rfl
def K4(n d k:Nat):BW n d (some (k:Int))=min k n:=by
 show(if(k:Int)<0 then((k:Int)+(n:Int)).toNat else min (k:Int).toNat n)=min k n;rw[if_neg AC,(OD)]
def nP(n d:Nat)(hd:d<=n)(o:uA):BW n d o<=n:=by
 cases o with
 |none=>exact hd
 |some v=>
  show(if v<0 then(v+(n:Int)).toNat else min v.toNat n)<=n;by_cases g:v<0
  .rw[if_pos g];lia
  .rw[if_neg g];exact Nat.min_le_right _ _
def YR(v:Int)(n d:Nat):(if v<0 then max (v+(n:Int)) 0 else min v (n:Int))=((BW n d (some v):Nat):Int):=by
 show(if v<0 then max (v+(n:Int)) 0 else min v (n:Int))=(((if v<0 then(v+(n:Int)).toNat else min v.toNat n):Nat):Int);by_cases g:v<0
 .simp only[if_pos g];lia
 .simp only[if_neg g];lia
def Y0(lo hi:uA)(n:Nat):Builtin.Slice.sliceAdjust lo hi 1 (n:Int)=(((BW n 0 lo:Nat):Int),((BW n n hi:Nat):Int)):=by
 have g:¬((1:Int)<0):=by lia
 unfold Builtin.Slice.sliceAdjust;simp only[g,if_false];refine Prod.ext ?_ ?_
 .cases lo with
  |none=>rfl
  |some v=>exact YR v n 0
 .cases hi with
  |none=>rfl
  |some v=>exact YR v n n
def ZV(i j:Nat):Builtin.Slice.slicePlaces (i:Int) (j:Int) 1=j-i:=by
 unfold Builtin.Slice.slicePlaces;have g:(1:Int) > 0:=by lia
 simp only[g,if_true,Int.ediv_one];split<;>lia
def RC{v:VL}{o:uA}{Q:Option Int->SD->Prop}(p:IsPart v o)(h:Q o s):wpAny Da A (Builtin.Slice.slicePartIndex v) Q E s:=by
 cases p with
 |none=>exact slicePart_none h
 |int i t=>exact slicePart_int h
def Qu{sl:AD}{R M:VL}{lo hi:uA}{n:Nat}{Q:Int×Int×Nat->SD->Prop}(Z:s.heap.IsSliceOf sl R M .none)(Y:IsPart R lo)(U:IsPart M hi) (h:Q (((BW n 0 lo:Nat):Int),1,BW n n hi-BW n 0 lo) s):wpAny Da A (Builtin.Slice.sliceApplied (.ref sl) (pure (n:Int))) Q E s:=by
 obtain⟨os,g,hcs,I⟩:=id Z;unfold Builtin.Slice.sliceApplied Builtin.Slice.sliceFields;refine Wb (Wb (aj g I (x:=R) rfl (Wb (aj g I (x:=M) rfl (Wb (aj g I (x:=.none) rfl (aA ?_)))))));refine Wb (slicePart_none ?_);show wpAny _ _ (if((1:Int)==0)=true then _ else _) _ _ s;rw[if_neg AS];refine Wb (RC Y (Wb (RC U (Wb (aA ?_)))));show wpAny _ _ (match Builtin.Slice.sliceAdjust lo hi 1 (n:Int) with|(lo,hi)=>pure (lo,(1:Int),Builtin.Slice.slicePlaces lo hi 1)) _ _ s;rw[Y0 lo hi n];show wpAny _ _ (pure (((BW n 0 lo:Nat):Int),(1:Int),Builtin.Slice.slicePlaces ((BW n 0 lo:Nat):Int) ((BW n n hi:Nat):Int) 1)) _ _ s;rw[ZV];exact aA h
def gL(xs:Array VL)(i k:Nat):((List.range k).filterMap fun(m:Nat)=>xs[((i:Int)+(m:Int)*1).toNat]?).toArray=((xs.toList.drop i).take k).toArray:=by
 have e:(fun(m:Nat)=>xs[((i:Int)+(m:Int)*1).toNat]?)=fun m=>xs[i+m]? := by
  funext m
  have:((i:Int)+(m:Int)*1).toNat=i+m:=by lia
  rw[this]
 rw[e];have:=pick_run xs i k;rw[List.filterMap_map]at this;have g:((fun x=>xs[x]?) ∘ fun x=>i+x)=fun m=>xs[i+m]?:=rfl;rw[g]at this;rw[this]
def Ph{t sl:AD}{items:Array VL}{vl Z:VL}{lo hi:uA}{Q:tj}(I:IsTup s.heap t items)(hs:s.heap.IsSliceOf sl vl Z .none)(pl:IsPart vl lo)(pu:IsPart Z hi) (hw:¬(BW items.size 0 lo=0/\BW items.size items.size hi=items.size)) (h:Q (.ref s.heap.objs.size) {s with heap:=s.heap.push { cls:=.type "tuple",data:=.seq ((items.toList.drop (BW items.size 0 lo)).take (BW items.size items.size hi-BW items.size 0 lo)).toArray} }) (hsz:items.size<=sizeLine):wpAny Da A (getItem (.ref t) (.ref sl)) Q E s:=by
 have g:sizeOk (.seq ((items.toList.drop (BW items.size 0 lo)).take (BW items.size items.size hi-BW items.size 0 lo)).toArray):=by
  show((items.toList.drop (BW items.size 0 lo)).take (BW items.size items.size hi-BW items.size 0 lo)).toArray.size<=sizeLine;rw[(DM),(JZ),(MS),(Qz)]
  lia
 have hj:BW items.size items.size hi<=items.size:=nP _ _ (aH _) hi;obtain⟨os,M,U,hds⟩:=id hs;have Y:s.TypeIs (.ref sl) "slice" := ⟨os,M,U⟩;unfold getItem
 try with_reducible refine bD ?_
 first|refine Wb (aA ?_)|skip
 refine Wb (wpAny_sequenceKey I.typeIs AS ?_);refine Wb (ak (name:=Str.ofString "__getitem__") I.typeIs PyProof.Rows.slot_tuple_getitem
  (ax PyProof.Rows.slot_tuple_getitem I.typeIs entry_tuple_getitem ?_ (args_tuple_getitem _ _)))
 show wpAny _ _ (Builtin.Tuple.tupleItemsOf (.ref t)>>=_) _ _ s;refine Wb (tupleItemsOf_ I ?_);refine Wb (wpAny_typeOf Y ?_);rw[if_pos AS];refine Wb (Qu hs pl pu ?_);have R:¬((((BW items.size 0 lo:Nat):Int)==0&&(1:Int)==1&&(BW items.size items.size hi-BW items.size 0 lo)==items.size)=true):=by
  intro q;rw[(Lh),(Lh)]at q;have q1:((BW items.size 0 lo:Nat):Int)=0:=eq_of_beq q.1.1;have q2:BW items.size items.size hi-BW items.size 0 lo=items.size:=eq_of_beq q.2;exact hw ⟨by lia,by lia⟩
 show wpAny _ _ (if(((BW items.size 0 lo:Nat):Int)==0&&(1:Int)==1&&(BW items.size items.size hi-BW items.size 0 lo)==items.size)=true then _ else _) _ _ s;rw[if_neg R,gL]
 first
  |exact Wb (m:=Builtin.Tuple.tupleExact _) (aY (aA ⟨_,rfl,wpAny_pure h⟩) g)
  |exact Wb (m:=Builtin.Tuple.tupleExact _) (aY (Wb (aA (aA ⟨_,rfl,wpAny_pure h⟩))) g)
  |exact Wb (Wb (m:=Builtin.Tuple.tupleExact _) (aY (aA (aA ⟨_,rfl,wpAny_pure h⟩)) g))
  |exact Wb (Wb (m:=Builtin.Tuple.tupleExact _) (aY (aA ⟨_,rfl,wpAny_pure h⟩) g))
end
end HT
namespace L2
open PySem PySem.Spec PyProof.Rows
abbrev TO:=St->Hp->(Option Int->Hp->Prop)->Prop
def PO(X:Cx)(e:Option Expr)(t:TO):Prop :=
 ∀(pins:Db) (s:SD) (σ:St) (H:Hp) (Q:Option Int->Hp->Prop),Inv X pins σ H s->t σ H Q ->
  wpAny At X.A (evalPart e X.env) (fun u s'=>∃o H',Inv X pins σ H' s'/\IsPart u o/\Q o H') X.xe s
def jc:TO:=fun _ H Q=>Q none H
def qI(t:TE):TO:=fun σ H Q=>t σ H fun x H1=>∃i,x=.int i/\Q (some i) H1
def intsAre_of{ns:t6}:∀ {us:tf},Vals (ns.map V.int) us->IntsAre us ns:=by
 induction ns with
 |nil=>intro us r;rw[List.map_nil]at r;cases r;exact .nil
 |cons n ns M=>
  intro us r;rw[(C0)]at r;cases r with
  |cons I g=>
   obtain⟨t,e⟩:=I;subst e;exact .cons n t (M g)
section
variable{X:Cx}{e:Expr}{te:TE}{lo hi:Option Expr}{tl th:TO}{pos p2:Pos}
def K5:PO X none jc:=by
 intro pins s σ H Q I h;rw[evalPart_none];exact aA ⟨none,H,I,.none,h⟩
def K2(h:PE X e te):PO X (some e) (qI te):=by
 intro pins s σ H Q I R;rw[evalPart_some];refine BA (h pins s σ H _ I R) fun u s1 ⟨x,H1,U,g,M⟩=>?_;obtain⟨i,rfl,q⟩:=M;obtain⟨t,rfl⟩:=g;exact⟨some i,H1,U,.int i t,q⟩
def Wm(X:Cx)(r:V->Option Int->Option Int->Hp->VK->Prop):Prop :=
 ∀(pins:Db) (s:SD) (σ:St) (H:Hp) (x:V) (v I g:VL) (lo hi:Option Int) (sl:AD) (Q:VK),Inv X pins σ H s->RelV x v->s.heap.IsSliceOf sl I g .none->IsPart I lo->IsPart g hi->r x lo hi H Q ->
  ∃T id,typeLookup (.type T) "__getitem__" = pure (some (.builtin id))/\s.TypeIs v T/\wpAny At X.A (getItem v (.ref sl)) (EP X pins σ Q) X.xe s
def Wm.or{r U:V->Option Int->Option Int->Hp->VK->Prop}(h:Wm X r)(h':Wm X U):Wm X (fun x lo hi H Q=>r x lo hi H Q\/U x lo hi H Q):=by
 intro pins s σ H x v M g lo hi sl Q I R hs Z Y q;rcases q with q|q
 .exact h pins s σ H x v M g lo hi sl Q I R hs Z Y q
 .exact h' pins s σ H x v M g lo hi sl Q I R hs Z Y q
def tI(r:V->Option Int->Option Int->Hp->VK->Prop)(te:TE)(tl th:TO):TE:=fun σ H Q=>te σ H fun x H1=>tl σ H1 fun l I=>th σ I fun u g=>r x l u g Q
def JQ{r:V->Option Int->Option Int->Hp->VK->Prop}(hr:Wm X r)(he:PE X e te)(hl:PO X lo tl)(hu:PO X hi th):PE X (.Subscript e (.Slice lo hi none p2) pos) (tI r te tl th):=by
 intro pins s σ H Q I h;refine Subscript_ (BA (he pins s σ H _ I h) fun v s1 ⟨x,H1,I1,U,q1⟩=>?_);refine wpAny_Slice (BA (hl pins s1 σ H1 _ I1 q1) fun M s2 ⟨l,H2,I2,pl,Z⟩=>BA (hu pins s2 σ H2 _ I2 Z) fun g s3 ⟨u,R,I3,pu,Y⟩=>?_);rw[evalPart_none];refine aA ?_;have I4:Inv X pins σ R {s3 with heap:=s3.heap.push { cls:=.type "slice",data:=.fields #[M,g,.none]} }:=I3.kept (t':=s3.toks) fun b ob q=>aE _ q;obtain⟨T,id,hT,ht,hg⟩:=hr pins {s3 with heap:=s3.heap.push { cls:=.type "slice",data:=.fields #[M,g,.none]} } σ R x v M g l u s3.heap.objs.size Q I4 U (Heap.IsSliceOf.new ..) pl pu Y;show wpAny At X.A (subscriptTail e (.Slice lo hi none p2) v (.ref s3.heap.objs.size)) (EP X pins σ Q) X.xe {s3 with heap:=s3.heap.push { cls:=.type "slice",data:=.fields #[M,g,.none]} };exact tail_any (ops:=[.ref s3.heap.objs.size,v]) ht hT hg (by with_unfolding_all rfl)
def Cs(xs:uD)(lo hi:uA):uD:=(xs.drop (HT.BW xs.length 0 lo)).take (HT.BW xs.length xs.length hi-HT.BW xs.length 0 lo)
def GA(xs:uD)(lo hi:uA):(Cs xs lo hi).length<=xs.length:=by
 unfold Cs;rw[(JZ),(MS)]
 lia
def rH(K:Fg):V->Option Int->Option Int->Hp->VK->Prop:=fun x lo hi H Q=>∃a xs,x=.ref a/\Al K H a xs /\
 ¬(HT.BW xs.length 0 lo=0/\HT.BW xs.length xs.length hi=xs.length)/\∀p,H p=none->Q (.ref p) (upd H p (.tup (Cs xs lo hi)))
def Vj:Wm X (rH X.K):=by
 intro pins s σ H x v vl vu lo hi sl Q I Y hs pl Z h;obtain⟨a,xs,rfl,hx,hw,q⟩:=h;cases Y;obtain⟨M,r,U,R⟩:=I.tuple hx;have g:M.toArray.size=xs.length:=by rw[(DM)];exact r.length.symm
 refine⟨"tuple",_,PyProof.Rows.slot_tuple_getitem.lookup,U.typeIs,?_⟩;refine HT.Ph U hs pl Z (by rw[g];exact hw) ?_ (by rw[g];exact R);rw[g];refine⟨.ref s.heap.objs.size,_,I.laid (t':=s.toks) (o:=.tup (Cs xs lo hi)) (fun b ob q=>aE _ q) (aH _) ?_,rfl,q _ (I.Am.fresh (aH _))⟩;exact⟨aS (GA xs lo hi) R,_,(r.drop (HT.BW xs.length 0 lo)).take (HT.BW xs.length xs.length hi-HT.BW xs.length 0 lo),IsTup.new _ _⟩
def Vals.Xy{xs:uD}{us:tf}(r:Vals xs us):us=[] ↔ xs=[]:=by
 cases r with
 |nil=>simp
 |cons _ _=>simp
end
def P5(n:Nat)(i:Int):Option Nat:=if 0<=i then(if i<n then some i.toNat else none) else if -(n:Int)<=i then some (i+n).toNat else none
def Fe{α:Type}(xs:List α)(i:Int):Option α:=(P5 xs.length i).bind fun j=>xs[j]?
def YS{n:Nat}{i:Int}{j:Nat}(h:P5 n i=some j):seqIndex? i n=some j/\j<n/\-(n:Int)<=i/\i<n:=by
 unfold P5 at h;by_cases h0:0<=i
 .rw[if_pos h0]at h;by_cases g:i<n
  .rw[if_pos g]at h;have e:i.toNat=j:=ao h;exact⟨by rw[seqIndex_of h0 g,e],by lia,by lia,g⟩
  .rw[if_neg g]at h;cases h
 .rw[if_neg h0]at h;by_cases g:-(n:Int)<=i
  .rw[if_pos g]at h;have e:(i+n).toNat=j:=ao h;exact⟨by rw[seqIndex_neg AC g,e],by lia,g,by lia⟩
  .rw[if_neg g]at h;cases h
def SI{α:Type}{xs:List α}{i:Int}{v:α}(h:Fe xs i=some v):∃j,seqIndex? i xs.length=some j/\xs[j]? = some v/\j<xs.length/\-(xs.length:Int)<=i/\i<xs.length:=by
 unfold Fe at h;cases e:P5 xs.length i with
 |none=>rw[e]at h;cases h
 |some j=>
  rw[e]at h;obtain⟨R,M,I,g⟩:=YS e;exact⟨j,R,h,M,I,g⟩
def FZ{α:Type}{xs:List α}{j:Nat}{v:α}(h:xs[j]? = some v):Fe xs (j:Int)=some v:=by
 have g:j<xs.length:=(aB.mp h).1;have e:P5 xs.length (j:Int)=some j:=by
  unfold P5;rw[if_pos AC,if_pos AC];simp
 unfold Fe;rw[e];exact h
def X5(b:Expr):Prop:=∀o i,subscripted b false o i=operate [o,i] (getItem o i)
def N7(X:Cx)(r:R2):Prop :=
 ∀(value slice:Expr) (pins:Db) (s:SD) (σ:St) (H:Hp) (x y:V) (v u:VL) (Q:VK),Inv X pins σ H s->RelV x v->RelV y u->r x y H Q ->
  subscripted slice false v u=operate [v,u] (getItem v u)->wpAny At X.A (subscriptTail value slice v u) (EP X pins σ Q) X.xe s
def tL(X:Cx)(id:String)(r:V->List V->Hp->VK->Prop):Prop :=
 ∀(pins:Db) (s:SD) (σ:St) (H:Hp) (x:V) (xs:IR) (v:VL) (us:List VL) (Q:VK),Inv X pins σ H s->RelV x v->Vals xs us->r x xs H Q ->
  wpAny At X.A (call (.builtin id) (v::us)) (EP X pins σ Q) X.xe s
section
variable{X:Cx}{a b:Expr}{ta tb:TE}{pos:Pos}
def N7.or{r R:R2}(h:N7 X r)(h':N7 X R):N7 X (fun x y H Q=>r x y H Q\/R x y H Q):=by
 intro value slice pins s σ H x y v u Q I M g q U;rcases q with q|q
 .exact h value slice pins s σ H x y v u Q I M g q U
 .exact h' value slice pins s σ H x y v u Q I M g q U
def Ao{r:R2}(U:N7 X r)(ha:PE X a ta)(hb:PE X b tb)(R:X5 b):PE X (.Subscript a b pos) (ia r ta tb):=by
 intro pins s σ H Q I h;exact Subscript_ (fF ha hb I h fun v u s2 x y Z Y M g q=>U a b pins s2 σ Z x y v u Q Y M g q (R _ _))
def er(K:Fg):R2:=fun x y H Q=>∃p xs i v,x=.ref p/\y=.int i/\AU K H p xs/\Fe xs i=some v/\Q v H
def gQ(K:Fg):R2:=fun x y H Q=>∃p xs i v,x=.ref p/\y=.int i/\Al K H p xs/\Fe xs i=some v/\Q v H
def nU:R2:=fun x y H Q=>∃z i c,x=.str z/\y=.int i/\z.length<=sizeLine/\Fe z.cps.toList i=some c/\Q (.str ⟨#[c]⟩) H
def IC:N7 X (er X.K):=by
 intro value slice pins s σ H x y v u Q I rx ry h Z;obtain⟨p,xs,i,z,rfl,rfl,hq,he,q⟩:=h;cases rx;obtain⟨t,rfl⟩:=ry;obtain⟨U,r,R,hz⟩:=I.list hq;obtain⟨j,g,h2,h3,h4,h5⟩:=SI he;obtain⟨w,ew,M⟩:=r.get h2;have hl:=r.length;have hn:=Oj;have fin:EP X pins σ Q w s:=⟨z,H,I,M,q⟩;by_cases h0:0<=i
 .have Y:i.toNat=j:=by
   rw[seqIndex_of h0 h5]at g;exact ao g
  exact item_listR R.isList h0 AC (by rw[Y];simpa using ew) fin Z
 .have Y:(i+(U.toArray.size:Int)).toNat=j:=by
   rw[seqIndex_neg AC h4]at g;rw[(DM),<-hl];exact ao g
  exact subscriptTail_builtinR (x:=w) R.isList.typeIs slot_list_getitem.lookup
   (wpAny_getItem_list_neg (Q:=fun r s'=>r=w/\EP X pins σ Q r s') R.isList AC (by rw[(DM)]<;>lia) AC (by rw[Y];simpa using ew) ⟨rfl,fin⟩) Z
def A5:N7 X (gQ X.K):=by
 intro value slice pins s σ H x y v u Q I U R h Z;obtain⟨p,xs,i,z,rfl,rfl,hq,he,q⟩:=h;cases U;obtain⟨t,rfl⟩:=R;obtain⟨Y,r,M,hz⟩:=I.tuple hq;obtain⟨j,h1,h2,h3,h4,h5⟩:=SI he;obtain⟨w,ew,g⟩:=r.get h2;have hl:=r.length;have hn:=Oj;have fin:EP X pins σ Q w s:=⟨z,H,I,g,q⟩;exact subscriptTail_builtinR (x:=w) M.typeIs slot_tuple_getitem.lookup
  (getItem_tuple (j:=j) (Q:=fun r s'=>r=w/\EP X pins σ Q r s') M AC AC (by rw[(DM),<-hl];exact h1) (by simpa using ew) ⟨rfl,fin⟩) Z
def nI:N7 X nU:=by
 intro value slice pins s σ H x y v u Q I R M h U;obtain⟨z,i,c,rfl,rfl,hz,Z,q⟩:=h;obtain⟨t,rfl⟩:=R;obtain⟨t',rfl⟩:=M;obtain⟨j,g,h2,h3,h4,h5⟩:=SI Z;have Y:z.cps.toList.length=z.length:=by simp[Str.length]
 rw[Y]at g h4 h5;have hn:=Oj;exact tail_any (typeIs_str s z t) slot_str_getitem.lookup (getItem_str (c:=c) (by
  have e1:decide (i < -(2^63:Int))=false:=bM AC;have e2:decide (i >= 2^63)=false:=bM AC;rw[e1,e2,Bool.or_false]) (by rw[g];simpa using h2) ⟨.str ⟨#[c]⟩,H,I.tok _,⟨_,rfl⟩,q⟩) U
def sq(K:Fg):R2:=fun x y H Q=>er K x y H Q\/gQ K x y H Q\/nU x y H Q
def mW:N7 X (sq X.K):=IC.or (A5.or nI)
def Ze(g:tf)(n j:Nat)(u:VL):Obj.mapSeq (·.setIfInBounds j u) { cls:=.type "list",data:=.seq g.toArray n}={ cls:=.type "list",data:=.seq (g.set j u).toArray n}:=by
 simp[Obj.mapSeq]
def Inv.lst{pins:Db}{σ:St}{H:Hp}{s:SD}{p:AD}{xs:uD}(I:Cl)(h:H p=some (.lst xs)):∃(g:tf) (n:Nat),Vals xs g/\s.heap.get? p=some { cls:=.type "list",data:=.seq g.toArray n}/\xs.length<=sizeLine:=by
 obtain⟨z,g,n,r,e⟩:=I.Am p _ h;exact⟨g,n,r,e,z⟩
def Inv.mF{pins:Db}{σ:St}{H:Hp}{s:SD}{p:AD}{xs ys:uD}{g its':tf}{n M:Nat}{f:Obj->Obj}(I:Cl)(h:H p=some (.lst xs)) (R:s.heap.get? p=some { cls:=.type "list",data:=.seq g.toArray n})(hf:f { cls:=.type "list",data:=.seq g.toArray n}={ cls:=.type "list",data:=.seq its'.toArray M})(r:Vals ys its')(hz:ys.length<=sizeLine)(t:Nat):Inv X pins σ (upd H p Id) {s with heap:=s.heap.update p f,toks:=t}:=by
 have e:(s.heap.update p f).get? p=some { cls:=.type "list",data:=.seq its'.toArray M}:=by
  rw[Heap.get?_update_self f R (by rw[hf]<;>rfl),hf]
 refine I.write (x:=p) (e:=p) (by rw[h];trivial) (.inl rfl) (fun b u hb q=>(Heap.get?_update_other _ _ (Ne.symm hb)).trans q) ⟨_,e⟩ ?_;exact⟨hz,its',M,r,e⟩
def iw:V->V->V->Hp->(Hp->Prop)->Prop:=fun o i v H Q=>∃p xs k j,o=.ref p/\i=.int k/\H p=some (.lst xs)/\P5 xs.length k=some j/\Q (upd H p (.lst (xs.set j v)))
def set_list:lA X iw:=by
 intro pins s σ H o i v ov iv u Q I ro ri rv h;obtain⟨p,xs,k,j,rfl,rfl,Y,hj,q⟩:=h;cases ro;obtain⟨t,rfl⟩:=ri;obtain⟨g,n,r,R,hz⟩:=I.lst Y;obtain⟨M,h2,h3,Z⟩:=YS hj;have U:=r.length;have hn:=Oj;have I':Inv X pins σ (upd H p (.lst (xs.set j v))) {s with heap:=s.heap.update p (Obj.mapSeq (·.setIfInBounds j u))} :=
  I.mF Y R (Ze g n j u) (r.set rv j) (by rw[List.length_set];exact hz) s.toks
 by_cases h0:0<=k
 .have hk:k.toNat=j:=by
   rw[seqIndex_of h0 Z]at M;exact ao M
  exact PySem.W.ki_setAt R h0 AC (by rw[(DM),<-U];exact Z) (by rw[hk];exact⟨_,I',q⟩)
 .have hk:(k+(g.toArray.size:Int)).toNat=j:=by
   rw[seqIndex_neg AC h3]at M;rw[(DM),<-U];exact ao M
  exact PySem.W.ki_setBack R AC (by rw[(DM),<-U];exact h3) AC (by rw[hk];exact⟨_,I',q⟩)
def WL(lo hi:uA)(n:Nat):(sliceBounds lo hi none n).1=((HT.BW n 0 lo:Nat):Int)/\(sliceBounds lo hi none n).2.1=((HT.BW n n hi:Nat):Int)/\(sliceBounds lo hi none n).2.2=1:=by
 refine⟨?_,?_,rfl⟩
 .cases lo with
  |none=>simp[sliceBounds,HT.BW]
  |some i=>
   simp only[sliceBounds,HT.BW,Option.getD_none,show(1:Int) > 0 by decide,if_true];by_cases h:i<0
   .simp only[h,if_true]<;>lia
   .simp only[h,if_false]<;>lia
 .cases hi with
  |none=>simp[sliceBounds,HT.BW]
  |some i=>
   simp only[sliceBounds,HT.BW,Option.getD_none,show(1:Int) > 0 by decide,if_true];by_cases h:i<0
   .simp only[h,if_true]<;>lia
   .simp only[h,if_false]<;>lia
def Uj(g:tf)(lo hi:uA):slicePick g.toArray lo hi none=((g.drop (HT.BW g.length 0 lo)).take (HT.BW g.length g.length hi-HT.BW g.length 0 lo)).toArray:=by
 obtain⟨R,M,I⟩:=WL lo hi g.toArray.size;unfold slicePick;rw[R,M,I];simp only[sliceRange_one,pick_run,List.size_toArray]<;>rfl
def rm(K:Fg):V->Option Int->Option Int->Hp->VK->Prop:=fun x lo hi H Q=>∃a xs,x=.ref a/\AU K H a xs/\∀p,H p=none->Q (.ref p) (upd H p (.lst (Cs xs lo hi)))
def PU:Wm X (rm X.K):=by
 intro pins s σ H x v vl vu lo hi sl Q I R hs Y U h;obtain⟨a,xs,rfl,hx,q⟩:=h;cases R;obtain⟨Z,r,M,hz⟩:=I.list hx;have g:=r.length;refine⟨"list",_,slot_list_getitem.lookup,M.isList.typeIs,?_⟩;refine wpAny_getItem_list_slice M.isList hs Y U .none Do ?_ (by rw[(DM)]<;>lia);rw[Uj,<-g];refine⟨.ref s.heap.objs.size,_,I.laid (t':=s.toks) (o:=.lst (Cs xs lo hi)) (fun b ob q=>aE _ q) (aH _) ?_,rfl,q _ (I.Am.fresh (aH _))⟩;exact⟨aS (GA xs lo hi) hz,_,0,(r.drop (HT.BW xs.length 0 lo)).take (HT.BW xs.length xs.length hi-HT.BW xs.length 0 lo),Heap.get?_push_size _ rfl⟩
def BZ:I0 X (.builtin "len") (fun xs H Q=>∃p ys,xs=[.ref p]/\(AU X.K H p ys\/Al X.K H p ys)/\Q (.int ys.length) H):=by
 intro pins s σ H xs us Q I r h;obtain⟨p,ys,rfl,M,q⟩:=h;obtain⟨u,rfl,Z⟩:=vals1 r;cases Z;have hn:=Oj;rcases M with M|M
 .obtain⟨Y,R,U,hz⟩:=I.list M;have g:=R.length;exact Calls.call_len_list U.isList (by simp only[List.size_toArray]<;>lia) ⟨.int ys.length,H,I.tok _,⟨s.toks+1,by rw[(DM),g]⟩,q⟩
 .obtain⟨Y,R,U,hz⟩:=I.tuple M;have g:=R.length;exact len_tuple U (by simp only[List.size_toArray]<;>lia) ⟨.int ys.length,H,I.tok _,⟨s.toks+1,by rw[(DM),g]⟩,q⟩
def Nj:I0 X (.type "tuple") (fun xs H Q=>∃p ys,xs=[.ref p]/\((AU X.K H p ys/\∀l,H l=none->Q (.ref l) (upd H l (.tup ys)))\/(Al X.K H p ys/\Q (.ref p) H))):=by
 intro pins s σ H xs us Q I r h;obtain⟨p,ys,rfl,h⟩:=h;obtain⟨u,rfl,rx⟩:=vals1 r;cases rx;rcases h with ⟨U,q⟩|⟨U,q⟩
 .obtain⟨g,M,R,Y⟩:=I.list U;have Z:=M.length;refine call_tuple_list R.isList (fun h' kp=>?_) (by simp only[List.size_toArray]<;>lia);have I1:Inv X pins σ H {s with heap:=h'}:=I.kept (t':=s.toks) kp;have I2:Inv X pins σ (upd H h'.objs.size (.tup ys)) {s with heap:=h'.push { cls:=.type "tuple",data:=.seq g.toArray} } :=
   I1.laid (t':=s.toks) (fun b o e=>aE _ e) (aH _) (show CJ X.prog X.w _ _ _ (.tup ys) from⟨Y,g,M,IsTup.new _ _⟩)
  exact⟨.ref h'.objs.size,_,I2,rfl,q _ (I1.Am.fresh (aH _))⟩
 .obtain⟨g,M,R,Y⟩:=I.tuple U;exact call_tuple_same R ⟨.ref p,H,I,rfl,q⟩
def qi(K:Fg)(T:String)(x:V)(H:Hp):Prop:=match x with
 |.str _=>T = "str"
 |.int _=>T = "int"
 |.ref p=>(T = "list" /\ ∃xs,AU K H p xs)\/(T = "tuple" /\ ∃o,K.lookup p=some o/\o.cls=.type "tuple" /\ o.dict=none) \/
   (T = "dict" /\((∃kvs,H p=some (.dK kvs))\/∃kvs,H p=some (.dT kvs)))\/(T = "set" /\ ∃S n,H p=some (.set S n))
 |_=>False
def mO{pins:Db}{σ:St}{H:Hp}{s:SD}{T:String}{x:V}{v:VL}(I:Cl)(r:RelV x v)(ty:qi X.K T x H):s.TypeIs v T/\∀a,v=.ref a->∃ob,s.heap.get? a=some ob/\ob.dict=none:=by
 cases x with
 |str z=>
  obtain⟨t,rfl⟩:=r;cases (show T = "str" from ty);exact⟨typeIs_str s z t,fun _ e=>nomatch e⟩
 |int i=>
  obtain⟨t,rfl⟩:=r;cases (show T = "int" from ty);exact⟨typeIs_int s i t,fun _ e=>nomatch e⟩
 |ref p=>
  cases r;rcases ty with ⟨rfl,xs,U⟩|⟨rfl,o,hk,Y,hd⟩|⟨rfl,hk⟩|⟨rfl,S,n,hk⟩
  .obtain⟨R,_,M,_⟩:=I.list U;refine⟨M.isList.typeIs,fun a e=>?_⟩;cases e;obtain⟨o,n,e,c,hd,_⟩:=M;exact⟨o,e,hd⟩
  .refine⟨⟨o,I.Gf p o hk,Y⟩,fun a e=>?_⟩;cases e;exact⟨o,I.Gf _ o hk,hd⟩
  .have z:∃o,s.heap.get? p=some o/\o.ExactDict:=by
    rcases hk with ⟨kvs,hk⟩|⟨kvs,hk⟩
    .obtain⟨_,_,_,_,o,_,_,e,ex,_⟩:=I.Am p _ hk;exact⟨o,e,ex⟩
    .obtain⟨_,_,_,_,o,_,_,e,ex,_⟩:=I.Am p _ hk;exact⟨o,e,ex⟩
   obtain⟨o,e,ex⟩:=z;refine⟨⟨o,e,ex.1⟩,fun a g=>?_⟩;cases g;exact⟨o,e,ex.2.1⟩
  .obtain⟨o,_,_,_,e,ex,_⟩:=I.Am p _ hk;refine⟨⟨o,e,ex.1⟩,fun a g=>?_⟩;cases g;exact⟨o,e,ex.2.1⟩
 |_=>exact False.elim ty
def sf(K:Fg)(T:String)(r:V->List V->Hp->VK->Prop)(to:TE)(t:TA):TE:=fun σ H Q=>to σ H fun x H1=>qi K T x H1/\t σ H1 fun xs g=>r x xs g Q
variable{o e:Expr}{es:t8}{to:TE}{t:TA}{name:Str}{apos cpos:Pos}{T id:String}{r:V->List V->Hp->VK->Prop}
def Ij(pa:PlainAttrs T)(slot:Slot T name id)(Y:typeOf (.builtin id)=pure (.type "method_descriptor"))(hm:tL X id r)(ho:PE X o to)(ha:PA X (e::es) t) (R:attributeBase o name X.env (eval o X.env)=eval o X.env:=by rfl) (U:((backTo cpos (starEach (e::es) X.env)).all (fun x=>!x.1)&&(backToKw cpos (keywordEach [] X.env)).all (fun x=>x.1.isSome) && decide ((e::es).length+([]:List Keyword).length+(if([]:List Keyword).isEmpty then 0 else 1)<30))=true:=by rfl) (M:(apos.endLine==cpos.line)=true:=by rfl)(hs:starEach (e::es) X.env=(false,eval e X.env)::starEach es X.env:=by rfl)(g:(backTo cpos (starEach es X.env)).any (·.1)=false:=by rfl):PE X (.Call (.Attribute o name apos) (e::es) [] cpos) (sf X.K T r to t):=by
 intro pins s σ H Q I h;refine wpAny_Call_method_late R U M rfl (BA (ho pins s σ H _ I h) fun v s1 ⟨x,H1,I1,Z,ty,q1⟩=>?_);obtain⟨h1,h2⟩:=mO I1 Z ty;refine⟨T,id,pa,slot,Y,h1,h2,?_⟩;have hA:=ha cpos pins s1 σ H1 _ I1 q1;rw[hs]at hA ⊢;refine Calls.callWith_builtin (by show(false||(backTo cpos (starEach es X.env)).any (·.1))=false;rw[g]<;>rfl) (Calls.evalArgs_plain ?_);exact BA hA fun us s2 ⟨vs,H2,I2,r2,q2⟩=>hm pins s2 σ H2 x vs v us Q I2 Z r2 q2
end
def qm(X:Cx)(id:String)(r:V->List V->Hp->VK->Prop):Prop :=
 ∀(pins:Db) (s:SD) (σ:St) (H:Hp) (x:V) (xs:IR) (v:VL) (us:List VL) (Q:VK),Inv X pins σ H s->RelV x v->Vals xs us->r x xs H Q ->
  wpAny At X.A (call (.builtin id) (v::us)) (EP X pins σ Q) X.xe s
def Vals.one:∀ {x:V} {us:List VL},Vals [x] us->∃u,us=[u]/\RelV x u
 |_,_,.cons r .nil=>⟨_,rfl,r⟩
def Vals.two:∀ {x y:V} {us:List VL},Vals [x,y] us->∃u v,us=[u,v]/\RelV x u/\RelV y v
 |_,_,_,.cons r (.cons q .nil)=>⟨_,_,rfl,r,q⟩
theorem Vals.rep{xs:IR}{us:List VL}(h:Vals xs us):∀k:Nat,Vals (List.replicate k xs).flatten (List.replicate k us).flatten
 |0=>.nil
 |k+1=>by
  rw[(NZ),(NZ),(O7),(O7)];exact Vals.append h (Vals.rep h k)
theorem foldl_rep(g:List VL):∀(k:Nat) (I:List VL),
  List.foldl (fun R M=>R++M) I.toArray (List.replicate k g.toArray)=(I++(List.replicate k g).flatten).toArray
 |0,I=>by simp
 |k+1,I=>by
  have e:I.toArray++g.toArray=(I++g).toArray:=by simp
  have U:(I++g)++(List.replicate k g).flatten=I++(List.replicate (k+1) g).flatten:=by
   rw[(NZ),(O7),List.append_assoc]
  rw[<-U,<-foldl_rep g k (I++g),<-e,(NZ),(Qe)]
section
variable{X:Cx}{pins:Db}{σ:St}{H:Hp}{s:SD}{l:AD}{xs ys:uD}
def Inv.kn{g its':tf}{n:Nat}{f:Array VL->Array VL}{t':Nat}(I:Cl)(U:H l=some (.lst xs)) (e:s.heap.get? l=some { cls:=.type "list",data:=.seq g.toArray n})(hf:f g.toArray=its'.toArray)(M:Vals ys its')(hz:ys.length<=sizeLine):Inv X pins σ (upd H l Id) {s with heap:=s.heap.update l (Obj.mapSeq f),toks:=t'}:=by
 have q:=PySem.IsL.update e f;rw[hf]at q;refine I.write (x:=l) (e:=l) (by rw[U];exact trivial) (.inl rfl) (fun Y u hb R=>(Heap.get?_update_other s.heap (Obj.mapSeq f) (Ne.symm hb)).trans R) ⟨_,q⟩ ?_;exact⟨hz,its',_,M,q⟩
def Inv.oK{g:tf}{t':Nat}(I:Cl)(M:Vals ys g)(hz:ys.length<=sizeLine):Inv X pins σ (upd H s.heap.objs.size Id) {s with heap:=s.heap.push { cls:=.type "list",data:=.seq g.toArray},toks:=t'} :=
 I.laid (fun _ _ q=>aE _ q) (aH _) ⟨hz,g,0,M,Heap.get?_push_size _ rfl⟩
def Inv.fresh(I:Cl):H s.heap.objs.size=none:=I.Am.fresh (aH _)
def Inv.TN(I:Cl)(M:H l=some (.lst xs)):xs.length<=sizeLine/\∃(g:tf) (n:Nat),Vals xs g/\xs.length=g.length/\s.heap.get? l=some { cls:=.type "list",data:=.seq g.toArray n}:=by
 obtain⟨z,g,n,r,e⟩:=I.Am l _ M;exact⟨z,g,n,r,r.length,e⟩
def VY{n:Nat}(h:n<=sizeLine):Builtin.List.listTooLong n=false:=by
 unfold Builtin.List.listTooLong;exact bM AC
end
section
variable{X:Cx}
def kL:V->List V->Hp->VK->Prop:=fun x vs H Q=>∃l xs y,x=.ref l/\vs=[y]/\H l=some (.lst xs)/\xs.length<sizeLine/\Q .Bj (upd H l (.lst (xs++[y])))
def EX:qm X "list.append" kL:=by
 intro pins s σ H x vs v us Q I U Y h;obtain⟨l,xs,y,rfl,rfl,R,hz,q⟩:=h;cases U;obtain⟨u,rfl,Z⟩:=Y.one;obtain⟨z,g,n,r,hl,e⟩:=I.TN R;refine call_meets F.slot_list_append ⟨_,e,rfl⟩ F.entry_list_append (F.args_list_append_2 _ _) (PySem.list_append l g.toArray n u (by rw[(DM)];lia)) ⟨e,?_⟩;refine⟨.Bj,_,I.kn (its':=g++[u]) R e Do (r.append (.cons Z .nil)) ?_,rfl,q⟩;rw[(Ge),(LL)]
 lia
def jb:V->List V->Hp->VK->Prop:=fun x vs H Q=>∃l b xs g,x=.ref l/\vs=[.ref b]/\H l=some (.lst xs)/\H b=some (.lst g)/\xs.length+g.length<=sizeLine/\Q .Bj (upd H l (.lst (xs++g)))
def Tj:qm X "list.extend" jb:=by
 intro pins s σ H x vs v us Q I rx rv h;obtain⟨l,b,xs,zs,rfl,rfl,Z,hB,hz,q⟩:=h;cases rx;obtain⟨u,rfl,ru⟩:=rv.one;cases ru;obtain⟨z,M,n,r,hl,e⟩:=I.TN Z;obtain⟨z2,g,n2,r2,hl2,e2⟩:=I.TN hB;have U:M.toArray.size+g.toArray.size<=sizeLine:=by rw[(DM),(DM)];lia
 have R:¬(!M.toArray.isEmpty&&Builtin.List.listTooLong (M.toArray.size+g.toArray.size))=true:=by
  rw[VY U,(MP)];exact aO
 refine call_meets F.slot_list_extend ⟨_,e,rfl⟩ F.entry_list_extend (F.args_list_extend_2 _ _)
  (AutoSeq1.list_extend_list_list_0 l M.toArray n b g.toArray n2 R (by rw[(DM)];lia) AC) ⟨e,e2,?_⟩
 refine⟨.Bj,_,I.kn (its':=M++g) Z e Do (r.append r2) ?_,rfl,q⟩;rw[(Ge)]
 lia
def sF:R2:=fun x y H Q=>∃l b xs g,x=.ref l/\y=.ref b/\H l=some (.lst xs)/\H b=some (.lst g)/\xs.length+g.length<=sizeLine/\∀p,H p=none->Q (.ref p) (upd H p (.lst (xs++g)))
def Mk:Dp X (binaryOp .Add) sF:=by
 intro pins s σ H x y v u Q I U R h;obtain⟨l,b,xs,zs,rfl,rfl,hH,hB,hz,q⟩:=h;cases U;cases R;obtain⟨z,M,n,r,hl,e⟩:=I.TN hH;obtain⟨z2,g,n2,Y,Z,e2⟩:=I.TN hB;refine PySem.P.add_list e e2 ?_ (by rw[(DM),(DM)];lia);have ea:M.toArray++g.toArray=(M++g).toArray:=by simp
 rw[ea];exact⟨.ref _,_,I.oK (t':=s.toks) (r.append Y) (by rw[(Ge)];lia),rfl,q _ I.fresh⟩
def rN:R2:=fun x y H Q=>∃l k xs,x=.ref l/\y=.int k/\H l=some (.lst xs)/\-(2^63)<=k/\k<2^63/\xs.length*k.toNat<=sizeLine /\
 ∀p,H p=none->Q (.ref p) (upd H p (.lst (List.replicate k.toNat xs).flatten))
def len_rep{α:Type}(xs:List α)(k:Nat):(List.replicate k xs).flatten.length=k*xs.length:=by
 induction k with
 |zero=>simp
 |succ k g=>rw[(NZ),(O7),(Ge),g,Nat.succ_mul,Nat.add_comm]
def Zz:Dp X (binaryOp .Mult) rN:=by
 intro pins s σ H x y v u Q I rx ry h;obtain⟨l,k,xs,rfl,rfl,hH,h1,h2,hz,q⟩:=h;cases rx;obtain⟨t,rfl⟩:=ry;obtain⟨z,g,n,r,hl,e⟩:=I.TN hH;have Y:g.toArray.size*k.toNat<=sizeLine:=by rw[(DM),<-hl];exact hz
 have hcap:¬g.toArray.size*k.toNat > (2^63-1) / 8:=by
  have:(sizeLine:Nat)<=(2^63-1) / 8:=by decide
  lia
 have Z:¬(!Builtin.List.listFitsIndex k)=true:=by
  rw[fitsIndex_both h1 h2];exact aO
 have M:¬Builtin.List.listTooLong (g.toArray.size*k.toNat)=true:=by
  rw[VY Y];exact aO
 have R:List.foldl (fun x1 x2=>x1++x2) #[] (List.replicate (if g.toArray.isEmpty=true then 0 else k.toNat) g.toArray)=(List.replicate k.toNat g).flatten.toArray:=by
  have f0:∀m:Nat,List.foldl (fun x1 x2=>x1++x2) #[] (List.replicate m g.toArray)=(List.replicate m g).flatten.toArray:=fun m=>by
   have:=foldl_rep g m [];rw[List.nil_append]at this;exact this
  rw[f0];cases g with
  |nil=>simp
  |cons a r'=>rw[if_neg Do]
 refine wpAny_binaryOp_repeat_ref (T := "list") (U := "int") AS ⟨_,e,rfl⟩ (fun s'=>typeIs_int s' k t) noFill_list_mul F.fills_int_mul F.slot_int_rmul repeat_list F.slot_int_index.lookup
  (call_meets F.slot_int_rmul (typeIs_int s k t) F.entry_int_rmul (F.args_int_rmul_2 _ _) (int___rmul___int_list k t l g.toArray n)
   ⟨e,rfl,⟨_,e,rfl⟩,call_meets F.slot_list_mul ⟨_,e,rfl⟩ F.entry_list_mul (F.args_list_mul_2 _ _) (AutoListH.list___mul___list_int_3 l g.toArray n k t Z hcap M) ⟨e,?_⟩⟩)
 rw[R];exact⟨.ref _,_,I.oK (t':=s.toks) (r.rep k.toNat) (by rw[len_rep,Nat.mul_comm];exact hz),rfl,q _ I.fresh⟩
end
end L2
namespace Att
open PySem PySem.W PySem.Calls PyProof.Rows
def R7{P:Params}{h:Heap}:∀(ns:t6) (vs:tf),WellAll P h vs (ns.map WData.int)->IntsAre vs ns:=by
 intro ns
 induction ns with
 |nil=>
  intro vs w;rw[List.map_nil]at w;cases w;exact .nil
 |cons n ns g=>
  intro vs w;rw[(C0)]at w;cases w with
  |cons a b=>
   cases a;exact .cons _ _ (g _ b)
def cy{l:OpenLaw}{n:Nat}(hn:l.most=some n){P:Params}{h:Heap}{args:List WData}{vals:tf} (g:l.row.toRowW.claim.pre args=true)(Y:WellAll P h vals args):∃a vs ns,vals=[Value.ref a]/\args=[WData.list (ns.map WData.int)]/\h.get? a=some { cls:=.type "list",data:=.seq vs.toArray}/\IntsAre vs ns/\ns.length<=n:=by
 have Z:WShape.hasAll [] args [.list .int]=true:=(pre_splitW g).1;have hc:l.pre.holds [] { args:=args}=true:=(pre_splitW g).2;obtain⟨d,r,rfl,h1,h2⟩:=hasAllW_cons Z;obtain rfl:=hasAllW_nil h2;obtain⟨xs,rfl,h3⟩:=hasW_list h1;obtain⟨ns,rfl⟩:=items_int h3;have I:ns.length<=n:=by
  unfold OpenLaw.pre at hc;have U:(WTm.not (.lt (.lit (.int (n:Int))) (.len (.arg 0)))).holds [] { args:=[.list (ns.map .int)]}=true:=by
   have U:=(holds_andW hc).1;rw[hn]at U;exact U
  have R:=condW_of U (w_not (w_lt w_lit (w_len_list (w_arg rfl))));rw[(Ah)]at R;refine Nat.le_of_not_lt fun q=>?_;have q':(n:Int)<((ns.length:Nat):Int):=by lia
  first
   |(rw[decide_eq_true q']at R;exact absurd R AS)
   |(simp at R;lia)
 cases Y with
 |cons w1 w2=>
  cases w2;cases w1 with
  |list ho M=>exact⟨_,_,ns,rfl,rfl,ho,R7 ns _ M,I⟩
def cH(l:OpenLaw)(args:List WData):l.row.toRowW.claim.post args (.bool true) args=true :=
 postW_of (r:=l.row.toRowW) (X:=(true==true))
  (show WShape.has [] (.bool true) .bool=true by first|rfl|decide|simp[WShape.has,WShape.arms,WShape.armsAll])
  (show(WTm.eq .res (.lit (.bool true))).value [] { args:=args,res:=some (.bool true),after:=args}=some (.bool (true==true)) from w_eq_bool (w_res rfl) w_lit) rfl
def Xb{l:OpenLaw}{n:Nat}{q:F0b}{loose:t7}{XP:(tm)->Heap->Prop}{YP:F0c->Heap->Prop}{d:DefRec} (hn:l.most=some n)(hdf:d.params.defaults=[]) (call:∀(w:F0c) (s₀ g:SD) (mg mb:tm) (U:AD) (o:Obj) (pm Z doc:VL) (a:AD) (vs:tf) (ns:t6),Ground q loose [] XP w s₀ mg mb g.heap->YP w g.heap ->g.heap.get? U=some o->o.data=.func (docDef d.name d.params d.body d.scope pm Z doc)->g.heap.CodeRec Z d.name->mg d.name=some (.ref U) ->g.heap.get? a=some { cls:=.type "list",data:=.seq vs.toArray}->IntsAre vs ns->ns.length<=n->g.gens=#[] ->codeAny (model l.prog w) callerA (.call (.ref U) ⟨[.ref a],[]⟩) (fun r s'=>r=.ok (.ret (.bool true))/\OldK g.heap s'.heap/\s'.os=g.os/\AllBare s'.gens) g):WalkO q loose XP YP l.row.toRowW d [] (fun f vs=>PySem.call f vs):=by
 intro w s₀ g mg mb G Y U o pm Z doc dV kV ho hd hcd hD hmg hg args vals as I hlay hrd hwl hlo;obtain rfl:dV=.none:=Dflts.none hD hdf;obtain rfl:kV=.none:=Dflts.noKw hD;obtain⟨a,vs,ns,rfl,rfl,M,hints,R⟩:=cy hn I hwl;refine enter_call (codeAny_mono (call w s₀ g mg mb U o pm Z doc a vs ns G Y ho (fd_plain hd) hcd hmg M hints R hg) fun r s' hq=>?_);obtain⟨rfl,h2,h3,h4⟩:=hq;exact⟨.inl ⟨.bool true,.bool true,[],rfl,fun _=>rfl,.bool true,cH l _,fun _=>⟨List.Pairwise.nil,fun _ hm=>(nomatch hm)⟩⟩,h2,h3,h4⟩
end Att
namespace L2
open PySem PySem.Spec PyProof.Rows
theorem TU:∀ {vs:List VL} {ns:List Int},IntsAre vs ns->Vals (ns.map V.int) vs
 |_,_,.nil=>.nil
 |_,_,.cons n t h=>.cons ⟨t,rfl⟩ (TU h)
def ef(H:Hp):Prop:=∀b,H b=none\/∃o xs,H b=some (.JH o (.lst xs))
def iA{P:F0b}{w:F0c}{K:Fg}{mg mb:tm}{CX:Iw}{k:Nat}{fa a:AD}{fd:F0a}{x:Str}{sp:Sp}{g:SD}{vs:tf}{ns:t6} (KX:K.In g.heap)(Z:g.heap.Ns mainGlobals mg)(hb:g.heap.Ns builtinsNs mb)(hbb:∀x:Str,x ≠ "__name__" -> mb x=bootBuiltins x)(hlim:g.heap.NoLimit)(hg:g.gens=#[]) (ha:g.heap.get? a=some { cls:=.type "list",data:=.seq vs.toArray})(hi:IntsAre vs ns)(hl:ns.length<=sizeLine)(hr:C9 k callerA)(hkt:∀H,KTb mg H) (F:∀base:Heap,K.In base->base.Ns mainGlobals mg->AH P w K mg base CX k fa fd [x] sp)(M:∀(s:SD) (u:VL),BindsTo s fd ⟨[u],[]⟩ [(x,u)]) (hsp:∀H:Hp,ef H->AU K H a (ns.map V.int)->sp [.ref a] H (fun v _=>v=.bl true) fun _ _ _=>False) (hCX:∀H e s',CX [] H g (fun _ _ _=>False) e s'->False):codeAny (model P w) callerA (.call (.ref fa) ⟨[.ref a],[]⟩) (fun r s'=>r=.ok (.ret (.bool true))/\OldK g.heap s'.heap/\s'.os=g.os/\AllBare s'.gens) g:=by
 have rv:=TU hi;have U:=hi.length;have core:∀H:Hp,ef H->AU K H a (ns.map V.int)->Dd P w H g.heap->(∀b,H b≠none->b=a)->(H a≠none->K.lookup a=none) ->
   codeAny (model P w) callerA (.call (.ref fa) ⟨[.ref a],[]⟩) (fun r s'=>r=.ok (.ret (.bool true))/\OldK g.heap s'.heap/\s'.os=g.os/\AllBare s'.gens) g:=by
  intro H hO hS Am hA hK;have base_of:∀ {b:AD} {o:Obj},g.heap.get? b=some o->H b=none->(NO g.heap H).get? b=some o:=fun e n=>gj e n;have noA:∀ {b:AD} {o:Obj} {es:Array DictEntry} {ep:Nat},g.heap.get? b=some o->o.data=.dict es ep->H b=none:=fun {b o es ep} e d=>by
   cases q:H b with
   |none=>rfl
   |some u=>
    have e':b=a:=hA b (by rw[q];simp);subst e';rw[ha]at e;cases e;have d':Data.seq vs.toArray _=Data.dict es ep:=d;cases d'
  have I:∀ {b:AD} {m:Str->Option VL},g.heap.Ns b m->(NO g.heap H).Ns b m:=fun {b m} ⟨o,es,ep,e,d,r⟩=>⟨o,es,ep,base_of e (noA e d),d,r⟩;have hKb:K.In (NO g.heap H):=fun b o e=>base_of (KX b o e) (by
   cases q:H b with
   |none=>rfl
   |some u=>
    have e':b=a:=hA b (by rw[q];simp);subst e';rw[hK (by rw[q];simp)]at e;cases e)
  have hM:Mod K mg (NO g.heap H):=⟨hKb,I Z,⟨mb,I hb,hbb⟩,let⟨mc,h1,h2⟩:=hlim;⟨mc,I h1,h2⟩⟩;have e0:Yw P w K mg (NO g.heap H) callerA [] g H:=⟨rfl,hM,fun b o e=>kI e,Nat.le_of_eq (Zx _ _),trivial,fun b hb=>absurd (show b∈([]:List AD) from hb) Do,Am,.of_eq hg,hkt H⟩;refine codeAny_mono ((F _ hKb (I Z)).run callerA [] g H ⟨[.ref a],[]⟩ [.ref a] [.ref a] _ _ hr e0 (M g (.ref a)) (.cons rfl .nil) (hsp H hO hS)) fun r s' h=>?_;cases r with
  |error e=>exact(hCX H e s' h).elim
  |ok fl=>
   cases fl with
   |next=>exact False.elim h
   |brk=>exact False.elim h
   |cont=>exact False.elim h
   |ret u=>
    obtain⟨v,H',os,bare,un,Y,r',q⟩:=h;have q':v=.bl true:=q;subst q';obtain rfl:u=Value.bool true:=r';refine⟨rfl,OldK.of_keep fun b o e=>?_,os,bare⟩;cases q:H b with
    |none=>exact un.keep b o e q (by intro z;exact absurd (show b∈([]:List AD) from z) Do) Do
    |some u=>
     rcases hO b with z|⟨ob,xs,z⟩
     .rw[q]at z;cases z
     .have z2:=un.GG b ob _ z;obtain⟨e1,_⟩:=Am b _ z;obtain⟨e2,_⟩:=Y b _ z2;rw[e]at e1;cases e1;exact e2
 cases hk:K.lookup a with
 |some o=>
  have e:=KX a o hk;rw[ha]at e;cases e;refine core (fun _=>none) (fun _=>.inl rfl) (.inr ⟨_,vs.toArray,_,hk,rfl,rfl,rfl,by rw[(DM),U];exact hl,by simpa using rv⟩) (fun b u z=>by have R:(none:Option HO)=some u:=z;cases R) (fun b z=>absurd rfl z) fun z=>absurd rfl z
 |none=>
  refine core (fun b=>if b=a then some (.JH { cls:=.type "list",data:=.seq vs.toArray} (.lst (ns.map V.int))) else none) (fun b=>?_) (.inl (.inr ⟨{ cls:=.type "list",data:=.seq vs.toArray},if_pos rfl⟩)) (fun b u z=>?_) (fun b z=>?_) fun _=>hk
  .by_cases hb:b=a
   .exact .inr ⟨_,_,if_pos hb⟩
   .exact .inl (if_neg hb)
  .by_cases hb:b=a
   .have R:=(if_pos hb).symm.trans z;cases R;subst hb;exact⟨ha,by rw[(Ah)];exact hl,vs,_,rv,ha⟩
   .have R:=(if_neg hb).symm.trans z;cases R
  .by_cases hb:b=a
   .exact hb
   .exact absurd (if_neg hb) z
def kB{l:PySem.W.OpenLaw}{n k:Nat}{q:F0b}{loose:t7}{XP:(tm)->Heap->Prop}{YP:F0c->Heap->Prop}{d:DefRec}{K:Params->Fg}{CX:F0c->Iw}{sp:F0c->Sp}{x:Str} (hn:l.most=some n)(hn2:n<=sizeLine)(hdf:d.params.defaults=[])(hr:C9 k callerA)(hkt:∀(w:F0c) (mg:tm) (h:Heap),(K w.params).In h->h.Ns mainGlobals mg->∀H,KTb mg H) (hY:∀(w:F0c) (h:Heap),YP w h->(K w.params).In h) (F:∀(w:F0c) (mg:tm) (U:AD) (h:Heap),(K w.params).In h->h.Ns mainGlobals mg->mg d.name=some (.ref U) ->∃fd:F0a,(∀(s:SD) (u:VL),BindsTo s fd ⟨[u],[]⟩ [(x,u)]) /\∀base:Heap,(K w.params).In base->base.Ns mainGlobals mg->AH l.prog w (K w.params) mg base (CX w) k U fd [x] (sp w)) (Z:∀(w:F0c) (H:Hp) (a:AD) (ns:t6),ns.length<=n->ef H->AU (K w.params) H a (ns.map V.int)->sp w [.ref a] H (fun v _=>v=.bl true) fun _ _ _=>False) (hCX:∀(w:F0c) (H:Hp) (s:SD) (e:VL) (s':SD),CX w [] H s (fun _ _ _=>False) e s'->False):PySem.W.WalkO q loose XP YP l.row.toRowW d [] (fun f vs=>PySem.call f vs):=by
 refine Att.Xb hn hdf fun w s₀ M mg mb U o pm cd doc a vs ns G Y ho hd hcd hmg R hints I hg=>?_;have KX:=hY w _ Y;obtain⟨fd,hb,hF⟩:=F w mg U _ KX G.T.g hmg;exact iA (hkt:=hkt w mg _ KX G.T.g) KX G.T.g G.T.b G.T.builtins G.T.nolimit hg R hints (aS I hn2) hr hF hb (fun H hO hS=>Z w H a ns I hO hS) fun H e s'=>hCX w H M e s'
abbrev Aa:Iw:=fun _ _ _ _ _ _=>False
abbrev E0:XK:=fun _ _ _=>False
def pN{X:Cx}:Passes Aa X E0:=fun _ _ _ _ _ _ _ h=>h.elim
structure Tp(K:Fg)(x qual:Str)(st:Stmt)(f:Addr)(fd:FuncData):Prop where
 ex:∃(oc:Value) (od:Option Addr) (kV doc pm:Value) (an:Option Addr) (cdv ct:Value) (osl:Array (Option Value)),
  fd=PySem.W.fnOf x qual (G5 st) (EA st) (AQ st) .none kV doc pm an cdv ct/\K.lookup f=some ⟨oc,od,.func fd,osl⟩/\PySem.W.codeIn K cdv qual=true
 kp:PySem.W.keepIn K (.ref f)=true
section
variable{P:F0b}{w:F0c}{K:Fg}{mg:tm}{base:Heap}
def Tp.ok{x qual:Str}{st:Stmt}{f:AD}{fd:F0a}{N ps:t7}{k:Nat}{sp:Sp}(F:Tp K x qual st f fd)(S:Ab N ps (AQ st))(len:∀vs H Q E,sp vs H Q E->vs.length=ps.length) (g:∀(cdv:VL) (A:F0d) (outer:uH) (s:SD) (H:Hp) (vs:uD) (Q:VK) (E:XK),C9 k (A.deeper (envOfC qual (AQ st) s.heap.objs.size f cdv))->sp vs H Q E ->∃t,J9 (Cz Aa P w K mg base N qual (AQ st) f cdv A outer s H E).Ki (EA st) t/\t { nx:=fun _ H'=>Q .Bj H',rt:=Q} (start N vs) H):AH P w K mg base Aa (k+1) f fd ps sp:=by
 obtain⟨oc,od,kV,doc,pm,an,cdv,ct,osl,rfl,lk,M⟩:=F.ex;refine jE lk M S len fun A outer s H vs Q E R I=>?_;obtain⟨t,h,q⟩:=g cdv A outer s H vs Q E R I;exact⟨t,h.Ki,q⟩
def Tp.binds{x qual:Str}{st:Stmt}{f:AD}{fd:F0a}{ps:t7}(F:Tp K x qual st f fd) (h:∀(kV doc pm:VL) (an:Option AD) (cdv ct:VL) (us:tf),us.length=ps.length->bindArgs (PySem.W.fnOf x qual (G5 st) (EA st) (AQ st) .none kV doc pm an cdv ct) ⟨us,[]⟩=pure (ps.zip us)):Binds K fd ps []:=by
 obtain⟨oc,od,kV,doc,pm,an,cdv,ct,osl,rfl,lk,g⟩:=F.ex;exact .all (h kV doc pm an cdv ct)
def dJ{x qual:Str}{st:Stmt}{f:AD}{oc:VL}{od an:Option AD}{osl:Array (Option VL)}{kV doc pm cdv ct:VL}(l:K.lookup f=some ⟨oc,od,.func (PySem.W.fnOf x qual (G5 st) (EA st) (AQ st) .none kV doc pm an cdv ct),osl⟩) (c:PySem.W.codeIn K cdv qual=true)(k:PySem.W.keepIn K (.ref f)=true):Tp K x qual st f (PySem.W.fnOf x qual (G5 st) (EA st) (AQ st) .none kV doc pm an cdv ct):=⟨⟨oc,od,kV,doc,pm,an,cdv,ct,osl,rfl,l,c⟩,k⟩
end
def Te{n:Nat}(h:n<=1000):n<sizeLine:=aJ h AS
section
variable{X:Cx}
def pv(i:Nat){x:Str}{pos:Pos}(M:X.N[i]? = some x:=by rfl)(I:lQ X.env.scope x:=by first|exact Or.inl rfl|exact Or.inr AT|exact Or.inr (Or.inr rfl))(hd:GE=false:=by decide) (g:(x==("__classdict__" : Str))=false:=by decide):PE X (.Name x pos) (Zg i):=nK M I hd g
end
def JS{A B:Prop}(h:B):if false=true then A else B:=by
 rw[if_neg aO];exact h
def Ba{A B:Prop}(h:A):if true=true then A else B:=by
 rw[if_pos rfl];exact h
def Bq{c A B:Prop}[Decidable c](h1:c->A)(g:¬c->B):if c then A else B:=by
 by_cases h:c
 .rw[if_pos h];exact h1 h
 .rw[if_neg h];exact g h
def AK(H H':Hp):Prop:=∀b o,H b=some o->H' b=some o
def AK.refl(H:Hp):AK H H:=fun _ _ h=>h
def AK.trans{H H1 g:Hp}(a:AK H H1)(b:AK H1 g):AK H g:=fun c o h=>b c o (a c o h)
def AK.seq{K:Fg}{H H':Hp}{a:AD}{xs:uD}(e:AK H H')(h:AU K H a xs):AU K H' a xs:=by
 rcases h with (h|⟨o,h⟩)|h
 .exact .inl (.inl (e _ _ h))
 .exact .inl (.inr ⟨o,e _ _ h⟩)
 .exact .inr h
section
variable{X:Cx}
def PQ(i j:Int):Prop:=∃m:Nat,m<=1000000/\i.natAbs<2^m/\j.natAbs<2^m
def PQ.ok{i j:Int}(h:PQ i j):IntMulOk i j:=by
 obtain⟨m,hm,I,g⟩:=h;exact IntMulOk.of_le (intBits_le_iff.mpr I) (intBits_le_iff.mpr g) AC
def BD:Dp X (binaryOp .Mult) (rI (fun i j=>Sk i j\/PQ i j) fun i j=>.int (i*j)) :=
 YO fun _ _ _ _ _ _ _ g q=>mul_int q (g.elim (fun z=>z.ok) fun z=>z.ok)
def qe(_i j:Int):Prop:=j≠0/\∃m:Nat,m<=9000/\j.natAbs<2^m
def Dl:Dp X (binaryOp .FloorDiv) (rI qe fun i j=>.int (i.fdiv j)):=YO fun i j _ _ _ _ _ I q=>by
 obtain⟨h0,m,hm,M⟩:=I;refine floordiv_int h0 q (.inl (PyProof.noPylong_of_log2 ?_));have g:j.natAbs≠0:=by lia
 have:j.natAbs.log2<m:=(Nat.log2_lt g).mpr M
 lia
mutual
def Br(K:Fg)(H:Hp):PD->V->Prop
 |.none,v=>v=.Bj
 |.bool b,v=>v=.bl b
 |.int i,v=>v=.int i
 |.str x,v=>v=.str x
 |.tuple g,v=>∃a xs,v=.ref a/\Al K H a xs/\FL K H g xs
 |.list g,v=>∃a xs,v=.ref a/\AU K H a xs/\FL K H g xs
 |.dict _,_=>False
def FL(K:Fg)(H:Hp):List PD->List V->Prop
 |[],xs=>xs=[]
 |d::g,xs=>∃x r,xs=x::r/\Br K H d x/\FL K H g r
end
def AK.tup{K:Fg}{H H':Hp}{a:AD}{xs:uD}(e:AK H H')(h:Al K H a xs):Al K H' a xs:=by
 rcases h with (h|⟨o,h⟩)|h
 .exact .inl (.inl (e _ _ h))
 .exact .inl (.inr ⟨o,e _ _ h⟩)
 .exact .inr h
mutual
theorem Br.reads{pins:Db}{σ:St}{H:Hp}{s:SD}(I:Cl):∀ {d:PD} {v:V} {u:VL},Br X.K H d v->RelV v u->∃as,Reads s.heap u d as
 |.none,_,u,h,r=>by rw[Br]at h;subst h;cases r;exact⟨_,.none⟩
 |.bool b,_,u,h,r=>by rw[Br]at h;subst h;cases r;exact⟨_,.bool b⟩
 |.int i,_,u,h,r=>by rw[Br]at h;subst h;obtain⟨t,rfl⟩:=r;exact⟨_,.int i t⟩
 |.str x,_,u,h,r=>by rw[Br]at h;subst h;obtain⟨t,rfl⟩:=r;exact⟨_,.str x t⟩
 |.tuple ds,_,u,h,r=>by
  rw[Br]at h;obtain⟨a,xs,Z,Y,U⟩:=h;subst Z;cases r;obtain⟨R,g,⟨o,e,c,n,hd⟩,_⟩:=I.tuple Y;obtain⟨as,M⟩:=FL.reads I U g;exact⟨_,.tuple e c hd (by simpa using M)⟩
 |.list ds,_,u,h,r=>by
  rw[Br]at h;obtain⟨a,xs,Z,Y,U⟩:=h;subst Z;cases r;obtain⟨R,g,⟨o,n,e,c,_,hd⟩,_⟩:=I.list Y;obtain⟨as,M⟩:=FL.reads I U g;exact⟨_,.list e c hd (by simpa using M)⟩
 |.dict _,_,_,h,_=>by rw[Br]at h;exact h.elim
theorem FL.reads{pins:Db}{σ:St}{H:Hp}{s:SD}(I:Cl):∀ {ds:List PD} {xs:IR} {us:List VL},FL X.K H ds xs->Vals xs us->∃as,ReadsAll s.heap us ds as
 |[],_,us,h,r=>by rw[FL]at h;subst h;cases r;exact⟨_,.nil⟩
 |_::_,_,us,h,r=>by
  rw[FL]at h;obtain⟨x,q,e1,Z,Y⟩:=h;subst e1;cases r with
  |cons U R=>
   obtain⟨as,M⟩:=Br.reads I Z U;obtain⟨bs,g⟩:=FL.reads I Y R;exact⟨_,.cons M g⟩
end
def fg(K:Fg)(neg:Bool):R2:=fun x y H Q=>∃d e,Br K H d x/\Br K H e y/\SeqAt.shaped d=true/\SeqAt.shaped e=true/\Q (.bl (if neg then !PyData.eqv d e else PyData.eqv d e)) H
def oE(Y:X.A.units+64<cLine):Dp X (compareOp .Eq) (fg X.K false):=by
 intro pins s σ H x y v u Q I M g h;obtain⟨d,e,h1,Z,s1,s2,q⟩:=h;obtain⟨as,U⟩:=Br.reads I h1 M;obtain⟨bs,R⟩:=Br.reads I Z g;exact eq_dataH U R s1 s2 Y ⟨.bl _,H,I,rfl,q⟩
def cT(Y:X.A.units+64<cLine):Dp X (compareOp .NotEq) (fg X.K true):=by
 intro pins s σ H x y v u Q I M g h;obtain⟨d,e,h1,Z,s1,s2,q⟩:=h;obtain⟨as,U⟩:=Br.reads I h1 M;obtain⟨bs,R⟩:=Br.reads I Z g;exact ne_dataH U R s1 s2 Y ⟨.bl _,H,I,rfl,q⟩
end
def MB(X:Cx)(g:t8)(t:TT):Prop :=
 ∀(pins:Db) (s:SD) (σ:St) (H:Hp) (Q:Bool->Hp->Prop),Inv X pins σ H s->t σ H Q ->
  wpAny At X.A (forIn g true fun c r=>if r=true then do let ok <-isTrue c X.env (eval c X.env);pure (ForInStep.yield ok) else pure (ForInStep.yield r)) (TP X pins σ Q) X.xe s
def B0:TT:=fun _ H Q=>Q true H
def BH{X:Cx}:MB X [] B0:=fun _ _ σ H _ I h=>wpAny_tests_nil ⟨H,I,h⟩
def jV{X:Cx}{c:Expr}{t:TT}(h:PT X c t):MB X [c] t:=by
 intro pins s σ H Q I g;simp only[List.forIn_cons,List.forIn_nil,if_true];refine Wb (Wb (BA (h pins s σ H Q I g) fun b s1 q=>?_));exact aA (aA q)
def Gh(N I:List Str)(sc g:Scope):List (Option Nat)->Nat->Bool
 |[],_=>true
 |none::r,i=>Gh N I sc g r (i+1)
 |some j::r,i=>(match N[i]?,I[j]? with
   |some n,some m=>n==m&&sc.names.lookup n==some .free&&g.names.lookup n==some .cell
   |_,_=>false)&&Gh N I sc g r (i+1)
theorem Ql{N R:List Str}{sc g:Scope}:∀ {fr:List (Option Nat)} {k:Nat},Gh N R sc g fr k=true->∀ {i j:Nat},fr[i]? = some (some j) ->
  ∃n,N[k+i]? = some n/\R[j]? = some n/\sc.names.lookup n=some .free/\g.names.lookup n=some .cell
 |[],_,_,i,j,e=>by simp at e
 |none::r,k,h,0,j,e=>by simp at e
 |none::r,k,h,i+1,j,e=>by
  have q:=Ql (fr:=r) (k:=k+1) h (i:=i) (j:=j) (by simpa using e);have z:k+(i+1)=k+1+i:=by lia
  rw[z];exact q
 |some M::r,k,h,0,j,e=>by
  have Z:M=j:=by simpa using e
  subst Z;rw[Gh,(Lh)]at h;have I:=h.1;split at I
  .rename_i n m hn hm;simp only[Bool.and_eq_true,beq_iff_eq]at I;obtain⟨⟨rfl,Y⟩,U⟩:=I;exact⟨n,by simpa using hn,hm,Y,U⟩
  .cases I
 |some M::r,k,h,i+1,j,e=>by
  rw[Gh,(Lh)]at h;have q:=Ql (fr:=r) (k:=k+1) h.2 (i:=i) (j:=j) (by simpa using e);have z:k+(i+1)=k+1+i:=by lia
  rw[z];exact q
def carry(fr:uI)(σ:St):St:=fr.map fun o=>match o with
 |some j=>(σ[j]?).join
 |none=>none
def eF{fr:uI}{σ:St}{i:Nat}{v:V}(h:(carry fr σ)[i]? = some (some v)):∃j,fr[i]? = some (some j)/\σ[j]? = some (some v):=by
 unfold carry at h;rw[(BC)]at h;cases e:fr[i]? with
 |none=>rw[e]at h;cases h
 |some o=>
  rw[e]at h;cases o with
  |none=>simp at h
  |some j=>
   refine⟨j,rfl,?_⟩;simp only[Option.map_some,Option.some.injEq]at h;cases q:σ[j]? with
   |none=>rw[q]at h;cases h
   |some w=>rw[q]at h;simp at h;rw[h]
theorem G9{env:Env}:∀(names:List (Str×NameKind)) (cs:List (Str×AD)),(∀x∈names,x.2=NameKind.free->∃c,env.cells.lookup x.1=some c)->(∀x c,cs.lookup x=some c->env.cells.lookup x=some c) ->
  ∃cl,(forIn names cs (fun(x:Str×NameKind) (r:List (Str×AD))=>do if(x.2==NameKind.free)=true then do let a <-cellOf env x.1;pure (ForInStep.yield ((x.1,a)::r)) else pure (ForInStep.yield r)):Sem (List (Str×AD)))=pure cl /\
   (∀x c,cl.lookup x=some c->env.cells.lookup x=some c)/\(∀x,(∃c,cs.lookup x=some c)->∃c,cl.lookup x=some c)/\∀x∈names,x.2=NameKind.free->∃c,cl.lookup x.1=some c
 |[],cs,_,R=>⟨cs,rfl,R,fun _ q=>q,fun _ z=>(by cases z)⟩
 |(n,k)::r,cs,h1,R=>by
  rw[List.forIn_cons];by_cases hk:(k==NameKind.free)=true
  .obtain⟨c,hc⟩:=h1 (n,k) aR (by simpa using hk);have h2':∀x I,((n,c)::cs).lookup x=some I->env.cells.lookup x=some I:=fun x I e=>by
    rw[List.lookup_cons]at e;cases g:x==n with
    |true=>rw[g]at e;have:=beq_iff_eq.mp g;subst this;simp at e;rw[<-e];exact hc
    |false=>rw[g]at e;exact R x I e
   obtain⟨cl,Z,Y,M,U⟩:=G9 r ((n,c)::cs) (fun x g=>h1 x (aN _ g)) h2';have hn:∃I,cl.lookup n=some I:=M n ⟨c,by rw[List.lookup_cons,beq_self_eq_true]⟩;refine⟨cl,?_,Y,fun x g=>?_,fun x g hf=>?_⟩
   .simp only[hk,if_true];unfold cellOf;rw[hc];exact Z
   .refine M x ?_;rw[List.lookup_cons];cases hxn:x==n with
    |true=>exact⟨c,rfl⟩
    |false=>exact g
   .rcases aU.mp g with e|g
    .subst e;exact hn
    .exact U x g hf
  .obtain⟨cl,Z,Y,M,U⟩:=G9 r cs (fun x g=>h1 x (aN _ g)) R;refine⟨cl,?_,Y,M,fun x g hf=>?_⟩
   .simp only[hk];exact Z
   .rcases aU.mp g with e|g
    .subst e;exact absurd (by simpa using hf) hk
    .exact U x g hf
def A7(X:Cx)(scope:Scope)(cl:List (Str×AD))(N:t7)(C:AD)(s₀:SD)(H₀:Hp)(fp:uF):Cx where
 prog:=X.prog
 w:=X.w
 K:=X.K
 mg:=X.mg
 base:=X.base
 A:=X.A
 N:=N
 s₀:=s₀
 H₀:=H₀
 env:=compEnvC scope cl C X.env
 outer:=X.stack
 stack:=X.stack
 ex:=fp
 fn:=fun _=>false
 calm:=X.calm
 pn:=[]
 xe:=fun _ _=>False
def U0(U:TI)(fr:uI)(ix:Nat)(I:TT)(Y:TE):TE:=fun σ H Q=>U σ H fun J H1=>∀D,H1 D=none->∃W:Nat->Nat->List V->Hp->Prop,(∃m,W 0 m [] (upd H1 D (.lst []))) /\
 ∀i m ys H,W i m ys H->H D=some Id/\((J.stop i H/\Q (.ref D) H)\/(J.go i H/\ys.length<sizeLine/\∀x H',J.F6 i H x H' ->
  I ((carry fr σ).set ix (some x)) H' fun b R=>if b=true then Y ((carry fr σ).set ix (some x)) R fun y M=>M D=some Id/\∃g,g<m/\W (i+1) g (ys++[y]) (upd M D (.lst (ys++[y])))
   else ∃g,g<m/\W (i+1) g ys R))
structure D7(scope:Scope)(N:List Str)(x:Str)(ix:Nat):Prop where
 kind:scope.kind=.function
 cell:∀y∈scope.names,y.2≠.cell
 names:∀y∈scope.names,y.2=.local->scope.names.lookup y.1=some .local
 free:∀y∈scope.names,y.2=.free->scope.names.lookup y.1=some .free
 loc:scope.names.lookup x=some .local
 nd:N.Nodup
 at_:N[ix]? = some x
def lookup_mem{names:List (Str×NameKind)}{n:Str}{k:NameKind}:names.lookup n=some k->(n,k)∈names:=by
 induction names with
 |nil=>intro h;cases h
 |cons y r g=>
  intro h;obtain⟨m,j⟩:=y;rw[List.lookup_cons]at h;cases e:n==m with
  |true=>rw[e]at h;have:=beq_iff_eq.mp e;subst this;simp at h;subst h;exact aR
  |false=>rw[e]at h;exact aN _ (g h)
def Wu{scope:Scope}{env:Env}(Y:∀y∈scope.names,y.2≠.cell){n:Str}(h:(relabel scope env).names.lookup n=some .cell\/(relabel scope env).names.lookup n=some .free):∃k,(n,k)∈scope.names/\k=NameKind.free:=by
 have key:∀I,(relabel scope env).names.lookup n=some I->(I=.cell\/I=.free)->∃k,(n,k)∈scope.names/\k=NameKind.free:=fun I h hk=>by
  have hm:=lookup_mem h;unfold relabel at hm;obtain⟨⟨m,k⟩,M,e⟩:=aL.mp hm;dsimp only at e;by_cases g:(k==NameKind.free&&env.scope.kind==.function&&env.kindOf m==some .cell)=true
  .rw[if_pos g]at e
   injection e with R U
   subst R;refine⟨k,M,?_⟩;simp only[Bool.and_eq_true,beq_iff_eq]at g;exact g.1.1
  .rw[if_neg g]at e
   injection e with R U
   subst R U;rcases hk with rfl|rfl
   .exact absurd rfl (Y _ M)
   .exact⟨_,M,rfl⟩
 rcases h with h|h
 .exact key _ h (.inl rfl)
 .exact key _ h (.inr rfl)
section
variable{X:Cx}{elt iter:Expr}{x:Str}{px pos:Pos}{ifs:t8}{scope:Scope}{wi:TI}{fr:uI}{ix:Nat}{tif:TT}{te:TE}{N:t7}
def Lj{prog:F0b}{w:F0c}{A:F0d}{R:Result->SD->Prop}{s:SD}{elt target iter:Expr}{ifs:t8}{scope:Scope}{pos:Pos}{it acc:VL}{env:Env}(I:Nat->SD->Prop)
 (turn:∀n s,I n s->wpAny Da A (pyNext it) (fun r g=>match r with
   |none=>R (.ok .next) g
   |some v=>wpAny Da A (letOwnedTupleGo target it v>>=fun _=>assign target env v) (fun _ Z=>
     wpAny Da A (forIn ifs true fun c r=>if r=true then do let ok <-isTrue c env (eval c env);pure (ForInStep.yield ok) else pure (ForInStep.yield r)) (fun ok M=>
      if ok=true then wpAny Da A (eval elt env) (fun x Y=>
       wpAny Da A (call (.builtin "list.append") [acc,x]) (fun _ U=>∃m,m<n/\I m U) (notedBy Da A env fun e s'=>R (.error e) s') Y) (notedBy Da A env fun e s'=>R (.error e) s') M
      else ∃m,m<n/\I m M) (notedBy Da A env fun e s'=>R (.error e) s') Z) (notedBy Da A env fun e s'=>R (.error e) s') g) (notedBy Da A env fun e s'=>R (.error e) s') s)
 (n:Nat)(h:I n s) :
  codeAny Da A (.compLoop (.ListComp elt [⟨target,iter,ifs,0⟩] scope pos) 0 it acc env) R s:=by
 refine codeAny_loop rfl I (fun n s hI=>?_) n h;show wpAny _ A ((compTurn (.ListComp elt [⟨target,iter,ifs,0⟩] scope pos) 0 it acc env).onRaise (fun x=>do noteFrame x env;theTreesLotGoes x)) _ _ s;refine wpAny_noted ?_;rw[compTurn_list];refine Wb (wpAny_standAt (Wb (aW (turn n s hI) (fun r g h₁=>?_) fun _ _ h'=>h')));cases r with
 |none=>exact aA h₁
 |some v=>
  show wpAny Da A (letOwnedTupleGo target it v>>=fun _=>assign target env v>>=_) _ _ g;rw[<-bind_assoc];refine Wb (aW h₁ (fun _ Z h₂=>Wb (aW h₂ (fun ok M h₃=>?_) fun _ _ h'=>h')) fun _ _ h'=>h');cases ok with
  |false=>exact aA ⟨rfl,h₃⟩
  |true=>
   exact Wb (Wb (aW h₃ (fun x Y h₄=>Wb (aW h₄ (fun _ U h₅=>aA (aA ⟨rfl,h₅⟩)) fun _ _ h'=>h')) fun _ _ h'=>h'))
def P6{pins:Db}{σ:St}{R:Hp}{s2:SD}{Q:VK}{it:AD}{fp:uF}{tn:Nat->Heap->Prop}{J:It}{cl:List (Str×AD)}{E:tj}{RR:VL->AD->Result->SD->Prop} (S:D7 scope N x ix)(hcalm:X.calm=true){tgE:Expr}{g:TG}(Rv:St->Prop)(r0:Rv (carry fr σ))(hpg:∀C,PG (A7 X scope cl N C s2 R fp) tgE g)(hfr:Gh N X.N scope X.env.scope fr 0=true)(hlen:fr.length=N.length) (hif:∀cl C s₀ H₀ fp,MB ED ifs tif)(he:∀cl C s₀ H₀ fp,PE ED elt te) (M:Inv X pins σ R s2)(T:Turn X.prog X.w X.K tgE J fp it tn)(st2:tn 0 s2.heap)(f2:∀b∈fp,KW X pins R b) (c1:∀x c,cl.lookup x=some c->X.env.cells.lookup x=some c)(c2:∀x∈scope.names,x.2=NameKind.free->∃c,cl.lookup x.1=some c) (W:∀D,R D=none->∃W:Nat->Nat->List V->Hp->Prop,(∃m,W 0 m [] (upd R D (.lst []))) /\∀i m ys H,W i m ys H->H D=some Id/\((J.stop i H/\Q (.ref D) H)\/(J.go i H/\ys.length<sizeLine/\∀x H',J.F6 i H x H'->∀Z,Rv Z->g x Z H' fun σ6 H6=>Rv σ6 /\tif σ6 H6 fun b R=>if b=true then te σ6 R fun y H3=>H3 D=some Id/\∃m',m'<m/\W (i+1) m' (ys++[y]) (upd H3 D (.lst (ys++[y]))) else ∃m',m'<m/\W (i+1) m' ys R))) (fin:Gg):wpAny At X.A (newList []) (fun acc s₃=>wpAny At X.A (newFunctionEnv scope X.env.globals cl [] X.env.qual none .none (some X.env)) (fun cenv s₄ => codeAny At X.A (.compStart (.ListComp elt [⟨tgE,iter,ifs,0⟩] scope pos) 0 (.ref it) acc {cenv with scope:=relabel scope X.env}) (RR acc cenv.locals) s₄) E s₃) E s2:=by
 refine aY (wpAny_newFunctionEnv S.cell (by intro y hy;simp at hy) (fun h₁ Y I=>?_) S.kind);dsimp only at Y I ⊢;generalize hHp:s2.heap.push { cls:=.type "list",dict:=none,data:=.seq ([]:List VL).toArray}=U at Y I ⊢;have hC:U.objs.size=s2.heap.objs.size+1:=by rw[<-hHp,(MO)]
 have hDC:s2.heap.objs.size≠U.objs.size:=by rw[hC];exact aP (Nat.lt_succ_self _)
 have below:∀b,b<s2.heap.objs.size->b≠U.objs.size/\b≠s2.heap.objs.size:=fun b hb=>⟨by rw[hC];exact aP (bY hb),Nat.ne_of_lt hb⟩;have old:∀b o,s2.heap.get? b=some o->h₁.get? b=some o:=fun b o e=>I.extBut b o (below b (aD e)).1 (aE _ (hHp ▸ aE _ e));have hacc:h₁.get? s2.heap.objs.size=some { cls:=.type "list",data:=.seq ([]:List VL).toArray}:=I.extBut _ _ hDC (aE _ (hHp ▸ aV _ rfl));have hD2:R s2.heap.objs.size=none:=M.Am.fresh (aH _);have hC2:R U.objs.size=none:=M.Am.fresh (by rw[hC];exact Nat.le_succ _);have fpo:∀b∈fp,b<s2.heap.objs.size:=fun b hb=>by
  obtain⟨o,e,_⟩:=T.obj _ _ st2 b hb;exact aD e
 obtain⟨W,⟨m0,w0⟩,turn⟩:=W s2.heap.objs.size hD2;have ok:(A7 X scope cl N U.objs.size s2 R fp).Ok:=by
  refine⟨M.ok.mod,S.kind,M.ok.glob,M.ok.blt,by show s2.heap.objs.size<=U.objs.size;rw[hC];exact Nat.le_succ _,?_,?_,?_,fun _=>M.ok.hd hcalm,M.ok.frames,.inl rfl,?_,M.bs,Nat.le_trans M.ok.RU M.sz,?_,?_,M.stack,M.Sv,M.kt⟩
  .exact fun a b c h1 h2=>M.ok.inj a b c (c1 _ _ h1) (c1 _ _ h2)
  .intro y hy;obtain⟨k,hm,rfl⟩:=Wu S.cell hy;exact c2 _ hm rfl
  .intro y c hf;cases hf
  .intro b hb;refine⟨(below b (fpo b hb)).1,fun y c e=>?_⟩;obtain⟨_,_,_,_,f5,_⟩:=f2 b hb;exact f5 y c (c1 _ _ e)
  .intro b o e hb;obtain⟨_,_,_,f4,_,_⟩:=f2 b hb;rcases f4 with z|z
   .exact M.ok.TC b o e z
   .exact absurd (aK (aD e) (aS M.ok.RU z)) (Nat.lt_irrefl _)
  .intro b hb hs;obtain⟨_,f1,f3,_⟩:=f2 b hb;rcases aU.mp (M.Ow b hs) with z|z
   .exact f1 z
   .exact f3 z
 have I4:Inv (A7 X scope cl N U.objs.size s2 R fp) [] (carry fr σ) (upd R s2.heap.objs.size (.lst [])) {s2 with heap:=h₁,toks:=s2.toks+([]:List (Str×VL)).length}:=by
  refine⟨ok,rfl,M.bare,Un.laid old (aH _) hD2,⟨_,Y,fun i y v h1 h2 h3=>?_⟩,fun y c e=>?_,?_,fun y c e=>?_,fun p hp=>(by cases hp),M.Am.laid old (aH _) ⟨ar _,[],0,.nil,hacc⟩,?_⟩
  .obtain⟨j,e1,e2⟩:=eF h2;obtain⟨n,n1,n2,n3,n4⟩:=Ql hfr e1;rw[Nat.zero_add]at n1;have:y=n:=by
    have h1':N[i]? = some y:=h1;rw[h1']at n1;exact ao n1
   subst this;obtain⟨m,hn,hl⟩:=M.loc;obtain⟨u,ru,lk⟩:=hl j y v n2 e2 (.inr (.inl n4));refine⟨u,ru,?_⟩;obtain⟨c,hc⟩:=c2 _ (lookup_mem n3) rfl;rcases lk with ⟨k1,_⟩|⟨_,c',hc',hcell⟩
   .have k1':X.env.scope.names.lookup y=some .local:=k1;rw[n4]at k1';cases k1'
   .have:=c1 _ _ hc;rw[hc']at this;cases this;refine .inr ⟨?_,c,hc,hcell.keeps old⟩;rcases h3 with z|z|z
    .obtain⟨k,hm⟩:∃k,(y,k)∈scope.names/\k=NameKind.local:=by
      have hm:=lookup_mem z;have hm':(y,NameKind.local)∈(relabel scope X.env).names:=hm;unfold relabel at hm';obtain⟨⟨m',k⟩,hy,e⟩:=aL.mp hm';dsimp only at e;by_cases hcond:(k==NameKind.free&&X.env.scope.kind==.function&&X.env.kindOf m'==some .cell)=true
      .rw[if_pos hcond]at e;injection e with _ e2';cases e2'
      .rw[if_neg hcond]at e;injection e with e1' e2';subst e1' e2';exact⟨_,hy,rfl⟩
     obtain⟨hm,rfl⟩:=hm;have:=S.names _ hm rfl;rw[n3]at this;cases this
    .exact .inl z
    .exact .inr z
  .obtain⟨v,z⟩:=M.cell y c (c1 _ _ e);exact⟨v,z.keeps old⟩
  .show upd R s2.heap.objs.size _ U.objs.size=none;rw[AN (Ne.symm hDC)];exact hC2
  .obtain⟨v,o,ho,_⟩:=M.cell y c (c1 _ _ e);rw[AN (below c (aD ho)).2];exact M.GJ y c (c1 _ _ e)
  .show(carry fr σ).length=N.length;unfold carry;rw[(Ah)];exact hlen
 have fpX:∀(p:Db) (H':Hp),(∀q∈p,q.1∈fp->False)->(∀b∈fp,H' b=none)->∀b∈fp,KW (A7 X scope cl N U.objs.size s2 R fp) p H' b:=fun p H' hp hn b hb=>by
  obtain⟨_,f1,f3,f4,f5,_⟩:=f2 b hb;refine⟨hn b hb,(below b (fpo b hb)).1,fun hs=>ok.Sd b hb hs,.inl hb,fun y c e=>f5 y c (c1 _ _ e),fun q hq e=>?_⟩;exact hp q hq (e ▸ hb)
 have hxv:(relabel scope X.env).names.lookup x=some .local:=lookup_relabel_local S.loc;have loop:∀s₃:SD,s₃={s2 with heap:=h₁,toks:=s2.toks+([]:List (Str×VL)).length} ->
   codeAny At X.A (.compLoop (.ListComp elt [⟨tgE,iter,ifs,0⟩] scope pos) 0 (.ref it) (.ref s2.heap.objs.size) (compEnvC scope cl U.objs.size X.env)) (RR (.ref s2.heap.objs.size) U.objs.size) s₃:=by
  rintro s₃ rfl;refine Lj (fun n s'=>∃i ys Z H',Inv (A7 X scope cl N U.objs.size s2 R fp) [] Z H' s'/\Rv Z/\tn i s'.heap/\(∀b∈fp,H' b=none)/\W i n ys H') ?_ m0
   ⟨0,[],carry fr σ,_,I4,r0,T.keep _ _ _ st2 fun b _ o e=>old b o e,fun b hb=>by rw[AN (below b (fpo b hb)).2];exact(f2 b hb).1,w0⟩
  rintro n s3 ⟨i,ys,σ3,H3,I3,hσ,st3,fr3,w3⟩;obtain⟨hD3,way⟩:=turn i n ys H3 w3;rcases way with ⟨stop,qn⟩|⟨go,hsz,step⟩
  .refine aW (T.done (A7 X scope cl N U.objs.size s2 R fp) rfl rfl rfl hcalm i [] s3 σ3 H3 (fun _ _=>False) I3 (fpX [] H3 (fun _ z=>by cases z) fr3) st3 stop) (fun r s4 ⟨hr,I5⟩=>?_) fun _ _ z=>z.elim;subst hr;obtain⟨m,hn,_⟩:=id I5.loc;refine fin _ _ s4 H3 m hn qn (fun h' hs'=>?_) (Ne.symm hDC) (fun b o e=>(below b (aD e)).1) I5.free (by rw[hC];exact Nat.le_succ _);have nC:∀b u,H3 b=some u->b≠U.objs.size:=fun b u e z=>by
    have:=I5.free;rw[show(A7 X scope cl N U.objs.size s2 R fp).env.locals=U.objs.size from rfl,<-z,e]at this;cases this
   have keepU:Un (GR X.stack) fp R H3 s2.heap h':=by
    have u:=I5.base;refine⟨fun b o e n hb hx=>?_,fun b o e n hb hx=>?_,fun b o e n hx=>u.free b o e n hx,fun b o e hx=>?_,u.FW,u.GG,u.HL,fun b xs o q e hx=>(hs'.2 b (below b (aD e)).1).trans (u.HG b xs o q e hx)⟩
    .exact(hs'.2 b (below b (aD e)).1).trans (u.keep b o e n hb hx)
    .obtain⟨sl,e1⟩:=u.slot b o e n hb hx;exact⟨sl,(hs'.2 b (below b (aD e)).1).trans e1⟩
    .obtain⟨o',e1⟩:=u.there b o e hx;exact⟨o',(hs'.2 b (below b (aD e)).1).trans e1⟩
   have hok':Dd X.prog X.w H3 h':=fun b u e=>(I5.Am b u e).JL (fun c v hc q=>(hs'.2 c (by
    rcases hc with rfl|hc
    .exact nC _ _ e
    .exact nC _ _ hc)).trans q) (fun _ q=>q) fun _ _ q=>q
   refine M.iO (s':={s4 with heap:=h'}) (ch:=fp) I5.os keepU hok' I5.bare fun b hb=>?_;obtain⟨_,f1,_,f4,f5,f6⟩:=f2 b hb;exact⟨f4,f1,f5,f6⟩
  .refine aW (T.item (A7 X scope cl N U.objs.size s2 R fp) rfl rfl rfl hcalm i [] s3 σ3 H3 (fun _ _=>False) I3 (fpX [] H3 (fun _ z=>by cases z) fr3) st3 go) (fun r s4 ⟨u,hr,h4⟩=>?_) fun _ _ z=>z.elim;subst hr;show wpAny At X.A (letOwnedTupleGo tgE (.ref it) u>>=fun _=>assign tgE (compEnvC scope cl U.objs.size X.env) u) _ _ s4;refine Wb (aW h4 (fun _ s5 ⟨xv,H5,I5,r5,y5,st5,fr5⟩=>?_) fun _ _ z=>z.elim);have I5':=I5.pinned (fpX [] H5 (fun _ z=>by cases z) fr5) (T.obj _ _ st5);refine aW (hpg _ _ s5 σ3 H5 xv u _ I5' r5 (step xv H5 y5 σ3 hσ)) (fun _ s6 ⟨σ6,H6,I6,rv6,step5⟩=>?_) fun _ _ z=>z.elim;refine aW (hif _ _ _ _ _ _ s6 _ H6 _ I6 step5) (fun b s7 ⟨H7,I7,q7⟩=>?_) fun _ _ z=>z.elim;have again:∀ {s8:SD} {H8:Hp} {k:Nat} {zs:IR},Inv (A7 X scope cl N U.objs.size s2 R fp) ([]++OU fp s5.heap) σ6 H8 s8->W (i+1) k zs H8->k<n ->
     ∃m,m<n/\∃i ys Z H',Inv (A7 X scope cl N U.objs.size s2 R fp) [] Z H' s8/\Rv Z/\tn i s8.heap/\(∀b∈fp,H' b=none)/\W i m ys H':=fun {s8 H8 k zs} I8 w8 hk=>by
    refine⟨k,hk,i+1,zs,_,H8,I8.M8,rv6,T.keep _ _ _ st5 fun b hb o e=>(I8.pin (b,o) (aa _ (aa _ (Ku hb e)))).1,fun b hb=>?_,w8⟩;obtain⟨o,e,d⟩:=T.obj _ _ st5 b hb;exact(I8.pin (b,o) (aa _ (aa _ (Ku hb e)))).2.1
   cases b with
   |false=>
    rw[if_neg aO]at q7 ⊢;obtain⟨k,hk,w7⟩:=q7;exact again I7 w7 hk
   |true=>
    rw[if_pos rfl]at q7 ⊢;refine aW (he _ _ _ _ _ _ s7 _ H7 _ I7 q7) (fun yv s8 ⟨y,H8,I8,r8,hD8,k,hk,w8⟩=>?_) fun _ _ z=>z.elim;refine aW (EX (X:=A7 X scope cl N U.objs.size s2 R fp) _ s8 _ H8 (.ref s2.heap.objs.size) [y] (.ref s2.heap.objs.size) [yv] (fun _ H9=>H9=upd H8 s2.heap.objs.size (.lst (ys++[y]))) I8 rfl (.cons r8 .nil) ⟨_,ys,y,rfl,rfl,hD8,hsz,rfl⟩) (fun _ s9 ⟨_,H9,I9,_,e9⟩=>?_) fun _ _ z=>z.elim;subst e9;exact again I9 w8 hk
 exact codeAny_compStart_list (loop _ rfl) (T.self X.A 0 _ _ _ (T.keep _ _ _ st2 fun b _ o e=>old b o e) (loop _ rfl))
def Rb{pins:Db}{σ:St}{I:Hp}{s2:SD}{Q:VK}{it:AD}{fp:uF}{tn:Nat->Heap->Prop}{J:It}{cl:List (Str×AD)}{E:tj}{RR:VL->AD->Result->SD->Prop} (S:D7 scope N x ix)(M:X.calm=true)(hfr:Gh N X.N scope X.env.scope fr 0=true)(hlen:fr.length=N.length) (hif:∀cl C s₀ H₀ fp,MB ED ifs tif)(he:∀cl C s₀ H₀ fp,PE ED elt te) (I2:Inv X pins σ I s2)(T:Turn X.prog X.w X.K (.Name x px) J fp it tn)(st2:tn 0 s2.heap)(f2:∀b∈fp,KW X pins I b) (c1:∀x c,cl.lookup x=some c->X.env.cells.lookup x=some c)(c2:∀x∈scope.names,x.2=NameKind.free->∃c,cl.lookup x.1=some c) (W:∀D,I D=none->∃W:Nat->Nat->List V->Hp->Prop,(∃m,W 0 m [] (upd I D (.lst []))) /\∀i m ys H,W i m ys H->H D=some Id/\((J.stop i H/\Q (.ref D) H)\/(J.go i H/\ys.length<sizeLine/\∀x H',J.F6 i H x H' ->tif ((carry fr σ).set ix (some x)) H' fun b I=>if b=true then te ((carry fr σ).set ix (some x)) I fun y H3=>H3 D=some Id/\∃Z,Z<m/\W (i+1) Z (ys++[y]) (upd H3 D (.lst (ys++[y]))) else ∃Z,Z<m/\W (i+1) Z ys I))) (fin:Gg):wpAny At X.A (newList []) (fun acc Y=>wpAny At X.A (newFunctionEnv scope X.env.globals cl [] X.env.qual none .none (some X.env)) (fun g U => codeAny At X.A (.compStart IS 0 (.ref it) acc {g with scope:=relabel scope X.env}) (RR acc g.locals) U) E Y) E s2:=by
 have hxv:(relabel scope X.env).names.lookup x=some .local:=lookup_relabel_local S.loc;refine P6 S M (fun R=>∀v,R.set ix v=(carry fr σ).set ix v) (fun _=>rfl) (fun C=>An (X:=A7 X scope cl N C s2 I fp) S.nd S.at_ (.inl hxv) (.inr hxv)) hfr hlen hif he I2 T st2 f2 c1 c2 (fun D hD=>?_) fin;obtain⟨W,w0,st⟩:=W D hD;refine⟨W,w0,fun i m ys H w=>?_⟩;obtain⟨h1,h2|⟨h2,h3,h4⟩⟩:=st i m ys H w
 .exact⟨h1,.inl h2⟩
 .refine⟨h1,.inr ⟨h2,h3,fun x H' hy R hr=>?_⟩⟩;have:=h4 x H' hy;rw[<-hr]at this;exact⟨fun v=>by rw[List.set_set,hr],this⟩
def jt(S:D7 scope N x ix)(U:X.calm=true)(hfr:Gh N X.N scope X.env.scope fr 0=true)(Y:fr.length=N.length)(M:∀y∈scope.names,y.2=.free->X.env.scope.names.lookup y.1=some .cell\/X.env.scope.names.lookup y.1=some .free) (hi:PI X (.Name x px) iter wi)(hif:∀cl C s₀ H₀ fp,MB ED ifs tif)(he:∀cl C s₀ H₀ fp,PE ED elt te) (hs:∀x,foldedSetIterable iter X.env x=pure x:=by intro _;rfl):PE X IS (U0 wi fr ix tif te):=by
 intro pins s σ H Q I hw;obtain⟨cl,R,c1,_,c2⟩:=G9 (env:=X.env) scope.names [] (fun y hy hf=>I.ok.has y.1 (M y hy hf)) (fun y c z=>by cases z);have g:closureFor scope X.env=pure cl:=by
  have e:closureFor scope X.env=((forIn scope.names [] (fun(x:Str×NameKind) (r:List (Str×AD))=>do if(x.2==NameKind.free)=true then do let a <-cellOf X.env x.1;pure (ForInStep.yield ((x.1,a)::r)) else pure (ForInStep.yield r)):Sem (List (Str×AD)))>>=fun cs=>pure cs):=rfl;rw[e,R]
  rfl
 rw[eval_ListComp];refine wpAny_comprehension_free (use:=none) rfl hs g S.kind S.names (BA (hi pins s σ H _ I hw) fun v s1 h1=>BA h1 fun itv s2 h2=>?_);obtain⟨it,fp,tn,J,H2,e,I2,T,Z,f2,W⟩:=h2;subst e;refine Rb (RR:=fun acc C=>compPost At X.A X.xe none (EP X pins σ Q) acc C) S U hfr Y hif he I2 T Z f2 c1 c2 W ?_;intro D C s' H' m hn q hI _ _ _ _;exact⟨m,hn,fun h' hs'=>⟨.ref D,H',hI h' hs',rfl,q⟩⟩
def Zp{i : Nat}{y : Str}{py spos : Pos}(hN : X.N.Nodup)(hy : X.N[i]? = some y)(hly : X.env.scope.names.lookup y = some .local)(S : D7 scope N x ix)(hcalm : X.calm = true)(hfr : Gh N X.N scope X.env.scope fr 0 = true)(hlen : fr.length = N.length) (hfree : ∀ y∈scope.names,y.2 = .free->X.env.scope.names.lookup y.1 = some .cell\/X.env.scope.names.lookup y.1 = some .free) (hi : PI X (.Name x px) iter wi)(hif : ∀ cl C s₀ H₀ fp,MB ED ifs tif)(he : ∀ cl C s₀ H₀ fp,PE ED elt te) (hsw : swapsWith IS (some (.Name y py)) spos.line X.env = pure true:=by rfl) (hs : ∀ x,foldedSetIterable iter X.env x = pure x:=by intro _; rfl):PS X (.Assign [.Name y py] IS spos) (QY (U0 wi fr ix tif te) (EJ i)):=by
  intro pins s σ H D I hw
  obtain ⟨cl,hclos,c1,_,c2⟩:=G9 (env:=X.env) scope.names [] (fun y hy hf => I.ok.has y.1 (hfree y hy hf)) (fun y c z => by cases z)
  have hclos' : closureFor scope X.env = pure cl:=by
    have e : closureFor scope X.env = ((forIn scope.names [] (fun (x : Str×NameKind) (r : List (Str×AD)) => do if (x.2 == NameKind.free) = true then do let a <- cellOf X.env x.1; pure (ForInStep.yield ((x.1,a) :: r)) else pure (ForInStep.yield r)):Sem (List (Str×AD))) >>= fun cs => pure cs):=rfl
    rw [e,hclos]
    rfl
  rw [exec_Assign_Name_used _ _ _ _ hsw]
  refine Wb (wpAny_standAt (Wb ?_))
  show wpAny _ X.A (do let _ <- comprehension IS scope X.env _ (newList []) false (eval iter X.env) (some (assign (.Name y py) X.env))) _ _ s
  refine Wb (aW (wpAny_comprehension_free (use:=some (assign (.Name y py) X.env)) (Q:=fun _ s' => SP X pins D .next s') rfl hs hclos' S.kind S.names
    (BA (hi pins s σ H _ I hw) fun v s1 h1 => BA h1 fun itv s2 h2 => ?_)) (fun _ s' hq => aA (aA hq)) fun _ _ e => e)
  obtain ⟨it,fp,tn,J,H2,e,I2,T,st2,f2,W⟩:=h2
  subst e
  refine Rb (Q:=fun x H1 => EJ i x σ H1 D.nx) (RR:=fun acc C => compPost At X.A X.xe (some (assign (.Name y py) X.env)) (fun _ s' => SP X pins D .next s') acc C) S hcalm hfr hlen hif he I2 T st2 f2 c1 c2 W ?_
  intro D' C s' H' m hn q hI hCD hold hfreeC hsz
  have I5 : Inv X pins σ H' s':=hI s'.heap (Heap.SameBut.refl ..)
  refine wpAny_assign_Name (Ov I5 hN hy (.inl hly) (v:=.ref D') rfl (fun s'' I6 ⟨a,hsb,ha⟩ => ?_) (.inr hly))
  have hL : C≠X.env.locals:=fun z => by
    obtain ⟨_,⟨o,_,_,e,_⟩,_⟩:=I2.loc
    exact hold _ _ e z.symm
  have hcl : ∀ z c,X.env.cells.lookup z = some c->c≠C:=fun z c e => by
    obtain ⟨_,o,ho,_⟩:=I2.cell z c e
    exact hold _ _ ho
  have hCa : C≠a:=by
    rcases ha with z | z
    . rw [z]; exact hL
    . exact Ne.symm (hcl _ _ z)
  refine ⟨m,hn.sameBut hsb hCa,fun h' hs' => ⟨_,H',I6.turned (t':=s''.toks) (it:=C) (fun b o hb e => (hs'.2 b hb).trans e) hfreeC hL (.inr (aS I2.sz hsz)) hcl fun p hp => ?_,q⟩⟩
  obtain ⟨e,_⟩:=I2.pin p hp
  exact hold _ _ e
end
end L2
namespace FM
def gi(a b:Int):Int:=(Int.gcd a b:Int)
def Vu(a b:Int):Int.gcd b (a.fmod b)=Int.gcd a b:=by
 have e:a.fmod b=a-b*a.fdiv b:=Int.fmod_def a b;rw[e,Int.gcd_comm a b];exact Int.gcd_sub_mul_left_right b a (a.fdiv b)
def UK(a b:Int)(hb:b≠0):(a.fmod b).natAbs<b.natAbs:=by
 rcases Int.lt_or_gt_of_ne hb with h|h
 .have M:-(a.fmod b)=(-a).fmod (-b):=by
   rw[Int.fmod_def,Int.fmod_def,Int.neg_fdiv_neg];have:-b*a.fdiv b=-(b*a.fdiv b):=Int.neg_mul _ _
   lia
  have I:=Int.fmod_nonneg_of_pos (-a) (show 0 < -b by lia);have g:=Int.fmod_lt_of_pos (-a) (show 0 < -b by lia)
  lia
 .have I:=Int.fmod_nonneg_of_pos a h;have g:=Int.fmod_lt_of_pos a h
  lia
def LZ{a b:Int}(hb:b≠0):0<gi a b:=by
 have:0<Int.gcd a b:=Int.gcd_pos_of_ne_zero_right a hb;unfold gi;lia
def ZP{a b:Int}(hb:b≠0):(gi a b).natAbs<=b.natAbs:=by
 have h:Int.gcd a b ∣ b.natAbs:=by
  have:=Int.gcd_dvd_right a b;exact Int.natAbs_dvd_natAbs.mpr this
 have g:0<b.natAbs:=by lia
 have:=Nat.le_of_dvd g h;unfold gi;lia
def gs(t b:Int):Int:=if b<0 then -gi t b else gi t b
def iM{t b:Int}(hb:b≠0):gs t b≠0:=by
 have:=LZ (a:=t) hb;unfold gs;split<;>lia
def ik{t b:Int}(hb:b≠0):(gs t b).natAbs<=b.natAbs:=by
 have:=ZP (a:=t) hb;unfold gs;split<;>lia
def Fz{g x k:Int}(hg:g≠0)(e:x=g*k):x.fdiv g=k:=by
 subst e;exact Int.mul_fdiv_cancel_left k hg
def MF(a b:Int):gi a b ∣ a:=Int.gcd_dvd_left a b
def OA(a b:Int):gi a b ∣ b:=Int.gcd_dvd_right a b
def cn{t b:Int}(hb:b≠0):t.fdiv (gs t b)=(Rat.divInt t b).num:=by
 have I:=LZ (a:=t) hb;obtain⟨k,hk⟩:=MF t b;rw[Rat.num_divInt,Int.gcd_comm b t];show t.fdiv (gs t b)=b.sign*t / gi t b;unfold gs;generalize gi t b=g at I hk ⊢;rcases Int.lt_or_gt_of_ne hb with h|h
 .rw[if_pos h,Int.sign_eq_neg_one_of_neg h,Fz (k:=-k) AC (by rw[hk];simp[Int.mul_neg,Int.neg_mul])];have:-1*t=g*(-k):=by rw[hk];simp[Int.mul_neg]
  rw[this,Int.mul_ediv_cancel_left _ AC]
 .rw[if_neg AC,Int.sign_eq_one_of_pos h,Fz (k:=k) AC hk,Int.one_mul,hk,Int.mul_ediv_cancel_left _ AC]
def dP{t b:Int}(hb:b≠0):b.fdiv (gs t b)=((Rat.divInt t b).den:Int):=by
 have I:=LZ (a:=t) hb;obtain⟨k,hk⟩:=OA t b;rw[Rat.den_divInt,if_neg hb,Int.gcd_comm b t];have e:(((b.natAbs / Int.gcd t b:Nat)):Int)=(b.natAbs:Int) / gi t b:=by unfold gi;simp
 rw[e];unfold gs;generalize gi t b=g at I hk ⊢;rcases Int.lt_or_gt_of_ne hb with h|h
 .rw[if_pos h,Fz (k:=-k) AC (by rw[Int.neg_mul_neg];exact hk)];have:(b.natAbs:Int)=g*(-k):=by rw[Int.mul_neg,<-hk];lia
  rw[this,Int.mul_ediv_cancel_left _ AC]
 .rw[if_neg AC,Fz (k:=k) AC hk];have:(b.natAbs:Int)=g*k:=by rw[<-hk];lia
  rw[this,Int.mul_ediv_cancel_left _ AC]
def Az(a b:Int):(a.fdiv b).natAbs<=a.natAbs:=by
 cases a with
 |ofNat n=>
  cases n with
  |zero=>
   have e:Int.fdiv (.ofNat 0) b=0:=Int.zero_fdiv b;rw[e];exact ar _
  |succ k=>
   cases b with
   |ofNat j=>exact Nat.div_le_self (k+1) j
   |negSucc j=>exact Nat.succ_le_succ (Nat.div_le_self k (j+1))
 |negSucc k=>
  cases b with
  |ofNat j=>
   cases j with
   |zero=>exact ar _
   |succ j=>exact Nat.succ_le_succ (Nat.div_le_self k (j+1))
  |negSucc j=>exact Nat.div_le_self (k+1) (j+1)
def MQ(p:Rat):Rat.divInt p.num p.den=p:=Rat.num_divInt_den p
def A6{x y:Int}{m n:Nat}(I:x.natAbs<2^m)(g:y.natAbs<2^n):(x*y).natAbs<2^(m+n):=by
 rw[Int.natAbs_mul,Nat.pow_add];exact Nat.mul_lt_mul'' I g
def BR{x:Nat}{m n:Nat}(g:x<2^m)(h:m<=n):x<2^n:=aK g (ay AS h)
def Fits(p:Rat)(n:Nat):Prop:=p.num.natAbs<2^n/\p.den<2^n
def Fits.mono{p:Rat}{m n:Nat}(h:Fits p m)(l:m<=n:=by decide):Fits p n:=⟨BR h.1 l,BR h.2 l⟩
def Fits.d{p:Rat}{n:Nat}(h:Fits p n):((p.den:Int)).natAbs<2^n:=by simpa using h.2
end FM
namespace FM
def jT(a b:Int):Int.gcd (if a<0 then -a else a) (if b<0 then -b else b)=Int.gcd a b:=by
 split<;>split<;>simp[Int.gcd_neg,Int.neg_gcd]
def abs_nonneg(a:Int):0<=(if a<0 then -a else a):=by split<;>lia
def kY{g a b:Int}(h:Int.gcd g 0=Int.gcd a b)(h0:0<=g):g=gi a b:=by
 unfold gi;rw[<-h,Int.gcd_zero_right]
 lia
def jw{g a b:Int}(h:Int.gcd g 0=Int.gcd a b):(if g<0 then -g else g)=gi a b:=by
 unfold gi;rw[<-h,Int.gcd_zero_right];split<;>lia
def fmod_nonneg{g l:Int}(I:l≠0)(h:0<=l):0<=g.fmod l:=Int.fmod_nonneg_of_pos g AC
end FM
namespace L2
open PySem PySem.Spec PyProof.Rows
structure Fn(K:Fg)(mg:Str->Option Value)(x:Str)(st:Stmt)(ps:List Str)(f:Addr)(fd:FuncData):Prop where
 F:Tp K x x st f fd
 b:Binds K fd ps []
 m:mg x=some (.ref f)
section
variable{X:Cx}{k:Nat}{f:AD}{fd:F0a}{ps:t7}{sp:Sp}{x:Str}{st:Stmt}{p pos:Pos}{e:Expr}{es:t8}{t:TA}
def AZ(T:Fn X.K X.mg x st ps f fd)(G:AH X.prog X.w X.K X.mg X.base Aa k f fd ps sp)(M:C9 k X.A)(hg:Gl X x)(ha:PA X (e::es) t) (I:GE=false:=by decide)(R:starEach (e::es) X.env=(false,eval e X.env)::starEach es X.env:=by rfl)(g:(backTo pos (starEach es X.env)).any (·.1)=false:=by rfl):PE X G6 (U5 sp [] E0 t):=X3 G M hg T.m T.F.kp T.b .nil pN ha I R g
end
def Jf{t u:TS}{D:Ends}{σ:St}{H:Hp}(P:St->Hp->Prop)(h1:∀nx:St->Hp->Prop,(∀g H',P g H'->nx g H')->t {D with nx:=nx} σ H)(I:∀g H',P g H'->u D g H'):nu t u D σ H:=h1 _ I
def di:2<=sizeLine:=by decide
def AO{H:Hp}{p:AD}(h:H p=none)(o:HO):AK H (upd H p o):=fun b u q=>by rw[AN (AR q h)];exact q
def SameBut(l:AD)(H H':Hp):Prop:=∀b o,b≠l->H b=some o->H' b=some o
def SameBut.of{l:AD}{H H':Hp}(h:AK H H'):SameBut l H H':=fun b o _ q=>h b o q
def SameBut.trans{l:AD}{H H1 g:Hp}(a:SameBut l H H1)(b:SameBut l H1 g):SameBut l H g:=fun c o n h=>b c o n (a c o n h)
theorem SameBut.upd{l:AD}{H:Hp}{o:HO}:SameBut l H (upd H l o):=fun b u n q=>by rw[AN n];exact q
def IX(p:Rat):uD:=[.int p.num,.int (p.den:Int)]
def HH(p:Rat):PD:=.tuple [.int p.num,.int (p.den:Int)]
def D9{i j:Int}{m n:Nat}(h1:i.natAbs<2^m)(g:j.natAbs<2^n)(h:m+n<=1000000):Sk i j\/PQ i j :=
 .inr ⟨m+n,h,FM.BR h1 (Nat.le_add_right _ _),FM.BR g (Nat.le_add_left _ _)⟩
def CJ.get{P:F0b}{w:F0c}{H:Hp}{h:Heap}{a:AD}{o:HO}(x:CJ P w H h a o):∃u,h.get? a=some u:=by
 cases o with
 |lst xs=>obtain⟨_,_,_,_,e⟩:=x;exact⟨_,e⟩
 |tup xs=>obtain⟨_,_,_,o,e,_⟩:=x;exact⟨o,e⟩
 |dK kvs=>obtain⟨_,_,_,_,o,_,_,e,_⟩:=x;exact⟨o,e⟩
 |dT kvs=>obtain⟨_,_,_,_,o,_,_,e,_⟩:=x;exact⟨o,e⟩
 |set S n=>obtain⟨o,_,_,_,e,_⟩:=x;exact⟨o,e⟩
 |ins C dx fs=>obtain⟨_,_,_,e,_⟩:=x;exact⟨_,e⟩
 |own y=>obtain⟨o,e⟩:=x;exact⟨o,e⟩
 |xd fs=>obtain⟨_,⟨o,_,_,e,_⟩,_⟩:=x;exact⟨o,e⟩
 |iW lo hi=>obtain⟨_,_,_,e⟩:=x;exact⟨_,e⟩
 |JH ob u=>obtain⟨e,_⟩:=x;exact⟨_,e⟩
 |QC ps=>exact⟨_,(show h.get? a=some _ from x)⟩
 |met f y=>exact⟨_,(show h.get? a=some _ from x)⟩
 |ext φ=>obtain⟨_,⟨o,e⟩,_⟩:=x;exact⟨o,e⟩
structure Yh(P:Program)(w:World)(outer:List Env)(H:Hp)(s:Shared)(ea:Addr)(cls a0:Value)(H':Hp)(s':Shared)(B:Heap):Prop where
 os:s'.os=s.os
 bare:AllBare s'.gens
 nF:Heap.FlyingW B outer ea cls a0 s'.heap
 keep:∀b o,s.heap.get? b=some o->H b=none->b ∉ GR outer->B.get? b=some o
 there:∀b o,s.heap.get? b=some o->b ∉ GR outer->∃o',B.get? b=some o'
 slot:∀b o,s.heap.get? b=some o->b∈GR outer->∃sl,s'.heap.get? b=some {o with slots:=sl}
 free:∀b o,s.heap.get? b=some o->H b=none->H' b=none
 FW:∀b xs,H b=some (.tup xs)->H' b=some (.tup xs)
 GG:∀b o u,H b=some (.JH o u)->H' b=some (.JH o u)
 HL:∀b ps,H b=some (.QC ps)->∃more,H' b=some (.QC (ps++more))
 HG:∀b xs o,H b=some (.tup xs)->s.heap.get? b=some o->B.get? b=some o
 Am:Dd P w H' B
 new:s.heap.get? ea=none
def CQ(P:F0b)(w:F0c):Iw:=fun outer H s E e s'=>∃ea cls a0 H' B,e=.ref ea/\Yh P w outer H s ea cls a0 H' s' B/\E cls none H'
def QQ{base h:Heap}{l:uH}(F:h.FunFrames base l){b:AD}(hb:b∈GR l):∃o,h.get? b=some o/\∀vs,o.data≠.fields vs:=(F.mem hb).2
section
variable{P:F0b}{w:F0c}{K:Fg}{mg:tm}{base:Heap}{N:t7}{qual:Str}{scope:Scope}{f:AD}{cd:VL}{A:F0d}{outer:uH}{s:SD}{H:Hp}{E:XK}
def kF{pins:Db}{σ:St}{H1:Hp}{s1:SD}{h':Heap}{ea:AD}{cls:VL}{args:tf}(I:Inv (Cz (CQ P w) P w K mg base N qual scope f cd A outer s H E) pins σ H1 s1) (Z:Heap.MadeExcOf s1.heap h' ea cls args)(hE:E cls none H1):(Cz (CQ P w) P w K mg base N qual scope f cd A outer s H E).xe (.ref ea) {s1 with heap:=h'}:=by
 show wpAny (model P w) (A.deeper (envOfC qual scope s.heap.objs.size f cd)) (leaving (envOfC qual scope s.heap.objs.size f cd) (.ref ea)) _ _ _;have FF:=I.stack;have hfr:(A.deeper (envOfC qual scope s.heap.objs.size f cd)).frames=some (envOfC qual scope s.heap.objs.size f cd::outer):=I.ok.frames;have hin:∀env∈(envOfC qual scope s.heap.objs.size f cd::outer),∀b,env.frame=some b->b∈(envOfC qual scope s.heap.objs.size f cd::outer).filterMap (·.frame):=fun env he b hb=>List.mem_filterMap.mpr ⟨env,he,hb⟩;have M:∀b o,s.heap.get? b=some o->b≠s.heap.objs.size:=fun b o e=>aP (aD e);have out:∀b,b≠s.heap.objs.size->b ∉ GR outer->b ∉ (envOfC qual scope s.heap.objs.size f cd::outer).filterMap (·.frame):=fun b h1 h2 hm=>by
  rcases aU.mp (I.Ow b hm) with z|z
  .exact h1 z
  .exact h2 z
 have g:∀b u,H1 b=some u->b ∉ (envOfC qual scope s.heap.objs.size f cd::outer).filterMap (·.frame):=fun b u e hm=>by
  have:=I.Sv b hm;rw[e]at this;cases this
 refine wpAny_leaves_madeW (base:=PySem.W.hideAll s1.heap ((envOfC qual scope s.heap.objs.size f cd::outer).filterMap (·.frame))) hfr rfl (fun b o q=>PySem.W.of_hideAll _ q) (PySem.W.funFrames_hide FF hin) Z fun h2 t fl _ _ up=>?_;have U:Dd P w H1 (PySem.W.hideAll s1.heap ((envOfC qual scope s.heap.objs.size f cd::outer).filterMap (·.frame))):=fun b u e=>
  (I.Am b u e).JL (fun c v hc q=>PySem.W.hideAll_get _ q (by
   rcases hc with rfl|hc
   .exact g _ _ e
   .exact g _ _ hc)) (fun _ q=>q) fun _ _ q=>q
 refine⟨ea,cls,.ref t,H1,_,rfl,⟨I.os,I.bare,fl,fun b o e n hb=>?_,fun b o e hb=>?_,fun b o e hb=>?_,fun b o e n=>I.base.free b o e n (by simp[Cz]),I.base.FW,I.base.GG,I.base.HL,fun b xs o q e=>PySem.W.hideAll_get _ (I.base.HG b xs o q e (by simp[Cz])) (g b _ (I.base.FW b xs q)),U,?_⟩,hE⟩
 .exact PySem.W.hideAll_get _ (I.base.keep b o e n hb (by simp[Cz])) (out b (M b o e) hb)
 .obtain⟨o',R⟩:=I.base.there b o e (by simp[Cz]);exact⟨o',PySem.W.hideAll_get _ R (out b (M b o e) hb)⟩
 .obtain⟨sl,R⟩:=I.base.slot b o e (I.ok.RM b hb) hb (by simp[Cz]);obtain⟨o',e2,hd⟩:=QQ I.Ig hb;rw[R]at e2;cases e2;obtain⟨Y,e3⟩:=up b _ (Z.keeps _ _ R) hd;exact⟨Y,e3⟩
 .cases q:s.heap.get? ea with
  |none=>rfl
  |some o=>
   obtain⟨o',R⟩:=I.base.there ea o q (by simp[Cz]);have:=Z.new;rw[R]at this;cases this
def p9{E':XK}(hE:∀c a H',E' c a H'->E c a H'):Passes (CQ P w) (Cz (CQ P w) P w K mg base N qual scope f cd A outer s H E) E':=by
 intro pins σ H1 s1 e s2 I ⟨ea,cls,a0,H2,B,ee,F,hq⟩;subst ee;show wpAny (model P w) (A.deeper (envOfC qual scope s.heap.objs.size f cd)) (leaving (envOfC qual scope s.heap.objs.size f cd) (.ref ea)) _ _ _;have M:∀b o,s.heap.get? b=some o->b≠s.heap.objs.size:=fun b o e=>aP (aD e);have out:∀b,b≠s.heap.objs.size->b ∉ GR outer->b ∉ GR (Cz (CQ P w) P w K mg base N qual scope f cd A outer s H E).stack:=fun b h1 h2 hm=>by
  rcases aU.mp (I.Ow b hm) with z|z
  .exact h1 z
  .exact h2 z
 refine wpAny_leaves_onW I.ok.frames rfl F.nF fun h3 fl up=>?_;refine⟨ea,cls,a0,H2,B,rfl,⟨F.os.trans I.os,F.bare,fl,fun b o e n hb=>?_,fun b o e hb=>?_,fun b o e hb=>?_,fun b o e n=>?_,fun b xs q=>F.FW b xs (I.base.FW b xs q),fun b o u q=>F.GG b o u (I.base.GG b o u q),fun b ps q=>?_,fun b xs o q e=>F.HG b xs o (I.base.FW b xs q) (I.base.HG b xs o q e (by simp[Cz])),F.Am,?_⟩,hE _ _ _ hq⟩
 .exact F.keep b o (I.base.keep b o e n hb (by simp[Cz])) (I.base.free b o e n (by simp[Cz])) (out b (M b o e) hb)
 .obtain⟨o',g⟩:=I.base.there b o e (by simp[Cz]);exact F.there b o' g (out b (M b o e) hb)
 .obtain⟨sl,g⟩:=I.base.slot b o e (I.ok.RM b hb) hb (by simp[Cz]);have U:b∈GR (Cz (CQ P w) P w K mg base N qual scope f cd A outer s H E).stack:=by
   show b∈GR (envOfC qual scope s.heap.objs.size f cd::outer);unfold GR;rw[List.filterMap_cons];exact aN _ hb
  obtain⟨sl2,Y⟩:=F.slot b _ g U;obtain⟨o',Z,hd⟩:=QQ I.Ig hb;rw[g]at Z;cases Z;obtain⟨R,e4⟩:=up b _ Y hd;exact⟨R,e4⟩
 .obtain⟨o',g⟩:=I.base.there b o e (by simp[Cz]);exact F.free b o' g (I.base.free b o e n (by simp[Cz]))
 .obtain⟨m1,g⟩:=I.base.HL b ps q;obtain⟨m2,Y⟩:=F.HL b _ g;exact⟨m1++m2,by rw[Y,Array.append_assoc]⟩
 .cases q:s.heap.get? ea with
  |none=>rfl
  |some o=>
   obtain⟨o',g⟩:=I.base.there ea o q (by simp[Cz]);have:=F.new;rw[g]at this;cases this
def Tp.tG{x:Str}{st:Stmt}{fd:F0a}{ps:t7}{k:Nat}{sp:Sp}(F:Tp K x x st f fd)(S:Ab N ps (AQ st))(len:∀vs H Q E,sp vs H Q E->vs.length=ps.length) (g:∀(cdv:VL) (A:F0d) (outer:uH) (s:SD) (H:Hp) (vs:uD) (Q:VK) (E:XK),C9 k (A.deeper (envOfC x (AQ st) s.heap.objs.size f cdv))->sp vs H Q E ->∃t,J9 (Cz (CQ P w) P w K mg base N x (AQ st) f cdv A outer s H E) (EA st) t/\t { nx:=fun _ H'=>Q .Bj H',rt:=Q} (start N vs) H):AH P w K mg base (CQ P w) (k+1) f fd ps sp:=by
 obtain⟨oc,od,kV,doc,pm,an,cdv,ct,osl,rfl,lk,M⟩:=F.ex;exact jE lk M S len fun A outer s H vs Q E R I=>g cdv A outer s H vs Q E R I
def AH.so{fd:F0a}{ps:t7}{k:Nat}{sp:Sp}(F:AH P w K mg base Aa k f fd ps sp):AH P w K mg base (CQ P w) k f fd ps sp :=
 ⟨F.len,fun A outer s H args us vs Q E M R hb g I=>codeAny_mono (F.run A outer s H args us vs Q E M R hb g I) fun r s' h=>by
  cases r with
  |ok U=>cases U<;>exact h
  |error e=>exact False.elim h⟩
end
structure Exc(K:Fg)(mg:Str->Option Value)(x:Str)(C:Addr):Prop where
 m:mg x=some IO
 q:PySem.W.excIn K C [.type "ValueError",.type "Exception",.type "BaseException",.type "object"] "ValueError.__new__" = true
def jN{K:Fg}{h:Heap}{C:AD}{bB:tf}{I:String}(P4:K.In h)(g:PySem.W.excIn K C bB I=true):∃tl N nm R bs hd sn sub ab col dd k0 k1 k2 k3 k5 mN,h.get? C=some (excClassObj nm R C N bs tl hd sn sub ab col dd k0 k1 k2 k3 k5 I)/\h.Ns N mN/\mN "__init__" = none/\OwnTail h bB tl:=by
 unfold PySem.W.excIn at g;split at g
 .rename_i dd cd sl lk;split at g
  .rename_i C1 tl k0 k1 k2 k3 n1 k5 e1 Z;simp only[Bool.and_eq_true,beq_iff_eq,Bool.not_eq_true']at g;obtain⟨⟨⟨⟨⟨y1,y2⟩,Y⟩,y4⟩,M⟩,U⟩:=g;subst y1 y2;obtain⟨nm,bs,mro,N,R,hd,sn,sub,ab,col,del⟩:=cd;dsimp only at e1 Y M U;subst e1 Y;have e3:sl=#[k0,k1,k2,k3,some (.builtin n1),k5]:=by
    cases sl with
    |mk l=>simp only at Z;rw[Z]
   subst e3;exact⟨tl,N,nm,R,bs,hd,sn,sub,ab,col,dd,k0,k1,k2,k3,k5,_,P4 _ _ lk,.of_isNs (PySem.W.isNs_of_in P4 M),PySem.W.nsMap_none_of_in P4 M U,PySem.W.tail_of_in P4 y4⟩
  .cases g
 .cases g
section
variable{X:Cx}{x:Str}{C:AD}{np cpos pos:Pos}{e:Expr}{te:TE}{E:XK}
def Lets(X:Cx)(E:XK):Prop:=∀(pins:Db) (σ:St) (H:Hp) (s:SD) (h':Heap) (ea:AD) (cls:VL) (args:List VL),Inv X pins σ H s->Heap.MadeExcOf s.heap h' ea cls args->E cls none H->X.xe (.ref ea) {s with heap:=h'}
def lV(C:AD)(E:XK)(te:TE):TS:=fun _ σ H=>te σ H fun _ H1=>E IO none H1
def et(T:Exc X.K X.mg x C)(hL:Lets X E)(M:X.calm=true)(hg:Gl X x)(he:PE X e te)(hd:GE=false:=by decide) (R:starEach [e] X.env=[(false,eval e X.env)]:=by rfl):PS X (.Raise (some (.Call (.Name x np) [e] [] cpos)) none pos) (lV C E te):=by
 intro pins s σ H D I h;obtain⟨tl,N,nm,qn,bs,g,sn,sub,ab,col,dd,k0,k1,k2,k3,k5,Z,hC,hN,Y,TL⟩:=jN I.ok.mod.P4 T.q;refine wpAny_Raise_call_subT (C:=C) (nm:=nm) (q:=qn) (N:=N) (bs:=bs) (bm:=tl) (hdct:=g) (sn:=sn) (sub:=sub) (ab:=ab) (col:=col) (dd:=dd) (k0:=k0) (k1:=k1) (k2:=k2) (k3:=k3) (k5:=k5)
  PySem.F.excBase_ValueError (mN:=Z) (TL.hasType AS) (I.ok.hd M) (by rw[R];rfl) Y (JK I hg T.m ⟨rfl,?_⟩ hd)
 rw[R];refine Calls.evalArgs_plain (Calls.spliced_cons (BA (he pins s σ H _ I h) fun u s1 ⟨v,H1,U,r1,q1⟩=>Calls.spliced_nil ?_));exact⟨rfl,by show 1<=sizeLine;decide,U.bk _ _ hC,hN.keeps U.bk,TL.keeps U.bk,fun h' ea hm=>hL pins σ H1 s1 h' ea _ _ U hm q1⟩
end
def Uu(X:Cx)(pins:Db)(σ:St)(E:XK)(e:VL)(s':SD):Prop:=∃H0 s0,Inv X pins σ H0 s0/\CQ X.prog X.w X.stack H0 s0 E e s'
abbrev TX:=St->Hp->VK->XK->Prop
def qr(X:Cx)(e:Expr)(t:TX):Prop :=
 ∀(pins:Db) (s:SD) (σ:St) (H:Hp) (Q:VK) (E:XK),Inv X pins σ H s->t σ H Q E->wpAny At X.A (eval e X.env) (EP X pins σ Q) (Uu X pins σ E) s
section
variable{X:Cx}{k:Nat}{f:AD}{fd:F0a}{ps:t7}{sp:Sp}{x:Str}{st:Stmt}{p pos:Pos}{e:Expr}{es:t8}{t:TA}
def mX(sp:Sp)(t:TA):TX:=fun σ H Q E=>t σ H fun vs H1=>sp (vs++[]) H1 Q E
def jl{pins:Db}{σ:St}{H:Hp}{s:SD}{Q:VK}{E:XK}{us:tf}{vs:uD}(F:AH X.prog X.w X.K X.mg X.base (CQ X.prog X.w) k f fd ps sp)(R:C9 k X.A)(hb:Binds X.K fd ps []) (I:Cl)(r:Vals vs us)(h:sp (vs++[]) H Q E):wpAny At X.A (call (.ref f) us) (EP X pins σ Q) (Uu X pins σ E) s:=by
 rw[(Od)]at h;have U:(us++[]).length=ps.length:=by rw[(Od),<-r.length];exact F.len _ _ _ _ h
 have M:=hb s us I.Gf U;rw[(Od)]at M;refine wpAny_call (codeAny_mono (F.run X.A X.stack s H ⟨us,[]⟩ us vs Q E R I.lO M r h) fun r s' g=>?_);cases r with
 |error e=>exact⟨H,s,I,g⟩
 |ok Y=>
  cases Y with
  |ret u=>exact I.after g
  |next=>exact False.elim g
  |brk=>exact False.elim g
  |cont=>exact False.elim g
def lu(T:Fn X.K X.mg x st ps f fd)(G:AH X.prog X.w X.K X.mg X.base (CQ X.prog X.w) k f fd ps sp)(U:C9 k X.A)(hg:Gl X x)(ha:PA X.Ki (e::es) t) (M:GE=false:=by decide)(Y:starEach (e::es) X.env=(false,eval e X.env)::starEach es X.env:=by rfl)(g:(backTo pos (starEach es X.env)).any (·.1)=false:=by rfl):qr X G6 (mX sp t):=by
 intro pins s σ H Q E I h;refine bf (JK I hg T.m ?_ M);refine PySem.W.callWith_K (h₀:=X.base) I.ok.mod.P4 T.F.kp (aW (ha pos pins s σ H _ (I.Hy _) h) (fun us s1 ⟨vs,H1,R,r,q⟩=>⟨R.Gf,?_⟩) fun _ _ z=>z.elim) Y g;exact jl G U T.b R.Ex r q
end
def land{X:Cx}{pins:Db}{σ:St}{H0 H':Hp}{s0 s':SD}{ea:AD}{cls a0:VL}{B:Heap}(I:Inv X pins σ H0 s0)(F:Yh X.prog X.w X.stack H0 s0 ea cls a0 H' s' B) {h':Heap}{tk:Nat}(st:B.StaysIn h')(up:s'.heap.UpToSlots h'):Inv X pins σ H' { s' with heap:=h',toks:=tk}:=by
 have g:∀b o,s0.heap.get? b=some o->b∈GR X.stack->∃sl,h'.get? b=some {o with slots:=sl}:=fun b o e hb=>by
  obtain⟨sl,M⟩:=F.slot b o e hb;obtain⟨o',U,hd⟩:=QQ I.stack hb;rw[e]at U;cases U;obtain⟨R,Y⟩:=up b _ M hd;exact⟨R,Y⟩
 refine I.iO (s':={ s' with heap:=h',toks:=tk}) (ch:=[]) F.os ⟨fun b o e n hb _=>st b o (F.keep b o e n hb),fun b o e n hb _=>g b o e hb,fun b o e n _=>F.free b o e n,fun b o e _=>?_,F.FW,F.GG,F.HL,fun b xs o q e _=>st b o (F.HG b xs o q e)⟩ (F.Am.kept st) F.bare fun b z=>absurd z Do;by_cases hb:b∈GR X.stack
 .obtain⟨sl,M⟩:=g b o e hb;exact⟨_,M⟩
 .obtain⟨o',M⟩:=F.there b o e hb;exact⟨o',st _ _ M⟩
def NA(ea:AD)(cls:VL):HO:=.ext fun h=>∃o vs,h.get? ea=some o/\o.cls=cls/\o.data=.fields vs
def qN{X:Cx}{pins:Db}{σ:St}{H0 H':Hp}{s0 s' U:SD}{ea:AD}{cls a0:VL}{B:Heap}(I:Inv X pins σ H0 s0)(F:Yh X.prog X.w X.stack H0 s0 ea cls a0 H' s' B) (g:Inv X pins σ H' U)(ho:∃o vs,U.heap.get? ea=some o/\o.cls=cls/\o.data=.fields vs):H' ea=none/\Inv X pins σ (upd H' ea (NA ea cls)) U:=by
 have hn:H' ea=none:=by
  cases q:H' ea with
  |none=>rfl
  |some u=>
   obtain⟨o,e⟩:=(F.Am ea u q).get;rw[F.nF.2.1]at e;cases e
 have ne:∀b o,s0.heap.get? b=some o->b≠ea:=fun b o e z=>by rw[z,F.new]at e;cases e
 have up:∀b,b≠ea->upd H' ea (NA ea cls) b=H' b:=fun b z=>AN z;have neT:∀b u,H' b=some u->b≠ea:=fun b u e z=>by rw[z,hn]at e;cases e
 refine⟨hn,g.ok,g.os,g.bare,⟨g.base.keep,g.base.slot,fun b o e n hx=>?_,g.base.there,fun b xs e=>?_,fun b o u e=>?_,fun b ps e=>?_,g.base.HG⟩,g.loc,g.cell,?_,fun y c e=>?_,fun p hp=>?_,fun b u e=>?_,g.len⟩
 .obtain⟨o',M⟩:=I.base.there b o e hx;rw[up b (ne b o' M)];exact g.base.free b o e n hx
 .have:=g.base.FW b xs e;rw[up b (neT _ _ this)];exact this
 .have:=g.base.GG b o u e;rw[up b (neT _ _ this)];exact this
 .obtain⟨m,M⟩:=g.base.HL b ps e;exact⟨m,by rw[up b (neT _ _ M)];exact M⟩
 .obtain⟨m,⟨o,_,_,e,_⟩,_⟩:=I.loc;rw[up _ (ne _ o e)];exact g.free
 .obtain⟨v,o,M,_⟩:=I.cell y c e;rw[up _ (ne _ o M)];exact g.GJ y c e
 .obtain⟨M,Z,Y⟩:=g.pin p hp;have e0:=(I.pin p hp).1;exact⟨M,by rw[up _ (ne _ _ e0)];exact Z,Y⟩
 .by_cases hb:b=ea
  .subst hb;rw[AM]at e;cases e;obtain⟨o,vs,M,Z,Y⟩:=ho;exact⟨⟨o,vs,M,Z,Y⟩,⟨o,M⟩,fun h1 h2 ⟨o1,R,q1,q2⟩ k=>⟨o1,R,k _ q1,q2⟩⟩
  .rw[up b hb]at e;exact(g.Am b u e).JL (fun c v _ q=>q) (fun c q=>by rw[up c (neT _ _ q)];exact q) fun c xs q=>by rw[up c (neT _ _ q)];exact q
structure Eb(K:Fg)(C G:Addr)(b:Bool):Prop where
 cl:(PySem.W.clsIn K G).isSome=true
 ty:PySem.W.typeIn K (.ref G)=some (.type "type")
 ex:PySem.W.subIn K (.ref G) (.type "BaseException")=some true
 sub:PySem.W.subIn K IO (.ref G)=some b
def Wa{M:Model}{A:F0d}{E:tj}{s:SD}{K:Fg}{e C G:AD}{I:Obj}{b:Bool}{Q:Bool->SD->Prop}(X:K.In s.heap)(he:s.heap.get? e=some I)(hc:I.cls=.ref C)(B:Eb K C G b) (h:Q b s):wpAny M A (excMatches (.ref e) (.ref G)) Q E s:=by
 have l1:PySem.W.Looks M s.heap (isInstance (.ref G) (.type "tuple")) false:=(PySem.W.looks_typeIn X B.ty).andThen (PySem.W.Looks.of_pure tc_notTuple);have l2:PySem.W.Looks M s.heap (isType (.ref G)) true:=by
  have z:=B.cl;unfold PySem.W.clsIn at z;split at z
  .rename_i c' d' cd' R ho;intro A' Q' E' s' k q;unfold isType loadHead;exact Wb (wpAny_loadPart (k _ _ (X _ _ ho)) (aA q))
  .cases z
 have Z:PySem.W.Looks M s.heap (isSubtype (.ref G) (.type "BaseException")) true:=PySem.W.looks_subIn X B.ex;have Y:PySem.W.Looks M s.heap (typeOf (.ref e)) IO:=hc ▸ (PySem.W.Looks.ld he).andThen .now
 have U:PySem.W.Looks M s.heap (isSubtype IO (.ref G)) b:=PySem.W.looks_subIn X B.sub;obtain⟨hp,g,d,tk,os⟩:=s;unfold excMatches isExcClass;refine Wb (l1.at ?_);simp only[Bool.false_eq_true,if_false];refine Wb (aA ?_);simp only[List.forIn_cons,List.forIn_nil];refine Wb (Wb (Wb (Wb (l2.at ?_))));simp only[if_true];refine Z.at ?_;simp only[Bool.not_true,Bool.false_eq_true,if_false];refine aA (aA (Wb (Y.at (Wb (Wb (Wb (U.at ?_)))))));cases b with
 |true=>
  simp only[if_true];exact aA (aA (aA h))
 |false=>
  simp only[Bool.false_eq_true,if_false];exact aA (aA (aA h))
def Cx.held(X:Cx)(ea:AD):Cx:={X with A:=X.A.mark (some (.ref ea)),calm:=false,xe:=fun _ _=>False}
def Inv.held{X:Cx}{pins:Db}{σ:St}{H:Hp}{s:SD}(I:Cl)(ea:AD):Inv (X.held ea) pins σ H s :=
 ⟨⟨I.ok.mod,I.ok.kind,I.ok.glob,I.ok.blt,I.ok.above,I.ok.inj,I.ok.has,I.ok.Vi,fun z=>(by cases z),I.ok.frames,I.ok.Q5,I.ok.kq,I.ok.bs,I.ok.RU,I.ok.TC,I.ok.Sd,I.ok.Ig,I.ok.RM,I.ok.kt⟩,I.os,I.bare,I.base,I.loc,I.cell,I.free,I.GJ,I.pin,I.Am,I.len⟩
def Inv.oy{X:Cx}{pins:Db}{σ:St}{H:Hp}{s:SD}{ea:AD}(ok:X.Ok)(I:Inv (X.held ea) pins σ H s):Inv X pins σ H s :=
 ⟨ok,I.os,I.bare,I.base,I.loc,I.cell,I.free,I.GJ,I.pin,I.Am,I.len⟩
def rL{X:Cx}{pins:Db}{σ:St}{H:Hp}{s:SD}{M:Model}{A:F0d}{E:tj}{i:Nat}{n:Str}{pos:Pos}{Q:Unit->SD->Prop}(I:Cl)(hN:X.N.Nodup)(hi:X.N[i]? = some n)
 (hl:X.env.scope.names.lookup n=some .local)(h:∀s',Inv X pins (σ.set i none) H s'->Q () s'):wpAny M A (do bindName X.env n .none;unbindBehindTheSuite X.env n pos) Q E s:=by
 obtain⟨m,hn,hlk⟩:=id I.loc;have Z:(X.env.scope.kind==.class||(X.env.scope.kind==.module&&X.env.locals != X.env.globals))=false:=by rw[I.ok.kind];rfl
 refine wpAny_nameGoes_keeps hl hn Z fun h' v hn' g=>h _ ?_;have hiS:i<σ.length:=by rw[I.len];exact(aB.mp hi).1
 obtain⟨oL,_,_,hoL,_⟩:=id hn;have tr:Dd X.prog X.w H h':=fun b ob e=>(I.Am b ob e).JL (fun c w' U q=>(g.2 c (by
  rintro rfl;rcases U with U|U
  .rw[<-U,I.free]at e;cases e
  .rw[I.free]at U;cases U)).trans q) (fun _ q=>q) fun _ _ q=>q
 refine⟨I.ok,I.os,I.bare,⟨fun b o e n hb R=>?_,fun b o e n hb R=>?_,I.base.free,fun b o e R=>?_,I.base.FW,I.base.GG,I.base.HL,fun b xs o q e R=>(g.2 b (aP (aK (aD e) I.ok.above))).trans (I.base.HG b xs o q e R)⟩,⟨_,hn',fun j y v' Y e2 e3=>?_⟩,fun y c e=>?_,I.free,I.GJ,fun p hp=>?_,tr,by simpa using I.len⟩
 .exact(g.2 b (aP (aK (aD e) I.ok.above))).trans (I.base.keep b o e n hb R)
 .obtain⟨sl,Y⟩:=I.base.slot b o e n hb R;exact⟨sl,(g.2 b (aP (aK (aD e) I.ok.above))).trans Y⟩
 .obtain⟨o',Y⟩:=I.base.there b o e R;exact⟨o',(g.2 b (aP (aK (aD e) I.ok.above))).trans Y⟩
 .by_cases hj:j=i
  .subst hj;rw[List.getElem?_set_self hiS]at e2;cases e2
  .rw[List.getElem?_set_ne (Ne.symm hj)]at e2;obtain⟨u',r',q⟩:=hlk j y v' Y e2 e3;refine⟨u',r',?_⟩;rcases q with ⟨k,e⟩|⟨k,c,e,z⟩
   .refine .inl ⟨k,?_⟩;have:y≠n:=fun e=>hj (QZ hN Y (e ▸ hi));simp[this,e]
   .exact .inr ⟨k,c,e,z.sameBut g (I.Rl y c e)⟩
 .obtain⟨w',z⟩:=I.cell y c e;exact⟨w',z.sameBut g (I.Rl y c e)⟩
 .obtain⟨e,n',ne,nf,d⟩:=I.pin p hp;exact⟨(g.2 p.1 ne).trans e,n',ne,nf,d⟩
open PySem PySem.Spec PyProof.Rows PySem.Builtin.ObjectAttr PySem.Builtin.Getset_descriptor
structure CV(K:Fg)(C:Addr):Prop where
 cl:(PySem.W.clsIn K C).isSome=true
 ga:PySem.W.findIn K IO "__getattribute__" = some (some (.builtin "BaseException.__getattribute__"))
 gh:PySem.W.findIn K IO "__getattr__" = some none
 at_:PySem.W.findIn K IO "__class__" = some (some (.builtin "object.__class__"))
 gt:PySem.W.specialIn K (.builtin "object.__class__") "__get__" = some (some (.builtin "getset_descriptor.__get__"))
 tk:PySem.W.takesIn K (.builtin "object.__class__")=some true
 ob:PySem.W.mroIn K C (.type "object")=some true
 be:PySem.W.mroIn K C (.type "BaseException")=some true
def excAt(x C:AD)(h:Heap):Prop:=∃o vs,h.get? x=some o/\o.cls=.ref C/\o.data=.fields vs
def excAt.ty{x C:AD}{h:Heap}(p:excAt x C h)(M:Model):PySem.W.Looks M h (typeOf (.ref x)) IO:=by
 obtain⟨o,_,e,c,_⟩:=p;exact c ▸ (PySem.W.Looks.ld e).andThen .now
def fR{K:Fg}{C:AD}{h:Heap}(X:K.In h)(z:(PySem.W.clsIn K C).isSome=true)(M:Model):PySem.W.Looks M h (isType IO) true:=by
 unfold PySem.W.clsIn at z;split at z
 .rename_i Y U R g I;intro A' Z E' s' k q;exact Wb (wpAny_loadPart (k _ _ (X _ _ I)) (aA q))
 .cases z
section
variable{prog:F0b}{w:F0c}{A:F0d}{E:tj}{K:Fg}{x C:AD}{h:Heap}{g:Array GenState}{d:Drawn}{t:Nat}{os:OsState}
def gV(X:K.In h)(F:CV K C)(M:Model):PySem.W.Looks M h (find (.ref x) IO "__class__") (.bind (.builtin "getset_descriptor.__get__") (.builtin "object.__class__")):=by
 have a1:=PySem.W.looks_findIn (M:=M) X F.at_;have a2:PySem.W.Looks M h (getOf (some (.builtin "object.__class__"))) (some (.builtin "getset_descriptor.__get__")):=PySem.W.looks_specialIn X F.gt;have a3:=PySem.W.looks_takesIn (M:=M) X F.tk;exact a1.andThen (a2.andThen ((show PySem.W.Looks M h (dataDescriptor? (some (.builtin "object.__class__")) (some (.builtin "getset_descriptor.__get__"))) (some (.builtin "getset_descriptor.__get__",.builtin "object.__class__")) from a3.andThen .now).andThen (PySem.W.Looks.tag .now)))
def jM{I:VL}{R:Result->SD->Prop}(X:K.In h)(F:CV K C)(p:excAt x C h)(U:R (.ok (.ret IO)) ⟨h,g,d,t,os⟩):codeAny Da A (.call (.builtin "getset_descriptor.__get__") ⟨[.builtin "object.__class__",.ref x,I],[]⟩) R ⟨h,g,d,t,os⟩:=by
 have b0:=p.ty Da;have b1:=PySem.W.looks_mroIn (M:=model prog w) X F.ob;refine codeAny_call_builtin PySem.W.KF.slot_gs.plain PySem.W.KF.entry_gs ?_;refine PySem.W.KF.slot_gs.check _ _ _ _ _ _ _ _ PySem.W.KF.type_class (PySem.W.KF.args_gs _ _ _) ?_;unfold Builtin.«getset_descriptor.__get__» descrGet;rw[PySem.W.dga_obj];refine Wb (aA ?_);unfold descrGetter descrCheckInstance descrNameAndClass isInstance;simp only[PySem.W.KF.owner_class]
 repeat lk
 refine⟨Code.quiet_builtin _ (by decide +kernel),codeAny_builtin PySem.W.KF.entry_class ?_⟩;unfold Builtin.«object.__class__» shownTypeOf
 repeat lk
 exact U
def eQ{tk:Tok}{Q:Fin->SD->Prop}(X:K.In h)(F:CV K C)(p:excAt x C h)(I:Q (.done (.ret IO)) ⟨h,g,d,t,os⟩):wpAny Da A (Builtin.«object.__getattribute__» ⟨[.ref x,.str "__class__" tk],[]⟩) Q E ⟨h,g,d,t,os⟩:=by
 have b0:=p.ty Da;have b1:=gV (x:=x) X F Da;unfold Builtin.«object.__getattribute__»
 repeat lk
 refine wpAny_run (jM X F p ?_);exact aA (aA I)
def cz{I:VL}{Q:Unit->SD->Prop}(X:K.In h)(F:CV K C)(p:excAt x C h)(R:Q () ⟨h,g,d,t,os⟩):wpAny Da A (checkBuiltinCall "BaseException.__getattribute__" ⟨[.ref x,I],[]⟩) Q E ⟨h,g,d,t,os⟩:=by
 have Y:builtinKind "BaseException.__getattribute__" = some .slot:=by decide +kernel
 have U:splitId "BaseException.__getattribute__" = some ("BaseException","__getattribute__"):=by decide +kernel
 have Z:=PySem.F.args_bexc_ga (.ref x) I;have b0:=p.ty Da;have b1:=PySem.W.looks_mroIn (M:=model prog w) X F.be;simp only[checkBuiltinCall,Y,U];refine Wb ?_;unfold isInstance
 repeat lk
 exact R
def a6{Q:Option VL->SD->Prop}(X:K.In h)(F:CV K C)(p:excAt x C h)(I:Q (some IO) ⟨h,g,d,t+1,os⟩):wpAny Da A (getAttr? (.ref x) "__class__") Q E ⟨h,g,d,t,os⟩:=by
 have b0:=p.ty Da;have b1:=PySem.W.looks_findIn (M:=model prog w) X F.ga;have b2:=PySem.W.looks_findIn (M:=model prog w) X F.gh;unfold getAttr? getAttrBy? getAttrBy;refine Wb (wpAny_mkText (Wb (bc (bD (Wb (b0.at (Wb (b1.at ?_))))))));have U:(Value.builtin "BaseException.__getattribute__" == Value.builtin "object.__getattribute__")=false:=by decide +kernel
 have Y:¬((onTheHeap (Value.ref C)&&Value.builtin "BaseException.__getattribute__" == Value.builtin "object.__getattribute__")=true):=by rw[U,(MP)];exact aO
 show wpAny _ _ (if(onTheHeap (Value.ref C)&&Value.builtin "BaseException.__getattribute__" == Value.builtin "object.__getattribute__")=true then _ else _) _ _ _;rw[if_neg Y];unfold getAttrByItsOwn;refine Wb (show wpAny _ _ (typeLookup (Value.ref C) "__getattr__") _ _ _ from b2.at ?_);refine Wb (bc (bD ?_));show wpAny _ _ (boundAndCalled _ _ _) _ _ _;unfold boundAndCalled;have R:=(PySem.F.excAttr_ValueError).ga.bind (.ref x);refine Wb (wpAny_of_eq R ?_);refine wpAny_call (codeAny_call_builtin (PySem.F.excAttr_ValueError).ga.plain PySem.F.entry_bexc_ga (cz X F p (eQ X F p ?_)));exact aA (aA I)
end
def gK{K:Fg}{x C:AD}(F:CV K C):PySem.W.KitX K (.ref x) IO (excAt x C) where
 ty:=fun M h _ p=>p.ty M
 it:=fun M h X _=>fR X F.cl M
 ne:=fun h tp dd its n sl X htp=>by
  have z:=F.cl;refine aZ.mpr fun q=>?_;have e:C=tp:=Value.ref.inj (beq_iff_eq.mp q);subst e;unfold PySem.W.clsIn at z;split at z
  .rename_i c' d' cd' sl' ho;have y:=(X _ _ ho).symm.trans htp;cases y
  .cases z
 ca:=fun {prog w A E Q s} X p k=>by
  obtain⟨h,g,d,t,os⟩:=s;exact a6 X F p k
def Cr:V->VL
 |.ref C=>.ref C
 |.ty n=>.type n
 |_=>.none
def X4{c:V}{u:VL}(r:RelV c u)(h:Cr c≠.none):u=Cr c:=by
 cases c with
 |ref C=>exact r
 |ty n=>exact r
 |_=>exact absurd rfl h
section
variable{X:Cx}
def rq(K:Fg):List V->Hp->VK->Prop:=fun xs H Q=>∃x c t b,xs=[x,c]/\Cr c≠.none/\IY K H x t/\PySem.W.kitOne K t (Cr c)=some b/\Q (.bl b) H
def FD:I0 X (.builtin "isinstance") (rq X.K):=by
 intro pins s σ H xs us Q I r h;obtain⟨x,c,t,b,rfl,R,ty,e,q⟩:=h;obtain⟨u,v,rfl,M,g⟩:=r.two;rw[X4 g R];exact Z9 I M ty e fun tk=>⟨.bl b,H,I.tok tk,rfl,q⟩
def qb(K:Fg):List V->Hp->VK->Prop:=fun xs H Q=>∃ea C c b,xs=[.ref ea,c]/\Cr c≠.none/\H ea=some (NA ea IO)/\CV K C/\PySem.W.kitOne K IO (Cr c)=some b/\Q (.bl b) H
def eU:I0 X (.builtin "isinstance") (qb X.K):=by
 intro pins s σ H xs us Q I r h;obtain⟨ea,C,c,b,rfl,U,R,F,e,q⟩:=h;obtain⟨u,v,rfl,M,g⟩:=r.two;rw[X4 g U];cases (show u=Value.ref ea from M);obtain⟨p,_,_⟩:=(show CJ X.prog X.w H s.heap ea (NA ea IO) from I.Am ea _ R);exact bE (gK F) I.Gf p e Hq fun tk=>⟨.bl b,H,I.tok tk,rfl,q⟩
end
def mx(K:Fg):PySem.W.kitOne K (.type "tuple") (.type "tuple")=some true:=rfl
def lU(K:Fg):PySem.W.kitOne K (.type "int") (.type "int")=some true:=rfl
def nv(K:Fg):PySem.W.kitOne K (.type "bool") (.type "bool")=some true:=rfl
def lX(K:Fg):PySem.W.kitOne K (.type "int") (.type "bool")=some false:=by kernel_rfl
def nL(K:Fg):PySem.W.kitOne K (.type "bool") (.type "int")=some true:=by kernel_rfl
def oY(K:Fg):PySem.W.kitOne K (.type "list") (.type "tuple")=some false:=by kernel_rfl
def mZ(K:Fg):PySem.W.kitOne K (.type "tuple") (.type "list")=some false:=by kernel_rfl
def mv(K:Fg):PySem.W.kitOne K (.type "list") (.type "list")=some true:=rfl
def lj(K:Fg):PySem.W.kitOne K (.type "int") (.type "tuple")=some false:=by kernel_rfl
def mj(K:Fg):PySem.W.kitOne K (.type "bool") (.type "tuple")=some false:=by kernel_rfl
def ku(K:Fg):PySem.W.kitOne K (.type "NoneType") (.type "tuple")=some false:=by kernel_rfl
def mE(K:Fg):PySem.W.kitOne K (.type "str") (.type "tuple")=some false:=by kernel_rfl
def mY(K:Fg):PySem.W.kitOne K (.type "tuple") (.type "int")=some false:=by kernel_rfl
def mr(K:Fg):PySem.W.kitOne K (.type "list") (.type "int")=some false:=by kernel_rfl
def oh(K:Fg):PySem.W.kitOne K (.type "NoneType") (.type "int")=some false:=by kernel_rfl
def nc(K:Fg):PySem.W.kitOne K (.type "str") (.type "int")=some false:=by kernel_rfl
def nq(K:Fg):PySem.W.kitOne K (.type "int") (.type "list")=some false:=by kernel_rfl
def mJ(K:Fg):PySem.W.kitOne K (.type "bool") (.type "list")=some false:=by kernel_rfl
def kX(K:Fg):PySem.W.kitOne K (.type "NoneType") (.type "list")=some false:=by kernel_rfl
def ll(K:Fg):PySem.W.kitOne K (.type "str") (.type "list")=some false:=by kernel_rfl
def freeOk(g:Scope)(names:List (Str×NameKind)):Bool:=names.all fun y=>y.2 != .free||g.names.lookup y.1==some .cell||g.names.lookup y.1==some .free
def Lx{g:Scope}{names:List (Str×NameKind)}(h:freeOk g names=true):∀y∈names,y.2=.free->g.names.lookup y.1=some .cell\/g.names.lookup y.1=some .free:=fun y I hf=>by
 have q:=List.all_eq_true.mp h y I;rw[hf]at q;simp only[bne_self_eq_false,Bool.false_or,Bool.or_eq_true,beq_iff_eq]at q;exact q
def DD(scope:Scope)(N:t7)(x:Str)(ix:Nat):Bool :=
 scope.kind==.function&&(scope.names.all fun y=>y.2 != .cell&&(y.2 != .local||scope.names.lookup y.1==some .local)&&(y.2 != .free||scope.names.lookup y.1==some .free))&&scope.names.lookup x==some .local&&decide N.Nodup&&N[ix]? == some x
def FY{scope:Scope}{N:t7}{x:Str}{ix:Nat}(h:DD scope N x ix=true):D7 scope N x ix:=by
 unfold DD at h;simp only[Bool.and_eq_true,beq_iff_eq,decide_eq_true_eq,List.all_eq_true,bne_iff_ne,Bool.or_eq_true]at h;obtain⟨⟨⟨⟨Z,M⟩,Y⟩,U⟩,R⟩:=h;exact⟨Z,fun y g=>(M y g).1.1,fun y g I=>(M y g).1.2.resolve_left fun z=>z I,fun y g I=>(M y g).2.resolve_left fun z=>z I,Y,U,R⟩
section
variable{X:Cx}{elt iter:Expr}{x:Str}{px pos:Pos}{ifs:t8}{scope:Scope}{wi:TI}{tif:TT}{te:TE}
def CH(N:t7)(ix:Nat)(fr:uI)(hi:PI X (.Name x px) iter wi)(g:∀cl C s₀ H₀ fp,MB ED ifs tif)(M:∀cl C s₀ H₀ fp,PE ED elt te) (h1:DD scope N x ix=true:=by decide +kernel)(Z:X.calm=true:=by rfl)(Y:Gh N X.N scope X.env.scope fr 0=true:=by rfl)(U:fr.length=N.length:=by rfl)(R:freeOk X.env.scope scope.names=true:=by rfl) (I:∀x,foldedSetIterable iter X.env x=pure x:=by intro _;rfl):PE X IS (U0 wi fr ix tif te) :=
 jt (FY h1) Z Y U (Lx R) hi g M I
def FA{i:Nat}{y:Str}{U g:Pos}(N:t7)(ix:Nat)(fr:uI)(hN:X.N.Nodup)(Y:X.N[i]? = some y)(M:X.env.scope.names.lookup y=some .local) (hi:PI X (.Name x px) iter wi)(R:∀cl C s₀ H₀ fp,MB ED ifs tif)(he:∀cl C s₀ H₀ fp,PE ED elt te) (h1:DD scope N x ix=true:=by decide +kernel)(h2:X.calm=true:=by rfl)(h3:Gh N X.N scope X.env.scope fr 0=true:=by rfl)(h4:fr.length=N.length:=by rfl)(h5:freeOk X.env.scope scope.names=true:=by rfl) (I:swapsWith IS (some (.Name y U)) g.line X.env=pure true:=by rfl) (Z:∀x,foldedSetIterable iter X.env x=pure x:=by intro _;rfl):PS X (.Assign [.Name y U] IS g) (QY (U0 wi fr ix tif te) (EJ i)) :=
 Zp hN Y M (FY h1) h2 h3 h4 (Lx h5) hi R he I Z
end
section
variable{X:Cx}{k:Nat}{f:AD}{fd:F0a}{ps:t7}{sp:Sp}{x:Str}{st:Stmt}{p pos:Pos}{e:Expr}{es:t8}{t:TA}{E:XK}
def nO(T:Fn X.K X.mg x st ps f fd)(G:AH X.prog X.w X.K X.mg X.base (CQ X.prog X.w) k f fd ps sp)(M:C9 k X.A)(hg:Gl X x)(U:Passes (CQ X.prog X.w) X E)(ha:PA X (e::es) t) (I:GE=false:=by decide)(R:starEach (e::es) X.env=(false,eval e X.env)::starEach es X.env:=by rfl)(g:(backTo pos (starEach es X.env)).any (·.1)=false:=by rfl):PE X G6 (U5 sp [] E t):=X3 G M hg T.m T.F.kp T.b .nil U ha I R g
end
end L2
inductive Tr where
 |nil
 |cons (b r:Tr)
 deriving DecidableEq
namespace Tr
def deep:Tr->Nat
 |.nil=>0
 |.cons b r=>max (b.deep+1) r.deep
end Tr
namespace SM
open PySem.W PyProof.Rows
def Wp{α:Type}(lt:Nat->Nat->Bool)(n:Nat):KasT α->(α->Prop)->Prop
 |.ret a,Q=>Q a
 |.ask i j k,Q=>i<n/\j<n/\Wp lt n (k (lt i j)) Q
theorem Wp.mono{α:Type}{lt:Nat->Nat->Bool}{n:Nat}{Q I:α->Prop}(g:∀a,Q a->I a):∀t:KasT α,Wp lt n t Q->Wp lt n t I
 |.ret a,h=>g a h
 |.ask i j k,h=>⟨h.1,h.2.1,Wp.mono g (k (lt i j)) h.2.2⟩
theorem Wp.bind{α β:Type}{lt:Nat->Nat->Bool}{n:Nat}{f:α->KasT β}{Q:β->Prop}:∀t:KasT α,Wp lt n t (fun a=>Wp lt n (f a) Q)->Wp lt n (t.bind f) Q
 |.ret _,h=>h
 |.ask i j k,h=>⟨h.1,h.2.1,Wp.bind (k (lt i j)) h.2.2⟩
def LO{p:tw}{i j:Nat}(g:j<=p.size)(k:Nat):(kas_rev p i j).getD k 0=if i<=k/\k<j then p.getD (i+j-1-k) 0 else p.getD k 0:=by
 have e:=getElem?_mirror_all (i:=i) g k;unfold kas_rev;rw[(ZA),(ZA),(ZA),e];split<;>rfl
def XH{p:tw}{src d:Nat}(g:src<p.size)(hd:d<=src)(k:Nat):(bubble p src d).getD k 0=if k=src-d then p.getD src 0 else if src-d<k/\k<=src then p.getD (k-1) 0 else p.getD k 0:=by
 have e:=getElem?_bubble g d hd k;simp only[Array.getD_eq_getD_getElem?,e];split
 .rfl
 .split<;>rfl
section
variable{O:KeyOrd}{key:Nat->O.α}{n:Nat}
def Key(key:Nat->O.α)(p:tw)(i:Nat):O.α:=key (p.getD i 0)
def Up(key:Nat->O.α)(p:tw)(m:Nat):Prop:=∀i j,i<=j->j<m->O.kle (Key key p i) (Key key p j)
def Dn(key:Nat->O.α)(p:tw)(m:Nat):Prop:=∀i j,i<=j->j<m->O.kle (Key key p j) (Key key p i)
structure Pm(n:Nat)(p:Array Nat):Prop where
 perm:p.Perm (List.toArray (List.range n))
 pos:0<n
def Pm.size{p:tw}(h:Pm n p):p.size=n:=by rw[h.perm.size_eq];simp
def Pm.lt{p:tw}(h:Pm n p)(i:Nat):p.getD i 0<n:=by
 rw[(ZA)];by_cases hi:i<p.size
 .rw[Array.getElem?_eq_getElem hi];have hm:p[i]∈p:=Array.getElem_mem hi;have:=(h.perm.mem_iff).mp hm
  simpa using this
 .rw[Array.getElem?_eq_none AC];exact h.pos
def Pm.rev{p:tw}(h:Pm n p)(i j:Nat):Pm n (kas_rev p i j):=⟨(mirror_perm _ _ _ _).trans h.perm,h.pos⟩
theorem Pm.bubble{p:tw}(h:Pm n p)(i j:Nat):Pm n (bubble p i j):=⟨(bubble_perm _ _ _).trans h.perm,h.pos⟩
abbrev Hs(key:Nat->O.α):Nat->Nat->Bool:=fun i j=>O.blt (key i) (key j)
def Up.one{p:tw}:Up key p 1:=fun i j I g=>by
 have:i=j:=by lia
 subst this;exact bj _
def Up.more{p:tw}{m:Nat}(h:Up key p m)(h1:1<=m)(hk:O.kle (Key key p (m-1)) (Key key p m)):Up key p (m+1):=fun i j g M=>by
 by_cases e:j=m
 .subst e;by_cases I:i=j
  .subst I;exact bj _
  .exact KeyOrd.kle_trans (h i (j-1) AC AC) hk
 .exact h i j g AC
def Dn.more{p:tw}{m:Nat}(h:Dn key p m)(h1:1<=m)(hk:O.kle (Key key p m) (Key key p (m-1))):Dn key p (m+1):=fun i j g M=>by
 by_cases e:j=m
 .subst e;by_cases I:i=j
  .subst I;exact bj _
  .exact KeyOrd.kle_trans hk (h i (j-1) AC AC)
 .exact h i j g AC
theorem asc{p:Array Nat}(g:Pm n p):∀(f m:Nat),1<=m->Up key p m->Wp (Hs key) n (kas_asc p f m) fun r=>m<=r/\r<=m+f/\Up key p r/\(r=m+f\/O.klt (Key key p r) (Key key p (r-1)))
 |0,m,_,h=>⟨aH _,Nat.le_refl _,h,.inl rfl⟩
 |f+1,m,M,h=>by
  refine⟨g.lt _,g.lt _,?_⟩;cases c:Hs key (p.getD m 0) (p.getD (m-1) 0) with
  |true=>exact⟨aH _,by lia,h,.inr c⟩
  |false=>
   simp only[Bool.false_eq_true,if_false];refine Wp.mono (fun r I=>?_) _ (asc g f (m+1) AC (h.more M c));exact⟨by lia,by lia,I.2.2.1,I.2.2.2.elim (fun z=>.inl AC) .inr⟩
def Eq(key:Nat->O.α)(p:tw)(m q:Nat):Prop:=q<m/\∀k,m-(q+1)<=k->k<m->Key key p k=Key key p (m-1)
def rev_eq{p:tw}{m q:Nat}(h:Eq key p m q)(hm:m<=p.size)(k:Nat):Key key (kas_rev p (m-(q+1)) m) k=Key key p k:=by
 unfold Key;rw[LO hm];split
 .have a:=h.2 (m-(q+1)+m-1-k) (by have:=h.1;lia) (by have:=h.1;lia);have b:=h.2 k AC AC;exact a.trans b.symm
 .rfl
theorem desc:∀(f:Nat) (p:Array Nat) (m q:Nat),Pm n p->1<=m->m+f<=n->Dn key p m->Eq key p m q->Wp (Hs key) n (kas_desc f p m q) fun r=>Pm n r.1/\m<=r.2.1/\r.2.1<=m+f/\Dn key r.1 r.2.1/\Eq key r.1 r.2.1 r.2.2
 |0,p,m,q,g,_,_,h,e=>⟨g,Nat.le_refl _,Nat.le_refl _,h,e⟩
 |f+1,p,m,q,g,Y,hf,h,e=>by
  refine⟨g.lt _,g.lt _,?_⟩;have hm:m<=p.size:=by rw[g.size];lia
  cases c:Hs key (p.getD m 0) (p.getD (m-1) 0) with
  |true=>
   have ck:O.klt (Key key p m) (Key key p (m-1)):=c;simp only[if_true];have fin:∀I:Array Nat,Pm n I->(∀k,Key key I k=Key key p k)->Wp (Hs key) n (kas_desc f I (m+1) 0) fun r=>Pm n r.1/\m<=r.2.1/\r.2.1<=m+(f+1)/\Dn key r.1 r.2.1/\Eq key r.1 r.2.1 r.2.2:=fun I R hk=>by
    have hd:Dn key I (m+1):=fun i j U hj=>by rw[hk,hk];exact h.more Y (KeyOrd.kle_of_klt ck) i j U hj
    have he:Eq key I (m+1) 0:=⟨by lia,fun k Y h2=>by rw[show k=m+1-1 by lia]⟩;exact Wp.mono (fun r M=>⟨M.1,by lia,by lia,M.2.2.2.1,M.2.2.2.2⟩) _ (desc f I (m+1) 0 R AC AC hd he)
   split
   .exact fin _ (g.rev _ _) (rev_eq e hm)
   .exact fin _ g fun _=>rfl
  |false=>
   simp only[Bool.false_eq_true,if_false];refine⟨g.lt _,g.lt _,?_⟩;cases d:Hs key (p.getD (m-1) 0) (p.getD m 0) with
   |true=>
    simp only[if_true];exact⟨g,Nat.le_refl _,Nat.le_add_right _ _,h,e⟩
   |false=>
    simp only[Bool.false_eq_true,if_false];have Z:Key key p m=Key key p (m-1):=KeyOrd.kle_antisymm (show O.kle (Key key p m) (Key key p (m-1)) from d) (show O.kle (Key key p (m-1)) (Key key p m) from c);refine Wp.mono (fun r M=>⟨M.1,by lia,by lia,M.2.2.2.1,M.2.2.2.2⟩) _ (desc f p (m+1) (q+1) g AC AC (h.more Y (by rw[Z];exact bj _)) ⟨by have:=e.1;lia,fun k h2 h3=>?_⟩);rw[show m+1-1=m by lia,Z];by_cases z:k=m
    .rw[z,Z]
    .exact e.2 k AC AC
def oD{p:tw}{m:Nat}(h:Dn key p m)(hm:m<=p.size):Up key (kas_rev p 0 m) m:=fun i j g I=>by
 unfold Key;rw[LO hm,LO hm,if_pos ⟨ar _,by lia⟩,if_pos ⟨ar _,by lia⟩];exact h (0+m-1-j) (0+m-1-i) AC AC
def tail3{p:tw}{m:Nat}(g:Pm n p)(h1:1<=m)(hm:m<=n)(h:Dn key p m):Wp (Hs key) n (kas_tail3 m n p) fun r=>Pm n r.2/\1<=r.1/\r.1<=n/\Up key r.2 r.1:=by
 unfold kas_tail3;refine Wp.bind _ (Wp.mono (fun r I=>?_) _ (asc (g.rev 0 m) (n-m) m h1 (oD h (by rw[g.size];exact hm))));exact⟨g.rev 0 m,by lia,by lia,I.2.2.1⟩
def descPart{p:tw}{m:Nat}(R:Pm n p)(h1:1<=m)(hm:m+1<=n)(h:Dn key p (m+1)):Wp (Hs key) n (kas_descPart m n p) fun r=>Pm n r.2/\1<=r.1/\r.1<=n/\Up key r.2 r.1:=by
 unfold kas_descPart;refine Wp.bind _ (Wp.mono (fun r M=>?_) _ (desc (n-(m+1)) p (m+1) 0 R AC AC h ⟨by lia,fun k h1 Y=>by rw[show k=m+1-1 by lia]⟩));obtain⟨a,b,c,d,e⟩:=M;have I:r.2.1<=r.1.size:=by rw[a.size];lia
 split
 .refine tail3 (a.rev _ _) AC AC fun i j g U=>?_;rw[rev_eq e I,rev_eq e I];exact d i j g U
 .exact tail3 a AC AC d
def count{p:tw}(g:Pm n p):Wp (Hs key) n (kas_count n p) fun r=>Pm n r.2/\1<=r.1/\r.1<=n/\Up key r.2 r.1:=by
 have hn:=g.pos;unfold kas_count;refine Wp.bind _ (Wp.mono (fun m hm=>?_) _ (asc g (n-1) 1 (aH _) Up.one));obtain⟨U,h2,R,h4⟩:=hm;split
 .exact⟨g,U,by lia,R⟩
 .rename_i Y;have M:m≠n:=by simpa using Y
  have hk:O.klt (Key key p m) (Key key p (m-1)):=by
   rcases h4 with z|z
   .exact absurd AC M
   .exact z
  have hz:m<=p.size:=by rw[g.size];lia
  split
  .refine⟨g.lt _,g.lt _,?_⟩;cases c:Hs key (p.getD 0 0) (p.getD (m-1) 0) with
   |true=>simp only[if_true];exact⟨g,U,by lia,R⟩
   |false=>
    simp only[Bool.false_eq_true,if_false];have all:∀k,k<m->Key key p k=Key key p (m-1):=fun k I=>KeyOrd.kle_antisymm (R k (m-1) AC AC) (KeyOrd.kle_trans (show O.kle (Key key p (m-1)) (Key key p 0) from c) (R 0 k AC I));have ek:∀k,Key key (kas_rev p 0 m) k=Key key p k:=fun k=>by
     by_cases I:k<m
     .have:Key key (kas_rev p 0 m) k=Key key p (0+m-1-k):=by
       unfold Key;rw[LO hz,if_pos ⟨ar _,I⟩]
      rw[this,all _ AC,all k I]
     .unfold Key;rw[LO hz,if_neg AC]
    refine descPart (g.rev _ _) U AC fun i j Z hj=>?_;rw[ek,ek];by_cases e:j=m
    .subst e;by_cases e2:i=j
     .subst e2;exact bj _
     .rw[all i AC];exact KeyOrd.kle_of_klt hk
    .rw[all i AC,all j AC];exact bj _
  .have:m=1:=by lia
   subst this;refine descPart g U AC fun i j Z hj=>?_;by_cases e:i=j
   .subst e;exact bj _
   .rw[show i=0 by lia,show j=1 by lia];exact KeyOrd.kle_of_klt hk
theorem place{p:Array Nat}{k:Nat}(I:Pm n p)(g:Up key p k):∀(f l r:Nat),l<=r->r<=k->r-l<=f->(∀i,i<l->O.kle (Key key p i) (Key key p k))->(∀i,r<=i->i<k->O.klt (Key key p k) (Key key p i)) ->
  Wp (Hs key) n (kas_place p k f l r) fun x=>x<=k/\(∀i,i<x->O.kle (Key key p i) (Key key p k))/\∀i,x<=i->i<k->O.klt (Key key p k) (Key key p i)
 |0,l,r,Z,M,Y,a,b=>by
  have:l=r:=by lia
  subst this;exact⟨M,a,b⟩
 |f+1,l,r,Z,M,Y,a,b=>by
  unfold kas_place;split
  .have:l=r:=by lia
   subst this;exact⟨M,a,b⟩
  .refine⟨I.lt _,I.lt _,?_⟩;cases c:Hs key (p.getD k 0) (p.getD ((l+r) / 2) 0) with
   |true=>
    simp only[if_true];exact place I g f l ((l+r) / 2) AC AC AC a fun i R U=>KeyOrd.klt_of_klt_of_kle (show O.klt (Key key p k) (Key key p ((l+r) / 2)) from c) (g _ _ R U)
   |false=>
    simp only[Bool.false_eq_true,if_false];exact place I g f ((l+r) / 2+1) r AC M AC (fun i R=>KeyOrd.kle_trans (g i ((l+r) / 2) AC AC) (show O.kle (Key key p ((l+r) / 2)) (Key key p k) from c)) b
theorem bin:∀(f:Nat) (p:Array Nat) (k:Nat),Pm n p->1<=k->k+f=n->Up key p k->Wp (Hs key) n (kas_bin f p k) fun r=>Pm n r/\Up key r n
 |0,p,k,g,_,hk,h=>by
  have:k=n:=by lia
  subst this;exact⟨g,h⟩
 |f+1,p,k,g,h1,hk,h=>by
  have M:k<p.size:=by rw[g.size];lia
  refine Wp.bind _ (Wp.mono (fun l hl=>?_) _ (place g h k 0 k (ar _) (aH _) AC (fun i z=>absurd z AC) fun i Y z2=>absurd Y AC));obtain⟨Z,I,R⟩:=hl;refine bin f _ (k+1) (g.bubble _ _) AC AC fun i j hij hj=>?_;have U:∀x,Key key (PyProof.Rows.bubble p k (k-l)) x=if x=l then Key key p k else if l<x/\x<=k then Key key p (x-1) else Key key p x:=fun x=>by
   unfold Key;rw[XH M AC,show k-(k-l)=l by lia];split
   .rfl
   .split<;>rfl
  rw[U,U]
  repeat' split
  all_goals first
   |(exfalso;lia)
   |exact bj _
   |exact I _ AC
   |exact KeyOrd.kle_of_klt (R _ AC AC)
   |exact h _ _ AC AC
def sort(hn:0<n):Wp (Hs key) n (kas_sort n) fun p=>Pm n p/\Up key p n:=by
 have I:Pm n (List.toArray (List.range n)):=⟨Array.Perm.refl _,hn⟩;unfold kas_sort;refine Wp.bind _ (Wp.mono (fun r g=>?_) _ (count I));obtain⟨a,b,c,d⟩:=g;split
 .rw[show max r.1 1=r.1 by lia];exact bin _ _ _ a b AC d
 .have:r.1=n:=by lia
  rw[this]at d;exact⟨a,d⟩
end
end SM
namespace TH
open PySem PySem.W PyProof.Rows PySem.SeqAt
section
variable{A:F0d}{E:tj}{s:SD}{a:AD}{Q:Bool->SD->Prop}
def Xk{M:Model}{h:Heap}{a:AD}{x:Array VL}(h1:h.IsTuple a x):Looks M h (typeOf (.ref a)) (.type "tuple"):=by
 obtain⟨o,g,I,_⟩:=h1;exact I ▸ (Looks.ld g).andThen .now
def jO{M:Model}{vs:tf}{Q:Option VL->SD->Prop}(U:∀v∈vs,Looks M s.heap (typeOf v) (.type "tuple"))(h0:vs=[]->Q none s)(h1:Q (some (.type "tuple")) s):wpAny M A (oneTypeOnly' vs.toArray) Q E s:=by
 rw[oneTypeOnly'_eq,List.mapM_toArray,map_eq_pure_bind];refine Wb (Wb (kas_mapM (r:=Value.type "tuple") _ (fun v I Z R=>(U v I).here R) (aA ?_)));cases vs with
 |nil=>exact aA (h0 rfl)
 |cons f r=>
  have g:((List.map (fun _=>Value.type "tuple") (f::r)).toArray.all fun x=>x==Value.type "tuple")=true:=by
   simp only[List.all_toArray,List.all_map,List.all_eq_true];intro _ _
   rfl
  have Y:(List.map (fun _=>Value.type "tuple") (f::r)).toArray[0]? = some (Value.type "tuple"):=by simp
  rw[Y];simp only[g,if_true];exact aA h1
theorem VU{α:Type}{cmp:Nat->Nat->(Bool->SD->Prop)->SD->Prop}{lt:Nat->Nat->Bool}{n:Nat}{I:α->Prop}(g:∀i j C,i<n->j<n->C (lt i j) s->cmp i j C s):∀T:KasT α,SM.Wp lt n T I->T.kasWp cmp (fun a s'=>s'=s/\I a) s
 |.ret a,h=>⟨rfl,h⟩
 |.ask i j k,h=>g i j _ h.1 h.2.1 (VU g (k (lt i j)) h.2.2)
end
end TH
namespace TH
open PySem PySem.W PyProof.Rows PySem.SeqAt
def map_getD{α:Type}(d:α)(l:List α):(List.range l.length).map (fun i=>l.getD i d)=l:=by
 refine List.ext_getElem Do fun i I g=>?_;simp[g]
section
def cu(b:Bool)(us:tf)(hz:us.length<2):(if b=true then((if b=true then(us.toArray.zip us.toArray).reverse else us.toArray.zip us.toArray).map (·.2)).reverse else(if b=true then(us.toArray.zip us.toArray).reverse else us.toArray.zip us.toArray).map (·.2))=us.toArray:=by
 match us,hz with
 |[],_=>cases b<;>simp
 |[x],_=>cases b<;>simp
end
end TH
namespace ET
open PySem
section
variable{prog:F0b}{w:F0c}{A:F0d}{E:tj}{s:SD}
def next_item{it t:AD}{i:Nat}{items}{x:VL}{Q:tj}(hit:s.heap.IsTupleIter it t i)(U:s.heap.IsTuple t items)(R:items[i]? = some x) (Z:∀h',h'.IsTupleIter it t (i+1)->Heap.SameBut it s.heap h'->Q x {s with heap:=h'}):wpAny Da A (Builtin.SmallTypes.nextOf (.ref it)) Q E s:=by
 obtain⟨o,g,Y,hd⟩:=id hit;obtain⟨ol,I,_,nl,M⟩:=U;unfold Builtin.SmallTypes.nextOf;refine Wb (ak (name:=Str.ofString "__next__") hit.typeIs F.slot_tuple_iterator_next
  (ax F.slot_tuple_iterator_next hit.typeIs F.entry_tuple_iterator_next ?_ (F.args_tuple_iterator_next_1 _)))
 show wpAny _ _ (field (.ref it) 0>>=_) _ _ s;refine Wb (aj g hd (x:=.ref t) rfl ?_);show wpAny _ _ (if(Value.ref t==Value.none)=true then _ else _) _ _ s;rw[if_neg (show ¬((Value.ref t==Value.none)=true) from aO)];show wpAny _ _ (field (.ref it) 1>>=_) _ _ s;refine Wb (aj g hd (x:=.int i 0) rfl ?_);show wpAny _ _ (seqItems? (.ref t)>>=_) _ _ s;refine Wb (bw I M ?_);simp only[Int.toNat_natCast,R];refine Wb (wpAny_setField g hd Do (aA ⟨x,rfl,wpAny_pure (Z _ ?_ (bK ..))⟩));exact⟨_,Heap.get?_update_self _ g (Obj.isFreed_of_fields (Obj.data_mapFields hd _)),(Obj.cls_mapFields ..).trans Y,by
  rw[Obj.data_mapFields hd];simp[rawInt]⟩
def next_end{it t:AD}{i:Nat}{items}{Q:tj}(R:A.handled=none)(hit:s.heap.IsTupleIter it t i)(Y:s.heap.IsTuple t items)(U:items[i]? = none) (Z:∀h' e,Heap.ExtBut it s.heap h'->(∃o,h'.get? e=some o/\o.cls=.type "StopIteration")->E (.ref e) {s with heap:=h'}):wpAny Da A (Builtin.SmallTypes.nextOf (.ref it)) Q E s:=by
 obtain⟨o,I,hc,hd⟩:=id hit;obtain⟨ol,g,_,nl,M⟩:=Y;unfold Builtin.SmallTypes.nextOf;refine Wb (ak (name:=Str.ofString "__next__") hit.typeIs F.slot_tuple_iterator_next
  (ax F.slot_tuple_iterator_next hit.typeIs F.entry_tuple_iterator_next ?_ (F.args_tuple_iterator_next_1 _)))
 show wpAny _ _ (field (.ref it) 0>>=_) _ _ s;refine Wb (aj I hd (x:=.ref t) rfl ?_);show wpAny _ _ (if(Value.ref t==Value.none)=true then _ else _) _ _ s;rw[if_neg (show ¬((Value.ref t==Value.none)=true) from aO)];show wpAny _ _ (field (.ref it) 1>>=_) _ _ s;refine Wb (aj I hd (x:=.int i 0) rfl ?_);show wpAny _ _ (seqItems? (.ref t)>>=_) _ _ s;refine Wb (bw g M ?_);simp only[Int.toNat_natCast,U];refine Wb (wpAny_rule (Wb (wpAny_setField I hd Do ?_)));show wpAny _ _ (newExc (.type "StopIteration") []>>=_) _ _ _;refine Wb ?_;simp only[newExc,newTuple];refine Wb (aY ?_ (by size_fits));refine Wb (m:=firstArgMember _ _) (wpAny_of_eq (a:=Value.none) (by first|rfl|(simp only[firstArgMember];rfl)) ?_);refine aY ?_ (by size_fits);simp only[raiseNew];refine Wb (wpAny_handled ?_)
 first|rw[show A.in1.handled=none from R]|rw[R]
 refine Wb (aA (wpAny_throw ?_));exact Z _ _ (((bK ..).extBut.push _).push _) ⟨_,Heap.get?_push_size _ rfl,rfl⟩
end
def draws{prog:F0b}{w:F0c}{A:F0d}(hh:A.handled=none)(it a:AD)(its:tf)(hne:a≠it) :
  Draws prog w A it [it,a] its.length (fun i x=>its[i]? = some x) (fun i h=>h.IsTupleIter it a i/\h.IsTuple a its.toArray) where
 live:=fun i h st=>let⟨o,e,_⟩:=st.1;⟨o,e⟩
 frame:=fun i h h' st k=>by
  obtain⟨⟨o,e,r⟩,o2,e2,r2⟩:=st;exact⟨⟨o,k it Do o e,r⟩,o2,k a Do o2 e2,r2⟩
 item:=fun i s Q E hi st hQ=>next_item st.1 st.2 (x:=its[i]) (by simp[hi]) fun h' st' sb=>
  hQ _ h' s.toks (by simp[hi]) ⟨st',let⟨o,e,r⟩:=st.2;⟨o,(sb.2 a hne).trans e,r⟩⟩ sb
 done:=fun s Q E st hE=>next_end hh st.1 st.2 Do hE
end ET
namespace L2
open PySem PySem.Spec PyProof.Rows
section
variable{X:Cx}{pins:Db}{σ:St}{H:Hp}{s:SD}{h':Heap}{tk:Nat}{ch:uF}
def Inv.turn(I:Cl)(hf:∀b∈ch,KW X pins H b)(keep:∀b o,b ∉ ch->s.heap.get? b=some o->h'.get? b=some o):Inv X pins σ H {s with heap:=h',toks:=tk}:=by
 have Pr:∀b o,H b=some o->b ∉ ch:=fun b o q hb=>by rw[(hf b hb).1]at q;cases q
 show Inv X pins σ _ {s with heap:=h',gens:=s.gens,drawn:=s.drawn,toks:=tk};refine I.step (h':=h') (g':=s.gens) (d':=s.drawn) (t':=tk) (ch:=ch) (fun b hb=>?_) (fun b o _ _ g q _=>keep b o g q) (fun b o _ _ g q _=>⟨o.slots,keep b o g q⟩)
  (fun b o _ q n=>n) (fun b o g q=>⟨o,keep b o g q⟩) (fun b ys q=>q) (fun b o u q=>q)
  (fun b ps q=>⟨#[],by rw[q];simp⟩) (fun b _ o g _ q=>keep b o g q) (fun m hm=>?_) (fun b o q=>?_) I.bare
 .obtain⟨_,f1,_,Y,U,R⟩:=hf b hb;exact⟨Y,f1,U,R⟩
 .obtain⟨o,Z,ep,M,r⟩:=hm;exact⟨o,Z,ep,keep _ o (fun hb=>(hf _ hb).2.1 rfl) M,r⟩
 .refine(I.Am b o q).JL (fun c w g r=>keep c w ?_ r) (fun c r=>r) fun c ys r=>r;rcases g with rfl|g
  .exact Pr _ _ q
  .exact Pr _ _ g
def Inv.cW(I:Cl)(hf:∀b∈ch,KW X pins H b)(keep:∀b o,b ∉ ch->s.heap.get? b=some o->h'.get? b=some o){xs:uD}{us:tf}(hz:xs.length<=sizeLine)(R:Vals xs us) (Y:h'.get? s.heap.objs.size=some { cls:=.type "tuple",data:=.seq us.toArray}):Inv X pins σ (upd H s.heap.objs.size (.tup xs)) {s with heap:=h',toks:=tk}:=by
 have M:H s.heap.objs.size=none:=I.Am.fresh (aH _);have neT:∀b o,s.heap.get? b=some o->b≠s.heap.objs.size:=fun b o q=>aP (aD q);have Pr:∀b o,H b=some o->b ∉ ch:=fun b o q hb=>by rw[(hf b hb).1]at q;cases q
 show Inv X pins σ _ {s with heap:=h',gens:=s.gens,drawn:=s.drawn,toks:=tk};refine I.step (h':=h') (g':=s.gens) (d':=s.drawn) (t':=tk) (ch:=ch) (fun b hb=>?_) (fun b o _ _ g q _=>keep b o g q) (fun b o _ _ g q _=>⟨o.slots,keep b o g q⟩)
  (fun b o _ q n=>by rw[AN (neT b o q)];exact n) (fun b o g q=>⟨o,keep b o g q⟩) (fun b ys q=>by rw[AN (AR q M)];exact q) (fun b o u q=>by rw[AN (AR q M)];exact q)
  (fun b ps q=>⟨#[],by rw[AN (AR q M),q];simp⟩) (fun b _ o g _ q=>keep b o g q) (fun m hm=>?_) (fun b o q=>?_) I.bare
 .obtain⟨_,f1,_,f3,f4,Z⟩:=hf b hb;exact⟨f3,f1,f4,Z⟩
 .obtain⟨o,es,ep,U,r⟩:=hm;exact⟨o,es,ep,keep _ o (fun hb=>(hf _ hb).2.1 rfl) U,r⟩
 .by_cases hb:b=s.heap.objs.size
  .subst hb;rw[AM]at q;cases q;exact⟨hz,us,R,_,Y,rfl,_,rfl⟩
  .rw[AN hb]at q;refine(I.Am b o q).JL (fun c w g r=>keep c w ?_ r) (fun c r=>by rw[AN (AR r M)];exact r) fun c ys r=>by rw[AN (AR r M)];exact r
   rcases g with rfl|g
   .exact Pr _ _ q
   .exact Pr _ _ g
end
def Ts(H:Hp):Tr->List V->Prop
 |.nil,xs=>xs=[]
 |.cons b r,xs=>∃(a:AD) (ys g:IR),xs=.ref a::g/\H a=some (.tup ys)/\Ts H b ys/\Ts H r g
def Tv(H:Hp)(t:Tr)(v:V):Prop:=∃(a:AD) (ys:IR),v=.ref a/\H a=some (.tup ys)/\Ts H t ys
def Ts.same{H H':Hp}(e:AK H H'):∀ {t:Tr} {xs:IR},Ts H t xs->Ts H' t xs
 |.nil,xs,h=>by rw[Ts]at h ⊢;exact h
 |.cons b r,xs,h=>by
  rw[Ts]at h ⊢;obtain⟨a,ys,g,U,R,M,I⟩:=h;exact⟨a,ys,g,U,e _ _ R,M.same e,I.same e⟩
def Tv.same{H H':Hp}{t:Tr}{v:V}(h:Tv H t v)(e:AK H H'):Tv H' t v:=let⟨a,ys,M,I,g⟩:=h;⟨a,ys,M,e _ _ I,g.same e⟩
end L2
namespace Tim
open PySem PyProof.Rows
section pure
end pure
section
section pure
end pure
section pure
end pure
end
end Tim
namespace GS
open PySem PySem.W PyProof.Rows PySem.SeqAt
abbrev Ext(h0 h:Heap):Prop:=∀c o,h0.get? c=some o->h.get? c=some o
def SH(O:KeyOrd)(prog:F0b)(w:F0c)(κ:SortKind)(A:F0d)(s:SD)(ks:List O.α)(us:tf):Prop :=
 ∀(E:VL->SD->Prop) (i j:Nat) (x y:O.α) (u v:VL) (Q:Bool->SD->Prop),us[i]? = some u->us[j]? = some v->ks[i]? = some x->ks[j]? = some y->Q (O.blt x y) s->wpAny Da A (keyLt' κ u v) Q E s
structure ip(O:KeyOrd)(prog:Program)(w:World)(h0:Heap)(r:Nat)(ks:List O.α)(us:List Value):Prop where
 len:us.length=ks.length
 go:∃ok:SortKind->Prop,(∀(A:Around) (E:Value->Shared->Prop) (s:Shared) (Q:SortKind->Shared->Prop),Ext h0 s.heap->(∀κ,ok κ->Q κ s)->wpAny Da A (keyKind' us.toArray) Q E s) /\
  ∀(A:Around) (s:Shared) (κ:SortKind),Ext h0 s.heap->A.units+r<cLine->ok κ->SH O prog w κ A s ks us
def Runs(O:KeyOrd)(prog:F0b)(w:F0c)(ks:List O.α):Prop :=
 ∀(d:O.α) (A:F0d) (E:VL->SD->Prop) (s:SD) (κ:SortKind) (g:List VL),g.length=ks.length->2<=g.length->SH O prog w κ A s ks g ->
  wpAny Da A ((sortRuns').run (SortSt.mk' κ (g.toArray.zip g.toArray) #[] 7 none)) (fun r s'=>s'=s/\failedOf r.2=none/\∃ix:List Nat,ix.Perm (List.range g.length) /\
   (arrOf r.2).map (·.2)=(ix.map fun i=>g.getD i Value.none).toArray/\(ix.map fun i=>ks.getD i d).Pairwise O.kle) E s
def Rz{O:KeyOrd}{prog:F0b}{w:F0c}{ks:List O.α}(R:ks.length<64):Runs O prog w ks:=by
 intro d A E s κ g hl h2 ask;have R:g.length<64:=by lia
 refine kat_run (Q:=fun I s'=>s'=s/\failedOf I=none/\∃ix:List Nat,ix.Perm (List.range g.length)/\(arrOf I).map (·.2)=(ix.map fun i=>g.getD i Value.none).toArray/\(ix.map fun i=>ks.getD i d).Pairwise O.kle)
  (G:=fun p s'=>s'=s/\SM.Pm g.length p/\SM.Up (O:=O) (fun i=>ks.getD i d) p g.length) rfl h2 R (fun p I s' hp har hf hG=>?_)
  (TH.VU (lt:=SM.Hs (O:=O) fun i=>ks.getD i d) (n:=g.length) (fun i j C hi M U=>?_) _ (SM.sort AC))
 .obtain⟨rfl,Z,Y⟩:=hG;have h1:p.toList.Perm (List.range g.length):=by simpa using Array.perm_iff_toList_perm.mp Z.perm
  refine⟨rfl,hf,p.toList,h1,kat_snds rfl har,?_⟩;refine List.pairwise_iff_getElem.mpr fun i j hi M hij=>?_;rw[(Ah),(Qz),hp]at hi M;have:=Y i j AC M;have e1:∀k,k<g.length->∀hk,(p.toList.map fun i=>ks.getD i d)[k]' hk=ks.getD (p.getD k 0) d:=fun k hk hk'=>by
   rw[List.getElem_map,Array.getElem_toList,Array.getD,dif_pos AC]
   rfl
  rw[e1 i hi,e1 j M];exact this
 .have gi:∀k,k<g.length->∃u x,g[k]? = some u/\ks[k]? = some x/\g.getD k Value.none=u/\ks.getD k d=x:=fun k hk=>by
   refine⟨g[k],ks[k]' AC,List.getElem?_eq_getElem hk,List.getElem?_eq_getElem AC,?_,?_⟩
   .rw[(FQ),List.getElem?_eq_getElem hk];rfl
   .rw[(FQ),List.getElem?_eq_getElem AC];rfl
  obtain⟨u,x,q1,q2,q3,q4⟩:=gi i hi;obtain⟨v,y,r1,r2,r3,r4⟩:=gi j M;unfold kas_ask;rw[q3,r3];refine ask _ i j x y u v C q1 r1 q2 r2 ?_;have U:C (O.blt (ks.getD i d) (ks.getD j d)) s:=U;rw[q4,r4]at U;exact U
section
variable{O:KeyOrd}{prog:F0b}{w:F0c}{A:F0d}{E:tj}{s:SD}{h0:Heap}{r:Nat}{ks:List O.α}{us:tf}
def SH.rev{κ:SortKind}(U:us.length=ks.length)(a:SH O prog w κ A s ks us):SH O prog w κ A s ks.reverse us.reverse:=fun E i j x y u v Q R M I g q=>by
 have b1:=(aB.mp R).1;have b2:=(aB.mp M).1;rw[List.length_reverse]at b1 b2;rw[List.getElem?_reverse AC]at R M I g;rw[<-U]at I g;exact a E _ _ x y u v Q R M I g q
def fM{α:Type}{R:α->α->Prop}:∀ {l:List α},l.length<2->l.Pairwise R
 |[],_=>.nil
 |[_],_=>List.pairwise_singleton ..
 |_::_::_,h=>by simp at h;lia
def Zt(d : O.α){a : AD}{n : Nat}{b : Bool}{P : PySem.Fin->SD->Prop}(C : ip O prog w h0 r ks us)(hx : Ext h0 s.heap)(ha0 : h0.objs.size<=a)(ho : s.heap.get? a = some (seqObj "list" us.toArray n))(hsz : us.length<=1000)(hr : Runs O prog w (if b then ks.reverse else ks))(hu : A.units + r < cLine) (h : ∀ ix : List Nat,ix.Perm (List.range us.length)->(ix.map fun i => ks.getD i d).Pairwise (fun x y => if b = true then O.kle y x else O.kle x y)->P (.done (.ret .none)) { s with heap:=sortedHeap s.heap a us (ix.map fun i => us.getD i Value.none).toArray }):wpAny Da A (Builtin.«list.sort» ⟨[.ref a],[(Str.ofString "reverse",.bool b)]⟩) P E s:=by
  rw [list_sort_rev]
  have ha : a < s.heap.objs.size:=aD ho
  refine Wb (listItems_at ho rfl ?_)
  refine Wb (listUpdate_at ho rfl ?_ (by rw [(DM),sizeLine_eq]; lia) (ar _))
  obtain ⟨e1,ho1⟩ : ∃ e1,(s.heap.update a (Obj.mapSeq fun _ => #[])).get? a = some (seqObj "list" #[] e1):=⟨_,get?_update_seq ho (fun _ => #[])⟩
  refine Wb (seqEpoch_at ho1 rfl ?_)
  refine Wb (wpAny_newTuple ?_ (by show us.length<=_; rw [sizeLine_eq]; lia))
  refine Wb (wpAny_newList ?_ (ar _))
  refine bD ?_
  have ho6 : (((s.heap.update a (Obj.mapSeq fun _ => #[])).push (seqObj "tuple" us.toArray 0)).push (seqObj "list" #[] 0)).get? a = some (seqObj "list" #[] e1):=by
    rw [Heap.get?_push_ne _ _ _ (by rw [size_push',Heap.size_update]; exact aP (bY ha)),Heap.get?_push_ne _ _ _ (by rw [Heap.size_update]; exact aP ha)]
    exact ho1
  have keep : Ext h0 (((s.heap.update a (Obj.mapSeq fun _ => #[])).push (seqObj "tuple" us.toArray 0)).push (seqObj "list" #[] 0)):=fun c o hc => by
    have hlt : c < h0.objs.size:=aD hc
    have hne : c≠a:=fun z => Nat.not_lt.mpr ha0 (z ▸ hlt)
    refine aE _ (aE _ ?_)
    rw [Heap.get?_update_ne _ _ _ _ hne]
    exact hx c o hc
  show wpAny Da A _ P E Ev
  dsimp only
  have step : ∀ T : Sem PySem.Fin,wpAny Da A T P E Ev ->
      wpAny Da A (if b = true then (do let _ <- rule "list.sort.reverse"; T) else T) P E Ev:=by
    intro T hT
    split
    . exact Wb (wpAny_rule hT)
    . exact hT
  refine step _ ?_
  obtain ⟨ok,hkind,hask⟩:=C.go
  have hl:=C.len
  by_cases h2 : us.toArray.size < 2
  . rw [if_pos h2,if_pos h2]
    refine Wb (aA ?_)
    rw [StateT.run_pure]
    refine Wb (aA ?_)
    dsimp only
    have hz : us.length < 2:=by simpa using h2
    have hout:=TH.cu b us hz
    refine Wb (seqEpoch_at ho6 rfl ?_)
    refine Wb (listUpdate_at ho6 rfl ?_ (ar _) (by
      refine aS (Nat.le_of_eq (bA Array.size hout)) ?_
      rw [(DM),sizeLine_eq]; lia))
    simp only [bne_self_eq_false,Bool.false_eq_true,if_false]
    have fin:=h (List.range us.length) (.refl _) (fM (by simpa using hz))
    rw [TH.map_getD] at fin
    rw [<- hout] at fin
    exact aA fin
  . rw [if_neg h2,if_neg h2]
    have hz : 2<=us.length:=by simpa using h2
    refine Wb (hkind A E Ev _ keep fun κ hκ => ?_)
    have ask:=hask A Ev κ keep hu hκ
    obtain ⟨ws,kw,aw,hwl,hwk,hws,hrw,pick⟩ : ∃ (ws : List VL) (kw : List O.α),SH O prog w κ A { s with heap:=((s.heap.update a (Obj.mapSeq fun _ => #[])).push (seqObj "tuple" us.toArray 0)).push (seqObj "list" #[] 0) } kw ws/\ws.length = us.length/\ws.length = kw.length /\
        (if b = true then (us.toArray.zip us.toArray).reverse else us.toArray.zip us.toArray) = ws.toArray.zip ws.toArray/\Runs O prog w kw /\
        ∀ ix : List Nat,ix.Perm (List.range ws.length)->(ix.map fun i => kw.getD i d).Pairwise O.kle->∃ iy : List Nat,iy.Perm (List.range us.length)/\(iy.map fun i => ks.getD i d).Pairwise (fun x y => if b = true then O.kle y x else O.kle x y) /\
          (if b = true then ((ix.map fun i => ws.getD i Value.none).toArray).reverse else (ix.map fun i => ws.getD i Value.none).toArray) = (iy.map fun i => us.getD i Value.none).toArray:=by
      cases b with
      | false => exact ⟨us,ks,ask,rfl,hl,rfl,hr,fun ix h1 h2 => ⟨ix,h1,by simpa using h2,rfl⟩⟩
      | true=>
        refine ⟨us.reverse,ks.reverse,ask.rev hl,by simp,by simp [hl],kat_pairs (ks:=us) (vs:=us) true rfl,hr,fun ix h1 h2 => ⟨(ix.map fun i => us.length - 1 - i).reverse,?_,?_,?_⟩⟩
        . rw [List.length_reverse] at h1
          refine (List.reverse_perm _).trans ((h1.map fun i => us.length - 1 - i).trans ?_)
          have : (List.range us.length).map (fun i => us.length - 1 - i) = (List.range us.length).reverse:=by
            refine List.ext_getElem Do fun i a1 a2 => ?_
            simp
          rw [this]
          exact List.reverse_perm _
        . have hb : ∀ i∈ix,i < us.length:=fun i hi => by simpa using h1.mem_iff.mp hi
          have e : ((ix.map fun i => us.length - 1 - i).reverse.map fun i => ks.getD i d) = (ix.map fun i => ks.reverse.getD i d).reverse:=by
            rw [List.map_reverse,(HM)]
            congr 1
            exact bP fun i hi => by
              have:=hb i hi
              show ks.getD (us.length - 1 - i) d = _
              rw [(FQ),(FQ),List.getElem?_reverse AC,hl]
          rw [e,List.pairwise_reverse]
          simpa using h2
        . have hb : ∀ i∈ix,i < us.length:=fun i hi => by simpa using h1.mem_iff.mp hi
          rw [if_pos rfl,List.map_reverse,(HM),List.reverse_toArray]
          congr 2
          exact bP fun i hi => by
            have:=hb i hi
            show us.reverse.getD i Value.none = us.getD (us.length - 1 - i) Value.none
            rw [(FQ),(FQ),List.getElem?_reverse AC]
    rw [hws]
    refine Wb (aW (hrw d A E Ev κ ws hwk AC aw) ?_ fun _ _ z => z)
    rintro ⟨⟨⟩,st'⟩ s' ⟨rfl,hf,ix,hix,hout,hst⟩
    dsimp only
    refine Wb (seqEpoch_at ho6 rfl ?_)
    obtain ⟨iy,y1,y2,hfin⟩ : ∃ iy : List Nat,iy.Perm (List.range us.length)/\(iy.map fun i => ks.getD i d).Pairwise (fun x y => if b = true then O.kle y x else O.kle x y) /\
        (if b = true then ((arrOf st').map (·.2)).reverse else (arrOf st').map (·.2)) = (iy.map fun i => us.getD i Value.none).toArray:=by
      rw [show (arrOf st').map (·.2) = _ from hout]
      exact pick ix hix hst
    refine Wb (listUpdate_at ho6 rfl ?_ (ar _) (by
      refine aS (Nat.le_of_eq (bA Array.size hfin)) ?_
      have:=y1.length_eq
      rw [List.length_range] at this
      rw [(DM),(Ah),this,sizeLine_eq]; lia))
    rw [show failedOf st' = none from hf]
    simp only [bne_self_eq_false,Bool.false_eq_true,if_false]
    have fin:=h iy y1 y2
    rw [<- hfin] at fin
    exact aA fin
def XJ(d:O.α){b:Bool}{Q:tj}{h1:Heap}{tk:Nat}{T:Sem PySem.Fin}(C:ip O prog w s.heap r ks us)(hsz:us.length<=1000)(hr:Runs O prog w (if b then ks.reverse else ks))(g:Ext s.heap h1)(Y:s.heap.objs.size<=h1.objs.size) (h:∀(h':Heap) (D tk:Nat) (ix:List Nat) (M:Nat),s.heap.objs.size<=D->Ext s.heap h'->h'.get? D=some (seqObj "list" (ix.map fun i=>us.getD i Value.none).toArray M)->ix.Perm (List.range us.length)->(ix.map fun i=>ks.getD i d).Pairwise (fun x y=>if b=true then O.kle y x else O.kle x y)->Q (.ref D) {s with heap:=h',toks:=tk}):(h1.push (seqObj "list" us.toArray 0)).get? h1.objs.size=some (seqObj "list" us.toArray 0)/\Ext s.heap (h1.push (seqObj "list" us.toArray 0)) /\∀ix:List Nat,ix.Perm (List.range us.length)->(ix.map fun i=>ks.getD i d).Pairwise (fun x y=>if b=true then O.kle y x else O.kle x y)->Q (.ref h1.objs.size) {s with heap:=sortedHeap (h1.push (seqObj "list" us.toArray 0)) h1.objs.size us (ix.map fun i=>us.getD i Value.none).toArray,toks:=tk}:=by
 have U:(h1.push (seqObj "list" us.toArray 0)).get? h1.objs.size=some (seqObj "list" us.toArray 0):=aV _ rfl;refine⟨U,fun b u e=>aE _ (g b u e),fun ix p1 Z=>?_⟩;obtain⟨M,I⟩:=sortedHeap_at (vs:=us) (out:=(ix.map fun i=>us.getD i Value.none).toArray) U;refine h _ h1.objs.size tk ix M Y (fun b u e=>?_) I p1 Z;have R:b<h1.objs.size:=aD (g b u e);rw[sortedHeap_old (aP R) (by rw[(MO)];exact bY R)];exact aE _ (g b u e)
end
end GS
namespace L2
open PySem PySem.Spec PyProof.Rows
theorem Vals.pick{xs:IR}{us:List VL}(r:Vals xs us):∀ix:List Nat,(∀i∈ix,i<xs.length)->Vals (ix.map fun i=>xs.getD i .Bj) (ix.map fun i=>us.getD i Value.none)
 |[],_=>.nil
 |i::ix,h=>by
  refine .cons ?_ (Vals.pick r ix fun k hk=>h k (aN _ hk));have hi:=h i aR;obtain⟨u,I,g⟩:=r.get (i:=i) (x:=xs[i]) (by simp[hi]);show RelV (xs.getD i .Bj) (us.getD i Value.none);rw[(FQ),(FQ),I,List.getElem?_eq_getElem hi];exact g
def CW(Pv:Nat->List V->Hp->Prop)(n:Nat)(D:AD):Nat->Nat->List V->Hp->Prop:=fun i m ys H=>m=n-i/\i<=n/\H D=some Id/\Pv i ys H
def BG{Pv:Nat->List V->Hp->Prop}{n i:Nat}{D:AD}{ys:uD}{y:V}{H:Hp}(hi:i<n)(p:Pv (i+1) (ys++[y]) (upd H D (.lst (ys++[y])))):∃g,g<n-i/\CW Pv n D (i+1) g (ys++[y]) (upd H D (.lst (ys++[y]))) :=
 ⟨n-(i+1),by lia,rfl,hi,AM,p⟩
def jd{Pv:Nat->List V->Hp->Prop}{n i:Nat}{D:AD}{ys:uD}{H:Hp}(hi:i<n)(I:H D=some Id)(p:Pv (i+1) ys H):∃g,g<n-i/\CW Pv n D (i+1) g ys H:=⟨n-(i+1),by lia,rfl,hi,I,p⟩
def Bo{J:It}{n:Nat}{D:AD}{H1:Hp}{fr:uI}{σ:St}{ix:Nat}{M:TT}{te:TE}{G:Hp->Prop}(Pv:Nat->List V->Hp->Prop)(h0:Pv 0 [] (upd H1 D (.lst []))) (Z:∀i ys H,i<n->Pv i ys H->H D=some Id->J.go i H/\ys.length<sizeLine/\∀x H',J.F6 i H x H' ->M ((carry fr σ).set ix (some x)) H' fun b U=>if b=true then te ((carry fr σ).set ix (some x)) U fun y R=>R D=some Id/\∃g,g<n-i/\CW Pv n D (i+1) g (ys++[y]) (upd R D (.lst (ys++[y]))) else ∃g,g<n-i/\CW Pv n D (i+1) g ys U) (I:∀ys H,Pv n ys H->H D=some Id->J.stop n H/\G H):∃W:Nat->Nat->List V->Hp->Prop,(∃m,W 0 m [] (upd H1 D (.lst []))) /\∀i m ys H,W i m ys H->H D=some Id/\((J.stop i H/\G H)\/(J.go i H/\ys.length<sizeLine/\∀x H',J.F6 i H x H' ->M ((carry fr σ).set ix (some x)) H' fun b U=>if b=true then te ((carry fr σ).set ix (some x)) U fun y R=>R D=some Id/\∃g,g<m/\W (i+1) g (ys++[y]) (upd R D (.lst (ys++[y]))) else ∃g,g<m/\W (i+1) g ys U)):=by
 refine⟨CW Pv n D,⟨n,by simp,Nat.zero_le _,AM,h0⟩,?_⟩;rintro i m ys H ⟨rfl,hi,hH,p⟩;refine⟨hH,?_⟩;by_cases Y:i<n
 .exact .inr (Z i ys H Y p hH)
 .have e:i=n:=by lia
  subst e;exact .inl (I ys H p hH)
section
variable{X:Cx}
def QJ(hc:X.calm=true):I0 X (.builtin "sum") (fun xs H Q=>∃(p:AD) (ns:t6),xs=[.ref p]/\AU X.K H p (ns.map V.int)/\Q (.int ns.sum) H):=by
 intro pins s σ H xs us Q I r h;obtain⟨p,ns,rfl,hq,q⟩:=h;obtain⟨u,rfl,Z⟩:=r.one;cases Z;obtain⟨g,Y,pl,hz⟩:=I.list hq;have hi:=intsAre_of Y;obtain⟨xs,U⟩:=hi.allInts.items;have M:s.heap.IsList p (intItems xs):=U ▸ pl.isList
 refine sum_intListG (I.ok.hd hc) M fun h' tk R hk=>?_;have e1:ns=xs.toList.map (·.1):=by
  rw[<-nums_intItems,<-U];exact(show numsOf g.toArray.toList=ns from hi.numsOf).symm
 have e2:preSum (numAt xs) xs.size=ns.sum:=by
  rw[preSum_eq,List.take_of_length_le Do,e1]
 rw[e2];exact⟨.int _,H,I.kept (t':=tk) hk,⟨R,rfl⟩,q⟩
end
section
variable{X:Cx}{scope:Scope}{cl:List (Str×AD)}{N:t7}{C:AD}{s₀:SD}{H₀:Hp}{fp:uF}
def NP:N7 ED (er X.K):=IC
def EE:N7 ED (gQ X.K):=A5
end
mutual
def Dt(l:AD)(H:Hp):PD->V->Prop
 |.none,v=>v=.Bj
 |.bool b,v=>v=.bl b
 |.int i,v=>v=.int i
 |.str x,v=>v=.str x
 |.tuple g,v=>∃(a:AD) (xs:IR),v=.ref a/\a≠l/\H a=some (.tup xs)/\AW l H g xs
 |.list g,v=>∃(a:AD) (xs:IR),v=.ref a/\a≠l/\H a=some (.lst xs)/\AW l H g xs
 |.dict _,_=>False
def AW(l:AD)(H:Hp):List PD->List V->Prop
 |[],xs=>xs=[]
 |d::g,xs=>∃x r,xs=x::r/\Dt l H d x/\AW l H g r
end
mutual
theorem Dt.but{l:AD}{H H':Hp}(e:SameBut l H H'):∀ {d:PD} {v:V},Dt l H d v->Dt l H' d v
 |.none,_,h=>by rw[Dt]at h ⊢;exact h
 |.bool _,_,h=>by rw[Dt]at h ⊢;exact h
 |.int _,_,h=>by rw[Dt]at h ⊢;exact h
 |.str _,_,h=>by rw[Dt]at h ⊢;exact h
 |.tuple _,_,h=>by
  rw[Dt]at h ⊢;obtain⟨a,xs,M,n,I,g⟩:=h;exact⟨a,xs,M,n,e _ _ n I,AW.but e g⟩
 |.list _,_,h=>by
  rw[Dt]at h ⊢;obtain⟨a,xs,M,n,I,g⟩:=h;exact⟨a,xs,M,n,e _ _ n I,AW.but e g⟩
 |.dict _,_,h=>by rw[Dt]at h;exact h.elim
theorem AW.but{l:AD}{H H':Hp}(e:SameBut l H H'):∀ {ds:List PD} {xs:IR},AW l H ds xs->AW l H' ds xs
 |[],_,h=>by rw[AW]at h ⊢;exact h
 |_::_,_,h=>by
  rw[AW]at h ⊢;obtain⟨x,r,M,I,g⟩:=h;exact⟨x,r,M,Dt.but e I,AW.but e g⟩
end
def Dt.same{l:AD}{H H':Hp}{d:PD}{v:V}(h:Dt l H d v)(e:AK H H'):Dt l H' d v:=Dt.but (.of e) h
def AW.same{l:AD}{H H':Hp}{d:tZ}{v:uD}(h:AW l H d v)(e:AK H H'):AW l H' d v:=AW.but (.of e) h
mutual
theorem Dt.br{K:Fg}{l:AD}{H:Hp}:∀ {d:PD} {v:V},Dt l H d v->Br K H d v
 |.none,_,h=>by rw[Dt]at h;rw[Br];exact h
 |.bool _,_,h=>by rw[Dt]at h;rw[Br];exact h
 |.int _,_,h=>by rw[Dt]at h;rw[Br];exact h
 |.str _,_,h=>by rw[Dt]at h;rw[Br];exact h
 |.tuple _,_,h=>by
  rw[Dt]at h;rw[Br];obtain⟨a,xs,M,n,I,g⟩:=h;exact⟨a,xs,M,Al.of I,AW.br g⟩
 |.list _,_,h=>by
  rw[Dt]at h;rw[Br];obtain⟨a,xs,M,n,I,g⟩:=h;exact⟨a,xs,M,AU.of I,AW.br g⟩
 |.dict _,_,h=>by rw[Dt]at h;exact h.elim
theorem AW.br{K:Fg}{l:AD}{H:Hp}:∀ {ds:List PD} {xs:IR},AW l H ds xs->FL K H ds xs
 |[],_,h=>by rw[AW]at h;rw[FL];exact h
 |_::_,_,h=>by
  rw[AW]at h;rw[FL];obtain⟨x,r,M,I,g⟩:=h;exact⟨x,r,M,Dt.br I,AW.br g⟩
end
theorem AW.len{l:AD}{H:Hp}:∀ {ds:List PD} {xs:IR},AW l H ds xs->xs.length=ds.length
 |[],_,h=>by rw[AW]at h;rw[h];rfl
 |_::_,_,h=>by
  rw[AW]at h;obtain⟨x,r,rfl,_,g⟩:=h;rw[(Im),(Im),AW.len g]
def AW.get{l:AD}{H:Hp}:∀ {ds:List PD} {xs:IR} {i:Nat} {v:V},AW l H ds xs->xs[i]? = some v->∃d,ds[i]? = some d/\Dt l H d v
 |[],_,i,v,h,e=>by rw[AW]at h;subst h;simp at e
 |d::ds,_,i,v,h,e=>by
  rw[AW]at h;obtain⟨x,r,rfl,R,M⟩:=h;cases i with
  |zero=>simp at e;subst e;exact⟨d,rfl,R⟩
  |succ i=>
   obtain⟨c,I,g⟩:=M.get (i:=i) (v:=v) (by simpa using e);exact⟨c,by simpa using I,g⟩
def AW.nil{l:AD}{H:Hp}:AW l H [] []:=by rw[AW]
def AW.cons{l:AD}{H:Hp}{d:PD}{ds:tZ}{x:V}{xs:uD}(h:Dt l H d x)(k:AW l H ds xs):AW l H (d::ds) (x::xs):=by
 rw[AW];exact⟨x,xs,rfl,h,k⟩
def AW.app{l:AD}{H:Hp}:∀ {ds es:List PD} {xs ys:IR},AW l H ds xs->AW l H es ys->AW l H (ds++es) (xs++ys)
 |[],_,_,_,h,k=>by rw[AW]at h;subst h;exact k
 |d::ds,es,_,ys,h,k=>by
  rw[AW]at h;obtain⟨x,r,rfl,I,g⟩:=h;exact .cons I (g.app k)
def Dt.int{l:AD}{H:Hp}{i:Int}:Dt l H (.int i) (.int i):=by rw[Dt]
def Dt.bool{l:AD}{H:Hp}{b:Bool}:Dt l H (.bool b) (.bl b):=by rw[Dt]
def Dt.Bj{l:AD}{H:Hp}:Dt l H .none .Bj:=by rw[Dt]
def Dt.str{l:AD}{H:Hp}{x:Str}:Dt l H (.str x) (.str x):=by rw[Dt]
def Dt.tup{l a:AD}{H:Hp}{ds:tZ}{xs:uD}(n:a≠l)(h:H a=some (.tup xs))(k:AW l H ds xs):Dt l H (.tuple ds) (.ref a):=by rw[Dt];exact⟨a,xs,rfl,n,h,k⟩
def Dt.lst{l a:AD}{H:Hp}{ds:tZ}{xs:uD}(n:a≠l)(h:H a=some (.lst xs))(k:AW l H ds xs):Dt l H (.list ds) (.ref a):=by rw[Dt];exact⟨a,xs,rfl,n,h,k⟩
def Ok(n:Nat)(d:PD):Prop:=d.canLay0=true/\d.depth<=n
def IK(n:Nat)(ds:tZ):Prop:=PyData.canLayAll0 ds=true/\PyData.depthAll ds<=n
def Ok.shaped{n:Nat}{d:PD}(h:Ok n d)(hn:n<=64):SeqAt.shaped d=true:=by
 unfold SeqAt.shaped;rw[h.1,(Fo)];exact bV (aS h.2 hn)
def IK.nil{n:Nat}:IK n []:=⟨by simp[PyData.canLayAll0],by simp[PyData.depthAll]⟩
def IK.cons{n:Nat}{d:PD}{ds:tZ}(h:Ok n d)(k:IK n ds):IK n (d::ds):=⟨by simp[PyData.canLayAll0,h.1,k.1],by simp only[PyData.depthAll];exact Nat.max_le.mpr ⟨h.2,k.2⟩⟩
theorem IK.of{n:Nat}:∀ {ds:List PD},(∀d∈ds,Ok n d)->IK n ds
 |[],_=>.nil
 |d::ds,h=>.cons (h d aR) (IK.of fun e g=>h e (aN _ g))
def Ok.tup{n:Nat}{ds:tZ}(h:IK n ds):Ok (n+1) (.tuple ds):=⟨by simp only[PyData.canLay0];exact h.1,by simp only[PyData.depth];exact Nat.succ_le_succ h.2⟩
def Ok.lst{n:Nat}{ds:tZ}(h:IK n ds):Ok (n+1) (.list ds):=⟨by simp only[PyData.canLay0];exact h.1,by simp only[PyData.depth];exact Nat.succ_le_succ h.2⟩
def Ok.int{n:Nat}{i:Int}:Ok n (.int i):=⟨by simp[PyData.canLay0],by simp[PyData.depth]⟩
def Ok.bool{n:Nat}{b:Bool}:Ok n (.bool b):=⟨by simp[PyData.canLay0],by simp[PyData.depth]⟩
def Ok.Bj{n:Nat}:Ok n .none:=⟨by simp[PyData.canLay0],by simp[PyData.depth]⟩
def Ok.str{n:Nat}{x:Str}(h:PyData.strOk x=true):Ok n (.str x):=⟨by simp[PyData.canLay0,h],by simp[PyData.depth]⟩
def WW:PD->String
 |.none => "NoneType"
 |.bool _ => "bool"
 |.int _ => "int"
 |.str _ => "str"
 |.tuple _ => "tuple"
 |.list _ => "list"
 |.dict _ => "dict"
def Dt.ty{K:Fg}{l:AD}{H:Hp}:∀ {d:PD} {v:V},Dt l H d v->IY K H v (.type (WW d))
 |.none,_,h=>by rw[Dt]at h;subst h;exact .Bj
 |.bool _,_,h=>by rw[Dt]at h;subst h;exact .bl _
 |.int _,_,h=>by rw[Dt]at h;subst h;exact .int _
 |.str _,_,h=>by rw[Dt]at h;subst h;exact .str _
 |.tuple _,_,h=>by rw[Dt]at h;obtain⟨a,xs,rfl,_,g,_⟩:=h;exact .tup g
 |.list _,_,h=>by rw[Dt]at h;obtain⟨a,xs,rfl,_,g,_⟩:=h;exact .lst g
 |.dict _,_,h=>by rw[Dt]at h;exact h.elim
def DJ:PD->Bool
 |.tuple _=>true
 |_=>false
def Co:PD->Bool
 |.list _=>true
 |_=>false
def Jv:PD->Bool
 |.int _=>true
 |.bool _=>true
 |_=>false
def IE:PD->Bool
 |.bool _=>true
 |_=>false
def NT(K:Fg):∀d:PD,(∀kv,d≠.dict kv)->PySem.W.kitOne K (.type (WW d)) (.type "tuple")=some (DJ d)
 |.none,_=>ku K
 |.bool _,_=>mj K
 |.int _,_=>lj K
 |.str _,_=>mE K
 |.tuple _,_=>mx K
 |.list _,_=>oY K
 |.dict kv,h=>absurd rfl (h kv)
def Nb(K:Fg):∀d:PD,(∀kv,d≠.dict kv)->PySem.W.kitOne K (.type (WW d)) (.type "list")=some (Co d)
 |.none,_=>kX K
 |.bool _,_=>mJ K
 |.int _,_=>nq K
 |.str _,_=>ll K
 |.tuple _,_=>mZ K
 |.list _,_=>mv K
 |.dict kv,h=>absurd rfl (h kv)
def ng(K:Fg):PySem.W.kitOne K (.type "NoneType") (.type "bool")=some false:=by kernel_rfl
def oV(K:Fg):PySem.W.kitOne K (.type "str") (.type "bool")=some false:=by kernel_rfl
def l9(K:Fg):PySem.W.kitOne K (.type "tuple") (.type "bool")=some false:=by kernel_rfl
def m9(K:Fg):PySem.W.kitOne K (.type "list") (.type "bool")=some false:=by kernel_rfl
def eu(K:Fg):∀d:PD,(∀kv,d≠.dict kv)->PySem.W.kitOne K (.type (WW d)) (.type "int")=some (Jv d)
 |.none,_=>oh K
 |.bool _,_=>nL K
 |.int _,_=>lU K
 |.str _,_=>nc K
 |.tuple _,_=>mY K
 |.list _,_=>mr K
 |.dict kv,h=>absurd rfl (h kv)
def cR(K:Fg):∀d:PD,(∀kv,d≠.dict kv)->PySem.W.kitOne K (.type (WW d)) (.type "bool")=some (IE d)
 |.none,_=>ng K
 |.bool _,_=>nv K
 |.int _,_=>lX K
 |.str _,_=>oV K
 |.tuple _,_=>l9 K
 |.list _,_=>m9 K
 |.dict kv,h=>absurd rfl (h kv)
def Dt.nodict{l:AD}{H:Hp}{d:PD}{v:V}(h:Dt l H d v):∀kv,d≠.dict kv:=fun kv z=>by subst z;rw[Dt]at h;exact h
end L2
namespace L2
open PySem PySem.Spec PyProof.Rows
def leaf:PD->Prop
 |.none=>True
 |.bool _=>True
 |.int _=>True
 |.str x=>PyData.strOk x=true
 |_=>False
def Sm:Nat->PD->Prop
 |0,d=>leaf d
 |n+1,d=>leaf d\/∃g,(d=.tuple g\/d=.list g)/\g.length<=60/\∀e∈g,Sm n e
def leaf.ok{n:Nat}:∀ {d:PD},leaf d->Ok n d
 |.none,_=>.Bj
 |.bool _,_=>.bool
 |.int _,_=>.int
 |.str _,h=>.str h
def Sm.ok:∀ {n:Nat} {d:PD},Sm n d->Ok n d
 |0,_,h=>leaf.ok h
 |n+1,d,h=>by
  rcases h with h|⟨R,M,_,I⟩
  .exact h.ok
  .have:=IK.of fun e g=>(I e g).ok;rcases M with rfl|rfl
   .exact .tup this
   .exact .lst this
def Sm.tup{n:Nat}{ds:tZ}(h:ds.length<=60)(k:∀e∈ds,Sm n e):Sm (n+1) (.tuple ds):=.inr ⟨ds,.inl rfl,h,k⟩
section
variable{X:Cx}
def qF:R2:=fun x y H Q=>∃a b xs ys,x=.ref a/\y=.ref b/\H a=some (.tup xs)/\H b=some (.tup ys)/\xs.length+ys.length<=sizeLine/\∀p H',AK H H'->H' p=some (.tup (xs++ys))->Q (.ref p) H'
def Si:Dp X (binaryOp .Add) qF:=by
 intro pins s σ H x y v u Q I rx ry h;obtain⟨a,b,xs,ys,rfl,rfl,ha,hb,hz,q⟩:=h;cases rx;cases ry;obtain⟨its,Z,p1,_⟩:=I.tuple (Al.of (K:=X.K) ha);obtain⟨its2,Y,p2,_⟩:=I.tuple (Al.of (K:=X.K) hb);by_cases hv:its=[]
 .have hx:=Z.Xy.mp hv;subst hv hx;obtain⟨⟨cls,dd,data,sl⟩,ho,hc,n,hd⟩:=id p1;obtain⟨⟨cls2,dd2,data2,U⟩,g,R,n2,M⟩:=id p2;simp only at hc hd R M;subst hc hd R M;exact concat_meets ⟨_,ho,rfl⟩ ⟨_,g,rfl⟩ noFill_tuple_add seq_tuple_add PySem.F.slot_tuple_add PySem.F.entry_tuple_add (PySem.F.args_tuple_add_2 _ _)
   (tuple_addW0 a b _ _ n n2 dd dd2 sl U Do) ⟨ho,g,⟨.ref b,H,I,rfl,q b H (.refl H) (by simpa using hb)⟩⟩
 .refine HT.jn p1 p2 hv (fun z=>?_) (fun z=>?_) (by rw[<-Z.length,<-Y.length];exact hz)
  .have hy:=Y.Xy.mp z;subst hy;exact⟨.ref a,H,I,rfl,q a H (.refl H) (by simpa using ha)⟩
  .refine⟨.ref s.heap.objs.size,_,I.laid (t':=s.toks) (o:=.tup (xs++ys)) (fun b ob q=>aE _ q) (aH _) ?_,rfl,q _ _ (AO (I.Am.fresh (aH _)) _) AM⟩;exact⟨by rw[(Ge)];exact hz,_,Z.append Y,IsTup.new _ _⟩
end
end L2
namespace TH
open PySem PySem.W PyProof.Rows PySem.SeqAt
def Sg{h h':Heap}(k:GS.Ext h h'){a:AD}{x:Array VL}(e:h.IsTuple a x):h'.IsTuple a x:=let⟨o,g,c,n,d⟩:=e;⟨o,k _ _ g,c,n,d⟩
section
open PySem.MeetsSeq PySem.MeetsSeq2 PySem.MeetsSeq3
variable{A:F0d}{E:tj}{s:SD}
def V5(h:Heap)(v:VL):Prop:=∃(a b:AD) (xs:Array VL) (g:List VL),v=.ref a/\h.IsTuple a ((.ref b::g).toArray)/\h.IsTuple b xs
theorem Tz{M:Model}:∀(us:List VL) {Q:List (Option VL)->SD->Prop},(∀v∈us,V5 s.heap v)->(∀fs:List VL,fs.length=us.length->(∀v∈fs,Looks M s.heap (typeOf v) (.type "tuple"))->Q (fs.map some) s)->wpAny M A (us.mapM firstOfTuple') Q E s
 |[],Q,_,h=>by
  rw[List.mapM_nil];exact aA (h [] rfl fun _ z=>by cases z)
 |v::us,Q,e,h=>by
  obtain⟨a,b,xs,I,rfl,h1,h2⟩:=e v aR;obtain⟨o,U,Z,n,hd⟩:=id h1;rw[List.mapM_cons];refine Wb ?_;rw[kas_first_eq];refine Wb (Looks.here (show Looks M s.heap (typeOf (.ref a)) o.cls from(Looks.ld U).andThen .now) ?_);rw[Z,if_neg (by first|decide|simp)];refine Wb (listItems_at U hd (aA ?_));refine Wb (Tz us (Q:=fun bs s'=>wpAny M A (pure ((.ref b::I).toArray[0]? :: bs)) Q E s') (fun v g=>e v (aN _ g)) fun fs Y R=>aA ?_);have:=h (.ref b::fs) (by simp[Y]) fun v g=>by
   rcases aU.mp g with rfl|g
   .exact Xk h2
   .exact R v g
  simpa using this
def j6{M:Model}{us:tf}{Q:SortKind->SD->Prop}(e:∀v∈us,V5 s.heap v)(h:Q (tuples' false) s):wpAny M A (keyKind' us.toArray) Q E s:=by
 rw[kat_kind_eq,List.mapM_toArray,map_eq_pure_bind];refine Wb (Wb (Tz us e fun fs R g=>aA ?_));rw[if_pos Do];refine Wb (wpAny_rule ?_);have I:((fs.map some).toArray.filterMap id)=fs.toArray:=by simp
 rw[I];exact Wb (jO g (fun _=>aA h) (aA h))
end
end TH
namespace L2
open PySem PySem.Spec PyProof.Rows
abbrev P9(x y:Str)(M I:Pos)(tk:Nat)(g:Pos):Expr:=.Tuple [.Name x M,.Name y I] tk g
def jx{ix g:Nat}(h:ix≠g)(σ:St)(a b c d:Option V):((((σ.set ix a).set g b).set ix c).set g d)=(σ.set ix c).set g d:=by
 rw[List.set_comm _ _ h.symm,List.set_set,List.set_set]
def Mj(K:Fg)(wi:TI)(fr:uI)(ix U:Nat)(R:TT)(te:TE):TE:=fun σ H Q=>wi σ H fun J H1=>∀D,H1 D=none->∃W:Nat->Nat->List V->Hp->Prop,(∃m,W 0 m [] (upd H1 D (.lst []))) /\
 ∀i m ys H,W i m ys H->H D=some Id/\((J.stop i H/\Q (.ref D) H)\/(J.go i H/\ys.length<sizeLine/\∀x H',J.F6 i H x H'->∃a M I,x=.ref a/\Al K H' a [M,I] /\
  R (((carry fr σ).set ix (some M)).set U (some I)) H' fun b Z=>if b=true then te (((carry fr σ).set ix (some M)).set U (some I)) Z fun y Y=>Y D=some Id/\∃g,g<m/\W (i+1) g (ys++[y]) (upd Y D (.lst (ys++[y])))
   else ∃g,g<m/\W (i+1) g ys Z))
section
variable{X:Cx}{elt iter:Expr}{x y:Str}{px py tp pos:Pos}{tk:Nat}{ifs:t8}{scope:Scope}{wi:TI}{fr:uI}{ix iy:Nat}{tif:TT}{te:TE}{N:t7}
def Py{pins:Db}{σ:St}{M:Hp}{s2:SD}{Q:VK}{it:AD}{fp:uF}{tn:Nat->Heap->Prop}{J:It}{cl:List (Str×AD)}{E:tj}{RR:VL->AD->Result->SD->Prop} (S:D7 scope N x ix)(S2:D7 scope N y iy)(hxy:ix≠iy)(I:X.calm=true)(hfr:Gh N X.N scope X.env.scope fr 0=true)(hlen:fr.length=N.length) (hif:∀cl C s₀ H₀ fp,MB ED ifs tif)(he:∀cl C s₀ H₀ fp,PE ED elt te) (I2:Inv X pins σ M s2)(T:Turn X.prog X.w X.K (P9 x y px py tk tp) J fp it tn)(st2:tn 0 s2.heap)(f2:∀b∈fp,KW X pins M b) (c1:∀x c,cl.lookup x=some c->X.env.cells.lookup x=some c)(c2:∀x∈scope.names,x.2=NameKind.free->∃c,cl.lookup x.1=some c) (W:∀D,M D=none->∃W:Nat->Nat->List V->Hp->Prop,(∃m,W 0 m [] (upd M D (.lst []))) /\∀i m ys H,W i m ys H->H D=some Id/\((J.stop i H/\Q (.ref D) H)\/(J.go i H/\ys.length<sizeLine/\∀x H',J.F6 i H x H'->∃a Y U,x=.ref a/\Al X.K H' a [Y,U] /\tif (((carry fr σ).set ix (some Y)).set iy (some U)) H' fun b M=>if b=true then te (((carry fr σ).set ix (some Y)).set iy (some U)) M fun y H3=>H3 D=some Id/\∃m',m'<m/\W (i+1) m' (ys++[y]) (upd H3 D (.lst (ys++[y]))) else ∃m',m'<m/\W (i+1) m' ys M))) (fin:Gg):wpAny At X.A (newList []) (fun acc s₃=>wpAny At X.A (newFunctionEnv scope X.env.globals cl [] X.env.qual none .none (some X.env)) (fun R s₄ => codeAny At X.A (.compStart (.ListComp elt [⟨P9 x y px py tk tp,iter,ifs,0⟩] scope pos) 0 (.ref it) acc {R with scope:=relabel scope X.env}) (RR acc R.locals) s₄) E s₃) E s2:=by
 have hxv:(relabel scope X.env).names.lookup x=some .local:=lookup_relabel_local S.loc;have hyv:(relabel scope X.env).names.lookup y=some .local:=lookup_relabel_local S2.loc;refine P6 (g:=gE X.K 2 (RG (EJ ix) (RG (EJ iy) fP))) S I (fun Z=>∀v w,(Z.set ix v).set iy w=((carry fr σ).set ix v).set iy w) By (fun C=>HS (X:=A7 X scope cl N C s2 M fp) I (Bw (An (X:=A7 X scope cl N C s2 M fp) S.nd S.at_ (.inl hxv) (.inr hxv)) (Bw (An (X:=A7 X scope cl N C s2 M fp) S2.nd S2.at_ (.inl hyv) (.inr hyv)) F8))) hfr hlen hif he I2 T st2 f2 c1 c2 (fun D hD=>?_) fin;obtain⟨W,w0,st⟩:=W D hD;refine⟨W,w0,fun i m ys H w=>?_⟩;obtain⟨h1,h2|⟨h2,h3,h4⟩⟩:=st i m ys H w
 .exact⟨h1,.inl h2⟩
 .refine⟨h1,.inr ⟨h2,h3,fun x H' hy Z hr=>?_⟩⟩;obtain⟨a,Y,U,rfl,hs,q⟩:=h4 x H' hy;rw[<-hr]at q;exact⟨a,[Y,U],rfl,hs,rfl,Y,[U],rfl,U,[],rfl,rfl,fun v w=>by rw[jx hxy,hr],q⟩
def hV(S:D7 scope N x ix)(S2:D7 scope N y iy)(hxy:ix≠iy)(U:X.calm=true)(hfr:Gh N X.N scope X.env.scope fr 0=true)(Y:fr.length=N.length)(M:∀y∈scope.names,y.2=.free->X.env.scope.names.lookup y.1=some .cell\/X.env.scope.names.lookup y.1=some .free) (hi:PI X (P9 x y px py tk tp) iter wi)(hif:∀cl C s₀ H₀ fp,MB ED ifs tif)(he:∀cl C s₀ H₀ fp,PE ED elt te) (hs:∀x,foldedSetIterable iter X.env x=pure x:=by intro _;rfl):PE X (.ListComp elt [⟨P9 x y px py tk tp,iter,ifs,0⟩] scope pos) (Mj X.K wi fr ix iy tif te):=by
 intro pins s σ H Q I hw;obtain⟨cl,R,c1,_,c2⟩:=G9 (env:=X.env) scope.names [] (fun y hy hf=>I.ok.has y.1 (M y hy hf)) (fun y c z=>by cases z);have g:closureFor scope X.env=pure cl:=by
  have e:closureFor scope X.env=((forIn scope.names [] (fun(x:Str×NameKind) (r:List (Str×AD))=>do if(x.2==NameKind.free)=true then do let a <-cellOf X.env x.1;pure (ForInStep.yield ((x.1,a)::r)) else pure (ForInStep.yield r)):Sem (List (Str×AD)))>>=fun cs=>pure cs):=rfl;rw[e,R]
  rfl
 rw[eval_ListComp];refine wpAny_comprehension_free (use:=none) rfl hs g S.kind S.names (BA (hi pins s σ H _ I hw) fun v s1 h1=>BA h1 fun itv s2 h2=>?_);obtain⟨it,fp,tn,J,H2,e,I2,T,Z,f2,W⟩:=h2;subst e;refine Py (RR:=fun acc C=>compPost At X.A X.xe none (EP X pins σ Q) acc C) S S2 hxy U hfr Y hif he I2 T Z f2 c1 c2 W ?_;intro D C s' H' m hn q hI _ _ _ _;exact⟨m,hn,fun h' hs'=>⟨.ref D,H',hI h' hs',rfl,q⟩⟩
def Xh{i : Nat}{z : Str}{pz spos : Pos}(hN : X.N.Nodup)(hy : X.N[i]? = some z)(hly : X.env.scope.names.lookup z = some .local)(S : D7 scope N x ix)(S2 : D7 scope N y iy)(hxy : ix≠iy)(hcalm : X.calm = true)(hfr : Gh N X.N scope X.env.scope fr 0 = true)(hlen : fr.length = N.length) (hfree : ∀ y∈scope.names,y.2 = .free->X.env.scope.names.lookup y.1 = some .cell\/X.env.scope.names.lookup y.1 = some .free) (hi : PI X (P9 x y px py tk tp) iter wi)(hif : ∀ cl C s₀ H₀ fp,MB ED ifs tif)(he : ∀ cl C s₀ H₀ fp,PE ED elt te) (hsw : swapsWith (.ListComp elt [⟨P9 x y px py tk tp,iter,ifs,0⟩] scope pos) (some (.Name z pz)) spos.line X.env = pure true:=by rfl) (hs : ∀ x,foldedSetIterable iter X.env x = pure x:=by intro _; rfl):PS X (.Assign [.Name z pz] (.ListComp elt [⟨P9 x y px py tk tp,iter,ifs,0⟩] scope pos) spos) (QY (Mj X.K wi fr ix iy tif te) (EJ i)):=by
  intro pins s σ H D I hw
  obtain ⟨cl,hclos,c1,_,c2⟩:=G9 (env:=X.env) scope.names [] (fun y hy hf => I.ok.has y.1 (hfree y hy hf)) (fun y c z => by cases z)
  have hclos' : closureFor scope X.env = pure cl:=by
    have e : closureFor scope X.env = ((forIn scope.names [] (fun (x : Str×NameKind) (r : List (Str×AD)) => do if (x.2 == NameKind.free) = true then do let a <- cellOf X.env x.1; pure (ForInStep.yield ((x.1,a) :: r)) else pure (ForInStep.yield r)):Sem (List (Str×AD))) >>= fun cs => pure cs):=rfl
    rw [e,hclos]
    rfl
  rw [exec_Assign_Name_used _ _ _ _ hsw]
  refine Wb (wpAny_standAt (Wb ?_))
  show wpAny _ X.A (do let _ <- comprehension (.ListComp elt [⟨P9 x y px py tk tp,iter,ifs,0⟩] scope pos) scope X.env _ (newList []) false (eval iter X.env) (some (assign (.Name z pz) X.env))) _ _ s
  refine Wb (aW (wpAny_comprehension_free (use:=some (assign (.Name z pz) X.env)) (Q:=fun _ s' => SP X pins D .next s') rfl hs hclos' S.kind S.names
    (BA (hi pins s σ H _ I hw) fun v s1 h1 => BA h1 fun itv s2 h2 => ?_)) (fun _ s' hq => aA (aA hq)) fun _ _ e => e)
  obtain ⟨it,fp,tn,J,H2,e,I2,T,st2,f2,W⟩:=h2
  subst e
  refine Py (Q:=fun x H1 => EJ i x σ H1 D.nx) (RR:=fun acc C => compPost At X.A X.xe (some (assign (.Name z pz) X.env)) (fun _ s' => SP X pins D .next s') acc C) S S2 hxy hcalm hfr hlen hif he I2 T st2 f2 c1 c2 W ?_
  intro D' C s' H' m hn q hI hCD hold hfreeC hsz
  have I5 : Inv X pins σ H' s':=hI s'.heap (Heap.SameBut.refl ..)
  refine wpAny_assign_Name (Ov I5 hN hy (.inl hly) (v:=.ref D') rfl (fun s'' I6 ⟨a,hsb,ha⟩ => ?_) (.inr hly))
  have hL : C≠X.env.locals:=fun z => by
    obtain ⟨_,⟨o,_,_,e,_⟩,_⟩:=I2.loc
    exact hold _ _ e z.symm
  have hcl : ∀ z c,X.env.cells.lookup z = some c->c≠C:=fun z c e => by
    obtain ⟨_,o,ho,_⟩:=I2.cell z c e
    exact hold _ _ ho
  have hCa : C≠a:=by
    rcases ha with z | z
    . rw [z]; exact hL
    . exact Ne.symm (hcl _ _ z)
  refine ⟨m,hn.sameBut hsb hCa,fun h' hs' => ⟨_,H',I6.turned (t':=s''.toks) (it:=C) (fun b o hb e => (hs'.2 b hb).trans e) hfreeC hL (.inr (aS I2.sz hsz)) hcl fun p hp => ?_,q⟩⟩
  obtain ⟨e,_⟩:=I2.pin p hp
  exact hold _ _ e
end
section
variable{X:Cx}{elt iter:Expr}{x y:Str}{px py tp pos:Pos}{tk:Nat}{ifs:t8}{scope:Scope}{wi:TI}{tif:TT}{te:TE}
def N1(N:t7)(ix g:Nat)(fr:uI)(hi:PI X (P9 x y px py tk tp) iter wi)(M:∀cl C s₀ H₀ fp,MB ED ifs tif)(Y:∀cl C s₀ H₀ fp,PE ED elt te) (h1:DD scope N x ix=true:=by decide +kernel)(R:DD scope N y g=true:=by decide +kernel)(I:ix≠g:=by decide)(h2:X.calm=true:=by rfl)(h3:Gh N X.N scope X.env.scope fr 0=true:=by rfl)(h4:fr.length=N.length:=by rfl)(Z:freeOk X.env.scope scope.names=true:=by rfl) (U:∀x,foldedSetIterable iter X.env x=pure x:=by intro _;rfl):PE X (.ListComp elt [⟨.Tuple [.Name x px,.Name y py] tk tp,iter,ifs,0⟩] scope pos) (Mj X.K wi fr ix g tif te) :=
 hV (FY h1) (FY R) I h2 h3 h4 (Lx Z) hi M Y U
def IJ{i:Nat}{z:Str}{pz g:Pos}(N:t7)(ix I:Nat)(fr:uI)(hN:X.N.Nodup)(hy:X.N[i]? = some z)(U:X.env.scope.names.lookup z=some .local) (hi:PI X (P9 x y px py tk tp) iter wi)(Y:∀cl C s₀ H₀ fp,MB ED ifs tif)(he:∀cl C s₀ H₀ fp,PE ED elt te) (h1:DD scope N x ix=true:=by decide +kernel)(Z:DD scope N y I=true:=by decide +kernel)(M:ix≠I:=by decide)(h2:X.calm=true:=by rfl)(h3:Gh N X.N scope X.env.scope fr 0=true:=by rfl)(h4:fr.length=N.length:=by rfl)(h5:freeOk X.env.scope scope.names=true:=by rfl) (R:swapsWith (.ListComp elt [⟨.Tuple [.Name x px,.Name y py] tk tp,iter,ifs,0⟩] scope pos) (some (.Name z pz)) g.line X.env=pure true:=by rfl) (hs:∀x,foldedSetIterable iter X.env x=pure x:=by intro _;rfl):PS X (.Assign [.Name z pz] (.ListComp elt [⟨.Tuple [.Name x px,.Name y py] tk tp,iter,ifs,0⟩] scope pos) g) (QY (Mj X.K wi fr ix I tif te) (EJ i)) :=
 Xh hN hy U (FY h1) (FY Z) M h2 h3 h4 (Lx h5) hi Y he R hs
end
def Hk{K:Fg}{J:It}{n:Nat}{D:AD}{H1:Hp}{fr:uI}{σ:St}{ix iy:Nat}{U:TT}{te:TE}{G:Hp->Prop}(Pv:Nat->List V->Hp->Prop)(h0:Pv 0 [] (upd H1 D (.lst []))) (hgo:∀i ys H,i<n->Pv i ys H->H D=some Id->J.go i H/\ys.length<sizeLine/\∀x H',J.F6 i H x H'->∃a M I,x=.ref a/\Al K H' a [M,I] /\U (((carry fr σ).set ix (some M)).set iy (some I)) H' fun b Z=>if b=true then te (((carry fr σ).set ix (some M)).set iy (some I)) Z fun y Y=>Y D=some Id/\∃g,g<n-i/\CW Pv n D (i+1) g (ys++[y]) (upd Y D (.lst (ys++[y]))) else ∃g,g<n-i/\CW Pv n D (i+1) g ys Z) (R:∀ys H,Pv n ys H->H D=some Id->J.stop n H/\G H):∃W:Nat->Nat->List V->Hp->Prop,(∃m,W 0 m [] (upd H1 D (.lst []))) /\∀i m ys H,W i m ys H->H D=some Id/\((J.stop i H/\G H)\/(J.go i H/\ys.length<sizeLine/\∀x H',J.F6 i H x H'->∃a M I,x=.ref a/\Al K H' a [M,I] /\U (((carry fr σ).set ix (some M)).set iy (some I)) H' fun b Z=>if b=true then te (((carry fr σ).set ix (some M)).set iy (some I)) Z fun y Y=>Y D=some Id/\∃g,g<m/\W (i+1) g (ys++[y]) (upd Y D (.lst (ys++[y]))) else ∃g,g<m/\W (i+1) g ys Z)):=by
 refine⟨CW Pv n D,⟨n,by simp,Nat.zero_le _,AM,h0⟩,?_⟩;rintro i m ys H ⟨rfl,hi,hH,p⟩;refine⟨hH,?_⟩;by_cases hlt:i<n
 .exact .inr (hgo i ys H hlt p hH)
 .have:i=n:=by lia
  subst this;exact .inl (R ys H p hH)
end L2
namespace ZT
open PySem PyProof.Rows
structure Apart(z TI TO i1 i2:Addr)(f1 f2:List Addr):Prop where
 a1:TI≠z/\TI≠TO/\TI≠i1/\TI≠i2
 a2:TO≠z/\TO≠i1/\TO≠i2
 a3:i1≠z/\i2≠z/\i1≠i2
 b1:z ∉ f1/\TO ∉ f1/\i2 ∉ f1
 b2:z ∉ f2/\TO ∉ f2/\i1 ∉ f2
section
variable{prog:F0b}{w:F0c}{A:F0d}{E:tj}{s:SD}{z TI TO i1 i2:AD}{f1 f2:uF}{n1 n2 k:Nat}{P1 P2:Nat->VL->Prop}{S1 S2:Nat->Heap->Prop}{a b:VL}
def El{f:uF}{x:AD}{h h':Heap}(g:x ∉ f)(e:Heap.SameBut x h h'):∀c∈f,∀o,h.get? c=some o->h'.get? c=some o:=fun c I o q=>(e.2 c fun y=>g (y ▸ I)).trans q
def item{Q:tj}(Z:Draws prog w A i1 f1 n1 P1 S1)(Y:Draws prog w A i2 f2 n2 P2 S2)(ap:Apart z TI TO i1 i2 f1 f2)(hz:IsZip s.heap z TI TO .none)(hI:IsPair s.heap TI (.ref i1) (.ref i2))(hO:IsPair s.heap TO a b) (t1:S1 k s.heap)(t2:S2 k s.heap)(l1:k<n1)(l2:k<n2) (q:∀x y h' tk,P1 k x->P2 k y->IsZip h' z TI TO (rawInt s.heap.objs.size)->IsPair h' TO x y->S1 (k+1) h'->S2 (k+1) h'->IsPair h' s.heap.objs.size x y->h'.objs.size=s.heap.objs.size+1 ->(∀c o,c≠z->c≠TO->c≠i1->c≠i2->s.heap.get? c=some o->h'.get? c=some o)->Q (.ref s.heap.objs.size) {s with heap:=h',toks:=tk}):wpAny Da A (Builtin.«zip.__next__» ⟨[.ref z],[]⟩) (fun fin s'=>∃v,fin=.done (.ret v)/\Q v s') E s:=by
 obtain⟨⟨c1,c2,c3,c4⟩,⟨c5,c6,c7⟩,⟨c8,c9,c10⟩,⟨d1,d2,d3⟩,d4,d5,d6⟩:=ap;show wpAny _ _ (field (.ref z) 2>>=_) _ _ _;refine Wb (aj hz rfl (x:=.bool false) rfl ?_);show wpAny _ _ (field (.ref z) 3>>=_) _ _ _;refine Wb (aj hz rfl (x:=.ref TI) rfl (Wb (bw hI rfl ?_)));show wpAny _ _ (Builtin.SmallTypes.ownedTupleIsFree (.ref z)>>=_) _ _ _;unfold Builtin.SmallTypes.ownedTupleIsFree;refine Wb (Wb (aj hz rfl (x:=.none) rfl (aA ?_)));simp only[if_true];refine Wb (wpAny_rule (Wb (aj hz rfl (x:=.ref TO) rfl (Wb (ai hz Do fun g1 z1 m1=>Wb ?_)))));have m1:Heap.SameBut z s.heap g1:=m1;have z1:IsZip g1 z TI TO .ellipsis:=z1;simp only[List.zipIdx_cons,List.zipIdx_nil,List.forIn_cons,List.forIn_nil];refine Wb (Wb (wpAny_onRaise ?_));show wpAny _ _ (Builtin.SmallTypes.nextOf (.ref i1)>>=_) _ _ _;refine Wb (Z.item k _ _ _ l1 (Z.frame _ _ _ t1 (El d1 m1)) fun x g2 tk2 p1 u1 R=>aA ?_);have o2:IsPair g2 TO a b:=(R.2 _ c6).trans ((m1.2 _ c5).trans hO);refine Wb (bw o2 rfl (Wb (wpAny_updateSeq_pair o2 fun g3 o3 M=>Wb (wpAny_letGo (aA ?_)))));have o3:IsPair g3 TO x b:=o3;have t2':S2 k g3:=Y.frame _ _ _ (Y.frame _ _ _ (Y.frame _ _ _ t2 (El d4 m1)) (El d6 R)) (El d5 M);refine Wb (Wb (wpAny_onRaise ?_));show wpAny _ _ (Builtin.SmallTypes.nextOf (.ref i2)>>=_) _ _ _;refine Wb (Y.item k _ _ _ l2 t2' fun y g4 tk4 p2 u2 m4=>aA ?_);have M:Heap.SameBut TO g2 g3:=M;have m4:Heap.SameBut i2 g3 g4:=m4;have o4:IsPair g4 TO x b:=(m4.2 _ c7).trans o3;refine Wb (bw o4 rfl (Wb (wpAny_updateSeq_pair o4 fun g o5 I=>Wb (wpAny_letGo (aA (aA ?_))))));have I:Heap.SameBut TO g4 g:=I;have o5:IsPair g TO x y:=o5;refine Wb (bw o5 rfl (Wb (wpAny_newTuple ?_)));have R:Heap.SameBut i1 g1 g2:=R;have sz:g.objs.size=s.heap.objs.size:=by rw[I.1,m4.1,M.1,R.1,m1.1]
 have z5:IsZip g z TI TO .ellipsis:=(I.2 _ c5.symm).trans ((m4.2 _ c9.symm).trans ((M.2 _ c5.symm).trans ((R.2 _ c8.symm).trans z1)));have kp:∀c o,c≠z->c≠TO->c≠i1->c≠i2->s.heap.get? c=some o->g.get? c=some o:=fun c o U e2 e3 e4 e=>(I.2 _ e2).trans ((m4.2 _ e4).trans ((M.2 _ e2).trans ((R.2 _ e3).trans ((m1.2 _ U).trans e))));have v1:S1 (k+1) g:=Z.frame _ _ _ (Z.frame _ _ _ (Z.frame _ _ _ u1 (El d2 M)) (El d3 m4)) (El d2 I);have v2:S2 (k+1) g:=Y.frame _ _ _ u2 (El d5 I);show wpAny _ _ (Builtin.SmallTypes.ownedTupleHandOut (.ref z) (.ref g.objs.size)>>=_) _ _ _;unfold Builtin.SmallTypes.ownedTupleHandOut;have z6:IsZip (g.push { cls:=.type "tuple",data:=.seq #[x,y]}) z TI TO .ellipsis:=aE _ z5;refine Wb (Wb (ai z6 Do fun g7 z7 m7=>ai (show IsZip g7 z TI TO (rawInt g.objs.size) from z7) Do fun g8 z8 m8=>?_));have z8:IsZip g8 z TI TO (rawInt g.objs.size):=z8;have up:∀c o,c≠z->(g.push { cls:=.type "tuple",data:=.seq #[x,y]}).get? c=some o->g8.get? c=some o:=fun c o U e=>(m8.2 _ U).trans ((m7.2 _ U).trans e);have zl:z<g.objs.size:=aD z5;refine aA ⟨_,rfl,?_⟩;show Q (.ref g.objs.size) _;have fin:=q x y g8 tk4 p1 p2 (by rw[<-sz];exact z8) (up _ _ c5 (aE _ o5)) (Z.frame _ _ _ v1 fun c hc o e=>up c o (fun y=>d1 (y ▸ hc)) (aE _ e)) (Y.frame _ _ _ v2 fun c hc o e=>up c o (fun y=>d4 (y ▸ hc)) (aE _ e))
  (by rw[<-sz];exact up _ _ (bF zl) (aV _ rfl)) (by rw[<-sz,m8.1,m7.1,(MO)]) fun c o U e2 e3 e4 e=>up c o U (aE _ (kp c o U e2 e3 e4 e))
 rw[sz];exact fin
def ended{Q:Fin->SD->Prop}(D1:Draws prog w A i1 f1 n1 P1 S1)(D2:Draws prog w A i2 f2 n2 P2 S2)(ap:Apart z TI TO i1 i2 f1 f2)(hz:IsZip s.heap z TI TO .none)(hI:IsPair s.heap TI (.ref i1) (.ref i2))(hO:IsPair s.heap TO a b) (t1:S1 k s.heap)(t2:S2 k s.heap)(he:k=n1\/(k<n1/\k=n2)) (q:∀h' e tk,(∀c o,c≠z->c≠TO->c≠i1->c≠i2->s.heap.get? c=some o->h'.get? c=some o)->(∃o,h'.get? e=some o/\o.cls=.type "StopIteration")->E (.ref e) {s with heap:=h',toks:=tk}):wpAny Da A (Builtin.«zip.__next__» ⟨[.ref z],[]⟩) Q E s:=by
 obtain⟨⟨c1,c2,c3,c4⟩,⟨c5,c6,c7⟩,⟨c8,c9,c10⟩,⟨d1,d2,d3⟩,d4,d5,d6⟩:=ap;show wpAny _ _ (field (.ref z) 2>>=_) _ _ _;refine Wb (aj hz rfl (x:=.bool false) rfl ?_);show wpAny _ _ (field (.ref z) 3>>=_) _ _ _;refine Wb (aj hz rfl (x:=.ref TI) rfl (Wb (bw hI rfl ?_)));show wpAny _ _ (Builtin.SmallTypes.ownedTupleIsFree (.ref z)>>=_) _ _ _;unfold Builtin.SmallTypes.ownedTupleIsFree;refine Wb (Wb (aj hz rfl (x:=.none) rfl (aA ?_)));simp only[if_true];refine Wb (wpAny_rule (Wb (aj hz rfl (x:=.ref TO) rfl (Wb (ai hz Do fun g1 z1 m1=>Wb ?_)))));have m1:Heap.SameBut z s.heap g1:=m1;have z1:IsZip g1 z TI TO .ellipsis:=z1;simp only[List.zipIdx_cons,List.zipIdx_nil,List.forIn_cons,List.forIn_nil];refine Wb (Wb (wpAny_onRaise ?_));show wpAny _ _ (Builtin.SmallTypes.nextOf (.ref i1)>>=_) _ _ _;have R:=D1.frame _ _ _ t1 (El d1 m1);rcases he with he|⟨he1,he2⟩
 .rw[he]at R;refine Wb (D1.done _ _ _ R fun Z e I g=>?_);obtain⟨o,g,Y⟩:=g;have z2:IsZip Z z TI TO .ellipsis:=I _ _ c8.symm z1;have ez:e≠z:=fun y=>by subst y;rw[z2]at g;cases g;simp at Y
  exact ai z2 Do fun g3 _ M=>q g3 e _ (fun c o e1 e2 e3 e4 y=>(M.2 _ e1).trans (I _ _ e3 ((m1.2 _ e1).trans y))) ⟨o,(M.2 _ ez).trans g,Y⟩
 .refine Wb (D1.item k _ _ _ he1 R fun x Z tk2 p1 u1 I=>aA ?_);have o2:IsPair Z TO a b:=(I.2 _ c6).trans ((m1.2 _ c5).trans hO);refine Wb (bw o2 rfl (Wb (wpAny_updateSeq_pair o2 fun g3 o3 M=>Wb (wpAny_letGo (aA ?_)))));have U:S2 k g3:=D2.frame _ _ _ (D2.frame _ _ _ (D2.frame _ _ _ t2 (El d4 m1)) (El d6 I)) (El d5 M);rw[he2]at U;have I:Heap.SameBut i1 g1 Z:=I;have M:Heap.SameBut TO Z g3:=M;refine Wb (Wb (wpAny_onRaise ?_));show wpAny _ _ (Builtin.SmallTypes.nextOf (.ref i2)>>=_) _ _ _;refine Wb (D2.done _ _ _ U fun g4 e m4 g=>?_);obtain⟨o,g,Y⟩:=g;have z4:IsZip g4 z TI TO .ellipsis:=m4 _ _ c9.symm ((M.2 _ c5.symm).trans ((I.2 _ c8.symm).trans z1));have ez:e≠z:=fun y=>by subst y;rw[z4]at g;cases g;simp at Y
  exact ai z4 Do fun g5 _ m5=>q g5 e _ (fun c o e1 e2 e3 e4 y=>(m5.2 _ e1).trans (m4 _ _ e4 ((M.2 _ e2).trans ((I.2 _ e3).trans ((m1.2 _ e1).trans y))))) ⟨o,(m5.2 _ ez).trans g,Y⟩
def next_item{Q:Option VL->SD->Prop}(D1:Draws prog w A.in1 i1 f1 n1 P1 S1)(D2:Draws prog w A.in1 i2 f2 n2 P2 S2)(ap:Apart z TI TO i1 i2 f1 f2)(hz:IsZip s.heap z TI TO .none)(hI:IsPair s.heap TI (.ref i1) (.ref i2))(hO:IsPair s.heap TO a b) (t1:S1 k s.heap)(I:S2 k s.heap)(l1:k<n1)(l2:k<n2) (q:∀x y h' tk,P1 k x->P2 k y->IsZip h' z TI TO (rawInt s.heap.objs.size)->IsPair h' TO x y->S1 (k+1) h'->S2 (k+1) h'->IsPair h' s.heap.objs.size x y->h'.objs.size=s.heap.objs.size+1 ->(∀c o,c≠z->c≠TO->c≠i1->c≠i2->s.heap.get? c=some o->h'.get? c=some o)->Q (some (.ref s.heap.objs.size)) {s with heap:=h',toks:=tk}):wpAny Da A (pyNext (.ref z)) Q E s:=by
 have g:s.TypeIs (.ref z) "zip" := ⟨_,hz,rfl⟩;unfold pyNext;exact Wb (bc (ak (name:=Str.ofString "__next__") g F.slot_zip_next
  (ax F.slot_zip_next g F.entry_zip_next (item D1 D2 ap hz hI hO t1 I l1 l2 fun x y h' tk r1 r2 r3 r4 Z Y U R M=>aA (q x y h' tk r1 r2 r3 r4 Z Y U R M)) (F.args_zip_next_1 _))))
def next_end{Q:Option VL->SD->Prop}(D1:Draws prog w A.in1 i1 f1 n1 P1 S1)(D2:Draws prog w A.in1 i2 f2 n2 P2 S2)(ap:Apart z TI TO i1 i2 f1 f2)(hz:IsZip s.heap z TI TO .none)(Z:IsPair s.heap TI (.ref i1) (.ref i2))(Y:IsPair s.heap TO a b) (t1:S1 k s.heap)(M:S2 k s.heap)(R:k=n1\/(k<n1/\k=n2)) (q:∀h' tk,(∀c o,c≠z->c≠TO->c≠i1->c≠i2->s.heap.get? c=some o->h'.get? c=some o)->Q none {s with heap:=h',toks:=tk}):wpAny Da A (pyNext (.ref z)) Q E s:=by
 have I:s.TypeIs (.ref z) "zip" := ⟨_,hz,rfl⟩;unfold pyNext;refine Wb (bc (ak (name:=Str.ofString "__next__") I F.slot_zip_next
  (ax F.slot_zip_next I F.entry_zip_next (ended D1 D2 ap hz Z Y t1 M R fun h' e tk kp g=>?_) (F.args_zip_next_1 _))))
 obtain⟨o,g,U⟩:=g;exact Wb (wpAny_isInstance (T := "StopIteration") (b:=true) ⟨o,g,U⟩ isSubtype_stop (aA (q _ _ kp)))
end
end ZT
namespace ZT
open PySem PyProof.Rows
def Sq(b:Bool)(h:Heap)(l:AD)(xs:tf):Prop:=if b then h.IsTuple l xs.toArray else h.IsList l xs.toArray
def Fl(b:Bool)(l:AD):Obj:=if b then { cls:=.type "tuple_iterator",data:=.fields #[.ref l,.int 0 0]} else { cls:=.type "list_iterator",data:=.fields #[.ref l,.int 0 0]}
def RL(b:Bool)(h:Heap)(it l:AD)(k:Nat):Prop:=if b then h.IsTupleIter it l k else h.IsListIter it l k
def Sq.push{b:Bool}{h:Heap}{l:AD}{xs:tf}(o:Obj)(x:Sq b h l xs):Sq b (h.push o) l xs:=by
 cases b with
 |true=>obtain⟨u,e,r⟩:=(show h.IsTuple l xs.toArray from x);exact(show(h.push o).IsTuple l xs.toArray from⟨u,Heap.get?_push_of_some _ e,r⟩)
 |false=>obtain⟨u,e,r⟩:=(show h.IsList l xs.toArray from x);exact(show(h.push o).IsList l xs.toArray from⟨u,Heap.get?_push_of_some _ e,r⟩)
section
variable{prog:F0b}{w:F0c}{A:F0d}{E:tj}{s:SD}
def Xp{b:Bool}{l:AD}{xs:tf}{Q:tj}(x:Sq b s.heap l xs)(h:Q (.ref s.heap.objs.size) {s with heap:=s.heap.push (Fl b l)}):wpAny Da A (pyIter (.ref l)) Q E s:=by
 cases b with
 |true=>exact wpAny_pyIter_tuple x h
 |false=>exact wpAny_pyIter_list x h
def NG(I:A.handled=none)(b:Bool)(it l:AD)(xs:tf)(g:l≠it):Draws prog w A it [it,l] xs.length (fun i v=>xs[i]? = some v) (fun i h=>RL b h it l i/\Sq b h l xs):=by
 cases b with
 |true=>exact ET.draws I it l xs g
 |false=>
  have:=Draws.list (prog:=prog) (w:=w) I it l g xs.toArray
  simpa[RL,Sq]using this
def zh(b1 b2:Bool)(h:Heap)(g I:AD):Heap :=
 ((((h.push (Fl b1 g)).push (Fl b2 I)).push { cls:=.type "tuple",data:=.seq #[.ref h.objs.size,.ref (h.push (Fl b1 g)).objs.size]}).push { cls:=.type "tuple",data:=.seq #[.none,.none]}).push
  { cls:=.type "zip",data:=.fields #[.none,.bool false,.bool false,.ref ((h.push (Fl b1 g)).push (Fl b2 I)).objs.size,.ref (((h.push (Fl b1 g)).push (Fl b2 I)).push { cls:=.type "tuple",data:=.seq #[.ref h.objs.size,.ref (h.push (Fl b1 g)).objs.size]}).objs.size]}
def kC(b1 b2:Bool)(I U:AD)(xs ys:tf):Meets (Builtin.«zip.__new__» ⟨[.type "zip",.ref I,.ref U],[]⟩) (fun _ R s=>Sq b1 s.heap I xs/\Sq b2 s.heap U ys /\R (.ok (.ret (.ref ((((s.heap.push (Fl b1 I)).push (Fl b2 U)).push { cls:=.type "tuple",data:=.seq #[.ref s.heap.objs.size,.ref (s.heap.push (Fl b1 I)).objs.size]}).push { cls:=.type "tuple",data:=.seq #[.none,.none]}).objs.size)) ) {s with heap:=zh b1 b2 s.heap I U}) :=
 .of_wp fun prog w A R s h=>by
  obtain⟨M,g,d,tk,os⟩:=s;obtain⟨h1,Z,h⟩:=h;have Y:=sub_zip;have i1:∀(A:F0d) (E:VL->SD->Prop) (Q:VL->SD->Prop),Q (.ref M.objs.size) ⟨M.push (Fl b1 I),g,d,tk,os⟩->wpAny Da A (pyIter (.ref I)) Q E ⟨M,g,d,tk,os⟩:=fun A E Q q=>Xp (s:=⟨M,g,d,tk,os⟩) h1 q;have i2:∀(A:F0d) (E:VL->SD->Prop) (Q:VL->SD->Prop),Q (.ref (M.push (Fl b1 I)).objs.size) ⟨(M.push (Fl b1 I)).push (Fl b2 U),g,d,tk,os⟩->wpAny Da A (pyIter (.ref U)) Q E ⟨M.push (Fl b1 I),g,d,tk,os⟩:=fun A E Q q=>Xp (s:=⟨M.push (Fl b1 I),g,d,tk,os⟩) (Z.push _) q
  wp_walk using i1,i2
  exact⟨_,rfl,h⟩
def hU{b1 b2:Bool}{M I:AD}{xs ys:tf}{Q:tj}(h1:Sq b1 s.heap M xs)(h2:Sq b2 s.heap I ys) (h:∀h',IsZip h' (s.heap.objs.size+4) (s.heap.objs.size+2) (s.heap.objs.size+3) .none->IsPair h' (s.heap.objs.size+2) (.ref s.heap.objs.size) (.ref (s.heap.objs.size+1))->IsPair h' (s.heap.objs.size+3) .none .none ->RL b1 h' s.heap.objs.size M 0->RL b2 h' (s.heap.objs.size+1) I 0->(∀c o,s.heap.get? c=some o->h'.get? c=some o)->Q (.ref (s.heap.objs.size+4)) {s with heap:=h'}):wpAny Da A (call (.type "zip") [.ref M,.ref I]) Q E s:=by
 refine callType_new F.called_zip AS (F.typeCall_zip_2 _ _) (F.newCall_zip_2 _ _) (fun obj=>F.args_object_init_3 obj _ _) F.entry_zip_new (kC b1 b2 M I xs ys) ⟨h1,h2,?_⟩;have Y:(s.heap.push (Fl b1 M)).objs.size=s.heap.objs.size+1:=Heap.size_push ..;have up:∀(g:Heap) (o:Obj) (c:AD) (u:Obj),g.get? c=some u->(g.push o).get? c=some u:=fun g o c u e=>aE _ e;have a0:(s.heap.push (Fl b1 M)).get? s.heap.objs.size=some (Fl b1 M):=aV _ (by cases b1<;>rfl);generalize hg1:s.heap.push (Fl b1 M)=g1 at Y a0;have k1:∀c o,s.heap.get? c=some o->g1.get? c=some o:=fun c o e=>by rw[<-hg1];exact up _ _ _ _ e
 have n2:(g1.push (Fl b2 I)).objs.size=s.heap.objs.size+2:=by rw[(MO),Y]
 have a1:(g1.push (Fl b2 I)).get? (s.heap.objs.size+1)=some (Fl b2 I):=by rw[<-Y];exact aV _ (by cases b2<;>rfl)
 generalize hg2:g1.push (Fl b2 I)=g2 at n2 a1;have k2:∀c o,g1.get? c=some o->g2.get? c=some o:=fun c o e=>by rw[<-hg2];exact up _ _ _ _ e
 have n3:(g2.push { cls:=.type "tuple",data:=.seq #[.ref s.heap.objs.size,.ref (s.heap.objs.size+1)]}).objs.size=s.heap.objs.size+3:=by rw[(MO),n2]
 have a2:IsPair (g2.push { cls:=.type "tuple",data:=.seq #[.ref s.heap.objs.size,.ref (s.heap.objs.size+1)]}) (s.heap.objs.size+2) (.ref s.heap.objs.size) (.ref (s.heap.objs.size+1)):=by rw[<-n2];exact aV _ rfl
 generalize U:g2.push { cls:=.type "tuple",data:=.seq #[.ref s.heap.objs.size,.ref (s.heap.objs.size+1)]}=g3 at n3 a2;have k3:∀c o,g2.get? c=some o->g3.get? c=some o:=fun c o e=>by rw[<-U];exact up _ _ _ _ e
 have n4:(g3.push { cls:=.type "tuple",data:=.seq #[.none,.none]}).objs.size=s.heap.objs.size+4:=by rw[(MO),n3]
 have a3:IsPair (g3.push { cls:=.type "tuple",data:=.seq #[.none,.none]}) (s.heap.objs.size+3) .none .none:=by rw[<-n3];exact aV _ rfl
 generalize R:g3.push { cls:=.type "tuple",data:=.seq #[.none,.none]}=g4 at n4 a3;have k4:∀c o,g3.get? c=some o->g4.get? c=some o:=fun c o e=>by rw[<-R];exact up _ _ _ _ e
 have ez:zh b1 b2 s.heap M I=g4.push { cls:=.type "zip",data:=.fields #[.none,.bool false,.bool false,.ref (s.heap.objs.size+2),.ref (s.heap.objs.size+3)]}:=by
  unfold zh;rw[hg1,hg2,Y,U,R,n2,n3]
 have a4:IsZip (g4.push { cls:=.type "zip",data:=.fields #[.none,.bool false,.bool false,.ref (s.heap.objs.size+2),.ref (s.heap.objs.size+3)]}) (s.heap.objs.size+4) (s.heap.objs.size+2) (s.heap.objs.size+3) .none:=by rw[<-n4];exact aV _ rfl
 rw[Y,U,R,n4,ez];show _/\_;have Z:∀c o,g4.get? c=some o->(g4.push { cls:=.type "zip",data:=.fields #[.none,.bool false,.bool false,.ref (s.heap.objs.size+2),.ref (s.heap.objs.size+3)]}).get? c=some o:=fun c o e=>up _ _ _ _ e;refine⟨⟨_,a4,rfl⟩,h _ a4 (Z _ _ (k4 _ _ a2)) (Z _ _ a3) ?_ ?_ fun c o e=>Z _ _ (k4 _ _ (k3 _ _ (k2 _ _ (k1 _ _ e))))⟩
 .have:=Z _ _ (k4 _ _ (k3 _ _ (k2 _ _ a0)));cases b1 with
  |true=>exact⟨_,this,rfl,rfl⟩
  |false=>exact⟨_,this,rfl,rfl⟩
 .have:=Z _ _ (k4 _ _ (k3 _ _ a1));cases b2 with
  |true=>exact⟨_,this,rfl,rfl⟩
  |false=>exact⟨_,this,rfl,rfl⟩
end
end ZT
namespace L2
open PySem PySem.Spec PyProof.Rows
def Gq(b:Bool)(H:Hp)(a:AD)(xs:uD):Prop:=if b then H a=some (.tup xs) else H a=some (.lst xs)
def Gq.inj{b:Bool}{H:Hp}{a:AD}{xs ys:uD}(h:Gq b H a xs)(k:Gq b H a ys):xs=ys:=by
 cases b with
 |true=>have h:H a=some (.tup xs):=h;have k:H a=some (.tup ys):=k;rw[h]at k;cases k;rfl
 |false=>have h:H a=some (.lst xs):=h;have k:H a=some Id:=k;rw[h]at k;cases k;rfl
theorem Gq.none{b:Bool}{H:Hp}{a c:AD}{xs:uD}(h:Gq b H a xs)(k:H c=none):a≠c:=fun z=>by
 subst z;cases b with
 |true=>have h:H a=some (.tup xs):=h;rw[k]at h;cases h
 |false=>have h:H a=some (.lst xs):=h;rw[k]at h;cases h
def Gq.raw{X:Cx}{pins:Db}{σ:St}{H:Hp}{s:SD}(I:Cl){b:Bool}{a:AD}{xs:uD}(h:Gq b H a xs):∃g,Vals xs g/\ZT.Sq b s.heap a g:=by
 cases b with
 |true=>
  obtain⟨g,M,p,_⟩:=I.tuple (Al.of (K:=X.K) (show H a=some (.tup xs) from h));exact⟨g,M,p⟩
 |false=>
  obtain⟨g,M,p,_⟩:=I.list (AU.of (K:=X.K) (show H a=some (.lst xs) from h));exact⟨g,M,p.isList⟩
def oj(b1 b2:Bool)(a1 a2:AD):It :=
 ⟨fun i H=>∃xs x ys y,Gq b1 H a1 xs/\Gq b2 H a2 ys/\xs[i]? = some x/\ys[i]? = some y,
  fun i H v H'=>∃p x y,v=.ref p/\H p=none/\H'=upd H p (.tup [x,y])/\(∀xs,Gq b1 H a1 xs->xs[i]? = some x)/\∀ys,Gq b2 H a2 ys->ys[i]? = some y,
  fun i H=>∃xs ys,Gq b1 H a1 xs/\Gq b2 H a2 ys/\(i=xs.length\/(i<xs.length/\i=ys.length))⟩
def sg(b1 b2:Bool)(a1 a2 z TI TO i1 i2:AD):Nat->Heap->Prop:=fun i h=>IsZip h z TI TO .none/\IsPair h TI (.ref i1) (.ref i2)/\(∃a b,IsPair h TO a b)/\ZT.RL b1 h i1 a1 i/\ZT.RL b2 h i2 a2 i
def PX{b:Bool}{h:Heap}{it l:AD}{k:Nat}(x:ZT.RL b h it l k):∃o,h.get? it=some o/\∀v,o.data≠.cell v:=by
 cases b with
 |true=>obtain⟨o,e,_,d⟩:=(show h.IsTupleIter it l k from x);exact⟨o,e,fun v z=>by rw[d]at z;cases z⟩
 |false=>obtain⟨o,e,_,d⟩:=(show h.IsListIter it l k from x);exact⟨o,e,fun v z=>by rw[d]at z;cases z⟩
def NL{b:Bool}{h h':Heap}{it l:AD}{k:Nat}(x:ZT.RL b h it l k)(e:∀o,h.get? it=some o->h'.get? it=some o):ZT.RL b h' it l k:=by
 cases b with
 |true=>obtain⟨o,q,r⟩:=(show h.IsTupleIter it l k from x);exact(show h'.IsTupleIter it l k from⟨o,e _ q,r⟩)
 |false=>obtain⟨o,q,r⟩:=(show h.IsListIter it l k from x);exact(show h'.IsListIter it l k from⟨o,e _ q,r⟩)
def fW{P:F0b}{w:F0c}{K:Fg}{elts:t8}{x1}{pos:Pos}{b1 b2:Bool}{a1 a2 z TI TO i1 i2:AD}(ne:[z,TI,TO,i1,i2].Nodup) :
  Turn P w K (.Tuple elts x1 pos) (oj b1 b2 a1 a2) [z,TI,TO,i1,i2] z (sg b1 b2 a1 a2 z TI TO i1 i2) where
 mem:=by simp
 obj:=fun i h st b hb=>by
  obtain⟨h1,h2,⟨u,v,h3⟩,h4,h5⟩:=st;have hb:b=z\/b=TI\/b=TO\/b=i1\/b=i2:=by simpa using hb
  rcases hb with rfl|rfl|rfl|rfl|rfl
  .exact⟨_,h1,fun v y=>by cases y⟩
  .exact⟨_,h2,fun v y=>by cases y⟩
  .exact⟨_,h3,fun v y=>by cases y⟩
  .exact PX h4
  .exact PX h5
 keep:=fun i h h' st k=>by
  obtain⟨h1,h2,⟨u,v,h3⟩,h4,h5⟩:=st;exact⟨k z Do _ h1,k TI Do _ h2,⟨u,v,k TO Do _ h3⟩,NL h4 fun o e=>k i1 Do o e,NL h5 fun o e=>k i2 Do o e⟩
 item:=by
  intro X hP hw hK hc i pins s σ H E I hf st hg;subst hP hw hK;obtain⟨xs,x,ys,y,q1,q2,hx,hy⟩:=hg;obtain⟨us,rv1,p1⟩:=q1.raw I;obtain⟨vs,rv2,p2⟩:=q2.raw I;obtain⟨u,hu,ru⟩:=rv1.get hx;obtain⟨v,hv,rv⟩:=rv2.get hy;obtain⟨t1,t2,⟨ta,tb,t3⟩,t4,t5⟩:=st;have e1:∀b∈[z,TI,TO,i1,i2],a1≠b:=fun b hb=>q1.none (hf b hb).1;have e2:∀b∈[z,TI,TO,i1,i2],a2≠b:=fun b hb=>q2.none (hf b hb).1;simp only[List.nodup_cons,List.mem_cons,List.not_mem_nil,or_false,not_or]at ne;obtain⟨⟨n1,n2,n3,n4⟩,⟨n5,n6,n7⟩,⟨n8,n9⟩,n10,_⟩:=ne;have ap:ZT.Apart z TI TO i1 i2 [i1,a1] [i2,a2]:=⟨⟨Ne.symm n1,n5,n6,n7⟩,⟨Ne.symm n2,n8,n9⟩,⟨Ne.symm n3,Ne.symm n4,n10⟩,
   ⟨by simp[n3,Ne.symm (e1 z Do)],by simp[n8,Ne.symm (e1 TO Do)],by simp[Ne.symm n10,Ne.symm (e1 i2 Do)]⟩,⟨by simp[n4,Ne.symm (e2 z Do)],by simp[n9,Ne.symm (e2 TO Do)],by simp[n10,Ne.symm (e2 i1 Do)]⟩⟩
  refine ZT.next_item (ZT.NG (prog:=X.prog) (w:=X.w) (A:=X.A.in1) (I.ok.hd hc) b1 i1 a1 us (e1 i1 Do)) (ZT.NG (prog:=X.prog) (w:=X.w) (A:=X.A.in1) (I.ok.hd hc) b2 i2 a2 vs (e2 i2 Do)) ap t1 t2 t3 ⟨t4,p1⟩ ⟨t5,p2⟩ (aB.mp hu).1 (aB.mp hv).1
   fun u' v' h' tk r1 r2 r3 r4 r5 r6 r7 r8 r9=>⟨_,rfl,wpAny_letOwnedTupleGo_zip (s:={s with heap:=h',toks:=tk}) r3 fun h'' z'' sb=>?_⟩
  rw[hu]at r1;rw[hv]at r2;cases r1;cases r2;have keep:∀b o,b ∉ [z,TI,TO,i1,i2]->s.heap.get? b=some o->h''.get? b=some o:=fun b o hb q=>by
   simp only[List.mem_cons,List.not_mem_nil,or_false,not_or]at hb;exact(sb.2 b hb.1).trans (r9 b o hb.1 hb.2.2.1 hb.2.2.2.1 hb.2.2.2.2 q)
  have lt:∀b∈[z,TI,TO,i1,i2],b<s.heap.objs.size:=fun b hb=>by
   have hb:b=z\/b=TI\/b=TO\/b=i1\/b=i2:=by simpa using hb
   rcases hb with rfl|rfl|rfl|rfl|rfl
   .exact aD t1
   .exact aD t2
   .exact aD t3
   .obtain⟨o,e,_⟩:=PX t4;exact aD e
   .obtain⟨o,e,_⟩:=PX t5;exact aD e
  have hTn:H s.heap.objs.size=none:=I.Am.fresh (aH _);have hT'':h''.get? s.heap.objs.size=some { cls:=.type "tuple",data:=.seq #[u,v]}:=(sb.2 _ (bF (lt z Do))).trans r7;refine⟨.ref s.heap.objs.size,upd H s.heap.objs.size (.tup [x,y]),?_,rfl,⟨_,x,y,rfl,hTn,rfl,fun zs hz=>by rw[hz.inj q1];exact hx,fun zs hz=>by rw[hz.inj q2];exact hy⟩,⟨z'',?_,⟨u,v,?_⟩,?_,?_⟩,fun b hb=>?_⟩
  .exact I.cW hf keep di (.cons ru (.cons rv .nil)) hT''
  .exact(sb.2 _ (Ne.symm n1)).trans (r9 _ _ (Ne.symm n1) n5 n6 n7 t2)
  .exact(sb.2 _ (Ne.symm n2)).trans r4
  .exact NL r5.1 fun o e=>(sb.2 _ (Ne.symm n3)).trans e
  .exact NL r6.1 fun o e=>(sb.2 _ (Ne.symm n4)).trans e
  .rw[AN (aP (lt b hb))];exact(hf b hb).1
 done:=by
  intro X hP hw hK hc i pins s σ H E I hf st hg;subst hP hw hK;obtain⟨xs,ys,q1,q2,he⟩:=hg;obtain⟨us,rv1,p1⟩:=q1.raw I;obtain⟨vs,rv2,p2⟩:=q2.raw I;obtain⟨t1,t2,⟨ta,tb,t3⟩,t4,t5⟩:=st;have e1:∀b∈[z,TI,TO,i1,i2],a1≠b:=fun b hb=>q1.none (hf b hb).1;have e2:∀b∈[z,TI,TO,i1,i2],a2≠b:=fun b hb=>q2.none (hf b hb).1;simp only[List.nodup_cons,List.mem_cons,List.not_mem_nil,or_false,not_or]at ne;obtain⟨⟨n1,n2,n3,n4⟩,⟨n5,n6,n7⟩,⟨n8,n9⟩,n10,_⟩:=ne;have ap:ZT.Apart z TI TO i1 i2 [i1,a1] [i2,a2]:=⟨⟨Ne.symm n1,n5,n6,n7⟩,⟨Ne.symm n2,n8,n9⟩,⟨Ne.symm n3,Ne.symm n4,n10⟩,
   ⟨by simp[n3,Ne.symm (e1 z Do)],by simp[n8,Ne.symm (e1 TO Do)],by simp[Ne.symm n10,Ne.symm (e1 i2 Do)]⟩,⟨by simp[n4,Ne.symm (e2 z Do)],by simp[n9,Ne.symm (e2 TO Do)],by simp[n10,Ne.symm (e2 i1 Do)]⟩⟩
  have he':i=us.length\/(i<us.length/\i=vs.length):=by rw[<-rv1.length,<-rv2.length];exact he
  refine ZT.next_end (ZT.NG (prog:=X.prog) (w:=X.w) (A:=X.A.in1) (I.ok.hd hc) b1 i1 a1 us (e1 i1 Do)) (ZT.NG (prog:=X.prog) (w:=X.w) (A:=X.A.in1) (I.ok.hd hc) b2 i2 a2 vs (e2 i2 Do)) ap t1 t2 t3 ⟨t4,p1⟩ ⟨t5,p2⟩ he' fun h' tk kp=>⟨rfl,?_⟩;have keep:∀b o,b ∉ [z,TI,TO,i1,i2]->s.heap.get? b=some o->h'.get? b=some o:=fun b o hb q=>by
   simp only[List.mem_cons,List.not_mem_nil,or_false,not_or]at hb;exact kp b o hb.1 hb.2.2.1 hb.2.2.2.1 hb.2.2.2.2 q
  exact I.turn hf keep
 self:=fun _ _ _ _ _ st h=>wpAny_pyIter_zip st.1 h
def sY(ta:TA):TI:=fun σ H R=>ta σ H fun vs H1=>∃(b1 b2:Bool) (a1 a2:AD),vs=[.ref a1,.ref a2]/\(∃xs,Gq b1 H1 a1 xs)/\(∃ys,Gq b2 H1 a2 ys)/\R (oj b1 b2 a1 a2) H1
def Nz{X:Cx}{elts:t8}{x1}{g:Pos}{a b:Expr}{ta:TA}{p pos:Pos}(hg:Gl X "zip")(hm:X.mg "zip" = none)(ha:PA X [a,b] ta)(hs:starEach [a,b] X.env=[(false,eval a X.env),(false,eval b X.env)]:=by rfl)(M:starEach [b] X.env=[(false,eval b X.env)]:=by rfl):PI X (.Tuple elts x1 g) (.Call (.Name "zip" p) [a,b] [] pos) (sY ta):=by
 intro pins s σ H R I h;refine Call_ (HN I hg hm boot_zip (bZ (BA (ha pos pins s σ H _ I h) fun us s1 ⟨vs,H1,Y,r1,q1⟩=>?_) (by rw[hs,M]) (by rw[M];rfl)));obtain⟨b1,b2,l1,l2,e,⟨xs,h1⟩,⟨ys,h2⟩,q⟩:=q1;subst e;cases r1 with
 |cons r Z=>
  cases Z with
  |cons r' Z=>
   cases Z;cases r;cases r';obtain⟨us,_,p1⟩:=h1.raw Y;obtain⟨vs,_,p2⟩:=h2.raw Y;refine ZT.hU p1 p2 fun h' z1 z2 z3 z4 z5 hk=>wpAny_pyIter_zip z1 ?_;have I2:Inv X pins σ H1 {s1 with heap:=h'}:=Y.kept (t':=s1.toks) hk;refine⟨_,[s1.heap.objs.size+4,s1.heap.objs.size+2,s1.heap.objs.size+3,s1.heap.objs.size,s1.heap.objs.size+1],_,_,H1,rfl,I2,fW ?_,⟨z1,z2,⟨_,_,z3⟩,z4,z5⟩,fun b hb=>?_,q⟩
   .simp
   have U:s1.heap.objs.size<=b:=by
    have hb2:b=s1.heap.objs.size+4\/b=s1.heap.objs.size+2\/b=s1.heap.objs.size+3\/b=s1.heap.objs.size\/b=s1.heap.objs.size+1:=by simpa using hb
    rcases hb2 with h|h|h|h|h<;>rw[h]<;>first|exact aH _|exact Nat.le_add_right _ _
   exact Y.W6 U (Y.Am.fresh U)
def dM(K:Fg)(a:AD):It :=
 ⟨fun i H=>∃xs x,AU K H a xs/\xs[i]? = some x,fun i H v H'=>∃p x,v=.ref p/\H p=none/\H'=upd H p (.tup [.int i,x])/\∀xs,AU K H a xs->xs[i]? = some x,fun i H=>∃xs,AU K H a xs/\xs.length=i⟩
def Ye{P:F0b}{w:F0c}{K:Fg}{elts:t8}{x1}{pos:Pos}(a e it:AD)(hne:e≠it) :
  Turn P w K (.Tuple elts x1 pos) (dM K a) [e,it] e (fun i h=>(∃old,IsEnum h e it (i:Nat) old)/\h.IsListIter it a i) where
 mem:=by simp
 obj:=fun i h st b hb=>by
  rcases aU.mp hb with rfl|hb
  .obtain⟨⟨old,q⟩,_⟩:=st;exact⟨_,q,fun v z=>by cases z⟩
  .have e2:b=it:=by simpa using hb
   subst e2;obtain⟨_,o,q,c,d⟩:=st;exact⟨o,q,fun v z=>by rw[d]at z;cases z⟩
 keep:=fun i h h' st k=>by
  obtain⟨⟨old,q⟩,o,q2,r⟩:=st;exact⟨⟨old,k e Do _ q⟩,o,k it Do _ q2,r⟩
 item:=by
  intro X hP hw hK hc i pins s σ H E I hf st hg;subst hP hw hK;obtain⟨xs,x,hq,hx⟩:=hg;obtain⟨its,rv,pL,hz⟩:=I.list hq;have p:=pL.isList;obtain⟨u,hu,ru⟩:=rv.get hx;obtain⟨⟨old,he⟩,hit⟩:=st;have hai:a≠it:=fun z=>by
   obtain⟨o,e1,c1,_⟩:=p;obtain⟨o2,e2,c2,_⟩:=hit;rw[z,e2]at e1;cases e1;rw[c1]at c2;exact absurd c2 AS
  have hae:a≠e:=fun z=>by
   obtain⟨o,e1,c1,_⟩:=p;rw[z,he]at e1;cases e1;exact absurd (show Value.type "enumerate" = Value.type "list" from c1) AS
  have hlt:i<its.length:=(aB.mp hu).1;have hE0:=hf e Do;have hI0:=hf it Do;refine wpAny_pyNext_enum_itemD (Draws.list (prog:=X.prog) (w:=X.w) (A:=X.A.in1) (I.ok.hd hc) it a hai its.toArray) he ⟨hit,p⟩ (by simpa using hlt) hne (by simp[hne,Ne.symm hae]) fun y h' tk hy ho hs' hT hsz hk=>⟨_,rfl,wpAny_letOwnedTupleGo_enum (s:={s with heap:=h',toks:=tk+1}) ho fun h'' he'' sb=>?_⟩;have hyu:y=u:=by
   have hy:its[i]? = some y:=by simpa using hy
   rw[hu]at hy;exact(ao hy).symm
  subst hyu;have keep:∀b o,b≠e->b≠it->s.heap.get? b=some o->h''.get? b=some o:=fun b o h1 h2 q=>(sb.2 b h1).trans (hk b o h1 h2 q);have hTe:s.heap.objs.size≠e:=bF (aD he);have hTi:s.heap.objs.size≠it:=let⟨_,q,_⟩:=hit;bF (aD q);have hT'':h''.get? s.heap.objs.size=some { cls:=.type "tuple",data:=.seq #[.int i tk,y]}:=(sb.2 _ hTe).trans hT;have hTn:H s.heap.objs.size=none:=I.Am.fresh (aH _);refine⟨.ref s.heap.objs.size,upd H s.heap.objs.size (.tup [.int i,x]),?_,rfl,⟨_,x,rfl,hTn,rfl,fun ys hy=>by rw[I.VQ hy hq];exact hx⟩,⟨⟨_,by simpa using he''⟩,?_⟩,fun b hb=>?_⟩
  .exact I.cW (ch:=[e,it]) hf (fun b o hb q=>keep b o (fun z=>hb (by simp[z])) (fun z=>hb (by simp[z])) q) di (.cons ⟨tk,rfl⟩ (.cons ru .nil)) hT''
  .obtain⟨⟨o,q,r⟩,_⟩:=hs';exact⟨o,(sb.2 it (Ne.symm hne)).trans q,r⟩
  .rcases aU.mp hb with rfl|hb
   .rw[AN (Ne.symm hTe)];exact hE0.1
   .have e2:b=it:=by simpa using hb
    subst e2;rw[AN (Ne.symm hTi)];exact hI0.1
 done:=by
  intro X hP hw hK hc i pins s σ H E I hf st hg;subst hP hw hK;obtain⟨xs,hq,hx⟩:=hg;obtain⟨its,rv,pL,hz⟩:=I.list hq;have p:=pL.isList;obtain⟨⟨old,he⟩,hit⟩:=st;have hai:a≠it:=fun z=>by
   obtain⟨o,e1,c1,_⟩:=p;obtain⟨o2,e2,c2,_⟩:=hit;rw[z,e2]at e1;cases e1;rw[c1]at c2;exact absurd c2 AS
  have hl:its.length=i:=by rw[<-rv.length];exact hx
  subst hl;obtain⟨f0,f1,f2,f3,f4,f5⟩:=hf it Do;exact wpAny_pyNext_enum_endD (Draws.list (prog:=X.prog) (w:=X.w) (A:=X.A.in1) (I.ok.hd hc) it a hai its.toArray) he ⟨hit,p⟩ fun h' eb=>⟨rfl,I.turned (t':=s.toks) (fun b o hb q=>eb b o hb q) f0 f1 f3 f4 f5⟩
 self:=fun _ _ _ _ _ st h=>by
  obtain⟨⟨old,he⟩,_⟩:=st;exact wpAny_pyIter_enum he h
def mP(K:Fg)(ta:TA):TI:=fun σ H R=>ta σ H fun vs H1=>∃a,vs=[.ref a]/\(∃xs,AU K H1 a xs)/\R (dM K a) H1
def Qd{X:Cx}{elts:t8}{x1}{g:Pos}{a:Expr}{ta:TA}{p pos:Pos}(hg:Gl X "enumerate")(hm:X.mg "enumerate" = none)(ha:PA X [a] ta)(hs:starEach [a] X.env=[(false,eval a X.env)]:=by rfl):PI X (.Tuple elts x1 g) (.Call (.Name "enumerate" p) [a] [] pos) (mP X.K ta):=by
 intro pins s σ H R I h;refine Call_ (HN I hg hm boot_enumerate (bZ (BA (ha pos pins s σ H _ I h) fun us s1 ⟨vs,H1,U,r1,q1⟩=>?_) hs rfl));obtain⟨t,e,⟨xs,hq⟩,q⟩:=q1;subst e;cases r1 with
 |cons r rr=>
  cases rr;cases r;obtain⟨Y,rv,p',hz⟩:=U.list hq;refine call_enumerate_list (show s1.heap.IsList t Y.toArray from p'.isList) fun h' he hit hsz hk=>wpAny_pyIter_enum he ?_;have I2:Inv X pins σ H1 {s1 with heap:=h'}:=U.kept (t':=s1.toks) hk;have hn:s1.heap.objs.size+1≠s1.heap.objs.size:=by lia
  refine⟨s1.heap.objs.size+1,[s1.heap.objs.size+1,s1.heap.objs.size],_,_,H1,rfl,I2,Ye t _ _ hn,⟨⟨_,he⟩,hit⟩,fun b hb=>?_,q⟩;have M:s1.heap.objs.size<=b:=by
   have Z:b=s1.heap.objs.size+1\/b=s1.heap.objs.size:=by simpa using hb
   rcases Z with z|z
   .rw[z];exact Nat.le_succ _
   .rw[z];exact aH _
  exact U.W6 M (U.Am.fresh M)
def T6{K:Fg}{a:AD}{xs:uD}{g:TG}{tb:TS}{D:Ends}{σ:St}{H:Hp}(Pv:Nat->St->Hp->Prop)(h0:Pv 0 σ H)(hl:∀i σ H,i<=xs.length->Pv i σ H->AU K H a xs) (hs:∀i x σ H,xs[i]? = some x->Pv i σ H->∀p,H p=none->g (.ref p) σ (upd H p (.tup [.int (i:Nat),x])) fun I U=>tb {D with nx:=Pv (i+1),ct:=Pv (i+1),bk:=D.nx} I U)(hd:∀σ H,Pv xs.length σ H->D.nx σ H):∃W:Nat->Nat->St->Hp->Prop,(∃m,W 0 m σ H)/\∀i m σ H,W i m σ H ->((dM K a).stop i H/\D.nx σ H)\/((dM K a).go i H/\∃N:St->Hp->Prop,(∀M H',N M H'->∃Y,Y<m/\W (i+1) Y M H')/\∀x H',(dM K a).F6 i H x H'->g x σ H' fun I U=>tb {D with nx:=N,ct:=N,bk:=D.nx} I U):=by
 refine⟨fun i m σ H=>m=xs.length-i/\i<=xs.length/\Pv i σ H,⟨xs.length,by simp,Nat.zero_le _,h0⟩,?_⟩;rintro i m σ H ⟨rfl,hi,p⟩;have q:=hl i σ H hi p;by_cases R:i<xs.length
 .refine .inr ⟨⟨xs,xs[i],q,by simp[R]⟩,Pv (i+1),fun M H' p'=>⟨xs.length-(i+1),by lia,rfl,R,p'⟩,fun x H' y=>?_⟩;obtain⟨pp,Z,rfl,hn,rfl,y⟩:=y;exact hs i Z σ _ (y xs q) p pp hn
 .have e:i=xs.length:=by lia
  subst e;exact .inl ⟨⟨xs,q,rfl⟩,hd σ H p⟩
section
variable{κ:Type}[DecidableEq κ]
def Ci(kvs:List (κ×V))(k:κ):Option V:=(kvs.find? fun kv=>decide (kv.1=k)).map (·.2)
def putK(kvs:List (κ×V))(k:κ)(v:V):List (κ×V) :=
 if(kvs.any fun kv=>decide (kv.1=k))=true then kvs.map (fun kv=>if kv.1=k then(kv.1,v) else kv) else kvs++[(k,v)]
def Hm{p:κ×V}{r:List (κ×V)}{k:κ}(e:p.1=k):Ci (p::r) k=some p.2:=by simp[Ci,List.find?_cons,e]
def Hw{p:κ×V}{r:List (κ×V)}{k:κ}(e:¬p.1=k):Ci (p::r) k=Ci r k:=by simp[Ci,List.find?_cons,e]
theorem JO(k:κ):∀kvs:List (κ×V),(kvs.any fun kv=>decide (kv.1=k))=(Ci kvs k).isSome
 |[]=>rfl
 |p::r=>by
  rw[List.any_cons];by_cases e:p.1=k
  .simp only[Hm e,decide_eq_true e,Bool.true_or,Option.isSome_some]
  .rw[Hw e,decide_eq_false e,Bool.false_or];exact JO k r
theorem J8(k j:κ)(y:V):∀kvs:List (κ×V),Ci kvs k=none->Ci (kvs++[(k,y)]) j=if j=k then some y else Ci kvs j
 |[],_=>by
  by_cases e:k=j
  .rw[if_pos e.symm];exact Hm (p:=(k,y)) e
  .rw[if_neg (fun z=>e z.symm)];exact Hw (p:=(k,y)) e
 |p::r,hn=>by
  rw[List.cons_append];have hk:¬p.1=k:=fun z=>by rw[Hm z]at hn;cases hn
  rw[Hw hk]at hn;have g:=J8 k j y r hn;by_cases e:p.1=j
  .rw[Hm e,Hm e,if_neg (fun z=>hk (e.trans z))]
  .rw[Hw e,Hw e,g]
def MI(kvs:List (κ×V))(k:κ)(v:V):(putK kvs k v).length<=kvs.length+1:=by
 unfold putK;split
 .rw[(Ah)];lia
 .rw[(Ge),(Im),List.length_nil];lia
def NY{kvs:List (κ×V)}{k:κ}(v:V)(h:Ci kvs k=none):putK kvs k v=kvs++[(k,v)]:=by
 unfold putK;rw[JO,h];exact if_neg AS
def Ld.N0{o:Option V}{u:Option VL}(r:Ld o u):o.isSome=u.isSome:=by
 cases o with
 |none=>cases u with
  |none=>rfl
  |some _=>exact(show False from r).elim
 |some _=>cases u with
  |none=>exact(show False from r).elim
  |some _=>rfl
def KV.val{kvs:List (κ×V)}{vs:List (κ×VL)}(r:KV kvs vs)(k:κ):Ld (Ci kvs k) (valueAt vs k):=by
 unfold KV at r
 induction r with
 |nil=>exact True.intro
 | @cons p q ps g h t R=>
  obtain⟨M,U⟩:=h;by_cases e:p.1=k
  .have I:q.1=k:=M.symm.trans e;have b:valueAt (q::g) k=some q.2:=by simp[valueAt,List.find?_cons,I]
   rw[Hm e,b];exact U
  .have I:¬q.1=k:=fun z=>e (M.trans z);have b:valueAt (q::g) k=valueAt g k:=by simp[valueAt,List.find?_cons,I]
   rw[Hw e,b];exact R
def KV.any{kvs:List (κ×V)}{vs:List (κ×VL)}(r:KV kvs vs)(k:κ):(kvs.any fun kv=>decide (kv.1=k))=vs.any fun kv=>decide (kv.1=k):=by
 unfold KV at r
 induction r with
 |nil=>rfl
 |cons h t g=>rw[List.any_cons,List.any_cons,g,h.1]
def KV.fZ{kvs:List (κ×V)}{vs:List (κ×VL)}(r:KV kvs vs)(k:κ){y:V}{u:VL}(I:RelV y u):KV (kvs.map fun kv=>if kv.1=k then(kv.1,y) else kv) (vs.map fun kv=>if kv.1=k then(kv.1,u) else kv):=by
 unfold KV at r ⊢
 induction r with
 |nil=>exact .nil
 | @cons p q ps U h t M=>
  rw[(C0),(C0)];refine .cons ?_ M;obtain⟨g,R⟩:=h;by_cases e:p.1=k
  .rw[if_pos e,if_pos (g.symm.trans e)];exact⟨g,I⟩
  .rw[if_neg e,if_neg (fun z=>e (g.trans z))];exact⟨g,R⟩
def KV.put{kvs:List (κ×V)}{vs:List (κ×VL)}(r:KV kvs vs)(k:κ){y:V}{u:VL}(g:RelV y u):KV (putK kvs k y) (stored vs k u):=by
 unfold putK stored;rw[r.any k];by_cases e:(vs.any fun kv=>decide (kv.1=k))=true
 .rw[if_pos e,if_pos e];exact r.fZ k g
 .rw[if_neg e,if_neg e];exact Paired.snoc r ⟨rfl,g⟩
def KV.length{kvs:List (κ×V)}{vs:List (κ×VL)}(r:KV kvs vs):kvs.length=vs.length:=Paired.length r
end
def U9{P:F0b}{w:F0c}{k:Key}{u:VL}(r:RelV (kV k) u):(EY P w).is k u=true:=by
 cases k with
 |inl i=>obtain⟨t,e⟩:=(show ∃t,u=Value.int i t from r);subst e;exact Xd P w i t
 |inr x=>obtain⟨t,e⟩:=(show ∃t,u=Value.str x t from r);subst e;exact XX P w x t
theorem UI{P:F0b}{w:F0c}:∀ {ks:List Key} {us:List VL},Vals (ks.map kV) us->ItemsAre (EY P w) ks us
 |[],_,r=>by rw[List.map_nil]at r;cases r;exact .nil
 |k::ks,_,r=>by
  rw[(C0)]at r;cases r with
  |cons h t=>exact .cons (U9 h) (UI t)
abbrev KT(H:Hp):List (List Key×V)->List (List Key×AD×VL)->Prop:=Paired fun p q=>p.1=q.1/\H q.2.1=some (.tup (p.1.map kV))/\RelV p.2 q.2.2
def KT.val{H:Hp}{kvs:IF}{xs:List (List Key×AD×VL)}(r:KT H kvs xs)(k:List Key):Ld (Ci kvs k) ((atKey xs k).map (·.2)):=by
 induction r with
 |nil=>exact True.intro
 | @cons p q ps g h t R=>
  obtain⟨M,_,U⟩:=h;by_cases e:p.1=k
  .have I:q.1=k:=M.symm.trans e;have b:atKey (q::g) k=some q.2:=by simp[atKey,List.find?_cons,I]
   rw[Hm e,b];exact U
  .have I:¬q.1=k:=fun z=>e (M.trans z);have b:atKey (q::g) k=atKey g k:=by simp[atKey,List.find?_cons,I]
   rw[Hw e,b];exact R
def KT.fZ{H:Hp}{kvs:IF}{xs:List (List Key×AD×VL)}(r:KT H kvs xs)(k:List Key){y:V}{u:VL}(M:RelV y u):KT H (kvs.map fun kv=>if kv.1=k then(kv.1,y) else kv) (xs.map (putAt k u)):=by
 induction r with
 |nil=>exact .nil
 | @cons p q ps Y h t R=>
  rw[(C0),(C0)];refine .cons ?_ R;obtain⟨g,I,U⟩:=h;unfold putAt;by_cases e:p.1=k
  .rw[if_pos e,if_pos (g.symm.trans e)];exact⟨g,I,M⟩
  .rw[if_neg e,if_neg (fun z=>e (g.trans z))];exact⟨g,I,U⟩
def KT.put{H:Hp}{kvs:IF}{xs:List (List Key×AD×VL)}(r:KT H kvs xs)(k:List Key){b:AD}{y:V}{u:VL}(hb:H b=some (.tup (k.map kV)))(g:RelV y u):KT H (putK kvs k y) (storedH xs k b u):=by
 have e:(kvs.any fun kv=>decide (kv.1=k))=(atKey xs k).isSome:=by
  rw[JO,(r.val k).N0,Option.isSome_map]
 unfold putK storedH;rw[e];by_cases q:(atKey xs k).isSome=true
 .rw[if_pos q,if_pos q];exact r.fZ k g
 .rw[if_neg q,if_neg q];exact Paired.snoc r ⟨rfl,hb,g⟩
def KT.keeps{H H':Hp}{kvs:IF}{xs:List (List Key×AD×VL)}(r:KT H kvs xs)(g:∀b ys,H b=some (.tup ys)->H' b=some (.tup ys)):KT H' kvs xs :=
 Paired.fU r fun _ _ z=>⟨z.1,g _ _ z.2.1,z.2.2⟩
section
variable{P:F0b}{w:F0c}{H:Hp}{h:Heap}{a:AD}
def iq{u:HO}(ok:Dd P w H h)(e:Rd H a u):CJ P w H h a u:=e.ok ok
def VD{kvs:List (Key×V)}(ok:Dd P w H h)(e:Rd H a (.dK kvs)):kvs.length<=sizeLine/\(a==sysModules)=false/\∃vs,KV kvs vs/\h.DictOf (EY P w) a vs :=
 show CJ P w H h a (.dK kvs) from iq ok e
def qC{kvs:List (Key×V)}(ok:Dd P w H h)(e:H a=some (.dK kvs)):kvs.length<=sizeLine/\(a==sysModules)=false/\∃vs,KV kvs vs/\h.DictOf (EY P w) a vs:=VD ok (.inl e)
def Rf{ks:List Key}(ok:Dd P w H h)(e:H a=some (.tup (ks.map kV))):(tupleKind (EY P w)).is h ks a:=by
 obtain⟨_,g,r,o,R,M,n,I⟩:=(show CJ P w H h a (.tup (ks.map kV)) from ok a _ e);exact⟨o,g.toArray,n,R,M,I,by simpa using UI r⟩
def VA{kvs:IF}(ok:Dd P w H h)(e:Rd H a (.dT kvs)):kvs.length<=sizeLine/\(a==sysModules)=false /\∃xs,KT H kvs xs/\h.DictOfH (tupleKind (EY P w)) a xs:=by
 obtain⟨z,y,xs,r,o,es,ep,h1,Z,Y,U,R⟩:=(show CJ P w H h a (.dT kvs) from iq ok e);refine⟨z,y,xs,r,o,es,ep,h1,Z,Y,U,fun x g=>?_,R⟩;have all:∀ {l:IF} {m:List (List Key×AD×VL)},KT H l m->∀x∈m,(tupleKind (EY P w)).is h x.1 x.2.1:=by
  intro l m q
  induction q with
  |nil=>intro x g;exact nomatch g
  | @cons p q ps qs I t M=>
   intro x g;rcases aU.mp g with e|g
   .subst e;exact Rf ok (by rw[<-I.1];exact I.2.1)
   .exact M x g
 exact all r x g
def Yl{kvs:IF}(ok:Dd P w H h)(e:H a=some (.dT kvs)):kvs.length<=sizeLine/\(a==sysModules)=false /\∃xs,KT H kvs xs/\h.DictOfH (tupleKind (EY P w)) a xs:=VA ok (.inl e)
end
def HI(H:Hp)(a:AD)(y:V)(r:Option V):Prop :=
 (∃kvs k,Rd H a (.dK kvs)/\y=kV k/\r=Ci kvs k)\/∃kvs k b,Rd H a (.dT kvs)/\y=.ref b/\H b=some (.tup (k.map kV))/\r=Ci kvs k
def OY(H:Hp)(a:AD)(y v:V)(H':Hp):Prop :=
 (∃kvs k,H a=some (.dK kvs)/\y=kV k/\kvs.length<sizeLine/\H'=upd H a (.dK (putK kvs k v))) \/
 ∃kvs k b,H a=some (.dT kvs)/\y=.ref b/\H b=some (.tup (k.map kV))/\kvs.length<sizeLine/\H'=upd H a (.dT (putK kvs k v))
def HI.t{H:Hp}{a b:AD}{kvs:IF}{k:List Key}(e:H a=some (.dT kvs))(g:H b=some (.tup (k.map kV))):HI H a (.ref b) (Ci kvs k):=.inr ⟨kvs,k,b,.inl e,rfl,g,rfl⟩
def OY.t{H:Hp}{a b:AD}{kvs:IF}{k:List Key}{v:V}(e:H a=some (.dT kvs))(I:H b=some (.tup (k.map kV)))(g:kvs.length<sizeLine):OY H a (.ref b) v (upd H a (.dT (putK kvs k v))):=.inr ⟨kvs,k,b,e,rfl,I,g,rfl⟩
section
variable{X:Cx}{pins:Db}{σ:St}{H:Hp}{s:SD}{a:AD}{y v:V}{u r:VL}{o:Option V}{A:F0d}{E:tj}
def Inv.big(I:Cl):sysModules<s.heap.objs.size:=by
 have h:mainGlobals<s.heap.objs.size:=(I.mod.glob.keeps I.bk).lt;exact Nat.lt_trans AS h
def da{Q:tj}(hu:A.units+1<cLine)(I:Cl)(g:HI H a y (some v))(ry:RelV y u)(h:∀R s',Inv X pins σ H s'->RelV v R->Q R s'):wpAny At A (getItem (.ref a) u) Q E s:=by
 rcases g with ⟨kvs,k,e,Z,l⟩|⟨kvs,k,b,e,Z,eb,l⟩
 .subst Z;obtain⟨z,hd,vs,rel,dd⟩:=VD I.Am e;obtain⟨R,U,M⟩:=Ld.some_of (v:=v) (o:=valueAt vs k) (by rw[l];exact rel.val k);exact wpAny_getItem_of (U9 ry) dd.mapOf U (h R _ (I.tok _) M)
 .subst Z;cases (show u=Value.ref b from ry);obtain⟨z,hd,xs,rel,dd⟩:=VA I.Am e;obtain⟨R,U,M⟩:=Ld.some_of (v:=v) (o:=(atKey xs k).map (·.2)) (by rw[l];exact rel.val k);obtain⟨p,hp,Y⟩:=aF.mp U;refine wpAny_getItem_heap (tupleKind_room_in1 hu) (Rf I.Am eb) dd hp ?_;rw[Y];exact h R _ (I.tok _) M
def ji{Q:tj}(Y:A.units+1<cLine)(I:Cl)(g:HI H a y o)(U:RelV y u)(h:∀s',Inv X pins σ H s'->Q (.bool (!o.isSome)) s'):wpAny At A (compareOp .NotIn u (.ref a)) Q E s:=by
 rcases g with ⟨kvs,k,e,M,l⟩|⟨kvs,k,b,e,M,Z,l⟩
 .subst M;obtain⟨z,hd,vs,rel,R⟩:=VD I.Am e;refine wpAny_notIn_of (U9 U) hd R.mapOf ?_;rw[<-(rel.val k).N0,<-l];exact h _ (I.tok _)
 .subst M;cases (show u=Value.ref b from U);obtain⟨z,hd,xs,rel,R⟩:=VA I.Am e;refine wpAny_notIn_heap (tupleKind_room_in1 Y) (Rf I.Am Z) hd R ?_;have q:=(rel.val k).N0;rw[Option.isSome_map]at q;rw[<-q,<-l];exact h _ (I.tok _)
def YU{h':Heap}{t':Nat}{ob:HO}(I:Cl)(g:b8 (H a))(M:Heap.SameBut a s.heap h')(R:∃q,h'.get? a=some q)(new:CJ X.prog X.w (upd H a ob) h' a ob):Inv X pins σ (upd H a ob) {s with heap:=h',toks:=t'} :=
 I.write (x:=a) (e:=a) g (.inl rfl) (fun b q hb z=>(M.2 b hb).trans z) R new
def lg{P:F0b}{w:F0c}{H':Hp}{h':Heap}{kvs:List (Key×V)}{vs:List (Key×VL)}(z:kvs.length<=sizeLine)(hd:(a==sysModules)=false)(rel:KV kvs vs)(dd:h'.DictOf (EY P w) a vs):CJ P w H' h' a (.dK kvs):=⟨z,hd,vs,rel,dd⟩
def Z1{H':Hp}{Q:Unit->SD->Prop}(hu:A.units+1<cLine)(I:Cl)(g:OY H a y v H')(ry:RelV y u)(rv:RelV v r)(h:∀s',Inv X pins σ H' s'->Q () s'):wpAny At A (setItem (.ref a) u r) Q E s:=by
 rcases g with ⟨kvs,k,e,ey,l,eH⟩|⟨kvs,k,b,e,ey,eb,l,eH⟩
 .subst ey eH;obtain⟨z,hd,vs,rel,dd⟩:=qC I.Am e;have U:vs.length<=sizeLine:=by rw[<-rel.length];exact z
  have hl:(putK kvs k v).length<=sizeLine:=by have:=MI kvs k v;lia
  refine wpAny_setItem_pairs (hsz:=U) (U9 ry) dd fun h' M Z=>h _ ?_;have he:∃q,h'.get? a=some q:=let⟨q,_,_,R,_⟩:=M;⟨q,R⟩;exact YU I (by rw[e];exact True.intro) Z he (lg hl hd (rel.put k rv) M)
 .subst ey eH;cases (show u=Value.ref b from ry);obtain⟨z,hd,xs,rel,dd⟩:=Yl I.Am e;have U:xs.length<=sizeLine:=by rw[<-Paired.length rel];exact z
  have hl:(putK kvs k v).length<=sizeLine:=by have:=MI kvs k v;lia
  refine wpAny_setItem_heap (hsz:=U) (tupleKind_room_in1 hu) (Rf I.Am eb) dd fun h' M Z=>h _ ?_;obtain⟨q,es,ep,R,h2,h3,h4,_,h5⟩:=M;refine YU I (by rw[e];exact True.intro) Z ⟨q,R⟩ ⟨hl,hd,_,(rel.put k eb rv).keeps fun c ys ec=>?_,q,es,ep,R,h2,h3,h4,h5⟩;rw[AN (qG ec e Hq)];exact ec
end
def ma(i:Expr):Prop:=∀g I,subscripted i false g I=operate [g,I] (getItem g I)
def ja{prog:F0b}{w:F0c}{A:F0d}{E:tj}{s:SD}{env:Env}{value slice:Expr}{pos:Pos}{T id:String}{Q:tj} (hl:typeLookup (.type T) "__getitem__" = pure (some (.builtin id)))(hs:ma slice) (h:wpAny Da A (eval value env) (fun o R=>wpAny Da A (eval slice env) (fun i g=>g.TypeIs o T/\wpAny Da A (getItem o i) Q E g) E R) E s):wpAny Da A (eval (.Subscript value slice pos) env) Q E s:=by
 refine Subscript_ (aW h (fun o R Y=>aW Y (fun i g I=>?_) fun _ _ x=>x) fun _ _ x=>x);obtain⟨Z,I⟩:=I;unfold subscriptTail;refine Wb ?_;rw[getitemInPython_of_ne Z.not_modules];refine Wb (wpAny_specialOf Z hl ?_);have fin:wpAny Da A (subscripted slice false o i) (fun r M=>wpAny Da A (letTemporaryGo value o r>>=fun _=>pure r) Q E M) E g:=by
  rw[hs o i];exact wpAny_operating (aW I (fun r M U=>Wb (wpAny_letTemporaryGo (aA U))) fun _ _ x=>x)
 first
  |exact aA (Wb fin)
  |exact Wb (aA (Wb fin))
  |exact Wb fin
def XR{X:Cx}{pins:Db}{σ:St}{H:Hp}{s:SD}{a:AD}{y:V}{o:Option V}(I:Cl)(g:HI H a y o):s.TypeIs (.ref a) "dict" := by
 rcases g with ⟨kvs,k,e,_,_⟩|⟨kvs,k,b,e,_,_,_⟩
 .obtain⟨_,_,vs,_,M⟩:=VD I.Am e;exact M.typeIs
 .obtain⟨_,_,xs,_,M⟩:=VA I.Am e;exact M.typeIs
def qY(I ty:TE):TE:=fun σ H Q=>I σ H fun x H1=>ty σ H1 fun y g=>∃a v,x=.ref a/\HI g a y (some v)/\Q v g
def jh(ty I:TE):TE:=fun σ H Q=>ty σ H fun y H1=>I σ H1 fun x g=>∃a o,x=.ref a/\HI g a y o/\Q (.bl (!o.isSome)) g
def qP(M ty I:TE):TS:=fun D σ H=>I σ H fun v H1=>M σ H1 fun x U=>ty σ U fun y R=>∃a g,x=.ref a/\OY R a y v g/\D.nx σ g
section
variable{X:Cx}{o i value:Expr}{pos pos':Pos}{td ty tv:TE}
def PF(hu:X.A.units+1<cLine)(ho:PE X o td)(hi:PE X i ty)(hs:ma i):PE X (.Subscript o i pos) (qY td ty):=by
 intro pins s σ H Q I h;refine ja PySem.F.slot_dict_getitem.lookup hs (BA (ho pins s σ H _ I h) fun u s1 ⟨x,H1,I1,Y,q1⟩=>BA (hi pins s1 σ H1 _ I1 q1) fun iv s2 ⟨y,H2,R,U,a,v,ex,g,Z⟩=>?_);subst ex;obtain rfl:u=Value.ref a:=Y;exact⟨XR R g,da hu R g U fun w' s3 I3 M=>⟨v,H2,I3,M,Z⟩⟩
def eA(hu:X.A.units+1<cLine)(hi:PE X i ty)(ho:PE X o td):PC X .NotIn i o (jh ty td):=by
 intro pins s σ H Q I h;refine BA (hi pins s σ H _ I h) fun iv s1 ⟨y,H1,I1,M,Y⟩=>BA (ho pins s1 σ H1 _ I1 Y) fun u s2 ⟨x,H2,I2,R,a,Z,ex,g,U⟩=>?_;subst ex;obtain rfl:u=Value.ref a:=R;exact ji hu I2 g M fun s3 I3=>⟨.bl (!Z.isSome),H2,I3,rfl,U⟩
def PY(hu:X.A.units+1<cLine)(ho:PE X o td)(hi:PE X i ty)(hv:PE X value tv)(hs:swapsWith value (some (.Subscript o i pos')) pos.line X.env=pure false):PS X (.Assign [.Subscript o i pos'] value pos) (qP td ty tv):=by
 intro pins s σ H D I h;refine wpAny_Assign_Subscript (BA (hv pins s σ H _ I h) fun r s1 ⟨v,H1,I1,U,q1⟩=>BA (ho pins s1 σ H1 _ I1 q1) fun u s2 ⟨x,H2,I2,R,Z⟩=>BA (hi pins s2 σ H2 _ I2 Z) fun iv s3 ⟨y,H3,I3,M,a,H4,ex,g,Y⟩=>?_) hs;subst ex;obtain rfl:u=Value.ref a:=R;exact Z1 hu I3 g M U fun s4 I4=>⟨σ,H4,I4,Y⟩
end
def gP{P:F0b}{w:F0c}{H:Hp}(h:Heap)(hb:sysModules<h.objs.size):CJ P w H (h.push { cls:=.type "dict",data:=.dict #[]}) h.objs.size (.dT []) :=
 ⟨ar _,beq_eq_false_iff_ne.mpr (Ne.symm (aP hb)),[],.nil,_,#[],0,Heap.get?_push_size _ rfl,⟨rfl,rfl,rfl⟩,rfl,rfl,List.nodup_nil⟩
def km:TE:=fun _ H Q=>∀p,H p=none->Q (.ref p) (upd H p (.dT []))
section
variable{X:Cx}{pos:Pos}
def Nf:PE X (.Dict [] [] pos) km:=fun pins s σ H Q I h=>
 wpAny_Dict_empty ⟨.ref s.heap.objs.size,_,I.laid (a:=s.heap.objs.size) (o:=.dT []) (t':=s.toks) (fun _ _ q=>aE _ q) (aH _) (gP s.heap I.big),rfl,h _ (I.Am.fresh (aH _))⟩
end
end L2
namespace L2
open PySem PySem.Spec PyProof.Rows
section
variable{κ:Type}[DecidableEq κ]
def fS{kvs:List (κ×V)}{k:κ}(h:Ci kvs k=none):¬k∈kvs.map (·.1):=by
 intro m;obtain⟨p,g,e⟩:=aL.mp m;have q:(kvs.any fun kv=>decide (kv.1=k))=true:=List.any_eq_true.mpr ⟨p,g,decide_eq_true e⟩;rw[JO,h]at q;exact absurd q Do
theorem X1:∀ {l:List κ} {k:κ},l.Nodup->¬k∈l->(l++[k]).Nodup
 |[],k,_,_=>by simp
 |a::r,k,h,hk=>by
  obtain⟨I,g⟩:=cC.mp h;show(a::(r++[k])).Nodup;refine cC.mpr ⟨fun m=>?_,X1 g fun m=>hk (aU.mpr (Or.inr m))⟩;rcases aQ.mp m with q|q
  .exact I q
  .exact hk (aU.mpr (Or.inl (List.mem_singleton.mp q).symm))
def j8{kvs:List (κ×V)}{k:κ}(v:V)(hn:(kvs.map (·.1)).Nodup)(h:Ci kvs k=none):((putK kvs k v).map (·.1)).Nodup:=by
 rw[NY v h,(A4)];exact X1 hn (fS h)
end
end L2
namespace DI
open PySem PySem.W PyProof.Rows
def RD(h:Heap)(d:AD)(es:Array DictEntry)(ep:Nat):Prop:=∃o,h.get? d=some o/\o.ExactDict/\o.data=.dict es ep
def St(h:Heap)(it d S:AD)(i n ep:Nat):Prop:=(i=0/\∃ok g,IsItemIter h it d 0 n ep ok g)\/∃ok g a f I,KdxIt h it d i n ep ok g a f/\h.get? a=some I/\a≠it/\a≠S
section
variable{prog:F0b}{w:F0c}{A:F0d}{E:tj}{s:SD}{it d:AD}{i ep:Nat}{es:Array DictEntry}{ok ov:VL}
def Y7{Q:Option VL->SD->Prop}(hit:IsItemIter s.heap it d i es.size ep ok ov)(hm:RD s.heap d es ep)(hi:i<es.size) (q:∀h',IsItemIterOut h' it d (i+1) es.size ep es[i].key es[i].val s.heap.objs.size->h'.get? s.heap.objs.size=some { cls:=.type "tuple",data:=.seq #[es[i].key,es[i].val]}->h'.objs.size=s.heap.objs.size+1 ->(∀b o,b≠it->s.heap.get? b=some o->h'.get? b=some o)->Q (some (.ref s.heap.objs.size)) {s with heap:=h'}):wpAny Da A (pyNext (.ref it)) Q E s:=by
 obtain⟨I,g,Z,tk,os⟩:=s;obtain⟨od,e1,e2,e3⟩:=hm;have R:Shared.TypeIs ⟨I,g,Z,tk,os⟩ (.ref it) "dict_itemiterator" := ⟨_,hit,rfl⟩;have own:Builtin.Dict_items.ownsTuple "dict_itemiterator" = true:=by decide
 unfold pyNext;refine Wb (bc (ak (name:=Str.ofString "__next__") R bJ
  (ax bJ R F.entry_dict_itemiterator_next (Wb (aA (Wb (Wb ?_)))) (F.args_dict_itemiterator_next_1 _))))
 first|refine Wb (bH R (aA (Wb (bx hit rfl ?_))))|refine Wb (bQ R (aA (Wb (bx hit rfl ?_))))
 simp only[own,if_true];show wpAny _ _ (if(Value.ref d==Value.none)=true then _ else _) _ _ _;rw[if_neg (show ¬((Value.ref d==Value.none)=true) from aO)];refine Wb (aA (Wb (bq e1 e3 ?_)));rw[if_neg Do];refine Wb (aA (Wb (wpAny_dictEpoch e1 e3 ?_)));rw[if_neg Do];refine aA ?_;simp only[show ¬((i:Int)<0) from by lia,if_false,Int.toNat_natCast,Array.getElem?_eq_getElem hi];refine Wb ?_
 first|refine Wb (bH R (aA (Wb (bI R ?_))))|refine Wb (bQ R (aA (Wb (bI R ?_))))
 show wpAny _ _ (setField (.ref it) 3 (rawInt ((i:Int)+1))>>=_) _ _ ⟨I,g,Z,tk,os⟩;refine Wb (ai hit Do fun M z1 m1=>?_);have m1:Heap.SameBut it I M:=m1;have z1:IsItemIter M it d (i+1) es.size ep ok ov:=by
  have e:((i+1:Nat):Int)=(i:Int)+1:=by lia
  unfold IsItemIter;rw[e]
  simpa[rawInt]using z1
 have Y:Shared.TypeIs ⟨M,g,Z,tk,os⟩ (.ref it) "dict_itemiterator" := ⟨_,z1,rfl⟩;refine Wb (bD (Wb (bI Y (Wb (bI Y ?_)))));show wpAny _ _ (Builtin.Dict_items.pairFromOwner (.ref it) 6 es[i].key es[i].val) _ _ ⟨M,g,Z,tk,os⟩;unfold Builtin.Dict_items.pairFromOwner;refine Wb (wpAny_newTuple ?_);have U:IsItemIter (M.push { cls:=.type "tuple",data:=.seq #[es[i].key,es[i].val]}) it d (i+1) es.size ep ok ov:=aE _ z1;have a2:(M.push { cls:=.type "tuple",data:=.seq #[es[i].key,es[i].val]}).get? I.objs.size=some { cls:=.type "tuple",data:=.seq #[es[i].key,es[i].val]}:=by rw[<-m1.1];exact aV _ rfl
 have s2:(M.push { cls:=.type "tuple",data:=.seq #[es[i].key,es[i].val]}).objs.size=I.objs.size+1:=by rw[(MO),m1.1]
 have k2:∀b o,b≠it->I.get? b=some o->(M.push { cls:=.type "tuple",data:=.seq #[es[i].key,es[i].val]}).get? b=some o:=fun b o hb e=>aE _ ((m1.2 b hb).trans e);generalize M.push { cls:=.type "tuple",data:=.seq #[es[i].key,es[i].val]}=g2 at U a2 s2 k2;have il:it<I.objs.size:=aD hit;show wpAny _ _ (Builtin.Dict_items.ownedTupleIsFree (.ref it)>>=_) _ _ ⟨g2,g,Z,tk,os⟩;rw[m1.1];unfold Builtin.Dict_items.ownedTupleIsFree;refine Wb (Wb (aj U rfl (x:=.none) rfl (aA ?_)));simp only[if_true];refine Wb (aj U rfl (x:=ok) rfl (Wb (aj U rfl (x:=ov) rfl (Wb (ai U Do fun g3 z3 m3=>?_)))));refine Wb (ai (show IsItemIter g3 it d (i+1) es.size ep es[i].key ov from z3) Do fun g4 z4 m4=>?_);refine Wb (ai (show IsItemIter g4 it d (i+1) es.size ep es[i].key es[i].val from z4) Do fun g5 z5 m5=>?_);refine Wb (ai (show IsItemIterOut g5 it d (i+1) es.size ep es[i].key es[i].val I.objs.size from z5) Do fun g6 z6 m6=>?_);have up:∀b o,b≠it->g2.get? b=some o->g6.get? b=some o:=fun b o hb e=>(m6.2 b hb).trans ((m5.2 b hb).trans ((m4.2 b hb).trans ((m3.2 b hb).trans e)));exact Wb (wpAny_letGo (aA (aA ⟨_,rfl,wpAny_pure (q g6 z6 (up _ _ (bF il) a2) (by show g6.objs.size=I.objs.size+1;rw[m6.1,m5.1,m4.1,m3.1,s2]) fun b o hb e=>up b o hb (k2 b o hb e))⟩)))
def Yy{a:AD}{f:Bool}{oa:Obj}{Q:Option VL->SD->Prop}(hit:KdxIt s.heap it d i es.size ep ok ov a f)(ha:s.heap.get? a=some oa)(hai:a≠it)(hm:RD s.heap d es ep)(hi:i<es.size) (q:∀h',KdxIt h' it d (i+1) es.size ep ok ov a true->h'.get? s.heap.objs.size=some { cls:=.type "tuple",data:=.seq #[es[i].key,es[i].val]}->h'.objs.size=s.heap.objs.size+1 ->(∀b o,b≠it->s.heap.get? b=some o->h'.get? b=some o)->Q (some (.ref s.heap.objs.size)) {s with heap:=h'}):wpAny Da A (pyNext (.ref it)) Q E s:=by
 obtain⟨M,g,Z,tk,os⟩:=s;obtain⟨od,e1,e2,e3⟩:=hm;have R:Shared.TypeIs ⟨M,g,Z,tk,os⟩ (.ref it) "dict_itemiterator" := ⟨_,hit,rfl⟩;have own:Builtin.Dict_items.ownsTuple "dict_itemiterator" = true:=by decide
 unfold pyNext;refine Wb (bc (ak (name:=Str.ofString "__next__") R bJ
  (ax bJ R F.entry_dict_itemiterator_next (Wb (aA (Wb (Wb ?_)))) (F.args_dict_itemiterator_next_1 _))))
 first|refine Wb (bH R (aA (Wb (bx hit rfl ?_))))|refine Wb (bQ R (aA (Wb (bx hit rfl ?_))))
 simp only[own,if_true];show wpAny _ _ (if(Value.ref d==Value.none)=true then _ else _) _ _ _;rw[if_neg (show ¬((Value.ref d==Value.none)=true) from aO)];refine Wb (aA (Wb (bq e1 e3 ?_)));rw[if_neg Do];refine Wb (aA (Wb (wpAny_dictEpoch e1 e3 ?_)));rw[if_neg Do];refine aA ?_;simp only[show ¬((i:Int)<0) from by lia,if_false,Int.toNat_natCast,Array.getElem?_eq_getElem hi];refine Wb ?_
 first|refine Wb (bH R (aA (Wb (bI R ?_))))|refine Wb (bQ R (aA (Wb (bI R ?_))))
 show wpAny _ _ (setField (.ref it) 3 (rawInt ((i:Int)+1))>>=_) _ _ ⟨M,g,Z,tk,os⟩;refine Wb (ai hit Do fun I z1 m1=>?_);have m1:Heap.SameBut it M I:=m1;have z1:KdxIt I it d (i+1) es.size ep ok ov a f:=by
  have e:((i+1:Nat):Int)=(i:Int)+1:=by lia
  unfold KdxIt;rw[e]
  simpa[rawInt]using z1
 have Y:Shared.TypeIs ⟨I,g,Z,tk,os⟩ (.ref it) "dict_itemiterator" := ⟨_,z1,rfl⟩;refine Wb (bD (Wb (bI Y (Wb (bI Y ?_)))));show wpAny _ _ (Builtin.Dict_items.pairFromOwner (.ref it) 6 es[i].key es[i].val) _ _ ⟨I,g,Z,tk,os⟩;unfold Builtin.Dict_items.pairFromOwner;refine Wb (wpAny_newTuple ?_);have U:KdxIt (I.push { cls:=.type "tuple",data:=.seq #[es[i].key,es[i].val]}) it d (i+1) es.size ep ok ov a f:=aE _ z1;have a2:(I.push { cls:=.type "tuple",data:=.seq #[es[i].key,es[i].val]}).get? M.objs.size=some { cls:=.type "tuple",data:=.seq #[es[i].key,es[i].val]}:=by rw[<-m1.1];exact aV _ rfl
 have s2:(I.push { cls:=.type "tuple",data:=.seq #[es[i].key,es[i].val]}).objs.size=M.objs.size+1:=by rw[(MO),m1.1]
 have k2:∀b o,b≠it->M.get? b=some o->(I.push { cls:=.type "tuple",data:=.seq #[es[i].key,es[i].val]}).get? b=some o:=fun b o hb e=>aE _ ((m1.2 b hb).trans e);generalize I.push { cls:=.type "tuple",data:=.seq #[es[i].key,es[i].val]}=g2 at U a2 s2 k2;have il:it<M.objs.size:=aD hit;show wpAny _ _ (Builtin.Dict_items.ownedTupleIsFree (.ref it)>>=_) _ _ ⟨g2,g,Z,tk,os⟩;rw[m1.1];unfold Builtin.Dict_items.ownedTupleIsFree;refine Wb (Wb (aj U rfl (x:=rawInt a) rfl ?_));show wpAny _ _ (loadIfAlive ((a:Int).toNat)>>=_) _ _ _;rw[(OD)];refine Wb (kdx_alive (k2 a oa hai ha) ?_);simp only[Option.isNone_some,Bool.false_eq_true,if_false];refine Wb (aj U rfl (x:=.bool f) rfl ?_);cases f with
 |true=>
  rw[if_neg (show ¬((Value.bool true != Value.bool true)=true) from aO)];refine aA ?_;simp only[Bool.false_eq_true,if_false];exact aA (aA ⟨_,rfl,wpAny_pure (q g2 U a2 s2 k2)⟩)
 |false=>
  rw[if_pos (show(Value.bool false != Value.bool true)=true from rfl)];refine Wb (ai U Do fun g3 z3 m3=>aA ?_);simp only[Bool.false_eq_true,if_false];exact aA (aA ⟨_,rfl,wpAny_pure (q g3 z3 ((m3.2 _ (bF il)).trans a2) (by show g3.objs.size=M.objs.size+1;rw[m3.1,s2]) fun b o hb e=>(m3.2 b hb).trans (k2 b o hb e))⟩)
def next_end{x0 R:VL}{Q:Option VL->SD->Prop}(U:A.handled=none)(hit:s.heap.get? it=some { cls:=.type "dict_itemiterator",dict:=none,data:=.fields #[x0,R,.ref d,.int i 0,.int es.size 0,.int ep 0,ok,ov],slots:=#[]})(hm:RD s.heap d es ep)(hi:es.size<=i) (q:∀h',Heap.ExtBut it s.heap h'->Q none {s with heap:=h'}):wpAny Da A (pyNext (.ref it)) Q E s:=by
 obtain⟨od,M,Y,I⟩:=hm;have g:s.TypeIs (.ref it) "dict_itemiterator" := ⟨_,hit,rfl⟩;have own:Builtin.Dict_items.ownsTuple "dict_itemiterator" = true:=by decide
 unfold pyNext;refine Wb (bc (ak (name:=Str.ofString "__next__") g bJ
  (ax bJ g F.entry_dict_itemiterator_next (Wb (aA (Wb (Wb ?_)))) (F.args_dict_itemiterator_next_1 _))))
 first|refine Wb (bH g (aA (Wb (bx hit rfl ?_))))|refine Wb (bQ g (aA (Wb (bx hit rfl ?_))))
 simp only[own,if_true];show wpAny _ _ (if(Value.ref d==Value.none)=true then _ else _) _ _ _;rw[if_neg (show ¬((Value.ref d==Value.none)=true) from aO)];refine Wb (aA (Wb (bq M I ?_)));rw[if_neg Do];refine Wb (aA (Wb (wpAny_dictEpoch M I ?_)));rw[if_neg Do];refine aA ?_;simp only[show ¬((i:Int)<0) from by lia,if_false,Int.toNat_natCast,Array.getElem?_eq_none hi];refine Wb ?_
 first|refine Wb (bH g (aA ?_))|refine Wb (bQ g (aA ?_))
 show wpAny _ _ (setField (.ref it) 2 .none>>=_) _ _ s;refine Wb (wpAny_setField hit rfl Do ?_);show wpAny _ _ (newExc (.type "StopIteration") []>>=_) _ _ _;simp only[newExc,newTuple];refine Wb (Wb (aY ?_ (by size_fits)));refine Wb (m:=firstArgMember _ _) (wpAny_of_eq (a:=Value.none) (by first|rfl|(simp only[firstArgMember];rfl)) (aY ?_ (by size_fits)));simp only[raiseNew];refine Wb (wpAny_handled ?_);rw[show A.in1.handled=none from U];refine Wb (aA (wpAny_throw ?_));refine Wb (wpAny_isInstance (T := "StopIteration") (b:=true) ⟨_,Heap.get?_push_size _ rfl,rfl⟩ isSubtype_stop (aA (q _ ?_)));exact((bK ..).extBut.push _).push _
def St.keep{h h':Heap}{S:AD}{n:Nat}(x:St h it d S i n ep)(k:∀b o,b≠S->h.get? b=some o->h'.get? b=some o)(M:it≠S):St h' it d S i n ep:=by
 rcases x with ⟨e,ok,ov,hit⟩|⟨ok,ov,a,f,R,hit,ha,I,g⟩
 .exact .inl ⟨e,ok,ov,k _ _ M hit⟩
 .exact .inr ⟨ok,ov,a,f,R,k _ _ M hit,k _ _ g ha,I,g⟩
def next_item{S:AD}{Q:Option VL->SD->Prop}(st:St s.heap it d S i es.size ep)(hS:S<s.heap.objs.size)(hm:RD s.heap d es ep)(hi:i<es.size) (q:∀h',St h' it d S (i+1) es.size ep->h'.get? s.heap.objs.size=some { cls:=.type "tuple",data:=.seq #[es[i].key,es[i].val]}->h'.objs.size=s.heap.objs.size+1 ->(∀b o,b≠it->s.heap.get? b=some o->h'.get? b=some o)->Q (some (.ref s.heap.objs.size)) {s with heap:=h'}):wpAny Da A (pyNext (.ref it)) Q E s:=by
 rcases st with ⟨rfl,ok,ov,hit⟩|⟨ok,ov,a,f,Z,hit,ha,g,Y⟩
 .exact Y7 hit hm hi fun h' U M R I=>q h' (.inr ⟨_,_,_,false,_,U,M,Nat.ne_of_gt (aD hit),Nat.ne_of_gt hS⟩) M R I
 .exact Yy hit ha g hm hi fun h' U M R I=>q h' (.inr ⟨ok,ov,a,true,Z,U,I a Z g ha,g,Y⟩) M R I
def cI{S:AD}{Q:Option VL->SD->Prop}(g:A.handled=none)(st:St s.heap it d S es.size es.size ep)(hm:RD s.heap d es ep) (q:∀h',Heap.ExtBut it s.heap h'->Q none {s with heap:=h'}):wpAny Da A (pyNext (.ref it)) Q E s:=by
 rcases st with ⟨e,ok,ov,hit⟩|⟨ok,ov,a,f,I,hit,_⟩
 .rw[<-e]at hit;exact next_end (i:=es.size) g hit hm (aH _) q
 .exact next_end g hit hm (aH _) q
def Made(es:Array DictEntry)(lo:AD)(h:Heap)(as:uF):Prop:=∀(j:Nat) (a:AD),as[j]? = some a->lo<a/\∃e,es[j]? = some e/\h.get? a=some { cls:=.type "tuple",data:=.seq #[e.key,e.val]}
def loop{R:Result->SD->Prop}{S I:AD}(hh:A.handled=none)(hSI:S<I)(hSd:d≠S)(hId:d≠I)(hn:es.size<=sizeLine)(res:VL){h1:Heap} (hR:∀h' tk g c as,(∀b o,b≠S->b≠I->h1.get? b=some o->h'.get? b=some o)->h'.get? S=some { cls:=.type "list",dict:=none,data:=.seq g c,slots:=#[]}->as.length=es.size->Made es I h' as->g.toList=as.map Value.ref->R (.ok (.ret res)) {s with heap:=h',toks:=tk}):∀(k i:Nat) (h:Heap) (tk c:Nat) (g:Array VL) (as:uF),es.size-i=k->i<=es.size->St h I d S i es.size ep->RD h d es ep->(∀b o,b≠S->b≠I->h1.get? b=some o->h.get? b=some o) ->h.get? S=some { cls:=.type "list",dict:=none,data:=.seq g c,slots:=#[]}->g.toList=as.map Value.ref->as.length=i->Made es I h as->I<h.objs.size ->codeAny Da A (.builtin "list.extend.loop" ⟨[.ref S,.ref I,res],[]⟩) R {s with heap:=h,toks:=tk}:=by
 have ne:S≠I:=aP hSI;intro k
 induction k with
 |zero=>
  intro i h tk c g as hk hi st hD kp hS ha hl hG hIs;have hin:i=es.size:=by lia
  subst hin;refine codeAny_builtin PySem.F.entry_extend_loop ?_;rw[Around.under_plainId bg _];show wpAny _ A.in1 (pyNext (.ref I)>>=_) _ _ _;refine Wb (cI (s:={s with heap:=h,toks:=tk}) (A:=A.in1) hh st hD fun h' he=>aA (hR h' tk g c as (fun b o M U e=>he b o U (kp b o M U e)) (he S _ ne hS) hl (fun j a Z=>?_) ha));obtain⟨M,e,U,r3⟩:=hG j a Z;exact⟨M,e,U,he a _ (bF M) r3⟩
 |succ k ih=>
  intro i h tk c g as hk hi st hD kp hS ha hl hG hIs;have hlt:i<es.size:=by lia
  have hsz:g.size=i:=by rw[<-(Qz),ha,(Ah),hl]
  refine codeAny_builtin PySem.F.entry_extend_loop ?_;rw[Around.under_plainId bg _];show wpAny _ A.in1 (pyNext (.ref I)>>=_) _ _ _;refine Wb (next_item (s:={s with heap:=h,toks:=tk}) (S:=S) st (aD hS) hD hlt fun h' st' ht hz Y=>?_);dsimp only at ht hz Y ⊢;have hS':=Y S _ ne hS;have up:∀b o,b≠S->h'.get? b=some o->(h'.update S (Obj.mapSeq (·.push (Value.ref h.objs.size)))).get? b=some o:=fun b o hb e=>(Heap.get?_update_other _ _ (Ne.symm hb)).trans e;have hSl:S<h.objs.size:=aD hS;have hT:=up _ _ (bF hSl) ht;show wpAny _ A.in1 (updateSeq S (·.push (Value.ref h.objs.size))>>=_) _ _ _;refine Wb (wpAny_updateSeq hS' rfl (aA ⟨plainId_quiet bg _,ih (i+1) _ tk _ (g.push (Value.ref h.objs.size)) (as++[h.objs.size]) AC hlt (st'.keep up (Ne.symm ne)) ?_ (fun b o M U e=>up b o M (Y b o U (kp b o M U e)))
   (Heap.get?_update_self _ hS' rfl) (by rw[Array.toList_push,ha,(A4)];rfl) (by rw[(Ge),hl];rfl) (fun j b Z=>?_) (Nat.lt_trans hIs (aD hT))⟩) (by rw[hsz];lia) (by show(g.push (Value.ref h.objs.size)).size<=sizeLine+1;rw[Array.size_push,hsz];lia))
  .obtain⟨o,M,U⟩:=hD;exact⟨o,up d o hSd (Y d o hId M),U⟩
  .by_cases hj1:j<as.length
   .rw[List.getElem?_append_left hj1]at Z;obtain⟨M,e,U,r3⟩:=hG j b Z;exact⟨M,e,U,up b _ (bF (Nat.lt_trans hSI M)) (Y b _ (bF M) r3)⟩
   .rw[List.getElem?_append_right AC]at Z;have hj0:j-as.length=0:=by
     have:=(aB.mp Z).1;simp at this
     lia
    rw[hj0]at Z;have hb:h.objs.size=b:=by simpa using Z
    subst hb;have hji:j=i:=by lia
    subst hji;exact⟨hIs,_,Array.getElem?_eq_getElem hlt,hT⟩
def iter{v:AD}{Q:tj}(g:s.heap.IsItemsView v d)(hm:RD s.heap d es ep) (q:Q (.ref s.heap.objs.size) {s with heap:=s.heap.push { cls:=.type "dict_itemiterator",data:=.fields #[.none,.bool false,.ref d,.int 0 0,.int es.size 0,.int ep 0,.none,.none]} }):wpAny Da A (pyIter (.ref v)) Q E s:=by
 obtain⟨Z,U,Y,R⟩:=id g;obtain⟨od,M,e2,I⟩:=hm;have own:Builtin.Dict_items.ownsTuple "dict_itemiterator" = true:=by decide
 refine wpAny_pyIter_slot g.typeIs F.slot_dict_items_iter (ax F.slot_dict_items_iter g.typeIs F.entry_dict_items_iter ?_ (F.args_dict_items_iter_1 _));unfold Builtin.«dict_items.__iter__»;refine Wb (aA (Wb ?_));unfold Builtin.Dict_items.dictOf;refine Wb (aj U R (x:=.ref d) rfl (aA (Wb ?_)));unfold Builtin.Dict_items.newIterator;refine Wb (bq M I (Wb (wpAny_dictEpoch M I ?_)));simp only[own,if_true];refine aY (aA ⟨_,rfl, "dict_itemiterator",_,⟨_,Heap.get?_push_size _ rfl,rfl⟩,F.slot_dict_itemiterator_next.lookup,?_⟩)
  (by simp only[sizeOk,Builtin.Dict_items.ownedTupleFields,List.size_toArray,List.length_append,List.length_cons,List.length_nil,sizeLine_eq];lia)
 simpa[rawInt,Builtin.Dict_items.ownedTupleFields]using q
def extend{R:Result->SD->Prop}{v:AD}(hh:A.handled=none)(Y:s.heap.IsItemsView v d)(hm:RD s.heap d es ep)(S:AD)(hSv:S≠v)(I:d≠S)(res:VL)(c0:Nat)(hS:s.heap.get? S=some { cls:=.type "list",data:=.seq #[] c0})
 (hR:∀h' tk g c as,(∀b o,b≠S->s.heap.get? b=some o->h'.get? b=some o)->h'.get? S=some { cls:=.type "list",dict:=none,data:=.seq g c,slots:=#[]}->as.length=es.size->Made es s.heap.objs.size h' as->g.toList=as.map Value.ref->R (.ok (.ret res)) {s with heap:=h',toks:=tk})(hn:es.size<=sizeLine) :
  wpAny Da A.in1 (Builtin.List.listExtendWith (.ref S) (.ref v) res) (fun fin s'=>match fin with|.done f=>R (.ok f) s'|.again c'=>c'.quiet=true/\codeAny Da A c' R s') (fun e s'=>R (.error e) s') s:=by
 have M:S<s.heap.objs.size:=aD hS;have Z:d<s.heap.objs.size:=by obtain⟨o,e,_⟩:=hm;exact aD e
 have go:∀(h:Heap) (c1 tk:Nat),(∀b o,b≠S->(s.heap.push { cls:=.type "dict_itemiterator",data:=.fields #[.none,.bool false,.ref d,.int 0 0,.int es.size 0,.int ep 0,.none,.none]}).get? b=some o->h.get? b=some o) ->
   h.get? S=some { cls:=.type "list",data:=.seq #[] c1}->codeAny Da A (.builtin "list.extend.loop" ⟨[.ref S,.ref s.heap.objs.size,res],[]⟩) R {s with heap:=h,toks:=tk}:=fun h c1 tk hk hS1=>by
  have hI:=hk s.heap.objs.size _ (bF M) (aV _ rfl);refine loop (h1:=s.heap) (ep:=ep) hh M I (aP Z) hn res (fun h' U g c as r1 r2 r3 r4 r5=>hR h' U g c as (fun b o hb e=>r1 b o hb (aP (aD e)) e) r2 r3 r4 r5) es.size 0 h tk c1 #[] [] (Nat.sub_zero _) (ar _)
   (.inl ⟨rfl,.none,.none,hI⟩) ?_ (fun b o hb _ e=>hk b o hb (aE _ e)) hS1 rfl rfl (fun j a hj=>by simp at hj) (aD hI)
  obtain⟨o,e,r⟩:=hm;exact⟨o,hk d o I (aE _ e),r⟩
 unfold Builtin.List.listExtendWith;refine Wb (wpAny_typeOf (T := "dict_items") Y.typeIs ?_);have t1:Builtin.List.listSameRef (.ref S) (.ref v)=false:=by simp[Builtin.List.listSameRef,hSv]
 have t2:(Value.type "dict_items" == Value.type "list")=false:=by decide
 have t3:(Value.type "dict_items" == Value.type "tuple")=false:=by decide
 simp only[t1,t2,t3,Bool.or_false,Bool.false_eq_true,if_false];refine Wb (iter Y hm ?_);have g1:=aE { cls:=.type "dict_itemiterator",data:=.fields #[.none,.bool false,.ref d,.int 0 0,.int es.size 0,.int ep 0,.none,.none]} hS;refine Wb (bD (kdx_hint (let⟨o,ho,hc,_⟩:=Y;⟨o,Heap.get?_push_of_some _ ho,hc⟩) ?_));refine wpAny_ite_split (fun _=>?_) (fun _=>aA ⟨plainId_quiet bg _,go _ c0 _ (fun b o _ e=>e) g1⟩);refine Wb (wpAny_rule (Wb ?_));show wpAny _ _ (updateSeq S (·.push .none)>>=fun _=>updateSeq S (·.pop)) _ _ _;refine Wb (wpAny_updateSeq g1 rfl ?_);have g2:=Heap.get?_update_self (Obj.mapSeq (·.push Value.none)) g1 rfl;refine wpAny_updateSeq (hz:=by seq_fits) g2 rfl ?_;have g3:=Heap.get?_update_self (Obj.mapSeq (·.pop)) g2 rfl;exact aA ⟨plainId_quiet bg _,go _ _ _ (fun b o hb e=>(Heap.get?_update_other _ _ (Ne.symm hb)).trans ((Heap.get?_update_other _ _ (Ne.symm hb)).trans e)) g3⟩
def gather{R:List VL->SD->Prop}{v:AD}(hh:A.handled=none)(hv:s.heap.IsItemsView v d)(hm:RD s.heap d es ep)(hn:es.size<=sizeLine) (k:∀(h1:Heap) (tk:Nat) (as:uF),s.heap.objs.size<h1.objs.size->(∀b u,s.heap.get? b=some u->h1.get? b=some u)->as.length=es.size->Made es s.heap.objs.size h1 as->R (as.map Value.ref) {s with heap:=h1,toks:=tk}):wpAny Da A (collect (.ref v)) R E s:=by
 have lv:v<s.heap.objs.size:=by obtain⟨o,e,_⟩:=hv;exact aD e
 have ld:d<s.heap.objs.size:=by obtain⟨o,e,_⟩:=hm;exact aD e
 unfold collect;refine Wb (wpAny_runValue (codeAny_builtin entry_proto_collect' ?_));rw[Around.under_plainId PySem.F.plain_proto_collect _];show wpAny _ A.in1 (newList []>>=fun x=>again (.builtin "list.__iadd__" ⟨[x,.ref v],[]⟩)) _ _ s;refine Wb (aY (aA ⟨plainId_quiet PySem.F.plain_list_iadd _,codeAny_builtin entry_list_iadd' ?_⟩));rw[Around.under_plainId PySem.F.plain_list_iadd _];have g0:(s.heap.push { cls:=.type "list",data:=.seq ([]:List VL).toArray}).get? s.heap.objs.size=some { cls:=.type "list",data:=.seq #[]}:=aV _ rfl;have Z:(s.heap.push { cls:=.type "list",data:=.seq ([]:List VL).toArray}).objs.size=s.heap.objs.size+1:=Heap.size_push ..;have main:=extend (prog:=prog) (w:=w) (A:=A) (s:={s with heap:=s.heap.push { cls:=.type "list",data:=.seq ([]:List VL).toArray} }) (es:=es) (ep:=ep) hh (v:=v) (d:=d) (by obtain⟨o,e,r⟩:=hv;exact⟨o,Heap.get?_push_of_some _ e,r⟩) (by obtain⟨o,e,r⟩:=hm;exact⟨o,Heap.get?_push_of_some _ e,r⟩)
  s.heap.objs.size (bF lv) (aP ld) (.ref s.heap.objs.size) 0 g0
  (R:=fun q s1=>∃h1 tk g c as,q=.ok (.ret (.ref s.heap.objs.size))/\s1={s with heap:=h1,toks:=tk}/\(∀b u,s.heap.get? b=some u->h1.get? b=some u)/\h1.get? s.heap.objs.size=some { cls:=.type "list",dict:=none,data:=.seq g c,slots:=#[]}/\as.length=es.size/\Made es s.heap.objs.size h1 as/\g.toList=as.map Value.ref)
  (fun h1 tk g c as M I U Y ha=>⟨h1,tk,g,c,as,rfl,rfl,fun b u e=>M b u (aP (aD e)) (aE _ e),I,U,fun j a hj=>by
   obtain⟨r1,r2⟩:=Y j a hj;exact⟨Nat.lt_trans (by show s.heap.objs.size<(s.heap.push _).objs.size;rw[Z];exact Nat.lt_succ_self _) r1,r2⟩,ha⟩) hn
 refine aW main (fun fin s1 x=>?_) fun e s1 x=>?_
 .cases fin with
  |done f=>
   obtain⟨h1,tk,g,c,as,e,rfl,M,I,U,Y,ha⟩:=x;cases e;show wpAny _ A (load s.heap.objs.size>>=_) _ _ _;refine Wb (wpAny_load I (aA ?_));show R g.toList _;rw[ha];exact k h1 tk as (aD I) M U Y
  |again c1=>
   refine⟨x.1,codeAny_mono x.2 fun q s2 y=>?_⟩;obtain⟨h1,tk,g,c,as,rfl,rfl,M,I,U,Y,ha⟩:=y;show wpAny _ A (load s.heap.objs.size>>=_) _ _ _;refine Wb (wpAny_load I (aA ?_));show R g.toList _;rw[ha];exact k h1 tk as (aD I) M U Y
 .obtain⟨_,_,_,_,_,e,_⟩:=x;cases e
end
end DI
namespace IT
open PySem PySem.W PyProof.Rows PySem.SeqAt
def lt:List Int->List Int->Bool
 |[],[]=>false
 |[],_::_=>true
 |_::_,[]=>false
 |a::r,b::q=>if a=b then lt r q else decide (a<b)
theorem lt_irrefl:∀a,lt a a=false
 |[]=>rfl
 |a::r=>by rw[lt,if_pos rfl,lt_irrefl r]
theorem lt_trans:∀a b c,lt a b=true->lt b c=true->lt a c=true
 |[],[],_,h,_=>by cases h
 |[],_::_,[],_,h=>by cases h
 |[],_::_,_::_,_,_=>rfl
 |_::_,[],_,h,_=>by cases h
 |_::_,_::_,[],_,h=>by cases h
 |a::r,b::q,c::p,h,k=>by
  rw[lt]at h k ⊢;by_cases I:a=b
  .subst I;rw[if_pos rfl]at h;by_cases g:a=c
   .rw[if_pos g]at k ⊢;exact lt_trans r q p h k
   .rw[if_neg g]at k ⊢;exact k
  .rw[if_neg I]at h;have h:=ae h;by_cases g:b=c
   .subst g;rw[if_neg I];exact bV h
   .rw[if_neg g]at k;have k:=ae k;rw[if_neg AC];exact bV AC
theorem M9:∀a b,lt a b=false->lt b a=false->a=b
 |[],[],_,_=>rfl
 |[],_::_,h,_=>by cases h
 |_::_,[],_,h=>by cases h
 |a::r,b::q,h,k=>by
  rw[lt]at h k;by_cases e:a=b
  .subst e;rw[if_pos rfl]at h k;rw[M9 r q h k]
  .rw[if_neg e]at h;rw[if_neg (Ne.symm e)]at k;have h:=az h;have k:=az k
   lia
def Is:List Int->List VL->Prop
 |[],us=>us=[]
 |k::r,us=>∃t rest,us=.int k t::rest/\Is r rest
theorem Is.length:∀ {ks:List Int} {us:List VL},Is ks us->us.length=ks.length
 |[],us,h=>by rw[Is]at h;subst h;rfl
 |k::r,us,h=>by
  rw[Is]at h;obtain⟨t,rest,rfl,h⟩:=h;rw[(Im),(Im),Is.length h]
theorem Is.inj:∀ {ks M:List Int} {us:List VL},Is ks us->Is M us->ks=M
 |[],[],_,_,_=>rfl
 |[],_::_,us,h,k=>by
  simp only[Is]at h k;subst h;obtain⟨t,rest,e,_⟩:=k;cases e
 |_::_,[],us,h,k=>by
  simp only[Is]at h k;subst k;obtain⟨t,rest,e,_⟩:=h;cases e
 |a::r,b::q,us,h,k=>by
  rw[Is]at h k;obtain⟨t,rest,rfl,h⟩:=h;obtain⟨U,g,e,k⟩:=k
  injection e with I R
  injection I with I Y
  subst I R;rw[Is.inj h k]
theorem Is.get:∀ {ks:List Int} {us:List VL} {j:Nat},Is ks us->(h:j<us.length)->∃k t,ks[j]? = some k/\us[j]=.int k t
 |[],us,j,h,g=>by rw[Is]at h;subst h;exact absurd g (cD _)
 |k::r,us,j,h,g=>by
  rw[Is]at h;obtain⟨t,rest,rfl,h⟩:=h;cases j with
  |zero=>exact⟨k,t,rfl,rfl⟩
  |succ j=>
   obtain⟨M,I,U,R⟩:=Is.get (j:=j) h (by simpa using g);exact⟨M,I,by simpa using U,by simpa using R⟩
def gM{h:Heap}{a:AD}{x y:Array VL}(h1:h.IsTuple a x)(M:h.IsTuple a y):x=y:=by
 obtain⟨o,R,_,n,U⟩:=h1;obtain⟨o',g,_,Y,I⟩:=M;rw[R]at g;cases g;rw[U]at I;cases I
 rfl
def rA{s:SD}{ks I:t6}{A:F0d}{a b:AD}{g its':tf}(h1:s.heap.IsTuple a g.toArray)(k1:Is ks g)(h2:s.heap.IsTuple b its'.toArray)(k2:Is I its')(hu:A.units<cLine):RcAt A s (.ref a) (.ref b) (decide (ks=I)):=by
 have key:=RcAt.tuples (s:=s) (A:=A) (e:=fun j=>decide (ks[j]? = I[j]?)) h1 h2 hu fun j x1 Z=>by
  obtain⟨x,t,q1,q2⟩:=k1.get (j:=j) (by simpa using x1);obtain⟨y,u,q3,q4⟩:=k2.get (j:=j) (by simpa using Z);have e:decide (ks[j]? = I[j]?)=(x==y):=by
   rw[q1,q3];by_cases M:x=y
   .subst M;simp
   .rw[decide_eq_false (by simpa using M)];simp[M]
  rw[e];have:=EqAt.int_int (A:=A.in1) (s:=s) x t y u
  simpa[q2,q4]using this
 have ev:((List.range (min g.toArray.size its'.toArray.size)).all (fun j=>decide (ks[j]? = I[j]?))&&g.toArray.size==its'.toArray.size)=decide (ks=I):=by
  have Y:g.toArray.size=ks.length:=by rw[<-k1.length];simp
  have U:its'.toArray.size=I.length:=by rw[<-k2.length];simp
  rw[Y,U];by_cases R:ks=I
  .subst R;simp
  .rw[decide_eq_false R];cases hl:ks.length==I.length with
   |false=>rw[(MP)]
   |true=>
    rw[Bool.and_true];have hl':ks.length=I.length:=by simpa using hl
    refine aZ.mpr fun z=>R (List.ext_getElem? fun i=>?_);by_cases hi:i<ks.length
    .have:=List.all_eq_true.mp z i (bU.mpr AC)
     simpa using this
    .rw[List.getElem?_eq_none AC,List.getElem?_eq_none AC]
 rw[ev]at key;exact key
def nS{s:SD}{ks I:t6}{A:F0d}{a b:AD}{g its':tf}(h1:s.heap.IsTuple a g.toArray)(k1:Is ks g)(M:s.heap.IsTuple b its'.toArray)(k2:Is I its')(R:A.units<cLine):EqAt A s (.ref a) (.ref b) (decide (ks=I)):=by
 by_cases ea:a=b
 .subst ea;have U:g=its':=by simpa using gM h1 M
  subst U;rw[k1.inj k2,decide_eq_true rfl];exact EqAt.same _
 .exact EqAt.of_refs ea (rA h1 k1 M k2 R)
section
open PySem.AutoSeq1 (wpAny_loadPart')
open PySem.MeetsSeq PySem.MeetsSeq2 PySem.MeetsSeq3
def fI(l b:AD)(items I:Array VL)(n n2:Nat)(dd dd2:Option AD)(sl sl2:Array (Option VL))(t u:t6):Meets (Builtin.«tuple.__lt__» ⟨[.ref l,.ref b],[]⟩) (fun A R s=>s.heap.get? l=some { cls:=.type "tuple",dict:=dd,data:=.seq items n,slots:=sl}/\s.heap.get? b=some { cls:=.type "tuple",dict:=dd2,data:=.seq I n2,slots:=sl2} /\Is t items.toList/\Is u I.toList/\A.units<cLine/\R (.ok (.ret (.bool (lt t u)))) s) :=
 .of_wp fun prog w A R s h=>by
  obtain⟨hp,g,d,tk,os⟩:=s;obtain⟨hl,hb,hi,hj,hun,h⟩:=h;have f2:=AutoSeq1.sub_tuple_tuple;have z1:items.size=t.length:=by rw[<-Is.length hi];simp
  have z2:I.size=u.length:=by rw[<-Is.length hj];simp
  wp_walk using wpAny_loadPart' hl,wpAny_loadPart' hb,wpAny_forIn_list _ (fun rest b s'=>b.1=none/\s'=⟨hp,g,d,tk,os⟩/\∃(vs ws:List VL) (t' Z:List Int),rest=vs.zip ws /\
   Is t' vs/\Is Z ws/\t'.length+I.size=Z.length+items.size/\R (.ok (.ret (.bool (lt t' Z)))) ⟨hp,g,d,tk,os⟩) _
  case turn=>
   rintro⟨y,x⟩ rest b s' ⟨hb',rfl,vs,ws,t',Z,hz,Y,U,M,hR⟩;cases t' with
   |nil=>rw[Is]at Y;subst Y;rw[List.zip_nil_left]at hz;cases hz
   |cons bt rt=>
    cases Z with
    |nil=>rw[Is]at U;subst U;rw[List.zip_nil_right]at hz;cases hz
    |cons bu ru=>
     rw[Is]at Y U;obtain⟨a1,v1,rfl,p3⟩:=Y;obtain⟨a2,v2,rfl,q3⟩:=U;rw[List.zip_cons_cons]at hz
     injection hz with hyx hrest
     injection hyx with hy hx
     subst hy hx;rw[lt]at hR;simp only[List.length_cons]at M;have he:=EqAt.int_int (A:=A.in1) (s:=⟨hp,g,d,tk,os⟩) bt a1 bu a2;refine Wb (he prog w _ _ ?_);by_cases hc:bt=bu
     .rw[if_pos hc]at hR;rw[beq_iff_eq.mpr hc]
      wp_walk
      exact⟨rfl,rfl,_,_,_,_,hrest,p3,q3,by lia,hR⟩
     .rw[if_neg hc]at hR;rw[beq_eq_false_iff_ne.mpr hc];have hri:∀(E:VL->SD->Prop) (Q:VL->SD->Prop),Q (.bool (decide (bt<bu))) ⟨hp,g,d,tk,os⟩->wpAny Da A.in1 (richCompare .Lt (.int bt a1) (.int bu a2)) Q E ⟨hp,g,d,tk,os⟩:=fun E Q h=>wpAny_lt_int h
      wp_walk using hri
      exact⟨_,rfl,by simpa using hR⟩
  case fin=>
   rintro⟨b1,b2⟩ s' ⟨hb',rfl,vs,ws,t',Z,hz,Y,U,M,hR⟩;simp only at hb';subst hb';have hv:lt t' Z=decide (items.size<I.size):=by
    cases t' with
    |nil=>
     cases Z with
     |nil=>
      simp only[List.length_nil]at M;exact(bM AC).symm
     |cons c q=>
      simp only[List.length_cons,List.length_nil]at M;exact(bV AC).symm
    |cons bt rt=>
     cases Z with
     |nil=>
      simp only[List.length_cons,List.length_nil]at M;exact(bM AC).symm
     |cons c q=>
      rw[Is]at Y U;obtain⟨_,_,rfl,_⟩:=Y;obtain⟨_,_,rfl,_⟩:=U;rw[List.zip_cons_cons]at hz;cases hz
   rw[hv]at hR
   wp_walk
   exact⟨_,rfl,by simpa[Builtin.Tuple.tupleCompareSizes]using hR⟩
  case h=>
   exact⟨rfl,rfl,items.toList,I.toList,t,u,rfl,hi,hj,by lia,h⟩
end
end IT
namespace IT
open PySem PySem.W PyProof.Rows PySem.SeqAt
section
open PySem.MeetsSeq PySem.MeetsSeq2 PySem.MeetsSeq3
variable{prog:F0b}{w:F0c}{A:F0d}{E:tj}{s:SD}{t u:t6}{a b:AD}{its its':tf}
def qR{Q:tj}(h1:s.heap.IsTuple a its.toArray)(k1:Is t its)(h2:s.heap.IsTuple b its'.toArray)(k2:Is u its')(hu:A.units+1<cLine)(h:Q (.bool (lt t u)) s):wpAny Da A (richCompare .Lt (.ref a) (.ref b)) Q E s:=by
 obtain⟨⟨cls,dd,data,sl⟩,Z,hc,n,M⟩:=id h1;obtain⟨⟨cls2,Y,data2,U⟩,I,R,n2,g⟩:=id h2;simp only at hc M R g;subst hc M R g;exact richCompare_meets_room (op:=.Lt) ⟨_,Z,rfl⟩ ⟨_,I,rfl⟩ PySem.F.slot_tuple_lt PySem.F.entry_tuple_lt (PySem.F.args_tuple_lt_2 _ _) (fI a b its.toArray its'.toArray n n2 dd Y sl U t u)
  ⟨Z,I,by simpa using k1,by simpa using k2,by lia,show Value.bool (lt t u)≠Value.notImplemented/\Q (.bool (lt t u)) s from⟨(fun x=>nomatch x),h⟩⟩ AC
def Xn{Q:Bool->SD->Prop}(h1:s.heap.IsTuple a its.toArray)(k1:Is t its)(I:s.heap.IsTuple b its'.toArray)(k2:Is u its')(g:A.units+1<cLine)(h:Q (lt t u) s):wpAny Da A (oneLt' false (.ref a) (.ref b)) Q E s:=by
 rw[oneLt'_eq];simp only[Bool.false_eq_true,if_false];exact Wb (qR h1 k1 I k2 g (wpAny_truthy_bool h))
end
abbrev Tm:=List Int×List Int
def IH(x y:Tm):Bool:=if x.1=y.1 then lt x.2 y.2 else lt x.1 y.1
def ZZ(x:Tm):IH x x=false:=by unfold IH;rw[if_pos rfl,lt_irrefl]
def UL(x y:Tm)(h:IH x y=false)(k:IH y x=false):x=y:=by
 unfold IH at h k;by_cases e:x.1=y.1
 .rw[if_pos e]at h;rw[if_pos e.symm]at k;exact Prod.ext e (M9 _ _ h k)
 .rw[if_neg e]at h;rw[if_neg (Ne.symm e)]at k;exact absurd (M9 _ _ h k) e
def UP(x y z:Tm)(h:IH x y=true)(k:IH y z=true):IH x z=true:=by
 unfold IH at h k ⊢;by_cases I:x.1=y.1
 .rw[if_pos I]at h;by_cases g:y.1=z.1
  .rw[if_pos g]at k;rw[if_pos (I.trans g)];exact lt_trans _ _ _ h k
  .rw[if_neg g]at k;rw[if_neg (fun q=>g (I.symm.trans q)),I];exact k
 .rw[if_neg I]at h;by_cases g:y.1=z.1
  .rw[if_neg (fun q=>I (q.trans g.symm)),<-g];exact h
  .rw[if_neg g]at k;have:=lt_trans _ _ _ h k;rw[if_neg (fun q=>by rw[q,lt_irrefl]at this;cases this)];exact this
def VN(a b c:Tm)(h:IH a c=true):IH a b=true\/IH b c=true:=by
 cases k:IH a b with
 |true=>exact .inl rfl
 |false=>
  right
  cases m:IH b c with
  |true=>rfl
  |false=>
   cases n:IH b a with
   |true=>have:=UP b a c n h;rw[m]at this;cases this
   |false=>have:=UL a b k n;subst this;rw[m]at h;cases h
def LM:KeyOrd where
 α:=Tm
 blt:=IH
 irrefl:=ZZ
 trans:=UP
 negTrans:=VN
 total:=UL
def Ls(h:Heap)(k:Tm)(v:VL):Prop:=∃(a b c:AD) (I g:List VL),v=.ref a/\h.IsTuple a [.ref b,.ref c].toArray/\h.IsTuple b I.toArray/\Is k.1 I/\h.IsTuple c g.toArray/\Is k.2 g
def Ls.ext{h h':Heap}(e:GS.Ext h h'){k:Tm}{v:VL}(x:Ls h k v):Ls h' k v:=by
 obtain⟨a,b,c,i1,i2,rfl,U,R,M,I,g⟩:=x;exact⟨a,b,c,i1,i2,rfl,TH.Sg e U,TH.Sg e R,M,TH.Sg e I,g⟩
section
open PySem.MeetsSeq PySem.MeetsSeq2 PySem.MeetsSeq3
variable{prog:F0b}{w:F0c}{A:F0d}{E:tj}{s:SD}
def fV{x y:Tm}{u v:VL}{Q:Bool->SD->Prop}(h1:Ls s.heap x u)(h2:Ls s.heap y v)(hu:A.units+2<cLine)(h:Q (IH x y) s):wpAny Da A (keyLt' (tuples' false) u v) Q E s:=by
 obtain⟨a,b,l,i1,i2,rfl,k1,k2,k3,k4,k5⟩:=h1;obtain⟨a',b',l',j1,j2,rfl,m1,Z,Y,m4,U⟩:=h2;obtain⟨o,ho,hc,n,hd⟩:=id k1;obtain⟨o2,I,hc2,n2,M⟩:=id m1;refine kat_lt ho hd I M ?_;unfold IH at h;show KatLex prog w A false (decide (2<2)) Q [(.ref b,.ref b'),(.ref l,.ref l')] 0 s;refine kat_cons (nS k2 k3 Z Y AC prog w _ _ ?_);by_cases g:x.1=y.1
 .rw[decide_eq_true g];rw[if_pos g]at h;refine kat_yes (kat_cons (nS k4 k5 m4 U AC prog w _ _ ?_));by_cases R:x.2=y.2
  .rw[decide_eq_true R];rw[R,lt_irrefl]at h;exact kat_yes (kat_nil h)
  .rw[decide_eq_false R];exact kat_no (by rw[(HF)];exact Xn k4 k5 m4 U AC h)
 .rw[decide_eq_false g];rw[if_neg g]at h;exact kat_no (by rw[(HF)];exact Xn k2 k3 Z Y AC h)
def Ls.tt{h:Heap}{x:Tm}{v:VL}(z:Ls h x v):TH.V5 h v:=by
 obtain⟨a,b,l,i1,i2,rfl,I,g,U,R,M⟩:=z;exact⟨a,b,_,[.ref l],rfl,I,g⟩
def gN{h0:Heap}{ks:List Tm}{us:tf}(U:us.length=ks.length)(M:∀(i:Nat) (x:Tm) (u:VL),ks[i]? = some x->us[i]? = some u->Ls h0 x u):GS.ip LM prog w h0 2 ks us :=
 ⟨U,fun κ=>κ=tuples' false,fun A E s Q g h=>TH.j6 (fun v R=>by
  obtain⟨i,hi,rfl⟩:=List.getElem_of_mem R;exact((M i _ _ (aG AC) (aG hi)).ext g).tt) (h _ rfl),
  fun A s κ g hr I E i j x y u v Q h1 h2 Z Y q=>by
  subst I;exact fV ((M i x u Z h1).ext g) ((M j y v Y h2).ext g) AC q⟩
end
end IT
namespace DI
open PySem PySem.W PyProof.Rows PySem.SeqAt GS
section
variable{prog:F0b}{w:F0c}{A:F0d}{E:tj}{s:SD}{d v:AD}{ep:Nat}{es:Array DictEntry}{ks:List IT.Tm}
def og(h:Heap)(k:IT.Tm)(e:DictEntry):Prop:=∃(b c:AD) (I g:List VL),e.key=.ref b/\e.val=.ref c/\h.IsTuple b I.toArray/\IT.Is k.1 I/\h.IsTuple c g.toArray/\IT.Is k.2 g
def Vq{b:Bool}{Q:tj}(hh:A.handled=none)(hv:s.heap.IsItemsView v d)(hm:RD s.heap d es ep)(hn:es.size<64)(hl:ks.length=es.size)(he:∀(j:Nat) (k:IT.Tm) (e:DictEntry),ks[j]? = some k->es[j]? = some e->og s.heap k e)(hu:A.units+4<cLine) (h:∀(h':Heap) (D tk:Nat) (ix:List Nat) (I:Nat) (as:uF),(∀b u,s.heap.get? b=some u->h'.get? b=some u)->as.length=es.size->(∀(j:Nat) (a:AD),as[j]? = some a->s.heap.objs.size<a/\a<D/\∃e,es[j]? = some e/\h'.get? a=some { cls:=.type "tuple",data:=.seq #[e.key,e.val]}) ->h'.get? D=some (seqObj "list" (ix.map fun i=>(as.map Value.ref).getD i Value.none).toArray I)->ix.Perm (List.range es.size)->(ix.map fun i=>ks.getD i ([],[])).Pairwise (fun x y=>if b=true then IT.LM.kle y x else IT.LM.kle x y)->s.heap.objs.size<=D->Q (.ref D) {s with heap:=h',toks:=tk}):wpAny Da A (call (.builtin "sorted") [.ref v] [(Str.ofString "reverse",.bool b)]) Q E s:=by
 refine call_function_entry_kw kind_sorted plain_sorted entry_sorted (args_sorted_rev _ _) ?_;unfold Builtin.«sorted»;refine Wb (m:=checkCount "sorted" 1 1 _) (aA ?_);refine Wb (gather (A:=A.in1) hh hv hm (by rw[sizeLine_eq];lia) fun g tk as z1 k1 Y hG=>?_);have R:(as.map Value.ref).length=es.size:=by rw[(Ah),Y]
 refine Wb (wpAny_newList ?_ (by rw[sizeLine_eq];lia));have C:ip IT.LM prog w g 2 ks (as.map Value.ref):=IT.gN (by rw[R,hl]) fun i x u hx U=>by
  rw[(BC)]at U;obtain⟨a,ha,rfl⟩:=aF.mp U;obtain⟨r1,e,r2,Z⟩:=hG i a ha;obtain⟨b,c,its,M,q1,q2,q3,q4,q5,q6⟩:=he i x e hx r2;refine⟨a,b,c,its,M,rfl,⟨_,Z,rfl,0,?_⟩,?_,q4,?_,q6⟩
  .rw[q1,q2]
  .obtain⟨o,y,r⟩:=q3;exact⟨o,k1 _ _ y,r⟩
  .obtain⟨o,y,r⟩:=q5;exact⟨o,k1 _ _ y,r⟩
 have hr:Runs IT.LM prog w (if b then ks.reverse else ks):=by
  cases b with
  |true=>exact Rz (O:=IT.LM) (ks:=ks.reverse) (show(ks.reverse:List IT.Tm).length<64 by rw[List.length_reverse,hl];exact hn)
  |false=>exact Rz (O:=IT.LM) (ks:=ks) (show(ks:List IT.Tm).length<64 by rw[hl];exact hn)
 obtain⟨g1,x2,fin⟩:=XJ (s:={s with heap:=g,toks:=tk}) (h1:=g) (T:=pure (.done (.ret .none))) (tk:=tk) (b:=b) (([],[]):IT.Tm) C AC hr (fun _ _ e=>e) (aH _)
  (Q:=fun x s'=>∃(h':Heap) (D tk:Nat) (ix:List Nat) (I:Nat),x=.ref D/\s'={s with heap:=h',toks:=tk}/\g.objs.size<=D/\Ext g h'/\h'.get? D=some (seqObj "list" (ix.map fun i=>(as.map Value.ref).getD i Value.none).toArray I)/\ix.Perm (List.range (as.map Value.ref).length)/\(ix.map fun i=>ks.getD i ([],[])).Pairwise (fun x y=>if b=true then IT.LM.kle y x else IT.LM.kle x y))
  (fun h' D tk ix I a1 a2 a3 a4 a5=>⟨h',D,tk,ix,I,rfl,rfl,a1,a2,a3,a4,a5⟩)
 refine Wb (bD (wpAny_call_entry_kw slot_list_sort ⟨_,g1,rfl⟩ entry_list_sort ?_ (args_list_sort_rev _ _)));refine Zt (s:={s with heap:=g.push (seqObj "list" (as.map Value.ref).toArray 0),toks:=tk}) (([],[]):IT.Tm) C x2 (aH _) g1 AC hr (by rw[show A.in1.in1.units=A.units+2 from rfl];lia) fun ix p1 p2=>⟨_,rfl,?_⟩;refine aA ⟨_,rfl,?_⟩;obtain⟨h',D,tk',ix',I,q1,q2,q3,q4,q5,q6,q7⟩:=fin ix p1 p2;rw[q1];have:=h h' D tk' ix' I as (fun b u e=>q4 _ _ (k1 b u e)) Y (fun j a hj=>by
  obtain⟨r1,e,r2,Z⟩:=hG j a hj;exact⟨r1,Nat.lt_of_lt_of_le (aD Z) q3,e,r2,q4 _ _ Z⟩) q5 (by rw[R]at q6;exact q6) q7 (aS (ba z1) q3)
 rw[<-q2]at this;exact this
end
end DI
namespace L2
open PySem PySem.Spec PyProof.Rows
def Inv.many{X:Cx}{pins:Db}{σ:St}{H H':Hp}{s:SD}{h':Heap}{t':Nat}(I:Cl)(k:∀b u,s.heap.get? b=some u->h'.get? b=some u)(g:∀b,b<s.heap.objs.size->H' b=H b)(Am:Dd X.prog X.w H' h'):Inv X pins σ H' {s with heap:=h',toks:=t'}:=by
 have lt:∀b o,H b=some o->b<s.heap.objs.size:=fun b o e=>(I.Am b o e).lt;have up:∀b o,H b=some o->H' b=some o:=fun b o e=>by rw[g b (lt b o e)];exact e
 show Inv X pins σ H' {s with heap:=h',gens:=s.gens,drawn:=s.drawn,toks:=t'};refine I.step (h':=h') (ch:=[]) (fun b hb=>nomatch hb) (fun b o _ _ _ e _=>k b o e) (fun b o _ _ _ e _=>⟨o.slots,k b o e⟩) (fun b o _ e n=>by rw[g b (aD e)];exact n) (fun b o _ e=>⟨o,k b o e⟩)
  (fun b xs e=>up b _ e) (fun b o u e=>up b _ e) (fun b ps e=>⟨#[],by rw[up b _ e];simp⟩) (fun b _ o _ _ e=>k b o e) (fun m hm=>?_) Am I.bare
 obtain⟨o,R,U,M,r⟩:=hm;exact⟨o,R,U,k _ o M,r⟩
theorem RE:∀ {ps:List Int} {us:List VL},Vals GT us->IT.Is ps us
 |[],_,r=>by rw[List.map_nil]at r;cases r;rw[IT.Is]
 |p::ps,_,r=>by
  rw[(C0)]at r;cases r with
  |cons h t=>
   obtain⟨tk,rfl⟩:=h;rw[IT.Is];exact⟨tk,_,rfl,RE t⟩
def gH{prog:F0b}{w:F0c}(d:AD)(nd:(d==sysModules)=false):MeetsIn prog w (Builtin.«dict.items» ⟨[.ref d],[]⟩) (fun _ R s=>(∃es ep,DI.RD s.heap d es ep)/\R (.ok (.ret (.ref s.heap.objs.size))) {s with heap:=s.heap.push { cls:=.type "dict_items",data:=.fields #[.ref d]} }) :=
 .of_wp fun A R s ⟨⟨es,ep,o,I,g,M⟩,h⟩=>by
  unfold Builtin.«dict.items»;refine Wb ?_;unfold Builtin.Dict.noArgs;refine Wb (wpAny_notOrdered_dict ⟨o,I,g.1⟩ ?_);refine aA (show wpAny _ _ (Builtin.Dict.showsAll d>>=_) _ _ s from ?_);unfold Builtin.Dict.showsAll;rw[nd,if_neg aO];exact Wb (aA (Wb (aY (aA ⟨_,rfl,h⟩))))
def iQ(H1:Hp)(x:V)(Q:VK):Prop:=∃(a:AD) (kvs:IF) (ts:List IT.Tm),x=.ref a/\H1 a=some (.dT kvs)/\kvs.length<64/\ts.length=kvs.length /\
 (∀(j:Nat) k v t,kvs[j]? = some (k,v)->ts[j]? = some t->k=t.1.map Sum.inl/\∃c,v=.ref c/\H1 c=some (.tup (t.2.map V.int))) /\
 ∀(D:AD) (H':Hp) (g:IR) (us:List IT.Tm),AK H1 H'->H1 D=none->H' D=some (.lst g)->us.Perm ts->us.Pairwise (fun x y=>IT.LM.kle y x)->g.length=us.length ->
  (∀(j:Nat) z t,g[j]? = some z->us[j]? = some t->∃p b c,z=.ref p/\H1 p=none/\H' p=some (.tup [.ref b,.ref c])/\H1 b=some (.tup (t.1.map V.int))/\H1 c=some (.tup (t.2.map V.int)))->Q (.ref D) H'
def WX(ps:t6):(ps.map (Sum.inl:Int->Key)).map kV=ps.map V.int:=by rw[(HM)];rfl
theorem N2{α β:Type}{F:α->β->Prop}:∀ {xs:List α} {ys:List β} {j:Nat} {x:α} {y:β},Paired F xs ys->xs[j]? = some x->ys[j]? = some y->F x y
 |_,_,j,x,y,.nil,h,_=>by simp at h
 |_,_,0,x,y,.cons f _,h,k=>by simp at h k;subst h k;exact f
 |_,_,j+1,x,y,.cons _ r,h,k=>N2 r (by simpa using h) (by simpa using k)
def Z2{α:Type}(d:α)(ts:List α){ix:List Nat}(h:ix.Perm (List.range ts.length)):(ix.map fun i=>ts.getD i d).Perm ts:=by
 have e:(List.range ts.length).map (fun i=>ts.getD i d)=ts:=by
  apply List.ext_getElem
  .simp
  .intro i g I;simp at g;simp[g]
 have:=h.map fun i=>ts.getD i d
 rwa [e]at this
theorem Ol:∀as:List AD,Vals (as.map V.ref) (as.map Value.ref)
 |[]=>.nil
 |a::as=>.cons rfl (Ol as)
def ib(h:Heap)(y:AD):Option HO:=match (h.get? y).map (fun o:Obj=>o.data) with
 |some (Data.seq g _)=>match g.toList with
  |[Value.ref b,Value.ref c]=>some (.tup [.ref b,.ref c])
  |_=>none
 |_=>none
def dQ{X:Cx}{pins:Db}{σ:St}{H:Hp}{s:SD}{Q:VK}(I:Cl){x:V}{v:VL}(rx:RelV x v)(hc:X.calm=true)(hu:X.A.units+64<cLine)(q:iQ H x Q):∃(a:AD) (es:Array DictEntry) (ep:Nat),v=.ref a/\(a==sysModules)=false/\DI.RD s.heap a es ep /\wpAny At X.A (call (.builtin "sorted") [.ref s.heap.objs.size] [(Str.ofString "reverse",.bool true)]) (EP X pins σ Q) X.xe {s with heap:=s.heap.push { cls:=.type "dict_items",data:=.fields #[.ref a]} }:=by
 obtain⟨a,kvs,ts,rfl,ha,h64,U,hterm,q⟩:=q;cases rx;obtain⟨hz,nd,xs,kt,o,es,ep,r1,r2,r3,r4,r5,r6⟩:=Yl I.Am ha;refine⟨a,es,ep,rfl,nd,⟨o,r1,r2,r3⟩,?_⟩;have g:es.size=kvs.length:=by rw[size_of_entries r4];exact(Paired.length kt).symm
 have I2:Inv X pins σ H {s with heap:=s.heap.push { cls:=.type "dict_items",data:=.fields #[.ref a]} }:=I.kept (t':=s.toks) fun b ob e=>aE _ e;have ent:∀(j:Nat) (e:DictEntry),es[j]? = some e->∃k w x,kvs[j]? = some (k,w)/\xs[j]? = some x/\e.key=.ref x.2.1/\e.val=x.2.2/\H x.2.1=some (.tup (k.map kV))/\RelV w x.2.2:=fun j e he=>by
  rw[entry_at r4 j]at he;obtain⟨x,hx,rfl⟩:=aF.mp he;have M:j<kvs.length:=by rw[Paired.length kt];exact(aB.mp hx).1
  obtain⟨kv,hkv⟩:∃kv,kvs[j]? = some kv:=⟨kvs[j],by simp[M]⟩;have:=N2 kt hkv hx;exact⟨kv.1,kv.2,x,hkv,hx,rfl,rfl,this.1 ▸ this.2.1,this.2.2⟩
 have trm:∀(j:Nat) (t:IT.Tm) (e:DictEntry),ts[j]? = some t->es[j]? = some e->∃b c,e.key=.ref b/\e.val=.ref c/\H b=some (.tup (t.1.map V.int))/\H c=some (.tup (t.2.map V.int)):=fun j t e ht he=>by
  obtain⟨k,w,x,h1,h2,h3,h4,h5,h6⟩:=ent j e he;obtain⟨rfl,c,rfl,h7⟩:=hterm j k w t h1 ht;rw[WX]at h5;refine⟨x.2.1,c,h3,?_,h5,h7⟩;rw[h4];obtain⟨xk,xb,xv⟩:=x;cases h6
  rfl
 have entV:∀(j:Nat) (k:IT.Tm) (e:DictEntry),ts[j]? = some k->es[j]? = some e->DI.og (s.heap.push { cls:=.type "dict_items",data:=.fields #[.ref a]}) k e:=fun j k e hk he=>by
  obtain⟨b,c,h1,h2,h3,h4⟩:=trm j k e hk he;obtain⟨i1,v1,p1,_⟩:=I2.tuple (Al.of (K:=X.K) h3);obtain⟨i2,v2,p2,_⟩:=I2.tuple (Al.of (K:=X.K) h4);exact⟨b,c,i1,i2,h1,h2,p1,RE v1,p2,RE v2⟩
 refine DI.Vq (s:={s with heap:=s.heap.push { cls:=.type "dict_items",data:=.fields #[.ref a]} }) (b:=true) (ks:=ts) (d:=a) (es:=es) (ep:=ep) (I.ok.hd hc) ⟨_,Heap.get?_push_size _ rfl,rfl,rfl⟩ ⟨o,Heap.get?_push_of_some _ r1,r2,r3⟩ AC AC entV AC fun h' D tk ix e1 as keep Y hG hD hp hs hge=>?_;have hsz:(s.heap.push { cls:=.type "dict_items",data:=.fields #[.ref a]}).objs.size=s.heap.objs.size+1:=Heap.size_push ..;simp only[hsz]at hG hge;have ixl:ix.length=kvs.length:=by rw[hp.length_eq,List.length_range];exact g
 have ixm:∀i∈ix,i<kvs.length:=fun i hi=>by
  have:=(hp.mem_iff (a:=i)).mp hi;rw[List.mem_range]at this
  lia
 have szD:D<h'.objs.size:=aD hD;have at_:∀j R,as[j]? = some R->∃(b c:AD) (t:IT.Tm),ts[j]? = some t/\h'.get? R=some { cls:=.type "tuple",data:=.seq #[.ref b,.ref c]}/\H b=some (.tup (t.1.map V.int))/\H c=some (.tup (t.2.map V.int))/\s.heap.objs.size<R/\R<D:=fun j R M=>by
  obtain⟨h1,h2,e,h3,h4⟩:=hG j R M;have hjk:j<ts.length:=by
   rw[U,<-g,<-Y];exact(aB.mp M).1
  obtain⟨t,ht⟩:∃t,ts[j]? = some t:=⟨ts[j],by simp[hjk]⟩;obtain⟨b,c,k1,k2,k3,k4⟩:=trm j t e ht h3;rw[k1,k2]at h4;exact⟨b,c,t,ht,h4,k3,k4,by lia,h2⟩
 let zs:List V:=ix.map fun i=>(as.map V.ref).getD i .Bj
 let H':Hp:=fun y=>if y=D then some (.lst zs) else if y∈as then ib h' y else H y
 have hHD:H' D=some (.lst zs):=if_pos rfl;have hHa:∀(j:Nat) R b c,as[j]? = some R->h'.get? R=some { cls:=.type "tuple",data:=.seq #[.ref b,.ref c]}->H' R=some (.tup [.ref b,.ref c]):=fun j R b c M hb=>by
  obtain⟨_,_,_,_,_,_,_,_,hlt⟩:=at_ j R M;show(if R=D then _ else _)=_;rw[if_neg (aP hlt),if_pos (aI M)];unfold ib;rw[hb]
  rfl
 have hHo:∀y,y<s.heap.objs.size+1->H' y=H y:=fun y hy=>by
  have Z:y≠D:=by lia
  show(if y=D then _ else _)=_;rw[if_neg Z];refine if_neg fun hm=>?_;obtain⟨j,M⟩:=ah hm;obtain⟨_,_,_,_,_,_,_,h1,_⟩:=at_ j y M
  lia
 have up:∀b o,H b=some o->H' b=some o:=fun b o e=>by
  rw[hHo b (bY (I.Am b o e).lt)];exact e
 have Am:Dd X.prog X.w H' h':=fun y u e=>by
  by_cases Z:y=D
  .subst Z;rw[hHD]at e;cases e;refine⟨?_,_,e1,?_,hD⟩
   .show(ix.map _).length<=sizeLine;rw[(Ah),ixl];exact hz
   .exact Vals.pick (Ol as) ix fun i hi=>by rw[(Ah),Y,g];exact ixm i hi
  .by_cases hm:y∈as
   .obtain⟨j,M⟩:=ah hm;obtain⟨b,c,t,h1,h2,h3,h4,_,_⟩:=at_ j y M;rw[hHa j y b c M h2]at e;cases e;exact⟨di,[.ref b,.ref c],.cons rfl (.cons rfl .nil),_,h2,rfl,_,rfl⟩
   .have e':H y=some u:=by
     have:H' y=H y:=by
      show(if y=D then _ else _)=_;rw[if_neg Z,if_neg hm]
     rw[this]at e;exact e
    exact(I.Am y u e').JL (fun b o _ z=>keep b o (aE _ z)) (fun b z=>up _ _ z) fun b xs z=>up _ _ z
 have I3:Inv X pins σ H' {s with heap:=h',toks:=tk}:=I.many (fun b u e=>keep b u (aE _ e)) (fun b hb=>hHo b AC) Am;refine⟨.ref D,H',I3,rfl,q D H' zs (ix.map fun i=>ts.getD i ([],[])) up (I.Am.fresh AC) hHD (Z2 _ ts (by rw[U,<-g];exact hp)) ?_ (by simp[zs]) fun j z t hz' ht=>?_⟩
 .simpa using hs
 .have M:j<ix.length:=by
   have:=(aB.mp ht).1
   simpa using this
  have hix:ix[j]? = some ix[j]:=by simp[M]
  have hi:=ixm ix[j] (aq M);have k1:z=.ref (as[ix[j]]'(by rw[Y,g];exact hi)):=by
   have:zs[j]? = some ((as.map V.ref).getD ix[j] .Bj):=by
    show(ix.map _)[j]? = _;rw[(BC),hix];rfl
   rw[this]at hz';cases hz';simp[List.getD_eq_getElem?_getD,List.getElem?_map,show ix[j]<as.length by rw[Y,g];exact hi]
  have k2:t=ts[ix[j]]'(by rw[U];exact hi):=by
   rw[(BC),hix]at ht;simp[List.getD_eq_getElem?_getD,show ix[j]<ts.length by rw[U];exact hi]at ht;exact ht.symm
  obtain⟨b,c,t',h1,h2,h3,h4,h5,h6⟩:=at_ ix[j] (as[ix[j]]'(by rw[Y,g];exact hi)) (aG _);have k3:t'=t:=by
   rw[k2];rw[List.getElem?_eq_getElem (by rw[U];exact hi)]at h1;exact(ao h1).symm
  subst k3;exact⟨_,b,c,k1,I.Am.fresh AC,hHa _ _ b c (aG _) h2,h3,h4⟩
def lH(to:TE):TE:=fun σ H Q=>to σ H fun x H1=>iQ H1 x Q
def fG{X:Cx}{o:Expr}{to:TE}{p pos apos g kp Y:Pos}{j}(hc:X.calm=true)(hu:X.A.units+64<cLine)(hg:Gl X "sorted")(hm:X.mg "sorted" = none)(ho:PE X o to) (U:attributeBase o "items" X.env (eval o X.env)=eval o X.env:=by rfl)(R:(apos.endLine==g.line)=true:=by rfl) (he:backTo pos (starEach [.Call (.Attribute o "items" apos) [] [] g] X.env)=(false,eval (.Call (.Attribute o "items" apos) [] [] g) X.env)::backTo pos (starEach [] X.env):=by rfl)(M:(backTo pos (starEach [.Call (.Attribute o "items" apos) [] [] g] X.env)).any (·.1)=false:=by rfl):PE X (.Call (.Name "sorted" p) [.Call (.Attribute o "items" apos) [] [] g] [⟨some "reverse",.Constant (.bool true) j Y,kp⟩] pos) (lH to):=by
 intro pins s σ H Q I h;refine bf (HN I hg hm boot_sorted ?_ AS AS);refine callWith_kw ?_ he M;rw[he];refine Calls.spliced_cons (wpAny_Call_method0_late U R (BA (ho pins s σ H _ I h) fun v s1 ⟨x,H1,I1,r1,q1⟩=>?_));obtain⟨a,es,ep,rfl,nd,rd,fin⟩:=dQ I1 r1 hc hu q1;obtain⟨ob,e1,Z,e3⟩:=id rd;refine⟨"dict","dict.items",PySem.F.plainAttrs_dict,PySem.F.slot_dict_items,PySem.F.type_dict_items,⟨ob,e1,Z.1⟩,fun b hb=>?_,Calls.callWith_builtin rfl (PySem.evalArgs_none ?_)⟩
 .cases hb;exact⟨ob,e1,Z.2.1⟩
 refine call_meetsIn PySem.F.slot_dict_items ⟨ob,e1,Z.1⟩ PySem.F.entry_dict_items (PySem.F.args_dict_items_1 _) (gH a nd) ⟨⟨es,ep,rd⟩,?_⟩;exact Calls.spliced_nil (kws_cons (Constant_bool (kws_nil fin)))
end L2
namespace IT
open PySem PySem.W PyProof.Rows PySem.SeqAt
section
open PySem.AutoSeq1 (wpAny_loadPart')
open PySem.MeetsSeq PySem.MeetsSeq2 PySem.MeetsSeq3
def gf(l b:AD)(items I:Array VL)(n n2:Nat)(dd dd2:Option AD)(sl sl2:Array (Option VL))(t u:t6):Meets (Builtin.«tuple.__ge__» ⟨[.ref l,.ref b],[]⟩) (fun A R s=>s.heap.get? l=some { cls:=.type "tuple",dict:=dd,data:=.seq items n,slots:=sl}/\s.heap.get? b=some { cls:=.type "tuple",dict:=dd2,data:=.seq I n2,slots:=sl2} /\Is t items.toList/\Is u I.toList/\A.units<cLine/\R (.ok (.ret (.bool (!lt t u)))) s) :=
 .of_wp fun prog w A R s h=>by
  obtain⟨hp,g,d,tk,os⟩:=s;obtain⟨hl,hb,hi,hj,hun,h⟩:=h;have f2:=AutoSeq1.sub_tuple_tuple;have z1:items.size=t.length:=by rw[<-Is.length hi];simp
  have z2:I.size=u.length:=by rw[<-Is.length hj];simp
  wp_walk using wpAny_loadPart' hl,wpAny_loadPart' hb,wpAny_forIn_list _ (fun rest b s'=>b.1=none/\s'=⟨hp,g,d,tk,os⟩/\∃(vs ws:List VL) (t' Z:List Int),rest=vs.zip ws /\
   Is t' vs/\Is Z ws/\t'.length+I.size=Z.length+items.size/\R (.ok (.ret (.bool (!lt t' Z)))) ⟨hp,g,d,tk,os⟩) _
  case turn=>
   rintro⟨y,x⟩ rest b s' ⟨hb',rfl,vs,ws,t',Z,hz,Y,U,M,hR⟩;cases t' with
   |nil=>rw[Is]at Y;subst Y;rw[List.zip_nil_left]at hz;cases hz
   |cons bt rt=>
    cases Z with
    |nil=>rw[Is]at U;subst U;rw[List.zip_nil_right]at hz;cases hz
    |cons bu ru=>
     rw[Is]at Y U;obtain⟨a1,v1,rfl,p3⟩:=Y;obtain⟨a2,v2,rfl,q3⟩:=U;rw[List.zip_cons_cons]at hz
     injection hz with hyx hrest
     injection hyx with hy hx
     subst hy hx;rw[lt]at hR;simp only[List.length_cons]at M;have he:=EqAt.int_int (A:=A.in1) (s:=⟨hp,g,d,tk,os⟩) bt a1 bu a2;refine Wb (he prog w _ _ ?_);by_cases hc:bt=bu
     .rw[if_pos hc]at hR;rw[beq_iff_eq.mpr hc]
      wp_walk
      exact⟨rfl,rfl,_,_,_,_,hrest,p3,q3,by lia,hR⟩
     .rw[if_neg hc]at hR;rw[beq_eq_false_iff_ne.mpr hc];have hri:∀(E:VL->SD->Prop) (Q:VL->SD->Prop),Q (.bool (decide (bu<=bt))) ⟨hp,g,d,tk,os⟩->wpAny Da A.in1 (richCompare .GtE (.int bt a1) (.int bu a2)) Q E ⟨hp,g,d,tk,os⟩:=fun E Q h=>PyProof.Rows.ge_int h;have e:(!decide (bt<bu))=decide (bu<=bt):=by rw[(NI)];simp
      rw[e]at hR
      wp_walk using hri
      exact⟨_,rfl,by simpa using hR⟩
  case fin=>
   rintro⟨b1,b2⟩ s' ⟨hb',rfl,vs,ws,t',Z,hz,Y,U,M,hR⟩;simp only at hb';subst hb';have hv:lt t' Z=decide (items.size<I.size):=by
    cases t' with
    |nil=>
     cases Z with
     |nil=>
      simp only[List.length_nil]at M;exact(bM AC).symm
     |cons c q=>
      simp only[List.length_cons,List.length_nil]at M;exact(bV AC).symm
    |cons bt rt=>
     cases Z with
     |nil=>
      simp only[List.length_cons,List.length_nil]at M;exact(bM AC).symm
     |cons c q=>
      rw[Is]at Y U;obtain⟨_,_,rfl,_⟩:=Y;obtain⟨_,_,rfl,_⟩:=U;rw[List.zip_cons_cons]at hz;cases hz
   have e:(!decide (items.size<I.size))=decide (I.size<=items.size):=by rw[(NI)];simp
   rw[hv,e]at hR
   wp_walk
   exact⟨_,rfl,by simpa[Builtin.Tuple.tupleCompareSizes]using hR⟩
  case h=>
   exact⟨rfl,rfl,items.toList,I.toList,t,u,rfl,hi,hj,by lia,h⟩
end
section
open PySem.MeetsSeq PySem.MeetsSeq2 PySem.MeetsSeq3
variable{prog:F0b}{w:F0c}{A:F0d}{E:tj}{s:SD}{t u:t6}{a b:AD}{its its':tf}
def pA{Q:tj}(h1:s.heap.IsTuple a its.toArray)(k1:Is t its)(h2:s.heap.IsTuple b its'.toArray)(k2:Is u its')(hu:A.units+1<cLine)(h:Q (.bool (!lt t u)) s):wpAny Da A (richCompare .GtE (.ref a) (.ref b)) Q E s:=by
 obtain⟨⟨cls,dd,data,sl⟩,Z,hc,n,M⟩:=id h1;obtain⟨⟨cls2,Y,data2,U⟩,I,R,n2,g⟩:=id h2;simp only at hc M R g;subst hc M R g;exact richCompare_meets_room (op:=.GtE) ⟨_,Z,rfl⟩ ⟨_,I,rfl⟩ PySem.F.slot_tuple_ge PySem.F.entry_tuple_ge (PySem.F.args_tuple_ge_2 _ _) (gf a b its.toArray its'.toArray n n2 dd Y sl U t u)
  ⟨Z,I,by simpa using k1,by simpa using k2,by lia,show Value.bool (!lt t u)≠Value.notImplemented/\Q (.bool (!lt t u)) s from⟨(fun x=>nomatch x),h⟩⟩ AC
end
end IT
namespace L2
open PySem PySem.Spec PyProof.Rows
def lM{X:Cx}(hu:X.A.units+64<cLine):Dp X (compareOp .GtE) (fun x y H Q=>∃(a b:AD) (ps qs:t6),x=.ref a/\y=.ref b/\H a=some (.tup GT)/\H b=some (.tup (qs.map V.int))/\Q (.bl (!IT.lt ps qs)) H):=by
 intro pins s σ H x y v u' Q I U R h;obtain⟨a,b,ps,qs,rfl,rfl,ha,hb,q⟩:=h;cases U;cases R;obtain⟨i1,M,Z,_⟩:=I.tuple (Al.of (K:=X.K) ha);obtain⟨i2,g,Y,_⟩:=I.tuple (Al.of (K:=X.K) hb);exact IT.pA Z (RE M) Y (RE g) AC ⟨.bl _,H,I,rfl,q⟩
end L2
namespace TH
open PySem PyProof.Rows PySem.SeqAt
def ZK:Tr->List Int
 |.nil=>[]
 |.cons b r=>reduceHash (Builtin.Tuple.tupleHashOf (ZK b))::ZK r
def qD(t:Tr):Int:=reduceHash (Builtin.Tuple.tupleHashOf (ZK t))
end TH
namespace TH
open PySem PyProof.Rows PySem.SeqAt
section
variable{h:Int}
def Rk{n:Nat}(h:n<=100000):n<=sizeLine:=aS h (by rw[sizeLine_eq];decide)
end
end TH
namespace TH
open PySem PyProof.Rows PySem.SeqAt
section
variable{prog:F0b}{w:F0c}{A:F0d}{E:tj}{s:SD}
def gather{T:String}{r d:AD}{n:Nat}{P:Nat->VL->Prop}{U:Heap->Prop}{R:List VL->SD->Prop}(K:PySem.W.KdlSrc prog w T r d n P U)(Z:A.handled=none)(Am:U s.heap)(hn:n<=sizeLine) (k:∀(h1:Heap) (tk:Nat) (g:Array VL),s.heap.objs.size<h1.objs.size->(∀b u,s.heap.get? b=some u->h1.get? b=some u)->ItemsOf P g n->R g.toList {s with heap:=h1,toks:=tk}):wpAny Da A (collect (.ref r)) R E s:=by
 obtain⟨Y,ld⟩:=K.there _ Am;unfold collect;refine Wb (wpAny_runValue (codeAny_builtin entry_proto_collect' ?_));rw[Around.under_plainId PySem.F.plain_proto_collect _];show wpAny _ A.in1 (newList []>>=fun v=>again (.builtin "list.__iadd__" ⟨[v,.ref r],[]⟩)) _ _ s;refine Wb (aY (aA ⟨plainId_quiet PySem.F.plain_list_iadd _,codeAny_builtin entry_list_iadd' ?_⟩));rw[Around.under_plainId PySem.F.plain_list_iadd _];have g0:(s.heap.push { cls:=.type "list",data:=.seq ([]:List VL).toArray}).get? s.heap.objs.size=some { cls:=.type "list",data:=.seq #[]}:=aV _ rfl;have main:=PySem.W.kdl_extend (A:=A) (s:={s with heap:=s.heap.push { cls:=.type "list",data:=.seq ([]:List VL).toArray} }) K Z
  (K.keep _ _ Am fun _ _ _ e=>aE _ e) s.heap.objs.size (bF Y) (bF ld) (.ref s.heap.objs.size) 0 g0
  (R:=fun q s1=>∃h1 tk g c,q=.ok (.ret (.ref s.heap.objs.size))/\s1={s with heap:=h1,toks:=tk}/\(∀b u,s.heap.get? b=some u->h1.get? b=some u)/\h1.get? s.heap.objs.size=some { cls:=.type "list",dict:=none,data:=.seq g c,slots:=#[]}/\ItemsOf P g n)
  (fun h1 tk g c M I ha=>⟨h1,tk,g,c,rfl,rfl,fun b u e=>M b u (aP (aD e)) (aE _ e),I,ha⟩) hn
 refine aW main (fun fin s1 x=>?_) fun e s1 x=>?_
 .cases fin with
  |done f=>
   obtain⟨h1,tk,g,c,e,rfl,M,I,ha⟩:=x;cases e;show wpAny _ A (load s.heap.objs.size>>=_) _ _ _;exact Wb (wpAny_load I (aA (k h1 tk g (aD I) M ha)))
  |again c1=>
   refine⟨x.1,codeAny_mono x.2 fun q s2 y=>?_⟩;obtain⟨h1,tk,g,c,rfl,rfl,M,I,ha⟩:=y;show wpAny _ A (load s.heap.objs.size>>=_) _ _ _;exact Wb (wpAny_load I (aA (k h1 tk g (aD I) M ha)))
 .obtain⟨_,_,_,_,z,_⟩:=x;cases z
end
end TH
namespace TH
open PySem PyProof.Rows
def pJ:Option Tr->Int
 |none=>4238894112
 |some t=>qD t
abbrev KE:=Option Tr×VL×VL
def rj(x:KE):DictEntry:=⟨pJ x.1,x.2.1,x.2.2⟩
end TH
namespace L2
open PySem PySem.Spec PyProof.Rows
abbrev KR:=Option Tr×V×V
def sO(q:KR)(x:TH.KE):Prop:=x.1=q.1/\RelV q.2.1 x.2.1/\RelV q.2.2 x.2.2
def dN(d:AD)(r:List KR):HO:=.ext fun h=>(d==sysModules)=false/\∃o g I xs,h.get? d=some o/\o.ExactDict/\o.data=.dict g I/\g.toList=xs.map TH.rj/\PySem.Paired sO r xs
def Yk(H:Hp):Option Tr->V->Prop
 |none,v=>v=.Bj
 |some t,v=>t.deep<8/\Tv H t v
def Yk.same{H H':Hp}{k:Option Tr}{v:V}(h:Yk H k v)(e:AK H H'):Yk H' k v:=by
 cases k with
 |none=>exact h
 |some t=>exact⟨h.1,h.2.same e⟩
section
variable{X:Cx}
def Lw(hc:X.calm=true):I0 X (.builtin "sum") (fun xs H Q=>∃(p:AD) (ns:t6),xs=[.ref p]/\Al X.K H p (ns.map V.int)/\Q (.int ns.sum) H):=by
 intro pins s σ H xs us Q I r h;obtain⟨p,ns,rfl,hq,q⟩:=h;obtain⟨u,rfl,r1⟩:=r.one;cases r1;obtain⟨U,rv,pl,hz⟩:=I.tuple hq;have hi:=intsAre_of rv;obtain⟨xs,Z⟩:=hi.allInts.items;have g:s.heap.IsTuple p (intItems xs):=Z ▸ pl
 have R:p<s.heap.objs.size:=by obtain⟨_,e,_⟩:=g;exact aD e
 have e1:ns=xs.toList.map (·.1):=by
  rw[<-nums_intItems,<-Z];exact(show numsOf U.toArray.toList=ns from hi.numsOf).symm
 have e2:preSum (numAt xs) xs.size=ns.sum:=by
  rw[preSum_eq,List.take_of_length_le Do,e1]
 refine call_sum_walkG (wpAny_pyIter_tuple g ?_);refine⟨_,[_,p],[_],_,_,_,numAt xs,rfl,Walks.tuple (A:=X.A.in1) (I.ok.hd hc) _ p (aP R) (intItems xs),
  ⟨⟨_,Heap.get?_push_size _ rfl,rfl,rfl⟩,g.push _⟩,fun c M=>?_,(fun _ _=>intItems_at),fun h' tk Y hk=>?_⟩
 .show c<(s.heap.push _).objs.size;rw[(MO)];rcases aU.mp M with rfl|M
  .exact Nat.lt_succ_self _
  .rw[List.mem_singleton.mp M];exact bY R
 .have e3:preSum (numAt xs) (intItems xs).size=ns.sum:=by
   rw[<-e2];simp[intItems]
  rw[e3];exact⟨.int _,H,I.kept (t':=tk) (PyProof.Rows.LSm.kept_iter hk),⟨Y,rfl⟩,q⟩
end
end L2
namespace L2
open PySem PySem.Spec PyProof.Rows
def Rd.same{H H':Hp}{a:AD}{u:HO}(e:AK H H')(h:Rd H a u):Rd H' a u:=by
 rcases h with h|⟨o,h⟩
 .exact .inl (e _ _ h)
 .exact .inr ⟨o,e _ _ h⟩
def ME:Tr->List PD
 |.nil=>[]
 |.cons b r=>.tuple (ME b)::ME r
def oJ:Option Tr->PD
 |none=>.none
 |some t=>.tuple (ME t)
mutual
def Du(H:Hp):PD->V->Prop
 |.none,v=>v=.Bj
 |.bool b,v=>v=.bl b
 |.int i,v=>v=.int i
 |.str x,v=>v=.str x
 |.tuple g,v=>∃a xs,v=.ref a/\H a=some (.tup xs)/\Ay H g xs
 |.list g,v=>∃a xs,v=.ref a/\H a=some (.lst xs)/\Ay H g xs
 |.dict kv,v=>(∃ea C:AD,kv=[(.int (C:Nat),.none)]/\v=.ref ea/\H ea=some (NA ea IO))\/(∃(a:AD) (ns:List Int),kv=[(.none,.list (ns.map .int))]/\v=.ref a/\Rd H a (.lst (ns.map V.int)))\/Mb H kv v
def Ay(H:Hp):List PD->List V->Prop
 |[],xs=>xs=[]
 |d::g,xs=>∃x r,xs=x::r/\Du H d x/\Ay H g r
def Mb(H:Hp):List (PD×PD)->V->Prop
 |[],_=>False
 |(g,I)::t,v=>g=.bool true/\I=.none/\∃a r,v=.ref a/\H a=some (dN a r)/\(r.map (·.1)).Nodup/\Ni H t r
def Ni(H:Hp):List (PD×PD)->List KR->Prop
 |[],r=>r=[]
 |(k,d)::t,r=>∃q g,r=q::g/\k=oJ q.1/\Yk H q.1 q.2.1/\Du H d q.2.2/\Ni H t g
end
mutual
theorem Du.same{H H':Hp}(e:AK H H'):∀ {d:PD} {v:V},Du H d v->Du H' d v
 |.none,_,h=>by rw[Du]at h ⊢;exact h
 |.bool _,_,h=>by rw[Du]at h ⊢;exact h
 |.int _,_,h=>by rw[Du]at h ⊢;exact h
 |.str _,_,h=>by rw[Du]at h ⊢;exact h
 |.tuple _,_,h=>by
  rw[Du]at h ⊢;obtain⟨a,xs,I,g,M⟩:=h;exact⟨a,xs,I,e _ _ g,Ay.same e M⟩
 |.list _,_,h=>by
  rw[Du]at h ⊢;obtain⟨a,xs,I,g,M⟩:=h;exact⟨a,xs,I,e _ _ g,Ay.same e M⟩
 |.dict _,_,h=>by
  rw[Du]at h ⊢;rcases h with ⟨ea,C,I,R,g⟩|⟨a,ns,I,R,g⟩|h
  .exact .inl ⟨ea,C,I,R,e _ _ g⟩
  .exact .inr (.inl ⟨a,ns,I,R,g.same e⟩)
  .exact .inr (.inr (Mb.same e h))
theorem Ay.same{H H':Hp}(e:AK H H'):∀ {ds:List PD} {xs:IR},Ay H ds xs->Ay H' ds xs
 |[],_,h=>by rw[Ay]at h ⊢;exact h
 |_::_,_,h=>by
  rw[Ay]at h ⊢;obtain⟨x,r,M,I,g⟩:=h;exact⟨x,r,M,Du.same e I,Ay.same e g⟩
theorem Mb.same{H H':Hp}(e:AK H H'):∀ {kv:List (PD×PD)} {v:V},Mb H kv v->Mb H' kv v
 |[],_,h=>by rw[Mb]at h;exact h.elim
 |(_,_)::_,_,h=>by
  rw[Mb]at h ⊢;obtain⟨Y,U,a,r,R,M,I,g⟩:=h;exact⟨Y,U,a,r,R,e _ _ M,I,Ni.same e g⟩
theorem Ni.same{H H':Hp}(e:AK H H'):∀ {kv:List (PD×PD)} {r:List KR},Ni H kv r->Ni H' kv r
 |[],_,h=>by rw[Ni]at h ⊢;exact h
 |(_,_)::_,_,h=>by
  rw[Ni]at h ⊢;obtain⟨q,g,Y,U,R,M,I⟩:=h;exact⟨q,g,Y,U,R.same e,Du.same e M,Ni.same e I⟩
end
mutual
theorem Du.br{K:Fg}{H:Hp}:∀ {d:PD} {v:V},d.canLay0=true->Du H d v->Br K H d v
 |.none,_,_,h=>by rw[Du]at h;rw[Br];exact h
 |.bool _,_,_,h=>by rw[Du]at h;rw[Br];exact h
 |.int _,_,_,h=>by rw[Du]at h;rw[Br];exact h
 |.str _,_,_,h=>by rw[Du]at h;rw[Br];exact h
 |.tuple _,_,c,h=>by
  rw[Du]at h;rw[Br];obtain⟨a,xs,M,I,g⟩:=h;exact⟨a,xs,M,Al.of I,Ay.br (by simp only[PyData.canLay0,Bool.and_eq_true]at c;first|exact c|exact c.2|exact c.1) g⟩
 |.list _,_,c,h=>by
  rw[Du]at h;rw[Br];obtain⟨a,xs,M,I,g⟩:=h;exact⟨a,xs,M,AU.of I,Ay.br (by simp only[PyData.canLay0,Bool.and_eq_true]at c;first|exact c|exact c.2|exact c.1) g⟩
 |.dict _,_,c,h=>by simp[PyData.canLay0]at c
theorem Ay.br{K:Fg}{H:Hp}:∀ {ds:List PD} {xs:IR},PyData.canLayAll0 ds=true->Ay H ds xs->FL K H ds xs
 |[],_,_,h=>by rw[Ay]at h;rw[FL];exact h
 |_::_,_,c,h=>by
  rw[Ay]at h;rw[FL];obtain⟨x,r,M,I,g⟩:=h;simp only[PyData.canLayAll0,Bool.and_eq_true]at c;exact⟨x,r,M,Du.br c.1 I,Ay.br c.2 g⟩
end
def Ay.nil{H:Hp}:Ay H [] []:=by rw[Ay]
def Ay.cons{H:Hp}{d:PD}{ds:tZ}{x:V}{xs:uD}(h:Du H d x)(k:Ay H ds xs):Ay H (d::ds) (x::xs):=by rw[Ay];exact⟨x,xs,rfl,h,k⟩
def Ay.un{H:Hp}{d:PD}{ds:tZ}{xs:uD}(h:Ay H (d::ds) xs):∃x r,xs=x::r/\Du H d x/\Ay H ds r:=by rw[Ay]at h;exact h
def Ay.nil_eq{H:Hp}{xs:uD}(h:Ay H [] xs):xs=[]:=by rw[Ay]at h;exact h
def Ay.len{H:Hp}:∀ {ds:List PD} {xs:IR},Ay H ds xs->xs.length=ds.length
 |[],_,h=>by rw[h.nil_eq];rfl
 |_::_,_,h=>by obtain⟨x,r,rfl,_,g⟩:=h.un;simp[g.len]
def Ay.get{H:Hp}:∀ {ds:List PD} {xs:IR} {i:Nat} {d:PD},Ay H ds xs->ds[i]? = some d->∃v,xs[i]? = some v/\Du H d v
 |[],_,i,_,_,e=>by simp at e
 |_::_,_,0,_,h,e=>by
  obtain⟨x,r,rfl,R,_⟩:=h.un;simp at e;subst e;exact⟨x,rfl,R⟩
 |_::_,_,i+1,_,h,e=>by
  obtain⟨x,r,rfl,_,M⟩:=h.un;obtain⟨v,I,g⟩:=M.get (i:=i) (by simpa using e);exact⟨v,by simpa using I,g⟩
def Ay.back{H:Hp}{ds:tZ}{xs:uD}{i:Nat}{v:V}(h:Ay H ds xs)(e:xs[i]? = some v):∃d,ds[i]? = some d/\Du H d v:=by
 have M:=h.len;have hi:i<ds.length:=by rw[<-M];exact(aB.mp e).1
 have hd:ds[i]? = some ds[i]:=by simp[hi]
 obtain⟨w,g,I⟩:=h.get hd;rw[e]at g;cases g;exact⟨_,hd,I⟩
def Ay.app{H:Hp}:∀ {ds es:List PD} {xs ys:IR},Ay H ds xs->Ay H es ys->Ay H (ds++es) (xs++ys)
 |[],_,_,_,h,k=>by rw[h.nil_eq];exact k
 |_::_,_,_,_,h,k=>by obtain⟨x,r,rfl,I,g⟩:=h.un;exact .cons I (g.app k)
def Ay.take{H:Hp}:∀ {ds:List PD} {xs:IR} (i:Nat),Ay H ds xs->Ay H (ds.take i) (xs.take i)
 |_,_,0,_=>by rw[List.take_zero,List.take_zero];exact .nil
 |[],_,i+1,h=>by rw[h.nil_eq];exact .nil
 |_::_,_,i+1,h=>by obtain⟨x,r,rfl,I,g⟩:=h.un;exact .cons I (g.take i)
def Ay.drop{H:Hp}:∀ {ds:List PD} {xs:IR} (i:Nat),Ay H ds xs->Ay H (ds.drop i) (xs.drop i)
 |_,_,0,h=>h
 |[],_,i+1,h=>by rw[h.nil_eq];exact .nil
 |_::_,_,i+1,h=>by obtain⟨x,r,rfl,I,g⟩:=h.un;exact g.drop i
inductive Oc where
 |lst (xs:List PyData)|L5 (kvs:List (List Key×PyData))|cp (kvs:List (Option Tr×PyData))
inductive L where
 |no|d (x:PyData)|own (c:Oc)
abbrev Dv:=List L
abbrev tW:=Dv->Option (List PD)
abbrev tX:=Dv->Option PD
abbrev tY:=Dv->Option Bool
def KL(G:Hp):List (List Key×PD)->List (List Key×V)->Prop
 |[],r=>r=[]
 |q::t,r=>∃v g,r=(q.1,v)::g/\Du G q.2 v/\KL G t g
theorem KL.same{G g:Hp}(e:AK G g):∀ {t:List (List Key×PD)} {r:IF},KL G t r->KL g t r
 |[],r,h=>h
 |q::t,r,h=>by
  obtain⟨v,I,rfl,R,M⟩:=h;exact⟨v,I,rfl,R.same e,KL.same e M⟩
abbrev ir(kvs:List (Option Tr×PD)):List (PD×PD):=kvs.map fun q=>(oJ q.1,q.2)
abbrev pd(kvs:List (Option Tr×PD)):PD:=.dict ((.bool true,.none)::ir kvs)
def O5(G:Hp)(a:AD):Oc->HO->Prop
 |.lst xs,o=>∃ys,o=.lst ys/\Ay G xs ys
 |.L5 kvs,o=>∃r,o=.dT r/\KL G kvs r
 |.cp kvs,o=>∃r,o=dN a r/\(r.map (·.1)).Nodup/\Ni G (ir kvs) r
def O5.same{G M:Hp}{a:AD}{c:Oc}{o:HO}(h:O5 G a c o)(e:AK G M):O5 M a c o:=by
 cases c with
 |cp kvs=>obtain⟨r,I,g,R⟩:=h;exact⟨r,I,g,Ni.same e R⟩
 |lst xs=>obtain⟨ys,I,g⟩:=h;exact⟨ys,I,g.same e⟩
 |L5 kvs=>obtain⟨ys,I,g⟩:=h;exact⟨ys,I,g.same e⟩
def O5.ZJ{G:Hp}{a:AD}{c:Oc}{xs:uD}(h:O5 G a c (.tup xs)):False:=by
 cases c with
 |cp kvs=>obtain⟨r,g,I,M⟩:=h;unfold dN at g;cases g
 |lst xs=>obtain⟨ys,g,I⟩:=h;cases g
 |L5 kvs=>obtain⟨ys,g,I⟩:=h;cases g
def Nw(G0 H0 G:Hp):Prop:=∀a o,G a=some o->G0 a=some o\/H0 a=none\/∃xs,o=HO.tup xs
structure Rw(G0 H0 G H:Hp)(σ:St)(δ:Dv)(ts:List (PyData×V)):Prop where
 ext:AK G0 G
 new:Nw G0 H0 G
 ins:AK G H
 keep:AK H0 H
 len:σ.length=δ.length
 dat:∀(i:Nat) (x:PyData),δ[i]? = some (L.d x)->∃v,σ[i]? = some (some v)/\Du G x v
 own:∀(i:Nat) (xs:Oc),δ[i]? = some (L.own xs)->∃(a:Addr) (ys:HO),σ[i]? = some (some (V.ref a))/\G a=none/\H0 a=none/\H a=some ys/\O5 G a xs ys
 apart:∀(i j:Nat) (xs ys:Oc),i≠j->δ[i]? = some (L.own xs)->δ[j]? = some (L.own ys)->σ[i]?≠σ[j]?
 DZ:∀p∈ts,Du G p.1 p.2
def DE(X:Cx)(e:Expr)(f:tX):Prop:=∃t,PE X e t/\∀δ x,f δ=some x->∀G0 H0 G H σ ts (Q:VK),Rw G0 H0 G H σ δ ts->(∀v g H',Rw G0 H0 g H' σ δ ((x,v)::ts)->Q v H')->t σ H Q
def DA(X:Cx)(es:t8)(f:tW):Prop:=∃t,PA X es t/\∀δ xs,f δ=some xs->∀G0 H0 G H σ ts (Q:List V->Hp->Prop),Rw G0 H0 G H σ δ ts->(∀vs g H',Rw G0 H0 g H' σ δ (xs.zip vs++ts)->vs.length=xs.length->Q vs H')->t σ H Q
def DT(X:Cx)(e:Expr)(f:tY):Prop:=∃t,PT X e t/\∀δ b,f δ=some b->∀G0 H0 G H σ ts (Q:Bool->Hp->Prop),Rw G0 H0 G H σ δ ts->(∀g H',Rw G0 H0 g H' σ δ ts->Q b H')->t σ H Q
section
variable{G0 H0 G H:Hp}{σ:St}{δ:Dv}{ts:List (PD×V)}
def Rw.drop{p:PD×V}(r:Rw G0 H0 G H σ δ (p::ts)):Rw G0 H0 G H σ δ ts:={r with DZ:=fun q g=>r.DZ q (.tail _ g)}
def Rw.less{us:List (PD×V)}(r:Rw G0 H0 G H σ δ ts)(h:∀p∈us,p∈ts):Rw G0 H0 G H σ δ us:={r with DZ:=fun q g=>r.DZ q (h q g)}
def Rw.put{x:PD}{v:V}(r:Rw G0 H0 G H σ δ ts)(h:Du G x v):Rw G0 H0 G H σ δ ((x,v)::ts):={r with DZ:=fun q g=>by rcases aU.mp g with rfl|g;exact h;exact r.DZ q g}
def Rw.newObj{p:AD}{o:HO}(r:Rw G0 H0 G H σ δ ts)(g:H p=none):Rw G0 H0 (upd G p o) (upd H p o) σ δ ts:=by
 have hG:G p=none:=by
  cases q:G p with
  |none=>rfl
  |some u=>rw[r.ins _ _ q]at g;cases g
 have h0:H0 p=none:=by
  cases q:H0 p with
  |none=>rfl
  |some u=>rw[r.keep _ _ q]at g;cases g
 have e:AK G (upd G p o):=AO hG o;refine⟨r.ext.trans e,fun a u h=>?_,fun a u h=>?_,r.keep.trans (AO g o),r.len,fun i x h=>?_,fun i xs h=>?_,r.apart,fun q Z=>(r.DZ q Z).same e⟩
 .by_cases ha:a=p
  .subst ha;exact .inr (.inl h0)
  .rw[AN ha]at h;exact r.new _ _ h
 .by_cases ha:a=p
  .subst ha;rw[AM]at h ⊢;exact h
  .rw[AN ha]at h ⊢;exact r.ins _ _ h
 .obtain⟨v,M,I⟩:=r.dat i x h;exact⟨v,M,I.same e⟩
 .obtain⟨a,ys,M,I,Y,R,U⟩:=r.own i xs h;have ha:a≠p:=fun z=>by subst z;rw[R]at g;cases g
  exact⟨a,ys,M,by rw[AN ha];exact I,Y,by rw[AN ha];exact R,U.same e⟩
def Rw.nR{p:AD}{xs:uD}{H':Hp}(r:Rw G0 H0 G H σ δ ts)(e:AK H H')(g:H' p=some (.tup xs)):Rw G0 H0 (upd G p (.tup xs)) H' σ δ ts:=by
 have I:AK G (upd G p (.tup xs)):=fun a o h=>by
  by_cases ha:a=p
  .subst ha;have:=e _ _ (r.ins _ _ h);rw[g]at this;rw[AM];exact this
  .rw[AN ha];exact h
 refine⟨r.ext.trans I,fun a u h=>?_,fun a u h=>?_,r.keep.trans e,r.len,fun i x h=>?_,fun i xs h=>?_,r.apart,fun q hq=>(r.DZ q hq).same I⟩
 .by_cases ha:a=p
  .subst ha;rw[AM]at h;cases h;exact .inr (.inr ⟨_,rfl⟩)
  .rw[AN ha]at h;exact r.new _ _ h
 .by_cases ha:a=p
  .subst ha;rw[AM]at h;rw[g];exact h
  .rw[AN ha]at h;exact e _ _ (r.ins _ _ h)
 .obtain⟨v,R,M⟩:=r.dat i x h;exact⟨v,R,M.same I⟩
 .obtain⟨a,ys,R,M,Z,Y,U⟩:=r.own i xs h;have ha:a≠p:=fun z=>by subst z;rw[e _ _ Y]at g;cases g;exact U.ZJ
  exact⟨a,ys,R,by rw[AN ha];exact M,Z,e _ _ Y,U.same I⟩
def Rw.lift{g H':Hp}(r:Rw G0 H0 G H σ δ ts)(h1:AK G g)(h2:Nw G H g)(Z:AK g H')(U:AK H H'):Rw G0 H0 g H' σ δ ts:=by
 refine⟨r.ext.trans h1,fun a o h=>?_,Z,r.keep.trans U,r.len,fun i x h=>?_,fun i xs h=>?_,r.apart,fun q hq=>(r.DZ q hq).same h1⟩
 .rcases h2 a o h with k|k|k
  .exact r.new a o k
  .right;left
   cases q:H0 a with
   |none=>rfl
   |some u=>rw[r.keep _ _ q]at k;cases k
  .exact .inr (.inr k)
 .obtain⟨v,R,M⟩:=r.dat i x h;exact⟨v,R,M.same h1⟩
 .obtain⟨a,ys,R,M,k3,I,Y⟩:=r.own i xs h;refine⟨a,ys,R,?_,k3,U _ _ I,Y.same h1⟩;cases q:g a with
  |none=>rfl
  |some u=>
   rcases h2 a u q with z|z|⟨xs',z⟩
   .rw[M]at z;cases z
   .rw[I]at z;cases z
   .have:=Z _ _ q;rw[U _ _ I,z]at this;cases this;exact Y.ZJ.elim
end
section
variable{X:Cx}{a b e:Expr}{f g h:tX}{pos:Pos}
def Ai{i j pos}:DE X (.Constant (.int i) j pos) (fun _=>some (.int i)):=⟨_,AJ,fun δ x h G0 H0 G H σ ts Q r k=>by cases h;exact k _ _ _ (r.put (by rw[Du]))⟩
def M3{i j pos}:DE X (.Constant (.bool i) j pos) (fun _=>some (.bool i)):=⟨_,Ds,fun δ x h G0 H0 G H σ ts Q r k=>by cases h;exact k _ _ _ (r.put (by rw[Du]))⟩
def OE{j pos}:DE X (.Constant .none j pos) (fun _=>some .none):=⟨_,lz,fun δ x h G0 H0 G H σ ts Q r k=>by cases h;exact k _ _ _ (r.put (by rw[Du]))⟩
def Ce{i j pos}:DE X (.Constant (.str i) j pos) (fun _=>some (.str i)):=⟨_,oS,fun δ x h G0 H0 G H σ ts Q r k=>by cases h;exact k _ _ _ (r.put (by rw[Du]))⟩
def nm(i:Nat)(δ:Dv):tq:=match δ[i]? with|some (.d x)=>some x|_=>none
def qV{i:Nat}{δ:Dv}{x:PD}(h:nm i δ=some x):δ[i]? = some (.d x):=by
 unfold nm at h;split at h
 .rename_i y e;cases h;exact e
 .cases h
def AI{i:Nat}{x:Str}(h:PE X (.Name x pos) (Zg i)):DE X (.Name x pos) (nm i):=⟨_,h,fun δ y I G0 H0 G H σ ts Q r k=>by
 obtain⟨v,R,M⟩:=r.dat _ _ (qV I);exact⟨v,R,k _ _ _ (r.put M)⟩⟩
def Au(o:PD->PD->Option PD)(f g:tX)(δ:Dv):tq:=(f δ).bind fun x=>(g δ).bind fun y=>o x y
def Fj(X:Cx)(m:VL->VL->Sem VL)(o:PD->PD->Option PD):Prop:=∃r:R2,Dp X m r/\∀x y z,o x y=some z->∀G0 H0 G H σ δ ts u v (Q:VK),Rw G0 H0 G H σ δ ts->Du G x u->Du G y v->(∀w I H',Rw G0 H0 I H' σ δ ((z,w)::ts)->Q w H')->r u v H Q
def two{x y:PD}{f g:tX}{δ:Dv}{o:PD->PD->Option PD}{z:PD}(h:Au o f g δ=some z):∃x y,f δ=some x/\g δ=some y/\o x y=some z:=by
 unfold Au at h;obtain⟨x,U,R⟩:=aC.mp h;obtain⟨y,M,I⟩:=aC.mp R;exact⟨x,y,U,M,I⟩
def BB{op:Operator}{o:PD->PD->Option PD}(ho:Fj X (binaryOp op) o)(ha:DE X a f)(hb:DE X b g):DE X (.BinOp a op b pos) (Au o f g):=by
 obtain⟨r,hr,R⟩:=ho;obtain⟨ta,M,Y⟩:=ha;obtain⟨tb,I,U⟩:=hb;refine⟨_,Ae hr M I,fun δ z Z G0 H0 G H σ ts Q R0 k=>?_⟩;obtain⟨x,y,h1,h2,h3⟩:=two (x:=.none) (y:=.none) Z;refine Y δ x h1 G0 H0 G H σ ts _ R0 fun u G1 H1 R1=>?_;refine U δ y h2 G0 H0 G1 H1 σ _ _ R1 fun v G2 H2 R2=>?_;exact R x y z h3 G0 H0 G2 H2 σ δ ts u v Q (R2.drop.drop) (R2.DZ (x,u) (.tail _ (.head _))) (R2.DZ (y,v) (.head _)) k
end
section
variable{X:Cx}
def Nk(o o':PD->PD->Option PD)(x y:PD):tq:=match o x y with|some z=>some z|none=>o' x y
def Fj.or{m:VL->VL->Sem VL}{o o':PD->PD->Option PD}(h:Fj X m o)(h':Fj X m o'):Fj X m (Nk o o'):=by
 obtain⟨r,Z,Y⟩:=h;obtain⟨r',M,I⟩:=h';refine⟨_,Dp.or Z M,fun x y z g G0 H0 G H σ δ ts u v Q U du R k=>?_⟩;unfold Nk at g;split at g
 .rename_i z' e;cases g;exact .inl (Y x y z e G0 H0 G H σ δ ts u v Q U du R k)
 .exact .inr (I x y z g G0 H0 G H σ δ ts u v Q U du R k)
def PK{m:VL->VL->Sem VL}{C:Int->Int->Prop}{I:Int->Int->V}{o:Int->Int->Option PD}(R:Dp X m (rI C I))(U:∀i j z,o i j=some z->C i j/\∀H,Du H z (I i j)) :
  Fj X m (fun x y=>match x,y with|.int i,.int j=>o i j|_,_=>none):=by
 refine⟨_,R,fun x y z g G0 H0 G H σ δ ts u v Q R0 du M k=>?_⟩;dsimp only at g;split at g
 .rename_i i j;rw[Du]at du M;obtain⟨Z,Y⟩:=U i j z g;exact⟨i,j,du,M,Z,k _ _ _ (R0.put (Y _))⟩
 .cases g
def LB{m:VL->VL->Sem VL}{I:Int->Int->V}{o:Int->Int->PD}(R:Dp X m (UG I))(U:∀i j H,Du H (o i j) (I i j)) :
  Fj X m (fun x y=>match x,y with|.int i,.int j=>some (o i j)|_,_=>none):=by
 refine⟨_,R,fun x y z g G0 H0 G H σ δ ts u v Q Y du M k=>?_⟩;dsimp only at g;split at g
 .rename_i i j;cases g;rw[Du]at du M;exact⟨i,j,du,M,k _ _ _ (Y.put (U _ _ _))⟩
 .cases g
def Hj:Nat:=1000
def jf{n:Nat}(h:n<=Hj):n<sizeLine:=Te h
def IA{n:Nat}(h:n<=Hj):n<=sizeLine:=ba (Te h)
def gO:PD->PD->Option PD:=fun x y=>match x,y with|.int i,.int j=>some (.int (i+j))|_,_=>none
def Zf:PD->PD->Option PD:=fun x y=>match x,y with|.int i,.int j=>some (.int (i-j))|_,_=>none
def Kb(n:Nat)(i:Int):Bool:=decide (i.natAbs<2^n)
def Mt(i j:Int):Bool:=Kb 64 i||Kb 64 j||(Kb 9000 i&&Kb 9000 j)
def WN:PD->PD->Option PD:=fun x y=>match x,y with|.int i,.int j=>(if Mt i j=true then some (.int (i*j)) else none)|_,_=>none
def QT:PD->PD->Option PD:=fun x y=>match x,y with|.int i,.int j=>(if j≠0/\Kb 9000 j=true then some (.int (i.fdiv j)) else none)|_,_=>none
def Gj:PD->PD->Option PD:=fun x y=>match x,y with|.int i,.int j=>(if j≠0 then some (.int (i.fmod j)) else none)|_,_=>none
def Lb:PD->PD->Option PD:=fun x y=>match x,y with|.int i,.int j=>(if 0<=j/\j<=1000/\Kb 64 i=true then some (.int (i^j.toNat)) else none)|_,_=>none
def kE:Fj X (binaryOp .Add) gO:=LB Cf fun _ _ _=>by rw[Du]
def SV:Fj X (binaryOp .Sub) Zf:=LB HQ fun _ _ _=>by rw[Du]
def ig{i:Int}(h:Kb 64 i=true):-(2^64)<i/\i<2^64:=by
 have:=ae h
 lia
def jW:Fj X (binaryOp .Mult) WN:=PK (o:=fun i j=>if Mt i j=true then some (.int (i*j)) else none) BD fun i j z h=>by
 split at h
 .rename_i q;cases h;refine⟨?_,fun _=>by rw[Du]⟩;unfold Mt at q;rw[Bool.or_eq_true,Bool.or_eq_true,(Lh)]at q;rcases q with (q|q)|q
  .exact .inl (.inl (ig q))
  .exact .inl (.inr (ig q))
  .exact .inr ⟨9000,by decide,of_decide_eq_true q.1,of_decide_eq_true q.2⟩
 .cases h
def PJ:Fj X (binaryOp .FloorDiv) QT:=PK (o:=fun i j=>if j≠0/\Kb 9000 j=true then some (.int (i.fdiv j)) else none) Dl fun i j z h=>by
 split at h
 .rename_i q;cases h;exact⟨⟨q.1,9000,Nat.le_refl _,of_decide_eq_true q.2⟩,fun _=>by rw[Du]⟩
 .cases h
def FT:Fj X (binaryOp .Mod) Gj:=PK (o:=fun i j=>if j≠0 then some (.int (i.fmod j)) else none) Mg fun i j z h=>by
 split at h
 .rename_i q;cases h;exact⟨q,fun _=>by rw[Du]⟩
 .cases h
def Mo:Fj X (binaryOp .Pow) Lb:=PK (o:=fun i j=>if 0<=j/\j<=1000/\Kb 64 i=true then some (.int (i^j.toNat)) else none) Rq fun i j z h=>by
 split at h
 .rename_i q;cases h;exact⟨⟨q.1,by lia,of_decide_eq_true q.2.2⟩,fun _=>by rw[Du]⟩
 .cases h
def Ho(p:Int->Int->Bool):PD->PD->Option PD:=fun x y=>match x,y with|.int i,.int j=>some (.bool (p i j))|_,_=>none
def jJ:Fj X (compareOp .Lt) (Ho fun i j=>decide (i<j)):=LB (o:=fun i j=>.bool (decide (i<j))) ND fun _ _ _=>by rw[Du]
def ZC:Fj X (compareOp .Gt) (Ho fun i j=>decide (j<i)):=LB (o:=fun i j=>.bool (decide (j<i))) Ms fun _ _ _=>by rw[Du]
def pf:Fj X (compareOp .GtE) (Ho fun i j=>decide (j<=i)):=LB (o:=fun i j=>.bool (decide (j<=i))) ZM fun _ _ _=>by rw[Du]
def Sy:PD->PD->Option PD:=fun x y=>match x,y with|.list a,.list b=>(if a.length+b.length<=Hj then some (.list (a++b)) else none)|_,_=>none
def kG:Fj X (binaryOp .Add) Sy:=by
 refine⟨_,Mk,fun x y z g G0 H0 G H σ δ ts u v Q M du Y k=>?_⟩;unfold Sy at g;split at g
 .rename_i a b;split at g
  .rename_i Z;cases g;rw[Du]at du Y;obtain⟨p,xs,rfl,h1,U⟩:=du;obtain⟨q,ys,rfl,h3,R⟩:=Y;refine⟨p,q,xs,ys,rfl,rfl,M.ins _ _ h1,M.ins _ _ h3,IA (by rw[U.len,R.len];exact Z),fun l I=>?_⟩;have R1:=M.newObj (o:=.lst (xs++ys)) I;refine k _ _ _ (R1.put ?_);rw[Du];have e:AK G (upd G l (.lst (xs++ys))):=fun a o h=>by
    have:=M.ins _ _ h;rw[AN (AR this I)];exact h
   exact⟨l,xs++ys,rfl,AM,(U.same e).app (R.same e)⟩
  .cases g
 .cases g
def Uw:PD->PD->Option PD:=fun x y=>match x,y with|.tuple a,.tuple b=>(if a.length+b.length<=Hj then some (.tuple (a++b)) else none)|_,_=>none
def kK:Fj X (binaryOp .Add) Uw:=by
 refine⟨_,Si,fun x y z g G0 H0 G H σ δ ts u v Q I du Z k=>?_⟩;unfold Uw at g;split at g
 .rename_i a b;split at g
  .rename_i hl;cases g;rw[Du]at du Z;obtain⟨p,xs,rfl,h1,U⟩:=du;obtain⟨q,ys,rfl,h3,R⟩:=Z;refine⟨p,q,xs,ys,rfl,rfl,I.ins _ _ h1,I.ins _ _ h3,IA (by rw[U.len,R.len];exact hl),fun l H' e M=>?_⟩;have R1:=I.nR e M;refine k _ _ _ (R1.put ?_);rw[Du];have Y:AK G (upd G l (.tup (xs++ys))):=fun a o h=>by
    by_cases ha:a=l
    .subst ha;have:=e _ _ (I.ins _ _ h);rw[M]at this;rw[AM];exact this
    .rw[AN ha];exact h
   exact⟨l,xs++ys,rfl,AM,(U.same Y).app (R.same Y)⟩
  .cases g
 .cases g
def Zb:PD->PD->Option PD:=fun x y=>match x,y with|.str a,.str b=>(if a.length+b.length<=Hj then some (.str (a++b)) else none)|_,_=>none
def jL:Fj X (binaryOp .Add) Zb:=by
 refine⟨_,Y9,fun x y z g G0 H0 G H σ δ ts u v Q R du I k=>?_⟩;unfold Zb at g;split at g
 .rename_i a b;split at g
  .rename_i M;cases g;rw[Du]at du I;exact⟨a,b,du,I,IA M,k _ _ _ (R.put (by rw[Du]))⟩
  .cases g
 .cases g
def FG:PD->PD->Option PD:=Nk gO (Nk Sy (Nk Uw Zb))
def Ec:Fj X (binaryOp .Add) FG:=kE.or (kG.or (kK.or jL))
def R8:PD->PD->Option PD:=fun x y=>match x,y with|.list a,.int k=>(if a.length*k.toNat<=Hj/\-1000000<=k/\k<=1000000 then some (.list (List.replicate k.toNat a).flatten) else none)|_,_=>none
def Ay.rep{H:Hp}{ds:List PD}{xs:IR}(h:Ay H ds xs):∀n,Ay H (List.replicate n ds).flatten (List.replicate n xs).flatten
 |0=>.nil
 |n+1=>by rw[(NZ),(NZ),(O7),(O7)];exact h.app (h.rep n)
def jR:Fj X (binaryOp .Mult) R8:=by
 refine⟨_,Zz,fun x y z g G0 H0 G H σ δ ts u v Q M du U k=>?_⟩;unfold R8 at g;split at g
 .rename_i a n;split at g
  .rename_i Y;cases g;rw[Du]at du;rw[Du]at U;obtain⟨p,xs,rfl,Z,R⟩:=du;subst U;refine⟨p,n,xs,rfl,rfl,M.ins _ _ Z,by lia,by lia,IA (by rw[R.len];exact Y.1),fun l I=>?_⟩;have R1:=M.newObj (o:=.lst (List.replicate n.toNat xs).flatten) I;refine k _ _ _ (R1.put ?_);rw[Du];have e:AK G (upd G l (.lst (List.replicate n.toNat xs).flatten)):=fun a o h=>by
    have:=M.ins _ _ h;rw[AN (AR this I)];exact h
   exact⟨l,_,rfl,AM,(R.same e).rep _⟩
  .cases g
 .cases g
def Ek:PD->PD->Option PD:=Nk WN R8
def JA:Fj X (binaryOp .Mult) Ek:=jW.or jR
def TZ{d:PD}(h:SeqAt.shaped d=true):d.canLay0=true:=by unfold SeqAt.shaped at h;rw[(Lh)]at h;exact h.1
def ER(neg:Bool):PD->PD->Option PD:=fun x y=>if SeqAt.shaped x=true/\SeqAt.shaped y=true then some (.bool (if neg then !PyData.eqv x y else PyData.eqv x y)) else none
def dm{m:VL->VL->Sem VL}{neg:Bool}(R:Dp X m (fg X.K neg)):Fj X m (ER neg):=by
 refine⟨_,R,fun x y z g G0 H0 G H σ δ ts u v Q M du U k=>?_⟩;unfold ER at g;split at g
 .rename_i I;cases g;exact⟨x,y,(du.same M.ins).br (TZ I.1),(U.same M.ins).br (TZ I.2),I.1,I.2,k _ _ _ (M.put (by rw[Du]))⟩
 .cases g
def Yx(g:X.A.units+64<cLine):Fj X (compareOp .Eq) (ER false):=dm (oE g)
def L7(g:X.A.units+64<cLine):Fj X (compareOp .NotEq) (ER true):=dm (cT g)
def PyData.fH:PD->Bool
 |.none=>true
 |_=>false
def nr{H:Hp}:∀ {x:PD} {u:V},Du H x u->decide (u=.Bj)=PyData.fH x
 |.none,u,h=>by rw[Du]at h;subst h;rfl
 |.bool _,u,h=>by rw[Du]at h;subst h;rfl
 |.int _,u,h=>by rw[Du]at h;subst h;rfl
 |.str _,u,h=>by rw[Du]at h;subst h;rfl
 |.tuple _,u,h=>by rw[Du]at h;obtain⟨a,xs,rfl,_⟩:=h;rfl
 |.list _,u,h=>by rw[Du]at h;obtain⟨a,xs,rfl,_⟩:=h;rfl
 |.dict [],u,h=>by rw[Du,Mb]at h;rcases h with ⟨ea,C,_,rfl,_⟩|⟨a,ns,_,rfl,_⟩|h;rfl;rfl;exact h.elim
 |.dict ((_,_)::_),u,h=>by rw[Du,Mb]at h;rcases h with ⟨ea,C,_,rfl,_⟩|⟨a,ns,_,rfl,_⟩|⟨_,_,a,r,rfl,_⟩<;>rfl
def lW(neg:Bool):PD->PD->Option PD:=fun x y=>match y with
 |.none=>some (.bool (if neg then !PyData.fH x else PyData.fH x))
 |_=>none
def p7:Fj X (compareOp .Is) (lW false):=by
 refine⟨_,mi,fun x y z g G0 H0 G H σ δ ts u v Q M du I k=>?_⟩;unfold lW at g;split at g
 .cases g;rw[Du]at I;refine⟨I,?_⟩;rw[nr du];exact k _ _ _ (M.put (by rw[Du];rfl))
 .cases g
end
section
variable{X:Cx}{a b c e:Expr}{es:t8}{f g h:tX}{pos p:Pos}
def UC:PD->Option Bool
 |.bool b=>some b
 |_=>none
def VJ:PD->Option Int
 |.int b=>some b
 |_=>none
def d8{x:PD}{b:Bool}(h:UC x=some b):x=.bool b:=by
 unfold UC at h;split at h
 .cases h;rfl
 .cases h
def Vd{x:PD}{b:Int}(h:VJ x=some b):x=.int b:=by
 unfold VJ at h;split at h
 .cases h;rfl
 .cases h
def Zv(ha:DE X a f):DE X (.UnaryOp .USub a pos) (fun δ=>(f δ).bind fun x=>(VJ x).map fun i=>.int (-i)):=by
 obtain⟨ta,M,R⟩:=ha;refine⟨_,Ux Rn M,fun δ z U G0 H0 G H σ ts Q R0 k=>?_⟩;obtain⟨x,h1,Z⟩:=aC.mp U;obtain⟨i,Y,rfl⟩:=aF.mp Z;have:=Vd Y;subst this;refine R δ _ h1 G0 H0 G H σ ts _ R0 fun u G1 H1 I=>?_;have:=I.DZ _ (.head _);rw[Du]at this;exact⟨i,this,k _ _ _ (I.drop.put (by rw[Du]))⟩
variable{fa fb:tY}
def DW(X:Cx)(e:Expr)(f:tY):Prop:=∃t,PW X e t/\∀δ b,f δ=some b->∀G0 H0 G H σ ts (Q:Bool->Hp->Prop),Rw G0 H0 G H σ δ ts->(∀I H',Rw G0 H0 I H' σ δ ts->Q b H')->t σ H Q
def DW.dt(h:DW X e fa):DT X e fa:=let⟨t,p,k⟩:=h;⟨t,p.pt,k⟩
def De{op:CmpOp}{o:PD->PD->Option PD}(ho:Fj X (compareOp op) o)(ha:DE X a f)(hb:DE X b g)(hm:behindInMarks op b=false):DT X (.Compare a [op] [b] pos) (fun δ=>(Au o f g δ).bind UC):=by
 obtain⟨r,hr,Y⟩:=ho;obtain⟨ta,U,ka⟩:=ha;obtain⟨tb,R,Z⟩:=hb;refine⟨_,BM hr U R hm,fun δ z hz G0 H0 G H σ ts Q R0 k=>?_⟩;obtain⟨q,h0,h4⟩:=aC.mp hz;have:=d8 h4;subst this;obtain⟨x,y,h1,h2,h3⟩:=two (x:=.none) (y:=.none) h0;refine ka δ x h1 G0 H0 G H σ ts _ R0 fun u G1 H1 R1=>?_;refine Z δ y h2 G0 H0 G1 H1 σ _ _ R1 fun v G2 H2 R2=>?_;refine Y x y _ h3 G0 H0 G2 H2 σ δ ts u v _ (R2.drop.drop) (R2.DZ (x,u) (.tail _ (.head _))) (R2.DZ (y,v) (.head _)) fun w G3 H3 M=>?_;have I:=M.DZ _ (.head _);rw[Du]at I;exact⟨z,I,k _ _ M.drop⟩
def OO(ha : DE X e f)(he : ∀ whole,isTrue e X.env whole = (do let v <- whole; standAt e.pos; holding [v] (truthy v)):=by intro _; rfl):DT X e (fun δ => (f δ).bind UC):=by
  obtain ⟨ta,pa,ka⟩:=ha
  refine ⟨_,C6 pa he,fun δ z hz G0 H0 G H σ ts Q R0 k => ?_⟩
  obtain ⟨q,h0,h4⟩:=aC.mp hz
  have:=d8 h4; subst this
  refine ka δ _ h0 G0 H0 G H σ ts _ R0 fun u G1 H1 R1 => ?_
  have hu:=R1.DZ _ (.head _)
  rw [Du] at hu
  exact ⟨z,hu,k _ _ R1.drop⟩
def W4(ha:DT X a fa):DT X (.UnaryOp .Not a pos) (fun δ=>(fa δ).map fun c=>!c):=by
 obtain⟨ta,I,M⟩:=ha;refine⟨_,C8 I,fun δ z R G0 H0 G H σ ts Q Z k=>?_⟩;obtain⟨i,U,rfl⟩:=aF.mp R;exact M δ _ U G0 H0 G H σ ts _ Z fun G1 H1 Y=>k _ _ Y
def RK{op:BoolOp}(ha:DT X a fa):DW X (.BoolOp op [a] pos) fa:=by
 obtain⟨R,I,M⟩:=ha;cases op
 .exact⟨_,Xq I,M⟩
 .exact⟨_,Fb I,M⟩
def a8{rest:t8}(ha:DT X a fa)(hb:DW X (.BoolOp .And (b::rest) pos) fb):DW X (.BoolOp .And (a::b::rest) pos) (fun δ=>(fa δ).bind fun c=>if c=true then fb δ else some false):=by
 obtain⟨ta,Y,ka⟩:=ha;obtain⟨tb,U,Z⟩:=hb;refine⟨_,Z6 Y U,fun δ z hz G0 H0 G H σ ts Q R0 k=>?_⟩;obtain⟨i,h3,I⟩:=aC.mp hz;refine ka δ _ h3 G0 H0 G H σ ts _ R0 fun G1 H1 R=>?_;split
 .rename_i M;rw[if_pos M]at I;exact Z δ z I G0 H0 G1 H1 σ ts Q R k
 .rename_i M;rw[if_neg M]at I;cases I;exact k _ _ R
def i4{rest:t8}(ha:DT X a fa)(hb:DW X (.BoolOp .Or (b::rest) pos) fb):DW X (.BoolOp .Or (a::b::rest) pos) (fun δ=>(fa δ).bind fun c=>if c=true then some true else fb δ):=by
 obtain⟨ta,Y,ka⟩:=ha;obtain⟨tb,U,Z⟩:=hb;refine⟨_,Fv Y U,fun δ z hz G0 H0 G H σ ts Q R0 k=>?_⟩;obtain⟨i,h3,I⟩:=aC.mp hz;refine ka δ _ h3 G0 H0 G H σ ts _ R0 fun G1 H1 R=>?_;split
 .rename_i M;rw[if_pos M]at I;cases I;exact k _ _ R
 .rename_i M;rw[if_neg M]at I;exact Z δ z I G0 H0 G1 H1 σ ts Q R k
variable{fs:tW}
def Ad:DA X [] (fun _=>some []):=⟨_,AB,fun δ xs h G0 H0 G H σ ts Q I k=>by cases h;exact k [] G H (by simpa using I) rfl⟩
def AE(ha:DE X e f)(hr:DA X es fs)(Z:starEach (e::es) X.env=(false,eval e X.env)::starEach es X.env:=by rfl):DA X (e::es) (fun δ=>(f δ).bind fun x=>(fs δ).map fun xs=>x::xs):=by
 obtain⟨ta,M,U⟩:=ha;obtain⟨tr,pr,R⟩:=hr;refine⟨_,AA M pr Z,fun δ z Y G0 H0 G H σ ts Q R0 k=>?_⟩;obtain⟨x,h1,h2⟩:=aC.mp Y;obtain⟨xs,h3,rfl⟩:=aF.mp h2;refine U δ x h1 G0 H0 G H σ ts _ R0 fun u G1 H1 R1=>?_;refine R δ xs h3 G0 H0 G1 H1 σ _ _ R1 fun vs G2 H2 R2 hl=>?_;refine k (u::vs) G2 H2 (R2.less fun q I=>?_) (by simp[hl]);simp only[List.zip_cons_cons,List.cons_append,List.mem_cons,List.mem_append]at I ⊢;rcases I with h|h|h
 .exact .inr (.inl h)
 .exact .inl h
 .exact .inr (.inr h)
theorem cV{G:Hp}:∀ {xs:List PD} {vs:IR},vs.length=xs.length->(∀q∈xs.zip vs,Du G q.1 q.2)->Ay G xs vs
 |[],vs,I,_=>by rw[List.eq_nil_of_length_eq_zero I];exact .nil
 |x::xs,[],I,_=>by simp at I
 |x::xs,v::vs,I,h=>.cons (h (x,v) Do) (cV (by simpa using I) fun q M=>h q (by simp[M]))
def Rw.args{G0 H0 G H:Hp}{σ:St}{δ:Dv}{ts:List (PD×V)}{xs:tZ}{vs:uD}(r:Rw G0 H0 G H σ δ (xs.zip vs++ts))(M:vs.length=xs.length):Ay G xs vs/\Rw G0 H0 G H σ δ ts :=
 ⟨cV M fun q I=>r.DZ q (bO _ I),r.less fun q I=>aa _ I⟩
def Rw.oi{G0 H0 G H:Hp}{σ:St}{δ:Dv}{ts:List (PD×V)}{xs:tZ}{vs:uD}{p:AD}(r:Rw G0 H0 G H σ δ ts)(d:Ay G xs vs)(I:H p=none):Rw G0 H0 (upd G p (.lst vs)) (upd H p (.lst vs)) σ δ ((.list xs,.ref p)::ts):=by
 refine(r.newObj I).put ?_;have e:AK G (upd G p (.lst vs)):=fun a o h=>by rw[AN (AR (r.ins _ _ h) I)];exact h
 rw[Du];exact⟨p,vs,rfl,AM,d.same e⟩
def Rw.eZ{G0 H0 G H:Hp}{σ:St}{δ:Dv}{ts:List (PD×V)}{xs:tZ}{vs:uD}{p:AD}(r:Rw G0 H0 G H σ δ ts)(d:Ay G xs vs)(I:H p=none):Rw G0 H0 (upd G p (.tup vs)) (upd H p (.tup vs)) σ δ ((.tuple xs,.ref p)::ts):=by
 refine(r.newObj I).put ?_;have e:AK G (upd G p (.tup vs)):=fun a o h=>by rw[AN (AR (r.ins _ _ h) I)];exact h
 rw[Du];exact⟨p,vs,rfl,AM,d.same e⟩
def HB(xs:tZ):Option tZ:=if xs.length<=Hj then some xs else none
def RH{xs ys:tZ}(h:HB xs=some ys):xs=ys/\xs.length<=Hj:=by
 unfold HB at h;split at h
 .rename_i q;cases h;exact⟨rfl,q⟩
 .cases h
def GZ{M}(ha:DA X es fs):DE X (.Tuple es M pos) (fun δ=>((fs δ).bind HB).map .tuple):=by
 obtain⟨ta,R,U⟩:=ha;refine⟨_,Eh R,fun δ z Y G0 H0 G H σ ts Q R0 k=>?_⟩;obtain⟨ys,h1,rfl⟩:=aF.mp Y;obtain⟨xs,h2,h3⟩:=aC.mp h1;obtain⟨rfl,hl⟩:=RH h3;refine U δ _ h2 G0 H0 G H σ ts _ R0 fun vs G1 H1 R1 I=>?_;obtain⟨d,R2⟩:=R1.args I;exact⟨IA (by rw[I];exact hl),fun q Z=>k _ _ _ (R2.eZ d Z)⟩
def BF(ha:DA X es fs):DE X (.List es pos) (fun δ=>((fs δ).bind HB).map .list):=by
 obtain⟨ta,M,R⟩:=ha;refine⟨_,Cu M,fun δ z U G0 H0 G H σ ts Q R0 k=>?_⟩;obtain⟨ys,h1,rfl⟩:=aF.mp U;obtain⟨xs,h2,h3⟩:=aC.mp h1;obtain⟨rfl,Z⟩:=RH h3;refine R δ _ h2 G0 H0 G H σ ts _ R0 fun vs G1 H1 R1 I=>?_;obtain⟨d,R2⟩:=R1.args I;exact⟨IA (by rw[I];exact Z),fun q Y=>k _ _ _ (R2.oi d Y)⟩
theorem Ay.Fe{H:Hp}{ds:tZ}{xs:uD}{i:Int}{d:PD}(h:Ay H ds xs)(e:Fe ds i=some d):∃v,Fe xs i=some v/\Du H d v:=by
 unfold L2.Fe at e ⊢;rw[h.len];obtain⟨j,U,R⟩:=aC.mp e;obtain⟨v,M,I⟩:=h.get R;exact⟨v,by rw[U];exact M,I⟩
theorem Tu{G:Hp}:∀ns:List Int,Ay G (ns.map .int) (ns.map V.int)
 |[]=>.nil
 |n::ns=>.cons (by rw[Du]) (Tu ns)
def ES:PD->PD->Option PD:=fun x y=>match x,y with
 |.list xs,.int i=>Fe xs i
 |.tuple xs,.int i=>Fe xs i
 |.dict [(.none,.list xs)],.int i=>Fe xs i
 |.str z,.int i=>if z.length<=Hj then(Fe z.cps.toList i).map fun c=>.str ⟨#[c]⟩ else none
 |_,_=>none
def Ew(ha:DE X a f)(hb:DE X b g)(hs:X5 b):DE X (.Subscript a b pos) (Au ES f g):=by
 obtain⟨ta,pa,ka⟩:=ha;obtain⟨tb,pb,kb⟩:=hb;refine⟨_,Ao mW pa pb hs,fun δ z hz G0 H0 G H σ ts Q R0 k=>?_⟩;obtain⟨x,y,h1,h2,I⟩:=two (x:=.none) (y:=.none) hz;refine ka δ x h1 G0 H0 G H σ ts _ R0 fun u G1 H1 R1=>?_;refine kb δ y h2 G0 H0 G1 H1 σ _ _ R1 fun v G2 H2 R2=>?_;have du:=R2.DZ (x,u) (.tail _ (.head _));have M:=R2.DZ (y,v) (.head _);unfold ES at I;split at I
 .rw[Du]at du;rw[Du]at M;obtain⟨p,xs,rfl,Y,Z⟩:=du;obtain⟨w,R,U⟩:=Z.Fe I;exact .inl ⟨p,xs,_,w,rfl,M,AU.of (R2.ins _ _ Y),R,k _ _ _ (R2.drop.drop.put U)⟩
 .rw[Du]at du;rw[Du]at M;obtain⟨p,xs,rfl,Y,Z⟩:=du;obtain⟨w,R,U⟩:=Z.Fe I;exact .inr (.inl ⟨p,xs,_,w,rfl,M,Al.of (R2.ins _ _ Y),R,k _ _ _ (R2.drop.drop.put U)⟩)
 .rw[Du]at du;rw[Du]at M;rcases du with ⟨ea,C,e1,_⟩|⟨p,ns,e1,rfl,Y⟩|z
  rotate_left 2
  .rw[Mb]at z;cases z.1
  .simp at e1
  .obtain rfl:_=ns.map PyData.int:=by simpa using e1
   obtain⟨w,R,U⟩:=(Tu (G:=_) ns).Fe I;exact .inl ⟨p,_,_,w,rfl,M,.inl (Y.same R2.ins),R,k _ _ _ (R2.drop.drop.put U)⟩
 .rw[Du]at du;rw[Du]at M;split at I
  .rename_i hl;obtain⟨ch,R,rfl⟩:=aF.mp I;exact .inr (.inr ⟨_,_,ch,du,M,IA hl,R,k _ _ _ (R2.drop.drop.put (by rw[Du]))⟩)
  .cases I
 .cases I
end
def HA(g:MD):Sp:=fun vs H Q _=>∃M x G,g M=some x/\Ay G M vs/\AK G H/\∀v I H',AK G I->Nw G H I->AK I H'->AK H H'->Du I x v->Q v H'
section
variable{X:Cx}{e:Expr}{es:t8}{h:tX}{fs:tW}{pos p:Pos}
def Ff{k:Nat}{M:AD}{fd:F0a}{ps:t7}{m:MD}{x:Str}{st:Stmt}(T:Fn X.K X.mg x st ps M fd)(F:AH X.prog X.w X.K X.mg X.base Aa k M fd ps (HA m))(hr:C9 k X.A)(hg:Gl X x)(ha:DA X (e::es) fs) (I:GE=false:=by decide)(he:starEach (e::es) X.env=(false,eval e X.env)::starEach es X.env:=by rfl)(g:(backTo pos (starEach es X.env)).any (·.1)=false:=by rfl):DE X G6 (fun δ=>(fs δ).bind m):=by
 obtain⟨ta,R,U⟩:=ha;refine⟨_,AZ T F hr hg R I he g,fun δ z Y G0 H0 G H σ ts Q R0 k=>?_⟩;obtain⟨xs,h1,h2⟩:=aC.mp Y;refine U δ _ h1 G0 H0 G H σ ts _ R0 fun vs G1 H1 R1 Z=>?_;obtain⟨d,R2⟩:=R1.args Z;refine⟨xs,z,G1,h2,by rw[(Od)];exact d,R2.ins,fun v G' H' h3 h4 h5 h6 h7=>?_⟩;exact k _ _ _ ((R2.lift h3 h4 h5 h6).put h7)
def Uz(X:Cx)(v:VL)(o:MD):Prop:=∃r,I0 X v r/\∀xs z,o xs=some z->∀G0 H0 G H σ δ ts us (Q:VK),Rw G0 H0 G H σ δ ts->Ay G xs us->(∀w g H',Rw G0 H0 g H' σ δ ((z,w)::ts)->Q w H')->r us H Q
def NS{x:Str}{id:String}{o:MD}(hc:Uz X (.builtin id) o)(hg:Gl X x)(hm:X.mg x=none)(g:bootBuiltins x=some (.builtin id))(ha:DA X (e::es) fs)(hn:x ≠ "__name__":=by decide)(M:GE=false:=by decide) (he:starEach (e::es) X.env=(false,eval e X.env)::starEach es X.env:=by rfl)(I:(backTo pos (starEach es X.env)).any (·.1)=false:=by rfl):DE X G6 (fun δ=>(fs δ).bind o):=by
 obtain⟨r,hr,U⟩:=hc;obtain⟨ta,R,Y⟩:=ha;refine⟨_,Ar hr hg hm g R hn M he I,fun δ z Z G0 H0 G H σ ts Q R0 k=>?_⟩;obtain⟨xs,h1,h2⟩:=aC.mp Z;refine Y δ _ h1 G0 H0 G H σ ts _ R0 fun vs G1 H1 R1 g=>?_;obtain⟨d,R2⟩:=R1.args g;exact U xs z h2 G0 H0 G1 H1 σ δ ts vs Q R2 d k
def T8{x:Str}{T:String}{o:MD}(hc:Uz X (.type T) o)(hg:Gl X x)(hm:X.mg x=none)(g:bootBuiltins x=some (.type T))(ha:DA X (e::es) fs)(hn:x ≠ "__name__":=by decide)(M:GE=false:=by decide) (he:starEach (e::es) X.env=(false,eval e X.env)::starEach es X.env:=by rfl)(I:(backTo pos (starEach es X.env)).any (·.1)=false:=by rfl):DE X G6 (fun δ=>(fs δ).bind o):=by
 obtain⟨r,hr,U⟩:=hc;obtain⟨ta,R,Y⟩:=ha;refine⟨_,Tt hr hg hm g R hn M he I,fun δ z Z G0 H0 G H σ ts Q R0 k=>?_⟩;obtain⟨xs,h1,h2⟩:=aC.mp Z;refine Y δ _ h1 G0 H0 G H σ ts _ R0 fun vs G1 H1 R1 g=>?_;obtain⟨d,R2⟩:=R1.args g;exact U xs z h2 G0 H0 G1 H1 σ δ ts vs Q R2 d k
def Ay.TV{H:Hp}{d:PD}{xs:uD}(h:Ay H [d] xs):∃x,xs=[x]/\Du H d x:=by
 obtain⟨x,r,rfl,I,g⟩:=h.un;rw[g.nil_eq];exact⟨x,rfl,I⟩
def Ay.OC{H:Hp}{d e:PD}{xs:uD}(h:Ay H [d,e] xs):∃x y,xs=[x,y]/\Du H d x/\Du H e y:=by
 obtain⟨x,r,rfl,M,I⟩:=h.un;obtain⟨y,rfl,g⟩:=I.TV;exact⟨x,y,rfl,M,g⟩
def Qj:MD
 |[.list xs]=>some (.int xs.length)
 |[.tuple xs]=>some (.int xs.length)
 |[.dict [(.none,.list xs)]]=>some (.int xs.length)
 |_=>none
def Rx:Uz X (.builtin "len") Qj:=by
 refine⟨_,BZ,fun xs z g G0 H0 G H σ δ ts us Q I d k=>?_⟩;unfold Qj at g;split at g
 .cases g;obtain⟨u,rfl,du⟩:=d.TV;rw[Du]at du;obtain⟨p,ys,rfl,M,R⟩:=du;refine⟨p,ys,rfl,.inl (AU.of (I.ins _ _ M)),?_⟩;rw[R.len];exact k _ _ _ (I.put (by rw[Du]))
 .cases g;obtain⟨u,rfl,du⟩:=d.TV;rw[Du]at du;obtain⟨p,ys,rfl,M,R⟩:=du;refine⟨p,ys,rfl,.inr (Al.of (I.ins _ _ M)),?_⟩;rw[R.len];exact k _ _ _ (I.put (by rw[Du]))
 .cases g;obtain⟨u,rfl,du⟩:=d.TV;rw[Du]at du;rcases du with ⟨ea,C,U,_⟩|⟨p,ns,U,rfl,M⟩|z
  rotate_left 2
  .rw[Mb]at z;cases z.1
  .simp at U
  .obtain rfl:_=ns.map PyData.int:=by simpa using U
   refine⟨p,_,rfl,.inl (.inl (M.same I.ins)),?_⟩;rw[(Ah)]at k ⊢;exact k _ _ _ (I.put (by rw[Du]))
 .cases g
def NC:MD
 |[.list xs]=>some (.tuple xs)
 |[.tuple xs]=>some (.tuple xs)
 |_=>none
def WO:Uz X (.type "tuple") NC:=by
 refine⟨_,Nj,fun xs z g G0 H0 G H σ δ ts us Q I d k=>?_⟩;unfold NC at g;split at g
 .cases g;obtain⟨u,rfl,du⟩:=d.TV;rw[Du]at du;obtain⟨p,ys,rfl,M,U⟩:=du;exact⟨p,ys,rfl,.inl ⟨AU.of (I.ins _ _ M),fun l Y=>k _ _ _ (I.eZ U Y)⟩⟩
 .cases g;obtain⟨u,rfl,du⟩:=d.TV;have R:=du;rw[Du]at du;obtain⟨p,ys,rfl,M,U⟩:=du;exact⟨p,ys,rfl,.inr ⟨Al.of (I.ins _ _ M),k _ _ _ (I.put R)⟩⟩
 .cases g
end
inductive Ou where
 |nx (δ:Dv)|rt (x:PyData)|bk (δ:Dv)|ct (δ:Dv)|rn (xs:List PyData)
def Fin(G0 H0:Hp)(D:Ends):Ou->Prop
 |.nx δ=>∀σ G H,Rw G0 H0 G H σ δ []->D.nx σ H
 |.rt x=>∀v G H,AK G0 G->Nw G0 H0 G->AK G H->AK H0 H->Du G x v->D.rt v H
 |.bk δ=>∀σ G H,Rw G0 H0 G H σ δ []->D.bk σ H
 |.ct δ=>∀σ G H,Rw G0 H0 G H σ δ []->D.ct σ H
 |.rn xs=>∀a ys G H,AK G0 G->Nw G0 H0 G->AK G H->AK H0 H->H0 a=none->G a=none->H a=some Id->Ay G xs ys->D.rt (.ref a) H
abbrev DF:=Dv->Option Ou
def DS(X:Cx)(st:Stmt)(F:DF):Prop:=∃t,PS X st t/\∀δ r,F δ=some r->∀G0 H0 G H σ D,Rw G0 H0 G H σ δ []->Fin G0 H0 D r->t D σ H
def Pt(X:Cx)(st:uG)(F:DF):Prop:=∃t,J9 X st t/\∀δ r,F δ=some r->∀G0 H0 G H σ D,Rw G0 H0 G H σ δ []->Fin G0 H0 D r->t D σ H
def Bd(M I:DF)(δ:Dv):Option Ou:=match M δ with
 |some (.nx g)=>I g
 |o=>o
section
variable{X:Cx}{c e:Expr}{f h:tX}{fa:tY}{pos p:Pos}{st:Stmt}{sts sts':uG}{F1 F2:DF}
def En:Pt X [] (fun δ=>some (.nx δ)):=⟨_,BL,fun δ r h G0 H0 G H σ D R k=>by cases h;exact k _ _ _ R⟩
def Aw(h1:DS X st F1)(h2:Pt X sts F2):Pt X (st::sts) (Bd F1 F2):=by
 obtain⟨t1,Z,U⟩:=h1;obtain⟨t2,Y,k2⟩:=h2;refine⟨_,AG Z Y,fun δ r h G0 H0 G H σ D R k=>?_⟩;unfold Bd at h;split at h
 .rename_i g e1;exact U δ _ e1 G0 H0 G H σ _ R fun I G' H' R'=>k2 g r h G0 H0 G' H' I D R' k
 .rename_i M;refine U δ r h G0 H0 G H σ _ R ?_;cases r with
  |nx g=>exact absurd h (M g)
  |rt x=>exact k
  |bk g=>exact k
  |ct g=>exact k
  |rn xs=>exact k
def B4(h1:DS X st F1):Pt X [st] F1:=by
 obtain⟨t1,g,I⟩:=h1;exact⟨_,AL g,I⟩
def Er(I:DE X e f):DS X (.Return (some e) pos) (fun δ=>(f δ).map .rt):=by
 obtain⟨t,p,k⟩:=I;refine⟨_,Aj p,fun δ r h G0 H0 G H σ D R q=>?_⟩;obtain⟨x,M,rfl⟩:=aF.mp h;exact k δ x M G0 H0 G H σ [] _ R fun v U H' g=>q v U H' g.ext g.new g.ins g.keep (g.DZ _ (.head _))
def He(g:DT X c fa)(h1:Pt X sts F1)(h2:Pt X sts' F2):DS X (.If c sts sts' pos) (fun δ=>(fa δ).bind fun c=>if c=true then F1 δ else F2 δ):=by
 obtain⟨tc,pc,kc⟩:=g;obtain⟨t1,Z,k1⟩:=h1;obtain⟨t2,Y,k2⟩:=h2;refine⟨_,B5 pc Z Y,fun δ r h G0 H0 G H σ D R q=>?_⟩;obtain⟨i,h3,I⟩:=aC.mp h;refine kc δ i h3 G0 H0 G H σ [] _ R fun U H' M=>?_;split
 .rename_i g;rw[if_pos g]at I;exact k1 δ r I G0 H0 U H' σ D M q
 .rename_i g;rw[if_neg g]at I;exact k2 δ r I G0 H0 U H' σ D M q
end
section
variable{G0 H0 G H:Hp}{σ:St}{δ:Dv}{ts:List (PD×V)}
def Rw.Oe{i:Nat}{x:PD}{v:V}(r:Rw G0 H0 G H σ δ ((x,v)::ts)):Rw G0 H0 G H (σ.set i (some v)) (δ.set i (.d x)) ts:=by
 have hl:=r.len;refine⟨r.ext,r.new,r.ins,r.keep,by simp[hl],fun j y h=>?_,fun j ys h=>?_,fun j l ys Z Y M I=>?_,fun q hq=>r.DZ q (.tail _ hq)⟩
 .by_cases g:i=j
  .subst g;by_cases hi:i<δ.length
   .rw[List.getElem?_set_self hi]at h;cases h;exact⟨v,by rw[List.getElem?_set_self AC],r.DZ _ (.head _)⟩
   .rw[List.getElem?_eq_none (by simp;lia)]at h;cases h
  .rw[List.getElem?_set_ne g]at h;obtain⟨w,U,R⟩:=r.dat j y h;exact⟨w,by rw[List.getElem?_set_ne g];exact U,R⟩
 .by_cases g:i=j
  .subst g;by_cases hi:i<δ.length
   .rw[List.getElem?_set_self hi]at h;cases h
   .rw[List.getElem?_eq_none (by simp;lia)]at h;cases h
  .rw[List.getElem?_set_ne g]at h;obtain⟨w,U,R,k3⟩:=r.own j ys h;exact⟨w,U,by rw[List.getElem?_set_ne g];exact R,k3⟩
 .have nj:i≠j:=fun z=>by
   subst z;by_cases hi:i<δ.length
   .rw[List.getElem?_set_self hi]at M;cases M
   .rw[List.getElem?_eq_none (by simp;lia)]at M;cases M
  have nl:i≠l:=fun z=>by
   subst z;by_cases hi:i<δ.length
   .rw[List.getElem?_set_self hi]at I;cases I
   .rw[List.getElem?_eq_none (by simp;lia)]at I;cases I
  rw[List.getElem?_set_ne nj]at M ⊢;rw[List.getElem?_set_ne nl]at I ⊢;exact r.apart j l ys Z Y M I
end
section
variable{X:Cx}{e:Expr}{f:tX}{pos p:Pos}
def Cq{i:Nat}{x:Str}{g:Pos}(Y:X.N.Nodup)(hi:X.N[i]? = some x)(I:Loc X.env.scope x)(U:DE X e f)(M:swapsWith e (some (.Name x g)) pos.line X.env=pure false:=by rfl)(hf:X.fn x=true\/X.env.scope.names.lookup x=some .local:=by first|exact .inl rfl|exact .inr rfl|assumption):DS X (.Assign [.Name x g] e pos) (fun δ=>(f δ).map fun y=>.nx (δ.set i (.d y))):=by
 obtain⟨t,p,k⟩:=U;refine⟨_,AX Y hi I p M hf,fun δ r h G0 H0 G H σ D R q=>?_⟩;obtain⟨y,Z,rfl⟩:=aF.mp h;exact k δ y Z G0 H0 G H σ [] _ R fun v G' H' R'=>q _ _ _ R'.Oe
end
section
variable{G0 H0 G H:Hp}{σ:St}{δ:Dv}{ts:List (PD×V)}
def Rw.base(r:Rw G0 H0 G H σ δ ts):Rw G H0 G H σ δ ts:={r with ext:=AK.refl G,new:=fun _ _ h=>.inl h}
def Nw.trans{I g:Hp}(a:Nw G0 H0 I)(b:Nw I H0 g):Nw G0 H0 g:=fun c o h=>by
 rcases b c o h with z|z|z
 .exact a c o z
 .exact .inr (.inl z)
 .exact .inr (.inr z)
def Rw.Vt{M H':Hp}{g:St}{δ':Dv}{I:List (PD×V)}(r:Rw G0 H0 G H σ δ ts)(q:Rw G H0 M H' g δ' I):Rw G0 H0 M H' g δ' I:={q with ext:=r.ext.trans q.ext,new:=r.new.trans q.new}
def Rw.lB{i:Nat}{xs:Oc}{ys:HO}{a:AD}(r:Rw G0 H0 G H σ δ ts)(d:O5 G a xs ys)(ha:H a=none):Rw G0 H0 G (upd H a ys) (σ.set i (some (.ref a))) (δ.set i (.own xs)) ts:=by
 have hG:G a=none:=by
  cases q:G a with
  |none=>rfl
  |some u=>rw[r.ins _ _ q]at ha;cases ha
 have h0:H0 a=none:=by
  cases q:H0 a with
  |none=>rfl
  |some u=>rw[r.keep _ _ q]at ha;cases ha
 have e:AK H (upd H a ys):=AO ha _;have hl:=r.len;have other:∀(j:Nat) (I:Oc),i≠j->(δ.set i (.own xs))[j]? = some (L.own I)->δ[j]? = some (L.own I):=fun j I g h=>by rw[List.getElem?_set_ne g]at h;exact h
 have M:∀(j:Nat) (I:Oc),δ[j]? = some (L.own I)->σ[j]?≠some (some (V.ref a)):=fun j I h z=>by
  obtain⟨b,us,m1,m2,m3,m4,m5⟩:=r.own j I h;rw[z]at m1;cases m1;rw[m4]at ha;cases ha
 refine⟨r.ext,r.new,r.ins.trans e,r.keep.trans e,by simp[hl],fun j y h=>?_,fun j I h=>?_,fun j l us ws Z U R=>?_,r.DZ⟩
 .by_cases g:i=j
  .subst g;by_cases hi:i<δ.length
   .rw[List.getElem?_set_self hi]at h;cases h
   .rw[List.getElem?_eq_none (by simp;lia)]at h;cases h
  .rw[List.getElem?_set_ne g]at h;obtain⟨w,m1,m2⟩:=r.dat j y h;exact⟨w,by rw[List.getElem?_set_ne g];exact m1,m2⟩
 .by_cases g:i=j
  .subst g;by_cases hi:i<δ.length
   .rw[List.getElem?_set_self hi]at h;cases h;exact⟨a,ys,by rw[List.getElem?_set_self AC],hG,h0,AM,d⟩
   .rw[List.getElem?_eq_none (by simp;lia)]at h;cases h
  .have h:=other j I g h;obtain⟨b,us,m1,m2,m3,m4,m5⟩:=r.own j I h;exact⟨b,us,by rw[List.getElem?_set_ne g];exact m1,m2,m3,e _ _ m4,m5⟩
 .by_cases g:i=j
  .subst g;have Y:i≠l:=Z;have R:=other l ws Y R;by_cases hi:i<δ.length
   .rw[List.getElem?_set_self AC,List.getElem?_set_ne Y];exact fun z=>M l ws R z.symm
   .rw[List.getElem?_eq_none (by simp;lia)]at U;cases U
  .have U:=other j us g U;by_cases hk:i=l
   .subst hk;by_cases hi:i<δ.length
    .rw[List.getElem?_set_self AC,List.getElem?_set_ne g];exact fun z=>M j us U z
    .rw[List.getElem?_eq_none (by simp;lia)]at R;cases R
   .have R:=other l ws hk R;rw[List.getElem?_set_ne g,List.getElem?_set_ne hk];exact r.apart j l us ws Z U R
def Rw.p6{i:Nat}{xs I:Oc}{ys:HO}{a:AD}(r:Rw G0 H0 G H σ δ ts)(hi:δ[i]? = some (.own xs))(ha:σ[i]? = some (some (.ref a)))(d:O5 G a I ys):Rw G0 H0 G (upd H a ys) σ (δ.set i (.own I)) ts:=by
 obtain⟨a',ys0,k1,k2,k3,k4,k5⟩:=r.own i xs hi;rw[ha]at k1;cases k1;have R:i<δ.length:=(aB.mp hi).1;have hl:=r.len;refine⟨r.ext,r.new,fun b o h=>?_,fun b o h=>?_,by simp[hl],fun j y h=>?_,fun j zs h=>?_,fun j l us ws Y h1 Z=>?_,r.DZ⟩
 .rw[AN (fun z=>by subst z;rw[k2]at h;cases h)];exact r.ins _ _ h
 .rw[AN (fun z=>by subst z;rw[k3]at h;cases h)];exact r.keep _ _ h
 .by_cases g:i=j
  .subst g;rw[List.getElem?_set_self R]at h;cases h
  .rw[List.getElem?_set_ne g]at h;exact r.dat j y h
 .by_cases g:i=j
  .subst g;rw[List.getElem?_set_self R]at h;cases h;exact⟨a,ys,ha,k2,k3,AM,d⟩
  .rw[List.getElem?_set_ne g]at h;obtain⟨b,us,m1,m2,m3,m4,m5⟩:=r.own j zs h;have nb:b≠a:=fun z=>by subst z;exact r.apart i j xs zs g hi h (by rw[ha,m1])
   exact⟨b,us,m1,m2,m3,by rw[AN nb];exact m4,m5⟩
 .have f:∀(j:Nat) (us:Oc),(δ.set i (.own I))[j]? = some (L.own us)->∃M,δ[j]? = some (L.own M):=fun j us h=>by
   by_cases g:i=j
   .subst g;exact⟨xs,hi⟩
   .rw[List.getElem?_set_ne g]at h;exact⟨us,h⟩
  obtain⟨M,h1⟩:=f j us h1;obtain⟨U,Z⟩:=f l ws Z;exact r.apart j l M U Y h1 Z
end
section
variable{X:Cx}{e:Expr}{es:t8}{h:tX}{fs:tW}{pos p:Pos}   
def kx{i:Nat}{x:Str}{g M:Pos}(hN:X.N.Nodup)(hi:X.N[i]? = some x)(Y:Loc X.env.scope x)(ha:DA X es fs)(Z:swapsWith (.List es M) (some (.Name x g)) pos.line X.env=pure false:=by rfl)(hf:X.fn x=true\/X.env.scope.names.lookup x=some .local:=by first|exact .inl rfl|exact .inr rfl|assumption):DS X (.Assign [.Name x g] (.List es M) pos) (fun δ=>((fs δ).bind HB).map fun ys=>.nx (δ.set i (.own Id))):=by
 obtain⟨t,p,k⟩:=ha;refine⟨_,AX hN hi Y (Cu p) Z hf,fun δ r h G0 H0 G H σ D R q=>?_⟩;obtain⟨y,h1,rfl⟩:=aF.mp h;obtain⟨xs,h2,h3⟩:=aC.mp h1;obtain⟨rfl,hl⟩:=RH h3;refine k δ _ h2 G0 H0 G H σ [] _ R fun vs G1 H1 R1 U=>?_;obtain⟨d,R2⟩:=R1.args U;exact⟨IA (by rw[U];exact hl),fun l I=>q _ _ _ (R2.lB ⟨_,rfl,d⟩ I)⟩
def ow(i:Nat)(δ:Dv):Option tZ:=match δ[i]? with
 |some (.own (.lst xs))=>some xs
 |_=>none
def pM{i:Nat}{δ:Dv}{xs:tZ}(h:ow i δ=some xs):δ[i]? = some (.own (.lst xs)):=by
 unfold ow at h;split at h
 .rename_i y e;cases h;exact e
 .cases h
end
structure QL(J:It)(xs:List PyData)(G:Hp):Prop where
 stop:∀H,AK G H->J.stop xs.length H
 go:∀(i:Nat) (d:PyData) H,xs[i]? = some d->AK G H->J.go i H
 F6:∀(i:Nat) (d:PyData) H x H',xs[i]? = some d->AK G H->J.F6 i H x H'->∀Gc,AK G Gc->AK Gc H->∃Gc',AK Gc Gc'/\Nw Gc H Gc'/\AK Gc' H'/\AK H H'/\Du Gc' d x
def Nw.refl{G H:Hp}:Nw G H G:=fun _ _ h=>.inl h
def jU{K:Fg}{G:Hp}{a:AD}{ys:uD}{xs:tZ}(ha:G a=some Id)(d:Ay G xs ys):QL (YI K a) xs G where
 stop:=fun H e=>⟨ys,AU.of (e _ _ ha),by rw[d.len];exact aH _⟩
 go:=fun i x H hx e=>by
  obtain⟨v,h1,_⟩:=d.get hx;exact⟨ys,v,AU.of (e _ _ ha),h1⟩
 F6:=fun i x H v H' hx e y Gc e1 e2=>by
  obtain⟨rfl,y⟩:=y;have h1:=y ys (AU.of (e _ _ ha));obtain⟨x',h2,h3⟩:=d.back h1;rw[hx]at h2;cases h2;exact⟨Gc,AK.refl _,Nw.refl,e2,AK.refl _,h3.same e1⟩
def kZ{K:Fg}{G:Hp}{a:AD}{ys:uD}{xs:tZ}(ha:G a=some (.tup ys))(d:Ay G xs ys):QL (YL K a) xs G where
 stop:=fun H e=>⟨ys,Al.of (e _ _ ha),by rw[d.len];exact aH _⟩
 go:=fun i x H hx e=>by
  obtain⟨v,h1,_⟩:=d.get hx;exact⟨ys,v,Al.of (e _ _ ha),h1⟩
 F6:=fun i x H v H' hx e y Gc e1 e2=>by
  obtain⟨rfl,y⟩:=y;have h1:=y ys (Al.of (e _ _ ha));obtain⟨x',h2,h3⟩:=d.back h1;rw[hx]at h2;cases h2;exact⟨Gc,AK.refl _,Nw.refl,e2,AK.refl _,h3.same e1⟩
def MC(lo:Int)(n:Nat):tZ:=(List.range n).map fun k=>.int (lo+(k:Nat))
def nW{G:Hp}{lo:Int}{n:Nat}:QL (UR lo n) (MC lo n) G where
 stop:=fun H e=>by show n<=_;simp[MC]
 go:=fun i x H hx e=>by
  have:=(aB.mp hx).1;show i<n
  simpa[MC]using this
 F6:=fun i x H v H' hx e y Gc e1 e2=>by
  obtain⟨rfl,rfl⟩:=y;unfold MC at hx;rw[(BC)]at hx;obtain⟨k,h1,rfl⟩:=aF.mp hx;have hk:k=i:=by
   have:=(aB.mp h1).1;rw[List.getElem?_range (by simpa using this)]at h1;cases h1;rfl
  subst hk;exact⟨Gc,AK.refl _,Nw.refl,e2,AK.refl _,by rw[Du]⟩
def fQ{Gc H:Hp}{p:AD}{Y U:PD}{I g:V}(R:AK Gc H)(M:H p=none)(h1:Du Gc Y I)(h2:Du Gc U g):∃Gc',AK Gc Gc'/\Nw Gc H Gc'/\AK Gc' (upd H p (.tup [I,g]))/\AK H (upd H p (.tup [I,g]))/\Du Gc' (.tuple [Y,U]) (.ref p):=by
 have Z:Gc p=none:=by
  cases q:Gc p with
  |none=>rfl
  |some u=>rw[R _ _ q]at M;cases M
 have e:AK Gc (upd Gc p (.tup [I,g])):=AO Z _;refine⟨upd Gc p (.tup [I,g]),e,fun a o h=>?_,fun a o h=>?_,AO M _,?_⟩
 .by_cases ha:a=p
  .subst ha;exact .inr (.inl M)
  .rw[AN ha]at h;exact .inl h
 .by_cases ha:a=p
  .subst ha;rw[AM]at h ⊢;exact h
  .rw[AN ha]at h ⊢;exact R _ _ h
 .rw[Du];exact⟨p,[I,g],rfl,AM,.cons (h1.same e) (.cons (h2.same e) .nil)⟩
def ML(xs ys:tZ):tZ:=(xs.zip ys).map fun q=>.tuple [q.1,q.2]
def QW{xs ys:tZ}{i:Nat}{d:PD}(h:(ML xs ys)[i]? = some d):∃x y,xs[i]? = some x/\ys[i]? = some y/\d=.tuple [x,y]:=by
 unfold ML at h;rw[(BC)]at h;obtain⟨q,M,rfl⟩:=aF.mp h;obtain⟨I,g⟩:=List.getElem?_zip_eq_some.mp M;exact⟨q.1,q.2,I,g,rfl⟩
def n0{G:Hp}{b1 b2:Bool}{a1 a2:AD}{us vs:uD}{xs ys:tZ}(h1:G a1=some (if b1 then .tup us else .lst us))(h2:G a2=some (if b2 then .tup vs else .lst vs))(d1:Ay G xs us)(d2:Ay G ys vs):QL (oj b1 b2 a1 a2) (ML xs ys) G where
 stop:=fun H e=>by
  have k1:=e _ _ h1;have k2:=e _ _ h2;refine⟨us,vs,?_,?_,?_⟩
  .cases b1<;>simpa[Gq]using k1
  .cases b2<;>simpa[Gq]using k2
  .rw[d1.len,d2.len];simp[ML];lia
 go:=fun i x H hx e=>by
  obtain⟨x1,x2,k1,k2,rfl⟩:=QW hx;obtain⟨v1,k3,_⟩:=d1.get k1;obtain⟨v2,k4,_⟩:=d2.get k2;have m1:=e _ _ h1;have m2:=e _ _ h2;refine⟨us,v1,vs,v2,?_,?_,k3,k4⟩
  .cases b1<;>simpa[Gq]using m1
  .cases b2<;>simpa[Gq]using m2
 F6:=fun i x H v H' hx e y Gc e1 e2=>by
  obtain⟨x1,x2,k1,k2,rfl⟩:=QW hx;obtain⟨p,v1,v2,rfl,hp,rfl,y1,y2⟩:=y;have m1:=e _ _ h1;have m2:=e _ _ h2;have z1:=y1 us (by cases b1<;>simpa[Gq]using m1);have z2:=y2 vs (by cases b2<;>simpa[Gq]using m2);obtain⟨w1,n1,n2⟩:=d1.back z1;obtain⟨w2,n3,n4⟩:=d2.back z2;rw[k1]at n1;cases n1;rw[k2]at n3;cases n3;exact fQ e2 hp (n2.same e1) (n4.same e1)
def DI(X:Cx)(tg iter:Expr)(f:tW):Prop:=∃g,PI X tg iter g/\∀δ xs,f δ=some xs->∀G0 H0 G H σ ts (R:It->Hp->Prop),Rw G0 H0 G H σ δ ts->(∀J I H',Rw G0 H0 I H' σ δ ts->QL J xs I->R J H')->g σ H R
section
variable{X:Cx}{tg a b e:Expr}{f g h:tX}{fs:tW}{pos p:Pos}{sts:uG}{F:DF}
def PI.or{U M:TI}(h:PI X tg e U)(h':PI X tg e M):PI X tg e (fun σ H R=>U σ H R\/M σ H R):=fun pins s σ H R I q=>by
 rcases q with q|q
 .exact h pins s σ H R I q
 .exact h' pins s σ H R I q
def Nd:PD->Option (List PD)
 |.list xs=>some xs
 |.tuple xs=>some xs
 |_=>none
def lI(he:DE X e f):DI X tg e (fun δ=>(f δ).bind Nd):=by
 obtain⟨t,p,k⟩:=he;refine⟨_,(Av p).or (a9 p),fun δ xs h G0 H0 G H σ ts R R0 q=>?_⟩;obtain⟨x,Z,U⟩:=aC.mp h;unfold Nd at U;split at U
 .cases U
  left
  refine k δ _ Z G0 H0 G H σ ts _ R0 fun v G' H' I=>?_;have du:=I.DZ _ (.head _);rw[Du]at du;obtain⟨a,ys,rfl,M,Y⟩:=du;exact⟨a,rfl,⟨ys,AU.of (I.ins _ _ M)⟩,q _ _ _ I.drop (jU M Y)⟩
 .cases U
  right
  refine k δ _ Z G0 H0 G H σ ts _ R0 fun v G' H' I=>?_;have du:=I.DZ _ (.head _);rw[Du]at du;obtain⟨a,ys,rfl,M,Y⟩:=du;exact⟨a,rfl,⟨ys,Al.of (I.ins _ _ M)⟩,q _ _ _ I.drop (kZ M Y)⟩
 .cases U
def QV:List PD->Option (List PD)
 |[.int j]=>if -1000000<=j/\j<=1000000 then some (MC 0 j.toNat) else none
 |_=>none
def Ta(hg:Gl X "range")(hm:X.mg "range" = none)(ha:DA X [a] fs)(U:starEach [a] X.env=[(false,eval a X.env)]:=by rfl):DI X tg (.Call (.Name "range" p) [a] [] pos) (fun δ=>(fs δ).bind QV):=by
 obtain⟨t,p,k⟩:=ha;refine⟨_,C4 hg hm p U,fun δ xs h G0 H0 G H σ ts R Z q=>?_⟩;obtain⟨x,Y,I⟩:=aC.mp h;refine k δ _ Y G0 H0 G H σ ts _ Z fun vs G' H' R' M=>?_;obtain⟨d,R2⟩:=R'.args M;unfold QV at I;split at I
 .split at I
  .cases I;obtain⟨u,rfl,du⟩:=d.TV;rw[Du]at du;subst du;exact⟨_,rfl,by lia,by lia,q _ _ _ R2 nW⟩
  .cases I
 .cases I
def zip2:List PD->Option (List PD)
 |[x,y]=>(Nd x).bind fun xs=>(Nd y).map fun ys=>ML xs ys
 |_=>none
def Mc{G:Hp}{x:PD}{v:V}{xs:tZ}(h:Du G x v)(e:Nd x=some xs):∃(b:Bool) (a:AD) (ys:uD),v=.ref a/\G a=some (if b then .tup ys else .lst ys)/\Ay G xs ys:=by
 unfold Nd at e;split at e
 .cases e;rw[Du]at h;obtain⟨a,ys,rfl,M,I⟩:=h;exact⟨false,a,ys,rfl,M,I⟩
 .cases e;rw[Du]at h;obtain⟨a,ys,rfl,M,I⟩:=h;exact⟨true,a,ys,rfl,M,I⟩
 .cases e
def WD{elts:t8}{x1}{I:Pos}(hg:Gl X "zip")(hm:X.mg "zip" = none)(ha:DA X [a,b] fs)(hs:starEach [a,b] X.env=[(false,eval a X.env),(false,eval b X.env)]:=by rfl)(U:starEach [b] X.env=[(false,eval b X.env)]:=by rfl):DI X (.Tuple elts x1 I) (.Call (.Name "zip" p) [a,b] [] pos) (fun δ=>(fs δ).bind zip2):=by
 obtain⟨t,p,k⟩:=ha;refine⟨_,Nz hg hm p hs U,fun δ xs h G0 H0 G H σ ts R R0 q=>?_⟩;obtain⟨x,h1,M⟩:=aC.mp h;refine k δ _ h1 G0 H0 G H σ ts _ R0 fun vs G' H' R' hv=>?_;obtain⟨d,R2⟩:=R'.args hv;unfold zip2 at M;split at M
 .obtain⟨xs1,h3,h4⟩:=aC.mp M;obtain⟨Z,h5,rfl⟩:=aF.mp h4;obtain⟨u,v,rfl,du,dv⟩:=d.OC;obtain⟨b1,a1,us,rfl,Y,n2⟩:=Mc du h3;obtain⟨b2,a2,ws,rfl,m1,m2⟩:=Mc dv h5;have s1:=R2.ins _ _ Y;have s2:=R2.ins _ _ m1;exact⟨b1,b2,a1,a2,rfl,⟨us,by cases b1<;>simpa[Gq]using s1⟩,⟨ws,by cases b2<;>simpa[Gq]using s2⟩,q _ _ _ R2 (n0 Y m1 n2 m2)⟩
 .cases M
def DG(X:Cx)(tg:Expr)(set:PD->Dv->Option Dv):Prop:=∃g,PG X tg g/\∀δ x M,set x δ=some M->∀G0 H0 G H σ v (Q:St->Hp->Prop),Rw G0 H0 G H σ δ [(x,v)]->(∀I R H',Rw G0 H0 R H' I M []->Q I H')->g v σ H Q
def S0{i:Nat}{x:Str}(h:PG X (.Name x pos) (EJ i)):DG X (.Name x pos) (fun y δ=>some (δ.set i (.d y))) :=
 ⟨_,h,fun δ y I e G0 H0 G H σ v Q R k=>by cases e;exact k _ _ _ R.Oe⟩
def Hx(i j:Nat)(y:PD)(δ:Dv):Option Dv:=match y with
 |.tuple [u,v]=>some ((δ.set i (.d u)).set j (.d v))
 |_=>none
def cQ{x y:Str}{i j:Nat}{Y U:Pos}{k1}(h:PG X (.Tuple [.Name x Y,.Name y U] k1 pos) (gE X.K 2 (RG (EJ i) (RG (EJ j) fP)))):DG X (.Tuple [.Name x Y,.Name y U] k1 pos) (Hx i j):=by
 refine⟨_,h,fun δ z Z e G0 H0 G H σ v Q R k=>?_⟩;unfold Hx at e;split at e
 .cases e;have du:=R.DZ _ (.head _);rw[Du]at du;obtain⟨a,ys,rfl,n1,n2⟩:=du;obtain⟨M,I,rfl,m1,m2⟩:=n2.OC;refine⟨a,[M,I],rfl,Al.of (R.ins _ _ n1),rfl,M,[I],rfl,I,[],rfl,rfl,?_⟩;exact k _ _ _ (((R.drop.put m2).put m1).Oe.Oe)
 .cases e
def MR(set:PD->Dv->Option Dv)(M:DF):List PD->Dv->Option Ou
 |[],δ=>some (.nx δ)
 |x::xs,δ=>match (set x δ).bind M with
  |some (.nx I)=>MR set M xs I
  |some (.ct I)=>MR set M xs I
  |some (.bk I)=>some (.nx I)
  |some (.rt v)=>some (.rt v)
  |some (.rn v)=>some (.rn v)
  |none=>none
def Rh{set:PD->Dv->Option Dv}(hp:PassesOwn At X.A X.env X.xe)(hc:X.calm=true)(hi:DI X tg e fs)(hg:DG X tg set)(hb:Pt X sts F)(hs:∀x,foldedSetIterable e X.env x=pure x:=by intro _;rfl):DS X (.For tg e sts [] pos) (fun δ=>(fs δ).bind fun xs=>MR set F xs δ):=by
 obtain⟨wi,pi,ki⟩:=hi;obtain⟨g,pg,kg⟩:=hg;obtain⟨tb,pb,kb⟩:=hb;refine⟨_,Bg hp hc pi pg pb hs,fun δ r h G0 H0 G H σ D R q=>?_⟩;obtain⟨xs,h1,h2⟩:=aC.mp h;refine ki δ xs h1 G0 H0 G H σ [] _ R fun J Ga Ha Ra it=>?_;refine⟨fun i m M H'=>m=xs.length-i/\i<=xs.length/\∃I G',MR set F (xs.drop i) I=some r/\Rw G0 H0 G' H' M I []/\AK Ga G',⟨xs.length,by simp,Nat.zero_le _,δ,Ga,by simpa using h2,Ra,AK.refl _⟩,?_⟩;rintro i m σ1 H1 ⟨rfl,hi,δ1,G1,f1,R1,s1⟩;have sH:AK Ga H1:=s1.trans R1.ins;by_cases Y:i<xs.length
 .right
  have hx:xs[i]? = some xs[i]:=by simp[Y]
  refine⟨it.go i _ H1 hx sH,fun M H'=>i+1<=xs.length/\∃I G',MR set F (xs.drop (i+1)) I=some r/\Rw G0 H0 G' H' M I []/\AK Ga G',fun M H' n=>⟨xs.length-(i+1),by lia,rfl,n⟩,fun x H' y=>?_⟩;obtain⟨G2,e1,e2,e3,e4,e5⟩:=it.F6 i _ H1 x H' hx sH y G1 s1 R1.ins;have R2:=(R1.lift e1 e2 e3 e4).put e5;have s2:=s1.trans e1;rw[List.drop_eq_getElem_cons Y]at f1;unfold MR at f1;cases hb2:(set xs[i] δ1).bind F with
  |none=>rw[hb2]at f1;cases f1
  |some o=>
   obtain⟨δ2,k1,k2⟩:=aC.mp hb2;rw[hb2]at f1;have R2b:=R2.base;refine kg δ1 _ δ2 k1 G2 H0 G2 H' σ1 x _ R2b fun σ3 G3 H3 R3=>?_;refine kb δ2 o k2 G2 H0 G3 H3 σ3 _ R3 ?_;cases o with
   |nx U=>exact fun σ4 Z H4 R4=>⟨Y,U,Z,f1,R2.drop.Vt R4,s2.trans R4.ext⟩
   |ct U=>exact fun σ4 Z H4 R4=>⟨Y,U,Z,f1,R2.drop.Vt R4,s2.trans R4.ext⟩
   |bk U=>cases f1;exact fun σ4 Z H4 R4=>q σ4 Z H4 (R2.drop.Vt R4)
   |rt v=>cases f1;exact fun w Z H4 h1 h2 h3 h4 h5=>q w Z H4 (R2.ext.trans h1) (R2.new.trans h2) h3 h4 h5
   |rn v=>cases f1;exact fun w ys Z H4 h1 h2=>q w ys Z H4 (R2.ext.trans h1) (R2.new.trans h2)
 .left
  have e:i=xs.length:=by lia
  subst e;refine⟨it.stop H1 sH,?_⟩;rw[List.drop_length]at f1;unfold MR at f1;cases f1;exact q _ _ _ R1
end
def tD(f:tX):TE:=fun σ H Q=>∃δ x G0 H0 G ts,f δ=some x/\Rw G0 H0 G H σ δ ts/\∀v g H',Rw G0 H0 g H' σ δ ((x,v)::ts)->Q v H'
def jC(f:tY):TT:=fun σ H Q=>∃δ x G0 H0 G ts,f δ=some x/\Rw G0 H0 G H σ δ ts/\∀g H',Rw G0 H0 g H' σ δ ts->Q x H'
def DE.pe{X:Cx}{e:Expr}{f:tX}(h:DE X e f):PE X e (tD f):=by
 obtain⟨t,p,k⟩:=h;intro pins s σ H Q I q;obtain⟨δ,x,G0,H0,G,ts,R,M,g⟩:=q;exact p pins s σ H Q I (k δ x R G0 H0 G H σ ts Q M g)
def DT.pt{X:Cx}{e:Expr}{f:tY}(h:DT X e f):PT X e (jC f):=by
 obtain⟨t,p,k⟩:=h;intro pins s σ H Q I q;obtain⟨δ,x,G0,H0,G,ts,R,M,g⟩:=q;exact p pins s σ H Q I (k δ x R G0 H0 G H σ ts Q M g)
def kf(X:Cx)(g:t8)(f:tY):Prop:=MB X g (jC f)
def jX{X:Cx}:kf X [] (fun _=>some true):=by
 intro pins s σ H Q I q;obtain⟨δ,x,G0,H0,G,ts,R,M,g⟩:=q;cases R;exact BH pins s σ H Q I (g _ _ M)
def jZ{X:Cx}{c:Expr}{f:tY}(h:DT X c f):kf X [c] f:=jV h.pt
def F7(fr:uI)(δ:Dv):Dv:=fr.map fun o=>match o with
 |some j=>(match δ[j]? with|some (.d x)=>.d x|_=>.no)
 |none=>.no
def Rw.inner{G0 H0 G H:Hp}{σ:St}{δ:Dv}{ts:List (PD×V)}(fr:uI)(r:Rw G0 H0 G H σ δ ts):Rw G H G H (carry fr σ) (F7 fr δ) ts:=by
 have key:∀(i:Nat) (l:L),(F7 fr δ)[i]? = some l->∃o,fr[i]? = some o/\l=(match o with|some j=>(match δ[j]? with|some (.d x)=>.d x|_=>.no)|none=>.no):=fun i l h=>by
  unfold F7 at h;rw[(BC)]at h;obtain⟨o,M,rfl⟩:=aF.mp h;exact⟨o,M,rfl⟩
 have g:∀(i:Nat) (xs:Oc),(F7 fr δ)[i]?≠some (L.own xs):=fun i xs h=>by
  obtain⟨o,_,I⟩:=key i _ h;split at I
  .split at I<;>cases I
  .cases I
 refine⟨AK.refl _,Nw.refl,r.ins,AK.refl _,by simp[carry,F7],fun i x h=>?_,fun i xs h=>absurd h (g i xs),fun i j xs ys _ h=>absurd h (g i xs),r.DZ⟩;obtain⟨o,M,I⟩:=key i _ h;split at I
 .rename_i j;split at I
  .rename_i y Y;cases I;obtain⟨v,U,R⟩:=r.dat j _ Y;refine⟨v,?_,R⟩;unfold carry;rw[(BC),M];simp[U]
  .cases I
 .cases I
def Rw.other{G0 H0 G H:Hp}{σ:St}{δ:Dv}{ts:List (PD×V)}{D:AD}{o:HO}(r:Rw G0 H0 G H σ δ ts)(Z:G D=none)(h0:H0 D=none)(Y:∀(i:Nat) (xs:Oc),δ[i]? = some (L.own xs)->σ[i]?≠some (some (V.ref D))):Rw G0 H0 G (upd H D o) σ δ ts:=by
 refine⟨r.ext,r.new,fun a u h=>?_,fun a u h=>?_,r.len,r.dat,fun i xs h=>?_,r.apart,r.DZ⟩
 .rw[AN (fun z=>by subst z;rw[Z]at h;cases h)];exact r.ins _ _ h
 .rw[AN (fun z=>by subst z;rw[h0]at h;cases h)];exact r.keep _ _ h
 .obtain⟨a,ys,g,U,R,M,I⟩:=r.own i xs h;exact⟨a,ys,g,U,R,by rw[AN (fun z=>by subst z;exact Y i xs h g)];exact M,I⟩
def Rw.adopt{G0 H0 G H:Hp}{σ:St}{δ:Dv}{ts:List (PD×V)}{D:AD}{ys:uD}(r:Rw G0 H0 G H σ δ ts)(hD:H D=some Id)(hG:G D=none)(h0:H0 D=none)(ho:∀(i:Nat) (xs:Oc),δ[i]? = some (L.own xs)->σ[i]?≠some (some (V.ref D))):Rw G0 H0 (upd G D Id) H σ δ ts:=by
 have e:AK G (upd G D Id):=AO hG _;refine⟨r.ext.trans e,fun a u h=>?_,fun a u h=>?_,r.keep,r.len,fun i x h=>?_,fun i xs h=>?_,r.apart,fun q Z=>(r.DZ q Z).same e⟩
 .by_cases ha:a=D
  .subst ha;exact .inr (.inl h0)
  .rw[AN ha]at h;exact r.new _ _ h
 .by_cases ha:a=D
  .subst ha;rw[AM]at h;rw[hD];exact h
  .rw[AN ha]at h;exact r.ins _ _ h
 .obtain⟨v,g,I⟩:=r.dat i x h;exact⟨v,g,I.same e⟩
 .obtain⟨a,M,g,I,Y,U,R⟩:=r.own i xs h;have ha:a≠D:=fun z=>by subst z;exact ho i xs h g
  exact⟨a,M,g,by rw[AN ha];exact I,Y,U,R.same e⟩
def S5(set:PD->Dv->Option Dv)(I:tY)(f:tX)(δ:Dv)(x:PD):Option tq :=
 (set x δ).bind fun g=>(I g).bind fun b=>if b=true then(f g).map some else some none
def collect(one:PD->Option (Option PD)):List PD->Option (List PD)
 |[]=>some []
 |x::xs=>(one x).bind fun o=>(collect one xs).map fun r=>o.toList++r
def Rp(set:PD->Dv->Option Dv)(g:tY)(f:tX)(fr:uI)(fs:tW)(δ:Dv):Option tZ :=
 (fs δ).bind fun xs=>(collect (S5 set g f (F7 fr δ)) xs).bind HB
def O9(set:PD->Dv->Option Dv)(g:tY)(f:tX)(fr:uI)(fs:tW)(δ:Dv):tq :=
 (Rp set g f fr fs δ).map .list
structure j5(G0 H0 Ga:Hp)(σ:St)(δ:Dv)(ts:List (PyData×V))(one:PyData->Option (Option PyData))(xs full:List PyData)(D:Addr)(i:Nat)(ys:IR)(H:Hp):Prop where
 ex:∃G done rest,Rw G0 H0 G H σ δ ts/\AK Ga G/\G D=none/\collect one (xs.drop i)=some rest/\done++rest=full/\Ay G done ys
 h0:H0 D=none
 ap:∀(j:Nat) (us:Oc),δ[j]? = some (L.own us)->σ[j]?≠some (some (V.ref D))
def eX{G0 H0 G H:Hp}{D:AD}{ys:uD}(I:G0 D=none)(g:H0 D=some Id)(n:Nw G0 H0 G)(e:AK G H)(k:AK H0 H):G D=none:=by
 cases q:G D with
 |none=>rfl
 |some o=>
  rcases n _ _ q with z|z|⟨us,z⟩
  .rw[I]at z;cases z
  .rw[g]at z;cases z
  .have:=e _ _ q;rw[k _ _ g,z]at this;cases this
section
variable{X:Cx}{elt iter:Expr}{x y:Str}{px py tp pos:Pos}{tk:Nat}{ifs:t8}{scope:Scope}{fs:tW}{tif:tY}{f:tX}
def XS{wi:TI}{ix iy:Nat}{fr:uI}(ki:∀(δ:Dv) (xs:tZ),fs δ=some xs->∀(G0 H0 G H:Hp) (σ:St) (ts:List (PD×V)) (R:It->Hp->Prop),Rw G0 H0 G H σ δ ts->(∀J G' H',Rw G0 H0 G' H' σ δ ts->QL J xs G'->R J H')->wi σ H R){δ:Dv}{zs:tZ}(hz:Rp (Hx ix iy) tif f fr fs δ=some zs){G0 H0 G H:Hp}{σ:St}{ts:List (PD×V)}{Q:VK}(R0:Rw G0 H0 G H σ δ ts)(k:∀D ys G' H',Rw G0 H0 G' H' σ δ ts->H' D=some Id->G' D=none->H0 D=none->(∀(j:Nat) (us:Oc),δ[j]? = some (L.own us)->σ[j]?≠some (some (V.ref D)))->Ay G' zs ys->Q (.ref D) H'):Mj X.K wi fr ix iy (jC tif) (tD f) σ H Q:=by
 unfold Rp at hz;obtain⟨xs,m2,m3⟩:=aC.mp hz;obtain⟨full,m4,m5⟩:=aC.mp m3;obtain⟨rfl,hfew⟩:=RH m5;refine ki δ xs m2 G0 H0 G H σ ts _ R0 fun J Ga Ha Ra it D hD=>?_;have hGD:Ga D=none:=by
  cases q:Ga D with
  |none=>rfl
  |some u=>rw[Ra.ins _ _ q]at hD;cases hD
 have I:H0 D=none:=by
  cases q:H0 D with
  |none=>rfl
  |some u=>rw[Ra.keep _ _ q]at hD;cases hD
 have g:∀(j:Nat) (us:Oc),δ[j]? = some (L.own us)->σ[j]?≠some (some (V.ref D)):=fun j us h z=>by
  obtain⟨a,ys,k1,k2,k3,k4,k5⟩:=Ra.own j us h;rw[z]at k1;cases k1;rw[k4]at hD;cases hD
 refine Hk (n:=xs.length) (j5 G0 H0 Ga σ δ ts (S5 (Hx ix iy) tif f (F7 fr δ)) xs full D) ⟨⟨Ga,[],full,Ra.other hGD I g,AK.refl _,hGD,by simpa using m4,rfl,.nil⟩,I,g⟩ ?_ ?_
 .rintro i ys H1 Z ⟨⟨G1,done,rest,R1,s1,g1,c1,e1,d1⟩,_,_⟩ hD1;have hx:xs[i]? = some xs[i]:=by simp[Z]
  have sH:=s1.trans R1.ins;have hyl:ys.length<sizeLine:=jf (by
   rw[d1.len];have:done.length<=full.length:=by rw[<-e1];simp
   lia)
  refine⟨it.go i _ H1 hx sH,hyl,fun v H' y=>?_⟩;obtain⟨G2,n1,n2,n3,n4,n5⟩:=it.F6 i _ H1 v H' hx sH y G1 s1 R1.ins;have R2:=R1.lift n1 n2 n3 n4;have hD2:=n4 _ _ hD1;have g2:G2 D=none:=eX g1 hD1 n2 n3 n4;rw[List.drop_eq_getElem_cons Z]at c1;unfold collect at c1;obtain⟨o,c2,c3⟩:=aC.mp c1;obtain⟨M,c4,rfl⟩:=aF.mp c3;unfold S5 at c2;obtain⟨δ1,c8,c9⟩:=aC.mp c2;obtain⟨b,c5,c6⟩:=aC.mp c9;unfold Hx at c8;split at c8
  .rename_i u1 u2 hu;cases c8;rw[hu,Du]at n5;obtain⟨pa,ps,rfl,q1,q2⟩:=n5;obtain⟨w1,w2,rfl,q3,q4⟩:=q2.OC;have Ri:=(((R2.inner fr).put q4).put q3).Oe (i:=ix) |>.Oe (i:=iy)
   have Ri0:Rw G2 H' G2 H' (((carry fr σ).set ix (some w1)).set iy (some w2)) (((F7 fr δ).set ix (.d u1)).set iy (.d u2)) []:=Ri.less fun q hq=>by cases hq
   refine⟨pa,w1,w2,rfl,Al.of (n3 _ _ q1),?_⟩;refine⟨_,b,G2,H',G2,[],c5,Ri0,fun G3 H3 Y=>?_⟩;have R3o:=R2.lift Y.ext Y.new Y.ins Y.keep;have hD3:=Y.keep _ _ hD2;have g3:G3 D=none:=eX g2 hD2 Y.new Y.ins Y.keep;dsimp only;split
   .rename_i hb;rw[if_pos hb]at c6;obtain⟨w,c7,rfl⟩:=aF.mp c6;refine⟨_,w,G2,H',G3,[],c7,Y,fun u G4 H4 U=>?_⟩;have R4o:=R2.lift U.ext U.new U.ins U.keep;have hD4:=U.keep _ _ hD2;have g4:G4 D=none:=eX g2 hD2 U.new U.ins U.keep;refine⟨hD4,BG Z ⟨⟨G4,done++[w],M,R4o.other g4 I g,s1.trans (n1.trans U.ext),g4,c4,by simpa using e1,(d1.same (n1.trans U.ext)).app (.cons (U.DZ _ (.head _)) .nil)⟩,I,g⟩⟩
   .rename_i hb;rw[if_neg hb]at c6;cases c6;exact jd Z hD3 ⟨⟨G3,done,M,R3o,s1.trans (n1.trans Y.ext),g3,c4,by simpa using e1,d1.same (n1.trans Y.ext)⟩,I,g⟩
  .cases c8
 .rintro ys H1 ⟨⟨G1,done,rest,R1,s1,g1,c1,e1,d1⟩,_,_⟩ hD1;refine⟨it.stop H1 (s1.trans R1.ins),?_⟩;rw[List.drop_length]at c1;cases c1;rw[(Od)]at e1;subst e1;exact k _ _ _ _ R1 hD1 g1 I g d1
def ZW{Y:TI}{ix Z:Nat}{fr:uI}(ki:∀(δ:Dv) (xs:tZ),fs δ=some xs->∀(G0 H0 G H:Hp) (σ:St) (ts:List (PD×V)) (R:It->Hp->Prop),Rw G0 H0 G H σ δ ts->(∀J g H',Rw G0 H0 g H' σ δ ts->QL J xs g->R J H')->Y σ H R){δ:Dv}{z:PD}(hz:O9 (Hx ix Z) tif f fr fs δ=some z){G0 H0 G H:Hp}{σ:St}{ts:List (PD×V)}{Q:VK}(R0:Rw G0 H0 G H σ δ ts)(k:∀v g H',Rw G0 H0 g H' σ δ ((z,v)::ts)->Q v H'):Mj X.K Y fr ix Z (jC tif) (tD f) σ H Q:=by
 unfold O9 at hz;obtain⟨full,m1,rfl⟩:=aF.mp hz;refine XS ki m1 R0 fun D ys G1 H1 R1 U g1 M I d1=>?_;have e:AK G1 (upd G1 D Id):=AO g1 _;have R2:=R1.adopt U g1 M I;refine k _ _ _ (R2.put ?_);rw[Du];exact⟨D,ys,rfl,AM,d1.same e⟩
def P8{i:Nat}{z:Str}{pz g:Pos}(N:t7)(ix I:Nat)(fr:uI)(hN:X.N.Nodup)(M:X.N[i]? = some z)(Z:X.env.scope.names.lookup z=some .local)(hi:DI X (.Tuple [.Name x px,.Name y py] tk tp) iter fs)(hif:∀cl C s₀ H₀ fp,kf ED ifs tif)(he:∀cl C s₀ H₀ fp,DE ED elt f) (h1:DD scope N x ix=true:=by decide +kernel)(h1':DD scope N y I=true:=by decide +kernel)(U:ix≠I:=by decide)(h2:X.calm=true:=by rfl)(h3:Gh N X.N scope X.env.scope fr 0=true:=by rfl)(h4:fr.length=N.length:=by rfl)(h5:freeOk X.env.scope scope.names=true:=by rfl) (Y:swapsWith (.ListComp elt [⟨.Tuple [.Name x px,.Name y py] tk tp,iter,ifs,0⟩] scope pos) (some (.Name z pz)) g.line X.env=pure true:=by rfl) (hs:∀x,foldedSetIterable iter X.env x=pure x:=by intro _;rfl):DS X (.Assign [.Name z pz] (.ListComp elt [⟨.Tuple [.Name x px,.Name y py] tk tp,iter,ifs,0⟩] scope pos) g) (fun δ=>(O9 (Hx ix I) tif f fr fs δ).map fun y=>.nx (δ.set i (.d y))):=by
 obtain⟨wi,pi,ki⟩:=hi;refine⟨_,IJ N ix I fr hN M Z pi hif (fun cl C s₀ H₀ fp=>(he cl C s₀ H₀ fp).pe) h1 h1' U h2 h3 h4 h5 Y hs,fun δ r h G0 H0 G H σ D R q=>?_⟩;obtain⟨y2,m1,rfl⟩:=aF.mp h;exact ZW ki m1 R fun v G' H' R'=>q _ _ _ R'.Oe
def LV(N:t7)(ds:tZ):Dv:=ds.map .d++List.replicate (N.length-ds.length) .no
def M7(ps N:t7)(F:DF)(ds:tZ):tq:=if ds.length=ps.length then(match F (LV N ds) with
 |some (.rt x)=>some x
 |some (.nx _)=>some .none
 |some (.rn xs)=>some (.list xs)
 |_=>none) else none
theorem Rw.start{N:t7}{ds:tZ}{vs:uD}{G H:Hp}(d:Ay G ds vs)(e:AK G H):Rw G H G H (start N vs) (LV N ds) []:=by
 have R:=d.len;refine⟨AK.refl _,Nw.refl,e,AK.refl _,by simp[L2.start,LV,R],fun i x h=>?_,fun i xs h=>?_,fun i j xs ys _ h=>?_,fun q M=>by cases M⟩
 .unfold LV at h;by_cases hi:i<ds.length
  .rw[List.getElem?_append_left (by simpa using hi),(BC)]at h;obtain⟨y,I,g⟩:=aF.mp h;cases g;obtain⟨v,Y,U⟩:=d.get I;refine⟨v,?_,U⟩;unfold L2.start;rw[List.getElem?_append_left (by simp;lia),(BC),Y];rfl
  .rw[List.getElem?_append_right (by simpa using hi),List.getElem?_replicate]at h;split at h<;>cases h
 .unfold LV at h;by_cases hi:i<ds.length
  .rw[List.getElem?_append_left (by simpa using hi),(BC)]at h;obtain⟨y,I,g⟩:=aF.mp h;cases g
  .rw[List.getElem?_append_right (by simpa using hi),List.getElem?_replicate]at h;split at h<;>cases h
 .unfold LV at h;by_cases hi:i<ds.length
  .rw[List.getElem?_append_left (by simpa using hi),(BC)]at h;obtain⟨y,I,g⟩:=aF.mp h;cases g
  .rw[List.getElem?_append_right (by simpa using hi),List.getElem?_replicate]at h;split at h<;>cases h
def jA{G H g H':Hp}{a:AD}{ys:uD}{xs:tZ}(m1:AK G g)(Z:Nw G H g)(Y:AK g H')(U:H a=none)(I:g a=none)(R:H' a=some Id)(M:Ay g xs ys):AK G (upd g a Id)/\Nw G H (upd g a Id)/\AK (upd g a Id) H'/\Du (upd g a Id) (.list xs) (.ref a):=by
 refine⟨m1.trans (AO I _),fun b o hb=>?_,fun b o hb=>?_,?_⟩
 .by_cases z:b=a
  .subst z;exact .inr (.inl U)
  .rw[AN z]at hb;exact Z _ _ hb
 .by_cases z:b=a
  .subst z;rw[AM]at hb;rw[R];exact hb
  .rw[AN z]at hb;exact Y _ _ hb
 .rw[Du];exact⟨a,ys,rfl,AM,M.same (AO I _)⟩
def ie{P:F0b}{w:F0c}{K:Fg}{mg:tm}{base:Heap}{x:Str}{st:Stmt}{U:AD}{fd:F0a}{N ps:t7}{k:Nat}{F:DF}(T:Fn K mg x st ps U fd)(S:Ab N ps (AQ st)) (hb:∀(cdv:VL) (A:F0d) (outer:uH) (s:SD) (H:Hp) (E:XK),C9 k (A.deeper (envOfC x (AQ st) s.heap.objs.size U cdv))->Pt (Cz Aa P w K mg base N x (AQ st) U cdv A outer s H E).Ki (EA st) F):AH P w K mg base Aa (k+1) U fd ps (HA (M7 ps N F)):=by
 refine T.F.ok S BY fun cdv A outer s H vs Q E hr h=>?_
 .obtain⟨ds,y,G,g,I,_⟩:=h;unfold M7 at g;split at g
  .rename_i hl;rw[I.len];exact hl
  .cases g
 .obtain⟨ds,y,G,g,I,h3,h4⟩:=h;obtain⟨t,p,kk⟩:=hb cdv A outer s H E hr;refine⟨t,p,?_⟩;unfold M7 at g;split at g
  .split at g
   .rename_i z M;cases g;exact kk _ _ M G H G H _ _ (Rw.start I h3) fun v Y H' m1 m2 m3 m4 Z=>h4 v Y H' m1 m2 m3 m4 Z
   .rename_i δ M;cases g;exact kk _ _ M G H G H _ _ (Rw.start I h3) fun σ' Y H' R=>h4 .Bj Y H' R.ext R.new R.ins R.keep (by rw[Du])
   .rename_i xs M;cases g;exact kk _ _ M G H G H _ _ (Rw.start I h3) fun a ys Y H' m1 m2 m3 m4 Z m6 m7 m8=>let⟨n1,n2,n3,n4⟩:=jA m1 m2 m3 Z m6 m7 m8;h4 _ _ H' n1 n2 n3 m4 n4
   .cases g
  .cases g
end
section
variable{X:Cx}{tg a e:Expr}{f g h:tX}{pos p p2:Pos}   
def gC{x:Str}{i:Int}{tk:Tok}(hg:Gl X x)(hm:X.mg x=some (.int i tk))(hd:GE=false:=by decide):DE X (.Name x pos) (fun _=>some (.int i)) :=
 ⟨_,Dh (v:=.int i) hg hm ⟨tk,rfl⟩ hd,fun δ x h G0 H0 G H σ ts Q r k=>by cases h;exact k _ _ _ (r.put (by rw[Du]))⟩
def nQ{set:PD->Dv->Option Dv}(he:DE X e f)(hg:DG X tg set)(hs:swapsWithSole [tg] e pos.line X.env=pure false:=by rfl)(Z:swappedStores [tg] e X.env=pure none:=by rfl) (h1:(assignEach [tg] X.env).map (·.2)=[assign tg X.env]:=by rfl):DS X (.Assign [tg] e pos) (fun δ=>(f δ).bind fun y=>(set y δ).map .nx):=by
 obtain⟨t,p,k⟩:=he;obtain⟨g,pg,Y⟩:=hg;refine⟨_,Vr p pg hs Z h1,fun δ r h G0 H0 G H σ D R q=>?_⟩;obtain⟨y,m1,U⟩:=aC.mp h;obtain⟨I,M,rfl⟩:=aF.mp U;exact k δ y m1 G0 H0 G H σ [] _ R fun v G' H' R'=>Y δ y I M G0 H0 G' H' σ v _ R' q
def DO(X:Cx)(o:Option Expr)(f:Dv->Option uA):Prop:=∃t,PO X o t/\∀δ x,f δ=some x->∀G0 H0 G H σ ts (Q:Option Int->Hp->Prop),Rw G0 H0 G H σ δ ts->(∀I H',Rw G0 H0 I H' σ δ ts->Q x H')->t σ H Q
variable{fo fu:Dv->Option uA}{lo hi:Option Expr}
def Xw:DO X none (fun _=>some none):=⟨_,K5,fun δ x h G0 H0 G H σ ts Q r k=>by cases h;exact k _ _ r⟩
def X9(R:DE X e f):DO X (some e) (fun δ=>(f δ).bind fun x=>(VJ x).map some):=by
 obtain⟨t,p,k⟩:=R;refine⟨_,K2 p,fun δ z h G0 H0 G H σ ts Q r q=>?_⟩;obtain⟨x,Z,Y⟩:=aC.mp h;obtain⟨i,U,rfl⟩:=aF.mp Y;have:=Vd U;subst this;refine k δ _ Z G0 H0 G H σ ts _ r fun v G' H' M=>?_;have I:=M.DZ _ (.head _);rw[Du]at I;exact⟨i,I,q _ _ M.drop⟩
def cutD(xs:tZ)(lo hi:uA):tZ:=(xs.drop (HT.BW xs.length 0 lo)).take (HT.BW xs.length xs.length hi-HT.BW xs.length 0 lo)
def Ay.cut{H:Hp}{ds:tZ}{xs:uD}(h:Ay H ds xs)(lo hi:uA):Ay H (cutD ds lo hi) (Cs xs lo hi):=by
 unfold cutD Cs;rw[h.len];exact(h.drop _).take _
def gU(x:PD)(lo hi:uA):tq:=match x with
 |.list xs=>some (.list (cutD xs lo hi))
 |.tuple xs=>if ¬(HT.BW xs.length 0 lo=0/\HT.BW xs.length xs.length hi=xs.length) then some (.tuple (cutD xs lo hi)) else none
 |_=>none
def V7(he:DE X e f)(hl:DO X lo fo)(hh:DO X hi fu):DE X (.Subscript e (.Slice lo hi none p2) pos) (fun δ=>(f δ).bind fun x=>(fo δ).bind fun l=>(fu δ).bind fun u=>gU x l u):=by
 obtain⟨te,pe,ke⟩:=he;obtain⟨tl,Z,kl⟩:=hl;obtain⟨th,ph,kh⟩:=hh;refine⟨_,JQ (PU.or Vj) pe Z ph,fun δ z hz G0 H0 G H σ ts Q R0 k=>?_⟩;obtain⟨x,h1,h2⟩:=aC.mp hz;obtain⟨l,h3,h4⟩:=aC.mp h2;obtain⟨u,h5,I⟩:=aC.mp h4;refine ke δ x h1 G0 H0 G H σ ts _ R0 fun v G1 H1 R1=>?_;refine kl δ l h3 G0 H0 G1 H1 σ _ _ R1 fun G2 H2 R2=>?_;refine kh δ u h5 G0 H0 G2 H2 σ _ _ R2 fun G3 H3 M=>?_;have du:=M.DZ _ (.head _);unfold gU at I;split at I
 .cases I;rw[Du]at du;obtain⟨a,ys,rfl,U,R⟩:=du;exact .inl ⟨a,ys,rfl,AU.of (M.ins _ _ U),fun q Y=>k _ _ _ (M.drop.oi (R.cut l u) Y)⟩
 .split at I
  .rename_i hc;cases I;rw[Du]at du;obtain⟨a,ys,rfl,U,R⟩:=du;exact .inr ⟨a,ys,rfl,Al.of (M.ins _ _ U),by rw[R.len];exact hc,fun q Y=>k _ _ _ (M.drop.eZ (R.cut l u) Y)⟩
  .cases I
 .cases I
end
open PySem
abbrev fC(x:PD):Dv->Option PD:=fun _=>some x
abbrev gz(f:Dv->Option PD):Dv->Option PD:=fun δ=>(f δ).bind fun x=>(VJ x).map fun i=>.int (-i)
abbrev Af:Dv->Option (List PD):=fun _=>some []
abbrev AF(f:Dv->Option PD)(fs:Dv->Option (List PD)):Dv->Option (List PD):=fun δ=>(f δ).bind fun x=>(fs δ).map fun xs=>x::xs
abbrev Jb(fs:Dv->Option (List PD)):Dv->Option PD:=fun δ=>((fs δ).bind HB).map .tuple
abbrev BQ(fs:Dv->Option (List PD)):Dv->Option PD:=fun δ=>((fs δ).bind HB).map .list
abbrev Cw(m:MD)(fs:Dv->Option (List PD)):Dv->Option PD:=fun δ=>(fs δ).bind m
abbrev VG:Dv->Option (Option Int):=fun _=>some none
abbrev Uv(f:Dv->Option PD):Dv->Option (Option Int):=fun δ=>(f δ).bind fun x=>(VJ x).map some
abbrev Yq(f:Dv->Option PD)(g fu:Dv->Option (Option Int)):Dv->Option PD:=fun δ=>(f δ).bind fun x=>(g δ).bind fun l=>(fu δ).bind fun u=>gU x l u
abbrev SE(f:Dv->Option PD):Dv->Option Bool:=fun δ=>(f δ).bind UC
abbrev Ca(o:PD->PD->Option PD)(f g:Dv->Option PD):Dv->Option Bool:=fun δ=>(Au o f g δ).bind UC
abbrev ZF(f:Dv->Option Bool):Dv->Option Bool:=fun δ=>(f δ).map fun c=>!c
abbrev SO(f g:Dv->Option Bool):Dv->Option Bool:=fun δ=>(f δ).bind fun c=>if c=true then g δ else some false
abbrev i7(f g:Dv->Option Bool):Dv->Option Bool:=fun δ=>(f δ).bind fun c=>if c=true then some true else g δ
abbrev om(f:Dv->Option PD):Dv->Option (List PD):=fun δ=>(f δ).bind Nd
abbrev Kp(m:List PD->Option (List PD))(fs:Dv->Option (List PD)):Dv->Option (List PD):=fun δ=>(fs δ).bind m
abbrev Zn:Dv->Option Bool:=fun _=>some true
abbrev VP(i:Nat):PD->Dv->Option Dv:=fun y δ=>some (δ.set i (.d y))
abbrev D6:DF:=fun δ=>some (.nx δ)
abbrev FE(f:Dv->Option PD):DF:=fun δ=>(f δ).map .rt
abbrev Gp(c:Dv->Option Bool)(F G:DF):DF:=fun δ=>(c δ).bind fun c=>if c=true then F δ else G δ
abbrev Dg(i:Nat)(f:Dv->Option PD):DF:=fun δ=>(f δ).map fun y=>.nx (δ.set i (.d y))
abbrev gI(i:Nat)(fs:Dv->Option (List PD)):DF:=fun δ=>((fs δ).bind HB).map fun ys=>.nx (δ.set i (.own Id))
abbrev mn(f:Dv->Option PD)(set:PD->Dv->Option Dv):DF:=fun δ=>(f δ).bind fun y=>(set y δ).map .nx
abbrev NJ(fs:Dv->Option (List PD))(set:PD->Dv->Option Dv)(F:DF):DF:=fun δ=>(fs δ).bind fun xs=>MR set F xs δ
def jm{P:F0b}{w:F0c}{K:Fg}{mg:tm}{base:Heap}{CX:Iw}{k:Nat}{f:AD}{fd:F0a}{ps:t7}{sp:Sp}{m:MD}(F:AH P w K mg base CX k f fd ps sp) (h:∀ds x,m ds=some x->∀(G H:Hp) (vs:uD) (Q:VK) (E:XK),Ay G ds vs->AK G H->(∀v g H',AK G g->Nw G H g->AK g H'->AK H H'->Du g x v->Q v H')->sp vs H Q E):AH P w K mg base CX k f fd ps (HA m) :=
 F.imp fun vs H Q E z=>by
  obtain⟨ds,x,G,U,R,M,I⟩:=z;exact h ds x U G H vs Q E R M I
section
variable{X:Cx}{a e:Expr}{f g h:tX}{pos:Pos}
abbrev Yt(i:Nat)(f g:Dv->Option PD):DF:=fun δ=>(f δ).bind fun y=>(g δ).bind fun k=>(ow i δ).bind fun xs=>(VJ k).bind fun n=>(P5 xs.length n).map fun j=>.nx (δ.set i (.own (.lst (xs.set j y))))
theorem Ay.set{H:Hp}{d:PD}{v:V}(hd:Du H d v):∀ {ds:List PD} {xs:IR} (j:Nat),Ay H ds xs->Ay H (ds.set j d) (xs.set j v)
 |[],_,_,h=>by rw[h.nil_eq];exact .nil
 |_::_,_,0,h=>by obtain⟨x,r,rfl,_,I⟩:=h.un;exact .cons hd I
 |_::_,_,j+1,h=>by obtain⟨x,r,rfl,M,I⟩:=h.un;exact .cons M (Ay.set hd j I)
def mz{i:Nat}{x:Str}{np sp:Pos}(hv:PE X (.Name x np) (Zg i))(hk:DE X a g)(he:DE X e f) (hP:∀ {I to U:TE},PE X e I->PE X (.Name x np) to->PE X a U->PS X (.Assign [.Subscript (.Name x np) a sp] e pos) (QY I (mw to U iw))):DS X (.Assign [.Subscript (.Name x np) a sp] e pos) (Yt i f g):=by
 obtain⟨I,pe,ke⟩:=he;obtain⟨tk,pk,kk⟩:=hk;refine⟨_,hP pe hv pk,fun δ r h G0 H0 G H σ D R q=>?_⟩;obtain⟨y,h1,h2⟩:=aC.mp h;obtain⟨n,h3,h4⟩:=aC.mp h2;obtain⟨xs,h5,h6⟩:=aC.mp h4;obtain⟨m,h7,h8⟩:=aC.mp h6;obtain⟨j,h9,rfl⟩:=aF.mp h8;have:=Vd h7;subst this;have hi:=pM h5;refine ke δ y h1 G0 H0 G H σ [] _ R fun u G1 H1 R1=>?_;obtain⟨ad,_,M,k2,k3,k4,⟨ys,rfl,k5⟩⟩:=R1.own i _ hi;refine⟨.ref ad,M,?_⟩;refine kk δ _ h3 G0 H0 G1 H1 σ _ _ R1 fun v G2 H2 R2=>?_;have Z:=R2.DZ (.int m,v) (.head _);rw[Du]at Z;obtain⟨ad',_,m1,m2,m3,m4,⟨zs,rfl,Y⟩⟩:=R2.own i _ hi;rw[M]at m1;cases m1;refine⟨ad,zs,m,j,rfl,Z,m4,by rw[Y.len];exact h9,?_⟩;exact q _ _ _ (R2.drop.drop.p6 hi M ⟨_,rfl,Y.set (R2.DZ (y,u) (.tail _ (.head _))) j⟩)
end
def gw:L->L
 |.own (.lst xs)=>.d (.list xs)
 |.own (.cp kvs)=>.d (pd kvs)
 |.own _=>.no
 |l=>l
def Lg(δ:Dv):Dv:=δ.map gw
section
variable{G0 H0 G H:Hp}{σ:St}{δ:Dv}{ts:List (PD×V)}
def Rw.Lg(r:Rw G0 H0 G H σ δ ts):Rw H H H H σ (L2.Lg δ) ts:=by
 refine⟨AK.refl _,fun _ _ h=>.inl h,AK.refl _,AK.refl _,by rw[L2.Lg,(Ah)];exact r.len,fun i x h=>?_,fun i xs h=>?_,fun i j xs ys _ h=>?_,fun q hq=>(r.DZ q hq).same r.ins⟩
 .unfold L2.Lg at h;rw[(BC)]at h;obtain⟨l,R,g⟩:=aF.mp h;unfold gw at g;split at g
  .rename_i xs;cases g;obtain⟨a,_,M,Z,k3,Y,⟨ys,rfl,U⟩⟩:=r.own i _ R;refine⟨.ref a,M,?_⟩;rw[Du];exact⟨a,ys,rfl,Y,U.same r.ins⟩
  .rename_i kvs;cases g;obtain⟨a,_,M,Z,k3,Y,⟨rr,rfl,U,k6⟩⟩:=r.own i _ R;refine⟨.ref a,M,?_⟩;rw[Du,Mb];exact .inr (.inr ⟨rfl,rfl,a,rr,rfl,Y,U,Ni.same r.ins k6⟩)
  .cases g
  .subst g;obtain⟨v,M,Z⟩:=r.dat i x R;exact⟨v,M,Z.same r.ins⟩
 all_goals
  unfold L2.Lg at h;rw[(BC)]at h;obtain⟨l,R,g⟩:=aF.mp h;unfold gw at g;split at g
  .cases g
  .cases g
  .cases g
  .rename_i n1 n3 n2;subst g;cases xs with
   |lst I=>exact(n1 I rfl).elim
   |cp I=>exact(n3 I rfl).elim
   |L5 I=>exact(n2 (.L5 I) rfl).elim
def Rw.on{H':Hp}(r:Rw G0 H0 G H σ δ ts)(e:AK H H'):Rw G0 H0 G H' σ δ ts:=r.lift (AK.refl _) Nw.refl (r.ins.trans e) e
end
section
variable{X:Cx}{e:Expr}{f h:tX}{fa:tY}{p:Pos}
abbrev M6(f:Dv->Option Bool):Dv->Option Bool:=fun δ=>f (Lg δ)
def Sb(h:DT X e fa):DT X e (M6 fa):=by
 obtain⟨t,p,k⟩:=h;refine⟨t,p,fun δ z g G0 H0 G H σ ts Q R q=>?_⟩;exact k _ z g H H H H σ ts Q R.Lg fun M H' I=>q _ _ (R.on I.keep)
end
section
variable{F F1 F2:DF}{δ δ':Dv}{r:Option Ou}{c:tY}{f g:tX}{fs:tW}
def BN(h:F1 δ=some (.nx δ'))(k:F2 δ'=r):Bd F1 F2 δ=r:=by unfold Bd;rw[h];exact k
def j7{x:PD}(h:F1 δ=some (.rt x)):Bd F1 F2 δ=some (.rt x):=by unfold Bd;rw[h]
def U1(h:c δ=some true)(k:F1 δ=r):Gp c F1 F2 δ=r:=by show(c δ).bind _=r;rw[h];exact k
def GI(h:c δ=some false)(k:F2 δ=r):Gp c F1 F2 δ=r:=by show(c δ).bind _=r;rw[h];exact k
def Ea{i:Nat}{y:PD}(h:f δ=some y):Dg i f δ=some (.nx (δ.set i (.d y))):=by show(f δ).map _=_;rw[h];rfl
def Pe{y:PD}(h:f δ=some y):FE f δ=some (.rt y):=by show(f δ).map _=_;rw[h];rfl
def BI{o:PD->PD->Option PD}{x y:PD}{z:tq}(h1:f δ=some x)(M:g δ=some y)(I:o x y=z):Au o f g δ=z:=by unfold Au;rw[h1,M];exact I
def CY{m:MD}{xs:tZ}{z:tq}(h1:fs δ=some xs)(I:m xs=z):Cw m fs δ=z:=by show(fs δ).bind m=z;rw[h1];exact I
def BJ{x:PD}{xs:tZ}(h1:f δ=some x)(I:fs δ=some xs):AF f fs δ=some (x::xs):=by show(f δ).bind _=_;rw[h1];show(fs δ).map _=_;rw[I];rfl
def MX{xs:tZ}(h:fs δ=some xs)(I:xs.length<=Hj):BQ fs δ=some (.list xs):=by show((fs δ).bind HB).map _=_;rw[h];show(HB xs).map _=_;unfold HB;rw[if_pos I];rfl
def TQ{xs:tZ}(h:fs δ=some xs)(I:xs.length<=Hj):Jb fs δ=some (.tuple xs):=by show((fs δ).bind HB).map _=_;rw[h];show(HB xs).map _=_;unfold HB;rw[if_pos I];rfl
def Cn{o:PD->PD->Option PD}{x y:PD}{b:Bool}(h1:f δ=some x)(M:g δ=some y)(I:o x y=some (.bool b)):Ca o f g δ=some b:=by show(Au o f g δ).bind UC=_;rw[BI h1 M I];rfl
def Ut{a b:tY}{q:Option Bool}(h:a δ=some false)(k:b δ=q):i7 a b δ=q:=by show(a δ).bind _=q;rw[h];exact k
def i3{a b:tY}(h:a δ=some true):i7 a b δ=some true:=by show(a δ).bind _=_;rw[h];rfl
def Je{a:tY}{b:Bool}(h:a δ=some b):ZF a δ=some (!b):=by show(a δ).map _=_;rw[h];rfl
def JX{b:Bool}(h:f δ=some (.bool b)):SE f δ=some b:=by show(f δ).bind UC=_;rw[h];rfl
theorem W2{set:PD->Dv->Option Dv}(R:Nat->Dv->Prop):∀(xs:List PD) (δ:Dv) (n:Nat),R n δ->(∀(i:Nat) (x:PD) (δ:Dv),xs[i]? = some x->R (n+i) δ->∃M I,set x δ=some M/\F M=some (.nx I)/\R (n+i+1) I) ->
  ∃δ',MR set F xs δ=some (.nx δ')/\R (n+xs.length) δ'
 |[],δ,n,h,_=>⟨δ,rfl,h⟩
 |x::xs,δ,n,h,k=>by
  obtain⟨M,I,h1,h2,h3⟩:=k 0 x δ rfl h;obtain⟨δ',h4,Z⟩:=W2 R xs I (n+1) h3 fun i y δ U Y=>by
   have:=k (i+1) y δ (by simpa using U) (by rw[show n+(i+1)=n+1+i by lia];exact Y);rw[show n+(i+1)+1=n+1+i+1 by lia]at this;exact this
  refine⟨δ',?_,by rw[(Im),show n+(xs.length+1)=n+1+xs.length by lia];exact Z⟩;unfold MR;rw[h1,(OH),h2];exact h4
def WS{set:PD->Dv->Option Dv}{xs:tZ}(R:Nat->Dv->Prop)(U:fs δ=some xs)(h0:R 0 δ)(Z:∀(i:Nat) (x:PD) (δ:Dv),xs[i]? = some x->R i δ->∃M I,set x δ=some M/\F M=some (.nx I)/\R (i+1) I):∃δ',NJ fs set F δ=some (.nx δ')/\R xs.length δ':=by
 obtain⟨δ',h1,h2⟩:=W2 (F:=F) (set:=set) R xs δ 0 h0 fun i x δ U Y=>by
  have:=Z i x δ U (by simpa using Y)
  simpa using this
 refine⟨δ',?_,by simpa using h2⟩;show(fs δ).bind _=_;rw[U];exact h1
end
def O8{ps N:t7}{F:DF}{ds:tZ}{x:PD}(g:ds.length=ps.length)(h:F (LV N ds)=some (.rt x)):M7 ps N F ds=some x:=by unfold M7;rw[if_pos g,h]
def YT{lo:Int}{n i:Nat}{x:PD}(h:(MC lo n)[i]? = some x):x=.int (lo+(i:Nat))/\i<n:=by
 unfold MC at h;rw[(BC)]at h;obtain⟨j,g,rfl⟩:=aF.mp h;have I:=(aB.mp g).1;rw[List.getElem?_range (by simpa using I)]at g;cases g;exact⟨rfl,by simpa using I⟩
def Zr{δ:Dv}{f:tX}{j:Int}(h:f δ=some (.int j))(h0:-1000000<=j)(h1:j<=1000000):Kp QV (AF f Af) δ=some (MC 0 j.toNat):=by
 show(AF f Af δ).bind QV=_;rw[BJ h (show Af δ=some [] from rfl)];exact if_pos ⟨h0,h1⟩
def Oq{n:Nat}{i:Int}(h:i.natAbs<2^n):Kb n i=true:=bV h
def V6{i j:Int}(h:Mt i j=true):Ek (.int i) (.int j)=some (.int (i*j)):=by
 show Nk WN R8 (.int i) (.int j)=_;unfold Nk;rw[show WN (.int i) (.int j)=some (.int (i*j)) from if_pos h]
def mul_r{i j:Int}(h:j.natAbs<2^64):Ek (.int i) (.int j)=some (.int (i*j)):=V6 (by unfold Mt;rw[Oq h];simp)
def qc{i j:Int}(h:i.natAbs<2^64):Ek (.int i) (.int j)=some (.int (i*j)):=V6 (by unfold Mt;rw[Oq h];simp)
def mod_is{i j:Int}(h:0<j):Gj (.int i) (.int j)=some (.int (i % j)):=by
 show(if j≠0 then some (PyData.int (i.fmod j)) else none)=_;rw[if_pos AC,Int.fmod_eq_emod_of_nonneg _ AC]
def VM{i:Int}{n:Nat}(hn:n<=1000)(hi:Kb 64 i=true):Lb (.int i) (.int (n:Int))=some (.int (i^n)):=by
 show(if 0<=(n:Int)/\(n:Int)<=1000/\Kb 64 i=true then some (PyData.int (i^(n:Int).toNat)) else none)=_;rw[if_pos ⟨by lia,by lia,hi⟩,(OD)]
def JU(C:AD):PD:=.dict [(.int (C:Nat),.none)]
def LC(ns:t6):PD:=.dict [(.none,.list (ns.map .int))]
def lY{H:Hp}{a:AD}{ns:t6}(h:Rd H a (.lst (ns.map V.int))):Du H (LC ns) (.ref a):=by unfold LC;rw[Du];exact .inr (.inl ⟨a,ns,rfl,rfl,h⟩)
def U2(K:Fg):Bool:=K.all fun p=>match p.2.cls with|.type n=>n != "list" |_=>true
theorem QA{a:AD}{o:Obj}:∀ {K:Fg},K.lookup a=some o->(a,o)∈K
 |[],h=>by cases h
 |(b,u)::K,h=>by
  rw[List.lookup_cons]at h;split at h
  .rename_i e;cases h;rw[show a=b from by simpa using e];exact .head _
  .exact .tail _ (QA h)
def mR{K:Fg}{H:Hp}{a:AD}{xs:uD}(g:U2 K=true)(h:AU K H a xs):Rd H a (.lst xs):=by
 rcases h with h|⟨o,I,n,R,M,_⟩
 .exact h
 .unfold U2 at g;rw[(Ht)]at g;have:=g _ (QA R);rw[M]at this;exact absurd this AS
abbrev Xr:=PD ⊕ AD
abbrev rW:=List PD->Option Xr
def Dq(g:rW):Sp:=fun vs H Q E=>∃M r G,g M=some r/\Ay G M vs/\AK G H/\match r with
 |.inl x=>∀v I H',AK G I->Nw G H I->AK I H'->AK H H'->Du I x v->Q v H'
 |.inr C=>∀H',AK H H'->E IO none H'
abbrev ij:=Ou ⊕ AD
abbrev Gm:=Dv->Option ij
def mV(G0 H0:Hp)(D:Ends)(E:XK):ij->Prop
 |.inl o=>Fin G0 H0 D o
 |.inr C=>∀H',AK H0 H'->E IO none H'
def DX(X:Cx)(E:XK)(st:Stmt)(F:Gm):Prop:=∃t,PS X st t/\∀δ r,F δ=some r->∀G0 H0 G H σ D,Rw G0 H0 G H σ δ []->mV G0 H0 D E r->t D σ H
def TR(X:Cx)(E:XK)(g:uG)(F:Gm):Prop:=∃t,J9 X g t/\∀δ r,F δ=some r->∀G0 H0 G H σ D,Rw G0 H0 G H σ δ []->mV G0 H0 D E r->t D σ H
section
variable{X:Cx}{E:XK}{b c e:Expr}{es:t8}{f h:tX}{fs:tW}{fa:tY}{pos p:Pos}{st:Stmt}{sts sts':uG}{F:DF}{J J1 J2:Gm}
def mI{t:TE}(h:PE X.Ki e t):PE X e t:=fun pins s σ H Q I k=>aW (h pins s σ H Q (I.Hy _) k) (fun _ _ ⟨v,H',g,r,q⟩=>⟨v,H',g.Ex,r,q⟩) fun _ _ z=>z.elim
def kU{t:TT}(h:PT X.Ki e t):PT X e t:=fun pins s σ H Q I k=>aW (h pins s σ H Q (I.Hy _) k) (fun _ _ ⟨H',g,q⟩=>⟨H',g.Ex,q⟩) fun _ _ z=>z.elim
def lS{t:TA}(h:PA X.Ki es t):PA X es t:=fun p pins s σ H Q I k=>aW (h p pins s σ H Q (I.Hy _) k) (fun _ _ ⟨v,H',g,r,q⟩=>⟨v,H',g.Ex,r,q⟩) fun _ _ z=>z.elim
def Iq(J1 J2:Gm)(δ:Dv):Option ij:=match J1 δ with
 |some (.inl (.nx g))=>J2 g
 |o=>o
def PR:TR X E [] (fun δ=>some (.inl (.nx δ))):=⟨_,BL,fun δ r h G0 H0 G H σ D R k=>by cases h;exact k _ _ _ R⟩
def GC(h:DX X E st J):TR X E [st] J:=by
 obtain⟨t,p,k⟩:=h;exact⟨t,AL p,k⟩
def Gb(h1:DX X E st J1)(h2:TR X E sts J2):TR X E (st::sts) (Iq J1 J2):=by
 obtain⟨t1,Y,I⟩:=h1;obtain⟨t2,U,Z⟩:=h2;refine⟨_,AG Y U,fun δ r h G0 H0 G H σ D R q=>?_⟩;unfold Iq at h;split at h
 .rename_i g e1;exact I δ _ e1 G0 H0 G H σ _ R fun M G' H' R'=>Z g r h G0 H0 G' H' M D R' q
 .rename_i o hn;cases r with
  |inr C=>exact I δ _ h G0 H0 G H σ _ R q
  |inl o'=>
   cases o' with
   |nx g=>exact absurd h (hn g)
   |rt x=>exact I δ _ h G0 H0 G H σ _ R q
   |bk x=>exact I δ _ h G0 H0 G H σ _ R q
   |ct x=>exact I δ _ h G0 H0 G H σ _ R q
   |rn x=>exact I δ _ h G0 H0 G H σ _ R q
abbrev WC(c:Dv->Option Bool)(J1 J2:Gm):Gm:=fun δ=>(c δ).bind fun b=>if b=true then J1 δ else J2 δ
def VE(hc:DT X.Ki c fa)(h1:TR X E sts J1)(h2:TR X E sts' J2):DX X E (.If c sts sts' pos) (WC fa J1 J2):=by
 obtain⟨tc,pc,Z⟩:=hc;obtain⟨t1,Y,k1⟩:=h1;obtain⟨t2,U,k2⟩:=h2;refine⟨_,B5 (kU pc) Y U,fun δ r h G0 H0 G H σ D R q=>?_⟩;obtain⟨b,h3,g⟩:=aC.mp h;refine Z δ _ h3 G0 H0 G H σ [] _ R fun M H1 I=>?_;split
 .rename_i hb;rw[if_pos hb]at g;exact k1 δ r g G0 H0 M H1 σ D I q
 .rename_i hb;rw[if_neg hb]at g;exact k2 δ r g G0 H0 M H1 σ D I q
abbrev OQ(C:AD)(f:Dv->Option PD):Gm:=fun δ=>(f δ).map fun _=>.inr C
def NB{x:Str}{C:AD}{np I:Pos}(T:Exc X.K X.mg x C)(Y:Lets X E)(U:DE X.Ki e f)(g:X.calm=true:=by rfl)(hg:Gl X x:=by rfl)(hd:GE=false:=by decide) (M:starEach [e] X.env=[(false,eval e X.env)]:=by rfl):DX X E (.Raise (some (.Call (.Name x np) [e] [] I)) none pos) (OQ C f):=by
 obtain⟨t,p,k⟩:=U;refine⟨_,et T Y g hg (mI p) hd M,fun δ r h G0 H0 G H σ D R q=>?_⟩;obtain⟨y,Z,rfl⟩:=aF.mp h;exact k δ y Z G0 H0 G H σ [] _ R fun v G' H' R'=>q _ R'.keep
def V2{k:Nat}{m:rW}{ta:TA}(Y:∀δ xs,fs δ=some xs->∀G0 H0 G H σ ts (Q:List V->Hp->Prop),Rw G0 H0 G H σ δ ts->(∀vs g H',Rw G0 H0 g H' σ δ (xs.zip vs++ts)->vs.length=xs.length->Q vs H')->ta σ H Q) {δ:Dv}{r:Xr}(hz:(fs δ).bind m=some r){G0 H0 G H:Hp}{σ:St}{Q:VK}{I:XK}(R:Rw G0 H0 G H σ δ [])(U:∀x,r=.inl x->∀v g H',Rw G0 H0 g H' σ δ [(x,v)]->Q v H')(M:∀C,r=.inr C->∀g H',Rw G0 H0 g H' σ δ []->I IO none H'):ta σ H fun vs H1=>Dq m (vs++[]) H1 Q I:=by
 obtain⟨xs,h1,h2⟩:=aC.mp hz;refine Y δ _ h1 G0 H0 G H σ [] _ R fun vs G1 H1 R1 Z=>?_;obtain⟨d,R2⟩:=R1.args Z;refine⟨xs,r,G1,h2,by rw[(Od)];exact d,R2.ins,?_⟩;cases r with
 |inl x=>exact fun v g H' h3 h4 h5 h6 h7=>U x rfl _ _ _ ((R2.lift h3 h4 h5 h6).put h7)
 |inr C=>exact fun H' h=>M C rfl _ _ (R2.on h)
section
variable{k:Nat}{fA:AD}{fd:F0a}{ps:t7}{m:rW}{x:Str}{st':Stmt}
abbrev GN(m:List PD->Option Xr)(fs:Dv->Option (List PD))(nx:PD->Dv->Ou):Gm:=fun δ=>((fs δ).bind m).map fun r=>match r with
 |.inl x=>.inl (nx x δ)
 |.inr C=>.inr C
def Gz(T:Fn X.K X.mg x st' ps fA fd)(F:AH X.prog X.w X.K X.mg X.base (CQ X.prog X.w) k fA fd ps (Dq m))(hr:C9 k X.A)(hP:Passes (CQ X.prog X.w) X E)(ha:DA X.Ki (e::es) fs) {g:Pos}(U:∀ {t:TE},PE X G6 t->PS X (.Expr G6 g) (Zc t)) (hg:Gl X x:=by rfl)(M:GE=false:=by decide)(he:starEach (e::es) X.env=(false,eval e X.env)::starEach es X.env:=by rfl)(I:(backTo pos (starEach es X.env)).any (·.1)=false:=by rfl):DX X E (.Expr G6 g) (GN m fs fun _ δ=>.nx δ):=by
 obtain⟨ta,Z,ka⟩:=ha;refine⟨_,U (nO T F hr hg hP (lS Z) M he I),fun δ r h G0 H0 G H σ D R q=>?_⟩;obtain⟨z,h1,rfl⟩:=aF.mp h;refine V2 (k:=k) ka h1 R (fun x hx v G' H' Y=>?_) (fun C hC G' H' Y=>?_)
 .subst hx;exact q _ _ _ Y.drop
 .subst hC;exact q _ Y.keep
def gq(T:Fn X.K X.mg x st' ps fA fd)(F:AH X.prog X.w X.K X.mg X.base (CQ X.prog X.w) k fA fd ps (Dq m))(Z:C9 k X.A)(hP:Passes (CQ X.prog X.w) X E){g:Pos} (M:∀ {t:TE},PE X (.Call (.Name x p) [] [] pos) t->PS X (.Expr (.Call (.Name x p) [] [] pos) g) (Zc t))(hg:Gl X x:=by rfl)(I:GE=false:=by decide):DX X E (.Expr (.Call (.Name x p) [] [] pos) g) (GN m Af fun _ δ=>.nx δ):=by
 refine⟨_,M (iE F Z hg T.m T.F.kp T.b .nil hP I),fun δ r h G0 H0 G H σ D R q=>?_⟩;obtain⟨z,h1,rfl⟩:=aF.mp h;refine V2 (k:=k) (fs:=Af) (ta:=fY) (fun δ xs h G0 H0 G H σ ts Q R0 k=>by cases h;exact k [] G H (by simpa using R0) rfl) h1 R (fun x Y v G' H' U=>?_) (fun C hC G' H' U=>?_)
 .subst Y;exact q _ _ _ U.drop
 .subst hC;exact q _ U.keep
end
end
def Rw.pI{G0 H0 G H:Hp}{σ:St}{δ:Dv}{ts:List (PD×V)}(k:Nat)(o:Option V)(r:Rw G0 H0 G H σ δ ts):Rw G0 H0 G H (σ.set k o) (δ.set k .no) ts:=by
 have ne:∀(j:Nat) (l:L),l≠.no->(δ.set k .no)[j]? = some l->k≠j/\δ[j]? = some l:=fun j l hl h=>by
  by_cases M:k=j
  .subst M;by_cases hi:k<δ.length
   .rw[List.getElem?_set_self hi]at h;cases h;exact absurd rfl hl
   .rw[List.getElem?_eq_none (by simp;lia)]at h;cases h
  .rw[List.getElem?_set_ne M]at h;exact⟨M,h⟩
 refine⟨r.ext,r.new,r.ins,r.keep,by simp[r.len],fun j y h=>?_,fun j Y h=>?_,fun j l us Z I U R=>?_,r.DZ⟩
 .obtain⟨n,h⟩:=ne j _ Do h;obtain⟨w,m1,g⟩:=r.dat j y h;exact⟨w,by rw[List.getElem?_set_ne n];exact m1,g⟩
 .obtain⟨n,h⟩:=ne j _ Do h;obtain⟨b,us,m1,g⟩:=r.own j Y h;exact⟨b,us,by rw[List.getElem?_set_ne n];exact m1,g⟩
 .obtain⟨n1,U⟩:=ne j _ Do U;obtain⟨n2,R⟩:=ne l _ Do R;rw[List.getElem?_set_ne n1,List.getElem?_set_ne n2];exact r.apart j l us Z I U R
section
variable{X:Cx}{a b:Expr}{f:tX}{pos:Pos}
def oA(T:Fk):PD->Option PD
 |.dict [(.int C,.none)]=>(T C.toNat).map .bool
 |_=>none
abbrev IU(T:Fk)(f:Dv->Option PD):Dv->Option PD:=fun δ=>(f δ).bind (oA T)
def FR{T:Fk}{U:V}{g:Str}{p1 I:Pos}(hk:∀C b,T C=some b->CV X.K C/\PySem.W.kitOne X.K IO (Cr U)=some b)(hn:Cr U≠.none)(hg:Gl X "isinstance")(hm:X.mg "isinstance" = none)(hT:PE X (.Name g I) (tC U))(ha:DE X a f) (M:starEach [a,.Name g I] X.env=(false,eval a X.env)::starEach [.Name g I] X.env:=by rfl)(Y:(backTo pos (starEach [.Name g I] X.env)).any (·.1)=false:=by rfl):DE X (.Call (.Name "isinstance" p1) [a,.Name g I] [] pos) (IU T f):=by
 obtain⟨ta,pa,ka⟩:=ha;refine⟨_,Ar eU hg hm aX (AA pa (AA hT AB) M) AS AS M Y,fun δ z hz G0 H0 G H σ ts Q R0 k=>?_⟩;obtain⟨x,h1,R⟩:=aC.mp hz;unfold oA at R;split at R
 .rename_i C;obtain⟨bb,h3,rfl⟩:=aF.mp R;refine ka δ _ h1 G0 H0 G H σ ts _ R0 fun u G1 H1 R1=>?_;have du:=R1.DZ _ (.head _);rw[Du]at du;rcases du with ⟨ea,C',Z,rfl,h4⟩|⟨_,_,Z,_⟩|z
  rotate_left
  .simp at Z
  .rw[Mb]at z;cases z.1
  have:C=(C':Nat):=by simpa using Z
  subst this;obtain⟨k1,k2⟩:=hk _ _ h3;rw[(OD)]at k1 k2;exact⟨ea,C',U,bb,rfl,hn,R1.ins _ _ h4,k1,k2,k _ _ _ (R1.drop.put (by rw[Du]))⟩
 .cases R
end
def GF(ps N:t7)(J:Gm)(ds:tZ):Option Xr:=if ds.length=ps.length then(match J (LV N ds) with
 |some (.inl (.rt x))=>some (.inl x)
 |some (.inl (.nx _))=>some (.inl .none)
 |some (.inl (.rn xs))=>some (.inl (.list xs))
 |some (.inr C)=>some (.inr C)
 |_=>none) else none
section
variable{P:F0b}{w:F0c}{K:Fg}{mg:tm}{base:Heap}{x:Str}{st:Stmt}{fA:AD}{fd:F0a}{N ps:t7}{k:Nat}
def VB{qual:Str}{scope:Scope}{R:VL}{A:F0d}{outer:uH}{s:SD}{H:Hp}{E:XK}:Lets (Cz (CQ P w) P w K mg base N qual scope fA R A outer s H E) E:=fun _ _ _ _ _ _ _ _ I g M=>kF I g M
def Jm{qual:Str}{scope:Scope}{g:VL}{A:F0d}{outer:uH}{s:SD}{H:Hp}{E:XK}:Passes (CQ P w) (Cz (CQ P w) P w K mg base N qual scope fA g A outer s H E) E:=p9 fun _ _ _ z=>z
def RB{J:Gm}(T:Fn K mg x st ps fA fd)(S:Ab N ps (AQ st)) (hb:∀(cdv:VL) (A:F0d) (outer:uH) (s:SD) (H:Hp) (E:XK),C9 k (A.deeper (envOfC x (AQ st) s.heap.objs.size fA cdv))->TR (Cz (CQ P w) P w K mg base N x (AQ st) fA cdv A outer s H E) E (EA st) J):AH P w K mg base (CQ P w) (k+1) fA fd ps (Dq (GF ps N J)):=by
 refine T.F.tG S BY fun cdv A outer s H vs Q E hr h=>?_
 .obtain⟨ds,y,G,g,M,_⟩:=h;unfold GF at g;split at g
  .rename_i hl;rw[M.len];exact hl
  .cases g
 .obtain⟨ds,y,G,g,M,Z,Y⟩:=h;obtain⟨t,p,U⟩:=hb cdv A outer s H E hr;refine⟨t,p,?_⟩;unfold GF at g;split at g
  .split at g
   .rename_i z I;cases g;exact U _ _ I G H G H _ _ (Rw.start M Z) fun v G' H' m1 m2 m3 m4 m5=>Y v G' H' m1 m2 m3 m4 m5
   .rename_i δ I;cases g;exact U _ _ I G H G H _ _ (Rw.start M Z) fun σ' G' H' R=>Y .Bj G' H' R.ext R.new R.ins R.keep (by rw[Du])
   .rename_i xs I;cases g;exact U _ _ I G H G H _ _ (Rw.start M Z) fun a ys G' H' m1 m2 m3 m4 m5 m6 m7 m8=>let⟨n1,n2,n3,n4⟩:=jA m1 m2 m3 m5 m6 m7 m8;Y _ _ H' n1 n2 n3 m4 n4
   .rename_i C I;cases g;exact U _ _ I G H G H _ _ (Rw.start M Z) Y
   .cases g
  .cases g
end
section
variable{N ps:t7} 
def MZ{J:Gm}{ds:tZ}{δ:Dv}(g:ds.length=ps.length)(h:J (LV N ds)=some (.inl (.nx δ))):GF ps N J ds=some (.inl .none):=by unfold GF;rw[if_pos g,h]
def Cc{J:Gm}{ds:tZ}{C:AD}(g:ds.length=ps.length)(h:J (LV N ds)=some (.inr C)):GF ps N J ds=some (.inr C):=by unfold GF;rw[if_pos g,h]
end
section
variable{J1 J2:Gm}{δ δ':Dv}{r:Option ij}{c:tY}{fs:tW}{m:rW}{ds:tZ}   
def Dm(h:J1 δ=some (.inl (.nx δ')))(k:J2 δ'=r):Iq J1 J2 δ=r:=by unfold Iq;rw[h];exact k
def Eo{C:AD}(h:J1 δ=some (.inr C)):Iq J1 J2 δ=some (.inr C):=by unfold Iq;rw[h]
def PM(h:c δ=some true)(k:J1 δ=r):WC c J1 J2 δ=r:=by show(c δ).bind _=r;rw[h];exact k
def U6(h:c δ=some false)(k:J2 δ=r):WC c J1 J2 δ=r:=by show(c δ).bind _=r;rw[h];exact k
def Cj{nx:PD->Dv->Ou}{y:PD}(h:fs δ=some ds)(k:m ds=some (.inl y)):GN m fs nx δ=some (.inl (nx y δ)):=by show((fs δ).bind m).map _=_;rw[h];show(m ds).map _=_;rw[k];rfl
def C2{nx:PD->Dv->Ou}{C:AD}(h:fs δ=some ds)(k:m ds=some (.inr C)):GN m fs nx δ=some (.inr C):=by show((fs δ).bind m).map _=_;rw[h];show(m ds).map _=_;rw[k];rfl
end
def only(cs:uF)(m:rW)(ds:tZ):Option Xr:=match m ds with
 |some (.inr C)=>if C∈cs then some (.inr C) else none
 |r=>r
def TM{cs:uF}{m:rW}{ds:tZ}{C:AD}(h:only cs m ds=some (.inr C)):C∈cs:=by
 unfold only at h;split at h
 .split at h
  .rename_i g;cases h;exact g
  .cases h
 .rename_i n;exact absurd h (n C)
def GB{cs:uF}{m:rW}{ds:tZ}{C:AD}(h:m ds=some (.inr C))(g:C∈cs):only cs m ds=some (.inr C):=by unfold only;rw[h];exact if_pos g
def SR{cs:uF}{m:rW}{ds:tZ}{x:PD}(h:m ds=some (.inl x)):only cs m ds=some (.inl x):=by unfold only;rw[h]
def QP{P:F0b}{w:F0c}{K:Fg}{mg:tm}{base:Heap}{CX:Iw}{k:Nat}{f:AD}{fd:F0a}{ps:t7}{m:rW}(cs:uF)(F:AH P w K mg base CX k f fd ps (Dq m)):AH P w K mg base CX k f fd ps (Dq (only cs m)) :=
 F.imp fun vs H Q E z=>by
  obtain⟨M,r,G,g,I⟩:=z;refine⟨M,r,G,?_,I⟩;unfold only at g;split at g
  .rename_i C e;split at g
   .cases g;exact e
   .cases g
  .exact g
section
variable{xs:tZ}
def add_l{a b:tZ}(h:a.length+b.length<=Hj):FG (.list a) (.list b)=some (.list (a++b)):=by
 show Nk gO (Nk Sy (Nk Uw Zb)) (.list a) (.list b)=_;have:Sy (.list a) (.list b)=some (.list (a++b)):=if_pos h;unfold Nk;show(match Sy (.list a) (.list b) with|some z=>some z|none=>_)=_;rw[this]
def lD(xs:tZ)(p:Nat):cutD xs (some (p:Int)) none=xs.drop p:=by
 unfold cutD;rw[HT.LR,HT.K4];by_cases h:p<=xs.length
 .rw[Nat.min_eq_left h,List.take_of_length_le (by rw[(MS)];lia)]
 .rw[Nat.min_eq_right AC,Nat.sub_self,List.take_zero,List.drop_of_length_le AC]
end
section
variable{F F2:DF}{δ δ':Dv}{fs:tW}{xs:tZ}{set:PD->Dv->Option Dv}{r:Option Ou}
def mT(R:Nat->Dv->Prop)(U:fs δ=some xs)(h0:R 0 δ)(Y:∀(i:Nat) (x:PD) (δ:Dv),xs[i]? = some x->R i δ->∃M,set x δ=some M/\∃I,F M=some (.nx I)/\R (i+1) I):∃δ',NJ fs set F δ=some (.nx δ')/\R xs.length δ':=WS R U h0 fun i x δ a b=>let⟨M,c,I,e,g⟩:=Y i x δ a b;⟨M,I,c,e,g⟩
def QF(M:Nat->Dv->Prop)(R:fs δ=some xs)(h0:M 0 δ)(U:∀(i:Nat) (x:PD) (δ:Dv),xs[i]? = some x->M i δ->∃I,set x δ=some I/\∃g,F I=some (.nx g)/\M (i+1) g) (k:∀δ',M xs.length δ'->F2 δ'=r):Bd (NJ fs set F) F2 δ=r:=by
 obtain⟨δ',Z,Y⟩:=mT M R h0 U;exact BN Z (k δ' Y)
end
end L2
namespace L2
open PySem PySem.Spec PyProof.Rows
inductive W3(X:Cx)(C ea:Addr)(k:Nat):List ExceptHandler->TS->Prop
 |hit {x n:Str} {G:Addr} {np hpos:Pos} {b0:Stmt} {suite:List Stmt} {rest:List ExceptHandler} {t:TS} (hg:Gl X x) (hm:X.mg x=some (.ref G)) (hd:GE=false) (hB:Eb X.K C G true) (hk:X.N[k]? = some n) (hln:X.env.scope.names.lookup n=some .local) (hb:J9 (X.held ea) (b0::suite) t) :
   W3 X C ea k (.ExceptHandler (some (.Name x np)) (some n) (b0::suite) hpos::rest) t
 |miss {x n:Str} {G:Addr} {np hpos:Pos} {b0:Stmt} {suite:List Stmt} {rest:List ExceptHandler} {t:TS} (hg:Gl X x) (hm:X.mg x=some (.ref G)) (hd:GE=false) (hB:Eb X.K C G false) (r:W3 X C ea k rest t) :
   W3 X C ea k (.ExceptHandler (some (.Name x np)) (some n) (b0::suite) hpos::rest) t
def Yc(D:Ends)(k:Nat):Ends:={ nx:=fun g I=>D.nx (g.set k none) I,rt:=fun _ _=>False}
section
variable{X:Cx}{pins:Db}{σ:St}{D:Ends}
def fw{H0 H':Hp}{s0 s1:SD}{ea C:AD}{a0:VL}{B:Heap}{k:Nat}{h5:Heap}(hN:X.N.Nodup)(hcalm:X.calm=true)(I:Inv X pins σ H0 s0)(F:Yh X.prog X.w X.stack H0 s0 ea IO a0 H' s1 B){g:uH}(hrest:X.stack=X.env::g)(hfr:X.env.frame=some X.env.locals) (fl5:Heap.FlyingW B (X.env::g) ea IO a0 h5)(U:s1.heap.UpToSlots h5)(I5:Inv X pins σ H' {s1 with heap:=h5,toks:=s1.toks}):∀ {hs:List ExceptHandler} {t:TS},W3 X C ea k hs t->(H' ea=none->t (Yc D k) (σ.set k (some (.ref ea))) (upd H' ea (NA ea IO)))->wpAny At X.A (handleBy (.ref ea) X.env hs) (SP X pins D) X.xe {s1 with heap:=h5,toks:=s1.toks}:=by
 obtain⟨ob,Y,M⟩:=fl5.there;intro hs t Am q
 induction Am with
 |miss hg hm hd hB r ih=>
  refine wpAny_handleBy_cons (codeAny_handlers_test (JK (I5.held ea) hg hm ?_ hd)) (by intro q;cases q);exact Wa (K:=X.K) I5.Gf Y M hB (ih q)
 | @hit x n G np hpos b0 suite rest t hg hm hd hB hk hln hb=>
  refine wpAny_handleBy_cons (codeAny_handlers_test (JK (I5.held ea) hg hm ?_ hd)) (by intro q;cases q);refine Wa (K:=X.K) I5.Gf Y M hB (codeAny_handlers_suite_as ?_);refine lands_againW fl5 fun h6 Z up6=>?_;have I6:Inv X pins σ H' {s1 with heap:=h6,toks:=s1.toks}:=land I F Z.1 (U.trans up6);obtain⟨oe,ws,e1,e2,e3,_⟩:=Z.first
  obtain⟨R,I7⟩:=qN I F I6 ⟨oe,ws,e1,e2,e3⟩;refine LY (X:=X.held ea) (I7.held ea) hN hk (.inl hln) (v:=.ref ea) rfl (fun s8 I8=>?_) (.inr hln);refine aW (hb pins s8 _ _ (Yc D k) I8 (q R)) (fun fl s9 h9=>?_) fun _ _ z=>z.elim;cases fl with
  |next=>
   obtain⟨σ9,H9,I9,e9⟩:=h9;exact rL (I9.oy I.ok) hN hk hln fun s' I'=>⟨_,_,I',e9⟩
  |brk=>obtain⟨_,_,_,z⟩:=h9;exact z.elim
  |cont=>obtain⟨_,_,_,z⟩:=h9;exact z.elim
  |ret v=>obtain⟨_,_,_,_,_,z⟩:=h9;exact z.elim
end
def mS(k:Nat):Ou->Option Ou
 |.nx δ=>some (.nx (δ.set k .no))
 |_=>none
end L2
namespace L2
open PySem PySem.Spec PyProof.Rows
def ZD{P:F0b}{w:F0c}{K:Fg}{mg:tm}{base:Heap}{k:Nat}{f:AD}{fd:F0a}{ps:t7}{m:MD}(F:AH P w K mg base Aa k f fd ps (HA m)):AH P w K mg base (CQ P w) k f fd ps (Dq fun ds=>(m ds).map .inl) :=
 F.so.imp fun vs H Q E z=>by
  obtain⟨ds,r,G,U,R,M,I⟩:=z;obtain⟨x,g,rfl⟩:=aF.mp U;exact⟨ds,x,G,g,R,M,I⟩
end L2
namespace L2
open PySem PySem.Spec PyProof.Rows
abbrev TB:=St->Hp->(Hp->Prop)->XK->Prop
def iL(X:Cx)(st:Stmt)(t:TB):Prop:=∀(pins:Db) (s:SD) (σ:St) (H:Hp) (N:Hp->Prop) (E:XK),Inv X pins σ H s->t σ H N E->wpAny At X.A (exec st X.env) (fun f s'=>f=.next/\∃H',Inv X pins σ H' s'/\N H') (Uu X pins σ E) s
def WM(X:Cx)(g:uG)(t:TB):Prop:=∀(pins:Db) (s:SD) (σ:St) (H:Hp) (N:Hp->Prop) (E:XK),Inv X pins σ H s->t σ H N E->wpAny At X.A (execs g X.env) (fun f s'=>f=.next/\∃H',Inv X pins σ H' s'/\N H') (Uu X pins σ E) s
section
variable{X:Cx}{st:Stmt}{rest a b:uG}{t u:TB}{e c:Expr}{pos:Pos}
def j9:WM X [] (fun _ H N _=>N H):=fun _ _ _ H _ _ I h=>wpAny_execs_nil ⟨rfl,H,I,h⟩
def iI(h1:iL X st t)(M:WM X rest u):WM X (st::rest) (fun σ H N E=>t σ H (fun H1=>u σ H1 N E) E):=by
 intro pins s σ H N E I h;refine wpAny_execs_cons (BA (h1 pins s σ H _ E I h) fun f s1 q=>?_);obtain⟨rfl,H1,R,g⟩:=q;exact M pins s1 σ H1 N E R g
def kR{g:TX}(U:qr X e g)(R:swapsWith e none pos.line X.env=pure false:=by rfl):iL X (.Expr e pos) (fun σ H N E=>g σ H (fun _ H1=>N H1) E):=by
 intro pins s σ H N E I h;exact wpAny_Expr_any (BA (U pins s σ H _ E I h) fun v s1 ⟨x,H1,Y,Z,M⟩=>⟨rfl,H1,Y,M⟩) I.quiet R
def qg{g:TT}(U:PT X.Ki c g)(ha:WM X a t)(hb:WM X b u):iL X (.If c a b pos) (fun σ H N E=>g σ H fun d H1=>if d=true then t σ H1 N E else u σ H1 N E):=by
 intro pins s σ H N E I h;refine wpAny_If (aW (U pins s σ H _ (I.Hy _) h) (fun d s1 ⟨H1,R,M⟩=>?_) fun _ _ z=>z.elim);cases d with
 |true=>exact ha pins s1 σ H1 N E R.Ex M
 |false=>exact hb pins s1 σ H1 N E R.Ex M
def p8(X:Cx)(k:Nat)(I:List ExceptHandler)(t:TB):TS:=fun D σ H=>t σ H (fun H1=>D.nx σ H1) fun cls _ H'=>∃C,cls=.ref C/\∀ea,∃g,W3 X C ea k I g/\(H' ea=none->g (Yc D k) (σ.set k (some (.ref ea))) (upd H' ea (NA ea cls)))
def je{R:uG}{k:Nat}{h0:ExceptHandler}{hs:List ExceptHandler}(he:WM X R t)(hN:X.N.Nodup)(Y:X.calm=true)(Z:∃rest,X.stack=X.env::rest)(hfr:X.env.frame=some X.env.locals):PS X (.Try R (h0::hs) [] [] pos) (p8 X k (h0::hs) t):=by
 intro pins s σ H D I h;refine wpAny_Try_except (aW (he pins s σ H _ _ I h) (fun f s1 q=>?_) fun ev s1 hf=>?_)
 .obtain⟨rfl,H1,I1,q1⟩:=q;exact wpAny_execs_nil ⟨_,H1,I1,q1⟩
 .obtain⟨H0,s0,I,ea,cls,a0,H',B,ee,F,C,hc,q⟩:=hf;subst ee hc;obtain⟨rest,g⟩:=Z;have F1:=F.nF;rw[g]at F1;have hfrm:X.A.frames=some (X.env::rest):=by rw[<-g];exact I.ok.frames
  refine wpAny_looks_onW hfrm hfr F1 fun h4 U up4=>?_;refine wpAny_landsW U fun h5 fl5 up5=>?_;have M:=up4.trans up5;have I5:Inv X pins σ H' {s1 with heap:=h5,toks:=s1.toks}:=land I F fl5.1 M;obtain⟨tb,q1,q2⟩:=q ea;exact fw hN Y I F g hfr fl5 M I5 q1 q2
end
abbrev FB:=Dv->Option (Option AD)
def lh(G0 H0:Hp)(σ:St)(δ:Dv)(N:Hp->Prop)(E:XK):Option AD->Prop
 |none=>∀g H',Rw G0 H0 g H' σ δ []->N H'
 |some C=>∀g H',Rw G0 H0 g H' σ δ []->E IO none H'
def nA(X:Cx)(st:Stmt)(F:FB):Prop:=∃t,iL X st t/\∀δ r,F δ=some r->∀G0 H0 G H σ N E,Rw G0 H0 G H σ δ []->lh G0 H0 σ δ N E r->t σ H N E
def DB(X:Cx)(g:uG)(F:FB):Prop:=∃t,WM X g t/\∀δ r,F δ=some r->∀G0 H0 G H σ N E,Rw G0 H0 G H σ δ []->lh G0 H0 σ δ N E r->t σ H N E
def KY:FB:=fun _=>some none
def Il(I g:FB):FB:=fun δ=>(I δ).bind fun r=>match r with
 |none=>g δ
 |some C=>some (some C)
def Jl(m:rW)(fs:tW):FB:=fun δ=>((fs δ).bind m).map fun r=>match r with
 |.inl _=>none
 |.inr C=>some C
def UA(c:tY)(I g:FB):FB:=fun δ=>(c δ).bind fun b=>if b=true then I δ else g δ
section
variable{X:Cx}{st:Stmt}{rest a b:uG}{e c:Expr}{es:t8}{fs:tW}{fc:tY}{F1 F2:FB}{pos p spos:Pos}
def Og:DB X [] KY:=⟨_,j9,fun δ r h G0 H0 G H σ N E R q=>by cases h;exact q _ _ R⟩
def Mi(h1:nA X st F1)(h2:DB X rest F2):DB X (st::rest) (Il F1 F2):=by
 obtain⟨t1,U,Z⟩:=h1;obtain⟨t2,M,Y⟩:=h2;refine⟨_,iI U M,fun δ r h G0 H0 G H σ N E R q=>?_⟩;obtain⟨g,h3,I⟩:=aC.mp h;refine Z δ g h3 G0 H0 G H σ _ E R ?_;cases g with
 |none=>exact fun G' H' R'=>Y δ r I G0 H0 G' H' σ N E R' q
 |some C=>cases I;exact q
def iR(hc:DT X.Ki c fc)(ha:DB X a F1)(hb:DB X b F2):nA X (.If c a b pos) (UA fc F1 F2):=by
 obtain⟨tc,pc,Z⟩:=hc;obtain⟨t1,Y,k1⟩:=ha;obtain⟨t2,U,k2⟩:=hb;refine⟨_,qg pc Y U,fun δ r h G0 H0 G H σ N E R q=>?_⟩;obtain⟨d,h3,g⟩:=aC.mp h;refine Z δ d h3 G0 H0 G H σ [] _ R fun M H' I=>?_;cases d with
 |true=>exact k1 δ r g G0 H0 M H' σ N E I q
 |false=>exact k2 δ r g G0 H0 M H' σ N E I q
def Sl{I:Nat}{fA:AD}{fd:F0a}{ps:t7}{m:rW}{x:Str}{g:Stmt}(T:Fn X.K X.mg x g ps fA fd)(F:AH X.prog X.w X.K X.mg X.base (CQ X.prog X.w) I fA fd ps (Dq m))(hr:C9 I X.A)(ha:DA X.Ki (e::es) fs) (hg:Gl X x:=by rfl)(Y:GE=false:=by decide)(he:starEach (e::es) X.env=(false,eval e X.env)::starEach es X.env:=by rfl)(U:(backTo pos (starEach es X.env)).any (·.1)=false:=by rfl) (M:swapsWith G6 none spos.line X.env=pure false:=by rfl):nA X (.Expr G6 spos) (Jl m fs):=by
 obtain⟨ta,pa,ka⟩:=ha;refine⟨_,kR (lu T F hr hg pa Y he U) M,fun δ r h G0 H0 G H σ N E R q=>?_⟩;obtain⟨w,h1,rfl⟩:=aF.mp h;refine V2 (k:=I) ka h1 R (fun x hx v G' H' Z=>?_) (fun C hC G' H' Z=>?_)
 .subst hx;exact q _ _ Z.drop
 .subst hC;exact q _ _ Z
end
abbrev U8(k:Nat)(F:FB)(g:DF):DF:=fun δ=>(F δ).bind fun r=>match r with
 |none=>some (.nx δ)
 |some C=>(g (δ.set k (.d (JU C)))).bind (mS k)
def kQ{X:Cx}{k:Nat}{g:uG}{F:FB}{Fh:DF}{Y n:Str}{Gx:AD}{np hpos tp:Pos}{b0:Stmt}{suite:uG}(hb:DB X g F)(hN:X.N.Nodup)(hB:∀δ C,F δ=some (some C)->Eb X.K C Gx true)(hm:X.mg Y=some (.ref Gx))(hs:∀ea,Pt (X.held ea) (b0::suite) Fh) (I:X.calm=true:=by rfl)(M:∃rest,X.stack=X.env::rest:=by exact⟨_,rfl⟩)(Z:X.env.frame=some X.env.locals:=by rfl)(hg:Gl X Y:=by rfl)(hd:(Y==("__debug__" : Str))=false:=by decide)(hk:X.N[k]? = some n:=by rfl)(hln:X.env.scope.names.lookup n=some .local:=by rfl):DS X (.Try g [.ExceptHandler (some (.Name Y np)) (some n) (b0::suite) hpos] [] [] tp) (U8 k F Fh):=by
 obtain⟨tb,pb,kb⟩:=hb;refine⟨_,je (k:=k) pb hN I M Z,fun δ r h G0 H0 G H σ D R q=>?_⟩;obtain⟨w,h1,h2⟩:=aC.mp h;refine kb δ w h1 G0 H0 G H σ _ _ R ?_;cases w with
 |none=>cases h2;exact fun G' H' R'=>q _ _ _ R'
 |some C=>
  intro G' H' R';refine⟨C,rfl,fun ea=>?_⟩;obtain⟨th,p1,p2⟩:=hs ea;refine⟨th,.hit hg hm hd (hB δ C h1) hk hln p1,fun hea=>?_⟩;obtain⟨o,h3,U⟩:=aC.mp h2;have R2:=R'.newObj (o:=NA ea IO) hea;have de:Du (upd G' ea (NA ea IO)) (JU C) (.ref ea):=by unfold JU;rw[Du];exact .inl ⟨ea,C,rfl,rfl,AM⟩
  refine p2 _ o h3 G0 H0 _ _ _ _ ((R2.put de).Oe) ?_;cases o with
  |nx δ'=>cases U;exact fun σ4 G4 H4 R4=>q _ _ _ (R4.pI k none)
  |rt v=>cases U
  |bk v=>cases U
  |ct v=>cases U
  |rn v=>cases U
section
variable{k:Nat}{F F1 F2:FB}{Fh:DF}{δ δ':Dv}{fs:tW}{m:rW}{ds:tZ}{c:tY}{r:Option (Option AD)}
def fN(h:F δ=some none):U8 k F Fh δ=some (.nx δ):=by show(F δ).bind _=_;rw[h];rfl
def gY{C:AD}(h:F δ=some (some C))(z:Fh (δ.set k (.d (JU C)))=some (.nx δ')):U8 k F Fh δ=some (.nx (δ'.set k .no)):=by
 show(F δ).bind _=_;rw[h];show(Fh (δ.set k (.d (JU C)))).bind (mS k)=_;rw[z];rfl
def IG(h:F1 δ=some none)(q:F2 δ=r):Il F1 F2 δ=r:=by show(F1 δ).bind _=_;rw[h];exact q
def ID{C:AD}(h:F1 δ=some (some C)):Il F1 F2 δ=some (some C):=by show(F1 δ).bind _=_;rw[h];rfl
def U7(h:c δ=some true)(q:F1 δ=r):UA c F1 F2 δ=r:=by show(c δ).bind _=_;rw[h];exact q
def Pb(h:c δ=some false)(q:F2 δ=r):UA c F1 F2 δ=r:=by show(c δ).bind _=_;rw[h];exact q
def Qf{y:PD}(h:fs δ=some ds)(q:m ds=some (.inl y)):Jl m fs δ=some none:=by show((fs δ).bind m).map _=_;rw[h];show(m ds).map _=_;rw[q];rfl
def QK{C:AD}(h:fs δ=some ds)(q:m ds=some (.inr C)):Jl m fs δ=some (some C):=by show((fs δ).bind m).map _=_;rw[h];show(m ds).map _=_;rw[q];rfl
def B9(P:AD->Prop)(F:FB):Prop:=∀δ C,F δ=some (some C)->P C
def B9.at{P:AD->Prop}{F:FB}(h:B9 P F):∀δ C,F δ=some (some C)->P C:=h
variable{P:AD->Prop}
def B9.nil:B9 P KY:=fun δ C h=>by cases h
def B9.seq(h1:B9 P F1)(R:B9 P F2):B9 P (Il F1 F2):=fun δ C h=>by
 obtain⟨I,M,g⟩:=aC.mp h;cases I with
 |none=>exact R δ C g
 |some U=>cases g;exact h1 δ _ M
def B9.if(h1:B9 P F1)(I:B9 P F2):B9 P (UA c F1 F2):=fun δ C h=>by
 obtain⟨b,_,g⟩:=aC.mp h;cases b with
 |true=>exact h1 δ C g
 |false=>exact I δ C g
def B9.call(h:∀ds C,m ds=some (.inr C)->P C):B9 P (Jl m fs):=fun δ C z=>by
 obtain⟨w,M,g⟩:=aF.mp z;obtain⟨ds,_,I⟩:=aC.mp M;cases w with
 |inl y=>cases g
 |inr R=>cases g;exact h ds _ I
end
end L2
namespace TH
open PySem PyProof.Rows PySem.SeqAt
abbrev O6(d:AD)(ep n i:Nat):Obj:={ cls:=.type "dict_keyiterator",data:=.fields #[.ref d,.int (i:Int) 0,.int (n:Int) 0,.int (ep:Int) 0]}
section
variable{prog:F0b}{w:F0c}{A:F0d}{E:tj}{s:SD}{d I:AD}{o:Obj}{es:Array DictEntry}{ep i:Nat}
def fT{Q:Option VL->SD->Prop}{e:DictEntry}(R:s.heap.get? d=some o)(hd:o.data=.dict es ep)(M:s.heap.get? I=some (O6 d ep es.size i))(hx:es[i]? = some e) (h:∀h',h'.get? I=some (O6 d ep es.size (i+1))->Heap.SameBut I s.heap h'->Q (some e.key) {s with heap:=h'}):wpAny Da A (pyNext (.ref I)) Q E s:=by
 have g:s.TypeIs (.ref I) "dict_keyiterator" := ⟨_,M,rfl⟩;unfold pyNext;refine Wb (bc (ak (name:=Str.ofString "__next__") g F.slot_dict_keyiterator_next (ax F.slot_dict_keyiterator_next g F.entry_dict_keyiterator_next ?_ (F.args_dict_keyiterator_next_1 _))));refine Wb (aA (Wb (Wb (Wb (wpAny_typeNameOfWhole_keyiter g (aA ?_))))));refine Wb (bx M rfl ?_);have q0:Builtin.Dict_items.ownsTuple "dict_keyiterator" = false:=by decide
 simp only[q0,Bool.false_eq_true,if_false];have Z:¬(Value.ref d==Value.none)=true:=aO;show wpAny _ _ (if(Value.ref d==Value.none)=true then _ else _) _ _ s;rw[if_neg Z];refine Wb (aA (Wb (bq R hd ?_)));rw[if_neg Do];refine Wb (aA (Wb (wpAny_dictEpoch R hd ?_)));rw[if_neg Do];refine aA ?_;have Y:¬((i:Int)<0):=by lia
 simp only[Y,if_false,Int.toNat_natCast,hx];refine Wb (Wb (wpAny_typeNameOfWhole_keyiter g (aA ?_)));refine Wb (wpAny_isOneOf_keyiter g ?_);show wpAny _ _ (setField (.ref I) 1 (rawInt ((i:Int)+1))>>=_) _ _ s;refine Wb (wpAny_setField M rfl Do ?_);have U:(s.heap.update I (Obj.mapFields (·.setIfInBounds 1 (rawInt ((i:Int)+1))))).get? I=some (O6 d ep es.size (i+1)):=Heap.get?_update_self _ M rfl;refine Wb (bD (Wb (wpAny_isOneOf_keyiter ⟨_,U,rfl⟩ ?_)));show wpAny _ _ (pure e.key) _ _ _;exact aA (aA ⟨_,rfl,wpAny_pure (h _ U (bK ..))⟩)
def gy{Q:Option VL->SD->Prop}(hh:A.handled=none)(U:s.heap.get? d=some o)(hd:o.data=.dict es ep)(R:s.heap.get? I=some (O6 d ep es.size es.size)) (h:∀h',Heap.ExtBut I s.heap h'->Q none {s with heap:=h'}):wpAny Da A (pyNext (.ref I)) Q E s:=by
 have g:s.TypeIs (.ref I) "dict_keyiterator" := ⟨_,R,rfl⟩;unfold pyNext;refine Wb (bc (ak (name:=Str.ofString "__next__") g F.slot_dict_keyiterator_next (ax F.slot_dict_keyiterator_next g F.entry_dict_keyiterator_next ?_ (F.args_dict_keyiterator_next_1 _))));refine Wb (aA (Wb (Wb (Wb (wpAny_typeNameOfWhole_keyiter g (aA ?_))))));refine Wb (bx R rfl ?_);have q0:Builtin.Dict_items.ownsTuple "dict_keyiterator" = false:=by decide
 simp only[q0,Bool.false_eq_true,if_false];have q1:¬(Value.ref d==Value.none)=true:=aO;show wpAny _ _ (if(Value.ref d==Value.none)=true then _ else _) _ _ s;rw[if_neg q1];refine Wb (aA (Wb (bq U hd ?_)));rw[if_neg Do];refine Wb (aA (Wb (wpAny_dictEpoch U hd ?_)));rw[if_neg Do];refine aA ?_;have Z:¬((es.size:Int)<0):=by lia
 have Y:es[es.size]? = none:=Array.getElem?_eq_none (aH _);simp only[Z,if_false,Int.toNat_natCast,Y];refine Wb (Wb (wpAny_typeNameOfWhole_keyiter g (aA ?_)));show wpAny _ _ (setField (.ref I) 0 .none>>=_) _ _ s;refine Wb (wpAny_setField R rfl Do ?_);refine Wb ?_;simp only[newExc,newTuple];refine Wb (aY ?_ (by size_fits));refine Wb (m:=firstArgMember _ _) (wpAny_of_eq (a:=Value.none) (by first|rfl|(simp only[firstArgMember];rfl)) (aY ?_ (by size_fits)));simp only[raiseNew];refine Wb (wpAny_handled ?_);have M:A.in1.handled=none:=hh;rw[M];refine Wb (aA (wpAny_throw ?_));refine Wb (wpAny_isInstance (b:=true) (T := "StopIteration") ⟨_,Heap.get?_push_size _ rfl,rfl⟩ isSubtype_stop ?_);exact aA (h _ (((bK ..).extBut.push _).push _))
def fx{Q:tj}(M:s.heap.get? I=some (O6 d ep es.size i))(h:Q (.ref I) s):wpAny Da A (pyIter (.ref I)) Q E s:=by
 have g:s.TypeIs (.ref I) "dict_keyiterator" := ⟨_,M,rfl⟩;refine wpAny_pyIter_slot g F.slot_dict_keyiterator_iter (ax F.slot_dict_keyiterator_iter g F.entry_dict_keyiterator_iter ?_ (F.args_dict_keyiterator_iter_1 _));show wpAny _ _ (ret (.ref I)) _ _ s;exact aA ⟨_,rfl, "dict_keyiterator",_,g,F.slot_dict_keyiterator_next.lookup,h⟩
def gc{Q:tj}(R:(d==sysModules)=false)(g:s.heap.get? d=some o)(U:o.cls=.type "dict")(hd:o.data=.dict es ep)(h:Q (.ref s.heap.objs.size) {s with heap:=s.heap.push (O6 d ep es.size 0)}):wpAny Da A (pyIter (.ref d)) Q E s:=by
 have M:s.TypeIs (.ref d) "dict" := ⟨o,g,U⟩;refine wpAny_pyIter_slot M F.slot_dict_iter (ax F.slot_dict_iter M F.entry_dict_iter ?_ (F.args_dict_iter_1 _));unfold Builtin.«dict.__iter__»;refine Wb ?_;unfold Builtin.Dict.dictSlotNone;refine Wb (wpAny_notOrdered_dict M (show wpAny _ _ (pure (Value.ref d)) _ _ s from aA ?_));have hn:¬(d==sysModules)=true:=by rw[R];exact aO
 show wpAny _ _ (Builtin.Dict.showsAll d>>=_) _ _ s;unfold Builtin.Dict.showsAll;rw[if_neg hn];refine Wb (aA (Wb (bq g hd (Wb (wpAny_dictEpoch g hd ?_)))));exact Wb (aY (aA ⟨_,rfl, "dict_keyiterator",_,⟨_,Heap.get?_push_size _ rfl,rfl⟩,F.slot_dict_keyiterator_next.lookup,h⟩))
def Ym(hh:A.handled=none)(hne:d≠I)(hd:o.data=.dict es ep) :
  Walks prog w A I [I,d] [I] es.size (fun i v=>∃e,es[i]? = some e/\v=e.key) (fun i h=>h.get? I=some (O6 d ep es.size i)/\h.get? d=some o) where
 sub:=fun b hb=>by simp at hb;simp[hb]
 frame:=fun _ _ _ x k=>⟨k I Do _ x.1,k d Do _ x.2⟩
 item:=fun i s Q E hi x hQ=>by
  have hx:es[i]? = some es[i]:=Array.getElem?_eq_getElem hi;refine fT x.2 hd x.1 hx fun h' g sb=>hQ _ h' s.toks ⟨_,hx,rfl⟩ ⟨g,(sb.2 d hne).trans x.2⟩ fun b u hb e=>?_;rw[sb.2 b fun q=>hb (by simp[q])];exact e
 done:=fun s Q E x hQ=>gy hh x.2 hd x.1 fun h' eb=>hQ h' s.toks fun b u hb e=>eb b u (fun q=>hb (by simp[q])) e
 self:=fun _ _ _ _ x hQ=>fx x.1 hQ
def fX(hs:(d==sysModules)=false)(hc:o.cls=.type "dict")(hd:o.data=.dict es ep):PySem.W.KdlSrc prog w "dict" d d es.size (fun i v=>∃e,es[i]? = some e/\v=e.key) (fun h=>h.get? d=some o) where
 type:=fun _ ho=>⟨o,ho,hc⟩
 there:=fun _ ho=>⟨aD ho,Heap.lt_size ho⟩
 keep:=fun _ _ ho k=>k d (.inl rfl) _ ho
 notList:=by decide
 notTuple:=by decide
 hint:=fun _ _ s _ ho h=>PySem.W.kdl_hint_dict ⟨o,ho,hc⟩ h
 iter:=fun A s hh ho=>⟨O6 d ep es.size 0,_,(fun E Q h=>gc hs ho hc hd h),Ym hh (aP (aD ho)) hd,⟨aV _ rfl,Heap.get?_push_of_some _ ho⟩⟩
end
end TH
namespace SK
open PySem PySem.W PyProof.Rows PySem.SeqAt TH
abbrev Ext(h0 h:Heap):Prop:=∀c o,h0.get? c=some o->h.get? c=some o
section
variable{prog:F0b}{w:F0c}{A:F0d}{E:tj}{s:SD}{a:AD}{vs:tf}{kz:t6}{P:PySem.Fin->SD->Prop}
def Told(prog:F0b)(w:F0c)(A:F0d)(s:SD)(h0:Heap)(f:VL)(vs:tf)(kz:t6):Prop :=
 ∀(i:Nat) (v:VL) (k:Int),vs[i]? = some v->kz[i]? = some k->∀(h:Heap) (tk:Nat),Ext h0 h ->
  wpAny Da A (call f [v]) (fun r s'=>∃h' g I,s'={s with heap:=h',toks:=g}/\r=.int k I/\Ext h h') (fun _ _=>False) {s with heap:=h,toks:=tk}
def dZ{st:SortSt}{kS:AD}{keys:Array VL}{e e1:Nat}(nk:s.heap.get? kS=some (seqObj "list" keys e))(na:s.heap.get? a=some (seqObj "list" #[] e1))(R:kS≠a) (hk:IntsAre keys.toList kz)(hlen:kz.length=vs.length)(h64:vs.length<64)(hp:(arrOf st).Perm (keys.zip vs.toArray))(hs:SortedTo (arrOf st) (arrOf st).size)(U:failedOf st=none) (h:∀h' out c,(∀b o,b≠kS->b≠a->s.heap.get? b=some o->h'.get? b=some o)->h'.get? a=some (seqObj "list" out c)->KskOut false kz vs out.toList->P (.done (.ret .none)) {s with heap:=h'}):wpAny Da A (ksk_tail a false e1 (.ref kS) st) P E s:=by
 have M:keys.size=vs.length:=by
  have Z:=hk.length;rw[(Qz)]at Z
  lia
 have I:(arrOf st).size=vs.length:=by rw[hp.size_eq,Array.size_zip,M,(DM),Nat.min_self]
 have s1:=bK s.heap kS (Obj.mapSeq fun _=>(#[]:Array VL));have g:(s.heap.update kS (Obj.mapSeq fun _=>(#[]:Array VL))).get? a=some (seqObj "list" #[] e1):=(s1.2 a R.symm).trans na;have s2:=bK (s.heap.update kS (Obj.mapSeq fun _=>(#[]:Array VL))) a (Obj.mapSeq fun _=>if false=true then((arrOf st).map (·.2)).reverse else(arrOf st).map (·.2));obtain⟨c2,Y⟩:∃c2,((s.heap.update kS (Obj.mapSeq fun _=>(#[]:Array VL))).update a (Obj.mapSeq fun _=>if false=true then((arrOf st).map (·.2)).reverse else(arrOf st).map (·.2))).get? a=some (seqObj "list" (if false=true then((arrOf st).map (·.2)).reverse else(arrOf st).map (·.2)) c2) :=
  ⟨_,get?_update_seq g fun _=>if false=true then((arrOf st).map (·.2)).reverse else(arrOf st).map (·.2)⟩
 unfold ksk_tail
 try dsimp only
 refine Wb (listUpdate_at nk rfl ?_ (by rw[M,sizeLine_eq];lia) (ar _));refine Wb (wpAny_letGo ?_);refine Wb (seqEpoch_at g rfl ?_);refine Wb (listUpdate_at g rfl ?_ (ar _) (by
  show(if false=true then((arrOf st).map (·.2)).reverse else(arrOf st).map (·.2)).size<=_;rw[if_neg AS,Array.size_map,I,sizeLine_eq];lia))
 rw[U];simp only[bne_self_eq_false,Bool.false_eq_true,if_false];exact aA (h _ _ c2 (fun b o Z h2 q=>(s2.2 b h2).trans ((s1.2 b Z).trans q)) Y (ksk_out (b:=false) hk hp hs))
def qH{kS:AD}{keys:Array VL}{e e1:Nat}(nk:s.heap.get? kS=some (seqObj "list" keys e))(na:s.heap.get? a=some (seqObj "list" #[] e1))(Z:kS≠a) (hk:IntsAre keys.toList kz)(I:kz.length=vs.length)(R:vs.length<64) (h:∀h' out c,(∀b o,b≠kS->b≠a->s.heap.get? b=some o->h'.get? b=some o)->h'.get? a=some (seqObj "list" out c)->KskOut false kz vs out.toList->P (.done (.ret .none)) {s with heap:=h'}):wpAny Da A (ksk_end a false vs.toArray e1 (.ref kS) keys) P E s:=by
 have Y:keys.size=vs.length:=by
  have h1:=hk.length;rw[(Qz)]at h1
  lia
 have M:(keys.zip vs.toArray).size=vs.length:=by rw[Array.size_zip,Y,(DM),Nat.min_self]
 unfold ksk_end
 try dsimp only
 simp only[Bool.false_eq_true,if_false];by_cases U:vs.toArray.size<2
 .rw[if_pos U,if_pos U];refine Wb (aA ?_);rw[StateT.run_pure];refine Wb (aA ?_)
  try dsimp only
  refine dZ (st:=SortSt.mk' general' (keys.zip vs.toArray) #[] 7 none) nk na Z hk I R (Array.Perm.refl _) ?_ rfl h;intro i j hij hj;have hj2:j<(keys.zip vs.toArray).size:=hj;rw[M]at hj2;rw[(DM)]at U;have:i=j:=by lia
  subst this;exact Int.le_refl _
 .rw[if_neg U,if_neg U];rw[(DM)]at U;rw[ksk_kind hk (by rw[Y];lia)];refine Wb (aA ?_);refine Wb (aW (wpS_sortRuns (a₀:=keys.zip vs.toArray) (st:=SortSt.mk' oneType' (keys.zip vs.toArray) #[] 7 none)
   (Q:=fun _ g=>(arrOf g).Perm (keys.zip vs.toArray)/\failedOf g=none/\SortedTo (arrOf g) (keys.zip vs.toArray).size)
   (ksk_intKeys hk) ⟨Array.Perm.refl _,rfl,rfl,rfl⟩ (by rw[M];lia) (by rw[M];exact R) fun g a1 a2 a3=>⟨a1,a2,a3⟩) ?_ fun _ _ e=>e)
  rintro⟨⟨⟩,g⟩ s' ⟨rfl,hp,hf,hs⟩
  try dsimp only
  exact dZ nk na Z hk I R hp (by rw[hp.size_eq];exact hs) hf h
def oI{f:VL}{n:Nat}{h0:Heap}(ho:s.heap.get? a=some (seqObj "list" vs.toArray n))(hx:∀b o,h0.get? b=some o->b≠a/\s.heap.get? b=some o)(hlen:kz.length=vs.length)(h64:vs.length<64)(turn:Told prog w A s h0 f vs kz) (h:∀h' tk out c,(∀b o,b≠a->s.heap.get? b=some o->h'.get? b=some o)->h'.get? a=some (seqObj "list" out c)->KskOut false kz vs out.toList->P (.done (.ret .none)) {s with heap:=h',toks:=tk}):wpAny Da A (ksk_tree a f false) P E s:=by
 have ha:a<s.heap.objs.size:=aD ho;have s1:=bK s.heap a (Obj.mapSeq fun _=>(#[]:Array VL));obtain⟨e1,Z⟩:∃e1,(s.heap.update a (Obj.mapSeq fun _=>(#[]:Array VL))).get? a=some (seqObj "list" #[] e1):=⟨_,get?_update_seq ho fun _=>#[]⟩;have hkS:((s.heap.update a (Obj.mapSeq fun _=>(#[]:Array VL))).push (seqObj "tuple" vs.toArray 0)).objs.size=s.heap.objs.size+1:=by rw[size_push',Heap.size_update]
 unfold ksk_tree;refine Wb (listItems_at ho rfl ?_);refine Wb (listUpdate_at ho rfl ?_ (by rw[(DM),sizeLine_eq];lia) (ar _));refine Wb (seqEpoch_at Z rfl ?_);refine Wb (wpAny_newTuple ?_ (by show vs.length<=_;rw[sizeLine_eq];lia));refine Wb (wpAny_newList ?_ (ar _));refine bD ?_;show wpAny Da A (ksk_rest a f false vs.toArray e1 (.ref ((s.heap.update a (Obj.mapSeq fun _=>(#[]:Array VL))).push (seqObj "tuple" vs.toArray 0)).objs.size)) P E {s with heap:=((s.heap.update a (Obj.mapSeq fun _=>(#[]:Array VL))).push (seqObj "tuple" vs.toArray 0)).push (seqObj "list" #[] 0)};have gk:(((s.heap.update a (Obj.mapSeq fun _=>(#[]:Array VL))).push (seqObj "tuple" vs.toArray 0)).push (seqObj "list" #[] 0)).get? ((s.heap.update a (Obj.mapSeq fun _=>(#[]:Array VL))).push (seqObj "tuple" vs.toArray 0)).objs.size=some (seqObj "list" #[] 0):=aV _ rfl;rw[hkS]at gk ⊢;have ga:(((s.heap.update a (Obj.mapSeq fun _=>(#[]:Array VL))).push (seqObj "tuple" vs.toArray 0)).push (seqObj "list" #[] 0)).get? a=some (seqObj "list" #[] e1):=aE _ (aE _ Z);have gb:∀b o,b≠a->s.heap.get? b=some o->(((s.heap.update a (Obj.mapSeq fun _=>(#[]:Array VL))).push (seqObj "tuple" vs.toArray 0)).push (seqObj "list" #[] 0)).get? b=some o:=fun b o M q=>aE _ (aE _ ((s1.2 b M).trans q));generalize ((s.heap.update a (Obj.mapSeq fun _=>(#[]:Array VL))).push (seqObj "tuple" vs.toArray 0)).push (seqObj "list" #[] 0)=h6 at gk ga gb;generalize hK:s.heap.objs.size+1=kS at gk;have hka:kS≠a:=by rw[<-hK];exact bF (bY ha)
 have hkb:∀b o,s.heap.get? b=some o->b≠kS:=fun b o q=>by rw[<-hK];exact aP (bY (aD q))
 unfold ksk_rest;refine Wb (wpAny_rule ?_)
 first
  |rw[List.forIn_toArray]
  |(rw[<-Array.forIn_toList];simp only[List.toList_toArray])
  |rw[<-Array.forIn_toList]
 refine Wb (ksk_fold (fun i s'=>∃h' tk I e,s'={s with heap:=h',toks:=tk}/\h'.get? kS=some (seqObj "list" I e)/\h'.get? a=some (seqObj "list" #[] e1)/\(∀b o,b≠a->s.heap.get? b=some o->h'.get? b=some o)/\IntsAre I.toList (kz.take i)) vs 0 {s with heap:=h6}
  ⟨h6,s.toks,#[],0,rfl,gk,ga,gb,by simpa using IntsAre.nil⟩ ?step ?done)
 case step=>
  rintro j x s' Y ⟨h',tk,I,e,rfl,U,na,nb,hk⟩;simp only[Nat.zero_add]at hk ⊢;have hj:j<vs.length:=(aB.mp Y).1;obtain⟨k,hkj⟩:∃k,kz[j]? = some k:=⟨_,List.getElem?_eq_getElem AC⟩;have hz:I.size<=vs.length:=by
   have M:=hk.length;rw[(Qz),(JZ)]at M
   lia
  refine Wb (bc (aW (turn j x k Y hkj h' tk fun b o q=>nb b o (hx b o q).1 (hx b o q).2) (fun v s'' he=>?_) fun _ _ hF=>hF.elim));obtain⟨g,tk2,R,rfl,rfl,x2⟩:=he
  try dsimp only
  have s2:=bK g kS (Obj.mapSeq (·.push (.int k R)));obtain⟨c2,hc2⟩:∃c2,(g.update kS (Obj.mapSeq (·.push (.int k R)))).get? kS=some (seqObj "list" (I.push (.int k R)) c2):=⟨_,get?_update_seq (x2 _ _ U) (·.push (.int k R))⟩;have ek:kz.take (j+1)=kz.take j++[k]:=by rw[(CP),hkj];simp
  have ea:(I.push (Value.int k R)).toList=I.toList++[Value.int k R]:=by simp
  refine Wb (listUpdate_at (x2 _ _ U) rfl ?_ (by rw[sizeLine_eq];lia) (aS (Nat.le_of_eq (Array.size_push ..)) (by rw[sizeLine_eq];lia)));exact aA ⟨rfl,_,_,I.push (.int k R),c2,rfl,hc2,(s2.2 a hka.symm).trans (x2 _ _ na),fun b o M q=>(s2.2 b (hkb b o q)).trans (x2 _ _ (nb b o M q)),by rw[ea,ek];exact ksk_snoc hk⟩
 case done=>
  rintro s' ⟨h',tk,I,e,rfl,U,na,nb,hk⟩;have hk':IntsAre I.toList kz:=by
   have e3:kz.take (0+vs.length)=kz:=List.take_of_length_le AC;rw[e3]at hk;exact hk
  try dsimp only
  refine Wb (listItems_at U rfl ?_);exact qH (s:={s with heap:=h',toks:=tk}) U na hka hk' hlen h64 fun h3 out c g1 g2 g3=>h h3 tk out c (fun b o M q=>g1 b o (hkb b o q) M (nb b o M q)) g2 g3
def eV{d:AD}{o:Obj}{es:Array DictEntry}{ep:Nat}{i:String}{Q:tj}(hs:(d==sysModules)=false)(ho:s.heap.get? d=some o)(hc:o.cls=.type "dict")(hdt:o.data=.dict es ep)(hA:A.handled=none) (hv:es.toList.map (·.key)=vs)(R:kz.length=vs.length)(h64:vs.length<64)(turn:Told prog w A.in1.in1 s s.heap (.builtin i) vs kz) (h:∀(h':Heap) (D tk c:Nat) (out:Array VL),s.heap.objs.size<=D->Ext s.heap h'->h'.get? D=some (seqObj "list" out c)->KskOut false kz vs out.toList->Q (.ref D) {s with heap:=h',toks:=tk}):wpAny Da A (call (.builtin "sorted") [.ref d] [(Str.ofString "key",.builtin i)]) Q E s:=by
 refine call_function_entry_kw kind_sorted plain_sorted entry_sorted (ksk_s1 _ _) ?_;unfold Builtin.«sorted»;refine Wb (m:=checkCount "sorted" 1 1 _) (aA ?_);have hes:es.size=vs.length:=by rw[<-hv,(Ah),(Qz)]
 refine Wb (gather (A:=A.in1) (fX hs hc hdt) hA ho (Rk AC) fun M tk g z1 k1 I=>?_);have hal:g.toList=vs:=by
  rw[<-hv];apply List.ext_getElem?;intro j;rw[(BC)];by_cases hj:j<g.size
  .have e1:g[j]? = some g[j]:=Array.getElem?_eq_getElem hj;obtain⟨e,e2,e3⟩:=I.2 j _ e1;rw[Array.getElem?_toList,e1,Array.getElem?_toList,e2,e3]
   rfl
  .have Z:¬j<es.size:=by rw[<-I.1];exact hj
   rw[List.getElem?_eq_none (by simpa using hj),List.getElem?_eq_none (by simpa using Z)]
   rfl
 rw[hal];refine Wb (wpAny_newList ?_ (Rk AC));have g1:(M.push (seqObj "list" vs.toArray 0)).get? M.objs.size=some (seqObj "list" vs.toArray 0):=aV _ rfl;have Y:∀b u,s.heap.get? b=some u->b≠M.objs.size/\(M.push (seqObj "list" vs.toArray 0)).get? b=some u:=fun b u e=>⟨aP (aD (k1 b u e)),Heap.get?_push_of_some _ (k1 b u e)⟩;refine Wb (bD (wpAny_call_entry_kw slot_list_sort ⟨_,g1,rfl⟩ entry_list_sort ?_ (ksk_l1 _ _)));show wpAny Da A.in1.in1 (Builtin.«list.sort» ⟨[.ref M.objs.size],[(Str.ofString "key",.builtin i)]⟩) _ _ _;rw[ksk_t4];refine oI (s:={s with heap:=M.push (seqObj "list" vs.toArray 0),toks:=tk}) (h0:=s.heap) g1 Y R h64 turn fun h' U out c x1 x2 x3=>⟨_,rfl,?_⟩;exact aA ⟨_,rfl,h h' M.objs.size U c out (ba z1) (fun b u e=>x1 b u (Y b u e).1 (Y b u e).2) x2 x3⟩
end
end SK
namespace L2
open PySem PySem.Spec PyProof.Rows
def perm_back{α β:Type}(f:α->β){U R:List β}(h:U.Perm R):∀L:List α,R=L.map f->∃g:List α,g.Perm L/\U=g.map f:=by
 induction h with
 |nil=>intro L e;exact⟨[],by cases L with|nil=>exact .nil|cons a L=>simp at e,rfl⟩
 |cons x _ Y=>
  intro L e;cases L with
  |nil=>simp at e
  |cons a L=>
   simp at e;obtain⟨g,M,I⟩:=Y L e.2;exact⟨a::g,M.cons a,by rw[I,e.1];rfl⟩
 |swap x y l=>
  intro L e
  match L,e with
  |a::b::L,e=>
   simp at e;exact⟨b::a::L,List.Perm.swap ..,by simp[e.1,e.2.1,e.2.2]⟩
 |trans _ _ i1 i2=>
  intro L e;obtain⟨L2,M,I⟩:=i2 L e;obtain⟨L1,h3,Z⟩:=i1 L2 I;exact⟨L1,h3.trans M,Z⟩
def gZ{prog:F0b}{w:F0c}{A:F0d}{s:SD}{E:tj}(hA:A.handled=none){p:AD}{ns:t6}{g:tf}(Z:Vals (ns.map V.int) g)(pl:s.heap.IsTuple p g.toArray):wpAny Da A (call (.builtin "sum") [.ref p]) (fun r s'=>∃h' U t',s'={s with heap:=h',toks:=U}/\r=.int ns.sum t'/\SK.Ext s.heap h') E s:=by
 have hi:=intsAre_of Z;obtain⟨xs,Y⟩:=hi.allInts.items;have I:s.heap.IsTuple p (intItems xs):=Y ▸ pl
 have R:p<s.heap.objs.size:=by obtain⟨_,e,_⟩:=I;exact aD e
 have e1:ns=xs.toList.map (·.1):=by
  rw[<-nums_intItems,<-Y];exact(show numsOf g.toArray.toList=ns from hi.numsOf).symm
 have e2:preSum (numAt xs) xs.size=ns.sum:=by
  rw[preSum_eq,List.take_of_length_le Do,e1]
 refine call_sum_walkG (wpAny_pyIter_tuple I ?_);refine⟨_,[_,p],[_],_,_,_,numAt xs,rfl,Walks.tuple (A:=A.in1) hA _ p (aP R) (intItems xs),
  ⟨⟨_,Heap.get?_push_size _ rfl,rfl,rfl⟩,I.push _⟩,fun c M=>?_,(fun _ _=>intItems_at),fun h' tk t' hk=>?_⟩
 .show c<(s.heap.push _).objs.size;rw[(MO)];rcases aU.mp M with rfl|M
  .exact Nat.lt_succ_self _
  .rw[List.mem_singleton.mp M];exact bY R
 .have e3:preSum (numAt xs) (intItems xs).size=ns.sum:=by
   rw[<-e2];simp[intItems]
  rw[e3];exact⟨h',tk,t',rfl,rfl,PyProof.Rows.LSm.kept_iter hk⟩
def iT(H:Hp)(x:V)(Q:VK):Prop:=∃(a:AD) (kvs:IF) (ps:List (List Int)),x=.ref a/\H a=some (.dT kvs)/\kvs.length<64/\kvs.map (·.1)=ps.map (·.map Sum.inl) /\
 ∀(D:AD) (H':Hp) (L:List (List Int×AD)),(∀b o,H b=some o->H' b=some o)->(∀b,b≠D->H' b=H b)->H D=none->H' D=some (.lst (L.map fun l=>V.ref l.2))->(L.map (·.1)).Perm ps->L.Pairwise (fun p q=>p.1.sum<=q.1.sum) ->
  (∀l∈L,H l.2=some (.tup (l.1.map V.int)))->Q (.ref D) H'
def eG{X:Cx}{pins:Db}{σ:St}{H:Hp}{s:SD}{Q:VK}(I:Cl){x:V}{v:VL}(rx:RelV x v)(hc:X.calm=true)(q:iT H x Q):wpAny At X.A (call (.builtin "sorted") [v] [(Str.ofString "key",.builtin "sum")]) (EP X pins σ Q) X.xe s:=by
 obtain⟨a,kvs,ps,rfl,ha,h64,Z,q⟩:=q;cases rx;obtain⟨hz,nd,xs,kt,o,es,ep,r1,r2,r3,r4,r5,r6⟩:=Yl I.Am ha;have hlen:es.size=kvs.length:=by rw[size_of_entries r4];exact(Paired.length kt).symm
 have U:ps.length=kvs.length:=by
  have:=bA List.length Z
  simpa using this.symm
 have M:xs.length=kvs.length:=(Paired.length kt).symm
 let g:List (List Int×AD):=ps.zip (xs.map (·.2.1))
 have hL:g.length=kvs.length:=by simp[g,U,M]
 have l1:g.map (·.1)=ps:=by
  show(ps.zip _).map Prod.fst=ps;exact List.map_fst_zip (by simp[U,M])
 have l2:g.map (·.2)=xs.map (·.2.1):=by
  show(ps.zip _).map Prod.snd=_;exact List.map_snd_zip (by simp[U,M])
 have hkey:es.toList.map (·.key)=g.map fun l=>Value.ref l.2:=by
  have:(g.map fun l=>Value.ref l.2)=(g.map (·.2)).map Value.ref:=by simp
  rw[this,l2];apply List.ext_getElem?;intro j;rw[(BC),Array.getElem?_toList,entry_at r4 j,(HM),(BC)];cases xs[j]? <;> rfl
 have hin:∀l∈g,H l.2=some (.tup (l.1.map V.int)):=fun l hl=>by
  obtain⟨j,hj⟩:=ah hl;have h1:(g.map (·.1))[j]? = some l.1:=by rw[(BC),hj];rfl
  have h2:(g.map (·.2))[j]? = some l.2:=by rw[(BC),hj];rfl
  rw[l1]at h1;rw[l2,(BC)]at h2;obtain⟨y,hy,e⟩:=aF.mp h2;have hjk:j<kvs.length:=by rw[<-M];exact(aB.mp hy).1
  obtain⟨kv,hkv⟩:∃kv,kvs[j]? = some kv:=⟨kvs[j],by simp[hjk]⟩;have p1:=N2 kt hkv hy;have h3:kv.1=l.1.map Sum.inl:=by
   have:=bA (·[j]?) Z;simp only[List.getElem?_map,hkv,h1]at this;exact ao this
  have h4:H y.2.1=some (.tup (kv.1.map kV)):=p1.1 ▸ p1.2.1
  rw[e,h3,WX]at h4;exact h4
 refine SK.eV (vs:=g.map fun l=>Value.ref l.2) (kz:=g.map fun l=>l.1.sum) nd r1 r2.1 r3 (I.ok.hd hc) hkey Do (by rw[(Ah),hL];exact h64) ?_ fun h' D tk c out hD k1 hd ko=>?_
 .intro i v k hv hk h tk hx;rw[(BC)]at hv hk;obtain⟨l,e1,rfl⟩:=aF.mp hv;rw[e1]at hk;cases hk;obtain⟨its,v1,p1,_⟩:=I.tuple (Al.of (K:=X.K) (hin l (aI e1)));refine gZ (A:=X.A.in1.in1) (s:={s with heap:=h,toks:=tk}) (show X.A.in1.in1.handled=none from I.ok.hd hc) v1 ?_;obtain⟨o,e,r⟩:=p1;exact⟨o,hx _ _ e,r⟩
 .obtain⟨pz,w1,w2,w3⟩:=ko;have ez:(g.map fun l=>l.1.sum).zip (g.map fun l=>Value.ref l.2)=g.map fun l=>(l.1.sum,Value.ref l.2):=by
   rw[List.zip_map']
  rw[ez]at w1;obtain⟨L,hp,rfl⟩:=perm_back (fun l:List Int×AD=>(l.1.sum,Value.ref l.2)) w1 g rfl;rw[(HM)]at w2
  let H':Hp:=fun y=>if y=D then some (.lst (L.map fun l=>V.ref l.2)) else H y
  have hHD:H' D=some (.lst (L.map fun l=>V.ref l.2)):=if_pos rfl;have hfr:H D=none:=I.Am.fresh hD;have R:∀y,y≠D->H' y=H y:=fun y hy=>if_neg hy;have up:∀b o,H b=some o->H' b=some o:=fun b o e=>by
   rw[R b fun z=>by rw[z,hfr]at e;cases e];exact e
  have Am:Dd X.prog X.w H' h':=fun y u e=>by
   by_cases Y:y=D
   .subst Y;rw[hHD]at e;cases e;refine⟨?_,out.toList,c,?_,?_⟩
    .show(L.map _).length<=sizeLine;rw[(Ah),hp.length_eq,hL];exact hz
    .have e2:out.toList=(L.map (·.2)).map Value.ref:=by rw[w2,(HM)];rfl
     have e3:(L.map fun l=>V.ref l.2)=(L.map (·.2)).map V.ref:=by rw[(HM)];rfl
     rw[e2,e3];exact Ol _
    .exact hd
   .have e':H y=some u:=by rw[R y Y]at e;exact e
    exact(I.Am y u e').JL (fun b o _ z=>k1 b o z) (fun b z=>up _ _ z) fun b xs z=>up _ _ z
  have I3:Inv X pins σ H' {s with heap:=h',toks:=tk}:=I.many k1 (fun b hb=>R b (aP (aK hb hD))) Am;refine⟨.ref D,H',I3,rfl,q D H' L up R hfr hHD (by rw[<-l1];exact hp.map _) ?_ fun l hl=>hin l (hp.mem_iff.mp hl)⟩;rw[List.pairwise_map]at w3;exact w3.imp fun h=>by simpa using h
def mf(to:TE):TE:=fun σ H Q=>to σ H fun x H1=>iT H1 x Q
def ff{X:Cx}{o:Expr}{to:TE}{p pos kp M:Pos}(hc:X.calm=true)(hg:Gl X "sorted")(hm:X.mg "sorted" = none)(U:Gl X "sum")(R:X.mg "sum" = none)(ho:PE X o to) (Y:backTo pos (starEach [o] X.env)=(false,eval o X.env)::backTo pos (starEach [] X.env):=by rfl)(g:(backTo pos (starEach [o] X.env)).any (·.1)=false:=by rfl):PE X (.Call (.Name "sorted" p) [o] [⟨some "key",.Name "sum" M,kp⟩] pos) (mf to):=by
 intro pins s σ H Q I h;refine bf (HN I hg hm boot_sorted ?_ AS AS);refine callWith_kw ?_ Y g;rw[Y];refine Calls.spliced_cons (BA (ho pins s σ H _ I h) fun v s1 ⟨x,H1,Z,r1,q1⟩=>?_);exact Calls.spliced_nil (kws_cons (HN Z U R boot_sum (kws_nil (eG Z r1 hc q1)) AS AS))
end L2
namespace Q26
open PySem L2
abbrev F4:Stmt:=top 15
abbrev HZ:Stmt:=top 16
abbrev EB:Stmt:=top 17
abbrev Kv:Stmt:=top 18
abbrev C7:Stmt:=top 19
abbrev Cm:Stmt:=top 20
abbrev LI:Stmt:=top 21
abbrev IW:Stmt:=top 22
abbrev Oo:Stmt:=top 24
abbrev Ox:Stmt:=top 25
abbrev LH:Stmt:=top 26
abbrev CF:Stmt:=top 27
abbrev Jd:Stmt:=top 28
abbrev K1:Stmt:=top 29
abbrev Mz:Stmt:=top 30
abbrev Le:Stmt:=top 31
abbrev Ii:Stmt:=top 33
abbrev IZ:Stmt:=top 35
abbrev J0:Stmt:=top 36
abbrev KS:Stmt:=top 37
abbrev GD:Stmt:=top 38
abbrev Jc:Stmt:=top 39
abbrev Fc:Stmt:=top 40
abbrev LF:Stmt:=top 41
abbrev GU:Stmt:=top 42
abbrev Fq:Stmt:=top 43
abbrev Jo:Stmt:=top 45
abbrev B3:Stmt:=top 46
abbrev Hi:Stmt:=top 49
abbrev CG:Stmt:=top 50
abbrev Ep:Stmt:=top 51
abbrev K8:Stmt:=top 52
abbrev GQ:Stmt:=top 53
abbrev GK:Stmt:=top 54
abbrev Io:Stmt:=top 55
abbrev Km:Stmt:=top 56
abbrev Kn:Stmt:=top 59
abbrev DR:Stmt:=top 60
abbrev M4:Stmt:=top 61
abbrev L8:Stmt:=top 63
abbrev Js:Stmt:=top 64
abbrev CU:Stmt:=top 65
abbrev Ft:Stmt:=top 66
abbrev MM:Stmt:=top 67
abbrev Qr:Stmt:=top 68
abbrev LX:Stmt:=top 69
abbrev Lc:Stmt:=top 70
abbrev N3:Stmt:=top 71
abbrev EM:Stmt:=top 73
abbrev Jq:Stmt:=top 74
abbrev KH:Stmt:=top 75
abbrev MH:Stmt:=top 76
abbrev Jh:Stmt:=top 79
abbrev MG:Stmt:=top 80
abbrev KP:Stmt:=top 81
abbrev K9:Stmt:=top 83
abbrev Ka:Stmt:=top 84
abbrev Ic:Stmt:=top 85
abbrev RZ:Stmt:=top 86
def P7{n:String}:Cr (.ty n)≠.none:=fun z=>nomatch z
def mulC{i j:Int}(h1:-18446744073709551616<j)(g:j<18446744073709551616):Sk i j\/PQ i j:=.inl (.inr ⟨h1,g⟩)
def mulL{i j:Int}(h1:-18446744073709551616<i)(g:i<18446744073709551616):Sk i j\/PQ i j:=.inl (.inl ⟨h1,g⟩)
def Qx:Sp:=fun vs H Q _=>∃a b,vs=[.int a,.int b]/\Q (.int (FM.gi a b)) H
def Sn:Sp:=fun vs H Q _=>∃t b m,vs=[.int t,.int b]/\b≠0/\m<=9000/\b.natAbs<2^m/\∀l H',AK H H'->H' l=some (.tup (IX (Rat.divInt t b)))->Q (.ref l) H'
section
variable{P:F0b}{w:F0c}{K:Fg}{mg:tm}{base:Heap}{f g:AD}{fd gd:F0a}
def Nu:Ab ["one","other","greater","lesser","rest"] ["one","other"] (AQ C7):=Be
def tJ(σ:St):Nat:=match σ[3]? with|some (some (V.int l))=>l.natAbs|_=>0
def Nt(F:Fn K mg "greatest_divisor" C7 ["one","other"] f fd)(R:mg "abs" = none):AH P w K mg base Aa 1 f fd ["one","other"] Qx:=by
 have sc:=Nu;refine F.F.ok (k:=0) sc BY (fun cdv A outer s H vs Q E Z h=>?_)
 .obtain⟨a,b,rfl,_⟩:=h
  rfl
 obtain⟨a,b,rfl,q⟩:=h;refine⟨_,(AG (AX (i:=2) sc.nd rfl AT (Ar Qs rfl R PyProof.Rows.boot_abs (AA FS AB)))
 (AG (AX (i:=3) sc.nd rfl AT (Ar Qs rfl R PyProof.Rows.boot_abs (AA Fa AB)))
 (AG (K7 aM (BM Ks (pv 3) AJ (Ap _))
  (AG (AX (i:=4) sc.nd rfl AT (Ae Mg IN (pv 3)))
  (AG (AX (i:=2) sc.nd rfl AT (pv 3))
  (AL (AX (i:=3) sc.nd rfl AT (pv 4))))))
 (AL (Aj IN))))),?_⟩
 refine⟨_,rfl,_,rfl,_,rfl,_,rfl,?_⟩;refine LW (fun σ H'=>∃g l r,σ=[some (.int a),some (.int b),some (.int g),some (.int l),r]/\H=H'/\Int.gcd g l=Int.gcd a b/\0<=g/\0<=l) (fun σ _=>tJ σ) ?_ ?_ ?_
 .exact⟨_,_,_,rfl,rfl,FM.jT a b,FM.abs_nonneg a,FM.abs_nonneg b⟩
 .rintro σ H' ⟨g,l,r,rfl,rfl,hg,h0,M⟩;refine⟨_,rfl,rfl,_,rfl,Bq (fun c=>?_) (fun c=>?_)⟩
  .have I:l≠0:=fun z=>by subst z;simp at c
   refine⟨_,rfl,_,rfl,_,_,rfl,rfl,I,_,rfl,_,rfl,⟨_,_,_,rfl,rfl,?_,M,FM.fmod_nonneg I M⟩,?_⟩
   .rw[FM.Vu];exact hg
   .exact FM.UK g l I
  .have I:l=0:=by simpa using c
   subst I;refine⟨_,rfl,?_⟩;rw[FM.kY hg h0];exact q
 .exact fun σ H Q Q' U ⟨v,e,s,k,Y,q⟩=>⟨v,e,s,k,Y,U _ _ q⟩
def Sj:Ab ["top","bottom","shared"] ["top","bottom"] (AQ F4):=Be
def Sz(F:Fn K mg "fraction_of" F4 ["top","bottom"] f fd)(A8:Fn K mg "greatest_divisor" C7 ["one","other"] g gd) (CZ:AH P w K mg base Aa 1 g gd ["one","other"] Qx):AH P w K mg base Aa 2 f fd ["top","bottom"] Sn:=by
 have sc:=Sj;refine F.F.ok (k:=1) sc BY (fun cdv A outer s H vs Q E Y h=>?_)
 .obtain⟨t,b,m,rfl,_⟩:=h
  rfl
 obtain⟨t,b,m,rfl,hb,hm,U,q⟩:=h;refine⟨_,(AG (B5 (BM K0 Fa AJ (Ap _))
  (AL NV)
  BL)
 (AG (AX (i:=2) sc.nd rfl AT (AZ A8 CZ Y rfl (AA FS (AA Fa AB))))
 (AG (B5 (BM ND Fa AJ (Ap _))
  (AL (AX (i:=2) sc.nd rfl AT (Ux Rn IN)))
  BL)
 (AL (Aj (Eh (AA (Ae Dl FS IN) (AA (Ae Dl Fa IN) AB)))))))),?_⟩
 refine⟨_,rfl,rfl,_,rfl,Bq (fun c=>absurd c (by simpa using hb)) (fun _=>?_)⟩;refine⟨_,rfl,_,rfl,t,b,rfl,?_⟩
 try dsimp only[EJ]
 refine Jf (fun I H'=>I=[some (.int t),some (.int b),some (.int (FM.gs t b))]/\H=H') (fun nx hn=>?_) ?_
 .refine⟨_,rfl,_,_,rfl,rfl,_,rfl,Bq (fun c=>?_) (fun c=>?_)⟩
  .have M:b<0:=ae c;refine⟨_,rfl,_,rfl,hn _ _ ⟨?_,rfl⟩⟩;unfold FM.gs;rw[if_pos M]
   rfl
  .have M:¬b<0:=az (aZ.mpr c);refine hn _ _ ⟨?_,rfl⟩;unfold FM.gs;rw[if_neg M]
   rfl
 .rintro I H' ⟨rfl,rfl⟩;have h0:FM.gs t b≠0:=FM.iM hb;have R:(FM.gs t b).natAbs<2^m:=aJ (FM.ik hb) U;refine⟨_,rfl,_,rfl,_,_,rfl,rfl,⟨h0,m,hm,R⟩,_,rfl,_,rfl,_,_,rfl,rfl,⟨h0,m,hm,R⟩,di,fun p Z=>?_⟩;refine q p _ (AO Z _) ?_;rw[AM];show some (HO.tup [V.int (t.fdiv (FM.gs t b)),V.int (b.fdiv (FM.gs t b))])=_;rw[FM.cn hb,FM.dP hb]
  rfl
end
def WI:Sp:=fun vs H Q _=>∃(l:AD) (x n:Int),vs=[.ref l,.int n]/\H l=some (.lst [.int x])/\0<n/\n<2^64/\∀r y:Int,0<=r->r<n->Q (.int r) (upd H l (.lst [.int y]))
def PB(K:Fg):Sp:=fun vs H Q _=>∃(a:AD) (ns:List Int) (k:Int),vs=[.ref a,.int k]/\AU K H a (ns.map V.int)/\0<=k/\k<1000/\∀x:Int,Q (.int x) H
def SY:Sp:=fun vs H Q _=>∃(l:AD) (x:Int),vs=[.ref l]/\H l=some (.lst [.int x])/\∀(p:AD) (r:Rat) (y:Int) (H':Hp),AK (upd H l (.lst [.int y])) H'->H' p=some (.tup (IX r))->r.num.natAbs<=6->r.den<=6->Q (.ref p) H'
def Z5:∀i,i<13->∀j,j<6->(Rat.divInt ((i:Nat)-6:Int) (1+(j:Nat):Int)).num.natAbs<=6/\(Rat.divInt ((i:Nat)-6:Int) (1+(j:Nat):Int)).den<=6:=by decide +kernel
def XD{i j:Int}(h1:0<=i)(M:i<13)(g:0<=j)(I:j<6):(Rat.divInt (i-6) (1+j)).num.natAbs<=6/\(Rat.divInt (i-6) (1+j)).den<=6:=by
 have:=Z5 i.toNat AC j.toNat AC
 rwa [Int.toNat_of_nonneg h1,Int.toNat_of_nonneg g]at this
section
variable{P:F0b}{w:F0c}{K:Fg}{mg:tm}{base:Heap}{f g g1 g2:AD}{fd gd gd1 gd2:F0a}
def WT:Ab ["_law_pile","_law_size","_law_digit"] ["_law_pile","_law_size"] (AQ Jq):=Be
def Vh(F:Fn K mg "_law_take" Jq ["_law_pile","_law_size"] f fd):AH P w K mg base Aa 1 f fd ["_law_pile","_law_size"] WI:=by
 have sc:=WT;refine F.F.ok (k:=0) sc BY (fun cdv A outer s H vs Q E M h=>?_)
 .obtain⟨l,x,n,rfl,_⟩:=h
  rfl
 obtain⟨l,x,n,rfl,I,h0,R,q⟩:=h;refine⟨_,(AG (AX (i:=2) sc.nd rfl AT (Ae Mg (Ao IC FS AJ By) Fa))
 (AG (Vr (Ae Dl (Ao IC FS AJ By) Fa) (cq FS AJ set_list))
 (AL (Aj IN)))),?_⟩
 refine⟨_,rfl,_,_,_,_,rfl,rfl,AU.of I,rfl,_,rfl,_,_,rfl,rfl,(by show n≠0;lia),?_⟩;refine⟨_,rfl,_,_,_,_,rfl,rfl,AU.of I,rfl,_,rfl,_,_,rfl,rfl,⟨by lia,64,by decide,by lia⟩,_,rfl,l,_,_,0,rfl,rfl,I,rfl,_,rfl,?_⟩;exact q _ _ (Int.fmod_nonneg_of_pos x h0) (Int.fmod_lt_of_pos x h0)
def Se:Ab ["_law_one","_law_other"] ["_law_one","_law_other"] (AQ KH):=Be
def tQ(σ:St):Nat:=match σ[1]? with|some (some (V.int l))=>l.natAbs|_=>0
def TJ(F:Fn K mg "_law_shared" KH ["_law_one","_law_other"] f fd)(U:mg "abs" = none):AH P w K mg base Aa 1 f fd ["_law_one","_law_other"] Qx:=by
 have sc:=Se;refine F.F.ok (k:=0) sc BY (fun cdv A outer s H vs Q E Y h=>?_)
 .obtain⟨a,b,rfl,_⟩:=h
  rfl
 obtain⟨a,b,rfl,q⟩:=h;refine⟨_,(AG (K7 aM (BM Ks Fa AJ (Ap _))
  (AL (kT (i:=0) (j:=1) rfl sc.nd rfl rfl AS rfl rfl (AA Fa (AA (Ae Mg FS Fa) AB)) rfl)))
 (AL (Aj (Ar Qs rfl U PyProof.Rows.boot_abs (AA FS AB))))),?_⟩
 refine LW (fun σ H'=>∃g l,σ=[some (.int g),some (.int l)]/\H=H'/\Int.gcd g l=Int.gcd a b) (fun σ _=>tQ σ) ⟨_,_,rfl,rfl,rfl⟩ ?_ ?_
 .rintro σ H' ⟨g,l,rfl,rfl,hg⟩;refine⟨_,rfl,rfl,_,rfl,Bq (fun c=>?_) (fun c=>?_)⟩
  .have I:l≠0:=fun z=>by subst z;simp at c
   refine⟨_,rfl,_,rfl,_,rfl,_,_,rfl,rfl,I,_,_,rfl,⟨_,_,rfl,rfl,?_⟩,?_⟩
   .rw[FM.Vu];exact hg
   .exact FM.UK g l I
  .have I:l=0:=by simpa using c
   subst I;refine⟨_,rfl,_,rfl,?_⟩;rw[FM.jw hg];exact q
 .exact fun σ H Q Z M ⟨v,e,s,k,R,q⟩=>⟨v,e,s,k,R,M _ _ q⟩
def Wv:Ab ["_law_top","_law_bottom","_law_by_here"] ["_law_top","_law_bottom"] (AQ MH):=Be
def Vg(F:Fn K mg "_law_frac" MH ["_law_top","_law_bottom"] f fd)(Hf:Fn K mg "_law_shared" KH ["_law_one","_law_other"] g gd) (Uc:AH P w K mg base Aa 1 g gd ["_law_one","_law_other"] Qx):AH P w K mg base Aa 2 f fd ["_law_top","_law_bottom"] Sn:=by
 have sc:=Wv;refine F.F.ok (k:=1) sc BY (fun cdv A outer s H vs Q E Y h=>?_)
 .obtain⟨t,b,m,rfl,_⟩:=h
  rfl
 obtain⟨t,b,m,rfl,hb,hm,U,q⟩:=h;refine⟨_,(AG (AX (i:=2) sc.nd rfl AT (AZ Hf Uc Y rfl (AA FS (AA Fa AB))))
 (AG (B5 (BM ND Fa AJ (Ap _))
  (AL (AX (i:=2) sc.nd rfl AT (Ae HQ AJ IN)))
  BL)
 (AL (Aj (Eh (AA (Ae Dl FS IN) (AA (Ae Dl Fa IN) AB))))))),?_⟩
 refine⟨_,rfl,_,rfl,t,b,rfl,?_⟩
 try dsimp only[EJ]
 refine Jf (fun I H'=>I=[some (.int t),some (.int b),some (.int (FM.gs t b))]/\H=H') (fun nx hn=>?_) ?_
 .refine⟨_,rfl,_,_,rfl,rfl,_,rfl,Bq (fun c=>?_) (fun c=>?_)⟩
  .have M:b<0:=ae c;refine⟨_,rfl,_,_,rfl,rfl,hn _ _ ⟨?_,rfl⟩⟩;show [some (V.int t),some (V.int b),some (V.int (0-FM.gi t b))]=_;unfold FM.gs;rw[if_pos M,Int.zero_sub]
  .have M:¬b<0:=az (aZ.mpr c);refine hn _ _ ⟨?_,rfl⟩;unfold FM.gs;rw[if_neg M]
   rfl
 .rintro I H' ⟨rfl,rfl⟩;have h0:FM.gs t b≠0:=FM.iM hb;have R:(FM.gs t b).natAbs<2^m:=aJ (FM.ik hb) U;refine⟨_,rfl,_,rfl,_,_,rfl,rfl,⟨h0,m,hm,R⟩,_,rfl,_,rfl,_,_,rfl,rfl,⟨h0,m,hm,R⟩,di,fun p Z=>?_⟩;refine q p _ (AO Z _) ?_;rw[AM];show some (HO.tup [V.int (t.fdiv (FM.gs t b)),V.int (b.fdiv (FM.gs t b))])=_;rw[FM.cn hb,FM.dP hb]
  rfl
def Vf:Ab ["_law_script","_law_k","_law_cell_here","_law_number","_law_found","_law_turn"] ["_law_script","_law_k"] (AQ EM):=Be
def Vp(F:Fn K mg "_law_cell" EM ["_law_script","_law_k"] f fd)(A9:mg "len" = none)(A3:mg "range" = none):AH P w K mg base Aa 1 f fd ["_law_script","_law_k"] (PB K):=by
 have sc:=Vf;refine F.F.ok (k:=0) sc BY As
 .obtain⟨a,ns,k,rfl,_⟩:=h
  rfl
 obtain⟨a,ns,k,rfl,Y,h0,hk,q⟩:=h;refine⟨_,(AG (AX (i:=2) sc.nd rfl AT AJ)
 (AG (B5 (BM ND Fa (Ar BZ rfl A9 af (AA FS AB)) (Ap _))
  (AL (AX (i:=2) sc.nd rfl AT (Ao IC FS Fa By)))
  BL)
 (AG (B5 (BM ZM IN (Ae Rq AJ AJ) (Ap _))
  (AL (Aj (Ae Me (Ae HQ IN (Ae Rq AJ AJ)) (Ae Rq AJ AJ))))
  BL)
 (AG (AX (i:=3) sc.nd rfl AT (Ae Me (Ae Cf (Ae Cf (Ae BD IN AJ) (Ae BD Fa AJ)) AJ) AJ))
 (AG (AX (i:=4) sc.nd rfl AT AJ)
 (AG (Bg aM rfl (C4 rfl A3 (AA AJ AB)) (An (i:=5) sc.nd rfl AT)
  (AG (AX (i:=3) sc.nd rfl AT (Ae Me (Ae Cf (Ae Cf (Ae BD (pv 3) (pv 3)) (Ae BD AJ (pv 5))) AJ) AJ))
  (AL (AX (i:=4) sc.nd rfl AT (Ae Cf (Ae BD (pv 4) AJ) (Ae Me (Ae BD (pv 3) (pv 3)) AJ))))))
 (AL (Aj (pv 4))))))))),?_⟩
 try dsimp only[EJ]
 refine Jf (fun I H'=>∃c:Int,I=[some (.ref a),some (.int k),some (.int c),none,none,none]/\H=H') (fun nx hn=>?_) ?_
 .exact hn _ _ ⟨0,rfl,rfl⟩
 rintro _ _ ⟨_,rfl,rfl⟩
 try dsimp only[EJ]
 refine Jf (fun I H'=>∃c:Int,I=[some (.ref a),some (.int k),some (.int c),none,none,none]/\H=H') (fun nx hn=>?_) ?_
 .refine⟨_,rfl,_,rfl,a,_,rfl,.inl Y,_,_,rfl,rfl,_,rfl,Bq (fun c=>?_) (fun c=>?_)⟩
  .have c':k<(((ns.map V.int).length:Nat):Int):=ae c;rw[(Ah)]at c';have hk:k.toNat<ns.length:=by lia
   have R:Fe (ns.map V.int) k=some (.int ns[k.toNat]):=by
    have z:=FZ (xs:=ns.map V.int) (j:=k.toNat) (v:=.int ns[k.toNat]) (by rw[(BC),List.getElem?_eq_getElem hk];rfl)
    rwa [show((k.toNat:Nat):Int)=k by lia]at z
   exact⟨_,rfl,_,rfl,a,_,_,_,rfl,rfl,Y,R,hn _ _ ⟨_,rfl,rfl⟩⟩
  .exact hn _ _ ⟨_,rfl,rfl⟩
 rintro _ _ ⟨c,rfl,rfl⟩;refine⟨_,rfl,_,_,rfl,rfl,⟨by decide,by decide,by decide⟩,_,_,rfl,rfl,_,rfl,Bq (fun _=>?_) (fun _=>?_)⟩
 .exact⟨_,rfl,_,_,rfl,rfl,⟨by decide,by decide,by decide⟩,_,_,rfl,rfl,_,_,rfl,rfl,⟨by decide,by decide,by decide⟩,_,_,rfl,rfl,(by show(0:Int)<10^60;decide),q _⟩
 .refine⟨_,rfl,_,_,rfl,rfl,mulC AS AS,_,rfl,_,_,rfl,rfl,mulC AS AS,_,_,rfl,rfl,_,_,rfl,rfl,_,_,rfl,rfl,(by show(0:Int)<2147483629;decide),?_⟩;have z0:0<=(c*48271+k*69621+11) % 2147483629:=Int.emod_nonneg _ AS;have Z:(c*48271+k*69621+11) % 2147483629<2147483629:=Int.emod_lt_of_pos _ AS;refine⟨8,rfl,by decide,by decide,GY (n:=8) (fun _ σ H'=>∃(m U:Int) (M:Option V),σ=[some (.ref a),some (.int k),some (.int c),some (.int m),some (.int U),M]/\0<=m/\m<2147483629/\H=H') ⟨(c*48271+k*69621+11) % 2147483629,0,none,rfl,z0,Z,rfl⟩ ?_ ?_⟩
  .rintro i σ H' hi ⟨m,U,M,rfl,m0,m1,rfl⟩;refine⟨_,rfl,_,rfl,_,_,rfl,rfl,mulC AC AC,_,rfl,_,_,rfl,rfl,mulL AS AS,_,_,rfl,rfl,_,_,rfl,rfl,_,_,rfl,rfl,(by show(0:Int)<2147483587;decide),?_⟩;have y0:0<=(m*m+69621*(0+(i:Nat))+7) % 2147483587:=Int.emod_nonneg _ AS;have y1:(m*m+69621*(0+(i:Nat))+7) % 2147483587<2147483587:=Int.emod_lt_of_pos _ AS;exact⟨_,rfl,_,_,rfl,rfl,mulC AS AS,_,rfl,_,rfl,((m*m+69621*(0+(i:Nat))+7) % 2147483587:Int),((m*m+69621*(0+(i:Nat))+7) % 2147483587:Int),rfl,rfl,mulC AC AC,_,_,rfl,rfl,(by show(0:Int)<2147483563;decide),_,_,rfl,rfl,_,_,_,rfl,y0,by lia,rfl⟩
  .rintro σ H' ⟨m,U,M,rfl,m0,m1,rfl⟩;exact⟨_,rfl,q _⟩
def Wt:Ab ["_law_pile","_law_top"] ["_law_pile"] (AQ Jh):=Be
def WH(F:Fn K mg "_law_part" Jh ["_law_pile"] f fd)(U:Fn K mg "_law_take" Jq ["_law_pile","_law_size"] g1 gd1)(Jp:Fn K mg "_law_frac" MH ["_law_top","_law_bottom"] g2 gd2) (R:AH P w K mg base Aa 2 g1 gd1 ["_law_pile","_law_size"] WI)(XG:AH P w K mg base Aa 2 g2 gd2 ["_law_top","_law_bottom"] Sn):AH P w K mg base Aa 3 f fd ["_law_pile"] SY:=by
 have sc:=Wt;refine F.F.ok (k:=2) sc BY (fun cdv A outer s H vs Q E M h=>?_)
 .obtain⟨l,x,rfl,_⟩:=h
  rfl
 obtain⟨l,x,rfl,hl,q⟩:=h;refine⟨_,(AG (AX (i:=1) sc.nd rfl AT (Ae HQ (AZ U R M rfl (AA FS (AA AJ AB))) AJ))
 (AL (Aj (AZ Jp XG M rfl (AA Fa (AA (Ae Cf AJ (AZ U R M rfl (AA FS (AA AJ AB)))) AB)))))),?_⟩
 refine⟨_,rfl,l,x,13,rfl,hl,by decide,by decide,fun i y i0 i1=>⟨_,_,rfl,rfl,?_⟩⟩;refine⟨_,rfl,_,rfl,l,y,6,rfl,AM,by decide,by decide,fun j z Z Y=>⟨_,_,rfl,rfl,?_⟩⟩;have hd:=XD i0 i1 Z Y;refine⟨i-6,1+j,8,rfl,by lia,by decide,by lia,fun p H' e hp=>?_⟩;refine q p _ z H' (fun b o hb=>e _ _ ?_) hp hd.1 hd.2;by_cases I:b=l
 .subst I;rw[AM]at hb ⊢;exact hb
 .rw[AN I]at hb;rw[AN I,AN I];exact hb
end
def i8:Sp:=fun vs H Q _=>∃(a:AD) (bs:List Int) (k:Nat),vs=[.ref a]/\H a=some (.lst (bs.map V.int))/\(∀b∈bs,1<=b/\b.natAbs<2^k)/\k*bs.length<=4000 /\
 ∀c:Int,1<=c->c.natAbs<2^(k*bs.length+1)->(∀b∈bs,b ∣ c)->Q (.int c) H
def NF{c b:Int}(R:1<=c)(hb:1<=b):1<=c.fdiv (FM.gi c b)*b/\c ∣ c.fdiv (FM.gi c b)*b/\b ∣ c.fdiv (FM.gi c b)*b/\(c.fdiv (FM.gi c b)).natAbs<=c.natAbs:=by
 have hg:0<FM.gi c b:=FM.LZ AC;obtain⟨q,M⟩:=FM.MF c b;obtain⟨r,g⟩:=FM.OA c b;have e:=FM.Fz (Int.ne_of_gt hg) M;refine⟨?_,?_,Int.dvd_mul_left _ _,FM.Az _ _⟩
 .rw[e];have I:0<q:=by
   rcases Int.lt_or_le 0 q with h|h
   .exact h
   .have:=Int.mul_nonpos_of_nonneg_of_nonpos (Int.le_of_lt hg) h
    lia
  exact Int.mul_pos I AC
 .rw[e];refine⟨r,?_⟩;rw[g]
  conv=>rhs;rw[M]
  rw[<-g,Int.mul_comm (FM.gi c b) q,Int.mul_assoc,Int.mul_comm (FM.gi c b) r]
  conv=>lhs;rw[g]
  rw[Int.mul_comm (FM.gi c b) r]
def div_add(x y:Int){c:Int}(g:c≠0):Rat.divInt (x+y) c=Rat.divInt x c+Rat.divInt y c:=by
 rw[Rat.divInt_add_divInt _ _ g g,<-Int.add_mul,Rat.divInt_mul_right g]
def div_one{t b c:Int}(hb:b≠0)(g:c≠0)(h:b ∣ c):Rat.divInt (t*c.fdiv b) c=Rat.divInt t b:=by
 obtain⟨q,rfl⟩:=h;rw[FM.Fz hb rfl,Rat.divInt_mul_right (fun z=>g (by rw[z,Int.mul_zero]))]
theorem YQ{c:Int}(g:c≠0):∀ {ps:List (Int×Int)},(∀p∈ps,p.2≠0/\p.2 ∣ c)->Rat.divInt (ps.map fun p=>p.1*c.fdiv p.2).sum c=(ps.map fun p=>Rat.divInt p.1 p.2).sum
 |[],_=>by simp
 |p::ps,h=>by
  obtain⟨R,M⟩:=h p aR;rw[(C0),(KG),(C0),(KG),div_add _ _ g,div_one R g M,YQ g fun q I=>h q (aN _ I)]
def U3:Sp:=fun vs H Q _=>∃(b:Int) (p k:Nat),vs=[.int b,.int p]/\b.natAbs<2^k/\k*p<=4000/\Q (.int (b^p)) H
def Dc{b:Int}{k e p:Nat}(hb:b.natAbs<2^k)(I:e<=p):(b^e).natAbs<2^(k*p+1):=by
 rw[Int.natAbs_pow];have g:b.natAbs^e<=(2^k)^e:=Nat.pow_le_pow_left (ba hb) e;rw[<-Nat.pow_mul]at g;exact aJ g (Nat.pow_lt_pow_right AS (Nat.lt_succ_of_le (aT k I)))
def sj(σ:St):Nat:=match σ[4]? with|some (some (V.int l))=>l.natAbs|_=>0
section
variable{P:F0b}{w:F0c}{K:Fg}{mg:tm}{base:Heap}{f g:AD}{fd gd:F0a}
def LK:Ab ["bottoms","common","bottom"] ["bottoms"] (AQ Cm):=Be
def Qo(F:Fn K mg "common_bottom" Cm ["bottoms"] f fd)(A8:Fn K mg "greatest_divisor" C7 ["one","other"] g gd) (CZ:AH P w K mg base Aa 1 g gd ["one","other"] Qx):AH P w K mg base Aa 2 f fd ["bottoms"] i8:=by
 have sc:=LK;refine F.F.ok (k:=1) sc BY As
 .obtain⟨a,bs,k,rfl,_⟩:=h
  rfl
 obtain⟨a,bs,k,rfl,ha,hb,hk,q⟩:=h;refine⟨_,(AG (AX (i:=1) sc.nd rfl AT AJ)
 (AG (Bg aM rfl (Av FS) (An (i:=2) sc.nd rfl AT)
  (AL (AX (i:=1) sc.nd rfl AT (Ae BD (Ae Dl Fa (AZ A8 CZ hr rfl (AA Fa (AA IN AB)))) IN))))
 (AL (Aj Fa)))),?_⟩
 refine⟨_,rfl,a,rfl,⟨_,AU.of ha⟩,CI (xs:=bs.map V.int) (fun i σ H'=>∃(c:Int) (r:Option V),σ=[some (.ref a),some (.int c),r]/\H=H'/\1<=c/\c.natAbs<2^(k*i+1)/\∀j b,j<i->bs[j]? = some b->b ∣ c) ?_ ?_ ?_ ?_⟩
 .exact⟨1,_,rfl,rfl,by decide,by simp,fun j b h=>absurd h (cD _)⟩
 .rintro i σ H' _ ⟨c,r,rfl,rfl,_⟩;exact AU.of ha
 .rintro i x σ H' U ⟨c,r,rfl,rfl,Z,R,M⟩;have hi:i<bs.length:=by have:=(aB.mp U).1;simpa using this
  rw[(BC),List.getElem?_eq_getElem hi]at U;cases U;obtain⟨b1,b2⟩:=hb _ (aq hi);obtain⟨s1,s2,s3,s4⟩:=NF Z b1;have hg:FM.gi c bs[i]≠0:=Int.ne_of_gt (FM.LZ AC);have hki:k*i+k<=4000:=by
   have:k*(i+1)<=k*bs.length:=aT k hi;rw[(Mu)]at this
   lia
  have n1:(c.fdiv (FM.gi c bs[i])).natAbs<2^(k*i+1):=aJ s4 R;refine⟨_,rfl,_,rfl,_,rfl,c,bs[i],rfl,_,_,rfl,rfl,⟨hg,k,by have:k*1<=k*bs.length:=aT k AC;lia,Nat.lt_of_le_of_lt (FM.ZP AC) b2⟩,_,rfl,_,_,rfl,rfl,D9 n1 b2 AC,_,_,rfl,rfl,s1,?_,fun j b Y I=>?_⟩
  .have:=FM.A6 n1 b2;rw[(Mu),show k*i+k+1=k*i+1+k by lia];exact this
  .by_cases z:j=i
   .subst z;rw[List.getElem?_eq_getElem hi]at I;cases I;exact s3
   .exact Int.dvd_trans (M j b AC I) s2
 .rintro σ H' ⟨c,r,rfl,rfl,Z,R,M⟩;rw[(Ah)]at R M;refine⟨_,rfl,q c Z R fun b hb=>?_⟩;obtain⟨j,Y⟩:=ah hb;exact M j b (aB.mp Y).1 Y
def UW:Ab ["some","bottom"] ["some"] (AQ LI):=Be
def Xe:Ab ["base","power","product","square","left"] ["base","power"] (AQ IW):=Be
def Xg(F:Fn K mg "power_of" IW ["base","power"] f fd):AH P w K mg base Aa 1 f fd ["base","power"] U3:=by
 have sc:=Xe;refine F.F.ok (k:=0) sc BY As
 .obtain⟨b,p,k,rfl,_⟩:=h
  rfl
 obtain⟨b,p,k,rfl,hb,hk,q⟩:=h;refine⟨_,(AG (AX (i:=2) sc.nd rfl AT AJ)
 (AG (AX (i:=3) sc.nd rfl AT FS)
 (AG (AX (i:=4) sc.nd rfl AT Fa)
 (AG (K7 aM (BM Ms (pv 4) AJ (Ap _))
  (AG (B5 (BM K0 (Ae Me (pv 4) AJ) AJ (Ap _))
   (AL (AX (i:=2) sc.nd rfl AT (Ae BD IN (pv 3))))
   BL)
  (AG (AX (i:=4) sc.nd rfl AT (Ae jq (pv 4) AJ))
  (AL (B5 (BM Ms (pv 4) AJ (Ap _))
   (AL (AX (i:=3) sc.nd rfl AT (Ae BD (pv 3) (pv 3))))
   BL)))))
 (AL (Aj IN)))))),?_⟩
 refine⟨_,rfl,_,rfl,?_⟩;refine LW (fun σ H'=>∃e f l:Nat,σ=[some (.int b),some (.int p),some (.int (b^e)),some (.int (b^f)),some (.int l)]/\H=H'/\e+f*l=p) (fun σ _=>sj σ) ?_ ?_ ?_
 .refine⟨0,1,p,?_,rfl,by lia⟩;rw[Int.pow_zero,Int.pow_succ,Int.pow_zero,Int.one_mul]
  rfl
 .rintro σ H' ⟨e,f,l,rfl,rfl,Z⟩;refine⟨_,rfl,_,_,rfl,rfl,_,rfl,Bq (fun c=>?_) (fun c=>?_)⟩
  .have hl:0<l:=by have:=ae c;lia
   have I:f<=p:=by
    have:f*1<=f*l:=aT f hl
    lia
   try dsimp only[EJ]
   refine Jf (fun U H'=>∃R:Nat,U=[some (.int b),some (.int p),some (.int (b^R)),some (.int (b^f)),some (.int l)]/\H=H'/\R+f*(2*(l / 2))=p) (fun nx Y=>?_) ?_
   .refine⟨_,rfl,_,_,rfl,rfl,(by show(0:Int)<2;decide),rfl,_,rfl,Bq (fun c=>?_) (fun c=>?_)⟩
    .have hodd:l % 2=1:=by
      have:((l:Int) % 2)=1:=by simpa using c
      lia
     refine⟨_,rfl,_,rfl,_,_,rfl,rfl,D9 (Dc hb (show e<=p by lia)) (Dc hb I) AC,Y _ _ ⟨e+f,?_,rfl,?_⟩⟩
     .show [some (V.int b),some (V.int p),some (V.int (b^e*b^f)),some (V.int (b^f)),some (V.int l)]=_;rw[<-Int.pow_add]
     .have:l=2*(l / 2)+1:=by lia
      rw[<-Z]
      conv=>rhs;rw[this,Nat.mul_add,Nat.mul_one]
      lia
    .have hev:l % 2=0:=by
      have:¬((l:Int) % 2)=1:=by simpa using c
      lia
     refine Y _ _ ⟨e,rfl,rfl,?_⟩;rw[show 2*(l / 2)=l by lia];exact Z
   .rintro U _ ⟨R,rfl,rfl,M⟩;refine⟨_,rfl,_,_,rfl,rfl,⟨by decide,by decide⟩,?_⟩;have el:((l:Int) / 2)=((l / 2:Nat):Int):=by lia
    refine⟨_,rfl,_,_,rfl,rfl,_,rfl,Bq (fun c=>?_) (fun c=>?_)⟩
    .refine⟨_,rfl,_,rfl,_,_,rfl,rfl,D9 (Dc hb I) (Dc hb I) AC,⟨R,f+f,l / 2,?_,rfl,?_⟩,?_⟩
     .show [some (V.int b),some (V.int p),some (V.int (b^R)),some (V.int (b^f*b^f)),some (V.int ((l:Int) / 2))]=_;rw[el,<-Int.pow_add]
     .rw[<-M,<-Nat.two_mul,Nat.mul_assoc,Nat.mul_left_comm]
     .show((l:Int) / 2).natAbs<((l:Nat):Int).natAbs
      lia
    .refine⟨⟨R,f,l / 2,?_,rfl,?_⟩,?_⟩
     .show [some (V.int b),some (V.int p),some (V.int (b^R)),some (V.int (b^f)),some (V.int ((l:Int) / 2))]=_;rw[el]
     .have:l / 2=0:=by have:=az (aZ.mpr c);lia
      rw[this]at M ⊢
      simpa using M
     .show((l:Int) / 2).natAbs<((l:Nat):Int).natAbs
      lia
  .have hl:l=0:=by have:=az (aZ.mpr c);lia
   subst hl;rw[Nat.mul_zero,Nat.add_zero]at Z;subst Z;exact⟨_,rfl,q⟩
 .exact fun σ H Q Q' hq ⟨v,e,s,k,e2,e3,e4,q1,q2⟩=>⟨v,e,s,k,e2,e3,e4,q1,hq _ _ q2⟩
end
theorem X7{l:AD}{H:Hp}:∀ {ds:List PD} {xs:IR} (i:Nat),AW l H ds xs->AW l H (ds.drop i) (xs.drop i)
 |ds,xs,0,h=>h
 |[],xs,i+1,h=>by rw[AW]at h;subst h;exact .nil
 |d::ds,xs,i+1,h=>by
  rw[AW]at h;obtain⟨x,r,rfl,_,g⟩:=h;exact X7 i g
mutual
theorem eW{l p:AD}{H:Hp}(I:H p=none):∀ {d:PD} {v:V},Dt l H d v->Dt p H d v
 |.none,_,h=>by rw[Dt]at h ⊢;exact h
 |.bool _,_,h=>by rw[Dt]at h ⊢;exact h
 |.int _,_,h=>by rw[Dt]at h ⊢;exact h
 |.str _,_,h=>by rw[Dt]at h ⊢;exact h
 |.tuple _,_,h=>by
  rw[Dt]at h ⊢;obtain⟨a,xs,R,n,g,M⟩:=h;exact⟨a,xs,R,AR g I,g,HP I M⟩
 |.list _,_,h=>by
  rw[Dt]at h ⊢;obtain⟨a,xs,R,n,g,M⟩:=h;exact⟨a,xs,R,AR g I,g,HP I M⟩
 |.dict _,_,h=>by rw[Dt]at h;exact h.elim
theorem HP{l p:AD}{H:Hp}(g:H p=none):∀ {ds:List PD} {xs:IR},AW l H ds xs->AW p H ds xs
 |[],_,h=>by rw[AW]at h ⊢;exact h
 |_::_,_,h=>by
  rw[AW]at h ⊢;obtain⟨x,r,R,M,I⟩:=h;exact⟨x,r,R,eW g M,HP g I⟩
end
def DU(H:Hp)(d:PD)(v:V):Prop:=∃N:Nat,∀l,N<=l->Dt l H d v
def Aq(H:Hp)(ds:tZ)(xs:uD):Prop:=∃N:Nat,∀l,N<=l->AW l H ds xs
def DU.same{H H':Hp}{d:PD}{v:V}(h:DU H d v)(e:AK H H'):DU H' d v:=let⟨N,k⟩:=h;⟨N,fun l g=>(k l g).same e⟩
def Aq.same{H H':Hp}{d:tZ}{v:uD}(h:Aq H d v)(e:AK H H'):Aq H' d v:=let⟨N,k⟩:=h;⟨N,fun l g=>(k l g).same e⟩
def DU.int{H:Hp}{i:Int}:DU H (.int i) (.int i):=⟨0,fun _ _=>.int⟩
def DU.bool{H:Hp}{i:Bool}:DU H (.bool i) (.bl i):=⟨0,fun _ _=>.bool⟩
def DU.Bj{H:Hp}:DU H .none .Bj:=⟨0,fun _ _=>.Bj⟩
def DU.str{H:Hp}{x:Str}:DU H (.str x) (.str x):=⟨0,fun _ _=>.str⟩
def Aq.nil{H:Hp}:Aq H [] []:=⟨0,fun _ _=>.nil⟩
def Aq.cons{H:Hp}{d:PD}{ds:tZ}{x:V}{xs:uD}(h:DU H d x)(k:Aq H ds xs):Aq H (d::ds) (x::xs) :=
 let⟨N,a⟩:=h;let⟨M,b⟩:=k;⟨max N M,fun l g=>.cons (a l AC) (b l AC)⟩
def Aq.app{H:Hp}{ds es:tZ}{xs ys:uD}(h:Aq H ds xs)(k:Aq H es ys):Aq H (ds++es) (xs++ys) :=
 let⟨N,a⟩:=h;let⟨M,b⟩:=k;⟨max N M,fun l g=>(a l AC).app (b l AC)⟩
def Aq.drop{H:Hp}{ds:tZ}{xs:uD}(i:Nat)(h:Aq H ds xs):Aq H (ds.drop i) (xs.drop i):=let⟨N,a⟩:=h;⟨N,fun l g=>X7 i (a l g)⟩
def Aq.len{H:Hp}{ds:tZ}{xs:uD}(h:Aq H ds xs):xs.length=ds.length:=let⟨N,a⟩:=h;(a N (aH _)).len
def Aq.get{H:Hp}{ds:tZ}{xs:uD}{i:Nat}{d:PD}(h:Aq H ds xs)(e:ds[i]? = some d):∃v,xs[i]? = some v/\DU H d v:=by
 have g:=h.len;have hi:i<xs.length:=by rw[g];exact(aB.mp e).1
 have I:xs[i]? = some xs[i]:=by simp[hi]
 obtain⟨N,a⟩:=h;refine⟨xs[i],I,N,fun l g=>?_⟩;obtain⟨U,M,R⟩:=(a l g).get I;rw[e]at M;cases M;exact R
def DU.lst{H:Hp}{a:AD}{ds:tZ}{xs:uD}(h:H a=some (.lst xs))(k:Aq H ds xs):DU H (.list ds) (.ref a) :=
 let⟨N,b⟩:=k;⟨max N (a+1),fun l g=>.lst (aP (show a<l from aK (Nat.lt_succ_self a) (aS (Nat.le_max_right _ _) g))) h (b l AC)⟩
def DU.tup{H:Hp}{a:AD}{ds:tZ}{xs:uD}(h:H a=some (.tup xs))(k:Aq H ds xs):DU H (.tuple ds) (.ref a) :=
 let⟨N,b⟩:=k;⟨max N (a+1),fun l g=>.tup (aP (show a<l from aK (Nat.lt_succ_self a) (aS (Nat.le_max_right _ _) g))) h (b l AC)⟩
def DU.Ju{H:Hp}{ds:tZ}{v:V}(h:DU H (.list ds) v):∃a xs,v=.ref a/\H a=some (.lst xs)/\Aq H ds xs:=by
 obtain⟨N,b⟩:=h;have h0:=b N (aH _);rw[Dt]at h0;obtain⟨a,xs,rfl,_,ha,_⟩:=h0;refine⟨a,xs,rfl,ha,N,fun l U=>?_⟩;have M:=b l U;rw[Dt]at M;obtain⟨Y,R,e,_,g,I⟩:=M;cases e;rw[ha]at g;cases g;exact I
def DU.cw{H:Hp}{ds:tZ}{v:V}(h:DU H (.tuple ds) v):∃a xs,v=.ref a/\H a=some (.tup xs)/\Aq H ds xs:=by
 obtain⟨N,b⟩:=h;have h0:=b N (aH _);rw[Dt]at h0;obtain⟨a,xs,rfl,_,ha,_⟩:=h0;refine⟨a,xs,rfl,ha,N,fun l U=>?_⟩;have M:=b l U;rw[Dt]at M;obtain⟨Y,R,e,_,g,I⟩:=M;cases e;rw[ha]at g;cases g;exact I
def Aq.OC{H:Hp}{d e:PD}{xs:uD}(h:Aq H [d,e] xs):∃x y,xs=[x,y]/\DU H d x/\DU H e y:=by
 obtain⟨x,I,R⟩:=h.get (i:=0) rfl;obtain⟨y,g,M⟩:=h.get (i:=1) rfl;have:=h.len
 match xs,this with
 |[a,b],_=>
  simp at I g;subst I g;exact⟨a,b,rfl,R,M⟩
mutual
theorem qK{c:AD}{H:Hp}:∀ {d:PD} {v:V},Dt c H d v->DU H d v
 |.none,_,h=>by rw[Dt]at h;subst h;exact .Bj
 |.bool _,_,h=>by rw[Dt]at h;subst h;exact .bool
 |.int _,_,h=>by rw[Dt]at h;subst h;exact .int
 |.str _,_,h=>by rw[Dt]at h;subst h;exact .str
 |.tuple _,_,h=>by
  rw[Dt]at h;obtain⟨a,xs,rfl,n,I,g⟩:=h;exact .tup I (CT g)
 |.list _,_,h=>by
  rw[Dt]at h;obtain⟨a,xs,rfl,n,I,g⟩:=h;exact .lst I (CT g)
 |.dict _,_,h=>by rw[Dt]at h;exact h.elim
theorem CT{c:AD}{H:Hp}:∀ {ds:List PD} {xs:IR},AW c H ds xs->Aq H ds xs
 |[],_,h=>by rw[AW]at h;subst h;exact .nil
 |_::_,_,h=>by
  rw[AW]at h;obtain⟨x,r,rfl,I,g⟩:=h;exact .cons (qK I) (CT g)
end
def DU.ints{H:Hp}{ps:t6}{v:V}(h:DU H (.tuple (ps.map .int)) v):∃a,v=.ref a/\H a=some (.tup GT):=by
 obtain⟨a,xs,rfl,ha,M⟩:=h.cw;refine⟨a,rfl,?_⟩;rw[ha]
 congr 2
 obtain⟨N,b⟩:=M;have:=b N (aH _);clear b ha h
 induction ps generalizing xs with
 |nil=>rw[List.map_nil,AW]at this;exact this
 |cons p ps I=>
  rw[(C0),AW]at this;obtain⟨x,r,rfl,g,R⟩:=this;rw[Dt]at g;subst g;rw[(C0),I r R]
def Ei:PD->Bool
 |.tuple [.int a,.int b]=>decide (1<=b)&&(FM.gi a b==1)
 |_=>false
def QR{ds:tZ}(h:ds.length≠2\/∃I g,ds=[I,g]/\((Jv I && !IE I)=false\/(Jv g && !IE g)=false)):Ei (.tuple ds)=false:=by
 rcases h with h|⟨I,g,rfl,h⟩
 .match ds,h with
  |[],_=>rfl
  |[a],_=>cases a<;>rfl
  |[_,_],h=>exact absurd rfl h
  |a::b::_::_,_=>cases a<;>first|rfl|(cases b<;>rfl)
 .cases I<;>first|rfl|(cases g<;>first|rfl|(exfalso;rcases h with h|h<;>exact absurd h (by simp[Jv,IE])))
def Va:Sp:=fun vs H Q _=>∃l d v,vs=[v]/\Dt l H d v/\Q (.bl (Jv d && !IE d)) H
def W8:Sp:=fun vs H Q _=>∃l d v,vs=[v]/\Dt l H d v/\Q (.bl (Ei d)) H
def Oy{d:PD}(h:(Jv d && !IE d)=true):∃i,d=.int i:=by
 cases d<;>first|exact⟨_,rfl⟩|(exact absurd h (by simp[Jv,IE]))|(rename_i b;cases b<;>exact absurd h AS)
section
variable{P:F0b}{w:F0c}{K:Fg}{mg:tm}{base:Heap}{f g1 g2:AD}{fd gd1 gd2:F0a}
def XI:Ab FI FI (AQ Kv):=Be
def XZ(F:Fn K mg "is_whole" Kv FI f fd)(g:mg "isinstance" = none)(I:mg "int" = none)(M:mg "bool" = none):AH P w K mg base Aa 1 f fd FI Va:=by
 have sc:=XI;refine F.F.ok (k:=0) sc BY (fun cdv A outer s H vs Q E R h=>?_)
 .obtain⟨l,d,v,rfl,_⟩:=h
  rfl
 obtain⟨l,d,v,rfl,hd,q⟩:=h;refine⟨_,(AL (Aj (O1 (Ar FD rfl g aX (AA FS (AA (FX (v:=.ty "int") rfl I PyProof.Rows.boot_int rfl) AB))) (R6 (nG (Ar FD rfl g aX (AA FS (AA (FX (v:=.ty "bool") rfl M PyProof.Rows.boot_bool rfl) AB)))))))),?_⟩;refine⟨_,rfl,_,_,_,_,rfl,P7,hd.ty,eu K d hd.nodict,_,rfl,Bq (fun c=>⟨_,rfl,_,_,_,_,rfl,P7,hd.ty,cR K d hd.nodict,_,rfl,?_⟩) (fun c=>?_)⟩
 .rw[c,(Fo)]at q;exact q
 .rw[Bool.eq_false_iff.mpr c,(HF)]at q;exact q
def R9:Ab FI FI (AQ HZ):=Be
def Sx(F:Fn K mg "is_fraction" HZ FI f fd)(Ez:Fn K mg "is_whole" Kv FI g1 gd1)(A8:Fn K mg "greatest_divisor" C7 ["one","other"] g2 gd2) (Kq:AH P w K mg base Aa 1 g1 gd1 FI Va)(CZ:AH P w K mg base Aa 1 g2 gd2 ["one","other"] Qx)(AY:mg "isinstance" = none)(CA:mg "tuple" = none)(A9:mg "len" = none):AH P w K mg base Aa 2 f fd FI W8:=by
 have sc:=R9;refine F.F.ok (k:=1) sc BY As
 .obtain⟨l,d,v,rfl,_⟩:=h
  rfl
 obtain⟨l,d,v,rfl,hd,q⟩:=h;refine⟨_,(AG (B5 (PW.pt (Fv (C8 (C6 (Ar FD rfl AY aX (AA FS (AA (FX (v:=.ty "tuple") rfl CA bN rfl) AB))))) (Fb (BM Ks (Ar BZ rfl A9 af (AA FS AB)) AJ (Ap _)))))
  (AL (Aj Ds))
  BL)
 (AG (B5 (PW.pt (Fv (C8 (C6 (AZ Ez Kq hr rfl (AA (Ao A5 FS AJ By) AB)))) (Fb (C8 (C6 (AZ Ez Kq hr rfl (AA (Ao A5 FS AJ By) AB)))))))
  (AL (Aj Ds))
  BL)
 (AL (Aj (O1 (PN ZM (Ao A5 FS AJ By) AJ (Ap _)) (R6 (PN K0 (AZ A8 CZ hr rfl (AA (Ao A5 FS AJ By) (AA (Ao A5 FS AJ By) AB))) AJ (Ap _)))))))),?_⟩
 refine⟨_,rfl,_,_,_,_,rfl,P7,hd.ty,NT K d hd.nodict,_,rfl,?_⟩;have no:DJ d=false->Ei d=false:=fun z=>by cases d<;>first|rfl|exact absurd z (by simp[DJ])
 by_cases ht:DJ d=true
 .rw[ht];obtain⟨R,rfl⟩:∃R,d=.tuple R:=by cases d<;>first|exact⟨_,rfl⟩|exact absurd ht (by simp[DJ])
  rw[Dt]at hd;obtain⟨a,xs,rfl,na,ha,g⟩:=hd;have Z:=g.len;have s1:Al K H a xs:=Al.of ha;refine JS ⟨_,rfl,a,xs,rfl,.inr s1,rfl,_,rfl,Bq (fun c=>?_) (fun c=>?_)⟩
  .have:R.length≠2:=by
    rw[<-Z];intro z;rw[z]at c;exact absurd c AS
   rw[QR (.inl this)]at q;exact q
  .have h2:xs.length=2:=by
    by_cases z:xs.length=2
    .exact z
    .exfalso
     refine c ?_;have:¬(V.int (xs.length:Nat)=V.int 2):=by simp;lia
     rw[decide_eq_false this];rfl
   obtain⟨Y,U,rfl⟩:∃Y U,R=[Y,U]:=by
    match R,(show R.length=2 by lia) with
    |[x,y],_=>exact⟨x,y,rfl⟩
   rw[AW]at g;obtain⟨x0,r,rfl,M,g⟩:=g;rw[AW]at g;obtain⟨x1,r,rfl,I,g⟩:=g;rw[AW]at g;subst g;refine⟨_,rfl,_,_,_,_,rfl,rfl,s1,rfl,l,Y,x0,rfl,M,_,rfl,Bq (fun c0=>?_) (fun c0=>?_)⟩
   .rw[QR (.inr ⟨Y,U,rfl,.inl (by simp at c0;rcases c0 with c|c<;>simp[c])⟩)]at q;exact q
   refine⟨_,rfl,_,_,_,_,rfl,rfl,s1,rfl,l,U,x1,rfl,I,_,rfl,Bq (fun c1=>?_) (fun c1=>?_)⟩
   .rw[QR (.inr ⟨Y,U,rfl,.inr (by simp at c1;rcases c1 with c|c<;>simp[c])⟩)]at q;exact q
   obtain⟨i,rfl⟩:=Oy (d:=Y) (by simpa using c0);obtain⟨j,rfl⟩:=Oy (d:=U) (by simpa using c1);rw[Dt]at M I;subst M I;refine⟨_,rfl,_,_,_,_,rfl,rfl,s1,rfl,_,_,rfl,rfl,_,rfl,Bq (fun c=>?_) (fun c=>?_)⟩
   .refine⟨_,rfl,_,_,_,_,rfl,rfl,s1,rfl,_,rfl,_,_,_,_,rfl,rfl,s1,rfl,i,j,rfl,rfl,?_⟩;have hj:1<=j:=by have:=ae c;lia
    have e:Ei (.tuple [.int i,.int j])=decide (V.int (FM.gi i j)=V.int 1):=by
     rw[Ei,decide_eq_true hj,(Fo),(NI)];simp
    rw[e]at q;exact q
   .have hj:¬1<=j:=fun z=>c (bV AC);have e:Ei (.tuple [.int i,.int j])=false:=by rw[Ei,decide_eq_false hj,(HF)]
    rw[e]at q;exact q
 .rw[Bool.eq_false_iff.mpr ht];rw[no (aZ.mpr ht)]at q;exact Ba (Ba q)
end
def Bf:PD->Bool
 |.list g=>g.all Ei
 |_=>false
def Ja:PD->Nat
 |.list g=>g.length
 |_=>0
def rowAt(ds:tZ)(i:Nat):Bool:=match ds[i]? with
 |some d=>Bf d&&decide (Ja d=i)
 |none=>true
def MT(ds:tZ):Bool:=(List.range ds.length).all (rowAt ds)
def Dj:PD->Bool
 |.list g=>decide (1<=g.length)&&(decide (g.length<=40)&&MT g)
 |_=>false
def Cg:PD->Bool
 |.tuple [r,l]=>Dj r&&(Bf l&&decide (Ja l=Ja r))
 |_=>false
def cE{d:PD}(h:Co d=false):Bf d=false:=by cases d<;>first|rfl|exact absurd h (by simp[Co])
def XO{d:PD}(h:Co d=false):Dj d=false:=by cases d<;>first|rfl|exact absurd h (by simp[Co])
def dh{d:PD}(h:DJ d=false):Cg d=false:=by cases d<;>first|rfl|exact absurd h (by simp[DJ])
def YY{ds:tZ}(h:ds.length≠2):Cg (.tuple ds)=false:=by
 match ds,h with
 |[],_=>rfl
 |[_],_=>rfl
 |[_,_],h=>exact absurd rfl h
 |_::_::_::_,_=>rfl
def Hu{d:PD}(h:Co d=true):∃ds,d=.list ds:=by cases d<;>first|exact⟨_,rfl⟩|exact absurd h (by simp[Co])
def Qb{d:PD}(h:DJ d=true):∃ds,d=.tuple ds:=by cases d<;>first|exact⟨_,rfl⟩|exact absurd h (by simp[DJ])
def RX{d:PD}(h:Bf d=true):Co d=true:=by cases d<;>first|rfl|exact absurd h (by simp[Bf])
def Wn{d:PD}(h:Dj d=true):Co d=true:=by cases d<;>first|rfl|exact absurd h (by simp[Dj])
def Td{ds:tZ}(h:∀j,j<ds.length->rowAt ds j=true):MT ds=true:=by
 unfold MT;rw[(Ht)];intro j g;exact h j (bU.mp g)
def UQ{ds:tZ}{i:Nat}(hi:i<ds.length)(h:rowAt ds i=false):MT ds=false:=by
 refine aZ.mpr fun z=>?_;unfold MT at z;rw[(Ht)]at z;rw[z i (bU.mpr hi)]at h;cases h
def Nc{ds:tZ}{i:Nat}{d:PD}(h:ds[i]? = some d):rowAt ds i=(Bf d&&decide (Ja d=i)):=by unfold rowAt;rw[h]
def Pa:Sp:=fun vs H Q _=>∃l d v,vs=[v]/\Dt l H d v/\Q (.bl (Bf d)) H
def Zy:Sp:=fun vs H Q _=>∃l d v,vs=[v]/\Dt l H d v/\∀H',AK H H'->Q (.bl (Dj d)) H'
def YB:Sp:=fun vs H Q _=>∃l d v,vs=[v]/\Dt l H d v/\∀H',AK H H'->Q (.bl (Cg d)) H'
section
variable{P:F0b}{w:F0c}{K:Fg}{mg:tm}{base:Heap}{f g1 g2:AD}{fd gd1 gd2:F0a}
def Qg:Ab ["thing","part"] FI (AQ EB):=Be
def QN(F:Fn K mg "are_fractions" EB FI f fd)(EH:Fn K mg "is_fraction" HZ FI g1 gd1) (KU:AH P w K mg base Aa 2 g1 gd1 FI W8)(AY:mg "isinstance" = none)(F3:mg "list" = none):AH P w K mg base Aa 3 f fd FI Pa:=by
 have sc:=Qg;refine F.F.ok (k:=2) sc BY As
 .obtain⟨l,d,v,rfl,_⟩:=h
  rfl
 obtain⟨l,d,v,rfl,hd,q⟩:=h;refine⟨_,(AG (B5 (C8 (C6 (Ar FD rfl AY aX (AA FS (AA (FX (v:=.ty "list") rfl F3 PyProof.Rows.boot_list rfl) AB)))))
  (AL (Aj Ds))
  BL)
 (AG (Bg aM rfl (Av FS) (An (i:=1) sc.nd rfl AT)
  (AL (B5 (C8 (C6 (AZ EH KU hr rfl (AA Fa AB))))
   (AL (Aj Ds))
   BL)))
 (AL (Aj Ds)))),?_⟩
 refine⟨_,rfl,_,_,_,_,rfl,P7,hd.ty,Nb K d hd.nodict,_,rfl,?_⟩;by_cases g:Co d=false
 .rw[g];rw[cE g]at q;exact Ba q
 have g:Co d=true:=by simpa using g
 rw[g];refine JS ?_;obtain⟨Z,rfl⟩:=Hu g;rw[Dt]at hd;obtain⟨a,xs,rfl,na,ha,ht⟩:=hd;have I:=ht.len;refine⟨_,rfl,a,rfl,⟨_,AU.of ha⟩,CI (xs:=xs) (fun i σ H'=>∃M,σ=[some (.ref a),M]/\H=H'/\∀j c,j<i->Z[j]? = some c->Ei c=true) ?_ ?_ ?_ ?_⟩
 .exact⟨_,rfl,rfl,fun j c h=>absurd h (cD _)⟩
 .rintro i σ H' _ ⟨M,rfl,rfl,_⟩;exact AU.of ha
 .rintro i x σ H' hx ⟨M,rfl,rfl,hf⟩;obtain⟨c,R,tc⟩:=ht.get hx;refine⟨_,rfl,l,c,x,rfl,tc,_,rfl,Bq (fun b=>?_) (fun b=>?_)⟩
  .have hb:Ei c=false:=by simpa using b
   have e:Bf (.list Z)=false:=aZ.mpr fun z=>by
    rw[Bf,(Ht)]at z;rw[z c (aI R)]at hb;cases hb
   rw[e]at q;exact q
  .have hb:Ei c=true:=by simpa using b
   refine⟨_,rfl,rfl,fun j e U Y=>?_⟩;by_cases z:j=i
   .subst z;rw[R]at Y;cases Y;exact hb
   .exact hf j e AC Y
 .rintro σ H' ⟨M,rfl,rfl,hf⟩;have e:Bf (.list Z)=true:=by
   rw[Bf,(Ht)];intro c R;obtain⟨j,U⟩:=ah R;exact hf j c (by rw[I];exact(aB.mp U).1) U
  rw[e]at q;exact q
def XM:Ab ["thing","k","row"] FI (AQ M4):=Be
def Xl{tk:Tok}(F:Fn K mg "are_rows" M4 FI f fd)(BV:Fn K mg "are_fractions" EB FI g1 gd1) (CL:AH P w K mg base Aa 3 g1 gd1 FI Pa)(MJ:mg "MOST_ROWS" = some (.int 40 tk))(AY:mg "isinstance" = none)(F3:mg "list" = none)(A9:mg "len" = none)(Dw:mg "enumerate" = none):AH P w K mg base Aa 4 f fd FI Zy:=by
 have sc:=XM;refine F.F.ok (k:=3) sc BY As
 .obtain⟨l,d,v,rfl,_⟩:=h
  rfl
 obtain⟨l,d,v,rfl,hd,q⟩:=h;refine⟨_,(AG (B5 (PW.pt (Fv (C8 (C6 (Ar FD rfl AY aX (AA FS (AA (FX (v:=.ty "list") rfl F3 PyProof.Rows.boot_list rfl) AB))))) (Fv (BM ND (Ar BZ rfl A9 af (AA FS AB)) AJ (Ap _)) (Fb (BM Ms (Ar BZ rfl A9 af (AA FS AB)) (Dh (v:=.int 40) rfl MJ ⟨_,rfl⟩) (Ap _))))))
  (AL (Aj Ds))
  BL)
 (AG (Bg aM rfl (Qd rfl Dw (AA FS AB)) (HS rfl (Bw (An (i:=1) sc.nd rfl AT) (Bw (An (i:=2) sc.nd rfl AT) F8)))
  (AL (B5 (PW.pt (Fv (C8 (C6 (AZ BV CL hr rfl (AA IN AB)))) (Fb (BM Ks (Ar BZ rfl A9 af (AA IN AB)) Fa (Ap _)))))
   (AL (Aj Ds))
   BL)))
 (AL (Aj Ds)))),?_⟩
 refine⟨_,rfl,_,_,_,_,rfl,P7,hd.ty,Nb K d hd.nodict,_,rfl,?_⟩;by_cases U:Co d=false
 .rw[U];have:=q H (.refl H);rw[XO U]at this;exact Ba (Ba this)
 have U:Co d=true:=by simpa using U
 rw[U];refine JS ?_;obtain⟨I,rfl⟩:=Hu U;rw[Dt]at hd;obtain⟨a,xs,rfl,na,ha,ht⟩:=hd;have g:=ht.len;refine⟨_,rfl,a,xs,rfl,.inl (AU.of ha),_,_,rfl,rfl,_,rfl,Bq (fun c=>?_) (fun c=>?_)⟩
 .have e:Dj (.list I)=false:=by
   have:¬1<=I.length:=by rw[<-g];have:=ae c;lia
   rw[Dj,decide_eq_false this,(HF)]
  have:=q H (.refl H);rw[e]at this;exact Ba this
 have h1:1<=I.length:=by rw[<-g];have:=az (aZ.mpr c);lia
 refine⟨_,rfl,a,xs,rfl,.inl (AU.of ha),_,_,rfl,rfl,_,rfl,Bq (fun c=>?_) (fun c=>?_)⟩
 .have e:Dj (.list I)=false:=by
   have:¬I.length<=40:=by rw[<-g];have:=ae c;lia
   rw[Dj,decide_eq_false this,(HF),(MP)]
  have:=q H (.refl H);rw[e]at this;exact this
 have h2:I.length<=40:=by rw[<-g];have:=az (aZ.mpr c);lia
 have e:Dj (.list I)=MT I:=by rw[Dj,decide_eq_true h1,decide_eq_true h2,(Fo),(Fo)]
 rw[e]at q;refine⟨_,rfl,a,rfl,⟨_,AU.of ha⟩,T6 (xs:=xs) (fun i σ H'=>∃r1 r2,σ=[some (.ref a),r1,r2]/\AK H H'/\∀j,j<i->rowAt I j=true) ?_ ?_ ?_ ?_⟩
 .exact⟨_,_,rfl,.refl _,fun j h=>absurd h (cD _)⟩
 .rintro i σ H' _ ⟨r1,r2,rfl,e,_⟩;exact AU.of (e _ _ ha)
 .rintro i x σ H0 hx ⟨r1,r2,rfl,e0,hf⟩ p hp;obtain⟨c,hc,Z⟩:=ht.get hx;have hi:i<I.length:=(aB.mp hc).1;have s1:=AO hp (.tup [.int (i:Nat),x]);have R:=e0.trans s1;have hp':(upd H0 p (.tup [.int (i:Nat),x])) p=some (.tup [.int (i:Nat),x]):=AM;generalize upd H0 p (.tup [.int (i:Nat),x])=H1 at s1 R hp';have Z:=Z.same R;refine⟨p,_,rfl,Al.of hp',rfl,_,_,rfl,_,_,rfl,rfl,?_⟩;refine⟨_,rfl,l,c,x,rfl,Z,_,rfl,Bq (fun b=>?_) (fun b=>?_)⟩
  .have hb:Bf c=false:=by simpa using b
   have:=q H1 R;rw[UQ hi (by rw[Nc hc,hb,(HF)])]at this;exact Ba this
  have hb:Bf c=true:=by simpa using b
  obtain⟨cs,rfl⟩:=Hu (RX hb);rw[Dt]at Z;obtain⟨b,ys,rfl,nb,hb',hy⟩:=Z;refine⟨_,rfl,b,ys,rfl,.inl (AU.of hb'),_,rfl,rfl,_,rfl,Bq (fun z=>?_) (fun z=>?_)⟩
  .have M:¬Ja (.list cs)=i:=by
    rw[Ja,<-hy.len];intro Y;rw[Y]at z;simp at z
   have:=q H1 R;rw[UQ hi (by rw[Nc hc,hb,decide_eq_false M,(MP)])]at this;exact this
  .have M:Ja (.list cs)=i:=by
    rw[Ja,<-hy.len];by_cases Y:ys.length=i
    .exact Y
    .exfalso
     refine z ?_;have:¬(V.int (ys.length:Nat)=V.int (i:Nat)):=by simp;lia
     rw[decide_eq_false this];rfl
   refine⟨_,_,rfl,R,fun j hj=>?_⟩;by_cases Y:j=i
   .subst Y;rw[Nc hc,hb,decide_eq_true M,Bool.and_self]
   .exact hf j AC
 .rintro σ H' ⟨r1,r2,rfl,R,hf⟩;have:=q H' R;rw[Td fun j hj=>hf j (by rw[g];exact hj)]at this;exact this
def Xf:Ab FI FI (AQ Kn):=Be
def Xa(F:Fn K mg "is_table" Kn FI f fd)(Ky:Fn K mg "are_rows" M4 FI g1 gd1)(BV:Fn K mg "are_fractions" EB FI g2 gd2) (Zj:AH P w K mg base Aa 4 g1 gd1 FI Zy)(CL:AH P w K mg base Aa 4 g2 gd2 FI Pa)(AY:mg "isinstance" = none)(CA:mg "tuple" = none)(A9:mg "len" = none):AH P w K mg base Aa 5 f fd FI YB:=by
 have sc:=Xf;refine F.F.ok (k:=4) sc BY As
 .obtain⟨l,d,v,rfl,_⟩:=h
  rfl
 obtain⟨l,d,v,rfl,hd,q⟩:=h;refine⟨_,(AG (B5 (PW.pt (Fv (C8 (C6 (Ar FD rfl AY aX (AA FS (AA (FX (v:=.ty "tuple") rfl CA bN rfl) AB))))) (Fb (BM Ks (Ar BZ rfl A9 af (AA FS AB)) AJ (Ap _)))))
  (AL (Aj Ds))
  BL)
 (AL (Aj (O1 (AZ Ky Zj hr rfl (AA (Ao A5 FS AJ By) AB)) (O1 (AZ BV CL hr rfl (AA (Ao A5 FS AJ By) AB)) (R6 (PN K0 (Ar BZ rfl A9 af (AA (Ao A5 FS AJ By) AB)) (Ar BZ rfl A9 af (AA (Ao A5 FS AJ By) AB)) (Ap _)))))))),?_⟩
 refine⟨_,rfl,_,_,_,_,rfl,P7,hd.ty,NT K d hd.nodict,_,rfl,?_⟩;by_cases U:DJ d=false
 .rw[U];have:=q H (.refl H);rw[dh U]at this;exact Ba (Ba this)
 have U:DJ d=true:=by simpa using U
 rw[U];refine JS ?_;obtain⟨Z,rfl⟩:=Qb U;rw[Dt]at hd;obtain⟨a,xs,rfl,na,ha,M⟩:=hd;have Y:=M.len;have s1:Al K H a xs:=Al.of ha;refine⟨_,rfl,a,xs,rfl,.inr s1,rfl,_,rfl,Bq (fun c=>?_) (fun c=>?_)⟩
 .have:Z.length≠2:=by
   rw[<-Y];intro z;rw[z]at c;exact absurd c AS
  have q:=q H (.refl H);rw[YY this]at q;exact q
 have h2:xs.length=2:=by
  by_cases z:xs.length=2
  .exact z
  .exfalso
   refine c ?_;have:¬(V.int (xs.length:Nat)=V.int 2):=by simp;lia
   rw[decide_eq_false this];rfl
 obtain⟨d0,d1,rfl⟩:∃d0 d1,Z=[d0,d1]:=by
  match Z,(show Z.length=2 by lia) with
  |[x,y],_=>exact⟨x,y,rfl⟩
 rw[AW]at M;obtain⟨x0,r,rfl,I,M⟩:=M;rw[AW]at M;obtain⟨x1,r,rfl,g,M⟩:=M;rw[AW]at M;subst M;rw[Cg]at q;refine⟨_,rfl,_,_,_,_,rfl,rfl,s1,rfl,l,d0,x0,rfl,I,fun H1 R=>⟨_,rfl,Bq (fun c0=>?_) (fun c0=>?_)⟩⟩
 .rw[c0]at q;refine⟨_,rfl,_,_,_,_,rfl,rfl,R.tup s1,rfl,l,d1,x1,rfl,g.same R,_,rfl,Bq (fun c1=>?_) (fun c1=>?_)⟩
  .rw[c1]at q;obtain⟨r0,rfl⟩:=Hu (Wn c0);obtain⟨r1,rfl⟩:=Hu (RX c1);have I:=I.same R;have g:=g.same R;rw[Dt]at I g;obtain⟨a0,y0,rfl,_,ha0,hy0⟩:=I;obtain⟨a1,y1,rfl,_,ha1,hy1⟩:=g;refine⟨_,rfl,_,_,_,_,rfl,rfl,R.tup s1,rfl,a1,y1,rfl,.inl (AU.of ha1),_,rfl,_,_,_,_,rfl,rfl,R.tup s1,rfl,a0,y0,rfl,.inl (AU.of ha0),rfl,?_⟩;have:=q H1 R;rw[(Fo),(Fo),Ja,Ja,<-hy0.len,<-hy1.len]at this;have e:decide (V.int (y1.length:Nat)=V.int (y0.length:Nat))=decide (y1.length=y0.length):=by
    rw[(NI)];simp;lia
   rw[<-e]at this;exact this
  .rw[Bool.eq_false_iff.mpr c1,(HF),(MP)]at q;exact q H1 R
 .rw[Bool.eq_false_iff.mpr c0,(HF)]at q;exact q H1 R
end
def iC{p:AD}{H H':Hp}{xs:uD}{ds:tZ}(M:upd H p (.tup xs)=H')(I:H p=none)(k:Aq H ds xs):AK H H'/\DU H' (.tuple ds) (.ref p)/\H' p=some (.tup xs):=by
 subst M;have g:=AO I (.tup xs);exact⟨g,.tup AM (k.same g),AM⟩
def ly{p:AD}{H H':Hp}{xs:uD}{ds:tZ}(M:upd H p (.lst xs)=H')(I:H p=none)(k:Aq H ds xs):AK H H'/\DU H' (.list ds) (.ref p)/\H' p=some (.lst xs):=by
 subst M;have g:=AO I (.lst xs);exact⟨g,.lst AM (k.same g),AM⟩
def V3(r:Rat):Ei (HH r)=true:=by
 have h:=r.den_nz;have k:=r.reduced;rw[HH,Ei,decide_eq_true (show(1:Int)<=(r.den:Int) by lia),(Fo)];rw[beq_iff_eq];unfold FM.gi;unfold Nat.Coprime at k;rw[show r.num.gcd (r.den:Int)=1 from k]
 rfl
def Bt{i n:Nat}(h:i<n)(hn:n<=60):i<sizeLine:=aK (show i<60 by lia) (by rw[sizeLine_eq];decide)
def BX{n:Nat}(hn:n<=60):n<=sizeLine:=aS hn (by rw[sizeLine_eq];decide)
structure Tb where
 rs:List (List Rat)
 ls:List Rat
def AV(r:uC):tZ:=r.map HH
def ME(r:uC):PD:=.list (AV r)
def BU(rs:List uC):tZ:=rs.map ME
def CM(t:Tb):PD:=.tuple [.list (BU t.rs),.list (AV t.ls)]
structure Tb.Ok(m:Nat)(t:Tb):Prop where
 one:1<=t.rs.length
 most:t.rs.length<=m
 last:t.ls.length=t.rs.length
 row:∀(i:Nat) r,t.rs[i]? = some r->r.length=i
def Q0(r:uC):∀e∈AV r,Ei e=true:=fun e g=>by
 obtain⟨q,_,rfl⟩:=aL.mp g;exact V3 q
def DY(r:uC):(AV r).length=r.length:=bo _
def Hz(r:List uC):(BU r).length=r.length:=bo _
def Tb.Ok.is{m:Nat}(hm:m<=40){t:Tb}(h:t.Ok m):Cg (CM t)=true:=by
 have M:=h.one;have R:=h.most;rw[CM,Cg,Dj,Ja,Ja,Hz,DY,decide_eq_true M,decide_eq_true (show t.rs.length<=40 by lia),decide_eq_true h.last,Bf,(Fo),(Fo),Bool.and_true,List.all_eq_true.mpr (Q0 _),Bool.and_true];refine Td fun j I=>?_;rw[Hz]at I;have g:t.rs[j]? = some t.rs[j]:=by simp[I]
 rw[Nc (d:=ME t.rs[j]) (by rw[BU,(BC),g];rfl),ME,Ja,DY,decide_eq_true (h.row j _ g),Bf,Bool.and_true,List.all_eq_true.mpr (Q0 _)]
mutual
theorem jy{l c:AD}{H H':Hp}(e:SameBut c H H'):∀ {d:PD} {v:V},Dt l H d v->Dt c H d v->Dt l H' d v
 |.none,_,h,_=>by rw[Dt]at h ⊢;exact h
 |.bool _,_,h,_=>by rw[Dt]at h ⊢;exact h
 |.int _,_,h,_=>by rw[Dt]at h ⊢;exact h
 |.str _,_,h,_=>by rw[Dt]at h ⊢;exact h
 |.tuple _,_,h,k=>by
  rw[Dt]at h k ⊢;obtain⟨a,xs,e1,n,R,Z⟩:=h;obtain⟨a',U,M,Y,g,I⟩:=k;subst e1;cases M;rw[R]at g;cases g;exact⟨a,xs,rfl,n,e _ _ Y R,Kw e Z I⟩
 |.list _,_,h,k=>by
  rw[Dt]at h k ⊢;obtain⟨a,xs,e1,n,R,Z⟩:=h;obtain⟨a',U,M,Y,g,I⟩:=k;subst e1;cases M;rw[R]at g;cases g;exact⟨a,xs,rfl,n,e _ _ Y R,Kw e Z I⟩
 |.dict _,_,h,_=>by rw[Dt]at h;exact h.elim
theorem Kw{l c:AD}{H H':Hp}(e:SameBut c H H'):∀ {ds:List PD} {xs:IR},AW l H ds xs->AW c H ds xs->AW l H' ds xs
 |[],_,h,_=>by rw[AW]at h ⊢;exact h
 |_::_,_,h,k=>by
  rw[AW]at h k ⊢;obtain⟨x,r,Y,U,R⟩:=h;obtain⟨Z,r',M,I,g⟩:=k;subst Y;cases M;exact⟨x,r,rfl,jy e U I,Kw e R g⟩
end
def Aq.Xv{H:Hp}{d:PD}{ds:tZ}{xs:uD}(h:Aq H (d::ds) xs):∃x r,xs=x::r/\DU H d x/\Aq H ds r:=by
 obtain⟨N,b⟩:=h;have h0:=b N (aH _);rw[AW]at h0;obtain⟨x,r,rfl,_,_⟩:=h0;refine⟨x,r,rfl,⟨N,fun l g=>?_⟩,⟨N,fun l g=>?_⟩⟩
 .have:=b l g;rw[AW]at this;obtain⟨_,_,e,I,_⟩:=this;cases e;exact I
 .have:=b l g;rw[AW]at this;obtain⟨_,_,e,_,I⟩:=this;cases e;exact I
def DU.rat{H:Hp}{q:Rat}{v:V}(h:DU H (HH q) v):∃p,v=.ref p/\H p=some (.tup (IX q)):=h.ints (ps:=[q.num,(q.den:Int)])
def Rg{H:Hp}{q:Rat}{p:AD}(h:H p=some (.tup (IX q))):DU H (HH q) (.ref p):=.tup h (.cons .int (.cons .int .nil))
theorem JT{c:AD}{zs:IR}{H:Hp}(g:H c=some (.lst zs)):∀ {qs:List Rat} {xs:IR},Aq H (AV qs) xs->AW c H (AV qs) xs
 |[],xs,h=>by
  have:=h.len;rw[show AV []=[] from rfl,List.length_nil]at this;rw[List.eq_nil_of_length_eq_zero this];exact .nil
 |q::qs,xs,h=>by
  obtain⟨x,r,rfl,R,M⟩:=Aq.Xv h;obtain⟨p,rfl,I⟩:=R.rat;exact .cons (.tup (fun z=>by subst z;rw[I]at g;cases g) I (.cons .int (.cons .int .nil))) (JT g M)
def GV{c:AD}{zs:uD}{H H':Hp}(g:H c=some (.lst zs))(e:SameBut c H H'){qs:uC}{xs:uD}(h:Aq H (AV qs) xs):Aq H' (AV qs) xs:=CT (.but e (JT g h))
def eR{c a:AD}{zs xs:uD}{H:Hp}{qs:uC}(g:H c=some (.lst zs))(n:a≠c)(ha:H a=some (.lst xs))(h:Aq H (AV qs) xs):Dt c H (ME qs) (.ref a):=.lst n ha (JT g h)
def DU.tab{H:Hp}{t:Tb}{v:V}(h:DU H (CM t) v):∃p R L xs ys,v=.ref p/\H p=some (.tup [.ref R,.ref L])/\H R=some (.lst xs)/\Aq H (BU t.rs) xs/\H L=some Id/\Aq H (AV t.ls) ys:=by
 obtain⟨p,zs,rfl,g,h1⟩:=h.cw;obtain⟨x,y,rfl,h2,Z⟩:=h1.OC;obtain⟨R,xs,rfl,I,Y⟩:=h2.Ju;obtain⟨L,ys,rfl,M,U⟩:=Z.Ju;exact⟨p,R,L,xs,ys,rfl,g,I,Y,M,U⟩
def oO{H:Hp}{t:Tb}{p R L:AD}{xs ys:uD}(g:H p=some (.tup [.ref R,.ref L]))(I:H R=some (.lst xs))(Y:Aq H (BU t.rs) xs)(M:H L=some Id)(U:Aq H (AV t.ls) ys):DU H (CM t) (.ref p) :=
 .tup g (.cons (.lst I Y) (.cons (.lst M U) .nil))
def NW{H:Hp}{rs:List uC}{xs:uD}{i:Nat}{r:uC}(h:Aq H (BU rs) xs)(g:rs[i]? = some r):∃a ys,xs[i]? = some (.ref a)/\H a=some Id/\Aq H (AV r) ys:=by
 obtain⟨v,U,R⟩:=h.get (i:=i) (d:=ME r) (by rw[BU,(BC),g];rfl);obtain⟨a,ys,rfl,M,I⟩:=R.Ju;exact⟨a,ys,U,M,I⟩
def J7(a b:uC):AV (a++b)=AV a++AV b:=List.map_append
def Em(c b:Int):Int:=c.fdiv (FM.gi c b)*b
def D8(bs:t6):Int:=bs.foldl Em 1
theorem Ve{k:Nat}:∀(bs:List Int) (c:Int) (n:Nat),1<=c->c.natAbs<2^n->(∀b∈bs,1<=b/\b.natAbs<2^k) ->
  1<=bs.foldl Em c/\(bs.foldl Em c).natAbs<2^(n+k*bs.length)/\c ∣ bs.foldl Em c/\∀b∈bs,b ∣ bs.foldl Em c
 |[],c,n,M,I,_=>⟨M,by simpa using I,Int.dvd_refl _,fun _ z=>(bC z).elim⟩
 |b::bs,c,n,M,I,h=>by
  obtain⟨b1,b2⟩:=h b aR;obtain⟨s1,s2,s3,U⟩:=NF M b1;have n1:(Em c b).natAbs<2^(n+k):=FM.A6 (aJ U I) b2;obtain⟨r1,Z,R,Y⟩:=Ve bs (Em c b) (n+k) s1 n1 fun y g=>h y (aN _ g);refine⟨r1,?_,Int.dvd_trans s2 R,fun y g=>?_⟩
  .rw[(Im),(Mu),show n+(k*bs.length+k)=n+k+k*bs.length by lia];exact Z
  .rcases aU.mp g with rfl|g
   .exact Int.dvd_trans s3 R
   .exact Y y g
def K3{k:Nat}{bs:t6}(h:∀b∈bs,1<=b/\b.natAbs<2^k):1<=D8 bs/\(D8 bs).natAbs<2^(1+k*bs.length)/\∀b∈bs,b ∣ D8 bs:=by
 obtain⟨a,b,_,d⟩:=Ve bs 1 1 AS AS h;exact⟨a,b,d⟩
def cm(bs:t6)(b:Int):D8 (bs++[b])=Em (D8 bs) b:=by
 unfold D8;rw[(So)]
 rfl
def N9:Sp:=fun vs H Q _=>∃(a:AD) (bs:List Int) (k:Nat),vs=[.ref a]/\H a=some (.lst (bs.map V.int))/\(∀b∈bs,1<=b/\b.natAbs<2^k)/\k*bs.length<=4000/\Q (.int (D8 bs)) H
def BP(rs:uC)(B:Int):t6:=rs.map fun r=>r.num*B.fdiv (r.den:Int)
def O3:Sp:=fun vs H Q _=>∃(a:AD) (xs:IR) (rs:List Rat) (B:Int) (n m:Nat),vs=[.ref a,.int B]/\H a=some (.lst xs)/\Aq H (AV rs) xs/\rs.length<=50/\(∀r∈rs,FM.Fits r n)/\B.natAbs<2^m/\n+m<=4000 /\
 ∀D H',AK H H'->H D=none->H' D=some (.lst ((BP rs B).map V.int))->Q (.ref D) H'
def Ac(rs:uC):Int:=D8 (rs.map fun r=>(r.den:Int))
def PZ:Sp:=fun vs H Q _=>∃(a:AD) (xs:IR) (rs:List Rat) (n:Nat),vs=[.ref a]/\H a=some (.lst xs)/\Aq H (AV rs) xs/\rs.length<=50/\(∀r∈rs,FM.Fits r n)/\n*rs.length<=4000/\∀H',AK H H'->Q (.int (Ac rs)) H'
def Eu{H:Hp}{qs:uC}{xs:uD}{i:Nat}{q:Rat}(h:Aq H (AV qs) xs)(g:qs[i]? = some q):∃p,xs[i]? = some (.ref p)/\H p=some (.tup (IX q)):=by
 obtain⟨v,R,M⟩:=h.get (i:=i) (d:=HH q) (by rw[AV,(BC),g];rfl);obtain⟨p,rfl,I⟩:=M.rat;exact⟨p,R,I⟩
def Md{rs:uC}{n:Nat}(h:∀r∈rs,FM.Fits r n):∀b∈rs.map (fun r=>(r.den:Int)),1<=b/\b.natAbs<2^n:=fun b hb=>by
 obtain⟨r,g,rfl⟩:=aL.mp hb;have:=r.den_nz;exact⟨by lia,(h r g).d⟩
section
variable{P:F0b}{w:F0c}{K:Fg}{mg:tm}{base:Heap}{f g g1:AD}{fd gd gd1:F0a}
def Pq(F:Fn K mg "common_bottom" Cm ["bottoms"] f fd)(A8:Fn K mg "greatest_divisor" C7 ["one","other"] g gd) (CZ:AH P w K mg base Aa 1 g gd ["one","other"] Qx):AH P w K mg base Aa 2 f fd ["bottoms"] N9:=by
 have sc:=LK;refine F.F.ok (k:=1) sc BY (fun cdv A outer s H vs Q E Z h=>?_)
 .obtain⟨a,bs,k,rfl,_⟩:=h
  rfl
 obtain⟨a,bs,k,rfl,ha,hb,hk,q⟩:=h;refine⟨_,(AG (AX (i:=1) sc.nd rfl AT AJ)
 (AG (Bg aM rfl (Av FS) (An (i:=2) sc.nd rfl AT)
  (AL (AX (i:=1) sc.nd rfl AT (Ae BD (Ae Dl Fa (AZ A8 CZ Z rfl (AA Fa (AA IN AB)))) IN))))
 (AL (Aj Fa)))),?_⟩
 refine⟨_,rfl,a,rfl,⟨_,AU.of ha⟩,CI (xs:=bs.map V.int) (fun i σ H'=>∃(r:Option V),σ=[some (.ref a),some (.int (D8 (bs.take i))),r]/\H=H') ?_ ?_ ?_ ?_⟩
 .exact⟨_,rfl,rfl⟩
 .rintro i σ H' _ ⟨r,rfl,rfl⟩;exact AU.of ha
 .rintro i x σ H' I ⟨r,rfl,rfl⟩;have hi:i<bs.length:=by have:=(aB.mp I).1;simpa using this
  rw[(BC),List.getElem?_eq_getElem hi]at I;cases I;obtain⟨b1,b2⟩:=hb _ (aq hi);obtain⟨c1,M,_⟩:=K3 (k:=k) (bs:=bs.take i) fun y Y=>hb y (bW Y);rw[(JZ),Nat.min_eq_left AC]at M;obtain⟨s1,s2,s3,R⟩:=NF c1 b1;have hg:FM.gi (D8 (bs.take i)) bs[i]≠0:=Int.ne_of_gt (FM.LZ AC);have hki:k*i+k<=4000:=by
   have:k*(i+1)<=k*bs.length:=aT k hi;rw[(Mu)]at this
   lia
  have U:((D8 (bs.take i)).fdiv (FM.gi (D8 (bs.take i)) bs[i])).natAbs<2^(1+k*i):=aJ R M;refine⟨_,rfl,_,rfl,_,rfl,D8 (bs.take i),bs[i],rfl,_,_,rfl,rfl,⟨hg,k,by have:k*1<=k*bs.length:=aT k AC;lia,Nat.lt_of_le_of_lt (FM.ZP AC) b2⟩,_,rfl,_,_,rfl,rfl,D9 U b2 AC,some (.int bs[i]),?_,rfl⟩;rw[(CP),List.getElem?_eq_getElem hi];show _=[some (V.ref a),some (V.int (D8 (bs.take i++[bs[i]]))),some (V.int bs[i])];rw[cm]
  rfl
 .rintro σ H' ⟨r,rfl,rfl⟩;rw[(Ah),(DC)];exact⟨_,rfl,q⟩
def Vn:Ab ["some","bottom"] ["some","bottom"] (AQ GD):=Be
def Vc(F:Fn K mg "tops_over" GD ["some","bottom"] f fd):AH P w K mg base Aa 1 f fd ["some","bottom"] O3:=by
 have sc:=Vn;refine F.F.ok (k:=0) sc BY (fun cdv A outer s H vs Q E U h=>?_)
 .obtain⟨a,xs,rs,B,n,m,rfl,_⟩:=h
  rfl
 obtain⟨a,xs,rs,B,n,m,rfl,ha,dx,hl,hf,hB,hnm,q⟩:=h;have Z:xs.length=rs.length:=by rw[dx.len,DY]
 refine⟨_,(AL (Aj (CH [".0","part","bottom"] 1 [none,none,some 1] (Av FS) F9 (fun _ _ _ _ _=>(Ae BD (Ao EE Fa AJ By) (Ae Dl IN (Ao EE Fa AJ By))))))),?_⟩;refine⟨_,rfl,a,rfl,⟨_,AU.of ha⟩,fun D hD=>Bo (n:=xs.length) (fun i ys H'=>AK H H'/\ys=(BP (rs.take i) B).map V.int) ⟨AO hD _,rfl⟩ ?_ ?_⟩
 .rintro i ys H1 hi ⟨M,rfl⟩ I;have U:rs[i]? = some (rs[i]' AC):=aG _;obtain⟨p,Y,R⟩:=Eu dx U;have ft:=hf _ (aI U);generalize rs[i]' AC=r at U R ft;have hd:=r.den_nz;refine⟨⟨xs,.ref p,AU.of (M _ _ ha),Y⟩,Bt (n:=60) (by unfold BP;simp;lia) AS,fun x H' y=>?_⟩;obtain⟨rfl,y⟩:=y;have hx:=y xs (AU.of (M _ _ ha));rw[Y]at hx;cases hx;unfold B0;have n2:(B.fdiv (r.den:Int)).natAbs<2^m:=aJ (FM.Az _ _) hB;refine Ba ⟨_,rfl,_,_,_,_,rfl,rfl,Al.of (M _ _ R),rfl,_,rfl,_,rfl,_,_,_,_,rfl,rfl,Al.of (M _ _ R),rfl,_,_,rfl,rfl,⟨by lia,n,by lia,ft.d⟩,_,_,rfl,rfl,D9 ft.1 n2 AC,I,BG hi ⟨fun b o z=>?_,?_⟩⟩
  .rw[AN (AR z hD)];exact M _ _ z
  .rw[(CP),U,BP,BP,(A4),(A4)]
   rfl
 .rintro ys H1 ⟨M,rfl⟩ I;rw[Z,(DC)]at I;exact⟨⟨xs,AU.of (M _ _ ha),Nat.le_refl _⟩,q D H1 M hD I⟩
def XE:Ab ["start"] ["start"] (AQ IZ):=Be
def XW(F:Fn K mg "grain_of" IZ ["start"] f fd)(A0:Fn K mg "common_bottom" Cm ["bottoms"] g1 gd1) (CK:AH P w K mg base Aa 2 g1 gd1 ["bottoms"] N9):AH P w K mg base Aa 3 f fd ["start"] PZ:=by
 have sc:=XE;refine F.F.ok (k:=2) sc BY (fun cdv A outer s H vs Q E R h=>?_)
 .obtain⟨a,xs,rs,n,rfl,_⟩:=h
  rfl
 obtain⟨a,xs,rs,n,rfl,ha,dx,hl,hf,hn,q⟩:=h;have Z:xs.length=rs.length:=by rw[dx.len,DY]
 refine⟨_,(AL (Aj (AZ A0 CK R rfl (AA (CH [".0","place"] 1 [none,none] (Av FS) F9 (fun _ _ _ _ _=>(Ao EE Fa AJ By))) AB)))),?_⟩;refine⟨_,rfl,a,rfl,⟨_,AU.of ha⟩,fun D hD=>Bo (n:=xs.length) (fun i ys H'=>AK H H'/\ys=((rs.take i).map fun r=>(r.den:Int)).map V.int) ⟨AO hD _,rfl⟩ ?_ ?_⟩
 .rintro i ys H1 hi ⟨M,rfl⟩ I;have R:rs[i]? = some (rs[i]' AC):=aG _;obtain⟨p,Y,U⟩:=Eu dx R;generalize rs[i]' AC=r at R U;refine⟨⟨xs,.ref p,AU.of (M _ _ ha),Y⟩,Bt (n:=60) (by simp;lia) AS,fun x H' y=>?_⟩;obtain⟨rfl,y⟩:=y;have hx:=y xs (AU.of (M _ _ ha));rw[Y]at hx;cases hx;unfold B0;refine Ba ⟨_,rfl,_,_,_,_,rfl,rfl,Al.of (M _ _ U),rfl,I,BG hi ⟨fun b o z=>?_,?_⟩⟩
  .rw[AN (AR z hD)];exact M _ _ z
  .rw[(CP),R,(A4),(A4)]
   rfl
 .rintro ys H1 ⟨M,rfl⟩ I;rw[Z,(DC)]at I;exact⟨⟨xs,AU.of (M _ _ ha),Nat.le_refl _⟩,D,_,n,rfl,I,Md hf,by rw[(Ah)];exact hn,q H1 M⟩
end
abbrev Ag:=List Int×Rat
def Es(m:Ag):PD:=.tuple [.tuple (m.1.map .int),HH m.2]
def Bz(us:List Ag):PD:=.list (us.map Es)
def DU.mono{H:Hp}{m:Ag}{v:V}(h:DU H (Es m) v):∃c P F,v=.ref c/\H c=some (.tup [.ref P,.ref F])/\H P=some (.tup (m.1.map V.int))/\H F=some (.tup (IX m.2)):=by
 obtain⟨c,xs,rfl,g,Y⟩:=h.cw;obtain⟨x,y,rfl,U,R⟩:=Y.OC;obtain⟨P,rfl,I⟩:=U.ints;obtain⟨F,rfl,M⟩:=R.rat;exact⟨c,P,F,rfl,g,I,M⟩
def JY{H:Hp}{us:List Ag}{xs:uD}{i:Nat}{m:Ag}(d:Aq H (us.map Es) xs)(h:us[i]? = some m):∃c P F,xs[i]? = some (.ref c)/\H c=some (.tup [.ref P,.ref F])/\H P=some (.tup (m.1.map V.int))/\H F=some (.tup (IX m.2)):=by
 obtain⟨v,I,g⟩:=d.get (i:=i) (d:=Es m) (by rw[(BC),h];rfl);obtain⟨c,P,F,rfl,a,b,e⟩:=g.mono;exact⟨c,P,F,I,a,b,e⟩
def JP{H:Hp}{uss:Ch}{cs:uD}{i:Nat}{us:List Ag}(d:Aq H (uss.map Bz) cs)(h:uss[i]? = some us):∃a xs,cs[i]? = some (.ref a)/\H a=some (.lst xs)/\Aq H (us.map Es) xs:=by
 obtain⟨v,M,I⟩:=d.get (i:=i) (d:=Bz us) (by rw[(BC),h];rfl);obtain⟨a,xs,rfl,ha,g⟩:=I.Ju;exact⟨a,xs,M,ha,g⟩
def Kt(us:List Ag):t6:=us.map fun m=>(m.2.den:Int)
def FP(uss:Ch):t6:=(uss.map Kt).flatten
def Bi(uss:Ch):Int:=D8 (FP uss)
def Bc(m:Ag):Int:=m.1.sum
def JV(g:Int)(us:List Ag):Int:=us.foldl (fun g m=>if Bc m > g then Bc m else g) g
def Fi(uss:Ch):Int:=uss.foldl JV 1
structure LJ(H:Hp)(C:Addr)(cs:IR)(uss:Ch)(n:Nat):Prop where
 at_:H C=some (.lst cs)
 du:Aq H (uss.map Bz) cs
 len:uss.length<=4
 EK:∀us∈uss,us.length<=12/\∀m∈us,FM.Fits m.2 n
def LJ.same{H H':Hp}{C:AD}{cs:uD}{uss:Ch}{n:Nat}(c:LJ H C cs uss n)(e:AK H H'):LJ H' C cs uss n:=⟨e _ _ c.at_,c.du.same e,c.len,c.EK⟩
def LJ.cl{H:Hp}{C:AD}{cs:uD}{uss:Ch}{n:Nat}(c:LJ H C cs uss n):cs.length=uss.length:=by rw[c.du.len,(Ah)]
def Qp{uss:Ch}:∀(h:∀us∈uss,us.length<=12),(FP uss).length<=12*uss.length:=by
 induction uss with
 |nil=>intro _;simp[FP]
 |cons us uss g=>
  intro h;have R:=h us aR;have M:=g fun y I=>h y (aN _ I);unfold FP at M ⊢;rw[(C0),(O7),(Ge),(Im),(Mu)];have:(Kt us).length=us.length:=bo _
  lia
def Z7{uss:Ch}{us:List Ag}{i:Nat}(h:uss[i]? = some us):FP (uss.take (i+1))=FP (uss.take i)++Kt us:=by
 unfold FP;rw[(CP),h,(A4),List.flatten_append];simp
def W5{uss:Ch}{n:Nat}(h:∀us∈uss,us.length<=12/\∀m∈us,FM.Fits m.2 n):∀b∈FP uss,1<=b/\b.natAbs<2^n:=fun b hb=>by
 unfold FP at hb;obtain⟨l,I,hb⟩:=bz.mp hb;obtain⟨us,g,rfl⟩:=aL.mp I;obtain⟨m,hm,rfl⟩:=aL.mp hb;have:=m.2.den_nz;exact⟨by lia,((h us g).2 m hm).d⟩
def ej:Sp:=fun vs H Q _=>∃(C:AD) (cs:IR) (uss:Ch) (n:Nat),vs=[.ref C]/\LJ H C cs uss n/\n<=80/\∀H',AK H H'->Q (.int (Bi uss)) H'
def fK:Sp:=fun vs H Q _=>∃(C:AD) (cs:IR) (uss:Ch) (n:Nat),vs=[.ref C]/\LJ H C cs uss n/\Q (.int (Fi uss)) H
section
variable{P:F0b}{w:F0c}{K:Fg}{mg:tm}{base:Heap}{f g1:AD}{fd gd1:F0a}
def QO:Ab ["change","bottoms","some"] ["change"] (AQ GU):=Be
def Qv(F:Fn K mg "speeds_bottom" GU ["change"] f fd)(A0:Fn K mg "common_bottom" Cm ["bottoms"] g1 gd1) (CK:AH P w K mg base Aa 2 g1 gd1 ["bottoms"] N9):AH P w K mg base Aa 3 f fd ["change"] ej:=by
 have sc:=QO;refine F.F.ok (k:=2) sc BY As
 .obtain⟨C,cs,uss,n,rfl,_⟩:=h
  rfl
 obtain⟨C,cs,uss,n,rfl,R,hn,q⟩:=h;have hcl:=R.cl;have hl4:=R.len;refine⟨_,(AG (AX (i:=1) sc.nd rfl AT (Cu AB))
 (AG (Bg aM rfl (Av FS) (An (i:=2) sc.nd rfl AT)
  (AL (BK (Ij ag PySem.F.slot_list_extend PySem.F.type_list_extend Tj Fa (AA (N1 [".0","powers","part"] 1 2 [none,none,none] (Av IN) F9 (fun _ _ _ _ _=>(Ao EE IN AJ By))) AB)))))
 (AL (Aj (AZ A0 CK hr rfl (AA Fa AB)))))),?_⟩
 refine⟨BX (show 0<=60 by decide),fun Z hZ=>?_⟩;have e1:=AO hZ (.lst []);have hZ1:upd H Z (.lst []) Z=some (.lst []):=AM;generalize upd H Z (.lst [])=H1 at e1 hZ1;refine⟨_,rfl,C,rfl,⟨_,AU.of (e1 _ _ R.at_)⟩,CI (xs:=cs) (fun i σ H'=>∃r2,σ=[some IO,some (.ref Z),r2]/\AK H H'/\H' Z=some (.lst ((FP (uss.take i)).map V.int))) ?_ ?_ ?_ ?_⟩
 .exact⟨_,rfl,e1,hZ1⟩
 .rintro i σ H' _ ⟨r2,rfl,e,_⟩;exact AU.of (e _ _ R.at_)
 .rintro i x σ H2 hx ⟨r2,rfl,Y,g⟩;have hi:i<uss.length:=by rw[<-hcl];exact(aB.mp hx).1
  have hu:uss[i]? = some uss[i]:=by simp[hi]
  obtain⟨a,xs,ha1,I,dx⟩:=JP R.du hu;obtain⟨u12,_⟩:=R.EK _ (aI hu);generalize uss[i]=us at hu dx u12;rw[hx]at ha1;cases ha1;have hxl:xs.length=us.length:=by rw[dx.len,(Ah)]
  refine⟨_,rfl,.inl ⟨rfl,_,AU.of g⟩,_,rfl,a,rfl,⟨_,AU.of (Y _ _ I)⟩,fun D hD=>Hk (n:=xs.length) (fun j ys H'=>AK H2 H'/\ys=(Kt (us.take j)).map V.int) ⟨AO hD _,rfl⟩ ?_ ?_⟩
  .rintro j ys H3 hj ⟨U,rfl⟩ M;have E3:=Y.trans U;have hm:us[j]? = some (us[j]' AC):=aG _;obtain⟨c,Pw,Fr,k1,k2,k3,k4⟩:=JY dx hm;generalize us[j]' AC=m at hm k3 k4;refine⟨⟨xs,.ref c,AU.of (E3 _ _ I),k1⟩,Bt (n:=60) (by unfold Kt;simp;lia) AS,fun x H' y=>?_⟩;obtain⟨rfl,y⟩:=y;have hx:=y xs (AU.of (E3 _ _ I));rw[k1]at hx;cases hx;refine⟨c,_,_,rfl,Al.of (E3 _ _ k2),?_⟩;unfold B0;refine Ba ⟨_,rfl,_,_,_,_,rfl,rfl,Al.of (E3 _ _ k4),rfl,M,BG hj ⟨fun b o z=>?_,?_⟩⟩
   .rw[AN (AR z hD)];exact U _ _ z
   .rw[(CP),hm,Kt,Kt,(A4),(A4)]
    rfl
  .rintro ys H3 ⟨U,rfl⟩ M;have E3:=Y.trans U;rw[hxl,(DC)]at M;refine⟨⟨xs,AU.of (E3 _ _ I),Nat.le_refl _⟩,Z,D,_,_,rfl,rfl,U _ _ g,M,?_,_,rfl,fun b o z=>?_,?_⟩
   .have:=Qp (uss:=uss.take i) fun y hy=>(R.EK y (bW hy)).1;rw[(JZ),Nat.min_eq_left AC]at this;refine BX ?_;rw[(Ah),(Ah),show(Kt us).length=us.length from bo _]
    lia
   .rw[AN (AR z hZ)];exact U _ _ (Y _ _ z)
   .rw[AM,Z7 hu,(A4)]
 .rintro σ H2 ⟨r2,rfl,Y,g⟩;rw[hcl,(DC)]at g;refine⟨_,rfl,Z,_,n,rfl,g,W5 R.EK,?_,q H2 Y⟩;have h1:=Qp (uss:=uss) fun y hy=>(R.EK y hy).1;have h2:(FP uss).length<=48:=by lia
  exact aS (cA hn h2) AS
def Pj:Ab ["change","greatest","some","powers","part"] ["change"] (AQ Fq):=Be
def Pg(F:Fn K mg "greatest_power" Fq ["change"] f fd)(Yd:mg "max" = none)(EC:mg "sum" = none):AH P w K mg base Aa 1 f fd ["change"] fK:=by
 have sc:=Pj;refine F.F.ok (k:=0) sc BY As
 .obtain⟨C,cs,uss,n,rfl,_⟩:=h
  rfl
 obtain⟨C,cs,uss,n,rfl,ch,q⟩:=h;have R:=ch.cl;refine⟨_,(AG (AX (i:=1) sc.nd rfl AT AJ)
 (AG (Bg aM rfl (Av FS) (An (i:=2) sc.nd rfl AT)
  (AL (Bg aM rfl (Av IN) (HS rfl (Bw (An (i:=3) sc.nd rfl AT) (Bw (An (i:=4) sc.nd rfl AT) F8)))
   (AL (AX (i:=1) sc.nd rfl AT (Ar (Zq rfl) rfl Yd PyProof.Rows.boot_max (AA Fa (AA (Ar (Lw rfl) rfl EC bS (AA (pv 3) AB)) AB))))))))
 (AL (Aj Fa)))),?_⟩
 refine⟨_,rfl,C,rfl,⟨_,AU.of ch.at_⟩,CI (xs:=cs) (fun i σ H'=>∃(Z I g:Option V),σ=[some IO,some (.int (Fi (uss.take i))),Z,I,g]/\H=H') ?_ ?_ ?_ ?_⟩
 .exact⟨_,_,_,rfl,rfl⟩
 .rintro i σ H' _ ⟨Z,I,g,rfl,rfl⟩;exact AU.of ch.at_
 .rintro i x σ H2 hx ⟨Z,I,g,rfl,rfl⟩;have hi:i<uss.length:=by rw[<-R];exact(aB.mp hx).1
  have hu:uss[i]? = some uss[i]:=by simp[hi]
  obtain⟨a,xs,Y,U,dx⟩:=JP ch.du hu;generalize uss[i]=us at hu dx;rw[hx]at Y;cases Y;have M:xs.length=us.length:=by rw[dx.len,(Ah)]
  refine⟨_,rfl,a,rfl,⟨_,AU.of U⟩,CI (xs:=xs) (fun j σ H'=>∃(I g:Option V),σ=[some IO,some (.int (JV (Fi (uss.take i)) (us.take j))),some (.ref a),I,g]/\H=H') ?_ ?_ ?_ ?_⟩
  .exact⟨_,_,rfl,rfl⟩
  .rintro j σ H' _ ⟨I,g,rfl,rfl⟩;exact AU.of U
  .rintro j y σ H' hy ⟨I,g,rfl,rfl⟩;have hj:j<us.length:=by rw[<-M];exact(aB.mp hy).1
   have hm:us[j]? = some us[j]:=by simp[hj]
   obtain⟨c,Pw,Fr,k1,k2,k3,k4⟩:=JY dx hm;generalize us[j]=m at hm k3 k4;rw[hy]at k1;cases k1;refine⟨c,_,rfl,Al.of k2,rfl,_,_,rfl,_,_,rfl,rfl,?_⟩;refine⟨_,rfl,_,rfl,Pw,m.1,rfl,Al.of k3,_,_,rfl,some (.ref Pw),some (.ref Fr),?_,rfl⟩;rw[(CP),hm];show _=[some (V.ref C),some (V.int (JV (Fi (uss.take i)) (us.take j++[m]))),some (V.ref a),some (V.ref Pw),some (V.ref Fr)];unfold JV;rw[(So)]
   rfl
  .rintro σ H' ⟨I,g,rfl,rfl⟩;refine⟨some (.ref a),I,g,?_,rfl⟩;rw[M,(DC),(CP),hu];show _=[some (V.ref C),some (V.int (Fi (uss.take i++[us]))),some (V.ref a),I,g];unfold Fi;rw[(So)]
   rfl
 .rintro σ H' ⟨Z,I,g,rfl,rfl⟩;rw[R,(DC)];exact⟨_,rfl,q⟩
end
theorem QS{c:AD}{Y:IR}{H:Hp}(I:H c=some (.lst Y)):∀ {us:List Ag} {zs:IR},Aq H (us.map Es) zs->AW c H (us.map Es) zs
 |[],zs,h=>by
  have:=h.len;rw[List.map_nil,List.length_nil]at this;rw[List.eq_nil_of_length_eq_zero this];exact .nil
 |m::us,zs,h=>by
  obtain⟨x,t,rfl,h1,h2⟩:=Aq.Xv h;obtain⟨a,P,F,rfl,U,R,M⟩:=DU.mono h1;have ne:∀ {p:AD} {xs:IR},H p=some (.tup xs)->p≠c:=fun hp z=>by subst z;rw[hp]at I;cases I
  have g:∀ps:List Int,AW c H (ps.map .int) GT:=fun ps=>by
   induction ps with
   |nil=>exact .nil
   |cons p ps Z=>exact .cons .int Z
  exact .cons (.tup (ne U) U (.cons (.tup (ne R) R (g _)) (.cons (.tup (ne M) M (.cons .int (.cons .int .nil))) .nil))) (QS I h2)
def kN{H:Hp}{P:AD}{ps:t6}(h:H P=some (.tup GT)):DU H (.tuple (ps.map .int)) (.ref P):=by
 refine .tup h ?_;clear h
 induction ps with
 |nil=>exact .nil
 |cons p ps g=>exact .cons .int g
def Mm(B G:Int)(gr:Nat)(m:Ag):Ag:=(m.1,((m.2.num*B.fdiv (m.2.den:Int)*G^(gr-(Bc m).toNat):Int):Rat))
def DK(B G:Int)(gr:Nat)(us:List Ag):List Ag:=us.map (Mm B G gr)
def nY:Sp:=fun vs H Q _=>∃(a:AD) (xs:IR) (us:List Ag) (B G:Int) (gr n b k:Nat),vs=[.ref a,.int B,.int G,.int (gr:Nat)]/\H a=some (.lst xs)/\Aq H (us.map Es) xs/\us.length<=12/\gr<=3/\(∀m∈us,FM.Fits m.2 n/\0<=Bc m/\Bc m<=gr) /\
 B.natAbs<2^b/\G.natAbs<2^k/\n+b+3*k<=3900/\∀Z H' g,AK H H'->H Z=none->H' Z=some (.lst g)->Aq H' ((DK B G gr us).map Es) g->Q (.ref Z) H'
section
variable{P:F0b}{w:F0c}{K:Fg}{mg:tm}{base:Heap}{f g1:AD}{fd gd1:F0a}
def Ue:Ab ["some","bottom","grain","greatest","terms","powers","part","top"] ["some","bottom","grain","greatest"] (AQ LF):=Be
def Um(F:Fn K mg "whole_poly" LF ["some","bottom","grain","greatest"] f fd)(DQ:Fn K mg "power_of" IW ["base","power"] g1 gd1) (Gr:AH P w K mg base Aa 1 g1 gd1 ["base","power"] U3)(EC:mg "sum" = none):AH P w K mg base Aa 2 f fd ["some","bottom","grain","greatest"] nY:=by
 have sc:=Ue;refine F.F.ok (k:=1) sc BY As
 .obtain⟨a,xs,us,B,G,gr,n,b,k,rfl,_⟩:=h
  rfl
 obtain⟨a,xs,us,B,G,gr,n,b,k,rfl,ha,dx,h12,hgr,hus,hB,hG,hsz,q⟩:=h;have U:xs.length=us.length:=by rw[dx.len,(Ah)]
 refine⟨_,(AG (AX (i:=4) sc.nd rfl AT (Cu AB))
 (AG (Bg aM rfl (Av FS) (HS rfl (Bw (An (i:=5) sc.nd rfl AT) (Bw (An (i:=6) sc.nd rfl AT) F8)))
  (AG (AX (i:=7) sc.nd rfl AT (Ae BD (Ae BD (Ao A5 (pv 6) AJ By) (Ae Dl Fa (Ao A5 (pv 6) AJ By))) (AZ DQ Gr hr rfl (AA IN (AA (Ae HQ (pv 3) (Ar (Lw rfl) rfl EC bS (AA (pv 5) AB))) AB)))))
  (AL (BK (Ij ag au av EX (pv 4) (AA (Eh (AA (pv 5) (AA (Eh (AA (pv 7) (AA AJ AB))) AB))) AB))))))
 (AL (Aj (pv 4))))),?_⟩
 refine⟨BX (show 0<=60 by decide),fun Z hZ=>?_⟩;have e1:=AO hZ (.lst []);have hZ1:upd H Z (.lst []) Z=some (.lst []):=AM;generalize upd H Z (.lst [])=H1 at e1 hZ1;refine⟨_,rfl,a,rfl,⟨_,AU.of (e1 _ _ ha)⟩,CI (xs:=xs) (fun i σ H'=>∃(r5 r6 r7:Option V) (g:IR),σ=[some (.ref a),some (.int B),some (.int G),some (.int (gr:Nat)),some (.ref Z),r5,r6,r7]/\AK H H'/\H' Z=some (.lst g)/\Aq H' ((DK B G gr (us.take i)).map Es) g) ?_ ?_ ?_ ?_⟩
 .exact⟨_,_,_,[],rfl,e1,hZ1,.nil⟩
 .rintro i σ H' _ ⟨r5,r6,r7,g,rfl,e,_⟩;exact AU.of (e _ _ ha)
 .rintro i x σ H2 hx ⟨r5,r6,r7,g,rfl,M,I,dz⟩;have hi:i<us.length:=by rw[<-U];exact(aB.mp hx).1
  have hm:us[i]? = some us[i]:=by simp[hi]
  obtain⟨c,Pw,Fr,k1,k2,k3,k4⟩:=JY dx hm;obtain⟨fm,s0,s1⟩:=hus _ (aI hm);generalize us[i]=m at hm k3 k4 fm s0 s1;rw[hx]at k1;cases k1;have hd:=m.2.den_nz;have hzl:g.length=i:=by rw[dz.len,(Ah),DK,(Ah),(JZ)];lia
  have n2:(B.fdiv (m.2.den:Int)).natAbs<2^b:=aJ (FM.Az _ _) hB;have n3:=FM.A6 fm.1 n2;have n4:(G^(gr-(Bc m).toNat)).natAbs<2^(k*3+1):=Dc (p:=3) hG AC;refine⟨c,_,rfl,Al.of (M _ _ k2),rfl,_,_,rfl,_,_,rfl,rfl,?_⟩;refine⟨_,rfl,_,_,_,_,rfl,rfl,Al.of (M _ _ k4),rfl,_,rfl,_,rfl,_,_,_,_,rfl,rfl,Al.of (M _ _ k4),rfl,_,_,rfl,rfl,⟨by lia,n,by lia,fm.d⟩,_,_,rfl,rfl,D9 fm.1 n2 AC,_,rfl,_,rfl,_,rfl,Pw,m.1,rfl,Al.of (M _ _ k3),_,_,rfl,rfl,G,gr-(Bc m).toNat,k,?_,hG,?_,_,_,rfl,rfl,D9 n3 n4 AC,?_⟩
  .show [V.int G,V.int ((gr:Int)-m.1.sum)]=[V.int G,V.int ((gr-(Bc m).toNat:Nat):Int)]
   congr 3
   unfold Bc at s0 s1 ⊢
   lia
  .have:k*(gr-(Bc m).toNat)<=k*3:=aT k AC
   lia
  refine⟨_,rfl,.inl ⟨rfl,_,AU.of I⟩,_,rfl,_,rfl,BX (show 2<=60 by decide),fun t1 ht1=>?_⟩;generalize hH:upd _ t1 _=H3;obtain⟨e3,d3,_⟩:=iC (ds:=[.int (m.2.num*B.fdiv (m.2.den:Int)*G^(gr-(Bc m).toNat)),.int 1]) hH ht1 (.cons .int (.cons .int .nil));clear hH;refine⟨BX (show 2<=60 by decide),fun t2 ht2=>?_⟩;generalize hH:upd _ t2 _=H4;obtain⟨e4,d4,_⟩:=iC hH ht2 (.cons ((kN (M _ _ k3)).same e3) (.cons d3 .nil));clear hH;have R:=e3.trans e4;have Y:=R _ _ I;have d4:DU H4 (Es (Mm B G gr m)) (.ref t2):=d4;refine⟨Z,g,_,rfl,rfl,Y,Bt (n:=60) AC AS,?_⟩;refine⟨_,_,_,g++[.ref t2],rfl,fun b o zz=>?_,AM,?_⟩
  .rw[AN (AR zz hZ)];exact R _ _ (M _ _ zz)
  .rw[(CP),hm];have dn:Aq H4 ((DK B G gr (us.take i++[m])).map Es) (g++[.ref t2]):=by
    unfold DK;rw[(A4),(A4)];exact(dz.same R).app (.cons d4 .nil)
   exact CT (.but .upd (QS Y dn))
 .rintro σ H2 ⟨r5,r6,r7,g,rfl,M,I,dz⟩;rw[U,(DC)]at dz;exact⟨_,rfl,q Z H2 g M hZ I dz⟩
end
def Cd{H H':Hp}{a:AD}(e:AK H H')(h:H' a=none):H a=none:=by
 cases g:H a with
 |none=>rfl
 |some o=>have:=e _ _ g;rw[h]at this;cases this
theorem YN:∀(us:List Ag) (g:Int),g<=JV g us/\(∀m∈us,Bc m<=JV g us)/\∀c,g<=c->(∀m∈us,Bc m<=c)->JV g us<=c
 |[],g=>⟨Int.le_refl _,fun _ z=>(bC z).elim,fun _ h _=>h⟩
 |m::us,g=>by
  obtain⟨M,U,R⟩:=YN us (if Bc m > g then Bc m else g);have e:JV g (m::us)=JV (if Bc m > g then Bc m else g) us:=rfl;rw[e];have s1:g<=(if Bc m > g then Bc m else g):=by split<;>lia
  have s2:Bc m<=(if Bc m > g then Bc m else g):=by split<;>lia
  refine⟨Int.le_trans s1 M,fun y I=>?_,fun c Y hm=>?_⟩
  .rcases aU.mp I with rfl|I
   .exact Int.le_trans s2 M
   .exact U y I
  .refine R c ?_ fun y I=>hm y (aN _ I);have:=hm m aR;split<;>lia
theorem Tf:∀(uss:Ch) (g:Int),g<=uss.foldl JV g/\(∀us∈uss,∀m∈us,Bc m<=uss.foldl JV g)/\∀c,g<=c->(∀us∈uss,∀m∈us,Bc m<=c)->uss.foldl JV g<=c
 |[],g=>⟨Int.le_refl _,fun _ z=>(bC z).elim,fun _ h _=>h⟩
 |us::uss,g=>by
  obtain⟨a1,a2,a3⟩:=YN us g;obtain⟨M,Y,U⟩:=Tf uss (JV g us);rw[(Qe)];refine⟨Int.le_trans a1 M,fun y I m hm=>?_,fun c R hm=>?_⟩
  .rcases aU.mp I with rfl|I
   .exact Int.le_trans (a2 m hm) M
   .exact Y y I m hm
  .exact U c (a3 c R (hm us aR)) fun y I=>hm y (aN _ I)
def Gk{uss:Ch}{c:Int}(g:1<=c)(h:∀us∈uss,∀m∈us,Bc m<=c):1<=Fi uss/\Fi uss<=c/\∀us∈uss,∀m∈us,Bc m<=Fi uss:=by
 obtain⟨R,M,I⟩:=Tf uss 1;exact⟨R,I c g h,M⟩
def Ax(uss:Ch):Nat:=(Fi uss).toNat
def B7(G:Int)(uss:Ch):List (List Ag):=uss.map (DK (Bi uss) G (Ax uss))
def Gv(uss:Ch)(G:Int):Int:=Bi uss*G^(Ax uss-1)
def Fp{uss:Ch}{n:Nat}(M:uss.length<=4)(h:∀us∈uss,us.length<=12/\∀m∈us,FM.Fits m.2 n):1<=Bi uss/\(Bi uss).natAbs<2^(1+n*48)/\∀us∈uss,∀m∈us,(m.2.den:Int) ∣ Bi uss:=by
 obtain⟨a,b,c⟩:=K3 (W5 h);have R:=Qp (uss:=uss) fun y I=>(h y I).1;refine⟨a,FM.BR b ?_,fun us g m hm=>c _ ?_⟩
 .have:=aT n (show(FP uss).length<=48 by lia)
  lia
 .unfold FP;exact bz.mpr ⟨Kt us,List.mem_map.mpr ⟨us,g,rfl⟩,List.mem_map.mpr ⟨m,hm,rfl⟩⟩
def ZS:Sp:=fun vs H Q _=>∃(C:AD) (cs:IR) (uss:Ch) (G:Int) (k:Nat),vs=[.ref C,.int G]/\LJ H C cs uss 4/\(∀us∈uss,∀m∈us,0<=Bc m/\Bc m<=3)/\G.natAbs<2^k/\k<=1200 /\
 ∀D H' g,AK H H'->H D=none->H' D=some (.lst g)->Aq H' ((B7 G uss).map Bz) g->Q (.ref D) H'
def R5:Sp:=fun vs H Q _=>∃(C:AD) (cs:IR) (uss:Ch) (G:Int) (k:Nat),vs=[.ref C,.int G]/\LJ H C cs uss 4/\(∀us∈uss,∀m∈us,0<=Bc m/\Bc m<=3)/\G.natAbs<2^k/\k<=1200/\∀H',AK H H'->Q (.int (Gv uss G)) H'
section
variable{P:F0b}{w:F0c}{K:Fg}{mg:tm}{base:Heap}{f g1 g2 g3:AD}{fd gd1 gd2 gd3:F0a}
def Rc:Ab ["change","grain","bottom","greatest"] ["change","grain"] (AQ Fc):=Be
def Q8(F:Fn K mg "whole_change" Fc ["change","grain"] f fd)(DP:Fn K mg "speeds_bottom" GU ["change"] g1 gd1)(C3:Fn K mg "greatest_power" Fq ["change"] g2 gd2)(Ib:Fn K mg "whole_poly" LF ["some","bottom","grain","greatest"] g3 gd3) (IQ:AH P w K mg base Aa 3 g1 gd1 ["change"] ej)(Hr:AH P w K mg base Aa 3 g2 gd2 ["change"] fK)(VR:AH P w K mg base Aa 3 g3 gd3 ["some","bottom","grain","greatest"] nY):AH P w K mg base Aa 4 f fd ["change","grain"] ZS:=by
 have sc:=Rc;refine F.F.ok (k:=3) sc BY As
 .obtain⟨C,cs,uss,G,k,rfl,_⟩:=h
  rfl
 obtain⟨C,cs,uss,G,k,rfl,I,hs,hG,hk,q⟩:=h;obtain⟨g1',g3',g2'⟩:=Gk (c:=3) AS fun us hus m hm=>(hs us hus m hm).2;obtain⟨b1,b2,_⟩:=Fp I.len I.EK;have Y:Fi uss=(Ax uss:Int):=by unfold Ax;lia
 have hl4:=I.len;refine⟨_,(AG (AX (i:=2) sc.nd rfl (Or.inr rfl) (AZ DP IQ hr rfl (AA FS AB)))
 (AG (AX (i:=3) sc.nd rfl (Or.inr rfl) (AZ C3 Hr hr rfl (AA FS AB)))
 (AL (Aj (CH [".0","some","bottom","grain","greatest"] 1 [none,none,some 2,some 1,some 3] (Av FS) F9 (fun _ _ _ _ _=>(AZ Ib VR hr rfl (AA Fa (AA IN (AA (pv 3) (AA (pv 4) AB))))))))))),?_⟩
 refine⟨_,rfl,C,cs,uss,4,rfl,I,by decide,fun H1 e1=>?_⟩;refine⟨_,rfl,C,cs,uss,4,rfl,I.same e1,?_⟩;rw[Y];have I:=I.same e1;have hcl:=I.cl;refine⟨_,rfl,C,rfl,⟨_,AU.of I.at_⟩,fun D hD=>Bo (n:=cs.length) (fun i ys H'=>AK H1 H'/\ys.length=i/\AW D H' (((uss.take i).map (DK (Bi uss) G (Ax uss))).map Bz) ys) ⟨AO hD _,rfl,.nil⟩ ?_ ?_⟩
 .rintro i ys H2 hi ⟨R,U,dy⟩ M;have hu:uss[i]? = some (uss[i]' AC):=aG _;obtain⟨a,xs,k1,k2,k3⟩:=JP I.du hu;have g:=aI hu;generalize uss[i]' AC=us at hu k3 g;obtain⟨u12,uf⟩:=I.EK us g;refine⟨⟨cs,.ref a,AU.of (R _ _ I.at_),k1⟩,Bt (n:=60) AC AS,fun x H' y=>?_⟩;obtain⟨rfl,y⟩:=y;have hx:=y cs (AU.of (R _ _ I.at_));rw[k1]at hx;cases hx;unfold B0;refine Ba ⟨_,rfl,_,rfl,_,rfl,_,rfl,a,xs,us,Bi uss,G,Ax uss,4,1+4*48,k,rfl,R _ _ k2,k3.same R,u12,by lia,fun m hm=>⟨uf m hm,(hs us g m hm).1,by rw[<-Y];exact g2' us g m hm⟩,b2,hG,by lia,fun Z H3 zs e3 hZ hZ3 dz=>?_⟩;have hD3:=e3 _ _ M;have nZ:Z≠D:=fun z=>by subst z;rw[M]at hZ;cases hZ
  refine⟨hD3,BG hi ⟨fun b o z=>?_,by simp[U],?_⟩⟩
  .rw[AN (AR z hD)];exact e3 _ _ (R _ _ z)
  .rw[(CP),hu,(A4),(A4)];exact .but .upd ((dy.same e3).app (.cons (.lst nZ hZ3 (QS hD3 dz)) .nil))
 .rintro ys H2 ⟨R,U,dy⟩ M;rw[hcl,(DC)]at dy;exact⟨⟨cs,AU.of (R _ _ I.at_),Nat.le_refl _⟩,q D H2 ys (e1.trans R) (Cd e1 hD) M (CT dy)⟩
def Yb:Ab ["change","grain"] ["change","grain"] (AQ J0):=Be
def ZE(F:Fn K mg "pace_of" J0 ["change","grain"] f fd)(DP:Fn K mg "speeds_bottom" GU ["change"] g1 gd1)(C3:Fn K mg "greatest_power" Fq ["change"] g2 gd2)(DQ:Fn K mg "power_of" IW ["base","power"] g3 gd3) (IQ:AH P w K mg base Aa 3 g1 gd1 ["change"] ej)(Hr:AH P w K mg base Aa 3 g2 gd2 ["change"] fK)(Gr:AH P w K mg base Aa 3 g3 gd3 ["base","power"] U3):AH P w K mg base Aa 4 f fd ["change","grain"] R5:=by
 have sc:=Yb;refine F.F.ok (k:=3) sc BY (fun cdv A outer s H vs Q E M h=>?_)
 .obtain⟨C,cs,uss,G,k,rfl,_⟩:=h
  rfl
 obtain⟨C,cs,uss,G,k,rfl,g,Y,R,hk,q⟩:=h;obtain⟨g1',g3',g2'⟩:=Gk (c:=3) AS fun us I m hm=>(Y us I m hm).2;obtain⟨b1,b2,_⟩:=Fp g.len g.EK;have Z:Fi uss=(Ax uss:Int):=by unfold Ax;lia
 have n4:(G^(Ax uss-1)).natAbs<2^(k*3+1):=Dc (p:=3) R AC;refine⟨_,(AL (Aj (Ae BD (AZ DP IQ M rfl (AA FS AB)) (AZ DQ Gr M rfl (AA Fa (AA (Ae HQ (AZ C3 Hr M rfl (AA FS AB)) AJ) AB)))))),?_⟩;refine⟨_,rfl,C,cs,uss,4,rfl,g,by decide,fun H1 U=>?_⟩;refine⟨_,rfl,_,rfl,C,cs,uss,4,rfl,g.same U,_,_,rfl,rfl,G,Ax uss-1,k,?_,R,?_,_,_,rfl,rfl,D9 b2 n4 AC,?_⟩
 .show [V.int G,V.int (Fi uss-1)]=[V.int G,V.int ((Ax uss-1:Nat):Int)]
  congr 3
  lia
 .have:k*(Ax uss-1)<=k*3:=aT k AC
  lia
 .exact q H1 U
end
def Ck(ps:t6)(k:Nat):t6:=ps.take k++[ps.getD k 0-1]++ps.drop (k+1)
def WV:Sp:=fun vs H Q _=>∃(P:AD) (ps:List Int) (k:Nat),vs=[.ref P,.int k]/\H P=some (.tup GT)/\k<ps.length/\ps.length<=4/\∀(c:AD) H',AK H H'->H' c=some (.tup ((Ck ps k).map V.int))->Q (.ref c) H'
def jP{ps:t6}{k:Nat}(h:k<ps.length):Cs GT none (some (k:Int))++[V.int (ps.getD k 0-1)]++Cs GT (some ((k:Int)+1)) none=(Ck ps k).map V.int:=by
 unfold Cs Ck;rw[show((k:Int)+1)=((k+1:Nat):Int) by lia];simp only[HT.LR,HT.K4,List.length_map,List.drop_zero,Nat.sub_zero,List.map_append,List.map_take,List.map_drop,List.map_cons,List.map_nil];rw[Nat.min_eq_left AC,Nat.min_eq_left AC]
 congr 1
 rw[List.take_of_length_le (by rw[(MS),(Ah)];exact aH _)]
def qO{n:Nat}{e:Int}(h0:0<=e)(h1:e<(n:Int)):¬(HT.BW n 0 none=0/\HT.BW n n (some e)=n):=by
 rintro⟨_,h⟩;rw[show e=((e.toNat:Nat):Int) by lia,HT.K4]at h
 lia
def qM{n:Nat}{e:Int}{hi:uA}(h0:0<=e)(h1:1<=n):¬(HT.BW n 0 (some (e+1))=0/\HT.BW n n hi=n):=by
 rintro⟨h,_⟩;rw[show e+1=(((e+1).toNat:Nat):Int) by lia,HT.K4]at h
 lia
def int_at{ps:t6}{k:Nat}(h:k<ps.length):Fe GT (k:Int)=some (.int (ps.getD k 0)):=by
 have:=FZ (xs:=ps.map V.int) (j:=k) (v:=.int (ps.getD k 0)) (by rw[(BC),List.getElem?_eq_getElem h,(FQ),List.getElem?_eq_getElem h];rfl);exact this
def fu:List Int->Nat
 |[]=>0
 |p::ps=>if p=0 then fu ps+1 else 0
theorem Lo:∀ {ps:List Int},ps.sum≠0->fu ps<ps.length/\ps.getD (fu ps) 0≠0
 |[],h=>absurd rfl h
 |p::ps,h=>by
  unfold fu;by_cases z:p=0
  .subst z;obtain⟨I,g⟩:=Lo (ps:=ps) (by simpa using h);rw[if_pos rfl];exact⟨by rw[(Im)];lia,by simpa using g⟩
  .rw[if_neg z];exact⟨by simp,by simpa using z⟩
theorem XB:∀ {ps:List Int} {k:Nat},k<fu ps->ps.getD k 0=0
 |[],k,h=>by simp[fu]at h
 |p::ps,k,h=>by
  unfold fu at h;by_cases z:p=0
  .rw[if_pos z]at h;cases k with
   |zero=>simpa using z
   |succ k=>simpa using XB (ps:=ps) (k:=k) AC
  .rw[if_neg z]at h;lia
theorem sum_set:∀(ps:List Int) (k:Nat),k<ps.length->(Ck ps k).sum=ps.sum-1
 |[],k,h=>by simp at h
 |p::ps,0,_=>by simp[Ck];lia
 |p::ps,k+1,h=>by
  have:=sum_set ps k (by simpa using h);unfold Ck at this ⊢;simp at this ⊢
  lia
def gA{ps:t6}{k:Nat}(h:k<ps.length):(Ck ps k).length=ps.length:=by unfold Ck;simp;lia
structure Dk(nn:Nat)(ps:List Int):Prop where
 len:ps.length=nn
 nn:∀p∈ps,0<=p
 s3:ps.sum<=3
theorem Fm:∀ {ps:List Int},(∀p∈ps,0<=p)->0<=ps.sum
 |[],_=>by simp
 |p::ps,h=>by
  have:=Fm (ps:=ps) fun q g=>h q (.tail _ g);have:=h p (.head _);simp;lia
def Dk.low{nn:Nat}{ps:t6}(h:Dk nn ps)(M:ps.sum≠0):Dk nn (Ck ps (fu ps)):=by
 obtain⟨I,R⟩:=Lo M;refine⟨(gA I).trans h.len,fun p g=>?_,by rw[sum_set _ _ I];have:=h.s3;lia⟩;unfold Ck at g;rcases aQ.mp g with g|g
 .rcases aQ.mp g with g|g
  .exact h.nn p (bW g)
  .rw[List.mem_singleton.mp g];have:=h.nn (ps.getD (fu ps) 0) (by rw[(FQ),List.getElem?_eq_getElem I];exact aq I)
   lia
 .exact h.nn p (bX g)
def V9:Nat->Nat->List (List Int)
 |0,_=>[[]]
 |n+1,s=>(List.range (s+1)).flatMap fun p=>(V9 n (s-p)).map fun r=>((p:Nat):Int)::r
theorem Wr:∀ {n s:Nat} {ps:List Int},ps.length=n->(∀p∈ps,0<=p)->ps.sum<=(s:Int)->ps∈V9 n s
 |0,s,ps,h,_,_=>by rw[List.eq_nil_of_length_eq_zero h];exact .head _
 |n+1,s,[],h,_,_=>by simp at h
 |n+1,s,p::ps,h,h0,I=>by
  have a:=h0 p (.head _);have b:=Fm fun q g=>h0 q (.tail _ g);rw[(KG)]at I;unfold V9;refine List.mem_flatMap.mpr ⟨p.toNat,List.mem_range.mpr AC,List.mem_map.mpr ⟨ps,Wr (by simpa using h) (fun q g=>h0 q (.tail _ g)) AC,?_⟩⟩;rw[Int.toNat_of_nonneg a]
theorem eE{α:Type}[DecidableEq α]:∀ {ks l:List α},ks.Nodup->(∀p∈ks,p∈l)->ks.length<=l.length
 |[],_,_,_=>ar _
 |k::ks,l,nd,h=>by
  obtain⟨M,I⟩:=cC.mp nd;have hk:=h k (.head _);have:=eE (l:=l.erase k) I fun p g=>(List.mem_erase_of_ne (fun z=>by subst z;exact M g)).mpr (h p (.tail _ g));rw[List.length_erase_of_mem hk]at this;have:=List.length_pos_of_mem hk;rw[(Im)];lia
def RY{nn:Nat}(hn:nn<=4){ks:List t6}(nd:ks.Nodup)(h:∀p∈ks,Dk nn p):ks.length<=35:=by
 have M:ks.length<=(V9 nn 3).length:=eE nd fun p g=>Wr (h p g).len (h p g).nn (h p g).s3;have I:(V9 nn 3).length<=35:=by
  match nn,hn with
  |0,_=>decide
  |1,_=>decide
  |2,_=>decide
  |3,_=>decide
  |4,_=>decide
 lia
structure Ord(uss:Ch)(nn:Nat)(os:List (List Int)):Prop where
 nd:os.Nodup
 ok:∀p∈os,Dk nn p
 has:∀us∈uss,∀m∈us,m.1∈os
 low:∀p∈os,p.sum≠0->Ck p (fu p)∈os
 asc:os.Pairwise fun p q=>p.sum<=q.sum
def gX:Sp:=fun vs H Q _=>∃(P:AD) (ps:List Int),vs=[.ref P]/\H P=some (.tup GT)/\ps.sum≠0/\Q (.int (fu ps)) H
def gS:Sp:=fun vs H Q _=>∃(C:AD) (cs:IR) (uss:Ch) (nn:Nat),vs=[.ref C]/\H C=some (.lst cs)/\Aq H (uss.map Bz) cs/\(∀us∈uss,∀m∈us,Dk nn m.1)/\nn<=4 /\
 ∀(D:AD) H' (L:List (List Int×AD)),AK H H'->H D=none->H' D=some (.lst (L.map fun l=>V.ref l.2))->Ord uss nn (L.map (·.1))->(∀l∈L,H' l.2=some (.tup (l.1.map V.int)))->Q (.ref D) H'
def Yu{a b:t6}(h:a.map (Sum.inl (β:=Str))=b.map Sum.inl):a=b:=(List.map_inj_right (fun x y e=>by injection e)).mp h
def IB(ps:t6):(ps.map (Sum.inl (β:=Str))).map kV=ps.map V.int:=by rw[(HM)];rfl
section
variable{P:F0b}{w:F0c}{K:Fg}{mg:tm}{base:Heap}{f:AD}{fd:F0a}
def XQ:Ab ["powers","k"] ["powers","k"] (AQ K1):=Be
def Xi(F:Fn K mg "one_less" K1 ["powers","k"] f fd):AH P w K mg base Aa 1 f fd ["powers","k"] WV:=by
 have sc:=XQ;refine F.F.ok (k:=0) sc BY As
 .obtain⟨P,ps,k,rfl,_⟩:=h
  rfl
 obtain⟨P,ps,k,rfl,Y,hk,h4,q⟩:=h;have hl:(ps.map V.int).length=ps.length:=bo _;refine⟨_,(AL (Aj (Ae Si (Ae Si (JQ Vj FS K5 (K2 Fa)) (Eh (AA (Ae HQ (Ao A5 FS Fa By) AJ) AB))) (JQ Vj FS (K2 (Ae Cf Fa AJ)) K5)))),?_⟩;refine⟨_,rfl,_,rfl,_,rfl,P,_,rfl,Al.of Y,qO AC AC,fun U g=>?_⟩;have e1:=AO g (.tup (Cs GT none (some (k:Int))));have h1:upd H U (.tup (Cs GT none (some (k:Int)))) U=some (.tup (Cs GT none (some (k:Int)))):=AM;generalize upd H U (.tup (Cs GT none (some (k:Int))))=H1 at e1 h1;refine⟨_,rfl,_,rfl,_,_,_,_,rfl,rfl,Al.of (e1 _ _ Y),int_at hk,_,_,rfl,rfl,BX (show 1<=60 by decide),fun R g=>?_⟩;have e2:=AO g (.tup [V.int (ps.getD k 0-1)]);have h2:upd H1 R (.tup [V.int (ps.getD k 0-1)]) R=some (.tup [V.int (ps.getD k 0-1)]):=AM;generalize upd H1 R (.tup [V.int (ps.getD k 0-1)])=H2 at e2 h2;have c1:=GA GT none (some (k:Int));have c2:=GA GT (some ((k:Int)+1)) none;refine⟨U,R,_,_,rfl,rfl,e2 _ _ h1,h2,BX (by rw[(LL)];lia),fun p3 H3 e3 h3=>?_⟩;have E3:=e1.trans (e2.trans e3);refine⟨_,rfl,_,rfl,_,_,rfl,rfl,_,rfl,P,_,rfl,Al.of (E3 _ _ Y),qM AC AC,fun M g=>?_⟩;have Z:=AO g (.tup (Cs GT (some ((k:Int)+1)) none));have I:upd H3 M (.tup (Cs GT (some ((k:Int)+1)) none)) M=some (.tup (Cs GT (some ((k:Int)+1)) none)):=AM;generalize upd H3 M (.tup (Cs GT (some ((k:Int)+1)) none))=H4 at Z I;refine⟨p3,M,_,_,rfl,rfl,Z _ _ h3,I,BX (by rw[(Ge),(LL)];lia),fun p5 H5 e5 h5=>?_⟩;exact q p5 H5 (E3.trans (Z.trans e5)) (by rw[h5,jP hk])
def Qy:Ab ["powers","k"] ["powers"] (AQ GK):=Be
def tN(n:Nat)(σ:St):Nat:=match σ[1]? with|some (some (V.int l))=>n-l.toNat|_=>0
def Qq(F:Fn K mg "first_unknown" GK ["powers"] f fd):AH P w K mg base Aa 1 f fd ["powers"] gX:=by
 have sc:=Qy;refine F.F.ok (k:=0) sc BY As
 .obtain⟨P,ps,rfl,_⟩:=h
  rfl
 obtain⟨P,ps,rfl,U,M,q⟩:=h;obtain⟨f1,f2⟩:=Lo M;refine⟨_,(AG (AX (i:=1) sc.nd rfl AT AJ)
 (AG (K7 aM (BM K0 (Ao A5 FS Fa By) AJ (Ap _))
  (AL (AX (i:=1) sc.nd rfl AT (Ae Cf Fa AJ))))
 (AL (Aj Fa)))),?_⟩
 refine LW (fun σ H'=>∃k:Nat,σ=[some (.ref P),some (.int (k:Nat))]/\H=H'/\k<=fu ps) (fun σ _=>tN (fu ps) σ) ⟨0,rfl,rfl,Nat.zero_le _⟩ ?_ ?_
 .rintro σ H' ⟨k,rfl,rfl,hk⟩;refine⟨_,rfl,_,rfl,_,_,_,_,rfl,rfl,Al.of U,int_at AC,rfl,_,rfl,Bq (fun c=>?_) (fun c=>?_)⟩
  .have c:ps.getD k 0=0:=by simpa using c
   have g:k<fu ps:=by
    rcases Nat.lt_or_eq_of_le hk with h|h
    .exact h
    .subst h;exact absurd c f2
   refine⟨_,rfl,_,_,rfl,rfl,⟨k+1,rfl,rfl,g⟩,?_⟩;show fu ps-((k:Int)+1).toNat<fu ps-(k:Int).toNat
   lia
  .have c:ps.getD k 0≠0:=by simpa using c
   have:k=fu ps:=by
    rcases Nat.lt_or_eq_of_le hk with h|h
    .exact absurd (XB h) c
    .exact h
   subst this;exact⟨_,rfl,q⟩
 .rintro σ H' Q1 Q2 R ⟨v,e,I,e1,a,b,c,d,h1,h2,h3,h4,x,h5,Z,Y⟩;exact⟨v,e,I,e1,a,b,c,d,h1,h2,h3,h4,x,h5,Z,R _ _ Y⟩
end
def b4(H:Hp)(d:AD)(ks:List t6):Prop:=∃kvs,H d=some (.dT kvs)/\kvs.map (·.1)=ks.map (·.map (Sum.inl (β:=Str)))
def Pd{κ:Type}[DecidableEq κ]{kvs:List (κ×V)}{k:κ}:(Ci kvs k).isSome=true ↔ k∈kvs.map (·.1):=by
 rw[<-JO,List.any_eq_true];constructor
 .rintro⟨x,I,g⟩;exact aL.mpr ⟨x,I,of_decide_eq_true g⟩
 .intro h;obtain⟨x,I,g⟩:=aL.mp h;exact⟨x,I,decide_eq_true g⟩
def PH{ks:List t6}{p:t6}:p.map (Sum.inl (β:=Str))∈ks.map (·.map (Sum.inl (β:=Str))) ↔ p∈ks:=by
 constructor
 .intro h;obtain⟨q,I,g⟩:=aL.mp h;rw[<-Yu g];exact I
 .intro h;exact aL.mpr ⟨p,h,rfl⟩
def WB(d:AD)(H:Hp):Nat:=match H d with|some (.dT kvs)=>64-kvs.length|_=>0
structure Y2(nn:Nat)(ks:List (List Int)):Prop where
 nd:ks.Nodup
 ok:∀p∈ks,Dk nn p
structure YF(ks:List (List Int))(uss:Ch):Prop where
 has:∀us∈uss,∀m∈us,m.1∈ks
 low:∀p∈ks,p.sum≠0->Ck p (fu p)∈ks
section
variable{P:F0b}{w:F0c}{K:Fg}{mg:tm}{base:Heap}{f g1 g2:AD}{fd gd1 gd2:F0a}
def Qw:Ab ["change","needed","some","powers","part","lower"] ["change"] (AQ GQ):=Be
def Qa(F:Fn K mg "powers_needed" GQ ["change"] f fd)(DL:Fn K mg "first_unknown" GK ["powers"] g1 gd1)(Fy:Fn K mg "one_less" K1 ["powers","k"] g2 gd2) (IV:AH P w K mg base Aa 1 g1 gd1 ["powers"] gX)(Mv:AH P w K mg base Aa 1 g2 gd2 ["powers","k"] WV)(EC:mg "sum" = none)(JI:mg "sorted" = none):AH P w K mg base Aa 2 f fd ["change"] gS:=by
 have sc:=Qw;refine F.F.ok (k:=1) sc BY As
 .obtain⟨C,cs,uss,nn,rfl,_⟩:=h
  rfl
 obtain⟨C,cs,uss,nn,rfl,hC,dc,g,hn4,q⟩:=h;have hcl:cs.length=uss.length:=by rw[dc.len,(Ah)]
 have HU:∀ {X:Cx},X.A.units+64<cLine->X.A.units+1<cLine:=fun h=>by lia
 refine⟨_,(AG (AX (i:=1) sc.nd rfl AT Nf)
 (AG (Bg aM rfl (Av FS) (An (i:=2) sc.nd rfl AT)
  (AL (Bg aM rfl (Av IN) (HS rfl (Bw (An (i:=3) sc.nd rfl AT) (Bw (An (i:=4) sc.nd rfl AT) F8)))
   (AG (AX (i:=5) sc.nd rfl AT (pv 3))
   (AL (K7 aM (mq (eA GM (pv 5) Fa))
    (AG (PY GM Fa (pv 5) Ds rfl)
    (AL (B5 (BM Ms (Ar (Lw rfl) rfl EC bS (AA (pv 5) AB)) AJ (Ap _))
     (AL (AX (i:=5) sc.nd rfl AT (AZ Fy Mv hr rfl (AA (pv 5) (AA (AZ DL IV hr rfl (AA (pv 5) AB)) AB)))))
     BL)))))))))
 (AL (Aj (ff rfl rfl JI rfl EC Fa))))),?_⟩
 refine fun d hd=>?_;have e1:=AO hd (.dT []);have k1:b4 (upd H d (.dT [])) d []:=⟨[],AM,rfl⟩;generalize upd H d (.dT [])=H1 at e1 k1;refine⟨_,rfl,C,rfl,⟨_,AU.of (e1 _ _ hC)⟩,CI (xs:=cs) (fun i σ H'=>∃(r2 Y U R:Option V) (ks:List (List Int)),σ=[some IO,some (.ref d),r2,Y,U,R]/\AK H H'/\b4 H' d ks/\Y2 nn ks/\YF ks (uss.take i)) ?_ ?_ ?_ ?_⟩
 .exact⟨_,_,_,_,[],rfl,e1,k1,⟨.nil,(fun _ z=>by cases z)⟩,⟨(fun _ z=>by cases z),(fun _ z=>by cases z)⟩⟩
 .rintro i σ H' _ ⟨r2,Y,U,R,ks,rfl,e,_⟩;exact AU.of (e _ _ hC)
 .rintro i x σ H2 hx ⟨r2,Y,U,R,ks,rfl,e2,k2,g2,c2⟩;have hi:i<uss.length:=by rw[<-hcl];exact(aB.mp hx).1
  have hu:uss[i]? = some uss[i]:=by simp[hi]
  obtain⟨a,xs,ha1,ha2,dx⟩:=JP dc hu;have hup:=g _ (aI hu);generalize uss[i]=us at hu dx hup;rw[hx]at ha1;cases ha1;have hxl:xs.length=us.length:=by rw[dx.len,(Ah)]
  refine⟨_,rfl,a,rfl,⟨_,AU.of (e2 _ _ ha2)⟩,CI (xs:=xs) (fun j σ H'=>∃(Y U R:Option V) (ks:List (List Int)),σ=[some IO,some (.ref d),some (.ref a),Y,U,R]/\AK H H'/\b4 H' d ks/\Y2 nn ks/\YF ks (uss.take i)/\∀m∈us.take j,m.1∈ks) ?_ ?_ ?_ ?_⟩
  .exact⟨_,_,_,ks,rfl,e2,k2,g2,c2,fun _ z=>by cases z⟩
  .rintro j σ H' _ ⟨Y,U,R,ks,rfl,e,_⟩;exact AU.of (e _ _ ha2)
  .rintro j y σ H3 hy ⟨Y,U,R,ks,rfl,Z,k3,g3,c3,m3⟩;have hj:j<us.length:=by rw[<-hxl];exact(aB.mp hy).1
   have hm:us[j]? = some us[j]:=by simp[hj]
   obtain⟨c,Pw,Fr,q1,q2,q3,q4⟩:=JY dx hm;have hpw:=hup _ (aI hm);generalize us[j]=m at hm q3 q4 hpw;rw[hy]at q1;cases q1;refine⟨c,_,rfl,Al.of (Z _ _ q2),rfl,_,_,rfl,_,_,rfl,rfl,?_⟩;refine⟨_,rfl,?_⟩;refine LW (fun σ H'=>∃(lo:AD) (lw:List Int) (ks:List (List Int)),σ=[some IO,some (.ref d),some (.ref a),some (.ref Pw),some (.ref Fr),some (.ref lo)]/\AK H H'/\H' lo=some (.tup (lw.map V.int))/\Dk nn lw/\b4 H' d ks/\Y2 nn ks/\(∀us∈uss.take i,∀m∈us,m.1∈ks)/\(∀m∈us.take j,m.1∈ks)/\(m.1∈ks\/lw=m.1)/\∀p∈ks,p.sum≠0->Ck p (fu p)∈ks\/Ck p (fu p)=lw) (fun _ H'=>WB d H') ?_ ?_ ?_
   .exact⟨Pw,m.1,ks,rfl,Z,Z _ _ q3,hpw,k3,g3,c3.has,m3,.inr rfl,fun p g h0=>.inl (c3.low p g h0)⟩
   .rintro σ H4 ⟨lo,lw,ks,rfl,e4,l4,o4,⟨kvs,I,M⟩,g4,u4,m4,v4,w4⟩;have hlen:kvs.length=ks.length:=by have:=bA List.length M;simpa using this
    have h35:=RY hn4 g4.nd g4.ok;refine⟨_,rfl,_,rfl,d,_,rfl,HI.t (k:=lw.map Sum.inl) I (by rw[IB];exact l4),_,rfl,Bq (fun cc=>?_) (fun cc=>?_)⟩
    .have hno:Ci kvs (lw.map Sum.inl)=none:=by
      cases hv:Ci kvs (lw.map Sum.inl) with
      |none=>rfl
      |some z=>rw[hv]at cc;cases cc
     have hnk:lw ∉ ks:=fun z=>by
      have:=Pd.mpr (by rw[M];exact PH.mpr z:lw.map Sum.inl∈kvs.map (·.1));rw[hno]at this;cases this
     refine⟨_,rfl,_,rfl,d,_,rfl,OY.t (k:=lw.map Sum.inl) I (by rw[IB];exact l4) (Bt (n:=60) AC AS),?_⟩;rw[NY _ hno];have k5:b4 (upd H4 d (.dT (kvs++[(lw.map Sum.inl,V.bl true)]))) d (ks++[lw]):=⟨_,AM,by rw[(A4),(A4),M];rfl⟩;have e5:AK H (upd H4 d (.dT (kvs++[(lw.map Sum.inl,V.bl true)]))):=fun b o z=>by rw[AN (AR z hd)];exact e4 _ _ z
     have l5:upd H4 d (.dT (kvs++[(lw.map Sum.inl,V.bl true)])) lo=some (.tup (lw.map V.int)):=by
      rw[AN (fun z=>by subst z;rw[l4]at I;cases I)];exact l4
     have mu5:WB d (upd H4 d (.dT (kvs++[(lw.map Sum.inl,V.bl true)])))<WB d H4:=by
      unfold WB;rw[AM,I];simp only[List.length_append,List.length_singleton]
      lia
     generalize upd H4 d (.dT (kvs++[(lw.map Sum.inl,V.bl true)]))=H5 at k5 e5 l5 mu5;have g5:Y2 nn (ks++[lw]):=⟨by rw[List.nodup_append];exact⟨g4.nd,by simp,fun a ha b hb=>by rw[List.mem_singleton.mp hb];exact fun z=>hnk (z ▸ ha)⟩,fun p g=>by
      rcases aQ.mp g with h|h
      .exact g4.ok p h
      .rw[List.mem_singleton.mp h];exact o4⟩
     have u5:∀us∈uss.take i,∀m∈us,m.1∈ks++[lw]:=fun us hus m hm=>bO _ (u4 us hus m hm);have m5:∀m∈us.take j,m.1∈ks++[lw]:=fun m hm=>bO _ (m4 m hm);have v5:m.1∈ks++[lw]:=by
      rcases v4 with h|h
      .exact bO _ h
      .rw[h];simp
     have w5:∀p∈ks,p.sum≠0->Ck p (fu p)∈ks++[lw]:=fun p g h0=>by
      rcases w4 p g h0 with h|h
      .exact bO _ h
      .rw[h];simp
     refine⟨_,rfl,lo,lw,rfl,Al.of l5,_,_,rfl,rfl,_,rfl,Bq (fun c6=>?_) (fun c6=>?_)⟩
     .have c6:0<lw.sum:=by simpa using c6
      have c0:lw.sum≠0:=by lia
      obtain⟨f1,_⟩:=Lo c0;refine⟨_,rfl,_,rfl,lo,lw,rfl,l5,c0,lo,lw,fu lw,rfl,l5,f1,by rw[o4.len];exact hn4,fun c7 H7 e7 h7=>?_⟩;obtain⟨kv7,hd7,hk7⟩:=k5;refine⟨⟨c7,_,ks++[lw],rfl,e5.trans e7,h7,o4.low c0,⟨kv7,e7 _ _ hd7,hk7⟩,g5,u5,m5,.inl v5,fun p g h0=>?_⟩,?_⟩
      .rcases aQ.mp g with h|h
       .exact .inl (w5 p h h0)
       .rw[List.mem_singleton.mp h];exact .inr rfl
      .have:WB d H7=WB d H5:=by unfold WB;rw[e7 _ _ hd7,hd7]
       rw[this];exact mu5
     .have c6:¬0<lw.sum:=by simpa using c6
      have c0:lw.sum=0:=by have:=Fm o4.nn;lia
      refine⟨⟨lo,lw,ks++[lw],rfl,e5,l5,o4,k5,g5,u5,m5,.inl v5,fun p g h0=>?_⟩,mu5⟩;rcases aQ.mp g with h|h
      .exact .inl (w5 p h h0)
      .rw[List.mem_singleton.mp h]at h0;exact absurd c0 h0
    .have hlk:lw∈ks:=by
      have:(Ci kvs (lw.map Sum.inl)).isSome=true:=by
       cases hv:Ci kvs (lw.map Sum.inl) with
       |none=>rw[hv]at cc;exact absurd rfl cc
       |some z=>rfl
      have:=Pd.mp this;rw[M]at this;exact PH.mp this
     refine⟨some (.ref Pw),some (.ref Fr),some (.ref lo),ks,rfl,e4,⟨kvs,I,M⟩,g4,⟨u4,fun p g h0=>?_⟩,fun y hy=>?_⟩
     .rcases w4 p g h0 with h|h
      .exact h
      .rw[h];exact hlk
     .rw[(CP),hm]at hy;rcases aQ.mp hy with h|h
      .exact m4 y h
      .have:y=m:=by simpa using h
       subst this;rcases v4 with h|h
       .exact h
       .rw[<-h];exact hlk
   .rintro σ H' Q1 Q2 hq ⟨v,e,w1,e1,a,o,h1,h2,c,h3,h4⟩;exact⟨v,e,w1,e1,a,o,h1,h2,c,h3,hq _ _ h4⟩
  .rintro σ H3 ⟨Y,U,R,ks,rfl,Z,k3,g3,c3,m3⟩;rw[hxl,(DC)]at m3;refine⟨_,_,_,_,ks,rfl,Z,k3,g3,⟨fun vs hvs m hm=>?_,c3.low⟩⟩;rw[(CP),hu]at hvs;rcases aQ.mp hvs with h|h
   .exact c3.has vs h m hm
   .have:vs=us:=by simpa using h
    subst this;exact m3 m hm
 .rintro σ H2 ⟨r2,Y,U,R,ks,rfl,e2,⟨kvs,hd2,hk2⟩,g2,c2⟩;rw[hcl,(DC)]at c2;have hlen:kvs.length=ks.length:=by have:=bA List.length hk2;simpa using this
  have h35:=RY hn4 g2.nd g2.ok;refine⟨_,rfl,d,kvs,ks,rfl,hd2,by lia,hk2,fun D H' L Z _ hD hD' pm pw hL=>?_⟩;refine q D H' L (e2.trans Z) (Cd e2 hD) hD' ⟨pm.nodup_iff.mpr g2.nd,fun p g=>g2.ok p (pm.mem_iff.mp g),fun us hus m hm=>pm.mem_iff.mpr (c2.has us hus m hm),fun p g h0=>pm.mem_iff.mpr (c2.low p (pm.mem_iff.mp g) h0),by rw[List.pairwise_map];exact pw⟩ fun l hl=>Z _ _ (hL l hl)
end
def Bk(f:Nat->Int)(n:Nat):t6:=(List.range n).map f
def conv(f g:Nat->Int)(k:Nat):Int:=(Bk (fun j=>f j*g (k-j)) (k+1)).sum
def ZQ(X:Nat->Nat->Int):Nat->List Int->Nat->Int
 |0,_=>fun k=>if k=0 then 1 else 0
 |n+1,ps=>conv (ZQ X n (Ck ps (fu ps))) (X (fu ps))
def Ef(X:Nat->Nat->Int)(ps:t6):Nat->Int:=ZQ X ps.sum.toNat ps
def Vz{X:Nat->Nat->Int}{ps:t6}(h:ps.sum=0)(k:Nat):Ef X ps k=if k=0 then 1 else 0:=by unfold Ef;rw[h];rfl
def WZ{nn:Nat}{X:Nat->Nat->Int}{ps:t6}(o:Dk nn ps)(h:ps.sum≠0):Ef X ps=conv (Ef X (Ck ps (fu ps))) (X (fu ps)):=by
 obtain⟨f1,_⟩:=Lo h;have h0:=Fm o.nn;obtain⟨n,hn⟩:∃n:Nat,ps.sum=(n:Int)+1:=⟨(ps.sum-1).toNat,by lia⟩;have I:ps.sum.toNat=n+1:=by lia
 have g:(Ck ps (fu ps)).sum.toNat=n:=by rw[sum_set _ _ f1];lia
 unfold Ef;rw[I,g];rfl
def cg{f g:Nat->Int}{n:Nat}(h:∀j,j<n->f j=g j):Bk f n=Bk g n:=bP fun j I=>h j (bU.mp I)
def JW(f:Nat->Int)(n:Nat):Bk f (n+1)=Bk f n++[f n]:=by unfold Bk;rw[(Ny),(A4)];rfl
def Gs(f:Nat->Int)(n:Nat):(Bk f n).length=n:=by unfold Bk;simp
def Mc{f:Nat->Int}{n j:Nat}(h:j<n):Fe ((Bk f n).map V.int) (j:Int)=some (.int (f j)) :=
 FZ (xs:=(Bk f n).map V.int) (j:=j) (v:=.int (f j)) (by unfold Bk;simp[h])
def Yn{f g I g':Nat->Int}{k:Nat}(h1:∀j,j<=k->f j=I j)(M:∀j,j<=k->g j=g' j):conv f g k=conv I g' k:=by
 unfold conv
 rw[cg fun j R=>by rw[h1 j AC,M (k-j) AC]]
theorem Ru{X Y:Nat->Nat->Int}{k:Nat}(h:∀u j,j<=k->X u j=Y u j):∀(n:Nat) (ps:List Int) (j:Nat),j<=k->ZQ X n ps j=ZQ Y n ps j
 |0,_,_,_=>rfl
 |n+1,ps,j,g=>Yn (fun i hi=>Ru h n _ i AC) fun i hi=>h _ i AC
def dY{X Y:Nat->Nat->Int}{k:Nat}(h:∀u j,j<=k->X u j=Y u j)(ps:t6):Ef X ps k=Ef Y ps k:=Ru h _ _ _ (aH _)
def JB(X:Nat->Nat->Int)(us:List Ag)(k:Nat):Int:=(us.map fun m=>m.2.num*Ef X m.1 k).sum
def a7{X Y:Nat->Nat->Int}{k:Nat}(h:∀u j,j<=k->X u j=Y u j)(us:List Ag):JB X us k=JB Y us k:=by
 unfold JB
 congr 1
 exact bP fun m _=>by rw[dY h]
abbrev FU(ps:List Int):List Key:=ps.map (Sum.inl (β:=Str))
def fE:Sp:=fun vs H Q _=>∃(d R P:AD) (k n nl nn m:Nat) (X:Nat->Nat->Int) (ps:List Int) (kvs:IF) (g:IR),vs=[.ref d,.ref R,.ref P,.int (k:Nat)]/\H R=some (.lst g) /\
 (∀u,u<nn->∃a,g[u]? = some (.ref a)/\H a=some (.lst ((Bk (X u) n).map V.int)))/\k<n/\H P=some (.tup GT)/\Dk nn ps/\nn<=4/\H d=some (.dT kvs) /\
 (ps.sum≠0->∃l,Ci kvs (FU (Ck ps (fu ps)))=some (.ref l)/\H l=some (.lst ((Bk (Ef X (Ck ps (fu ps))) nl).map V.int))/\k<nl)/\k<=20 /\
 (∀u j,u<nn->j<=k->(X u j).natAbs<2^m)/\(ps.sum≠0->∀j,j<=k->(Ef X (Ck ps (fu ps)) j).natAbs<2^m)/\m<=400000/\∀H',AK H H'->Q (.int (Ef X ps k)) H'
def fi:Sp:=fun vs H Q _=>∃(a d:AD) (xs:IR) (us:List Ag) (kvs:IF) (X:Nat->Nat->Int) (k nl m:Nat),vs=[.ref a,.ref d,.int (k:Nat)]/\H a=some (.lst xs)/\Aq H (us.map Es) xs/\us.length<=50/\H d=some (.dT kvs) /\
 (∀z∈us,(∃l,Ci kvs (FU z.1)=some (.ref l)/\H l=some (.lst ((Bk (Ef X z.1) nl).map V.int)))/\z.2.num.natAbs<2^m/\(Ef X z.1 k).natAbs<2^m)/\k<nl/\m<=400000/\∀H',AK H H'->Q (.int (JB X us k)) H'
section
variable{P:F0b}{w:F0c}{K:Fg}{mg:tm}{base:Heap}{f g1 g2:AD}{fd gd1 gd2:F0a}
def Uq:Ab ["products","rows","powers","k","unknown","lower"] ["products","rows","powers","k"] (AQ Io):=Be
def Uk(F:Fn K mg "product_at" Io ["products","rows","powers","k"] f fd)(DL:Fn K mg "first_unknown" GK ["powers"] g1 gd1)(Fy:Fn K mg "one_less" K1 ["powers","k"] g2 gd2) (IV:AH P w K mg base Aa 1 g1 gd1 ["powers"] gX)(Mv:AH P w K mg base Aa 1 g2 gd2 ["powers","k"] WV)(EC:mg "sum" = none)(A3:mg "range" = none):AH P w K mg base Aa 2 f fd ["products","rows","powers","k"] fE:=by
 have sc:=Uq;refine F.F.ok (k:=1) sc BY As
 .obtain⟨d,R,P,k,n,nl,nn,m,X,ps,kvs,Z,rfl,_⟩:=h
  rfl
 obtain⟨d,R,P,k,n,nl,nn,m,X,ps,kvs,Z,rfl,hR,I,hkn,hP,U,hn4,hd,hl,hk20,hX,hS,hm,q⟩:=h;refine⟨_,(AG (B5 (BM K0 (Ar (Lw rfl) rfl EC bS (AA IN AB)) AJ (Ap _))
  (AL (Aj (ei (BM K0 (pv 3) AJ (Ap _)) AJ AJ)))
  BL)
 (AG (AX (i:=4) sc.nd rfl (Or.inr rfl) (AZ DL IV hr rfl (AA IN AB)))
 (AG (AX (i:=5) sc.nd rfl (Or.inr rfl) (PF GM FS (AZ Fy Mv hr rfl (AA IN (AA (pv 4) AB))) By))
 (AL (Aj (Ar (QJ rfl) rfl EC bS (AA (CH [".0","j","lower","rows","unknown","k"] 1 [none,none,some 5,some 1,some 4,some 3] (C4 rfl A3 (AA (Ae Cf (pv 3) AJ) AB)) F9 (fun _ _ _ _ _=>(Ae BD (Ao NP IN Fa By) (Ao NP (Ao NP (pv 3) (pv 4) By) (Ae HQ (pv 5) Fa) By)))) AB))))))),?_⟩
 refine⟨_,rfl,P,ps,rfl,Al.of hP,rfl,_,rfl,Bq (fun c=>?_) (fun c=>?_)⟩
 .have c:ps.sum=0:=by simpa using c
  have:=q H (fun _ _ h=>h);rw[Vz c]at this;refine⟨_,rfl,rfl,_,rfl,Bq (fun M=>?_) (fun M=>?_)⟩
  .have M:(k:Int)=0:=by simpa using M
   rw[if_pos AC]at this;exact this
  .have M:¬(k:Int)=0:=by simpa using M
   rw[if_neg AC]at this;exact this
 .have c:ps.sum≠0:=by simpa using c
  obtain⟨f1,_⟩:=Lo c;obtain⟨l,v1,v2,v3⟩:=hl c;refine⟨_,rfl,P,ps,rfl,hP,c,?_⟩;refine⟨_,rfl,_,rfl,_,rfl,P,ps,fu ps,rfl,hP,f1,by rw[U.len];exact hn4,fun c1 H1 e1 h1=>?_⟩;have hg:HI H1 d (.ref c1) (some (.ref l)):=by
   have:=HI.t (k:=FU (Ck ps (fu ps))) (e1 _ _ hd) (by rw[IB];exact h1);rw[v1]at this;exact this
  refine⟨d,.ref l,rfl,hg,?_⟩;obtain⟨ra,w1,w2⟩:=I (fu ps) (by rw[<-U.len];exact f1);refine⟨_,rfl,_,_,rfl,rfl,(k:Int)+1,rfl,by lia,by lia,fun D hD=>Bo (n:=((k:Int)+1).toNat) (fun i ys H'=>AK H1 H'/\ys=(Bk (fun j=>Ef X (Ck ps (fu ps)) j*X (fu ps) (k-j)) i).map V.int) ⟨AO hD _,rfl⟩ ?_ ?_⟩
  .rintro i ys H2 hi ⟨Y,rfl⟩ g;have E2:=e1.trans Y;have hik:i<=k:=by lia
   refine⟨hi,Bt (n:=60) (by rw[(Ah),Gs];lia) AS,fun x H' y=>?_⟩;obtain⟨rfl,rfl⟩:=y;unfold B0;have hix:(0:Int)+(i:Nat)=(i:Nat):=by lia
   have hki:(k:Int)-((0:Int)+(i:Nat))=((k-i:Nat):Int):=by lia
   refine Ba ⟨_,rfl,_,rfl,_,_,_,_,rfl,rfl,AU.of (E2 _ _ v2),(by rw[hix];exact Mc AC),_,rfl,_,rfl,_,_,_,_,rfl,rfl,AU.of (E2 _ _ hR),FZ w1,_,rfl,_,rfl,_,_,rfl,rfl,_,_,_,_,rfl,rfl,AU.of (E2 _ _ w2),(by rw[hki];exact Mc AC),_,_,rfl,rfl,D9 (hS c i hik) (hX _ _ (by rw[<-U.len];exact f1) AC) AC,g,BG hi ⟨fun b o z=>?_,?_⟩⟩
   .rw[AN (AR z hD)];exact Y _ _ z
   .rw[JW,(A4)];rfl
  .rintro ys H2 ⟨Y,rfl⟩ g;refine⟨aH _,D,_,rfl,AU.of g,?_⟩;have:=q H2 (e1.trans Y);rw[WZ U c]at this;exact this
def XY:Ab ["some","products","k"] ["some","products","k"] (AQ Km):=Be
def XU(F:Fn K mg "speed_at" Km ["some","products","k"] f fd)(EC:mg "sum" = none):AH P w K mg base Aa 2 f fd ["some","products","k"] fi:=by
 have sc:=XY;refine F.F.ok (k:=1) sc BY As
 .obtain⟨a,d,xs,us,kvs,X,k,nl,m,rfl,_⟩:=h
  rfl
 obtain⟨a,d,xs,us,kvs,X,k,nl,m,rfl,ha,dx,h50,hd,hz,U,hm,q⟩:=h;have R:xs.length=us.length:=by rw[dx.len,(Ah)]
 refine⟨_,(AL (Aj (Ar (QJ rfl) rfl EC bS (AA (N1 [".0","powers","part","k","products"] 1 2 [none,none,none,some 2,some 1] (Av FS) F9 (fun _ _ _ _ _=>(Ae BD (Ao EE IN AJ By) (Ao NP (PF GM (pv 4) Fa By) (pv 3) By)))) AB)))),?_⟩;refine⟨_,rfl,a,rfl,⟨_,AU.of ha⟩,fun D hD=>Hk (n:=xs.length) (fun i ys H'=>AK H H'/\ys=((us.take i).map fun z=>z.2.num*Ef X z.1 k).map V.int) ⟨AO hD _,rfl⟩ ?_ ?_⟩
 .rintro i ys H2 hi ⟨g,rfl⟩ I;have M:us[i]? = some (us[i]' AC):=aG _;obtain⟨c,Pw,Fr,k1,k2,k3,k4⟩:=JY dx M;obtain⟨⟨l,v1,Z⟩,n1,n2⟩:=hz _ (aI M);generalize us[i]' AC=z at M k3 k4 v1 Z n1 n2;refine⟨⟨xs,.ref c,AU.of (g _ _ ha),k1⟩,Bt (n:=60) (by rw[(Ah),(Ah),(JZ)];lia) AS,fun x H' y=>?_⟩;obtain⟨rfl,y⟩:=y;have hx:=y xs (AU.of (g _ _ ha));rw[k1]at hx;cases hx;refine⟨c,_,_,rfl,Al.of (g _ _ k2),?_⟩;unfold B0;have hg:HI H' d (.ref Pw) (some (.ref l)):=by
   have:=HI.t (k:=FU z.1) (g _ _ hd) (by rw[IB];exact g _ _ k3);rw[v1]at this;exact this
  refine Ba ⟨_,rfl,_,_,_,_,rfl,rfl,Al.of (g _ _ k4),rfl,_,rfl,_,rfl,d,_,rfl,hg,_,rfl,_,_,_,_,rfl,rfl,AU.of (g _ _ Z),Mc U,_,_,rfl,rfl,D9 n1 n2 AC,I,BG hi ⟨fun b o Y=>?_,?_⟩⟩
  .rw[AN (AR Y hD)];exact g _ _ Y
  .rw[(CP),M,(A4),(A4)];rfl
 .rintro ys H2 ⟨g,rfl⟩ I;rw[R,(DC)]at I;exact⟨⟨xs,AU.of (g _ _ ha),Nat.le_refl _⟩,D,_,rfl,AU.of I,q H2 g⟩
end
def VI(x0:Nat->Int)(uss:Ch)(F:Int):Nat->Nat->Nat->Int
 |0=>fun u _=>x0 u
 |k+1=>fun u j=>if j<=k then VI x0 uss F k u j else JB (VI x0 uss F k) (uss.getD u []) k*F.fdiv ((k:Int)+1)
def grow(x0:Nat->Int)(uss:Ch)(F:Int)(u j:Nat):Int:=VI x0 uss F j u j
theorem YE{x0:Nat->Int}{uss:Ch}{F:Int}:∀ {k j:Nat} (u:Nat),j<=k->VI x0 uss F k u j=grow x0 uss F u j
 |0,j,u,h=>by rw[Nat.le_zero.mp h];rfl
 |k+1,j,u,h=>by
  by_cases hk:j<=k
  .show(if j<=k then _ else _)=_;rw[if_pos hk];exact YE u hk
  .rw[show j=k+1 by lia];rfl
def Th{x0:Nat->Int}{uss:Ch}{F:Int}(u k:Nat):grow x0 uss F u (k+1)=JB (grow x0 uss F) (uss.getD u []) k*F.fdiv ((k:Int)+1):=by
 show(if k+1<=k then _ else _)=_;rw[if_neg AC,a7 fun u j g=>YE u g]
def KZ(H0 H:Hp)(no:AD->Prop)(I:AD)(nn n:Nat)(X:Nat->Nat->Int):Prop:=∃g:List V,H I=some (.lst g)/\g.length=nn/\∀u,u<nn->∃a,g[u]? = some (.ref a)/\H a=some (.lst ((Bk (X u) n).map V.int))/\H0 a=none/\¬no a
def S8(H0 g:Hp)(no:AD->Prop)(D:AD)(n:Nat)(X:Nat->Nat->Int)(i:Nat)(ys:uD)(H':Hp):Prop:=AK g H'/\ys.length=i/\∀u,u<i->∃a,ys[u]? = some (.ref a)/\H' a=some (.lst ((Bk (X u) n).map V.int))/\H0 a=none/\¬no a/\a≠D
def Lq{H0 R I:Hp}{no:AD->Prop}{D p:AD}{n i:Nat}{X:Nat->Nat->Int}{ys:uD}(hD:R D=none)(e3:AK R I)(hD3:I D=some Id)(Y:ys.length=i)(h:∀u,u<i->∃a,ys[u]? = some (.ref a)/\I a=some (.lst ((Bk (X u) n).map V.int))/\H0 a=none/\¬no a/\a≠D) (hp:I p=some (.lst ((Bk (X i) n).map V.int)))(h0:H0 p=none)(hn:¬no p)(g:p≠D):S8 H0 R no D n X (i+1) (ys++[.ref p]) (upd I D (.lst (ys++[.ref p]))):=by
 refine⟨fun b o z=>?_,by simp[Y],fun u hu=>?_⟩
 .rw[AN (AR z hD)];exact e3 _ _ z
 .rcases Nat.lt_or_eq_of_le (Nat.le_of_lt_succ hu) with M|M
  .obtain⟨a,k1,k2,k3,Z,U⟩:=h u M;exact⟨a,by rw[List.getElem?_append_left AC];exact k1,by rw[AN U];exact k2,k3,Z,U⟩
  .subst M;exact⟨p,by rw[List.getElem?_append_right AC];simp[Y],by rw[AN g];exact hp,h0,hn,g⟩
def M1{H0 Z H':Hp}{no:AD->Prop}{D:AD}{n nn:Nat}{X:Nat->Nat->Int}{ys:uD}(h:S8 H0 Z no D n X nn ys H')(Y:H' D=some Id):KZ H0 H' no D nn n X :=
 ⟨ys,Y,h.2.1,fun u U=>let⟨a,R,M,I,g,_⟩:=h.2.2 u U;⟨a,R,M,I,g⟩⟩
def jB(x:Int):PD:=.tuple [.int x,.int 1]
structure fk(uss:Ch)(x0:List Int)(F:Int)(most nn m:Nat):Prop where
 n4:nn<=4
 len:uss.length=nn
 Gi:x0.length=nn
 Ly:most<=19
 HB:∀us∈uss,us.length<=50
 pw:∀us∈uss,∀z∈us,Dk nn z.1
 num:∀us∈uss,∀z∈us,z.2.num.natAbs<2^m
 xs:∀u k,u<nn->k<=most->(grow (x0.getD · 0) uss F u k).natAbs<2^m
 qx:∀ps,Dk nn ps->∀k,k<most->(Ef (grow (x0.getD · 0) uss F) ps k).natAbs<2^m
 GH:∀us∈uss,∀k,k<most->(JB (grow (x0.getD · 0) uss F) us k).natAbs<2^m
 fin:F.natAbs<2^m
 m4:m<=4000
def oQ:Sp:=fun vs H Q _=>∃(C S:AD) (cs ss:IR) (uss:Ch) (x0:List Int) (F:Int) (most nn m:Nat),vs=[.ref C,.ref S,.int (most:Nat),.int F]/\H C=some (.lst cs)/\Aq H (uss.map Bz) cs/\H S=some (.lst ss)/\Aq H (x0.map jB) ss/\fk uss x0 F most nn m /\
 ∀(D:AD) H',AK H H'->H D=none->KZ H H' (fun _=>False) D nn (most+1) (grow (x0.getD · 0) uss F)->Q (.ref D) H'
structure lF(H1 H:Hp)(d:Addr)(kvs:IF)(os:List (List Int))(ls:List Int->Addr):Prop where
 at_:H d=some (.dT kvs)
 key:kvs.map (·.1)=os.map FU
 val:∀p∈os,Ci kvs (FU p)=some (.ref (ls p))
 new:∀p∈os,H1 (ls p)=none/\ls p≠d
 inj:∀p∈os,∀q∈os,ls p=ls q->p=q
def Xm{uss:Ch}{nn:Nat}{os:List t6}(o:Ord uss nn os){i:Nat}{p:t6}(hi:os[i]? = some p)(h:p.sum≠0):Ck p (fu p)∈os.take i:=by
 have hm:=o.low p (aI hi) h;obtain⟨j,g⟩:=ah hm;obtain⟨f1,_⟩:=Lo h;have Y:=sum_set p (fu p) f1;have R:=(aB.mp g).1;have U:=(aB.mp hi).1;have M:j<i:=by
  rcases Nat.lt_trichotomy j i with I|I|I
  .exact I
  .subst I;rw[hi]at g;have g:=ao g;rw[<-g]at Y;lia
  .have:=(List.pairwise_iff_getElem.mp o.asc) i j U R I;rw[(aB.mp hi).2,(aB.mp g).2]at this
   lia
 exact aI (i:=j) (by rw[List.getElem?_take,if_pos M];exact g)
def Bp{os:List t6}{i:Nat}{p q:t6}(h:os[i]? = some p):q∈os.take (i+1) ↔ q∈os.take i\/q=p:=by
 rw[(CP),h,List.mem_append];simp
def SN{os:List t6}{i:Nat}{p:t6}(nd:os.Nodup)(h:os[i]? = some p):p ∉ os.take i:=fun z=>by
 obtain⟨j,g⟩:=ah z;rw[List.getElem?_take]at g;split at g
 .rename_i I;have R:=(aB.mp h);have M:=(aB.mp g);have:=(List.pairwise_iff_getElem.mp nd) j i M.1 R.1 I;rw[R.2,M.2]at this;exact this rfl
 .cases g
section
variable{P:F0b}{w:F0c}{K:Fg}{mg:tm}{base:Heap}{f g1 g2 g3:AD}{fd gd1 gd2 gd3:F0a}
def Ua:Ab ["change","start","most","finer","rows","order","products","powers","k","speeds"] ["change","start","most","finer"] (AQ K8):=Be
def US(F:Fn K mg "whole_rows" K8 ["change","start","most","finer"] f fd)(DN:Fn K mg "powers_needed" GQ ["change"] g1 gd1)(Eg:Fn K mg "product_at" Io ["products","rows","powers","k"] g2 gd2)(Fx:Fn K mg "speed_at" Km ["some","products","k"] g3 gd3) (Iu:AH P w K mg base Aa 2 g1 gd1 ["change"] gS)(Lf:AH P w K mg base Aa 2 g2 gd2 ["products","rows","powers","k"] fE)(Mx:AH P w K mg base Aa 2 g3 gd3 ["some","products","k"] fi)(A3:mg "range" = none)(Et:mg "zip" = none):AH P w K mg base Aa 3 f fd ["change","start","most","finer"] oQ:=by
 have sc:=Ua;refine F.F.ok (k:=2) sc BY As
 .obtain⟨C,S,cs,ss,uss,x0,F,most,nn,m,rfl,_⟩:=h
  rfl
 obtain⟨C,S,cs,ss,uss,x0,F,most,nn,m,rfl,hC,dc,hS,ds,ok,q⟩:=h;obtain⟨nn4,hul,hxl,hmost,hfew,hpw,hnum,hxs,hser,hspd,hF,m4⟩:=ok;have hcl:cs.length=uss.length:=by rw[dc.len,(Ah)]
 have hsl:ss.length=x0.length:=by rw[ds.len,(Ah)]
 generalize hX:grow (x0.getD · 0) uss F=X at hxs hser hspd q;refine⟨_,(AG (FA (i:=4) [".0","place"] 1 [none,none] sc.nd rfl rfl (Av Fa) F9 (fun _ _ _ _ _=>(Cu (AA (Ao EE Fa AJ By) AB))))
 (AG (AX (i:=5) sc.nd rfl AT (AZ DN Iu hr rfl (AA FS AB)))
 (AG (AX (i:=6) sc.nd rfl (Or.inr rfl) Nf)
 (AG (Bg aM rfl (Av (pv 5)) (An (i:=7) sc.nd rfl AT)
  (AL (PY GM (pv 6) (pv 7) (Cu AB) rfl)))
 (AG (Bg aM rfl (C4 rfl A3 (AA IN AB)) (An (i:=8) sc.nd rfl (Or.inr rfl))
  (AG (Bg aM rfl (Av (pv 5)) (An (i:=7) sc.nd rfl AT)
   (AL (BK (Ij ag au av EX (PF GM (pv 6) (pv 7) By) (AA (AZ Eg Lf hr rfl (AA (pv 6) (AA (pv 4) (AA (pv 7) (AA (pv 8) AB))))) AB)))))
  (AG (FA (i:=9) [".0","some","products","k"] 1 [none,none,some 6,some 8] sc.nd rfl rfl (Av FS) F9 (fun _ _ _ _ _=>(AZ Fx Mx hr rfl (AA Fa (AA IN (AA (pv 3) AB))))))
  (AL (IJ (i:=4) [".0","row","speed","finer","k"] 1 2 [none,none,none,some 3,some 8] sc.nd rfl rfl (Nz rfl Et (AA (pv 4) (AA (pv 9) AB))) F9 (fun _ _ _ _ _=>(Ae Mk Fa (Cu (AA (Ae BD IN (Ae Dl (pv 3) (Ae Cf (pv 4) AJ))) AB)))))))))
 (AL (Aj (pv 4)))))))),?_⟩
 refine⟨_,rfl,S,rfl,⟨_,AU.of hS⟩,fun D0 hD0=>Bo (n:=ss.length) (S8 H H (fun _=>False) D0 1 X) ⟨AO hD0 _,rfl,fun u M=>absurd M AC⟩ ?_ ?_⟩
 .rintro i ys H1 hi ⟨e1,hyl,hy⟩ hD1;have hx:x0[i]? = some (x0[i]' AC):=aG _;obtain⟨v,k1,k2⟩:=ds.get (i:=i) (d:=jB (x0[i]' AC)) (by rw[(BC),hx];rfl);obtain⟨t,xs,rfl,k3,k4⟩:=k2.cw;obtain⟨y1,y2,rfl,k5,k6⟩:=k4.OC;obtain⟨N5,k5⟩:=k5;have k5:=k5 N5 (aH _);rw[Dt]at k5;subst k5;refine⟨⟨ss,.ref t,AU.of (e1 _ _ hS),k1⟩,Bt (n:=60) AC AS,fun x H' y=>?_⟩;obtain⟨rfl,y⟩:=y;have hx':=y ss (AU.of (e1 _ _ hS));rw[k1]at hx';cases hx';unfold B0;refine Ba ⟨_,rfl,_,_,_,_,rfl,rfl,Al.of (e1 _ _ k3),rfl,BX (show 1<=60 by decide),fun p g=>?_⟩;have ep:=AO g (.lst [V.int (x0[i]' AC)]);have npD:p≠D0:=fun z=>by subst z;rw[hD1]at g;cases g
  have hX0:X i 0=x0[i]' AC:=by
   rw[<-hX];show x0.getD i 0=_;rw[(FQ),hx];rfl
  refine⟨ep _ _ hD1,BG hi (Lq hD0 (e1.trans ep) (ep _ _ hD1) hyl (fun u M=>?_) ?_ (Cd e1 g) (fun z=>z) npD)⟩
  .obtain⟨a,j1,j2,j3⟩:=hy u M;exact⟨a,j1,ep _ _ j2,j3⟩
  .rw[AM,JW,hX0];rfl
 rintro ys0 H1 mk0 hD1;have e1:=mk0.1;refine⟨⟨ss,AU.of (e1 _ _ hS),Nat.le_refl _⟩,?_⟩;rw[hsl,hxl]at mk0;have r1:=M1 mk0 hD1;clear mk0 hD1;refine⟨_,rfl,C,cs,uss,nn,rfl,e1 _ _ hC,dc.same e1,hpw,nn4,fun O H2 L e2 hO hO2 ord hL=>?_⟩;have E2:=e1.trans e2;generalize hos:L.map (·.1)=os at ord;have hLo:∀(i:Nat) (p:List Int),os[i]? = some p->∃a:AD,(L.map fun l=>V.ref l.2)[i]? = some (V.ref a)/\H2 a=some (.tup (p.map V.int)):=fun i p g=>by
  rw[<-hos,(BC)]at g;obtain⟨l,h1,h2⟩:=aF.mp g;subst h2;exact⟨l.2,by rw[(BC),h1];rfl,hL l (aI h1)⟩
 have hLl:(L.map fun l=>V.ref l.2).length=os.length:=by rw[<-hos];simp
 have h35:=RY nn4 ord.nd ord.ok;generalize (L.map fun l=>V.ref l.2)=ov at hO2 hLo hLl;clear hL hos;refine fun d hd=>?_;have e3:=AO hd (.dT []);have hd3:upd H2 d (.dT []) d=some (.dT []):=AM;have hd2:=hd;generalize upd H2 d (.dT [])=H3 at e3 hd3;refine⟨_,rfl,O,rfl,⟨_,AU.of (e3 _ _ hO2)⟩,CI (xs:=ov) (fun i σ H'=>∃(r7 r8 r9:Option V) (kvs:IF) (ls:List Int->AD),σ=[some IO,some (.ref S),some (.int (most:Nat)),some (.int F),some (.ref D0),some (.ref O),some (.ref d),r7,r8,r9]/\AK H2 H'/\lF H2 H' d kvs (os.take i) ls/\∀p∈os.take i,H' (ls p)=some (.lst [])) ?_ ?_ ?_ ?_⟩
 .exact⟨_,_,_,[],fun _=>0,rfl,e3,⟨hd3,rfl,(fun _ z=>by cases z),(fun _ z=>by cases z),(fun _ z=>by cases z)⟩,(fun _ z=>by cases z)⟩
 .rintro i σ H' _ ⟨r7,r8,r9,kvs,ls,rfl,e,_⟩;exact AU.of (e _ _ hO2)
 .rintro i x σ H4 hx ⟨r7,r8,r9,kvs,ls,rfl,e4,pr,hem⟩;have hi:i<os.length:=by rw[<-hLl];exact(aB.mp hx).1
  have g:os[i]? = some os[i]:=by simp[hi]
  obtain⟨a,k1,k2⟩:=hLo i _ g;have hnt:=SN ord.nd g;generalize os[i]=p at g k2 hnt;rw[hx]at k1;cases k1;have hno:Ci kvs (FU p)=none:=by
   cases hv:Ci kvs (FU p) with
   |none=>rfl
   |some z=>
    have:=Pd.mp (show(Ci kvs (FU p)).isSome=true by rw[hv];rfl);rw[pr.key]at this;exact absurd (PH.mp this) hnt
  have hkl:kvs.length=i:=by have:=bA List.length pr.key;simp at this;lia
  refine⟨BX (show 0<=60 by decide),fun l hl=>?_⟩;have el:=AO hl (.lst []);have hdl:l≠d:=fun z=>by subst z;rw[pr.at_]at hl;cases hl
  refine⟨_,rfl,_,rfl,d,_,rfl,OY.t (k:=FU p) (el _ _ pr.at_) (by rw[IB];exact el _ _ (e4 _ _ k2)) (Bt (n:=60) AC AS),?_⟩;rw[NY _ hno];have hls:∀z∈os.take i,ls z≠l:=fun z hz y=>by rw[<-y,hem z hz]at hl;cases hl
  refine⟨_,_,_,kvs++[(FU p,.ref l)],fun z=>if z=p then l else ls z,rfl,fun b o z=>?_,⟨AM,?_,fun z hz=>?_,fun z hz=>?_,fun y hy z hz=>?_⟩,fun z hz=>?_⟩
  .rw[AN (AR z hd2)];exact el _ _ (e4 _ _ z)
  .rw[(A4),pr.key,(CP),g,(A4)];rfl
  .rw[J8 _ _ _ _ hno];by_cases y:z=p
   .rw[if_pos (by rw[y]),if_pos y]
   .rw[if_neg fun w=>y (Yu w),if_neg y];rcases(Bp g).mp hz with h|h
    .exact pr.val z h
    .exact absurd h y
  .by_cases y:z=p
   .rw[if_pos y];exact⟨Cd e4 hl,hdl⟩
   .rw[if_neg y];rcases(Bp g).mp hz with h|h
    .exact pr.new z h
    .exact absurd h y
  .rcases(Bp g).mp hy with h1|h1<;>rcases(Bp g).mp hz with h2|h2
   .have n1:y≠p:=fun w=>hnt (w ▸ h1);have n2:z≠p:=fun w=>hnt (w ▸ h2);rw[if_neg n1,if_neg n2];exact pr.inj y h1 z h2
   .have n1:y≠p:=fun w=>hnt (w ▸ h1);rw[if_neg n1,if_pos h2];exact fun w=>absurd w (hls y h1)
   .have n2:z≠p:=fun w=>hnt (w ▸ h2);rw[if_pos h1,if_neg n2];exact fun w=>absurd w.symm (hls z h2)
   .exact fun _=>h1.trans h2.symm
  .show upd _ d _ (if z=p then l else ls z)=_;by_cases y:z=p
   .rw[if_pos y,AN hdl,AM]
   .rw[if_neg y];rcases(Bp g).mp hz with h|h
    .rw[AN (pr.new z h).2];exact el _ _ (hem z h)
    .exact absurd h y
 rintro σ H4 ⟨r7,r8,r9,kvs,ls,rfl,e4,pr,hem⟩;rw[hLl,(DC)]at pr hem;have nlsD:∀p∈os,H2 (ls p)=none:=fun p g=>(pr.new p g).1;have r4:KZ H H4 (fun a=>∃p∈os,a=ls p) D0 nn 1 X:=by
  obtain⟨Z,k1,k2,k3⟩:=r1;refine⟨Z,e4 _ _ (e2 _ _ k1),k2,fun u M=>?_⟩;obtain⟨a,j1,j2,j3,_⟩:=k3 u M;refine⟨a,j1,e4 _ _ (e2 _ _ j2),j3,?_⟩;rintro⟨p,g,rfl⟩;have:=e2 _ _ j2;rw[nlsD p g]at this;cases this
 have nD0:∀p∈os,ls p≠D0:=fun p g z=>by
  obtain⟨Z,k1,_⟩:=r1;have:=e2 _ _ k1;rw[<-z,nlsD p g]at this;cases this
 have hem4:∀p∈os,H4 (ls p)=some (.lst ((Bk (Ef X p) 0).map V.int)):=hem;clear hem;refine⟨_,rfl,(most:Int),rfl,by lia,by lia,GY (n:=(most:Int).toNat) (fun k σ H'=>∃(Ra:AD) (r7 r8 r9:Option V),σ=[some IO,some (.ref S),some (.int (most:Nat)),some (.int F),some (.ref Ra),some (.ref O),some (.ref d),r7,r8,r9]/\AK H2 H'/\H' d=some (.dT kvs)/\KZ H H' (fun a=>∃p∈os,a=ls p) Ra nn (k+1) X/\H Ra=none/\(∀p∈os,ls p≠Ra)/\∀p∈os,H' (ls p)=some (.lst ((Bk (Ef X p) k).map V.int))) ?_ ?_ ?_⟩
 .exact⟨D0,_,_,_,rfl,e4,pr.at_,r4,hD0,nD0,hem4⟩
 .rintro k σ H5 hk ⟨Ra,r7,r8,r9,rfl,e5,hd5,r5,hRa,nRa,pl5⟩;have hkm:k<most:=by lia
  have hk0:(0:Int)+(k:Nat)=(k:Nat):=by lia
  rw[hk0];refine⟨_,rfl,O,rfl,⟨_,AU.of (e5 _ _ hO2)⟩,CI (xs:=ov) (fun i σ H'=>∃(r7 r9:Option V),σ=[some IO,some (.ref S),some (.int (most:Nat)),some (.int F),some (.ref Ra),some (.ref O),some (.ref d),r7,some (.int (k:Nat)),r9]/\AK H2 H'/\H' d=some (.dT kvs)/\KZ H H' (fun a=>∃p∈os,a=ls p) Ra nn (k+1) X/\∀p∈os,H' (ls p)=some (.lst ((Bk (Ef X p) (if p∈os.take i then k+1 else k)).map V.int))) ?_ ?_ ?_ ?_⟩
  .exact⟨_,_,rfl,e5,hd5,r5,fun p g=>by rw[if_neg Do];exact pl5 p g⟩
  .rintro i σ H' _ ⟨r7,r9,rfl,e,_⟩;exact AU.of (e _ _ hO2)
  .rintro i x σ H6 hx ⟨r7,r9,rfl,e6,hd6,r6,R⟩;have hi:i<os.length:=by rw[<-hLl];exact(aB.mp hx).1
   have g:os[i]? = some os[i]:=by simp[hi]
   obtain⟨a,k1,k2⟩:=hLo i _ g;have hnt:=SN ord.nd g;have Y:=aI g;generalize os[i]=p at g k2 hnt Y;rw[hx]at k1;cases k1;have hpo:=ord.ok p Y;have l6:=R p Y;rw[if_neg hnt]at l6;have hg:HI H6 d (.ref a) (some (.ref (ls p))):=by
    have:=HI.t (k:=FU p) hd6 (by rw[IB];exact e6 _ _ k2);rw[pr.val p Y]at this;exact this
   obtain⟨Z,q1,q2,q3⟩:=r6;refine⟨_,rfl,_,rfl,d,.ref (ls p),rfl,hg,.inl ⟨rfl,_,AU.of l6⟩,_,rfl,_,rfl,_,rfl,_,rfl,d,Ra,a,k,k+1,k+1,nn,m,X,p,kvs,Z,rfl,q1,fun u M=>?_,by lia,e6 _ _ k2,hpo,nn4,hd6,fun h0=>?_,by lia,fun u j M hj=>hxs u j M AC,fun h0 j hj=>hser _ (hpo.low h0) j AC,by lia,fun H7 U=>?_⟩
   .obtain⟨a,j1,j2,_⟩:=q3 u M;exact⟨a,j1,j2⟩
   .have hlo:=Xm ord g h0;have hlm:=ord.low p Y h0;refine⟨ls (Ck p (fu p)),pr.val _ hlm,?_,by lia⟩;have:=R _ hlm;rw[if_pos hlo]at this;exact this
   refine⟨ls p,_,_,rfl,rfl,U _ _ l6,Bt (n:=60) (by rw[(Ah),Gs];lia) AS,?_⟩;refine⟨_,_,rfl,fun b o z=>?_,?_,⟨Z,?_,q2,fun u M=>?_⟩,fun z hz=>?_⟩
   .rw[AN (AR z (nlsD p Y))];exact U _ _ (e6 _ _ z)
   .rw[AN (Ne.symm (pr.new p Y).2)];exact U _ _ hd6
   .rw[AN (Ne.symm (nRa p Y))];exact U _ _ q1
   .obtain⟨b,j1,j2,j3,j4⟩:=q3 u M;exact⟨b,j1,by rw[AN (fun z=>j4 ⟨p,Y,z⟩)];exact U _ _ j2,j3,j4⟩
   .by_cases y:z=p
    .subst y;rw[AM,if_pos ((Bp g).mpr (.inr rfl)),JW,(A4)];rfl
    .have h9:=U _ _ (R z hz);rw[AN (fun w=>y (pr.inj z hz p Y w))];by_cases h:z∈os.take i
     .rw[if_pos h]at h9;rw[if_pos ((Bp g).mpr (.inl h))];exact h9
     .rw[if_neg h]at h9;rw[if_neg fun h'=>h (((Bp g).mp h').resolve_right y)];exact h9
  rintro σ H6 ⟨r7,r9,rfl,e6,hd6,r6,R⟩;rw[hLl,(DC)]at R;have R:∀p∈os,H6 (ls p)=some (.lst ((Bk (Ef X p) (k+1)).map V.int)):=fun p g=>by
   have:=R p g;rw[if_pos g]at this;exact this
  refine⟨_,rfl,C,rfl,⟨_,AU.of (e6 _ _ (E2 _ _ hC))⟩,fun D1 hD1=>Bo (n:=cs.length) (fun i ys H'=>AK H6 H'/\ys=((uss.take i).map fun us=>JB X us k).map V.int) ⟨AO hD1 _,rfl⟩ ?_ ?_⟩
  .rintro i ys H7 hi ⟨U,rfl⟩ hD7;have E7:=e6.trans U;have M:uss[i]? = some (uss[i]' AC):=aG _;obtain⟨a,xs,k1,k2,k3⟩:=JP dc M;have I:=aI M;generalize uss[i]' AC=us at M k3 I;refine⟨⟨cs,.ref a,AU.of (E7 _ _ (E2 _ _ hC)),k1⟩,Bt (n:=60) (by rw[(Ah),(Ah),(JZ)];lia) AS,fun x H' y=>?_⟩;obtain⟨rfl,y⟩:=y;have hx:=y cs (AU.of (E7 _ _ (E2 _ _ hC)));rw[k1]at hx;cases hx;unfold B0;refine Ba ⟨_,rfl,_,rfl,_,rfl,a,d,xs,us,kvs,X,k,k+1,m,rfl,E7 _ _ (E2 _ _ k2),k3.same (E2.trans E7),hfew us I,U _ _ hd6,fun z hz=>⟨⟨ls z.1,pr.val _ (ord.has us I z hz),U _ _ (R _ (ord.has us I z hz))⟩,hnum us I z hz,hser _ (hpw us I z hz) k hkm⟩,by lia,by lia,fun H8 e8=>?_⟩;refine⟨e8 _ _ hD7,BG hi ⟨fun b o z=>?_,?_⟩⟩
   .rw[AN (AR z hD1)];exact e8 _ _ (U _ _ z)
   .rw[(CP),M,(A4),(A4)];rfl
  rintro ys H7 ⟨U,rfl⟩ hD7;rw[hcl,(DC)]at hD7;have E7:=e6.trans U;refine⟨⟨cs,AU.of (E7 _ _ (E2 _ _ hC)),Nat.le_refl _⟩,?_⟩;obtain⟨Z,q1,q2,q3⟩:=r6;refine⟨_,rfl,_,rfl,false,false,Ra,D1,rfl,⟨_,U _ _ q1⟩,⟨_,hD7⟩,fun D2 hD2=>Hk (n:=nn) (S8 H H7 (fun a=>∃p∈os,a=ls p) D2 (k+2) X) ⟨AO hD2 _,rfl,fun u M=>absurd M AC⟩ ?_ ?_⟩
  .rintro i ys H8 hi ⟨e8,hyl,hy⟩ hD8;obtain⟨ra,j1,j2,j3,j4⟩:=q3 i hi;have M:uss[i]? = some (uss[i]' AC):=aG _;have hsp:((uss.map fun us=>JB X us k).map V.int)[i]? = some (.int (JB X (uss[i]' AC) k)):=by rw[(BC),(BC),M];rfl
   have I:=aI M;have hgs:X i (k+1)=JB X (uss[i]' AC) k*F.fdiv ((k:Int)+1):=by
    rw[<-hX,Th,(FQ),M];rfl
   generalize uss[i]' AC=us at M hsp I hgs;refine⟨⟨_,_,_,_,e8 _ _ (U _ _ q1),e8 _ _ hD7,j1,hsp⟩,Bt (n:=60) AC AS,fun v H' y=>?_⟩;obtain⟨p,x,z,rfl,np,rfl,k1,k2⟩:=y;have hx':=k1 _ (e8 _ _ (U _ _ q1));have hy':=k2 _ (e8 _ _ hD7);rw[j1]at hx';rw[hsp]at hy';cases hx';cases hy';have ep:=AO np (.tup [.ref ra,.int (JB X us k)]);refine⟨p,_,_,rfl,Al.of AM,?_⟩;unfold B0;have hdv:(F.fdiv ((k:Int)+1)).natAbs<2^m:=aJ (FM.Az _ _) hF;refine Ba ⟨_,rfl,_,rfl,_,rfl,_,rfl,_,_,rfl,rfl,_,_,rfl,rfl,⟨by lia,5,by decide,by show((k:Int)+1).natAbs<32;lia⟩,_,_,rfl,rfl,D9 (hspd us I k hkm) hdv AC,BX (show 1<=60 by decide),fun t ht=>?_⟩;generalize hH:upd (upd H8 p _) t _=H9;have e9:AK H8 H9:=by rw[<-hH];exact ep.trans (AO ht _)
   have ht9:H9 t=some (.lst [V.int (JB X us k*F.fdiv ((k:Int)+1))]):=by rw[<-hH];exact AM
   clear hH;refine⟨ra,t,_,_,rfl,rfl,e9 _ _ (e8 _ _ (U _ _ j2)),ht9,BX (by rw[(Ah),Gs,(LL)];lia),fun b hb=>?_⟩;have eb:=AO hb (.lst ((Bk (X i) (k+1)).map V.int++[V.int (JB X us k*F.fdiv ((k:Int)+1))]));have hD9:=e9 _ _ hD8;have nbD:b≠D2:=fun z=>by subst z;rw[hD9]at hb;cases hb
   have nb7:H7 b=none:=Cd (e8.trans e9) hb;refine⟨eb _ _ hD9,BG hi (Lq hD2 (e8.trans (e9.trans eb)) (eb _ _ hD9) hyl (fun u M=>?_) ?_ (Cd (E2.trans E7) nb7) ?_ nbD)⟩
   .obtain⟨a,w1,w2,w3⟩:=hy u M;exact⟨a,w1,eb _ _ (e9 _ _ w2),w3⟩
   .rw[AM,JW (X i) (k+1),hgs,(A4)];rfl
   .rintro⟨p,g,rfl⟩;rw[U _ _ (R p g)]at nb7;cases nb7
  rintro ys H8 mk hD8;have e8:=mk.1;have hq2:Z.length=nn:=q2;refine⟨⟨_,_,e8 _ _ (U _ _ q1),e8 _ _ hD7,.inl hq2.symm⟩,D2,_,_,_,rfl,E7.trans e8,e8 _ _ (U _ _ hd6),M1 mk hD8,Cd (E2.trans E7) hD2,fun p g z=>?_,fun p g=>e8 _ _ (U _ _ (R p g))⟩;rw[<-z,U _ _ (R p g)]at hD2;cases hD2
 .rintro σ H5 ⟨Ra,r7,r8,r9,rfl,e5,hd5,r5,hRa,nRa,pl5⟩;refine⟨_,rfl,q Ra H5 (E2.trans e5) hRa ?_⟩;obtain⟨Z,k1,k2,k3⟩:=r5;rw[show(most:Int).toNat=most by lia]at k3;exact⟨Z,k1,k2,fun u M=>let⟨a,j1,j2,j3,_⟩:=k3 u M;⟨a,j1,j2,j3,fun z=>z⟩⟩
end
def oX(H:Hp)(R:AD)(nn n:Nat)(X:Nat->Nat->Int):Prop:=∃g:List V,H R=some (.lst g)/\g.length=nn/\∀u,u<nn->∃a,g[u]? = some (.ref a)/\H a=some (.lst ((Bk (X u) n).map V.int))
def KZ.si{H0 H:Hp}{no:AD->Prop}{R:AD}{nn n:Nat}{X:Nat->Nat->Int}(h:KZ H0 H no R nn n X):oX H R nn n X:=let⟨g,h1,Z,Y⟩:=h;⟨g,h1,Z,fun u U=>let⟨a,M,I,_⟩:=Y u U;⟨a,M,I⟩⟩
structure rY(uss:Ch)(X:Nat->Nat->Int)(most nn m:Nat):Prop where
 n4:nn<=4
 len:uss.length=nn
 Ly:most<=19
 HB:∀us∈uss,us.length<=50
 pw:∀us∈uss,∀z∈us,Dk nn z.1
 num:∀us∈uss,∀z∈us,z.2.num.natAbs<2^m
 xs:∀u k,u<nn->k<most->(X u k).natAbs<2^m
 qx:∀ps,Dk nn ps->∀k,k<most->(Ef X ps k).natAbs<2^m
 m4:m<=4000
def Ee(uss:Ch)(X:Nat->Nat->Int):Nat->Nat->Int:=fun u k=>JB X (uss.getD u []) k
def k8:Sp:=fun vs H Q _=>∃(C O R:AD) (cs:IR) (uss:Ch) (L:List (List Int×AD)) (X:Nat->Nat->Int) (most nn m:Nat),vs=[.ref C,.ref O,.ref R,.int (most:Nat)]/\H C=some (.lst cs)/\Aq H (uss.map Bz) cs/\H O=some (.lst (L.map fun l=>V.ref l.2))/\Ord uss nn (L.map (·.1))/\(∀l∈L,H l.2=some (.tup (l.1.map V.int))) /\
 oX H R nn (most+1) X/\rY uss X most nn m/\∀(D:AD) H',AK H H'->H D=none->KZ H H' (fun _=>False) D nn most (Ee uss X)->Q (.ref D) H'
section
variable{P:F0b}{w:F0c}{K:Fg}{mg:tm}{base:Heap}{f g2 g3:AD}{fd gd2 gd3:F0a}
def UX:Ab ["change","order","places","most","products","powers","k","rows","some"] ["change","order","places","most"] (AQ Lc):=Be
def Ur(F:Fn K mg "speed_rows" Lc ["change","order","places","most"] f fd)(Eg:Fn K mg "product_at" Io ["products","rows","powers","k"] g2 gd2)(Fx:Fn K mg "speed_at" Km ["some","products","k"] g3 gd3) (Lf:AH P w K mg base Aa 2 g2 gd2 ["products","rows","powers","k"] fE)(Mx:AH P w K mg base Aa 2 g3 gd3 ["some","products","k"] fi)(A3:mg "range" = none):AH P w K mg base Aa 3 f fd ["change","order","places","most"] k8:=by
 have sc:=UX;refine F.F.ok (k:=2) sc BY As
 .obtain⟨C,O,R,cs,uss,L,X,most,nn,m,rfl,_⟩:=h
  rfl
 obtain⟨C,O,R,cs,uss,L,X,most,nn,m,rfl,hC,dc,hO,ord,hL,hR,ok,q⟩:=h;obtain⟨nn4,hul,hmost,hfew,hpw,hnum,hxs,hser,m4⟩:=ok;have hcl:cs.length=uss.length:=by rw[dc.len,(Ah)]
 refine⟨_,(AG (AX (i:=4) sc.nd rfl (Or.inr rfl) Nf)
 (AG (Bg aM rfl (Av Fa) (An (i:=5) sc.nd rfl AT)
  (AG (PY GM (pv 4) (pv 5) (Cu AB) rfl)
  (AL (Bg aM rfl (C4 rfl A3 (AA (pv 3) AB)) (An (i:=6) sc.nd rfl AT)
   (AL (BK (Ij ag au av EX (PF GM (pv 4) (pv 5) By) (AA (AZ Eg Lf hr rfl (AA (pv 4) (AA IN (AA (pv 5) (AA (pv 6) AB))))) AB))))))))
 (AG (AX (i:=7) sc.nd rfl AT (Cu AB))
 (AG (Bg aM rfl (Av FS) (An (i:=8) sc.nd rfl (Or.inr rfl))
  (AL (BK (Ij ag au av EX (pv 7) (AA (CH [".0","k","some","products"] 1 [none,none,some 8,some 4] (C4 rfl A3 (AA (pv 3) AB)) F9 (fun _ _ _ _ _=>(AZ Fx Mx hr rfl (AA IN (AA (pv 3) (AA Fa AB)))))) AB)))))
 (AL (Aj (pv 7))))))),?_⟩
 generalize hos:L.map (·.1)=os at ord;have hLo:∀(i:Nat) (p:List Int),os[i]? = some p->∃a:AD,(L.map fun l=>V.ref l.2)[i]? = some (V.ref a)/\H a=some (.tup (p.map V.int)):=fun i p M=>by
  rw[<-hos,(BC)]at M;obtain⟨l,Z,h2⟩:=aF.mp M;subst h2;exact⟨l.2,by rw[(BC),Z];rfl,hL l (aI Z)⟩
 have hLl:(L.map fun l=>V.ref l.2).length=os.length:=by rw[<-hos];simp
 have h35:=RY nn4 ord.nd ord.ok;generalize (L.map fun l=>V.ref l.2)=ov at hO hLo hLl;clear hL hos;obtain⟨rvs,q1,q2,q3⟩:=hR;refine fun d hd=>?_;have e3:=AO hd (.dT []);have hd3:upd H d (.dT []) d=some (.dT []):=AM;generalize upd H d (.dT [])=H3 at e3 hd3;refine⟨_,rfl,O,rfl,⟨_,AU.of (e3 _ _ hO)⟩,CI (xs:=ov) (fun i σ H'=>∃(r5 r6 r7 r8:Option V) (kvs:IF) (ls:List Int->AD),σ=[some IO,some (.ref O),some (.ref R),some (.int (most:Nat)),some (.ref d),r5,r6,r7,r8]/\AK H H'/\lF H H' d kvs (os.take i) ls/\∀p∈os.take i,H' (ls p)=some (.lst ((Bk (Ef X p) most).map V.int))) ?_ ?_ ?_ ?_⟩
 .exact⟨_,_,_,_,[],fun _=>0,rfl,e3,⟨hd3,rfl,(fun _ z=>by cases z),(fun _ z=>by cases z),(fun _ z=>by cases z)⟩,(fun _ z=>by cases z)⟩
 .rintro i σ H' _ ⟨r5,r6,r7,r8,kvs,ls,rfl,e,_⟩;exact AU.of (e _ _ hO)
 .rintro i x σ H4 hx ⟨r5,r6,r7,r8,kvs,ls,rfl,e4,pr,hem⟩;have hi:i<os.length:=by rw[<-hLl];exact(aB.mp hx).1
  have M:os[i]? = some os[i]:=by simp[hi]
  obtain⟨a,k1,k2⟩:=hLo i _ M;have U:=SN ord.nd M;have hpm:=aI M;generalize os[i]=p at M k2 U hpm;rw[hx]at k1;cases k1;have hpo:=ord.ok p hpm;have hno:Ci kvs (FU p)=none:=by
   cases hv:Ci kvs (FU p) with
   |none=>rfl
   |some z=>
    have:=Pd.mp (show(Ci kvs (FU p)).isSome=true by rw[hv];rfl);rw[pr.key]at this;exact absurd (PH.mp this) U
  have hkl:kvs.length=i:=by have:=bA List.length pr.key;simp at this;lia
  refine⟨BX (show 0<=60 by decide),fun l hl=>?_⟩;have el:=AO hl (.lst []);have hdl:l≠d:=fun z=>by subst z;rw[pr.at_]at hl;cases hl
  refine⟨_,rfl,_,rfl,d,_,rfl,OY.t (k:=FU p) (el _ _ pr.at_) (by rw[IB];exact el _ _ (e4 _ _ k2)) (Bt (n:=60) AC AS),?_⟩;rw[NY _ hno];have hls:∀z∈os.take i,ls z≠l:=fun z g y=>by rw[<-y,hem z g]at hl;cases hl
  have e5:AK H (upd (upd H4 l (.lst [])) d (.dT (kvs++[(FU p,V.ref l)]))):=fun b o z=>by rw[AN (AR z hd)];exact el _ _ (e4 _ _ z)
  have d5:upd (upd H4 l (.lst [])) d (.dT (kvs++[(FU p,V.ref l)])) d=some (.dT (kvs++[(FU p,V.ref l)])):=AM;have l5:upd (upd H4 l (.lst [])) d (.dT (kvs++[(FU p,V.ref l)])) l=some (.lst ((Bk (Ef X p) 0).map V.int)):=by rw[AN hdl,AM];rfl
  have o5:∀z∈os.take i,upd (upd H4 l (.lst [])) d (.dT (kvs++[(FU p,V.ref l)])) (ls z)=some (.lst ((Bk (Ef X z) most).map V.int)):=fun z g=>by rw[AN (pr.new z g).2];exact el _ _ (hem z g)
  generalize upd (upd H4 l (.lst [])) d (.dT (kvs++[(FU p,V.ref l)]))=H5 at e5 d5 l5 o5;have hnl:H l=none:=Cd e4 hl;have hvp:Ci (kvs++[(FU p,V.ref l)]) (FU p)=some (.ref l):=by rw[J8 _ _ _ _ hno,if_pos rfl]
  refine⟨_,rfl,(most:Int),rfl,by lia,by lia,GY (n:=(most:Int).toNat) (fun k σ H'=>∃(r6 r7 r8:Option V),σ=[some IO,some (.ref O),some (.ref R),some (.int (most:Nat)),some (.ref d),some (.ref a),r6,r7,r8]/\AK H H'/\H' d=some (.dT (kvs++[(FU p,V.ref l)]))/\H' l=some (.lst ((Bk (Ef X p) k).map V.int))/\∀z∈os.take i,H' (ls z)=some (.lst ((Bk (Ef X z) most).map V.int))) ?_ ?_ ?_⟩
  .exact⟨_,_,_,rfl,e5,d5,l5,o5⟩
  .rintro k σ H6 hk ⟨r6,r7,r8,rfl,e6,d6,l6,o6⟩;have hkm:k<most:=by lia
   have hk0:(0:Int)+(k:Nat)=(k:Nat):=by lia
   rw[hk0];have hg:HI H6 d (.ref a) (some (.ref l)):=by
    have:=HI.t (k:=FU p) d6 (by rw[IB];exact e6 _ _ k2);rw[hvp]at this;exact this
   refine⟨_,rfl,_,rfl,d,.ref l,rfl,hg,.inl ⟨rfl,_,AU.of l6⟩,_,rfl,_,rfl,_,rfl,_,rfl,d,R,a,k,most+1,most,nn,m,X,p,_,rvs,rfl,e6 _ _ q1,fun u Y=>?_,by lia,e6 _ _ k2,hpo,nn4,d6,fun h0=>?_,by lia,fun u j Y hj=>hxs u j Y AC,fun h0 j hj=>hser _ (hpo.low h0) j AC,by lia,fun H7 e7=>?_⟩
   .obtain⟨a,j1,j2⟩:=q3 u Y;exact⟨a,j1,e6 _ _ j2⟩
   .have hlo:=Xm ord M h0;refine⟨ls (Ck p (fu p)),?_,o6 _ hlo,by lia⟩;rw[J8 _ _ _ _ hno,if_neg fun w=>U (by have e:=Yu w;rw[<-e];exact hlo)];exact pr.val _ hlo
   refine⟨l,_,_,rfl,rfl,e7 _ _ l6,Bt (n:=60) (by rw[(Ah),Gs];lia) AS,?_⟩;refine⟨_,_,_,rfl,fun b o z=>?_,?_,?_,fun z g=>?_⟩
   .rw[AN (AR z hnl)];exact e7 _ _ (e6 _ _ z)
   .rw[AN (Ne.symm hdl)];exact e7 _ _ d6
   .rw[AM,JW,(A4)];rfl
   .rw[AN (hls z g)];exact e7 _ _ (o6 z g)
  .rintro σ H6 ⟨r6,r7,r8,rfl,e6,d6,l6,o6⟩;rw[show(most:Int).toNat=most by lia]at l6;refine⟨_,_,_,_,kvs++[(FU p,.ref l)],fun z=>if z=p then l else ls z,rfl,e6,⟨d6,?_,fun z g=>?_,fun z g=>?_,fun y hy z g=>?_⟩,fun z g=>?_⟩
   .rw[(A4),pr.key,(CP),M,(A4)];rfl
   .rw[J8 _ _ _ _ hno];by_cases y:z=p
    .rw[if_pos (by rw[y]),if_pos y]
    .rw[if_neg fun w=>y (Yu w),if_neg y];exact pr.val z (((Bp M).mp g).resolve_right y)
   .by_cases y:z=p
    .rw[if_pos y];exact⟨hnl,hdl⟩
    .rw[if_neg y];exact pr.new z (((Bp M).mp g).resolve_right y)
   .rcases(Bp M).mp hy with Z|Z<;>rcases(Bp M).mp g with h2|h2
    .have n1:y≠p:=fun w=>U (w ▸ Z);have n2:z≠p:=fun w=>U (w ▸ h2);rw[if_neg n1,if_neg n2];exact pr.inj y Z z h2
    .have n1:y≠p:=fun w=>U (w ▸ Z);rw[if_neg n1,if_pos h2];exact fun w=>absurd w (hls y Z)
    .have n2:z≠p:=fun w=>U (w ▸ h2);rw[if_pos Z,if_neg n2];exact fun w=>absurd w.symm (hls z h2)
    .exact fun _=>Z.trans h2.symm
   .show H6 (if z=p then l else ls z)=_;by_cases y:z=p
    .rw[if_pos y,y];exact l6
    .rw[if_neg y];exact o6 z (((Bp M).mp g).resolve_right y)
 rintro σ H4 ⟨r5,r6,r7,r8,kvs,ls,rfl,e4,pr,hem⟩;rw[hLl,(DC)]at pr hem;refine⟨BX (show 0<=60 by decide),fun D hD=>?_⟩;have eD:=AO hD (.lst []);have hD5:upd H4 D (.lst []) D=some (.lst []):=AM;generalize upd H4 D (.lst [])=H5 at eD hD5;have hDn:H D=none:=Cd e4 hD;have nD:∀p∈os,ls p≠D:=fun p M z=>by rw[<-z,hem p M]at hD;cases hD
 refine⟨_,rfl,C,rfl,⟨_,AU.of (eD _ _ (e4 _ _ hC))⟩,CI (xs:=cs) (fun i σ H'=>∃(r5 r6 r8:Option V) (ys:IR),σ=[some IO,some (.ref O),some (.ref R),some (.int (most:Nat)),some (.ref d),r5,r6,some (.ref D),r8]/\AK H H'/\(∀b o,b≠D->H5 b=some o->H' b=some o)/\H' D=some Id/\ys.length=i/\∀u,u<i->∃a,ys[u]? = some (.ref a)/\H' a=some (.lst ((Bk (Ee uss X u) most).map V.int))/\H a=none/\a≠D) ?_ ?_ ?_ ?_⟩
 .exact⟨_,_,_,[],rfl,e4.trans eD,fun _ _ _ h=>h,hD5,rfl,fun u Y=>absurd Y AC⟩
 .rintro i σ H' _ ⟨r5,r6,r8,ys,rfl,e,_⟩;exact AU.of (e _ _ hC)
 .rintro i x σ H6 hx ⟨r5,r6,r8,ys,rfl,e6,b6,hD6,hyl,hy⟩;have hi:i<uss.length:=by rw[<-hcl];exact(aB.mp hx).1
  have Y:uss[i]? = some uss[i]:=by simp[hi]
  obtain⟨ca,xs,k1,k2,k3⟩:=JP dc Y;have I:=aI Y;have hsu:Ee uss X i=JB X uss[i]:=by unfold Ee;funext k;rw[(FQ),Y];rfl
  generalize uss[i]=us at Y k3 I hsu;rw[hx]at k1;cases k1;have hd6:H6 d=some (.dT kvs):=b6 _ _ (fun z=>by subst z;rw[pr.at_]at hD;cases hD) (eD _ _ pr.at_);have pl6:∀p∈os,H6 (ls p)=some (.lst ((Bk (Ef X p) most).map V.int)):=fun p M=>b6 _ _ (nD p M) (eD _ _ (hem p M));refine⟨_,rfl,.inl ⟨rfl,_,AU.of hD6⟩,_,rfl,(most:Int),rfl,by lia,by lia,fun D1 hD1=>Bo (n:=(most:Int).toNat) (fun k zs H'=>AK H6 H'/\zs=(Bk (JB X us) k).map V.int) ⟨AO hD1 _,rfl⟩ ?_ ?_⟩
  .rintro k zs H7 hk ⟨e7,rfl⟩ hD7;have hkm:k<most:=by lia
   have E7:=e6.trans e7;refine⟨hk,Bt (n:=60) (by rw[(Ah),Gs];lia) AS,fun x H' y=>?_⟩;obtain⟨rfl,rfl⟩:=y;have hk0:(0:Int)+(k:Nat)=(k:Nat):=by lia
   rw[hk0];unfold B0;refine Ba ⟨_,rfl,_,rfl,_,rfl,ca,d,xs,us,kvs,X,k,most,m,rfl,E7 _ _ k2,k3.same E7,hfew us I,e7 _ _ hd6,fun z g=>⟨⟨ls z.1,pr.val _ (ord.has us I z g),e7 _ _ (pl6 _ (ord.has us I z g))⟩,hnum us I z g,hser _ (hpw us I z g) k hkm⟩,by lia,by lia,fun H8 e8=>?_⟩;refine⟨e8 _ _ hD7,BG hk ⟨fun b o z=>?_,?_⟩⟩
   .rw[AN (AR z hD1)];exact e8 _ _ (e7 _ _ z)
   .rw[JW,(A4)];rfl
  rintro zs H7 ⟨e7,rfl⟩ hD7;rw[show(most:Int).toNat=most by lia,<-hsu]at hD7;have n1:D1≠D:=fun z=>by subst z;rw[hD6]at hD1;cases hD1
  refine⟨aH _,D,ys,_,rfl,rfl,e7 _ _ hD6,Bt (n:=60) AC AS,?_⟩;refine⟨_,_,_,ys++[.ref D1],rfl,fun b o z=>?_,fun b o n z=>?_,AM,by simp[hyl],fun u Y=>?_⟩
  .rw[AN (AR z hDn)];exact e7 _ _ (e6 _ _ z)
  .rw[AN n];exact e7 _ _ (b6 _ _ n z)
  .rcases Nat.lt_or_eq_of_le (Nat.le_of_lt_succ Y) with Z|Z
   .obtain⟨a,j1,j2,j3,j4⟩:=hy u Z;exact⟨a,by rw[List.getElem?_append_left AC];exact j1,by rw[AN j4];exact e7 _ _ j2,j3,j4⟩
   .subst Z;exact⟨D1,by rw[List.getElem?_append_right AC];simp[hyl],by rw[AN n1];exact hD7,Cd e6 hD1,n1⟩
 .rintro σ H6 ⟨r5,r6,r8,ys,rfl,e6,_,hD6,hyl,hy⟩;refine⟨_,rfl,q D H6 e6 hDn ⟨ys,hD6,by rw[hyl,hcl,hul],fun u Y=>?_⟩⟩;obtain⟨a,j1,j2,j3,_⟩:=hy u (by rw[hcl,hul];exact Y);exact⟨a,j1,j2,j3,fun z=>z⟩
end
mutual
theorem JC{H:Hp}:∀ {d:PD} {v:V},d.canLay0=true->Du H d v->DU H d v
 |.none,_,_,h=>by rw[Du]at h;subst h;exact .Bj
 |.bool _,_,_,h=>by rw[Du]at h;subst h;exact .bool
 |.int _,_,_,h=>by rw[Du]at h;subst h;exact .int
 |.str _,_,_,h=>by rw[Du]at h;subst h;exact .str
 |.tuple _,_,c,h=>by
  rw[Du]at h;obtain⟨a,xs,rfl,I,g⟩:=h;exact .tup I (TK (by simpa only[PyData.canLay0]using c) g)
 |.list _,_,c,h=>by
  rw[Du]at h;obtain⟨a,xs,rfl,I,g⟩:=h;exact .lst I (TK (by simpa only[PyData.canLay0]using c) g)
 |.dict _,_,c,h=>by simp[PyData.canLay0]at c
theorem TK{H:Hp}:∀ {ds:List PD} {xs:IR},PyData.canLayAll0 ds=true->Ay H ds xs->Aq H ds xs
 |[],_,_,h=>by rw[h.nil_eq];exact .nil
 |_::_,_,c,h=>by
  obtain⟨x,r,rfl,I,g⟩:=h.un;simp only[PyData.canLayAll0,Bool.and_eq_true]at c;exact .cons (JC c.1 I) (TK c.2 g)
end
mutual
theorem iU{l:AD}{H:Hp}:∀ {d:PD} {v:V},Dt l H d v->Du H d v
 |.none,_,h=>by rw[Dt]at h;rw[Du];exact h
 |.bool _,_,h=>by rw[Dt]at h;rw[Du];exact h
 |.int _,_,h=>by rw[Dt]at h;rw[Du];exact h
 |.str _,_,h=>by rw[Dt]at h;rw[Du];exact h
 |.tuple _,_,h=>by
  rw[Dt]at h;rw[Du];obtain⟨a,xs,rfl,n,I,g⟩:=h;exact⟨a,xs,rfl,I,S6 g⟩
 |.list _,_,h=>by
  rw[Dt]at h;rw[Du];obtain⟨a,xs,rfl,n,I,g⟩:=h;exact⟨a,xs,rfl,I,S6 g⟩
 |.dict _,_,h=>by rw[Dt]at h;exact h.elim
theorem S6{l:AD}{H:Hp}:∀ {ds:List PD} {xs:IR},AW l H ds xs->Ay H ds xs
 |[],_,h=>by rw[AW]at h;subst h;exact .nil
 |_::_,_,h=>by
  rw[AW]at h;obtain⟨x,r,rfl,I,g⟩:=h;exact .cons (iU I) (S6 g)
end
def DU.du{H:Hp}{d:PD}{v:V}(h:DU H d v):Du H d v:=let⟨N,k⟩:=h;iU (k N (aH _))
theorem Wk{G:Hp}:∀ps:List Int,Ay G (ps.map .int) GT
 |[]=>.nil
 |p::ps=>.cons (by rw[Du]) (Wk ps)
section
variable{P:F0b}{w:F0c}{K:Fg}{mg:tm}{base:Heap}{CX:Iw}{k:Nat}{f:AD}{fd:F0a}{ps:t7}
def mB(q:PD->Bool):MD
 |[d]=>if d.canLay0=true then some (.bool (q d)) else none
 |_=>none
def pR{q:PD->Bool}{d:PD}(h:d.canLay0=true):mB q [d]=some (.bool (q d)):=if_pos h
def QI{q:PD->Bool}{d:PD}{b:Bool}(h:d.canLay0=true)(e:q d=b):mB q [d]=some (.bool b):=(pR h).trans (by rw[e])
def mh{sp:Sp}{q:PD->Bool}(F:AH P w K mg base CX k f fd ps sp)(h:∀(l:AD) d v H Q E,Dt l H d v->(∀H',AK H H'->Q (.bl (q d)) H')->sp [v] H Q E):AH P w K mg base CX k f fd ps (HA (mB q)) :=
 jm F fun U x hm G H vs Q E d e I=>by
  unfold mB at hm;split at hm
  .split at hm
   .rename_i Y M;cases hm;obtain⟨v,rfl,R⟩:=d.TV;obtain⟨N,b⟩:=JC M (R.same e);exact h N _ v H Q E (b N (aH _)) fun H' g=>I _ G H' (.refl _) Nw.refl (e.trans g) g (by rw[Du])
   .cases hm
  .cases hm
end
theorem VT:∀ps:List Int,PyData.canLayAll0 (ps.map .int)=true
 |[]=>by simp[PyData.canLayAll0]
 |p::ps=>by rw[(C0)];simp only[PyData.canLayAll0,PyData.canLay0];rw[VT ps];rfl
def T4{ds:tZ}(h:∀d∈ds,d.canLay0=true):PyData.canLayAll0 ds=true:=by
 induction ds with
 |nil=>simp[PyData.canLayAll0]
 |cons d ds g=>simp only[PyData.canLayAll0];rw[h d (.head _),g fun e I=>h e (.tail _ I)];rfl
def B6{ds:tZ}(h:∀d∈ds,d.canLay0=true):(PyData.list ds).canLay0=true:=by simp only[PyData.canLay0];exact T4 h
def Kr{ds:tZ}(h:∀d∈ds,d.canLay0=true):(PyData.tuple ds).canLay0=true:=by simp only[PyData.canLay0];exact T4 h
def KO(G H H':Hp):Hp:=fun b=>match H' b with
 |some (.tup xs)=>some (.tup xs)
 |some o=>if H b=none then some o else G b
 |none=>none
def oZ{G H H':Hp}{a:AD}{xs:uD}(h:H' a=some (.tup xs)):KO G H H' a=some (.tup xs):=by unfold KO;rw[h]
def RP{G H H':Hp}{a:AD}{xs:uD}(h:H' a=some (.lst xs))(h0:H a=none):KO G H H' a=some (.lst xs):=by unfold KO;rw[h];exact if_pos h0
def SQ{G H H':Hp}(I:AK G H)(e:AK H H'):AK G (KO G H H')/\Nw G H (KO G H H')/\AK (KO G H H') H':=by
 refine⟨fun a o h=>?_,fun a o h=>?_,fun a o h=>?_⟩
 .have g:=I _ _ h;have M:=e _ _ g;unfold KO;rw[M];cases o with
  |tup xs=>rfl
  |_=>simp only[g];exact h
 .unfold KO at h;split at h
  .cases h;exact .inr (.inr ⟨_,rfl⟩)
  .split at h
   .rename_i z;exact .inr (.inl z)
   .exact .inl h
  .cases h
 .unfold KO at h;cases z:H' a with
  |none=>rw[z]at h;cases h
  |some u=>
   rw[z]at h;cases u with
   |tup xs=>exact h
   |_=>
    simp only at h;split at h
    .exact h
    .rw[<-z];exact e _ _ (I _ _ h)
theorem NX{G H H':Hp}:∀ {qs:List Rat} {xs:IR},Aq H' (AV qs) xs->Ay (KO G H H') (AV qs) xs
 |[],xs,h=>by
  have:=h.len;have e:xs=[]:=List.eq_nil_of_length_eq_zero (by simpa[AV]using this);rw[e];exact .nil
 |q::qs,xs,h=>by
  obtain⟨x,r,rfl,M,I⟩:=Aq.Xv (d:=HH q) (ds:=AV qs) h;obtain⟨p,rfl,g⟩:=M.rat;refine .cons ?_ (NX I);unfold HH;rw[Du];exact⟨p,_,rfl,oZ g,Wk [q.num,(q.den:Int)]⟩
section
variable{P:F0b}{w:F0c}{K:Fg}{mg:tm}{base:Heap}{f:AD}{fd:F0a}
def RT:Ab ["row","speeds","unknown","most","total","part","rows"] ["row","speeds","unknown","most"] (AQ N3):=Be
noncomputable def Tg:DF :=
 (Bd (Dg 4 (Au Ek (BQ (AF (fC (.int 0)) Af)) (nm 3)))
 (Bd (NJ (Kp zip2 (AF (nm 0) (AF (nm 1) Af))) (Hx 5 6)
  (Gp (Ca (ER true) (nm 5) (fC (.int 0)))
   (Dg 4 (O9 (Hx 1 2) Zn (Au FG (nm 1) (Au Ek (nm 3) (nm 2))) [none,none,none,some 5] (Kp zip2 (AF (nm 4) (AF (Au ES (nm 6) (nm 2)) Af)))))
   D6))
 (FE (nm 4))))
noncomputable def N8:MD:=M7 ["row","speeds","unknown","most"] ["row","speeds","unknown","most","total","part","rows"] (Tg)
def Y1{k:Nat}(F:Fn K mg "read_at" N3 ["row","speeds","unknown","most"] f fd)(g:mg "zip" = none):AH P w K mg base Aa (k+1) f fd ["row","speeds","unknown","most"] (HA (N8)):=ie F RT fun cdv A outer s H E I=>by
 have sc:=RT;exact(Aw (Cq (i:=4) sc.nd rfl AT (BB JA (BF (AE Ai Ad)) (AI (pv 3))))
 (Aw (Rh aM rfl (WD rfl g (AE (AI FS) (AE (AI Fa) Ad))) (cQ (HS rfl (Bw (An (i:=5) sc.nd rfl (Or.inr rfl)) (Bw (An (i:=6) sc.nd rfl AT) F8))))
  (B4 (He (De (L7 (by have:=I.units;exact this)) (AI (pv 5)) Ai (Ap _))
   (B4 (P8 (i:=4) [".0","number","speed","part"] 1 2 [none,none,none,some 5] sc.nd rfl rfl (WD rfl g (AE (AI (pv 4)) (AE (Ew (AI (pv 6)) (AI IN) By) Ad))) (fun _ _ _ _ _=>jX) (fun _ _ _ _ _=>(BB Ec (AI Fa) (BB JA (AI (pv 3)) (AI IN))))))
   En)))
 (B4 (Er (AI (pv 4))))))
end
def SS(r:Rat):(HH r).canLay0=true:=by unfold HH;simp only[PyData.canLay0];exact VT [r.num,(r.den:Int)]
def sW{i j:Int}{n:Nat}(h1:i.natAbs<2^n)(g:j.natAbs<2^n)(hn:n<=9000):Ek (.int i) (.int j)=some (.int (i*j)):=V6 (by
 unfold Mt;rw[Oq (n:=9000) (aK h1 (ay AS hn)),Oq (n:=9000) (aK g (ay AS hn))];simp)
def div_is{i j:Int}(h:0<j)(g:j.natAbs<2^64):QT (.int i) (.int j)=some (.int (i / j)):=by
 refine(if_pos ⟨by lia,Oq (aK g (ay AS AS))⟩).trans ?_;rw[Int.fdiv_eq_ediv_of_nonneg _ AC]
def lx{i:Nat}{fs:tW}{δ:Dv}{ys:tZ}(h:fs δ=some ys)(g:ys.length<=Hj):gI i fs δ=some (.nx (δ.set i (.own Id))):=by
 show((fs δ).bind HB).map _=_;rw[h];show(HB ys).map _=_;unfold HB;rw[if_pos g];rfl
def cJ{α:Type}{i j:Nat}{f:tX}{fs:tW}{δ:Dv}{fr:uI}{zs:List α}{a b g:α->PD}(R:fs δ=some (zs.map fun z=>.tuple [a z,b z]))(U:zs.length<=Hj) (h:∀z∈zs,f (((F7 fr δ).set i (.d (a z))).set j (.d (b z)))=some (g z)):Rp (Hx i j) Zn f fr fs δ=some (zs.map g):=by
 unfold Rp;rw[R,(OH)];have:∀zs:List α,(∀z∈zs,f (((F7 fr δ).set i (.d (a z))).set j (.d (b z)))=some (g z))->L2.collect (S5 (Hx i j) Zn f (F7 fr δ)) (zs.map fun z=>.tuple [a z,b z])=some (zs.map g):=fun zs=>by
  induction zs with
  |nil=>intro _;rfl
  |cons z zs I=>
   intro h;rw[(C0),(C0)];unfold L2.collect;rw[I fun y M=>h y (.tail _ M)];have e:S5 (Hx i j) Zn f (F7 fr δ) (.tuple [a z,b z])=some (some (g z)):=by
    unfold S5 Hx;rw[(OH)];show(some true).bind _=_;rw[(OH),if_pos rfl,h z (.head _)]
    rfl
   rw[e];rfl
 rw[this zs h,(OH),HB,if_pos (by rw[(Ah)];exact U)]
def PV(x y:Int):ER true (.int x) (.int y)=some (.bool (!decide (x=y))):=by
 have h:SeqAt.shaped (.int x)=true/\SeqAt.shaped (.int y)=true:=⟨(Ok.int (n:=0)).shaped AS,(Ok.int (n:=0)).shaped AS⟩;refine(if_pos h).trans ?_;simp[PyData.eqv];exact Bool.eq_iff_iff.mpr Do
abbrev LN(f:Nat->Int)(n:Nat):List PD:=(Bk f n).map .int
abbrev dj(X:Nat->Nat->Int)(nn n:Nat):PD:=.list ((List.range nn).map fun u=>.list (LN (X u) n))
abbrev KQ(g:List (Nat->Nat->Int))(nn n:Nat):List PD:=g.map fun S=>dj S nn n
def Na(row:t6)(g:List (Nat->Nat->Int))(u k:Nat):Int:=((row.zip g).map fun q=>q.1*q.2 u k).sum
def Kl(f:Nat->Int)(n:Nat):LN f n=(List.range n).map fun t=>.int (f t):=by unfold LN Bk;rw[(HM)];rfl
theorem Tq:∀(l:List Int) (x:Int),(l++[x]).sum=l.sum+x
 |[],x=>by simp
 |y::l,x=>by rw[List.cons_append,(KG),Tq l x,(KG),Int.add_assoc]
def oz(x:PD)(n:Nat)(h:n<=500):Ek (.list [x]) (.int (n:Nat))=some (.list (List.replicate n [x]).flatten):=by
 show(match WN (.list [x]) (.int (n:Nat)) with|some z=>some z|none=>R8 (.list [x]) (.int (n:Nat)))=_;exact if_pos ⟨by unfold Hj;simp;lia,by lia,by lia⟩
def hJ{m:List PD->Option tZ}{fs:tW}{δ:Dv}{xs:tZ}(h:fs δ=some xs):Kp m fs δ=m xs:=by
 show(fs δ).bind m=_;rw[h];rfl
def fv(n:Nat)(h:n<=500):Ek (.list [.int 0]) (.int (n:Nat))=some (.list ((List.range n).map fun _=>.int 0)):=by
 rw[oz _ _ h]
 congr 2
 clear h
 induction n with
 |zero=>rfl
 |succ n g=>rw[List.replicate_succ',List.flatten_append,g,(Ny),(A4)];rfl
def jr{row:t6}{M:List (Nat->Nat->Int)}{nn most u:Nat}(hl:row.length=M.length)(hu:u<nn)(hm:most<=20)(hr:∀p∈row,p.natAbs<2^4400)(hs:∀S∈M,∀k,k<most->(S u k).natAbs<2^4400):N8 [.list (row.map .int),.list (KQ M nn most),.int (u:Nat),.int (most:Nat)]=some (.list (LN (Na row M u) most)):=by
 refine O8 rfl ?_;unfold Tg;generalize hA:PyData.list (row.map .int)=A;generalize hB:PyData.list (KQ M nn most)=B
 let I:Nat->Nat->Int:=fun i k=>(((row.zip M).take i).map fun q=>q.1*q.2 u k).sum
 refine BN (δ':=[.d A,.d B,.d (.int (u:Nat)),.d (.int (most:Nat)),.d (.list (LN (I 0) most)),.no,.no]) (Ea (BI (x:=.list [.int 0]) (y:=.int (most:Nat)) rfl rfl ((fv most AC).trans (by rw[Kl];rfl)))) ?_;refine QF (xs:=ML (row.map .int) (KQ M nn most)) (fun i δ=>∃d5 d6:L,δ=[.d A,.d B,.d (.int (u:Nat)),.d (.int (most:Nat)),.d (.list (LN (I i) most)),d5,d6]) (by rw[<-hA,<-hB];rfl) ⟨_,_,rfl⟩ ?_ ?_
 .rintro i y δ hy ⟨d5,d6,rfl⟩;obtain⟨p',s',Y,U,rfl⟩:=QW hy;have hi:i<row.length:=by have:=(aB.mp Y).1;simpa using this
  have hiS:i<M.length:=by lia
  have hp:row[i]? = some row[i]:=aG hi;have hS:M[i]? = some M[i]:=aG hiS;rw[(BC),hp]at Y;cases Y;unfold KQ at U;rw[(BC),hS]at U;cases U;have R:∀k,I (i+1) k=I i k+row[i]*M[i] u k:=fun k=>by
   show(((row.zip M).take (i+1)).map _).sum=_;have hz:(row.zip M)[i]? = some (row[i],M[i]):=List.getElem?_zip_eq_some.mpr ⟨hp,hS⟩;rw[(CP),hz,Option.toList_some,(A4)];exact Tq _ _
  have hpb:=hr _ (aq hi);have Z:=hs _ (aq hiS);generalize row[i]=p at R hpb hp;generalize M[i]=S at R Z hS;refine⟨[.d A,.d B,.d (.int (u:Nat)),.d (.int (most:Nat)),.d (.list (LN (I i) most)),.d (.int p),.d (dj S nn most)],rfl,?_⟩;by_cases z:p=0
  .refine⟨_,GI (Cn (x:=.int p) (y:=.int 0) rfl rfl ((PV _ _).trans (by rw[decide_eq_true z];rfl))) rfl,.d (.int p),.d (dj S nn most),?_⟩;have:I (i+1)=I i:=by funext k;rw[R,z];simp
   rw[this]
  .refine⟨_,U1 (Cn (x:=.int p) (y:=.int 0) rfl rfl ((PV _ _).trans (by rw[decide_eq_false z];rfl))) (Ea (y:=.list (LN (I (i+1)) most)) ?_),_,_,rfl⟩;have hx:Kp zip2 (AF (nm 4) (AF (Au ES (nm 6) (nm 2)) Af)) [.d A,.d B,.d (.int (u:Nat)),.d (.int (most:Nat)),.d (.list (LN (I i) most)),.d (.int p),.d (dj S nn most)]=some ((List.range most).map fun k=>PyData.tuple [.int (I i k),.int (S u k)]):=by
    rw[hJ (xs:=[.list (LN (I i) most),.list (LN (S u) most)]) (BJ rfl (BJ (FZ (by rw[(BC),List.getElem?_range hu];rfl)) rfl))];show some (ML (LN (I i) most) (LN (S u) most))=_;rw[Kl,Kl];unfold ML;rw[List.zip_map',(HM)];rfl
   have:=cJ (i:=1) (j:=2) (f:=Au FG (nm 1) (Au Ek (nm 3) (nm 2))) (fr:=[none,none,none,some 5]) (zs:=List.range most) (a:=fun k=>PyData.int (I i k)) (b:=fun k=>PyData.int (S u k)) (g:=fun k=>PyData.int (I (i+1) k)) hx (by simp;exact aS hm AS) (fun k hk=>by
    have hk:=bU.mp hk;refine BI (x:=.int (I i k)) (y:=.int (p*S u k)) rfl (BI (x:=.int p) (y:=.int (S u k)) rfl rfl (sW hpb (Z k hk) AS)) ?_;rw[R];rfl)
   unfold O9;rw[this,Kl];rfl
 .rintro δ' ⟨d5,d6,rfl⟩;have hzl:(ML (row.map PyData.int) (KQ M nn most)).length=(row.zip M).length:=by unfold ML KQ;simp
  rw[hzl];refine Pe ?_;show some (PyData.list (LN (I (row.zip M).length) most))=_;have:I (row.zip M).length=Na row M u:=by
   funext k
   show(((row.zip M).take (row.zip M).length).map _).sum=_;rw[(DC)];rfl
  rw[this]
def PL(x0:Nat->Int)(row:t6)(g:List (Nat->Nat->Int)):Nat->Nat->Int:=fun u k=>match k with
 |0=>x0 u
 |k+1=>Na row g u k
def N4(x0:Nat->Int):Nat->Nat->Int:=fun u k=>match k with
 |0=>x0 u
 |_+1=>0
def Jn(x0:Nat->Int)(uss:Ch):List (List Int)->List (Nat->Nat->Int)×(Nat->Nat->Int)->List (Nat->Nat->Int)×(Nat->Nat->Int)
 |[],z=>z
 |row::rows,z=>Jn x0 uss rows (z.1++[Ee uss z.2],PL x0 row (z.1++[Ee uss z.2]))
def B1(x0:Nat->Int)(uss:Ch)(rows:List t6):List (Nat->Nat->Int)×(Nat->Nat->Int):=Jn x0 uss rows ([],N4 x0)
theorem Q6(x0:Nat->Int)(uss:Ch)(row:List Int):∀(rows:List (List Int)) (z:List (Nat->Nat->Int)×(Nat->Nat->Int)),Jn x0 uss (rows++[row]) z=((Jn x0 uss rows z).1++[Ee uss (Jn x0 uss rows z).2],PL x0 row ((Jn x0 uss rows z).1++[Ee uss (Jn x0 uss rows z).2]))
 |[],z=>rfl
 |r::rows,z=>Q6 x0 uss row rows _
def NK(x0:Nat->Int)(uss:Ch)(rows:List t6)(row:t6):B1 x0 uss (rows++[row])=((B1 x0 uss rows).1++[Ee uss (B1 x0 uss rows).2],PL x0 row ((B1 x0 uss rows).1++[Ee uss (B1 x0 uss rows).2])):=Q6 x0 uss row rows _
theorem UJ(x0:Nat->Int)(uss:Ch):∀(rows:List (List Int)) (z:List (Nat->Nat->Int)×(Nat->Nat->Int)),(Jn x0 uss rows z).1.length=z.1.length+rows.length
 |[],z=>by simp[Jn]
 |r::rows,z=>by rw[Jn,UJ x0 uss rows];simp;lia
def fh(x0:Nat->Int)(row:t6)(g:List (Nat->Nat->Int))(u n:Nat):Bk (PL x0 row g u) (n+1)=x0 u::Bk (Na row g u) n:=by
 unfold Bk;rw[List.range_succ_eq_map,(C0),(HM)];rfl
def eL(x0:Nat->Int)(u n:Nat):Bk (N4 x0 u) (n+1)=x0 u::List.replicate n 0:=by
 unfold Bk;rw[List.range_succ_eq_map,(C0),(HM)]
 congr 1
 induction n with
 |zero=>rfl
 |succ n g=>rw[(Ny),(A4),g,List.replicate_succ'];rfl
theorem T7{x0:Nat->Int}{uss:Ch}{nn most M:Nat}{rows:List (List Int)}(h:∀i,i<rows.length->∀u k,u<nn->k<most->(Ee uss (B1 x0 uss (rows.take i)).2 u k).natAbs<M):∀i,i<=rows.length->∀S∈(B1 x0 uss (rows.take i)).1,∀u k,u<nn->k<most->(S u k).natAbs<M
 |0,_,S,I,_,_,_,_=>by cases I
 |i+1,hi,S,I,u,k,R,hk=>by
  have g:rows[i]? = some (rows[i]' hi):=aG hi;rw[(CP),g,Option.toList_some,NK]at I;rcases aQ.mp I with z|z
  .exact T7 h i AC S z u k R hk
  .rw[List.mem_singleton.mp z];exact h i hi u k R hk
structure lJ(uss:Ch)(x0:List Int)(rows:List (List Int))(most nn m:Nat):Prop where
 n4:nn<=4
 len:uss.length=nn
 Gi:x0.length=nn
 Ly:most<=19
 HB:∀us∈uss,us.length<=50
 pw:∀us∈uss,∀z∈us,Dk nn z.1
 num:∀us∈uss,∀z∈us,z.2.num.natAbs<2^m
 fy:∀i row,rows[i]? = some row->row.length=i+1
 tR:rows.length<=40
 tU:∀row∈rows,∀p∈row,p.natAbs<2^4400
 xs:∀i,i<rows.length->∀u k,u<nn->k<most->((B1 (x0.getD · 0) uss (rows.take i)).2 u k).natAbs<2^m
 qx:∀i,i<rows.length->∀ps,Dk nn ps->∀k,k<most->(Ef (B1 (x0.getD · 0) uss (rows.take i)).2 ps k).natAbs<2^m
 GH:∀i,i<rows.length->∀u k,u<nn->k<most->(Ee uss (B1 (x0.getD · 0) uss (rows.take i)).2 u k).natAbs<2^4400
 m4:m<=4000
theorem Vb{D:AD}{H:Hp}:∀ns:List Int,AW D H (ns.map .int) (ns.map V.int)
 |[]=>.nil
 |_::ns=>.cons .int (Vb ns)
theorem T9:∀n:Nat,(List.replicate n [V.int 0]).flatten=(List.replicate n (0:Int)).map V.int
 |0=>rfl
 |n+1=>by rw[(NZ),(O7),T9 n,(NZ),(C0)];rfl
theorem Ro{H:Hp}:∀ {ns:List Int} {xs:IR},Ay H (ns.map .int) xs->xs=ns.map V.int
 |[],xs,h=>h.nil_eq
 |n::ns,xs,h=>by
  obtain⟨x,r,rfl,g,I⟩:=h.un;rw[Du]at g;rw[g,Ro I];rfl
def pX{H0 H:Hp}{no:AD->Prop}{R D:AD}{nn n:Nat}{X:Nat->Nat->Int}{o:HO}(h:KZ H0 H no R nn n X)(hR:H0 R=none)(g:H0 D=some o):Dt D H (dj X nn n) (.ref R):=by
 obtain⟨I,h1,h2,h3⟩:=h;refine .lst (fun z=>by subst z;rw[hR]at g;cases g) h1 ?_;have:∀i,i<=nn->AW D H ((List.range i).map fun u=>.list (LN (X u) n)) (I.take i):=fun i=>by
  induction i with
  |zero=>intro _;exact .nil
  |succ i Z=>
   intro hi;obtain⟨a,Y,U,M,_⟩:=h3 i AC;rw[(Ny),(A4),(CP),Y];refine(Z AC).app (.cons (.lst (fun z=>by subst z;rw[M]at g;cases g) U ?_) .nil);exact Vb _
 have:=this nn (aH _);rw[List.take_of_length_le AC]at this;exact this
def iX:Sp:=fun vs H Q _=>∃(G C S:AD) (gs cs:IR) (uss:Ch) (x0:List Int) (rows:List (List Int)) (most nn m:Nat),vs=[.ref G,.ref C,.ref S,.int (most:Nat)]/\H G=some (.lst gs)/\Aq H (rows.map fun r=>.list (r.map .int)) gs/\H C=some (.lst cs)/\Aq H (uss.map Bz) cs/\H S=some (.lst (x0.map V.int))/\lJ uss x0 rows most nn m /\
 ∀(D:AD) H',AK H H'->H D=none->KZ H H' (fun _=>False) D nn (most+1) (B1 (x0.getD · 0) uss rows).2->Q (.ref D) H'
section
variable{P:F0b}{w:F0c}{K:Fg}{mg:tm}{base:Heap}{f g1 g2 g3:AD}{fd gd1 gd2 gd3:F0a}
def UT:Ab ["reading","change","start","most","order","places","speeds","row"] ["reading","change","start","most"] (AQ LX):=Be
def Ui(F:Fn K mg "whole_step" LX ["reading","change","start","most"] f fd)(DN:Fn K mg "powers_needed" GQ ["change"] g1 gd1)(Ia:Fn K mg "speed_rows" Lc ["change","order","places","most"] g2 gd2)(MA:Fn K mg "read_at" N3 ["row","speeds","unknown","most"] g3 gd3) (Iu:AH P w K mg base Aa 3 g1 gd1 ["change"] gS)(Wx:AH P w K mg base Aa 3 g2 gd2 ["change","order","places","most"] k8)(Oa:AH P w K mg base Aa 3 g3 gd3 ["row","speeds","unknown","most"] (HA N8))(Dw:mg "enumerate" = none):AH P w K mg base Aa 4 f fd ["reading","change","start","most"] iX:=by
 have sc:=UT;refine F.F.ok (k:=3) sc BY As
 .obtain⟨G,C,S,gs,cs,uss,x0,rows,most,nn,m,rfl,_⟩:=h
  rfl
 obtain⟨G,C,S,gs,cs,uss,x0,rows,most,nn,m,rfl,hG,dg,hC,dc,hS,ok,q⟩:=h;obtain⟨nn4,hul,hxl,hmost,hfew,hpw,hnum,hrl,hrm,hrs,hxs,R,hsps,m4⟩:=ok;have hgl:gs.length=rows.length:=by rw[dg.len,(Ah)]
 refine⟨_,(AG (AX (i:=4) sc.nd rfl AT (AZ DN Iu hr rfl (AA Fa AB)))
 (AG (FA (i:=5) [".0","number","most"] 1 [none,none,some 3] sc.nd rfl rfl (Av IN) F9 (fun _ _ _ _ _=>(Ae Mk (Cu (AA Fa AB)) (Ae Zz (Cu (AA AJ AB)) IN))))
 (AG (AX (i:=6) sc.nd rfl (Or.inr rfl) (Cu AB))
 (AG (Bg aM rfl (Av FS) (An (i:=7) sc.nd rfl (Or.inr rfl))
  (AG (BK (Ij ag au av EX (pv 6) (AA (AZ Ia Wx hr rfl (AA Fa (AA (pv 4) (AA (pv 5) (AA (pv 3) AB))))) AB)))
  (AL (IJ (i:=5) [".0","k","number","row","speeds","most"] 1 2 [none,none,none,some 7,some 6,some 3] sc.nd rfl rfl (Qd rfl Dw (AA IN AB)) F9 (fun _ _ _ _ _=>(Ae Mk (Cu (AA IN AB)) (AZ MA Oa hr rfl (AA (pv 3) (AA (pv 4) (AA Fa (AA (pv 5) AB)))))))))))
 (AL (Aj (pv 5))))))),?_⟩
 refine⟨_,rfl,C,cs,uss,nn,rfl,hC,dc,hpw,nn4,fun O H1 L e1 hO hO1 ord hL=>?_⟩;refine⟨_,rfl,S,rfl,⟨_,AU.of (e1 _ _ hS)⟩,fun D0 hD0=>Bo (n:=(x0.map V.int).length) (S8 H H1 (fun _=>False) D0 (most+1) (N4 (x0.getD · 0))) ⟨AO hD0 _,rfl,fun u M=>absurd M AC⟩ ?_ ?_⟩
 .rintro i ys H2 hi ⟨e2,hyl,hy⟩ I;have hi':i<x0.length:=by simpa using hi
  have hx:x0[i]? = some x0[i]:=aG hi';have hv:(x0.map V.int)[i]? = some (.int x0[i]):=by rw[(BC),hx];rfl
  have hx0:x0.getD i 0=x0[i]:=by rw[(FQ),hx];rfl
  generalize x0[i]=t at hx hv hx0;refine⟨⟨_,_,AU.of (e2 _ _ (e1 _ _ hS)),hv⟩,Bt (n:=60) AC AS,fun x H' y=>?_⟩;obtain⟨rfl,y⟩:=y;have hx':=y _ (AU.of (e2 _ _ (e1 _ _ hS)));rw[hv]at hx';cases hx';unfold B0;refine Ba ⟨_,rfl,BX (show 1<=60 by decide),fun l1 hl1=>⟨BX (show 1<=60 by decide),fun l2 hl2=>?_⟩⟩;have a1:=AO hl1 (.lst [V.int t]);have a2:=AO hl2 (.lst [V.int 0]);refine⟨_,rfl,l2,(most:Int),_,rfl,rfl,AM,by lia,by lia,BX (by simp;lia),fun l3 hl3=>?_⟩;have a3:=AO hl3 (.lst (List.replicate (most:Int).toNat [V.int 0]).flatten);refine⟨l1,l3,_,_,rfl,rfl,a3 _ _ (a2 _ _ AM),AM,BX (by rw[len_rep];simp;lia),fun p hp=>?_⟩;have ap:=AO hp (.lst ([V.int t]++(List.replicate (most:Int).toNat [V.int 0]).flatten));have E:=a1.trans (a2.trans (a3.trans ap));have hDp:=E _ _ I;have npD:p≠D0:=fun z=>by
   have:=(a1.trans (a2.trans a3)) _ _ I;rw[<-z,hp]at this;cases this
  refine⟨hDp,BG hi (Lq hD0 (e2.trans E) hDp hyl (fun u M=>?_) ?_ (Cd (e1.trans (e2.trans (a1.trans (a2.trans a3)))) hp) (fun z=>z) npD)⟩
  .obtain⟨b,j1,j2,j3⟩:=hy u M;exact⟨b,j1,E _ _ j2,j3⟩
  .rw[AM,eL,hx0,show(most:Int).toNat=most by lia,T9];rfl
 rintro ys0 H2 mk0 I;have e2:=mk0.1;refine⟨⟨_,AU.of (e2 _ _ (e1 _ _ hS)),Nat.le_refl _⟩,?_⟩;rw[(Ah),hxl]at mk0;have r2:=M1 mk0 I;have E2:=e1.trans e2;have hD0n:H D0=none:=Cd e1 hD0;refine⟨BX (show 0<=60 by decide),fun Sp hSp=>?_⟩;have e3:=AO hSp (.lst []);have hSp3:upd H2 Sp (.lst []) Sp=some (.lst []):=AM;have hSpn:H Sp=none:=Cd E2 hSp;have hSp1:H1 Sp=none:=Cd e2 hSp;have r3:KZ H (upd H2 Sp (.lst [])) (fun b=>b=Sp) D0 nn (most+1) (N4 (x0.getD · 0)):=by
  obtain⟨rvs,k1,k2,k3⟩:=r2;refine⟨rvs,e3 _ _ k1,k2,fun u M=>?_⟩;obtain⟨b,j1,j2,j3,_⟩:=k3 u M;exact⟨b,j1,e3 _ _ j2,j3,fun z=>by rw[z,hSp]at j2;cases j2⟩
 have nD0:D0≠Sp:=fun z=>by rw[z,hSp]at I;cases I
 generalize upd H2 Sp (.lst [])=H3 at e3 hSp3 r3;have E3:=E2.trans e3;refine⟨_,rfl,G,rfl,⟨_,AU.of (E3 _ _ hG)⟩,CI (xs:=gs) (fun i σ H'=>∃(Ra:AD) (g:IR) (r7:Option V),σ=[some (.ref G),some IO,some (.ref S),some (.int (most:Nat)),some (.ref O),some (.ref Ra),some (.ref Sp),r7]/\AK H1 H'/\H' Sp=some (.lst g)/\AW Sp H' (KQ (B1 (x0.getD · 0) uss (rows.take i)).1 nn most) g/\KZ H H' (fun b=>b=Sp) Ra nn (most+1) (B1 (x0.getD · 0) uss (rows.take i)).2/\H Ra=none/\Ra≠Sp) ?_ ?_ ?_ ?_⟩
 .exact⟨D0,[],_,rfl,e2.trans e3,hSp3,.nil,r3,hD0n,nD0⟩
 .rintro i σ H' _ ⟨Ra,g,r7,rfl,e,_⟩;exact AU.of (e _ _ (e1 _ _ hG))
 .rintro i x σ H4 hx ⟨Ra,g,r7,rfl,e4,Y,dsp,rw4,hRa,nRa⟩;have E4:=e1.trans e4;have hi:i<rows.length:=by rw[<-hgl];exact(aB.mp hx).1
  have U:rows[i]? = some rows[i]:=aG hi;obtain⟨v,k1,k2⟩:=dg.get (i:=i) (d:=.list ((rows[i]).map .int)) (by rw[(BC),U];rfl);have hrlen:=hrl i _ U;have hrsz:=hrs _ (aq hi);have hsn:B1 (x0.getD · 0) uss (rows.take (i+1))=((B1 (x0.getD · 0) uss (rows.take i)).1++[Ee uss (B1 (x0.getD · 0) uss (rows.take i)).2],PL (x0.getD · 0) rows[i] ((B1 (x0.getD · 0) uss (rows.take i)).1++[Ee uss (B1 (x0.getD · 0) uss (rows.take i)).2])):=by rw[(CP),U,Option.toList_some];exact NK _ _ _ _
  have hsl:(B1 (x0.getD · 0) uss (rows.take i)).1.length=i:=by
   have:=UJ (x0.getD · 0) uss (rows.take i) ([],N4 (x0.getD · 0));rw[(JZ),Nat.min_eq_left AC,List.length_nil,Nat.zero_add]at this;exact this
  have hxs:=hxs i hi;have R:=R i hi;have hspsA:∀S∈(B1 (x0.getD · 0) uss (rows.take i)).1++[Ee uss (B1 (x0.getD · 0) uss (rows.take i)).2],∀u k,u<nn->k<most->(S u k).natAbs<2^4400:=by
   intro S hS u k M hk;rcases aQ.mp hS with h|h
   .exact T7 hsps i AC S h u k M hk
   .rw[List.mem_singleton.mp h];exact hsps i hi u k M hk
  generalize rows[i]=row at k2 hrlen hrsz U hsn;generalize B1 (x0.getD · 0) uss (rows.take i)=z at dsp rw4 hsn hsl hxs R hspsA;obtain⟨Ss,X⟩:=z;rw[hx]at k1;cases k1;obtain⟨gr,grs,rfl,hgr,dgr⟩:=k2.Ju;refine⟨_,rfl,.inl ⟨rfl,_,AU.of Y⟩,_,rfl,_,rfl,_,rfl,_,rfl,C,O,Ra,cs,uss,L,X,most,nn,m,rfl,E4 _ _ hC,dc.same E4,e4 _ _ hO1,ord,fun l hl=>e4 _ _ (hL l hl),rw4.si,⟨nn4,hul,hmost,hfew,hpw,hnum,hxs,R,m4⟩,fun D H5 e5 hD rw5=>?_⟩;have hsvl:g.length=i:=by rw[dsp.len];unfold KQ;rw[(Ah)];exact hsl
  refine⟨Sp,g,_,rfl,rfl,e5 _ _ Y,Bt (n:=60) AC AS,?_⟩;have d6:AW Sp (upd H5 Sp (.lst (g++[.ref D]))) (KQ (Ss++[Ee uss X]) nn most) (g++[.ref D]):=by
   unfold KQ;rw[(A4)];exact .but .upd ((dsp.same e5).app (.cons (pX rw5 hD Y) .nil))
  have s6:upd H5 Sp (.lst (g++[.ref D])) Sp=some (.lst (g++[.ref D])):=AM;have e6:AK H1 (upd H5 Sp (.lst (g++[.ref D]))):=fun b o zz=>by rw[AN (AR zz hSp1)];exact e5 _ _ (e4 _ _ zz)
  generalize upd H5 Sp (.lst (g++[.ref D]))=H6 at d6 s6 e6;have E6:=e1.trans e6;have dSp6:DU H6 (.list (KQ (Ss++[Ee uss X]) nn most)) (.ref Sp):=.lst s6 (CT d6);have dgr6:DU H6 (.list (row.map .int)) (.ref gr):=(DU.lst hgr dgr).same E6;refine⟨_,rfl,S,rfl,⟨_,AU.of (E6 _ _ hS)⟩,fun D2 I=>Hk (n:=nn) (S8 H H6 (fun b=>b=Sp) D2 (most+1) (PL (x0.getD · 0) row (Ss++[Ee uss X]))) ⟨AO I _,rfl,fun u M=>absurd M AC⟩ ?_ ?_⟩
  .rintro u ys H7 M ⟨e7,hyl,hy⟩ hD7;have E7:=E6.trans e7;have hx:x0[u]? = some (x0[u]' AC):=aG _;have hv:(x0.map V.int)[u]? = some (.int (x0[u]' AC)):=by rw[(BC),hx];rfl
   have hx0:x0.getD u 0=x0[u]' AC:=by rw[(FQ),hx];rfl
   generalize x0[u]' AC=t at hx hv hx0;refine⟨⟨_,_,AU.of (E7 _ _ hS),hv⟩,Bt (n:=60) AC AS,fun v H' y=>?_⟩;obtain⟨p,x,rfl,np,rfl,kk⟩:=y;have hx':=kk _ (AU.of (E7 _ _ hS));rw[hv]at hx';cases hx';have ep:=AO np (.tup [.int (u:Nat),.int t]);refine⟨p,_,_,rfl,Al.of AM,?_⟩;generalize upd H7 p (.tup [.int (u:Nat),.int t])=H8 at ep;unfold B0;refine Ba ⟨_,rfl,BX (show 1<=60 by decide),fun l1 hl1=>?_⟩;have a1:=AO hl1 (.lst [V.int t]);have hl1':upd H8 l1 (.lst [V.int t]) l1=some (.lst [V.int t]):=AM;generalize upd H8 l1 (.lst [V.int t])=H9 at a1 hl1';have e69:=e7.trans (ep.trans a1);refine⟨_,rfl,_,rfl,_,rfl,_,rfl,[.list (row.map .int),.list (KQ (Ss++[Ee uss X]) nn most),.int (u:Nat),.int (most:Nat)],_,H9,jr (by rw[(Ge),hsl,(LL),hrlen]) M AC hrsz (fun S hS k hk=>hspsA S hS u k M hk),.cons (dgr6.same e69).du (.cons (dSp6.same e69).du (.cons (by rw[Du]) (.cons (by rw[Du]) .nil))),.refl _,fun v G10 H10 _ _ gh e10 dv=>?_⟩;rw[Du]at dv;obtain⟨b,bs,rfl,hb,dbs⟩:=dv;have hb:=gh _ _ hb;have hbs:=Ro dbs;subst hbs;refine⟨l1,b,_,_,rfl,rfl,e10 _ _ hl1',hb,BX (by simp[Gs];lia),fun p4 hp4=>?_⟩;have a4:=AO hp4 (.lst ([V.int t]++(Bk (Na row (Ss++[Ee uss X]) u) most).map V.int));have Z:=ep.trans (a1.trans e10);have hD10:=Z _ _ hD7;have npD:p4≠D2:=fun zz=>by rw[zz,hD10]at hp4;cases hp4
   have hp7:H7 p4=none:=Cd Z hp4;refine⟨a4 _ _ hD10,BG M (Lq I (e7.trans (Z.trans a4)) (a4 _ _ hD10) hyl (fun w hw=>?_) ?_ (Cd E7 hp7) ?_ npD)⟩
   .obtain⟨b,j1,j2,j3⟩:=hy w hw;exact⟨b,j1,a4 _ _ (Z _ _ j2),j3⟩
   .rw[AM,fh,hx0];rfl
   .intro zz;rw[zz,e7 _ _ s6]at hp7;cases hp7
  rintro ys H7 mk hD7;have e7:=mk.1;refine⟨⟨_,AU.of (E6.trans e7 _ _ hS),by rw[(Ah)];exact hxl⟩,D2,g++[.ref D],_,rfl,e6.trans e7,e7 _ _ s6,?_,?_,Cd E6 I,fun zz=>by rw[zz,s6]at I;cases I⟩
  .rw[hsn];exact d6.same e7
  .rw[hsn];exact M1 mk hD7
 .rintro σ H4 ⟨Ra,g,r7,rfl,e4,Y,dsp,rw4,hRa,nRa⟩;rw[hgl,(DC)]at rw4;obtain⟨rvs,k1,k2,k3⟩:=rw4;exact⟨_,rfl,q Ra H4 (e1.trans e4) hRa ⟨rvs,k1,k2,fun u M=>let⟨a,j1,j2,j3,_⟩:=k3 u M;⟨a,j1,j2,j3,fun z=>z⟩⟩⟩
end
def Ey:Nat->Int
 |0=>1
 |n+1=>Ey n*((n:Int)+1)
def KI(f:Nat->Rat)(n:Nat):uC:=(List.range n).map f
def b3(f:Nat->Rat)(n:Nat):KI f (n+1)=KI f n++[f n]:=by unfold KI;rw[(Ny),(A4)];rfl
def en(f:Nat->Rat)(n:Nat):(KI f n).length=n:=by unfold KI;simp
def jG:Sp:=fun vs H Q _=>∃(n:Nat),vs=[.int (n:Nat)]/\n<=20/\Q (.int (Ey n)) H
def OT:∀n,n<=20->1<=Ey n/\(Ey n).natAbs<2^100:=by decide +kernel
def mM:Sp:=fun vs H Q _=>∃(a:AD) (xs:IR) (rs:List Rat) (B:Int) (n m:Nat),vs=[.ref a,.int B]/\H a=some (.lst xs)/\Aq H (AV rs) xs/\rs.length<=50/\(∀r∈rs,FM.Fits r n)/\B.natAbs<2^m/\n+m<=4000 /\
 ∀D H' g,AK H H'->H D=none->H' D=some (.lst g)->Aq H' ((BP rs B).map jB) g->Q (.ref D) H'
def QG(f:Nat->Int)(EL g:Int)(k:Nat):Rat:=Rat.divInt (f k) (g*EL^k)
def Y5:Sp:=fun vs H Q _=>∃(a:AD) (f:Nat->Int) (n:Nat) (EL g:Int) (b:Nat),vs=[.ref a,.int EL,.int g]/\H a=some (.lst ((Bk f n).map V.int))/\n<=20/\EL≠0/\g≠0/\g.natAbs<2^b/\EL.natAbs<2^b/\b<=400 /\
 ∀D H' I,AK H H'->H D=none->H' D=some (.lst I)->Aq H' (AV (KI (QG f EL g) n)) I->Q (.ref D) H'
def Zm:Sp:=fun vs H Q _=>∃n:Nat,vs=[.int (n:Nat)]/\n<=7/\Q .Bj H
def mL{b:Int}(h:b≠0)(n:Nat):b^n≠0:=by
 induction n with
 |zero=>simp
 |succ n g=>rw[Int.pow_succ];exact Int.mul_ne_zero g h
def nE{g EL:Int}{b k n:Nat}(h1:g.natAbs<2^b)(I:EL.natAbs<2^b)(hk:k<=n):(g*EL^k).natAbs<2^(b+(b*n+1)):=FM.A6 h1 (Dc I hk)
section
variable{P:F0b}{w:F0c}{K:Fg}{mg:tm}{base:Heap}{f g:AD}{fd gd:F0a}
def Qn:Ab ["many","product","factor"] ["many"] (AQ Ii):=Be
def Qk(F:Fn K mg "product_up_to" Ii ["many"] f fd)(R:mg "range" = none):AH P w K mg base Aa 1 f fd ["many"] jG:=by
 have sc:=Qn;refine F.F.ok (k:=0) sc BY (fun cdv A outer s H vs Q E U h=>?_)
 .obtain⟨n,rfl,_⟩:=h
  rfl
 obtain⟨n,rfl,hn,q⟩:=h;refine⟨_,(AG (AX (i:=1) sc.nd rfl AT AJ)
 (AG (Bg aM rfl (eN rfl R (AA AJ (AA (Ae Cf FS AJ) AB))) (An (i:=2) sc.nd rfl AT)
  (AL (AX (i:=1) sc.nd rfl AT (Ae BD Fa IN))))
 (AL (Aj Fa)))),?_⟩
 refine⟨_,rfl,_,_,rfl,rfl,2,(n:Int)+1,rfl,⟨by decide,by decide,by lia,by lia⟩,GY (lo:=2) (n:=((n:Int)+1-2).toNat) (fun i σ H'=>∃(I:Option V),σ=[some (.int (n:Nat)),some (.int (Ey (i+1))),I]/\H=H') ⟨_,rfl,rfl⟩ ?_ ?_⟩
 .rintro i σ H' hi ⟨I,rfl,rfl⟩;have M:((2:Int)+(i:Nat)).natAbs<2^100:=aJ (show((2:Int)+(i:Nat)).natAbs<=32 by lia) AS;refine⟨_,rfl,_,rfl,_,_,rfl,rfl,D9 (OT (i+1) AC).2 M AS,some (.int (2+(i:Nat))),?_,rfl⟩;show [_,some (V.int (Ey (i+1)*(2+(i:Nat)))),_]=[_,some (V.int (Ey (i+1)*(((i+1:Nat):Int)+1))),_];rw[show(2:Int)+(i:Nat)=((i+1:Nat):Int)+1 by lia]
 .rintro σ H' ⟨I,rfl,rfl⟩;refine⟨_,rfl,?_⟩;show Q (V.int (Ey _)) _;cases n with
  |zero=>exact q
  |succ n=>
   rw[show(((n+1:Nat):Int)+1-2).toNat=n by lia];exact q
def SW:Ab ["start","grain"] ["start","grain"] (AQ KS):=Be
def Sf(F:Fn K mg "whole_start" KS ["start","grain"] f fd)(Bx:Fn K mg "tops_over" GD ["some","bottom"] g gd)(EV:AH P w K mg base Aa 1 g gd ["some","bottom"] O3):AH P w K mg base Aa 2 f fd ["start","grain"] mM:=by
 have sc:=SW;refine F.F.ok (k:=1) sc BY As
 .obtain⟨a,xs,rs,B,n,m,rfl,_⟩:=h
  rfl
 obtain⟨a,xs,rs,B,n,m,rfl,ha,dx,h50,hf,hB,hm,q⟩:=h;refine⟨_,(AL (Aj (CH [".0","top"] 1 [none,none] (Av (AZ Bx EV hr rfl (AA FS (AA Fa AB)))) F9 (fun _ _ _ _ _=>(Eh (AA Fa (AA AJ AB))))))),?_⟩;refine⟨_,rfl,_,rfl,a,xs,rs,B,n,m,rfl,ha,dx,h50,hf,hB,hm,fun T H1 e1 hT I=>?_⟩;have htl:(BP rs B).length=rs.length:=by unfold BP;simp
 refine⟨T,rfl,⟨_,AU.of I⟩,fun D hD=>Bo (n:=(BP rs B).length) (fun i ys H'=>AK H1 H'/\ys.length=i/\AW D H' (((BP rs B).take i).map jB) ys) ⟨AO hD _,rfl,.nil⟩ ?_ ?_⟩
 .rintro i ys H2 hi ⟨R,U,Z⟩ M;have hx:(BP rs B)[i]? = some ((BP rs B)[i]' hi):=aG _;have hv:((BP rs B).map V.int)[i]? = some (.int ((BP rs B)[i]' hi)):=by rw[(BC),hx];rfl
  generalize (BP rs B)[i]' hi=t at hx hv;refine⟨⟨_,_,AU.of (R _ _ I),hv⟩,Bt (n:=60) AC AS,fun x H' y=>?_⟩;obtain⟨rfl,y⟩:=y;have Y:=y _ (AU.of (R _ _ I));rw[hv]at Y;cases Y;unfold B0;refine Ba ⟨_,rfl,BX (show 2<=60 by decide),fun p hp=>?_⟩;have ep:=AO hp (.tup [V.int t,V.int 1]);have npD:p≠D:=fun z=>by subst z;rw[M]at hp;cases hp
  refine⟨ep _ _ M,BG hi ⟨fun b o z=>?_,by simp[U],?_⟩⟩
  .rw[AN (AR z hD)];exact ep _ _ (R _ _ z)
  .rw[(CP),hx,(A4)];exact .but .upd ((Z.same ep).app (.cons (.tup npD AM (.cons .int (.cons .int .nil))) .nil))
 .rintro ys H2 ⟨R,U,Z⟩ M;rw[(DC)]at Z;exact⟨⟨_,AU.of (R _ _ I),by rw[(Ah)];exact aH _⟩,q D H2 ys (e1.trans R) (Cd e1 hD) M (CT Z)⟩
def Nn:Ab ["row","pace","grain","fractions","bottom","number"] ["row","pace","grain"] (AQ Ep):=Be
def Nr(F:Fn K mg "row_of_fractions" Ep ["row","pace","grain"] f fd)(Cb:Fn K mg "fraction_of" F4 ["top","bottom"] g gd)(F5:AH P w K mg base Aa 2 g gd ["top","bottom"] Sn):AH P w K mg base Aa 3 f fd ["row","pace","grain"] Y5:=by
 have sc:=Nn;refine F.F.ok (k:=2) sc BY As
 .obtain⟨a,f,n,EL,g,b,rfl,_⟩:=h
  rfl
 obtain⟨a,f,n,EL,g,b,rfl,ha,hn,hp0,hg0,hgb,R,hb,q⟩:=h;refine⟨_,(AG (AX (i:=3) sc.nd rfl AT (Cu AB))
 (AG (AX (i:=4) sc.nd rfl AT IN)
 (AG (Bg aM rfl (Av FS) (An (i:=5) sc.nd rfl AT)
  (AG (BK (Ij ag au av EX (pv 3) (AA (AZ Cb F5 hr rfl (AA (pv 5) (AA (pv 4) AB))) AB)))
  (AL (AX (i:=4) sc.nd rfl AT (Ae BD (pv 4) Fa)))))
 (AL (Aj (pv 3)))))),?_⟩
 refine⟨BX (show 0<=60 by decide),fun D hD=>?_⟩;have e1:=AO hD (.lst []);have Y:upd H D (.lst []) D=some (.lst []):=AM;generalize upd H D (.lst [])=H1 at e1 Y;have hbn:b*20<=8000:=by lia
 refine⟨_,rfl,_,rfl,a,rfl,⟨_,AU.of (e1 _ _ ha)⟩,CI (xs:=(Bk f n).map V.int) (fun i σ H'=>∃(r5:Option V) (I:IR),σ=[some (.ref a),some (.int EL),some (.int g),some (.ref D),some (.int (g*EL^i)),r5]/\AK H H'/\H' D=some (.lst I)/\Aq H' (AV (KI (QG f EL g) i)) I) ?_ ?_ ?_ ?_⟩
 .exact⟨_,[],by simp;rfl,e1,Y,.nil⟩
 .rintro i σ H' _ ⟨r5,I,rfl,e,_⟩;exact AU.of (e _ _ ha)
 .rintro i x σ H2 hx ⟨r5,I,rfl,e2,M,Z⟩;have hi:i<n:=by have:=(aB.mp hx).1;rw[(Ah),Gs]at this;exact this
  have hxi:x=.int (f i):=by
   unfold Bk at hx;simp[hi]at hx;exact hx.symm
  subst hxi;have hzl:I.length=i:=by rw[Z.len];unfold AV;rw[(Ah),en]
  have nb:(g*EL^i).natAbs<2^(b+(b*20+1)):=nE hgb R AC;refine⟨_,rfl,.inl ⟨rfl,_,AU.of M⟩,_,rfl,_,rfl,f i,g*EL^i,b+(b*20+1),rfl,Int.mul_ne_zero hg0 (mL hp0 i),by lia,nb,fun l H3 e3 hl=>?_⟩;have U:=e3 _ _ M;refine⟨D,I,_,rfl,rfl,U,Bt (n:=60) AC AS,?_⟩;refine⟨_,rfl,_,rfl,_,_,rfl,rfl,D9 nb R AC,some (.int (f i)),I++[.ref l],?_,fun b o z=>?_,AM,?_⟩
  .show [_,_,_,_,some (V.int (g*EL^i*EL)),_]=[_,_,_,_,some (V.int (g*EL^(i+1))),_];rw[Int.pow_succ,Int.mul_assoc]
  .rw[AN (AR z hD)];exact e3 _ _ (e2 _ _ z)
  .have dn:Aq H3 (AV (KI (QG f EL g) (i+1))) (I++[.ref l]):=by
    rw[b3];unfold AV;rw[(A4)];exact(Z.same e3).app (.cons (.tup hl (.cons .int (.cons .int .nil))) .nil)
   exact CT (.but .upd (JT U dn))
 .rintro σ H2 ⟨r5,I,rfl,e2,M,Z⟩;rw[(Ah),Gs]at Z;exact⟨_,rfl,q D H2 I e2 hD M Z⟩
def OX:Ab ["most"] ["most"] (AQ CG):=Be
def N6{tk:Tok}(F:Fn K mg "refuse_too_many" CG ["most"] f fd)(I:mg "MOST_POWER" = some (.int 7 tk)):AH P w K mg base Aa 1 f fd ["most"] Zm:=by
 have sc:=OX;refine F.F.ok (k:=0) sc BY (fun cdv A outer s H vs Q E M h=>?_)
 .obtain⟨n,rfl,_⟩:=h
  rfl
 obtain⟨n,rfl,hn,q⟩:=h;refine⟨_,(AL (B5 (PW.pt (Fv (BM ND FS AJ (Ap _)) (Fb (BM Ms FS (Dh (v:=.int 7) rfl I ⟨_,rfl⟩) (Ap _)))))
  (AL NV)
  BL)),?_⟩
 refine⟨_,rfl,_,_,rfl,rfl,_,rfl,Bq (fun c=>?_) (fun _=>⟨_,rfl,_,_,rfl,rfl,_,rfl,Bq (fun c=>?_) (fun _=>q)⟩)⟩
 .have:=ae c
  lia
 .have:=ae c
  lia
end
theorem RQ{M:Nat}:∀ {l:List Int},(∀x∈l,x.natAbs<=M)->l.sum.natAbs<=l.length*M
 |[],_=>by simp
 |x::l,h=>by
  have R:=h x (.head _);have I:=RQ (l:=l) fun y g=>h y (.tail _ g);rw[(KG),(Im),Nat.succ_mul];have:=Int.natAbs_add_le x l.sum
  lia
def jo{f g:Nat->Int}{k A B b:Nat}(hk:k<=7)(hf:∀j,j<=k->(f j).natAbs<=2^(A+b*j))(hg:∀j,j<=k->(g j).natAbs<=2^(B+b*j)):(conv f g k).natAbs<=2^(A+B+3+b*k):=by
 unfold conv
 have U:∀x∈Bk (fun j=>f j*g (k-j)) (k+1),x.natAbs<=2^(A+B+b*k):=fun x I=>by
  unfold Bk at I;obtain⟨j,M,rfl⟩:=aL.mp I;have M:j<k+1:=bU.mp M;rw[Int.natAbs_mul];refine aS (cA (hf j AC) (hg (k-j) AC)) ?_;rw[<-Nat.pow_add];refine ay AS ?_;have:b*k=b*j+b*(k-j):=by rw[<-Nat.mul_add];congr 1;lia
  lia
 have R:=RQ U;rw[Gs]at R;refine aS R ?_;rw[show A+B+3+b*k=3+(A+B+b*k) by lia,Nat.pow_add 2 3];exact bp _ AC
theorem dw{X:Nat->Nat->Int}{nn k a b:Nat}(hk:k<=7)(h:∀u j,u<nn->j<=k->(X u j).natAbs<=2^(a+b*j)):∀(n:Nat) (ps:List Int),Dk nn ps->ps.sum=(n:Int)->∀j,j<=k->(Ef X ps j).natAbs<=2^((a+3)*n+b*j)
 |0,ps,o,g,j,I=>by
  rw[Vz AC];split
  .exact Nat.one_le_two_pow
  .exact ar _
 |n+1,ps,o,g,j,I=>by
  have h0:ps.sum≠0:=by lia
  obtain⟨f1,_⟩:=Lo h0;rw[WZ o h0];have:=jo (A:=(a+3)*n) (B:=a) (b:=b) (k:=j) AC (fun i hi=>dw hk h n _ (o.low h0) (by rw[sum_set _ _ f1];lia) i AC) (fun i hi=>h (fu ps) i (by rw[<-o.len];exact f1) AC);rw[show(a+3)*(n+1)+b*j=(a+3)*n+a+3+b*j by rw[(Mu)];lia];exact this
def SA{X:Nat->Nat->Int}{nn k a b:Nat}(hk:k<=7)(h:∀u j,u<nn->j<=k->(X u j).natAbs<=2^(a+b*j)){ps:t6}(o:Dk nn ps):(Ef X ps k).natAbs<=2^(3*(a+3)+b*k):=by
 have h0:=Fm o.nn;have g:=o.s3;refine aS (dw hk h ps.sum.toNat ps o AC k (aH _)) (ay AS ?_);have:(a+3)*ps.sum.toNat<=(a+3)*3:=aT _ AC
 lia
def Q9{X:Nat->Nat->Int}{nn k a b c:Nat}(hk:k<=7)(h:∀u j,u<nn->j<=k->(X u j).natAbs<=2^(a+b*j)){us:List Ag}(U:us.length<=16)(R:∀z∈us,Dk nn z.1/\z.2.num.natAbs<=2^c):(JB X us k).natAbs<=2^(13+c+3*a+b*k):=by
 unfold JB;have Z:∀x∈us.map fun m=>m.2.num*Ef X m.1 k,x.natAbs<=2^(c+(3*(a+3)+b*k)):=fun x M=>by
  obtain⟨z,I,rfl⟩:=aL.mp M;obtain⟨o,Y⟩:=R z I;rw[Int.natAbs_mul,Nat.pow_add];exact cA Y (SA hk h o)
 have g:=RQ Z;rw[(Ah)]at g;refine aS g ?_;rw[show 13+c+3*a+b*k=4+(c+(3*(a+3)+b*k)) by lia,Nat.pow_add 2 4];exact bp _ U
theorem Sh{x0:Nat->Int}{uss:Ch}{F:Int}{nn a b c f:Nat}(hl:uss.length=nn)(U:∀u,u<nn->(x0 u).natAbs<=2^a)(g:∀us∈uss,us.length<=16/\∀z∈us,Dk nn z.1/\z.2.num.natAbs<=2^c)
 (Z:F.natAbs<=2^f)(hb:13+c+f+2*a<=b):∀k,k<=8->∀u j,u<nn->j<=k->(grow x0 uss F u j).natAbs<=2^(a+b*j)
 |0,_,u,j,I,M=>by
  rw[Nat.le_zero.mp M];exact U u I
 |k+1,hk,u,j,I,M=>by
  rcases Nat.lt_or_eq_of_le M with h|h
  .exact Sh hl U g Z hb k AC u j I AC
  .subst h;have Y:uss.getD u []∈uss:=by rw[(FQ),List.getElem?_eq_getElem (show u<uss.length by lia)];exact aq _
   obtain⟨R,hz⟩:=g _ Y;have h1:=Q9 (X:=grow x0 uss F) (k:=k) AC (fun u j I M=>Sh hl U g Z hb k AC u j I M) R hz;rw[Th,Int.natAbs_mul];refine aS (cA h1 (aS (FM.Az _ _) Z)) ?_;rw[<-Nat.pow_add];refine ay AS ?_;rw[(Mu)]
   lia
def EU{x m n:Nat}(h:x<=2^m)(hm:m<n):x<2^n:=aJ h (Nat.pow_lt_pow_right AS hm)
def qL{uss:Ch}{x0:t6}{F:Int}{most nn a c f:Nat}(n4:nn<=4)(Y:uss.length=nn)(U:x0.length=nn)(hm:most<=7)(hx:∀x∈x0,x.natAbs<=2^a)(I:∀us∈uss,us.length<=12/\∀z∈us,Dk nn z.1/\z.2.num.natAbs<=2^c) (Z:F.natAbs<=2^f)(hsz:14+c+3*a+8*(13+c+f+2*a)+f<=4000):fk uss x0 F most nn (14+c+3*a+8*(13+c+f+2*a)+f):=by
 have hg:=Sh (x0:=(x0.getD · 0)) (b:=13+c+f+2*a) Y (fun u g=>by
  show(x0.getD u 0).natAbs<=_;rw[(FQ),List.getElem?_eq_getElem (show u<x0.length by lia)];exact hx _ (aq _)) (fun us g=>⟨by have:=(I us g).1;lia,(I us g).2⟩) Z (aH _) 8 (aH _)
 have M:∀k,k<=7->(13+c+f+2*a)*k<=7*(13+c+f+2*a):=fun k hk=>by rw[Nat.mul_comm];exact bp _ hk
 have h7:∀k,k<=7->∀u j,u<nn->j<=k->(grow (x0.getD · 0) uss F u j).natAbs<=2^(a+(13+c+f+2*a)*j):=fun k hk u j g hj=>hg u j g AC;refine⟨n4,Y,U,by lia,fun us g=>by have:=(I us g).1;lia,fun us g z R=>((I us g).2 z R).1,fun us g z R=>EU ((I us g).2 z R).2 AC,fun u k g hk=>EU (hg u k g AC) ?_,fun ps o k hk=>EU (SA (k:=k) AC (h7 k AC) o) ?_,fun us g k hk=>EU (Q9 (k:=k) AC (h7 k AC) (by have:=(I us g).1;lia) (I us g).2) ?_,EU Z AC,hsz⟩
 .have:=M k AC;lia
 .have:=M k AC;lia
 .have:=M k AC;lia
theorem NM{g:Int}(h:1<=g):∀n:Nat,1<=g^n
 |0=>by simp
 |n+1=>by rw[Int.pow_succ];exact Int.mul_pos (show 0<g^n from NM h n) (show 0<g from h)
def Fw(r:uC):t6:=r.map fun q=>(q.den:Int)
def Iz(t:Tb)(i:Nat):t6:=Fw t.ls++((t.rs.take i).map Fw).flatten
def NU(t:Tb):Int:=D8 (Iz t t.rs.length)
def Tb.Fits(t:Tb)(n:Nat):Prop:=(∀r∈t.rs,∀q∈r,FM.Fits q n)/\∀q∈t.ls,FM.Fits q n
def Q3{t:Tb}{i:Nat}{r:uC}(h:t.rs[i]? = some r):Iz t (i+1)=Iz t i++Fw r:=by
 unfold Iz;rw[(CP),h,(A4),List.flatten_append,List.append_assoc];simp
theorem Lp{t:Tb}{m:Nat}(o:t.Ok m):∀i,i<=t.rs.length->(Iz t i).length<=t.rs.length+t.rs.length*i
 |0,_=>by unfold Iz Fw;simp[o.last]
 |i+1,h=>by
  have g:=aG (l:=t.rs) (i:=i) AC;have:=Lp o i AC;rw[Q3 g,(Ge),show(Fw t.rs[i]).length=t.rs[i].length from bo _,o.row i _ g,(Mu)]
  lia
def Tw{t:Tb}{n:Nat}(h:t.Fits n)(i:Nat):∀b∈Iz t i,1<=b/\b.natAbs<2^n:=fun b hb=>by
 unfold Iz at hb;rcases aQ.mp hb with hb|hb
 .exact Md h.2 b hb
 .obtain⟨l,I,hb⟩:=bz.mp hb;obtain⟨r,g,rfl⟩:=aL.mp I;exact Md (h.1 r (bW g)) b hb
def mD:Sp:=fun vs H Q _=>∃(v:V) (t:Tb) (m n:Nat),vs=[v]/\DU H (CM t) v/\t.Ok m/\m<=40/\t.Fits n/\n*(m+m*m)<=4000/\∀H',AK H H'->Q (.int (NU t)) H'
section
variable{P:F0b}{w:F0c}{K:Fg}{mg:tm}{base:Heap}{f g1 g2:AD}{fd gd1:F0a}
def RO:Ab ["table","bottoms","row"] ["table"] (AQ Jc):=Be
def Rj(F:Fn K mg "table_bottom" Jc ["table"] f fd)(A0:Fn K mg "common_bottom" Cm ["bottoms"] g1 gd1) (CK:AH P w K mg base Aa 2 g1 gd1 ["bottoms"] N9):AH P w K mg base Aa 3 f fd ["table"] mD:=by
 have sc:=RO;refine F.F.ok (k:=2) sc BY (fun cdv A outer s H vs Q E g h=>?_)
 .obtain⟨v,t,m,n,rfl,_⟩:=h
  rfl
 obtain⟨v,t,m,n,rfl,dt,ot,hm,ft,hnm,q⟩:=h;obtain⟨p,R,L,xs,ys,rfl,hp,hR,dR,hL,dL⟩:=dt.tab;have hyl:ys.length=t.ls.length:=by rw[dL.len,DY]
 have hxl:xs.length=t.rs.length:=by rw[dR.len,Hz]
 have h1:=ot.most;have h2:=ot.last;refine⟨_,(AG (FA (i:=1) [".0","part"] 1 [none,none] sc.nd rfl rfl (Av (Ao A5 FS AJ By)) F9 (fun _ _ _ _ _=>(Ao EE Fa AJ By)))
 (AG (Bg aM rfl (Av (Ao A5 FS AJ By)) (An (i:=2) sc.nd rfl AT)
  (AL (BK (Ij ag PySem.F.slot_list_extend PySem.F.type_list_extend Tj Fa (AA (CH [".0","part"] 1 [none,none] (Av IN) F9 (fun _ _ _ _ _=>(Ao EE Fa AJ By))) AB)))))
 (AL (Aj (AZ A0 CK g rfl (AA Fa AB)))))),?_⟩
 refine⟨_,rfl,_,_,_,_,rfl,rfl,Al.of hp,rfl,L,rfl,⟨_,AU.of hL⟩,fun Z hZ=>Bo (n:=ys.length) (fun i us H'=>AK H H'/\us=(Fw (t.ls.take i)).map V.int) ⟨AO hZ _,rfl⟩ ?_ ?_⟩
 .rintro i us H1 hi ⟨e1,rfl⟩ hD1;have g:t.ls[i]? = some (t.ls[i]' AC):=aG _;obtain⟨p,M,I⟩:=Eu dL g;generalize t.ls[i]' AC=r at g I;refine⟨⟨ys,.ref p,AU.of (e1 _ _ hL),M⟩,Bt (n:=60) (by unfold Fw;simp;lia) AS,fun x H' y=>?_⟩;obtain⟨rfl,y⟩:=y;have hx:=y ys (AU.of (e1 _ _ hL));rw[M]at hx;cases hx;unfold B0;refine Ba ⟨_,rfl,_,_,_,_,rfl,rfl,Al.of (e1 _ _ I),rfl,hD1,BG hi ⟨fun b o z=>?_,?_⟩⟩
  .rw[AN (AR z hZ)];exact e1 _ _ z
  .rw[(CP),g,Fw,Fw,(A4),(A4)]
   rfl
 rintro us H1 ⟨e1,rfl⟩ hZ1;rw[hyl,(DC)]at hZ1;refine⟨⟨ys,AU.of (e1 _ _ hL),Nat.le_refl _⟩,?_⟩;refine⟨_,rfl,_,_,_,_,rfl,rfl,Al.of (e1 _ _ hp),rfl,R,rfl,⟨_,AU.of (e1 _ _ hR)⟩,CI (xs:=xs) (fun i σ H'=>∃r2,σ=[some (.ref p),some (.ref Z),r2]/\AK H H'/\H' Z=some (.lst ((Iz t i).map V.int))) ?_ ?_ ?_ ?_⟩
 .exact⟨_,rfl,e1,by rw[hZ1];unfold Iz;simp⟩
 .rintro i σ H' _ ⟨r2,rfl,e,_⟩;exact AU.of (e _ _ hR)
 .rintro i x σ H2 hx ⟨r2,rfl,e2,U⟩;have hi:i<t.rs.length:=by rw[<-hxl];exact(aB.mp hx).1
  have g:t.rs[i]? = some t.rs[i]:=aG hi;have hrl:=ot.row _ _ g;obtain⟨a,zs,g1,g2,dz⟩:=NW dR g;generalize t.rs[i]=row at g dz hrl;rw[hx]at g1;cases g1;have hzl:zs.length=row.length:=by rw[dz.len,DY]
  refine⟨_,rfl,.inl ⟨rfl,_,AU.of U⟩,_,rfl,a,rfl,⟨_,AU.of (e2 _ _ g2)⟩,fun D hD=>Bo (n:=zs.length) (fun j ys H'=>AK H2 H'/\ys=(Fw (row.take j)).map V.int) ⟨AO hD _,rfl⟩ ?_ ?_⟩
  .rintro j us H3 hj ⟨e3,rfl⟩ Y;have E3:=e2.trans e3;have g:row[j]? = some (row[j]' AC):=aG _;obtain⟨p,M,I⟩:=Eu dz g;generalize row[j]' AC=r at g I;refine⟨⟨zs,.ref p,AU.of (E3 _ _ g2),M⟩,Bt (n:=60) (by unfold Fw;simp;lia) AS,fun x H' y=>?_⟩;obtain⟨rfl,y⟩:=y;have hx:=y zs (AU.of (E3 _ _ g2));rw[M]at hx;cases hx;unfold B0;refine Ba ⟨_,rfl,_,_,_,_,rfl,rfl,Al.of (E3 _ _ I),rfl,Y,BG hj ⟨fun b o z=>?_,?_⟩⟩
   .rw[AN (AR z hD)];exact e3 _ _ z
   .rw[(CP),g,Fw,Fw,(A4),(A4)]
    rfl
  .rintro us H3 ⟨e3,rfl⟩ Y;have E3:=e2.trans e3;rw[hzl,(DC)]at Y;refine⟨⟨zs,AU.of (E3 _ _ g2),Nat.le_refl _⟩,Z,D,_,_,rfl,rfl,e3 _ _ U,Y,?_,_,rfl,fun b o z=>?_,?_⟩
   .have:=Lp ot i AC;rw[(Ah),(Ah),show(Fw row).length=row.length from bo _];have h40:t.rs.length*i<=40*40:=cA AC AC;exact aS (show _<=2000 by lia) (by rw[sizeLine_eq];decide)
   .rw[AN (AR z hZ)];exact e3 _ _ (e2 _ _ z)
   .rw[AM,Q3 g,(A4)]
 .rintro σ H2 ⟨r2,rfl,e2,U⟩;rw[hxl]at U;refine⟨_,rfl,Z,_,n,rfl,U,Tw ft _,?_,q H2 e2⟩;have:=Lp ot _ (aH _);have h3:t.rs.length*t.rs.length<=m*m:=cA h1 h1;exact aS (aT n AC) hnm
end
def Ak(t:Tb):List uC:=t.rs.drop 1++[t.ls]
def Sw:Sp:=fun vs H Q _=>∃(v:V) (t:Tb) (m:Nat),vs=[v]/\DU H (CM t) v/\t.Ok m/\m<=40/\∀D H' g,AK H H'->H D=none->H' D=some (.lst g)->Aq H' (BU (Ak t)) g->Q (.ref D) H'
def dH{xs:uD}(h:1<=xs.length):Cs xs (some 1) none=xs.drop 1:=by
 have:=HT.BW;unfold Cs;have I:HT.BW xs.length 0 (some 1)=1:=by
  unfold HT.BW;simp
  lia
 have g:HT.BW xs.length xs.length none=xs.length:=rfl;rw[I,g];exact List.take_of_length_le (by rw[(MS)];exact aH _)
section
variable{P:F0b}{w:F0c}{K:Fg}{mg:tm}{base:Heap}{f:AD}{fd:F0a}
def Pn:Ab ["table"] ["table"] (AQ Ft):=Be
def Pf(F:Fn K mg "rows_that_read" Ft ["table"] f fd):AH P w K mg base Aa 1 f fd ["table"] Sw:=by
 have sc:=Pn;refine F.F.ok (k:=0) sc BY As
 .obtain⟨v,t,m,rfl,_⟩:=h
  rfl
 obtain⟨v,t,m,rfl,d,ok,hm,q⟩:=h;refine⟨_,(AL (Aj (Ae Mk (JQ PU (Ao A5 FS AJ By) (K2 AJ) K5) (Cu (AA (Ao A5 FS AJ By) AB))))),?_⟩;obtain⟨p,R,L,xs,ys,rfl,hp,hR,dR,hL,dL⟩:=d.tab;have hxl:xs.length=t.rs.length:=by rw[dR.len,Hz]
 have h1:=ok.one;have h2:=ok.most;refine⟨_,rfl,_,_,_,_,rfl,rfl,Al.of hp,rfl,_,rfl,R,xs,rfl,AU.of hR,fun A1 Z=>?_⟩;rw[dH AC];generalize g:upd _ A1 _=H1;obtain⟨U,_,hA⟩:=ly g Z (dR.drop 1);clear g;refine⟨_,rfl,_,_,_,_,rfl,rfl,Al.of (U _ _ hp),rfl,BX (show 1<=60 by decide),fun A2 Y=>?_⟩;generalize g:upd _ A2 _=H2;obtain⟨e2,_,hB⟩:=ly g Y (.cons (DU.lst (U _ _ hL) (dL.same U)) .nil);clear g;have I:=U.trans e2;refine⟨A1,A2,_,_,rfl,rfl,e2 _ _ hA,hB,BX (by rw[(MS)];simp;lia),fun D hD=>?_⟩;have M:=AO hD (.lst (xs.drop 1++[V.ref L]));refine q D _ _ (I.trans M) (Cd I hD) AM ?_;unfold Ak;rw[BU,(A4),List.map_drop];exact((dR.drop 1).same (I.trans M)).app (.cons (DU.lst ((I.trans M) _ _ hL) (dL.same (I.trans M))) .nil)
end
def Hn:PD->Bool
 |.int i=>decide (0<=i)
 |_=>false
def HD(n:Int):PD->Bool
 |.tuple g=>decide ((g.length:Int)=n)&&g.all Hn
 |_=>false
def mK:PD->Int
 |.tuple (.int a::_)=>a
 |_=>0
def Gw(n:Int):PD->Bool
 |.tuple [p,f]=>HD n p&&(Ei f && !decide (mK f=0))
 |_=>false
def intD:PD->Int
 |.int i=>i
 |_=>0
def VC:PD->List Int
 |.tuple g=>g.map intD
 |_=>[]
def Vx:PD->List Int
 |.tuple (p::_)=>VC p
 |_=>[]
def IL(n:Int)(ds:tZ)(k:Nat):Bool:=match ds[k]? with
 |some d=>Gw n d&&(decide (k=0)||(match ds[k-1]? with
  |some e=>IT.lt (Vx d) (Vx e)
  |none=>true))
 |none=>true
def Fu(n:Int):PD->Bool
 |.list g=>(List.range g.length).all (IL n g)
 |_=>false
def DH:PD->Bool
 |.list g=>!decide (g.length=0)&&g.all (Fu g.length)
 |_=>false
def kD{n:Int}{d:PD}(h:DJ d=false):HD n d=false:=by cases d<;>first|rfl|exact absurd h (by simp[DJ])
def gB{n:Int}{d:PD}(h:DJ d=false):Gw n d=false:=by cases d<;>first|rfl|exact absurd h (by simp[DJ])
def fJ{n:Int}{d:PD}(h:Co d=false):Fu n d=false:=by cases d<;>first|rfl|exact absurd h (by simp[Co])
def jv{d:PD}(h:Co d=false):DH d=false:=by cases d<;>first|rfl|exact absurd h (by simp[Co])
def cU{n:Int}{ds:tZ}(h:ds.length≠2):Gw n (.tuple ds)=false:=by
 match ds,h with
 |[],_=>rfl
 |[_],_=>rfl
 |[_,_],h=>exact absurd rfl h
 |_::_::_::_,_=>rfl
def me:Sp:=fun vs H Q _=>∃l d v n,vs=[v,.int n]/\Dt l H d v/\Q (.bl (HD n d)) H
def lG:Sp:=fun vs H Q _=>∃l d v n,vs=[v,.int n]/\Dt l H d v/\Q (.bl (Gw n d)) H
def oM:Sp:=fun vs H Q _=>∃l d v n,vs=[v,.int n]/\Dt l H d v/\∀H',AK H H'->Q (.bl (Fu n d)) H'
def ic:Sp:=fun vs H Q _=>∃l d v,vs=[v]/\Dt l H d v/\∀H',AK H H'->Q (.bl (DH d)) H'
section
variable{P:F0b}{w:F0c}{K:Fg}{mg:tm}{base:Heap}{f g1 g2:AD}{fd gd1 gd2:F0a}
def Ud:Ab ["thing","unknowns","power"] EQ (AQ LH):=Be
def Ub(F:Fn K mg "are_powers" LH EQ f fd)(Ez:Fn K mg "is_whole" Kv FI g1 gd1) (Kq:AH P w K mg base Aa 1 g1 gd1 FI Va)(AY:mg "isinstance" = none)(CA:mg "tuple" = none)(A9:mg "len" = none):AH P w K mg base Aa 2 f fd EQ me:=by
 have sc:=Ud;refine F.F.ok (k:=1) sc BY As
 .obtain⟨l,d,v,n,rfl,_⟩:=h
  rfl
 obtain⟨l,d,v,n,rfl,hd,q⟩:=h;refine⟨_,(AG (B5 (PW.pt (Fv (C8 (C6 (Ar FD rfl AY aX (AA FS (AA (FX (v:=.ty "tuple") rfl CA bN rfl) AB))))) (Fb (BM Ks (Ar BZ rfl A9 af (AA FS AB)) Fa (Ap _)))))
  (AL (Aj Ds))
  BL)
 (AG (Bg aM rfl (a9 FS) (An (i:=2) sc.nd rfl AT)
  (AL (B5 (PW.pt (Fv (C8 (C6 (AZ Ez Kq hr rfl (AA IN AB)))) (Fb (BM ND IN AJ (Ap _)))))
   (AL (Aj Ds))
   BL)))
 (AL (Aj Ds)))),?_⟩
 refine⟨_,rfl,_,_,_,_,rfl,P7,hd.ty,NT K d hd.nodict,_,rfl,?_⟩;by_cases M:DJ d=false
 .rw[M];rw[kD M]at q;exact Ba (Ba q)
 have M:DJ d=true:=by simpa using M
 rw[M];refine JS ?_;obtain⟨R,rfl⟩:=Qb M;rw[Dt]at hd;obtain⟨a,xs,rfl,na,ha,ht⟩:=hd;have g:=ht.len;refine⟨_,rfl,a,xs,rfl,.inr (Al.of ha),_,rfl,rfl,_,rfl,Bq (fun c=>?_) (fun c=>?_)⟩
 .have Z:¬(R.length:Int)=n:=by
   rw[<-g];intro z;rw[z]at c;simp at c
  rw[HD,decide_eq_false Z,(HF)]at q;exact q
 have hn:(R.length:Int)=n:=by
  rw[<-g];by_cases z:(xs.length:Int)=n
  .exact z
  .exact absurd (by simp[z]) c
 rw[HD,decide_eq_true hn,(Fo)]at q;refine⟨_,rfl,a,rfl,⟨_,Al.of ha⟩,kO (xs:=xs) (fun i σ H'=>∃I,σ=[some (.ref a),some (.int n),I]/\H=H'/\∀j c,j<i->R[j]? = some c->Hn c=true) ?_ ?_ ?_ ?_⟩
 .exact⟨_,rfl,rfl,fun j c h=>absurd h (cD _)⟩
 .rintro i σ H' _ ⟨I,rfl,rfl,_⟩;exact Al.of ha
 .rintro i x σ H' hx ⟨I,rfl,rfl,hf⟩;obtain⟨c,U,Y⟩:=ht.get hx;have no:Hn c=false->R.all Hn=false:=fun z=>aZ.mpr fun y=>by
   rw[(Ht)]at y;rw[y c (aI U)]at z;cases z
  have next:Hn c=true->∃I,[some (V.ref a),some (V.int n),some x]=[some (.ref a),some (.int n),I]/\H=H/\∀j c,j<i+1->R[j]? = some c->Hn c=true:=fun hb=>by
   refine⟨_,rfl,rfl,fun j e hj he=>?_⟩;by_cases z:j=i
   .subst z;rw[U]at he;cases he;exact hb
   .exact hf j e AC he
  refine⟨_,rfl,l,c,x,rfl,Y,_,rfl,Bq (fun b=>?_) (fun b=>?_)⟩
  .have:Hn c=false:=by cases c<;>first|rfl|(simp[Jv,IE]at b)
   rw[no this]at q;exact Ba q
  .obtain⟨i',rfl⟩:=Oy (d:=c) (by simpa using b);rw[Dt]at Y;subst Y;refine⟨_,rfl,_,_,rfl,rfl,_,rfl,Bq (fun b=>?_) (fun b=>?_)⟩
   .have:Hn (.int i')=false:=by
     have:=ae b;rw[Hn];exact bM AC
    rw[no this]at q;exact q
   .have:Hn (.int i')=true:=by
     have:=az (aZ.mpr b);rw[Hn];exact bV AC
    exact next this
 .rintro σ H' ⟨I,rfl,rfl,hf⟩;have e:R.all Hn=true:=by
   rw[(Ht)];intro c U;obtain⟨j,hj⟩:=ah U;exact hf j c (by rw[g];exact(aB.mp hj).1) hj
  rw[e]at q;exact q
def ZN:Ab EQ EQ (AQ Ox):=Be
def ZR(F:Fn K mg "is_term" Ox EQ f fd)(Iy:Fn K mg "are_powers" LH EQ g1 gd1)(EH:Fn K mg "is_fraction" HZ FI g2 gd2) (XC:AH P w K mg base Aa 2 g1 gd1 EQ me)(KU:AH P w K mg base Aa 2 g2 gd2 FI W8)(AY:mg "isinstance" = none)(CA:mg "tuple" = none)(A9:mg "len" = none):AH P w K mg base Aa 3 f fd EQ lG:=by
 have sc:=ZN;refine F.F.ok (k:=2) sc BY As
 .obtain⟨l,d,v,n,rfl,_⟩:=h
  rfl
 obtain⟨l,d,v,n,rfl,hd,q⟩:=h;refine⟨_,(AG (B5 (PW.pt (Fv (C8 (C6 (Ar FD rfl AY aX (AA FS (AA (FX (v:=.ty "tuple") rfl CA bN rfl) AB))))) (Fv (BM Ks (Ar BZ rfl A9 af (AA FS AB)) AJ (Ap _)) (Fb (C8 (C6 (AZ Iy XC hr rfl (AA (Ao A5 FS AJ By) (AA Fa AB)))))))))
  (AL (Aj Ds))
  BL)
 (AL (Aj (O1 (AZ EH KU hr rfl (AA (Ao A5 FS AJ By) AB)) (R6 (PN Ks (Ao A5 (Ao A5 FS AJ By) AJ By) AJ (Ap _))))))),?_⟩
 refine⟨_,rfl,_,_,_,_,rfl,P7,hd.ty,NT K d hd.nodict,_,rfl,?_⟩;by_cases R:DJ d=false
 .rw[R];rw[gB R]at q;exact Ba (Ba q)
 have R:DJ d=true:=by simpa using R
 rw[R];refine JS ?_;obtain⟨ds,rfl⟩:=Qb R;rw[Dt]at hd;obtain⟨a,xs,rfl,na,ha,g⟩:=hd;have Z:=g.len;have s1:Al K H a xs:=Al.of ha;refine⟨_,rfl,a,xs,rfl,.inr s1,rfl,_,rfl,Bq (fun c=>?_) (fun c=>?_)⟩
 .have:ds.length≠2:=by
   rw[<-Z];intro z;rw[z]at c;exact absurd c AS
  rw[cU this]at q;exact Ba q
 have h2:xs.length=2:=by
  by_cases z:xs.length=2
  .exact z
  .exfalso
   refine c ?_;have:¬(V.int (xs.length:Nat)=V.int 2):=by simp;lia
   rw[decide_eq_false this];rfl
 obtain⟨d0,d1,rfl⟩:∃d0 d1,ds=[d0,d1]:=by
  match ds,(show ds.length=2 by lia) with
  |[x,y],_=>exact⟨x,y,rfl⟩
 rw[AW]at g;obtain⟨x0,r,rfl,hx0,g⟩:=g;rw[AW]at g;obtain⟨x1,r,rfl,M,g⟩:=g;rw[AW]at g;subst g;rw[Gw]at q;refine⟨_,rfl,_,_,_,_,rfl,rfl,s1,rfl,_,rfl,l,d0,x0,n,rfl,hx0,_,rfl,Bq (fun c0=>?_) (fun c0=>?_)⟩
 .have:HD n d0=false:=by simpa using c0
  rw[this,(HF)]at q;exact q
 have hp:HD n d0=true:=by simpa using c0
 rw[hp,(Fo)]at q;refine⟨_,rfl,_,_,_,_,rfl,rfl,s1,rfl,l,d1,x1,rfl,M,_,rfl,Bq (fun U=>?_) (fun U=>?_)⟩
 .rw[U,(Fo)]at q;obtain⟨i,j,rfl⟩:∃i j,d1=.tuple [.int i,.int j]:=by
   unfold Ei at U;split at U
   .exact⟨_,_,rfl⟩
   .cases U
  rw[Dt]at M;obtain⟨b,ys,rfl,nb,hb,I⟩:=M;rw[AW]at I;obtain⟨y0,r,rfl,Y,I⟩:=I;rw[AW]at I;obtain⟨y1,r,rfl,hy1,I⟩:=I;rw[AW]at I;subst I;rw[Dt]at Y;subst Y;refine⟨_,rfl,_,_,_,_,rfl,rfl,s1,rfl,_,_,_,_,rfl,rfl,Al.of hb,rfl,rfl,?_⟩;rw[mK]at q;have e:decide (V.int i=V.int 0)=decide (i=0):=by rw[(NI)];simp
  show Q (.bl (!decide (V.int i=V.int 0))) H;rw[e];exact q
 .rw[Bool.eq_false_iff.mpr U,(HF)]at q;exact q
def ZL:Ab ["thing","unknowns","k","term"] EQ (AQ Oo):=Be
def df{l:AD}{H:Hp}{n:Int}{d:PD}{v:V}(h:Dt l H d v)(k:HD n d=true):∃a,v=.ref a/\H a=some (.tup ((VC d).map V.int)):=by
 cases d with
 |tuple M=>
  rw[HD,(Lh)]at k;rw[Dt]at h;obtain⟨a,xs,rfl,na,ha,g⟩:=h;refine⟨a,rfl,?_⟩;rw[ha]
  congr 2
  rw[VC];clear ha
  replace k:=k.2
  induction M generalizing xs with
  |nil=>rw[AW]at g;subst g;rfl
  |cons d M R=>
   rw[AW]at g;obtain⟨x,r,rfl,I,U⟩:=g;rw[List.all_cons,(Lh)]at k;rw[(C0),(C0),<-R r U k.2]
   congr 1
   cases d<;>first|(rw[Dt]at I;subst I;rfl)|(have:=k.1;simp[Hn]at this)
 |none=>simp[HD]at k
 |bool _=>simp[HD]at k
 |int _=>simp[HD]at k
 |str _=>simp[HD]at k
 |list _=>simp[HD]at k
 |dict _=>simp[HD]at k
def WK{l:AD}{H:Hp}{n:Int}{d:PD}{v:V}(h:Dt l H d v)(k:Gw n d=true):∃a b c,v=.ref a/\H a=some (.tup [.ref b,c])/\H b=some (.tup ((Vx d).map V.int)):=by
 unfold Gw at k;split at k
 .rename_i p f;rw[(Lh)]at k;rw[Dt]at h;obtain⟨a,xs,rfl,na,ha,g⟩:=h;rw[AW]at g;obtain⟨x0,r,rfl,I,g⟩:=g;rw[AW]at g;obtain⟨M,r,rfl,R,g⟩:=g;rw[AW]at g;subst g;obtain⟨b,rfl,hb⟩:=df I k.1;exact⟨a,b,M,rfl,ha,hb⟩
 .cases k
def YX(F:Fn K mg "is_poly" Oo EQ f fd)(Lz:Fn K mg "is_term" Ox EQ g1 gd1) (Z4:AH P w K mg base Aa 3 g1 gd1 EQ lG)(AY:mg "isinstance" = none)(F3:mg "list" = none)(Dw:mg "enumerate" = none):AH P w K mg base Aa 4 f fd EQ oM:=by
 have sc:=ZL;refine F.F.ok (k:=3) sc BY As
 .obtain⟨l,d,v,n,rfl,_⟩:=h
  rfl
 obtain⟨l,d,v,n,rfl,hd,q⟩:=h;refine⟨_,(AG (B5 (C8 (C6 (Ar FD rfl AY aX (AA FS (AA (FX (v:=.ty "list") rfl F3 PyProof.Rows.boot_list rfl) AB)))))
  (AL (Aj Ds))
  BL)
 (AG (Bg aM rfl (Qd rfl Dw (AA FS AB)) (HS rfl (Bw (An (i:=2) sc.nd rfl AT) (Bw (An (i:=3) sc.nd rfl AT) F8)))
  (AL (B5 (PW.pt (Fv (C8 (C6 (AZ Lz Z4 hr rfl (AA (pv 3) (AA Fa AB))))) (Fb (PW.pt (Z6 (BM Ms IN AJ (Ap _)) (Xq (BM (lM (by have:=hr.units;exact this)) (Ao A5 (pv 3) AJ By) (Ao A5 (Ao IC FS (Ae HQ IN AJ) By) AJ By) (Ap _))))))))
   (AL (Aj Ds))
   BL)))
 (AL (Aj Ds)))),?_⟩
 refine⟨_,rfl,_,_,_,_,rfl,P7,hd.ty,Nb K d hd.nodict,_,rfl,?_⟩;by_cases Z:Co d=false
 .rw[Z];have:=q H (.refl H);rw[fJ Z]at this;exact Ba this
 have Z:Co d=true:=by simpa using Z
 rw[Z];refine JS ?_;obtain⟨g,rfl⟩:=Hu Z;rw[Dt]at hd;obtain⟨a,xs,rfl,na,ha,ht⟩:=hd;have hlen:=ht.len;refine⟨_,rfl,a,rfl,⟨_,AU.of ha⟩,T6 (xs:=xs) (fun i σ H'=>∃Y U,σ=[some (.ref a),some (.int n),Y,U]/\AK H H'/\∀j,j<i->IL n g j=true) ?_ ?_ ?_ ?_⟩
 .exact⟨_,_,rfl,.refl _,fun j h=>absurd h (cD _)⟩
 .rintro i σ H' _ ⟨Y,U,rfl,e,_⟩;exact AU.of (e _ _ ha)
 .rintro i x σ H0 hx ⟨Y,U,rfl,e0,hf⟩ p hp;obtain⟨c,hc,tc⟩:=ht.get hx;have hi:i<g.length:=(aB.mp hc).1;have s1:=AO hp (.tup [.int (i:Nat),x]);have I:=e0.trans s1;have hp':(upd H0 p (.tup [.int (i:Nat),x])) p=some (.tup [.int (i:Nat),x]):=AM;generalize upd H0 p (.tup [.int (i:Nat),x])=H1 at s1 I hp';have tc:=tc.same I;have no:IL n g i=false->Q (.bl false) H1:=fun z=>by
   have:=q H1 I;have e:Fu n (.list g)=false:=aZ.mpr fun y=>by
    rw[Fu,(Ht)]at y;rw[y i (bU.mpr hi)]at z;cases z
   rw[e]at this;exact this
  have next:IL n g i=true->∃Y U,[some (V.ref a),some (V.int n),some (V.int (i:Nat)),some x]=[some (.ref a),some (.int n),Y,U]/\AK H H1/\∀j,j<i+1->IL n g j=true:=fun z=>by
   refine⟨_,_,rfl,I,fun j hj=>?_⟩;by_cases zz:j=i
   .subst zz;exact z
   .exact hf j AC
  have M:IL n g i=(Gw n c&&(decide (i=0)||(match g[i-1]? with
    |some e=>IT.lt (Vx c) (Vx e)
    |none=>true))):=by unfold IL;rw[hc];all_goals rfl
  refine⟨p,_,rfl,Al.of hp',rfl,_,_,rfl,_,_,rfl,rfl,?_⟩;refine⟨_,rfl,_,rfl,l,c,x,n,rfl,tc,_,rfl,Bq (fun b=>?_) (fun b=>?_)⟩
  .have hb:Gw n c=false:=by simpa using b
   exact Ba (no (by rw[M,hb,(HF)]))
  have hb:Gw n c=true:=by simpa using b
  rw[hb,(Fo)]at M;refine⟨_,rfl,_,_,rfl,rfl,_,rfl,Bq (fun b=>?_) (fun b=>?_)⟩
  .have hi0:0<i:=by have:=ae b;lia
   rw[decide_eq_false (show ¬i=0 by lia),Bool.false_or]at M;have R:xs[i-1]? = some (xs[i-1]' AC):=by simp[show i-1<xs.length by lia]
   obtain⟨e,he,te⟩:=ht.get R;have hpe:Gw n e=true:=by
    have:=hf (i-1) AC;unfold IL at this;rw[he]at this;rw[(Lh)]at this;exact this.1
   generalize xs[i-1]' AC=v1 at R te;obtain⟨a1,b1,c1,rfl,ha1,hb1⟩:=WK (te.same I) hpe;obtain⟨a2,b2,c2,rfl,ha2,hb2⟩:=WK tc hb;have hat:Fe xs ((i:Int)-1)=some (.ref a1):=by
    have:=FZ (xs:=xs) (j:=i-1) R
    rwa [show((i-1:Nat):Int)=(i:Int)-1 by lia]at this
   rw[he]at M;refine⟨_,rfl,_,_,_,_,rfl,rfl,Al.of ha2,rfl,_,rfl,_,rfl,_,_,rfl,rfl,_,_,_,_,rfl,rfl,AU.of (I _ _ ha),hat,_,_,_,_,rfl,rfl,Al.of ha1,rfl,b2,b1,_,_,rfl,rfl,hb2,hb1,_,rfl,Bq (fun z=>?_) (fun z=>?_)⟩
   .exact no (by rw[M];simpa using z)
   .exact next (by rw[M];simpa using z)
  .have hi0:i=0:=by have:=az (aZ.mpr b);lia
   exact JS (next (by rw[M,decide_eq_true hi0,Bool.true_or]))
 .rintro σ H' ⟨Y,U,rfl,I,hf⟩;have:=q H' I;have e:Fu n (.list g)=true:=by
   rw[Fu,(Ht)];intro j hj;exact hf j (by rw[hlen];exact bU.mp hj)
  rw[e]at this;exact this
def W0:Ab ["thing","some"] FI (AQ Jo):=Be
def Wd(F:Fn K mg "is_change" Jo FI f fd)(Lm:Fn K mg "is_poly" Oo EQ g1 gd1) (cS:AH P w K mg base Aa 4 g1 gd1 EQ oM)(AY:mg "isinstance" = none)(F3:mg "list" = none)(A9:mg "len" = none):AH P w K mg base Aa 5 f fd FI ic:=by
 have sc:=W0;refine F.F.ok (k:=4) sc BY As
 .obtain⟨l,d,v,rfl,_⟩:=h
  rfl
 obtain⟨l,d,v,rfl,hd,q⟩:=h;refine⟨_,(AG (B5 (PW.pt (Fv (C8 (C6 (Ar FD rfl AY aX (AA FS (AA (FX (v:=.ty "list") rfl F3 PyProof.Rows.boot_list rfl) AB))))) (Fb (BM K0 (Ar BZ rfl A9 af (AA FS AB)) AJ (Ap _)))))
  (AL (Aj Ds))
  BL)
 (AG (Bg aM rfl (Av FS) (An (i:=1) sc.nd rfl AT)
  (AL (B5 (C8 (C6 (AZ Lm cS hr rfl (AA Fa (AA (Ar BZ rfl A9 af (AA FS AB)) AB)))))
   (AL (Aj Ds))
   BL)))
 (AL (Aj Ds)))),?_⟩
 refine⟨_,rfl,_,_,_,_,rfl,P7,hd.ty,Nb K d hd.nodict,_,rfl,?_⟩;by_cases M:Co d=false
 .rw[M];have:=q H (.refl H);rw[jv M]at this;exact Ba (Ba this)
 have M:Co d=true:=by simpa using M
 rw[M];refine JS ?_;obtain⟨I,rfl⟩:=Hu M;rw[Dt]at hd;obtain⟨a,xs,rfl,na,ha,ht⟩:=hd;have g:=ht.len;refine⟨_,rfl,a,xs,rfl,.inl (AU.of ha),rfl,_,rfl,Bq (fun c=>?_) (fun c=>?_)⟩
 .have:I.length=0:=by rw[<-g];have:=ae c;simpa using this
  have q:=q H (.refl H);rw[DH,decide_eq_true this,Bool.not_true,(HF)]at q;exact q
 have h0:¬I.length=0:=by
  rw[<-g];intro z;exact c (by simp[z])
 rw[DH,decide_eq_false h0,Bool.not_false,(Fo)]at q;refine⟨_,rfl,a,rfl,⟨_,AU.of ha⟩,CI (xs:=xs) (fun i σ H'=>∃U,σ=[some (.ref a),U]/\AK H H'/\∀j c,j<i->I[j]? = some c->Fu I.length c=true) ?_ ?_ ?_ ?_⟩
 .exact⟨_,rfl,.refl _,fun j c h=>absurd h (cD _)⟩
 .rintro i σ H' _ ⟨U,rfl,e,_⟩;exact AU.of (e _ _ ha)
 .rintro i x σ H1 hx ⟨U,rfl,R,hf⟩;obtain⟨c,Y,tc⟩:=ht.get hx;refine⟨_,rfl,_,rfl,a,xs,rfl,.inl (AU.of (R _ _ ha)),l,c,x,_,rfl,tc.same R,fun H2 e2=>⟨_,rfl,Bq (fun b=>?_) (fun b=>?_)⟩⟩
  .have hb:Fu I.length c=false:=by rw[<-g];simpa using b
   have:=q H2 (R.trans e2);have e:I.all (Fu I.length)=false:=aZ.mpr fun y=>by
    rw[(Ht)]at y;rw[y c (aI Y)]at hb;cases hb
   rw[e]at this;exact this
  .have hb:Fu I.length c=true:=by rw[<-g];simpa using b
   refine⟨_,rfl,R.trans e2,fun j e Z he=>?_⟩;by_cases z:j=i
   .subst z;rw[Y]at he;cases he;exact hb
   .exact hf j e AC he
 .rintro σ H' ⟨U,rfl,R,hf⟩;have e:I.all (Fu I.length)=true:=by
   rw[(Ht)];intro c Y;obtain⟨j,Z⟩:=ah Y;exact hf j c (by rw[g];exact(aB.mp Z).1) Z
  have:=q H' R;rw[e]at this;exact this
end
def QU:Sp:=fun vs H Q _=>∃(g:V) (C S:AD) (t:Tb) (cs xs:IR) (uss:Ch) (rs:List Rat) (many:Nat),vs=[g,.ref C,.ref S]/\DU H (CM t) g/\t.Ok 4/\LJ H C cs uss 3/\DH (.list (uss.map Bz))=true/\uss.length=many/\H S=some (.lst xs)/\Aq H (AV rs) xs/\rs.length=many/\many<=4/\∀H',AK H H'->Q .Bj H'
def WA:Sp:=fun vs H Q _=>∃(v:V) (t:Tb) (m:Nat),vs=[v]/\DU H (CM t) v/\t.Ok m/\m<=40/\∀H',AK H H'->Q .Bj H'
section
variable{P:F0b}{w:F0c}{K:Fg}{mg:tm}{base:Heap}{f g1:AD}{fd gd1:F0a}
def Oi:Ab FI FI (AQ DR):=Be
def OW(F:Fn K mg "refuse_no_table" DR FI f fd)(M:Fn K mg "is_table" Kn FI g1 gd1) (I:AH P w K mg base Aa 5 g1 gd1 FI YB):AH P w K mg base Aa 6 f fd FI WA:=by
 have sc:=Oi;refine F.F.ok (k:=5) sc BY (fun cdv A outer s H vs Q E g h=>?_)
 .obtain⟨v,t,m,rfl,_⟩:=h
  rfl
 obtain⟨v,t,m,rfl,⟨N,b⟩,ok,hm,q⟩:=h;refine⟨_,(AL (B5 (C8 (C6 (AZ M I g rfl (AA FS AB))))
  (AL NV)
  BL)),?_⟩
 refine⟨_,rfl,N,CM t,v,rfl,b N (aH _),fun H' e=>?_⟩;rw[ok.is hm];exact⟨_,rfl,JS (q H' e)⟩
end
def QE:Sp:=fun vs H Q _=>∃(v:V) (d:PD),vs=[v]/\DU H d v/\DH d=true/\∀H',AK H H'->Q .Bj H'
def NH:Sp:=fun vs H Q _=>∃(S:AD) (xs:IR) (rs:List Rat),vs=[.ref S,.int (rs.length:Nat)]/\H S=some (.lst xs)/\Aq H (AV rs) xs/\Q .Bj H
def qU{X:Cx}{e:Expr}:PE X e (fun _ _ _=>False):=fun _ _ _ _ _ _ z=>z.elim
section
variable{P:F0b}{w:F0c}{K:Fg}{mg:tm}{base:Heap}{f g1 g2 g3:AD}{fd gd1 gd2 gd3:F0a}
def Nq:Ab FI FI (AQ B3):=Be
def Nv(F:Fn K mg "refuse_no_change" B3 FI f fd)(M:Fn K mg "is_change" Jo FI g1 gd1) (I:AH P w K mg base Aa 6 g1 gd1 FI ic):AH P w K mg base Aa 7 f fd FI QE:=by
 have sc:=Nq;refine F.F.ok (k:=6) sc BY (fun cdv A outer s H vs Q E g h=>?_)
 .obtain⟨v,d,rfl,_⟩:=h
  rfl
 obtain⟨v,d,rfl,⟨N,b⟩,hd,q⟩:=h;refine⟨_,(AL (B5 (C8 (C6 (AZ M I g rfl (AA FS AB))))
  (AL NV)
  BL)),?_⟩
 refine⟨_,rfl,N,d,v,rfl,b N (aH _),fun H' e=>?_⟩;rw[hd];exact⟨_,rfl,JS (q H' e)⟩
def Ot:Ab EQ EQ (AQ CF):=Be
def Oz(F:Fn K mg "refuse_no_start" CF EQ f fd)(U:Fn K mg "are_fractions" EB FI g1 gd1) (R:AH P w K mg base Aa 4 g1 gd1 FI Pa)(Y:mg "len" = none):AH P w K mg base Aa 5 f fd EQ NH:=by
 have sc:=Ot;refine F.F.ok (k:=4) sc BY (fun cdv A outer s H vs Q E M h=>?_)
 .obtain⟨S,xs,rs,rfl,_⟩:=h
  rfl
 obtain⟨S,xs,rs,rfl,I,dx,q⟩:=h;have g:xs.length=rs.length:=by rw[dx.len,DY]
 refine⟨_,(AL (B5 (PW.pt (Fv (C8 (C6 (AZ U R M rfl (AA FS AB)))) (Fb (BM Ks (Ar BZ rfl Y af (AA FS AB)) Fa (Ap _)))))
  (AL (BK qU))
  BL)),?_⟩
 obtain⟨N,b⟩:=DU.lst I dx;have ha:Bf (.list (AV rs))=true:=by rw[Bf,(Ht)];exact Q0 rs
 refine⟨_,rfl,N,.list (AV rs),.ref S,rfl,b N (aH _),?_⟩;rw[ha];refine⟨_,rfl,JS ⟨_,rfl,S,xs,rfl,.inl (AU.of I),_,rfl,rfl,_,rfl,?_⟩⟩;rw[g,show(!decide (V.int (rs.length:Nat)=V.int (rs.length:Nat)))=false by simp];exact JS q
def Pp:Ab Go Go (AQ CU):=Be
def Po(F:Fn K mg "refuse_no_step" CU Go f fd)(CC:Fn K mg "refuse_no_table" DR FI g1 gd1)(BE:Fn K mg "refuse_no_change" B3 FI g2 gd2)(BO:Fn K mg "refuse_no_start" CF EQ g3 gd3) (EI:AH P w K mg base Aa 7 g1 gd1 FI WA)(B2:AH P w K mg base Aa 7 g2 gd2 FI QE)(CD:AH P w K mg base Aa 7 g3 gd3 EQ NH)(A9:mg "len" = none):AH P w K mg base Aa 8 f fd Go QU:=by
 have sc:=Pp;refine F.F.ok (k:=7) sc BY (fun cdv A outer s H vs Q E U h=>?_)
 .obtain⟨vt,C,S,t,cs,xs,uss,rs,many,rfl,_⟩:=h
  rfl
 obtain⟨vt,C,S,t,cs,xs,uss,rs,many,rfl,dt,ot,ch,Z,M,hS,dx,R,hm4,q⟩:=h;have Y:cs.length=rs.length:=by rw[ch.cl,M,R]
 refine⟨_,(AG (BK (AZ CC EI U rfl (AA FS AB)))
 (AG (BK (AZ BE B2 U rfl (AA Fa AB)))
 (AL (BK (AZ BO CD U rfl (AA IN (AA (Ar BZ rfl A9 af (AA Fa AB)) AB))))))),?_⟩
 refine⟨_,rfl,vt,t,4,rfl,dt,ot,by decide,fun H1 e1=>?_⟩;have g:=ch.same e1;refine⟨_,rfl,.ref C,_,rfl,DU.lst g.at_ g.du,Z,fun H2 e2=>?_⟩;have I:=e1.trans e2;refine⟨_,rfl,_,rfl,C,cs,rfl,.inl (AU.of (I _ _ ch.at_)),S,xs,rs,?_,I _ _ hS,dx.same I,q H2 I⟩;rw[Y]
 rfl
end
theorem YG{x0:Nat->Int}{uss:Ch}{rows:List (List Int)}{nn a b c r:Nat}(hl:uss.length=nn)(R:∀u,u<nn->(x0 u).natAbs<=2^a)(I:∀us∈uss,us.length<=16/\∀z∈us,Dk nn z.1/\z.2.num.natAbs<=2^c)
 (hr:∀row∈rows,row.length<=4/\∀p∈row,p.natAbs<=2^r)(hb:15+r+c+2*a<=b):∀i,i<=rows.length ->
  (∀S∈(B1 x0 uss (rows.take i)).1,∀u k,u<nn->k<=7->(S u k).natAbs<=2^(13+c+3*a+b*k))/\∀u k,u<nn->k<=8->((B1 x0 uss (rows.take i)).2 u k).natAbs<=2^(a+b*k)
 |0,_=>by
  refine⟨fun S M=>(by cases M),fun u k g hk=>?_⟩;cases k with
  |zero=>exact R u g
  |succ k=>exact ar _
 |i+1,hi=>by
  obtain⟨h1,h2⟩:=YG hl R I hr hb i AC;have Y:rows[i]? = some (rows[i]' hi):=aG hi;obtain⟨r4,rb⟩:=hr _ (aq hi);rw[(CP),Y,Option.toList_some,NK];generalize rows[i]' hi=row at r4 rb;have M:∀S∈(B1 x0 uss (rows.take i)).1++[Ee uss (B1 x0 uss (rows.take i)).2],∀u k,u<nn->k<=7->(S u k).natAbs<=2^(13+c+3*a+b*k):=fun S M u k g hk=>by
   rcases aQ.mp M with h|h
   .exact h1 S h u k g hk
   .rw[List.mem_singleton.mp h];have U:uss.getD u []∈uss:=by rw[(FQ),List.getElem?_eq_getElem (show u<uss.length by lia)];exact aq _
    exact Q9 hk (fun u j g hj=>h2 u j g AC) (I _ U).1 (I _ U).2
  refine⟨M,fun u k g hk=>?_⟩;cases k with
  |zero=>exact R u g
  |succ k=>
   show(Na row _ u k).natAbs<=_;unfold Na;have h3:∀x∈(row.zip ((B1 x0 uss (rows.take i)).1++[Ee uss (B1 x0 uss (rows.take i)).2])).map fun q=>q.1*q.2 u k,x.natAbs<=2^(r+(13+c+3*a+b*k)):=fun x R=>by
    obtain⟨q,hq,rfl⟩:=aL.mp R;have Z:=bh hq;rw[Int.natAbs_mul,Nat.pow_add];exact cA (rb _ Z.1) (M _ Z.2 u k g AC)
   have h4:=RQ h3;have h5:((row.zip ((B1 x0 uss (rows.take i)).1++[Ee uss (B1 x0 uss (rows.take i)).2])).map fun q=>q.1*q.2 u k).length<=2^2:=by
    rw[(Ah),List.length_zip];exact aS (Nat.min_le_left _ _) r4
   refine aS h4 (aS (bp _ h5) ?_);rw[<-Nat.pow_add];refine ay AS ?_;rw[(Mu)];lia
structure EF(t:Tb)(uss:Ch)(rs:List Rat)(most nn:Nat):Prop where
 tab:t.Ok 4
 Qi:t.Fits 3
 n4:nn<=4
 len:uss.length=nn
 Gi:rs.length=nn
 Ly:most<=7
 fit:∀us∈uss,us.length<=12/\∀m∈us,FM.Fits m.2 3
 pw:∀us∈uss,∀m∈us,Dk nn m.1
 Ob:∀r∈rs,FM.Fits r 3
 good:DH (.list (uss.map Bz))=true
abbrev RN(t:Tb)(uss:Ch)(rs:List Rat):Int:=Gv uss (Ac rs)*NU t
abbrev HE(t:Tb):List (List Int):=(Ak t).map fun r=>BP r (NU t)
def NN(t:Tb)(uss:Ch)(rs:uC)(i:Nat):List (Nat->Nat->Int)×(Nat->Nat->Int):=B1 ((BP rs (Ac rs)).getD · 0) (B7 (Ac rs) uss) ((HE t).take i)
section
variable{t:Tb}{uss:Ch}{rs:uC}{most nn:Nat}
def EF.sum(o:EF t uss rs most nn):∀us∈uss,∀m∈us,0<=Bc m/\Bc m<=3:=fun us g m hm=>⟨Fm (o.pw us g m hm).nn,(o.pw us g m hm).s3⟩
def EF.Za(o:EF t uss rs most nn):∀us∈uss,us.length<=12/\∀m∈us,FM.Fits m.2 4:=fun us g=>⟨(o.fit us g).1,fun m hm=>((o.fit us g).2 m hm).mono⟩
def EF.VF(o:EF t uss rs most nn):∀r∈rs,FM.Fits r 4:=fun r g=>(o.Ob r g).mono
def EF.Mr(o:EF t uss rs most nn):1<=Ac rs/\(Ac rs).natAbs<2^17/\∀r∈rs,(r.den:Int) ∣ Ac rs:=by
 obtain⟨a,b,c⟩:=K3 (Md o.VF);refine⟨a,FM.BR b ?_,fun r g=>c _ (aL.mpr ⟨r,g,rfl⟩)⟩;rw[(Ah),o.Gi];have:=o.n4
 lia
def EF.bot(o:EF t uss rs most nn):1<=NU t/\(NU t).natAbs<2^61/\∀r∈Ak t,∀q∈r,(q.den:Int) ∣ NU t:=by
 obtain⟨a,b,c⟩:=K3 (Tw o.Qi t.rs.length);have M:=Lp o.tab t.rs.length (aH _);have hm:=o.tab.most;refine⟨a,FM.BR b ?_,fun r I q g=>c _ ?_⟩
 .have:t.rs.length*t.rs.length<=4*4:=cA hm hm
  lia
 .unfold Ak at I;unfold Iz;rcases aQ.mp I with h|h
  .refine aa _ (bz.mpr ⟨Fw r,List.mem_map.mpr ⟨r,?_,rfl⟩,List.mem_map.mpr ⟨q,g,rfl⟩⟩);rw[(DC)];exact bX h
  .rw[List.mem_singleton.mp h]at g;exact bO _ (aL.mpr ⟨q,g,rfl⟩)
def EF.fy(o:EF t uss rs most nn):(Ak t).length=t.rs.length/\∀i r,(Ak t)[i]? = some r->r.length=i+1:=by
 have R:=o.tab.one;refine⟨by unfold Ak;simp;lia,fun i r g=>?_⟩;unfold Ak at g;by_cases hi:i<t.rs.length-1
 .rw[List.getElem?_append_left (by simp;lia),List.getElem?_drop]at g;have:=o.tab.row _ _ g
  lia
 .rw[List.getElem?_append_right (by simp;lia)]at g;simp at g;obtain⟨M,I⟩:=aB.mp g;simp at M;have:r=t.ls:=by rw[<-I];simp
  rw[this,o.tab.last];lia
def EF.Ej(o:EF t uss rs most nn):(∀i row,(HE t)[i]? = some row->row.length=i+1)/\(HE t).length=t.rs.length/\∀row∈HE t,row.length<=4/\∀p∈row,p.natAbs<=2^64:=by
 obtain⟨R,Z⟩:=o.fy;obtain⟨b1,b2,_⟩:=o.bot;have hm:=o.tab.most;have Y:∀i row,(HE t)[i]? = some row->row.length=i+1:=fun i row h=>by
  rw[(BC)]at h;obtain⟨r,g,rfl⟩:=aF.mp h;unfold BP;rw[(Ah)];exact Z i r g
 refine⟨Y,by rw[(Ah)];exact R,fun row h=>?_⟩;obtain⟨i,hi⟩:=ah h;have M:i<(HE t).length:=(aB.mp hi).1;rw[(Ah),R]at M;refine⟨by rw[Y i row hi];lia,fun p U=>?_⟩;obtain⟨r,g,rfl⟩:=aL.mp h;unfold BP at U;obtain⟨q,I,rfl⟩:=aL.mp U;have hf:FM.Fits q 3:=by
  unfold Ak at g;rcases aQ.mp g with h|h
  .exact o.Qi.1 r (bX h) q I
  .rw[List.mem_singleton.mp h]at I;exact o.Qi.2 q I
 have h2:((NU t).fdiv (q.den:Int)).natAbs<2^61:=aJ (FM.Az _ _) b2;exact ba (FM.A6 hf.1 h2)
def EF.jK(o:EF t uss rs most nn):(∀x∈BP rs (Ac rs),x.natAbs<=2^21)/\(∀us∈B7 (Ac rs) uss,us.length<=12/\∀z∈us,Dk nn z.1/\z.2.num.natAbs<=2^250)/\(B7 (Ac rs) uss).length=nn/\(BP rs (Ac rs)).length=nn:=by
 obtain⟨g1,g2,_⟩:=o.Mr;obtain⟨b1,b2,_⟩:=Fp (by rw[o.len];exact o.n4) o.Za;refine⟨fun x Y=>?_,fun us Z=>?_,by unfold B7;rw[(Ah)];exact o.len,by unfold BP;rw[(Ah)];exact o.Gi⟩
 .unfold BP at Y;obtain⟨r,hr,rfl⟩:=aL.mp Y;have R:=(o.VF r hr).1;have M:((Ac rs).fdiv (r.den:Int)).natAbs<2^17:=aJ (FM.Az _ _) g2;exact ba (FM.A6 R M)
 .unfold B7 at Z;obtain⟨vs,g,rfl⟩:=aL.mp Z;refine⟨by unfold DK;rw[(Ah)];exact(o.fit vs g).1,fun z U=>?_⟩;unfold DK at U;obtain⟨m,hm,rfl⟩:=aL.mp U;refine⟨o.pw vs g m hm,?_⟩;have R:=((o.Za vs g).2 m hm).1;have M:((Bi uss).fdiv (m.2.den:Int)).natAbs<2^193:=aJ (FM.Az _ _) b2;obtain⟨_,g3,_⟩:=Gk (uss:=uss) (c:=3) AS fun us I m hm=>(o.sum us I m hm).2;have h3:((Ac rs)^(Ax uss-(Bc m).toNat)).natAbs<2^(17*3+1):=Dc (p:=3) g2 (by unfold Ax;lia);have h4:=FM.A6 (FM.A6 R M) h3;show((Mm (Bi uss) (Ac rs) (Ax uss) m).2.num).natAbs<=_;unfold Mm;rw[show((m.2.num*(Bi uss).fdiv (m.2.den:Int)*Ac rs^(Ax uss-(Bc m).toNat):Int):Rat).num=m.2.num*(Bi uss).fdiv (m.2.den:Int)*Ac rs^(Ax uss-(Bc m).toNat) from rfl];exact ba (FM.BR h4 AS)
def EF.xb(o:EF t uss rs most nn):∀i,i<=(HE t).length->(∀S∈(NN t uss rs i).1,∀u k,u<nn->k<=7->(S u k).natAbs<=2^(326+371*k))/\∀u k,u<nn->k<=8->((NN t uss rs i).2 u k).natAbs<=2^(21+371*k):=fun i hi=>by
 obtain⟨U,I,R,M⟩:=o.jK;refine YG (a:=21) (c:=250) (r:=64) R (fun u g=>?_) (fun us g=>⟨by have:=(I us g).1;lia,(I us g).2⟩) o.Ej.2.2 AS i hi;show((BP rs (Ac rs)).getD u 0).natAbs<=_;rw[(FQ),List.getElem?_eq_getElem (show u<(BP rs (Ac rs)).length by rw[M];exact g)];exact U _ (aq _)
def EF.wt(o:EF t uss rs most nn):lJ (B7 (Ac rs) uss) (BP rs (Ac rs)) (HE t) most nn 3200:=by
 obtain⟨h1,U,h3,h4⟩:=o.jK;obtain⟨t1,Z,t3⟩:=o.Ej;have hm:=o.Ly;have M:=o.xb;have hk:∀k,k<most->371*k<=2597:=fun k hk=>by lia
 refine⟨o.n4,h3,h4,by lia,fun us g=>by have:=(U us g).1;lia,fun us g z Y=>((U us g).2 z Y).1,fun us g z Y=>EU ((U us g).2 z Y).2 AS,t1,by rw[Z];have:=o.tab.most;lia,fun row hr p hp=>EU ((t3 row hr).2 p hp) AS,fun i hi u k g I=>EU ((M i AC).2 u k g AC) (by have:=hk k I;lia),fun i hi ps po k I=>EU (SA (k:=k) AC (fun u j g hj=>(M i AC).2 u j g AC) po) (by have:=hk k I;lia),fun i hi u k g I=>?_,by decide⟩;have R:(B7 (Ac rs) uss).getD u []∈B7 (Ac rs) uss:=by rw[(FQ),List.getElem?_eq_getElem (show u<(B7 (Ac rs) uss).length by lia)];exact aq _
 refine EU (Q9 (k:=k) AC (fun u j g hj=>(M i AC).2 u j g AC) (by have:=(U _ R).1;lia) (U _ R).2) (by have:=hk k I;lia)
def EF.EL(o:EF t uss rs most nn):1<=Gv uss (Ac rs)/\(Gv uss (Ac rs)).natAbs<2^300/\(RN t uss rs).natAbs<2^400/\1<=RN t uss rs:=by
 obtain⟨Z,Y,_⟩:=o.Mr;obtain⟨t1,M,_⟩:=o.bot;obtain⟨b1,b2,_⟩:=Fp (by rw[o.len];exact o.n4) o.Za;obtain⟨_,g3,_⟩:=Gk (uss:=uss) (c:=3) AS fun us g m hm=>(o.sum us g m hm).2;have U:((Ac rs)^(Ax uss-1)).natAbs<2^(17*3+1):=Dc (p:=3) Y (by unfold Ax;lia);have I:(Gv uss (Ac rs)).natAbs<2^300:=FM.BR (FM.A6 b2 U) AS;have h0:1<=(Ac rs)^(Ax uss-1):=NM Z _;have R:1<=Gv uss (Ac rs):=Int.mul_pos (show 0<_ by lia) (show 0<_ by lia);exact⟨R,I,FM.BR (FM.A6 I M) AS,Int.mul_pos (show 0<_ by lia) (show 0<_ by lia)⟩
end
def VX(t:Tb)(uss:Ch)(rs:uC)(most:Nat):List uC:=(List.range uss.length).map fun u=>KI (QG ((NN t uss rs (HE t).length).2 u) (RN t uss rs) (Ac rs)) (most+1)
def i9:Sp:=fun vs H Q _=>∃(I:V) (C S:AD) (cs ss:IR) (t:Tb) (uss:Ch) (rs:List Rat) (most nn:Nat),vs=[I,.ref C,.ref S,.int (most:Nat)]/\DU H (CM t) I/\H C=some (.lst cs)/\Aq H (uss.map Bz) cs/\H S=some (.lst ss)/\Aq H (AV rs) ss/\EF t uss rs most nn /\
 ∀D H' g,AK H H'->H D=none->H' D=some (.lst g)->Aq H' (BU (VX t uss rs most)) g->(∀z∈g,∃a,z=.ref a/\H a=none)->Q (.ref D) H'
section
variable{P:F0b}{w:F0c}{K:Fg}{mg:tm}{base:Heap}{f g1 g2 g3 g4 g5 g6 g7 g8 g9 g10:AD}{fd gd1 gd2 gd3 gd4 gd5 gd6 gd7 gd8 gd9 gd10:F0a}
def O0:Ab ["table","change","start","most","grain","bottom","reading","rows","pace"] ["table","change","start","most"] (AQ Js):=Be
def Vm(F:Fn K mg "step_rows" Js ["table","change","start","most"] f fd)(Bs:Fn K mg "refuse_no_step" CU Go g1 gd1)(Bl:Fn K mg "refuse_too_many" CG ["most"] g2 gd2)(Dx:Fn K mg "grain_of" IZ ["start"] g3 gd3)(Gy:Fn K mg "table_bottom" Jc ["table"] g4 gd4)(Cy:Fn K mg "rows_that_read" Ft ["table"] g5 gd5) (Bx:Fn K mg "tops_over" GD ["some","bottom"] g6 gd6)(Ip:Fn K mg "whole_step" LX ["reading","change","start","most"] g7 gd7)(CB:Fn K mg "whole_change" Fc ["change","grain"] g8 gd8)(EW:Fn K mg "pace_of" J0 ["change","grain"] g9 gd9)(CS:Fn K mg "row_of_fractions" Ep ["row","pace","grain"] g10 gd10) (Di:AH P w K mg base Aa 8 g1 gd1 Go QU)(DV:AH P w K mg base Aa 8 g2 gd2 ["most"] Zm)(Ih:AH P w K mg base Aa 8 g3 gd3 ["start"] PZ)(Sr:AH P w K mg base Aa 8 g4 gd4 ["table"] mD)(Hv:AH P w K mg base Aa 8 g5 gd5 ["table"] Sw) (EV:AH P w K mg base Aa 8 g6 gd6 ["some","bottom"] O3)(Wq:AH P w K mg base Aa 8 g7 gd7 ["reading","change","start","most"] iX)(FV:AH P w K mg base Aa 8 g8 gd8 ["change","grain"] ZS)(J3:AH P w K mg base Aa 8 g9 gd9 ["change","grain"] R5)(GX:AH P w K mg base Aa 8 g10 gd10 ["row","pace","grain"] Y5):AH P w K mg base Aa 9 f fd ["table","change","start","most"] i9:=by
 have sc:=O0;refine F.F.ok (k:=8) sc BY (fun cdv A outer s H vs Q E I h=>?_)
 .obtain⟨vt,C,S,cs,ss,t,uss,rs,most,nn,rfl,_⟩:=h
  rfl
 obtain⟨vt,C,S,cs,ss,t,uss,rs,most,nn,rfl,dt,hC,dc,hS,ds,ok,q⟩:=h;have n4:=ok.n4;have hul4:uss.length<=4:=by rw[ok.len];exact n4
 have hsl4:rs.length<=4:=by rw[ok.Gi];exact n4
 obtain⟨gr1,gr2,_⟩:=ok.Mr;obtain⟨tb1,tb2,_⟩:=ok.bot;obtain⟨pc1,pc2,pc3,pc4⟩:=ok.EL;obtain⟨rl1,rl2⟩:=ok.fy;have hm4:=ok.tab.most;have chg:∀H',AK H H'->LJ H' C cs uss 4:=fun H' e=>⟨e _ _ hC,dc.same e,hul4,ok.Za⟩;refine⟨_,(AG (BK (AZ Bs Di I rfl (AA FS (AA Fa (AA IN AB)))))
 (AG (BK (AZ Bl DV I rfl (AA (pv 3) AB)))
 (AG (AX (i:=4) sc.nd rfl (Or.inr rfl) (AZ Dx Ih I rfl (AA IN AB)))
 (AG (AX (i:=5) sc.nd rfl (Or.inr rfl) (AZ Gy Sr I rfl (AA FS AB)))
 (AG (FA (i:=6) [".0","row","bottom"] 1 [none,none,some 5] sc.nd rfl rfl (Av (AZ Cy Hv I rfl (AA FS AB))) F9 (fun _ _ _ _ _=>(AZ Bx EV I rfl (AA Fa (AA IN AB)))))
 (AG (AX (i:=7) sc.nd rfl AT (AZ Ip Wq I rfl (AA (pv 6) (AA (AZ CB FV I rfl (AA Fa (AA (pv 4) AB))) (AA (AZ Bx EV I rfl (AA IN (AA (pv 4) AB))) (AA (pv 3) AB))))))
 (AG (AX (i:=8) sc.nd rfl (Or.inr rfl) (Ae BD (AZ EW J3 I rfl (AA Fa (AA (pv 4) AB))) (pv 5)))
 (AL (Aj (CH [".0","row","pace","grain"] 1 [none,none,some 8,some 4] (Av (pv 7)) F9 (fun _ _ _ _ _=>(AZ CS GX I rfl (AA Fa (AA IN (AA (pv 3) AB))))))))))))))),?_⟩
 refine⟨_,rfl,_,rfl,_,rfl,vt,C,S,t,cs,ss,uss,rs,nn,rfl,dt,ok.tab,⟨hC,dc,hul4,ok.fit⟩,ok.good,ok.len,hS,ds,ok.Gi,n4,fun H1 e1=>?_⟩;refine⟨_,rfl,most,rfl,ok.Ly,?_⟩;refine⟨_,rfl,S,ss,rs,4,rfl,e1 _ _ hS,ds.same e1,by lia,ok.VF,by lia,fun H2 e2=>?_⟩;have E2:=e1.trans e2;refine⟨_,rfl,vt,t,4,3,rfl,dt.same E2,ok.tab,by decide,ok.Qi,by decide,fun H3 e3=>?_⟩;have E3:=E2.trans e3;refine⟨_,rfl,vt,t,4,rfl,dt.same E3,ok.tab,by decide,fun Rr H4 zs e4 hRr M dz=>?_⟩;have E4:=E3.trans e4;have hzl:zs.length=(Ak t).length:=by rw[dz.len];unfold BU;rw[(Ah)]
 refine⟨Rr,rfl,⟨_,AU.of M⟩,fun D hD=>Bo (n:=zs.length) (fun i ys H'=>AK H4 H'/\ys.length=i/\AW D H' (((HE t).take i).map fun r=>.list (r.map .int)) ys) ⟨AO hD _,rfl,.nil⟩ ?_ ?_⟩
 .rintro i ys H5 hi ⟨e5,hyl,Y⟩ hD5;obtain⟨r,I⟩:∃r,(Ak t)[i]? = some r:=⟨(Ak t)[i]' AC,List.getElem?_eq_getElem _⟩;obtain⟨a,xs,k1,k2,k3⟩:=NW dz I;have hrm:=aI I;have hrl:=rl2 i _ I;have htr:(HE t)[i]? = some (BP r (NU t)):=by rw[(BC),I];rfl
  have hrf:∀q∈r,FM.Fits q 3:=fun q hq=>by
   unfold Ak at hrm;rcases aQ.mp hrm with h|h
   .exact ok.Qi.1 r (bX h) q hq
   .rw[List.mem_singleton.mp h]at hq;exact ok.Qi.2 q hq
  refine⟨⟨zs,.ref a,AU.of (e5 _ _ M),k1⟩,Bt (n:=60) AC AS,fun x H' y=>?_⟩;obtain⟨rfl,y⟩:=y;have hx:=y zs (AU.of (e5 _ _ M));rw[k1]at hx;cases hx;unfold B0;refine Ba ⟨_,rfl,_,rfl,a,xs,r,NU t,3,61,rfl,e5 _ _ k2,k3.same e5,by lia,hrf,tb2,by decide,fun Z H6 e6 hZ hZ6=>?_⟩;have hD6:=e6 _ _ hD5;have nZ:Z≠D:=fun z=>by subst z;rw[hD5]at hZ;cases hZ
  refine⟨hD6,BG hi ⟨fun b o z=>?_,by simp[hyl],?_⟩⟩
  .rw[AN (AR z hD)];exact e6 _ _ (e5 _ _ z)
  .rw[(CP),htr,(A4)];exact .but .upd ((Y.same e6).app (.cons (.lst nZ hZ6 (Vb _)) .nil))
 rintro ys H5 ⟨e5,hyl,Y⟩ hD5;rw[List.take_of_length_le (by rw[hzl,(Ah)];exact aH _)]at Y;have Y:=CT Y;refine⟨⟨zs,AU.of (e5 _ _ M),Nat.le_refl _⟩,?_⟩;have E5:=E4.trans e5;refine⟨_,rfl,_,rfl,_,rfl,C,cs,uss,Ac rs,17,rfl,chg H5 E5,ok.sum,gr2,by decide,fun W H6 ws e6 hW hW6 dW=>?_⟩;have E6:=E5.trans e6;refine⟨_,rfl,_,rfl,S,ss,rs,Ac rs,4,17,rfl,E6 _ _ hS,ds.same E6,by lia,ok.VF,gr2,by decide,fun T H7 e7 hT hT7=>?_⟩;have E7:=E6.trans e7;refine⟨_,rfl,D,W,T,ys,ws,B7 (Ac rs) uss,BP rs (Ac rs),HE t,most,nn,3200,rfl,e7 _ _ (e6 _ _ hD5),Y.same (e6.trans e7),e7 _ _ hW6,dW.same e7,hT7,ok.wt,fun R H8 e8 hR rw8=>?_⟩;have E8:=E7.trans e8;refine⟨_,rfl,_,rfl,C,cs,uss,Ac rs,17,rfl,chg H8 E8,ok.sum,gr2,by decide,fun H9 e9=>?_⟩;have E9:=E8.trans e9;refine⟨_,rfl,_,_,rfl,rfl,D9 pc2 tb2 AS,?_⟩;obtain⟨rvs,k1,k2,k3⟩:=rw8;have hk1:=e9 _ _ k1;refine⟨_,rfl,R,rfl,⟨_,AU.of hk1⟩,fun D2 hD2=>Bo (n:=rvs.length) (fun i ys H'=>AK H9 H'/\ys.length=i/\AW D2 H' (BU ((List.range i).map fun u=>KI (QG ((NN t uss rs (HE t).length).2 u) (RN t uss rs) (Ac rs)) (most+1))) ys/\∀z∈ys,∃a,z=.ref a/\H a=none) ⟨AO hD2 _,rfl,.nil,(fun _ z=>by cases z)⟩ ?_ ?_⟩
 .rintro i ys H10 hi ⟨g,hyl,Y,ny⟩ U;obtain⟨a,j1,j2,j3,_⟩:=k3 i AC;have hst:(B1 ((BP rs (Ac rs)).getD · 0) (B7 (Ac rs) uss) (HE t)).2=(NN t uss rs (HE t).length).2:=by unfold NN;rw[(DC)]
  rw[hst]at j2;refine⟨⟨rvs,.ref a,AU.of (g _ _ hk1),j1⟩,Bt (n:=60) AC AS,fun x H' y=>?_⟩;obtain⟨rfl,y⟩:=y;have hx:=y rvs (AU.of (g _ _ hk1));rw[j1]at hx;cases hx;unfold B0;refine Ba ⟨_,rfl,_,rfl,_,rfl,a,(NN t uss rs (HE t).length).2 i,most+1,RN t uss rs,Ac rs,400,rfl,g _ _ (e9 _ _ j2),by have:=ok.Ly;lia,by lia,by lia,FM.BR gr2 (show 17<=400 by decide),pc3,by decide,fun Z H11 zs e11 hZ hZ11 dz=>?_⟩;have hD11:=e11 _ _ U;have nZ:Z≠D2:=fun z=>by subst z;rw[U]at hZ;cases hZ
  refine⟨hD11,BG hi ⟨fun b o z=>?_,by simp[hyl],?_,fun z hz=>?_⟩⟩
  .rw[AN (AR z hD2)];exact e11 _ _ (g _ _ z)
  .rw[(Ny),(A4)];unfold BU at Y ⊢;rw[(A4)];exact .but .upd ((Y.same e11).app (.cons (.lst nZ hZ11 (JT hD11 dz)) .nil))
  .rcases aQ.mp hz with h|h
   .exact ny z h
   .exact⟨Z,List.mem_singleton.mp h,Cd (E9.trans g) hZ⟩
 .rintro ys H10 ⟨g,hyl,Y,ny⟩ U;rw[k2]at Y;refine⟨⟨rvs,AU.of (g _ _ hk1),Nat.le_refl _⟩,q D2 H10 ys (E9.trans g) (Cd E9 hD2) U ?_ ny⟩;unfold VX;rw[ok.len];exact CT Y
end
abbrev RA(uss:Ch)(rs:List Rat)(most:Nat):Int:=Gv uss (Ac rs)*Ey most
def Ys(uss:Ch)(rs:uC)(most:Nat):Nat->Nat->Int:=grow ((BP rs (Ac rs)).getD · 0) (B7 (Ac rs) uss) (Ey most)
def Yi(uss:Ch)(rs:uC)(most:Nat):List uC:=(List.range uss.length).map fun u=>KI (QG (Ys uss rs most u) (RA uss rs most) (Ac rs)) (most+1)
structure Hl(uss:Ch)(rs:List Rat)(most nn:Nat):Prop where
 n4:nn<=4
 len:uss.length=nn
 Gi:rs.length=nn
 Ly:most<=7
 fit:∀us∈uss,us.length<=12/\∀m∈us,FM.Fits m.2 4
 pw:∀us∈uss,∀m∈us,Dk nn m.1
 Ob:∀r∈rs,FM.Fits r 4
 good:DH (.list (uss.map Bz))=true
def Hl.sum{uss:Ch}{rs:uC}{most nn:Nat}(o:Hl uss rs most nn):∀us∈uss,∀m∈us,0<=Bc m/\Bc m<=3:=fun us g m hm=>⟨Fm (o.pw us g m hm).nn,(o.pw us g m hm).s3⟩
def Hl.Mr{uss:Ch}{rs:uC}{most nn:Nat}(o:Hl uss rs most nn):1<=Ac rs/\(Ac rs).natAbs<2^17/\∀r∈rs,(r.den:Int) ∣ Ac rs:=by
 obtain⟨a,b,c⟩:=K3 (Md o.Ob);refine⟨a,FM.BR b ?_,fun r g=>c _ (aL.mpr ⟨r,g,rfl⟩)⟩;rw[(Ah),o.Gi];have:=o.n4
 lia
def Lu{x:Int}{n:Nat}(h:x.natAbs<2^n):x.natAbs<=2^n:=ba h
def Hl.jK{uss:Ch}{rs:uC}{most nn:Nat}(o:Hl uss rs most nn):(∀x∈BP rs (Ac rs),x.natAbs<=2^21)/\(∀us∈B7 (Ac rs) uss,us.length<=12/\∀z∈us,Dk nn z.1/\z.2.num.natAbs<=2^250)/\(Ey most).natAbs<=2^13:=by
 obtain⟨g1,g2,_⟩:=o.Mr;obtain⟨b1,b2,_⟩:=Fp (by rw[o.len];exact o.n4) o.fit;refine⟨fun x Y=>?_,fun us Z=>?_,?_⟩
 .unfold BP at Y;obtain⟨r,hr,rfl⟩:=aL.mp Y;have R:=(o.Ob r hr).1;have M:((Ac rs).fdiv (r.den:Int)).natAbs<2^17:=aJ (FM.Az _ _) g2;exact Lu (FM.A6 R M)
 .unfold B7 at Z;obtain⟨vs,g,rfl⟩:=aL.mp Z;refine⟨by unfold DK;rw[(Ah)];exact(o.fit vs g).1,fun z U=>?_⟩;unfold DK at U;obtain⟨m,hm,rfl⟩:=aL.mp U;refine⟨o.pw vs g m hm,?_⟩;have R:=((o.fit vs g).2 m hm).1;have M:((Bi uss).fdiv (m.2.den:Int)).natAbs<2^193:=aJ (FM.Az _ _) b2;obtain⟨_,g3,_⟩:=Gk (uss:=uss) (c:=3) AS fun us I m hm=>(o.sum us I m hm).2;have h3:((Ac rs)^(Ax uss-(Bc m).toNat)).natAbs<2^(17*3+1):=Dc (p:=3) g2 (by unfold Ax;lia);have h4:=FM.A6 (FM.A6 R M) h3;show((Mm (Bi uss) (Ac rs) (Ax uss) m).2.num).natAbs<=_;unfold Mm;rw[show((m.2.num*(Bi uss).fdiv (m.2.den:Int)*Ac rs^(Ax uss-(Bc m).toNat):Int):Rat).num=m.2.num*(Bi uss).fdiv (m.2.den:Int)*Ac rs^(Ax uss-(Bc m).toNat) from rfl];exact Lu (FM.BR h4 AS)
 .have:∀n,n<=7->(Ey n).natAbs<=2^13:=by decide
  exact this most o.Ly
def Hl.wl{uss:Ch}{rs:uC}{most nn:Nat}(o:Hl uss rs most nn):(B7 (Ac rs) uss).length=nn/\(BP rs (Ac rs)).length=nn:=⟨by unfold B7;rw[(Ah)];exact o.len,by unfold BP;rw[(Ah)];exact o.Gi⟩
def Hl.wr{uss:Ch}{rs:uC}{most nn:Nat}(o:Hl uss rs most nn):∃m,fk (B7 (Ac rs) uss) (BP rs (Ac rs)) (Ey most) most nn m:=by
 obtain⟨M,I,g⟩:=o.jK;exact⟨_,qL (a:=21) (c:=250) (f:=13) o.n4 o.wl.1 o.wl.2 o.Ly M I g AS⟩
def Hl.EL{uss:Ch}{rs:uC}{most nn:Nat}(o:Hl uss rs most nn):1<=Gv uss (Ac rs)/\(Gv uss (Ac rs)).natAbs<2^300/\(RA uss rs most).natAbs<2^400/\1<=RA uss rs most:=by
 obtain⟨g1,Z,_⟩:=o.Mr;obtain⟨b1,b2,_⟩:=Fp (by rw[o.len];exact o.n4) o.fit;obtain⟨_,g3,_⟩:=Gk (uss:=uss) (c:=3) AS fun us g m hm=>(o.sum us g m hm).2;have Y:((Ac rs)^(Ax uss-1)).natAbs<2^(17*3+1):=Dc (p:=3) Z (by unfold Ax;lia);have M:(Gv uss (Ac rs)).natAbs<2^300:=FM.BR (FM.A6 b2 Y) AS;have R:=OT most (by have:=o.Ly;lia);have I:1<=Ac rs:=g1;have h0:1<=(Ac rs)^(Ax uss-1):=NM I _;have U:1<=Gv uss (Ac rs):=Int.mul_pos (show 0<_ by lia) (show 0<_ by lia);exact⟨U,M,FM.A6 M R.2,Int.mul_pos (show 0<_ by lia) (show 0<_ by lia)⟩
def k9:Sp:=fun vs H Q _=>∃(C S:AD) (cs ss:IR) (uss:Ch) (rs:List Rat) (most nn:Nat),vs=[.ref C,.ref S,.int (most:Nat)]/\H C=some (.lst cs)/\Aq H (uss.map Bz) cs/\H S=some (.lst ss)/\Aq H (AV rs) ss/\Hl uss rs most nn /\
 ∀D H' g,AK H H'->H D=none->H' D=some (.lst g)->Aq H' (BU (Yi uss rs most)) g->(∀z∈g,∃a,z=.ref a/\H a=none)->Q (.ref D) H'
section
variable{P:F0b}{w:F0c}{K:Fg}{mg:tm}{base:Heap}{f g1 g2 g3 g4 g5 g6 g7 g8 g9 g10:AD}{fd gd1 gd2 gd3 gd4 gd5 gd6 gd7 gd8 gd9 gd10:F0a}
def Mp:Ab ["change","start","most","grain","finer","rows","pace"] ["change","start","most"] (AQ Hi):=Be
def SF(F:Fn K mg "growth_rows" Hi ["change","start","most"] f fd)(BE:Fn K mg "refuse_no_change" B3 FI g1 gd1)(BO:Fn K mg "refuse_no_start" CF EQ g2 gd2)(Bl:Fn K mg "refuse_too_many" CG ["most"] g3 gd3)(Dx:Fn K mg "grain_of" IZ ["start"] g4 gd4)(GP:Fn K mg "product_up_to" Ii ["many"] g5 gd5) (CB:Fn K mg "whole_change" Fc ["change","grain"] g6 gd6)(HX:Fn K mg "whole_start" KS ["start","grain"] g7 gd7)(II:Fn K mg "whole_rows" K8 ["change","start","most","finer"] g8 gd8)(EW:Fn K mg "pace_of" J0 ["change","grain"] g9 gd9)(CS:Fn K mg "row_of_fractions" Ep ["row","pace","grain"] g10 gd10) (B2:AH P w K mg base Aa 7 g1 gd1 FI QE)(CD:AH P w K mg base Aa 7 g2 gd2 EQ NH)(DV:AH P w K mg base Aa 7 g3 gd3 ["most"] Zm)(Ih:AH P w K mg base Aa 7 g4 gd4 ["start"] PZ)(Rm:AH P w K mg base Aa 7 g5 gd5 ["many"] jG) (FV:AH P w K mg base Aa 7 g6 gd6 ["change","grain"] ZS)(Uh:AH P w K mg base Aa 7 g7 gd7 ["start","grain"] mM)(V0:AH P w K mg base Aa 7 g8 gd8 ["change","start","most","finer"] oQ)(J3:AH P w K mg base Aa 7 g9 gd9 ["change","grain"] R5)(GX:AH P w K mg base Aa 7 g10 gd10 ["row","pace","grain"] Y5)(A9:mg "len" = none):AH P w K mg base Aa 8 f fd ["change","start","most"] k9:=by
 have sc:=Mp;refine F.F.ok (k:=7) sc BY (fun cdv A outer s H vs Q E g h=>?_)
 .obtain⟨C,S,cs,ss,uss,rs,most,nn,rfl,_⟩:=h
  rfl
 obtain⟨C,S,cs,ss,uss,rs,most,nn,rfl,hC,dc,hS,ds,ok,q⟩:=h;have hcl:cs.length=nn:=by rw[dc.len,(Ah)];exact ok.len
 obtain⟨gr1,Y,_⟩:=ok.Mr;obtain⟨pc1,pc2,pc3,pc4⟩:=ok.EL;have hpt:=OT most (by have:=ok.Ly;lia);have chg:∀H',AK H H'->LJ H' C cs uss 4:=fun H' e=>⟨e _ _ hC,dc.same e,by rw[ok.len];exact ok.n4,ok.fit⟩;refine⟨_,(AG (BK (AZ BE B2 g rfl (AA FS AB)))
 (AG (BK (AZ BO CD g rfl (AA Fa (AA (Ar BZ rfl A9 af (AA FS AB)) AB))))
 (AG (BK (AZ Bl DV g rfl (AA IN AB)))
 (AG (AX (i:=3) sc.nd rfl (Or.inr rfl) (AZ Dx Ih g rfl (AA Fa AB)))
 (AG (AX (i:=4) sc.nd rfl AT (AZ GP Rm g rfl (AA IN AB)))
 (AG (AX (i:=5) sc.nd rfl AT (AZ II V0 g rfl (AA (AZ CB FV g rfl (AA FS (AA (pv 3) AB))) (AA (AZ HX Uh g rfl (AA Fa (AA (pv 3) AB))) (AA IN (AA (pv 4) AB))))))
 (AG (AX (i:=6) sc.nd rfl (Or.inr rfl) (Ae BD (AZ EW J3 g rfl (AA FS (AA (pv 3) AB))) (pv 4)))
 (AL (Aj (CH [".0","row","pace","grain"] 1 [none,none,some 6,some 3] (Av (pv 5)) F9 (fun _ _ _ _ _=>(AZ CS GX g rfl (AA Fa (AA IN (AA (pv 3) AB))))))))))))))),?_⟩
 refine⟨_,rfl,.ref C,_,rfl,DU.lst hC dc,ok.good,fun H1 e1=>?_⟩;refine⟨_,rfl,_,rfl,C,cs,rfl,.inl (AU.of (e1 _ _ hC)),S,ss,rs,by rw[hcl,ok.Gi];rfl,e1 _ _ hS,ds.same e1,?_⟩;refine⟨_,rfl,most,rfl,ok.Ly,?_⟩;refine⟨_,rfl,S,ss,rs,4,rfl,e1 _ _ hS,ds.same e1,by have:=ok.Gi;have:=ok.n4;lia,ok.Ob,by have:=ok.Gi;have:=ok.n4;lia,fun H2 e2=>?_⟩;have E2:=e1.trans e2;refine⟨_,rfl,most,rfl,by have:=ok.Ly;lia,?_⟩;refine⟨_,rfl,_,rfl,C,cs,uss,Ac rs,17,rfl,chg H2 E2,ok.sum,Y,by decide,fun W H3 ws e3 hW hW3 dW=>?_⟩;have E3:=E2.trans e3;refine⟨_,rfl,_,rfl,S,ss,rs,Ac rs,4,17,rfl,E3 _ _ hS,ds.same E3,by have:=ok.Gi;have:=ok.n4;lia,ok.Ob,Y,by decide,fun T H4 ts e4 hT hT4 dT=>?_⟩;have E4:=E3.trans e4;obtain⟨m,wr⟩:=ok.wr;refine⟨_,rfl,_,rfl,W,T,ws,ts,B7 (Ac rs) uss,BP rs (Ac rs),Ey most,most,nn,m,rfl,e4 _ _ hW3,dW.same e4,hT4,dT,wr,fun R H5 e5 hR rw5=>?_⟩;have E5:=E4.trans e5;refine⟨_,rfl,_,rfl,C,cs,uss,Ac rs,17,rfl,chg H5 E5,ok.sum,Y,by decide,fun H6 e6=>?_⟩;have E6:=E5.trans e6;refine⟨_,rfl,_,_,rfl,rfl,D9 pc2 hpt.2 AS,?_⟩;obtain⟨I,k1,k2,k3⟩:=rw5;have M:=e6 _ _ k1;have n4:=ok.n4;refine⟨_,rfl,R,rfl,⟨_,AU.of M⟩,fun D hD=>Bo (n:=I.length) (fun i ys H'=>AK H6 H'/\ys.length=i/\AW D H' (BU ((List.range i).map fun u=>KI (QG (Ys uss rs most u) (RA uss rs most) (Ac rs)) (most+1))) ys/\∀z∈ys,∃a,z=.ref a/\H a=none) ⟨AO hD _,rfl,.nil,(fun _ z=>by cases z)⟩ ?_ ?_⟩
 .rintro i ys H7 hi ⟨e7,hyl,dy,ny⟩ U;obtain⟨a,j1,j2,j3,_⟩:=k3 i AC;refine⟨⟨I,.ref a,AU.of (e7 _ _ M),j1⟩,Bt (n:=60) AC AS,fun x H' y=>?_⟩;obtain⟨rfl,y⟩:=y;have hx:=y I (AU.of (e7 _ _ M));rw[j1]at hx;cases hx;unfold B0;refine Ba ⟨_,rfl,_,rfl,_,rfl,a,Ys uss rs most i,most+1,RA uss rs most,Ac rs,400,rfl,e7 _ _ (e6 _ _ j2),by have:=ok.Ly;lia,by lia,by lia,FM.BR Y (show 17<=400 by decide),pc3,by decide,fun Z H8 zs e8 hZ hZ8 dz=>?_⟩;have hD8:=e8 _ _ U;have nZ:Z≠D:=fun z=>by subst z;rw[U]at hZ;cases hZ
  refine⟨hD8,BG hi ⟨fun b o z=>?_,by simp[hyl],?_,fun z hz=>?_⟩⟩
  .rw[AN (AR z hD)];exact e8 _ _ (e7 _ _ z)
  .rw[(Ny),(A4)];unfold BU at dy ⊢;rw[(A4)];exact .but .upd ((dy.same e8).app (.cons (.lst nZ hZ8 (JT hD8 dz)) .nil))
  .rcases aQ.mp hz with h|h
   .exact ny z h
   .exact⟨Z,List.mem_singleton.mp h,Cd (E6.trans e7) hZ⟩
 .rintro ys H7 ⟨e7,hyl,dy,ny⟩ U;rw[k2]at dy;refine⟨⟨I,AU.of (e7 _ _ M),Nat.le_refl _⟩,q D H7 ys (E6.trans e7) (Cd E6 hD) U ?_ ny⟩;unfold Yi;rw[ok.len];exact CT dy
end
def cM{J:It}{g:TG}{tb:TS}{D:Ends}{σ:St}{H:Hp}(n:Nat)(Pv:Nat->St->Hp->Prop)(h0:Pv 0 σ H) (hs:∀i σ H,i<n->Pv i σ H->J.go i H/\∀x H',J.F6 i H x H'->g x σ H' fun I U=>tb {D with nx:=Pv (i+1),ct:=Pv (i+1),bk:=D.nx} I U)(hd:∀σ H,Pv n σ H->J.stop n H/\D.nx σ H):∃W:Nat->Nat->St->Hp->Prop,(∃m,W 0 m σ H)/\∀i m σ H,W i m σ H ->(J.stop i H/\D.nx σ H)\/(J.go i H/\∃N:St->Hp->Prop,(∀M H',N M H'->∃Y,Y<m/\W (i+1) Y M H')/\∀x H',J.F6 i H x H'->g x σ H' fun I U=>tb {D with nx:=N,ct:=N,bk:=D.nx} I U):=by
 refine⟨fun i m σ H=>m=n-i/\i<=n/\Pv i σ H,⟨n,by simp,Nat.zero_le _,h0⟩,?_⟩;rintro i m σ H ⟨rfl,hi,p⟩;by_cases R:i<n
 .obtain⟨k1,k2⟩:=hs i σ H R p;exact .inr ⟨k1,Pv (i+1),fun M H' Z=>⟨n-(i+1),by lia,rfl,R,Z⟩,k2⟩
 .have e:i=n:=by lia
  subst e;exact .inl (hd σ H p)
def JJ(x:Rat):Nat->Rat
 |0=>1
 |n+1=>JJ x n*x
theorem VO(x:Rat):∀n,Rat.divInt (x.num^n) ((x.den:Int)^n)=JJ x n
 |0=>by rw[Int.pow_zero,Int.pow_zero,JJ];rfl
 |n+1=>by
  rw[Int.pow_succ,Int.pow_succ,JJ,<-VO x n,<-Rat.divInt_mul_divInt,FM.MQ]
def FN(zs:List (Int×Rat)):Rat:=zs.foldl (fun a z=>a*JJ z.2 z.1.toNat) 1
def ZO(zs:List (Int×Rat))(z:Int×Rat):FN (zs++[z])=FN zs*JJ z.2 z.1.toNat:=by unfold FN;rw[(So)];rfl
def eg{ps:t6}{rs:uC}{i:Nat}{p:Int}{x:Rat}(h1:ps[i]? = some p)(g:rs[i]? = some x):(ps.zip rs).take (i+1)=(ps.zip rs).take i++[(p,x)]:=by
 rw[List.take_succ]
 congr 1
 rw[(List.getElem?_zip_eq_some (z:=(p,x))).mpr ⟨h1,g⟩]
 rfl
def gu{d:Nat}(h:d≠0)(n:Nat):(1:Int)<=(d:Int)^n:=by
 have:0<(d:Int)^n:=Int.pow_pos AC
 lia
def cF:Sp:=fun vs H Q _=>∃(a:AD) (xs:IR) (ps:List (Int×Int)) (kt k:Nat),vs=[.ref a]/\H a=some (.lst xs)/\xs.length=ps.length/\ps.length<=1000/\(∀(j:Nat) x p,xs[j]? = some x->ps[j]? = some p->∃c,x=.ref c/\H c=some (.tup [.int p.1,.int p.2])) /\
 (∀p∈ps,1<=p.2/\p.1.natAbs<2^kt/\p.2.natAbs<2^k)/\k*ps.length<=4000/\kt<=100000/\∀l H',AK H H'->H' l=some (.tup (IX (ps.map fun p=>Rat.divInt p.1 p.2).sum))->Q (.ref l) H'
structure YV(H:Hp)(S:Addr)(xs:IR)(rs:List Rat)(many k kd:Nat):Prop where
 at_:H S=some (.lst xs)
 du:Aq H (AV rs) xs
 len:rs.length=many
 fit:∀x∈rs,x.num.natAbs<2^k/\((x.den:Int)).natAbs<2^kd
def YV.same{H H':Hp}{S:AD}{xs:uD}{rs:uC}{many k kd:Nat}(s:YV H S xs rs many k kd)(e:AK H H'):YV H' S xs rs many k kd:=⟨e _ _ s.at_,s.du.same e,s.len,s.fit⟩
def iz:Sp:=fun vs H Q _=>∃(P F S:AD) (ps:List Int) (r:Rat) (rs:List Rat) (xs:IR) (many k kd n nd:Nat),vs=[.ref P,.ref F,.ref S]/\H P=some (.tup GT)/\H F=some (.tup (IX r))/\YV H S xs rs many k kd/\ps.length=many/\many<=4/\k<=1300/\kd<=1300/\n<=20000/\nd<=20000 /\
 (∀p∈ps,(0:Int)<=p/\p<=3)/\r.num.natAbs<2^n/\((r.den:Int)).natAbs<2^nd/\∀c H' t b,AK H H'->H' c=some (.tup [.int t,.int b])->1<=b->t.natAbs<2^(n+(3*k+1)*4)->b.natAbs<2^(nd+(3*kd+1)*4)->Rat.divInt t b=r*FN (ps.zip rs)->Q (.ref c) H'
def LS(us:List Ag)(rs:uC):Rat:=(us.map fun m=>m.2*FN (m.1.zip rs)).sum
def WY:Sp:=fun vs H Q _=>∃(a S:AD) (xs ys:IR) (us:List Ag) (rs:List Rat) (many k kd n nd:Nat),vs=[.ref a,.ref S]/\H a=some (.lst xs)/\Aq H (us.map Es) xs/\us.length<=12/\(∀m∈us,m.1.length=many/\(∀p∈m.1,(0:Int)<=p/\p<=3)/\m.2.num.natAbs<2^n/\((m.2.den:Int)).natAbs<2^nd) /\
 YV H S ys rs many k kd/\many<=4/\k<=1300/\kd<=1300/\n<=20000/\(nd+(3*kd+1)*4)*12<=4000/\∀l H',AK H H'->H' l=some (.tup (IX (LS us rs)))->Q (.ref l) H'
section
variable{P:F0b}{w:F0c}{K:Fg}{mg:tm}{base:Heap}{f g g1 g2:AD}{fd gd gd1 gd2:F0a}
def SG(F:Fn K mg "frac_total" LI ["some"] f fd)(A0:Fn K mg "common_bottom" Cm ["bottoms"] g1 gd1)(Cb:Fn K mg "fraction_of" F4 ["top","bottom"] g2 gd2) (CK:AH P w K mg base Aa 2 g1 gd1 ["bottoms"] i8)(F5:AH P w K mg base Aa 2 g2 gd2 ["top","bottom"] Sn)(EC:mg "sum" = none):AH P w K mg base Aa 3 f fd ["some"] cF:=by
 have sc:=UW;refine F.F.ok (k:=2) sc BY As
 .obtain⟨a,xs,ps,kt,k,rfl,_⟩:=h
  rfl
 obtain⟨a,xs,ps,kt,k,rfl,ha,hl,h1000,hx,hp,hk,hkt,q⟩:=h;have hk1:ps≠[]->k<=4000:=fun hne=>by
  have:k*1<=k*ps.length:=aT k (List.length_pos_iff.mpr hne)
  lia
 have at_:∀(i:Nat) (hi:i<xs.length),∃(p:Int×Int) (c:AD),ps[i]? = some p/\xs[i]=.ref c/\H c=some (.tup [.int p.1,.int p.2]):=fun i hi=>by
  have hpi:ps[i]? = some (ps[i]' AC):=aG _;obtain⟨c,Z,h2⟩:=hx i xs[i] _ (aG hi) hpi;exact⟨_,c,hpi,Z,h2⟩
 refine⟨_,(AG (AX (i:=1) sc.nd rfl (Or.inr rfl) (AZ A0 CK hr rfl (AA (CH [".0","part"] 1 [none,none] (Av FS) F9 (fun _ _ _ _ _=>(Ao EE Fa AJ By))) AB)))
 (AL (Aj (AZ Cb F5 hr rfl (AA (Ar (QJ rfl) rfl EC bS (AA (CH [".0","part","bottom"] 1 [none,none,some 1] (Av FS) F9 (fun _ _ _ _ _=>(Ae BD (Ao EE Fa AJ By) (Ae Dl IN (Ao EE Fa AJ By))))) AB)) (AA Fa AB)))))),?_⟩
 refine⟨_,rfl,a,rfl,⟨_,AU.of ha⟩,fun D hD=>Bo (n:=xs.length) (fun i ys H'=>AK H H'/\ys=((ps.take i).map (·.2)).map V.int) ?_ ?_ ?_⟩
 .exact⟨AO hD _,rfl⟩
 .rintro i ys H0 hi ⟨R,rfl⟩ Y;obtain⟨p,c,Z,h2,h3⟩:=at_ i hi;refine⟨⟨xs,xs[i],AU.of (R _ _ ha),by simp[hi]⟩,?_,fun x H' y=>?_⟩
  .rw[(Ah),(Ah),(JZ)];exact aJ (Nat.min_le_left _ _) (aK (show i<1000 by lia) (by rw[sizeLine_eq];decide))
  .obtain⟨rfl,y⟩:=y;have I:=y xs (AU.of (R _ _ ha));rw[List.getElem?_eq_getElem hi,h2]at I;cases I;unfold B0;refine Ba ⟨_,rfl,_,_,_,_,rfl,rfl,Al.of (R _ _ h3),rfl,Y,BG hi ⟨fun b o z=>?_,?_⟩⟩
   .rw[AN (AR z hD)];exact R _ _ z
   .rw[List.take_succ,Z];simp
 rintro ys H0 ⟨R,rfl⟩ Y;refine⟨⟨xs,AU.of (R _ _ ha),Nat.le_refl _⟩,?_⟩;rw[hl,(DC)]at Y;refine⟨D,ps.map (·.2),k,rfl,Y,fun b hb=>?_,by rw[(Ah)];exact hk,fun c c1 c2 c3=>?_⟩
 .obtain⟨p,M,rfl⟩:=aL.mp hb;exact⟨(hp p M).1,(hp p M).2.2⟩
 rw[(Ah)]at c2;refine⟨_,rfl,a,rfl,⟨_,AU.of (R _ _ ha)⟩,fun D2 hD2=>Bo (n:=xs.length) (fun i ys H'=>AK H0 H'/\ys=((ps.take i).map fun p=>p.1*c.fdiv p.2).map V.int) ?_ ?_ ?_⟩
 .exact⟨AO hD2 _,rfl⟩
 .rintro i ys H1 hi ⟨e1,rfl⟩ U;have E1:=R.trans e1;obtain⟨p,d,Z,h2,h3⟩:=at_ i hi;have hpm:=aI Z;have hkk:=hk1 (List.ne_nil_of_mem hpm);obtain⟨p1,p2,p3⟩:=hp p hpm;refine⟨⟨xs,xs[i],AU.of (E1 _ _ ha),by simp[hi]⟩,?_,fun x H' y=>?_⟩
  .rw[(Ah),(Ah),(JZ)];exact aJ (Nat.min_le_left _ _) (aK (show i<1000 by lia) (by rw[sizeLine_eq];decide))
  .obtain⟨rfl,y⟩:=y;have I:=y xs (AU.of (E1 _ _ ha));rw[List.getElem?_eq_getElem hi,h2]at I;cases I;unfold B0;refine Ba ⟨_,rfl,_,_,_,_,rfl,rfl,Al.of (E1 _ _ h3),rfl,_,rfl,_,rfl,_,_,_,_,rfl,rfl,Al.of (E1 _ _ h3),rfl,_,_,rfl,rfl,⟨by lia,k,by lia,p3⟩,_,_,rfl,rfl,D9 p2 (aJ (FM.Az c p.2) c2) AC,U,BG hi ⟨fun b o z=>?_,?_⟩⟩
   .rw[AN (AR z hD2)];exact e1 _ _ z
   .rw[List.take_succ,Z];simp
 rintro ys H1 ⟨e1,rfl⟩ U;refine⟨⟨xs,AU.of ((R.trans e1) _ _ ha),Nat.le_refl _⟩,?_⟩;rw[hl,(DC)]at U;refine⟨D2,_,rfl,AU.of U,_,rfl,_,c,k*ps.length+1,rfl,by lia,by lia,c2,fun l H' e2 hl'=>?_⟩;refine q l H' (R.trans (e1.trans e2)) ?_;rw[YQ AC fun p M=>⟨by have:=(hp p M).1;lia,c3 _ (List.mem_map_of_mem M)⟩]at hl';exact hl'
def Ug:Ab ["powers","part","start","top","bottom","power","place"] ["powers","part","start"] (AQ Le):=Be
def S7(F:Fn K mg "term_worth" Le ["powers","part","start"] f fd)(DQ:Fn K mg "power_of" IW ["base","power"] g gd) (Gr:AH P w K mg base Aa 1 g gd ["base","power"] U3)(Et:mg "zip" = none):AH P w K mg base Aa 2 f fd ["powers","part","start"] iz:=by
 have sc:=Ug;refine F.F.ok (k:=1) sc BY As
 .obtain⟨P,F,S,ps,r,rs,xs,many,k,kd,n,nd,rfl,_⟩:=h
  rfl
 obtain⟨P,F,S,ps,r,rs,xs,many,k,kd,n,nd,rfl,hP,hF,st,M,R,hk,hkd,hn,hnd,hps,rn,rd,q⟩:=h;refine⟨_,(AG (AX (i:=3) sc.nd rfl AT (Ao A5 Fa AJ By))
 (AG (AX (i:=4) sc.nd rfl AT (Ao A5 Fa AJ By))
 (AG (Bg aM rfl (Nz rfl Et (AA FS (AA IN AB))) (HS rfl (Bw (An (i:=5) sc.nd rfl AT) (Bw (An (i:=6) sc.nd rfl AT) F8)))
  (AG (AX (i:=3) sc.nd rfl AT (Ae BD (pv 3) (AZ DQ Gr hr rfl (AA (Ao A5 (pv 6) AJ By) (AA (pv 5) AB)))))
  (AL (AX (i:=4) sc.nd rfl AT (Ae BD (pv 4) (AZ DQ Gr hr rfl (AA (Ao A5 (pv 6) AJ By) (AA (pv 5) AB))))))))
 (AL (Aj (Eh (AA (pv 3) (AA (pv 4) AB)))))))),?_⟩
 refine⟨_,rfl,_,_,_,_,rfl,rfl,Al.of hF,rfl,_,rfl,_,_,_,_,rfl,rfl,Al.of hF,rfl,?_⟩;refine⟨_,rfl,_,rfl,true,false,P,S,rfl,⟨_,hP⟩,⟨_,st.at_⟩,cM many (fun i σ H'=>∃(t b:Int) (r5 r6:Option V),σ=[some (.ref P),some (.ref F),some (.ref S),some (.int t),some (.int b),r5,r6]/\AK H H'/\1<=b/\t.natAbs<2^(n+(3*k+1)*i)/\b.natAbs<2^(nd+(3*kd+1)*i)/\Rat.divInt t b=r*FN ((ps.zip rs).take i)) ?_ ?_ ?_⟩
 .refine⟨_,_,_,_,rfl,.refl _,?_,rn,rd,?_⟩
  .have:=r.den_nz;show(1:Int)<=(r.den:Int)
   lia
  .show Rat.divInt r.num (r.den:Int)=r*1;rw[FM.MQ,Rat.mul_one]
 .rintro i σ H1 hi ⟨t,b,r5,r6,rfl,I,b1,nt,nb,hv⟩;have hp:ps[i]? = some (ps[i]' AC):=aG _;have hx:rs[i]? = some (rs[i]'(by have:=st.len;lia)):=aG _;generalize ps[i]' AC=p at hp;generalize rs[i]'(by have:=st.len;lia)=x at hx;obtain⟨c,Y,U⟩:=Eu st.du hx;obtain⟨p0,p3⟩:=hps p (aI hp);obtain⟨xn,xd⟩:=st.fit x (aI hx);have Z:(ps.map V.int)[i]? = some (.int p):=by rw[(BC),hp];rfl
  refine⟨⟨_,_,_,_,I _ _ hP,I _ _ st.at_,Z,Y⟩,fun v H' y=>?_⟩;obtain⟨pp,x1,x2,rfl,np,rfl,q1,q2⟩:=y;have w1:=q1 _ (I _ _ hP);have w2:=q2 _ (I _ _ st.at_);rw[Z]at w1;rw[Y]at w2;cases w1;cases w2;have sp:=AO np (.tup [.int p,.ref c]);have E:=I.trans sp;obtain⟨pn,rfl⟩:∃pn:Nat,p=(pn:Int):=⟨p.toNat,by lia⟩;have n1:=Dc (k:=k) (e:=pn) (p:=3) xn AC;have n2:=Dc (k:=kd) (e:=pn) (p:=3) xd AC;have ki:(3*k+1)*i<=(3*k+1)*4:=aT _ AC;have kdi:(3*kd+1)*i<=(3*kd+1)*4:=aT _ AC;have kp:k*pn<=k*3:=aT _ AC;have kdp:kd*pn<=kd*3:=aT _ AC;refine⟨pp,_,rfl,Al.of AM,rfl,_,_,rfl,_,_,rfl,rfl,?_⟩;refine⟨_,rfl,_,rfl,_,_,_,_,rfl,rfl,Al.of (E _ _ U),rfl,_,rfl,x.num,pn,k,rfl,xn,by lia,_,_,rfl,rfl,D9 nt n1 AC,?_⟩;refine⟨_,rfl,_,rfl,_,_,_,_,rfl,rfl,Al.of (E _ _ U),rfl,_,rfl,(x.den:Int),pn,kd,rfl,xd,by lia,_,_,rfl,rfl,D9 nb n2 AC,?_⟩;refine⟨_,_,_,_,rfl,E,?_,?_,?_,?_⟩
  .have:=Int.mul_le_mul b1 (gu x.den_nz pn) AS AC
   simpa using this
  .have:=FM.A6 nt n1;refine FM.BR this ?_;have e:(3*k+1)*(i+1)=(3*k+1)*i+(3*k+1):=Nat.mul_succ _ _
   lia
  .have:=FM.A6 nb n2;refine FM.BR this ?_;have e:(3*kd+1)*(i+1)=(3*kd+1)*i+(3*kd+1):=Nat.mul_succ _ _
   lia
  .rw[eg hp hx,ZO,<-Rat.mul_assoc,<-hv,(OD),<-VO,Rat.divInt_mul_divInt]
 .rintro σ H1 ⟨t,b,r5,r6,rfl,I,b1,nt,nb,hv⟩;refine⟨⟨_,_,I _ _ hP,I _ _ st.at_,.inl (by rw[(Ah),M])⟩,_,rfl,_,rfl,BX (show 2<=60 by decide),fun c hc=>?_⟩;rw[List.take_of_length_le (by rw[List.length_zip,st.len,M,Nat.min_self];exact aH _)]at hv;have ki:(3*k+1)*many<=(3*k+1)*4:=aT _ R;have kdi:(3*kd+1)*many<=(3*kd+1)*4:=aT _ R;exact q c _ t b (I.trans (AO hc _)) AM b1 (FM.BR nt AC) (FM.BR nb AC) hv
def Xc:Ab ["some","start"] ["some","start"] (AQ Mz):=Be
def Wy(F:Fn K mg "worth_at" Mz ["some","start"] f fd)(IP:Fn K mg "frac_total" LI ["some"] g1 gd1)(Ir:Fn K mg "term_worth" Le ["powers","part","start"] g2 gd2) (WJ:AH P w K mg base Aa 3 g1 gd1 ["some"] cF)(WG:AH P w K mg base Aa 3 g2 gd2 ["powers","part","start"] iz):AH P w K mg base Aa 4 f fd ["some","start"] WY:=by
 have sc:=Xc;refine F.F.ok (k:=3) sc BY As
 .obtain⟨a,S,xs,ys,us,rs,many,k,kd,n,nd,rfl,_⟩:=h
  rfl
 obtain⟨a,S,xs,ys,us,rs,many,k,kd,n,nd,rfl,ha,dx,h12,hus,st,hm4,hk,hkd,hn,hsz,q⟩:=h;have hxl:xs.length=us.length:=by rw[dx.len,(Ah)]
 refine⟨_,(AL (Aj (AZ IP WJ hr rfl (AA (N1 [".0","powers","part","start"] 1 2 [none,none,none,some 1] (Av FS) F9 (fun _ _ _ _ _=>(AZ Ir WG hr rfl (AA Fa (AA IN (AA (pv 3) AB)))))) AB)))),?_⟩;refine⟨_,rfl,a,rfl,⟨_,AU.of ha⟩,fun D hD=>Hk (n:=xs.length) (fun i Y H'=>AK H H'/\∃R:List (Int×Int),R.length=i/\Y.length=i/\(∀(j:Nat) z p,Y[j]? = some z->R[j]? = some p->∃c,z=.ref c/\H' c=some (.tup [.int p.1,.int p.2]))/\(∀p∈R,1<=p.2/\p.1.natAbs<2^(n+(3*k+1)*4)/\p.2.natAbs<2^(nd+(3*kd+1)*4))/\R.map (fun p=>Rat.divInt p.1 p.2)=(us.take i).map fun m=>m.2*FN (m.1.zip rs)) ?_ ?_ ?_⟩
 .exact⟨AO hD _,[],rfl,rfl,fun j z p h=>by simp at h,fun _ z=>(bC z).elim,rfl⟩
 .rintro i Y H1 hi ⟨U,R,hql,hzl,hz,hb,hv⟩ M;obtain⟨t,ht⟩:∃t,us[i]? = some t:=⟨us[i]' AC,List.getElem?_eq_getElem _⟩;obtain⟨c,P,F,k1,k2,k3,k4⟩:=JY dx ht;obtain⟨u1,u2,u3,u4⟩:=hus t (aI ht);refine⟨⟨xs,xs[i],AU.of (U _ _ ha),by simp[hi]⟩,Bt (n:=60) AC AS,fun x H' y=>?_⟩;obtain⟨rfl,y⟩:=y;have hx:=y xs (AU.of (U _ _ ha));rw[k1]at hx;cases hx;refine⟨c,_,_,rfl,Al.of (U _ _ k2),?_⟩;unfold B0;refine Ba ⟨_,rfl,_,rfl,_,rfl,P,F,S,t.1,t.2,rs,ys,many,k,kd,n,nd,rfl,U _ _ k3,U _ _ k4,st.same U,u1,hm4,hk,hkd,hn,by lia,u2,u3,u4,fun c' H2 tt bb e2 hc' b1 nt nb hv'=>?_⟩;refine⟨e2 _ _ M,BG hi ⟨fun b o z=>?_,R++[(tt,bb)],by simp[hql],by simp[hzl],fun j z p Z I=>?_,fun p I=>?_,?_⟩⟩
  .rw[AN (AR z hD)];exact e2 _ _ (U _ _ z)
  .by_cases hjl:j<Y.length
   .rw[List.getElem?_append_left hjl]at Z;rw[List.getElem?_append_left AC]at I;obtain⟨c1,rfl,hc1⟩:=hz j z p Z I;refine⟨c1,rfl,?_⟩;rw[AN (fun zz=>by rw[zz,M]at hc1;cases hc1)];exact e2 _ _ hc1
   .rw[List.getElem?_append_right AC]at Z I;have hk:j-Y.length=0:=by
     have:=(aB.mp Z).1;simp at this;lia
    rw[show j-R.length=0 by lia]at I;rw[hk]at Z;simp at Z I;subst Z I;exact⟨c',rfl,by rw[AN (fun zz=>by rw[zz,e2 _ _ M]at hc';cases hc')];exact hc'⟩
  .rcases aQ.mp I with I|I
   .exact hb p I
   .rw[List.mem_singleton.mp I];exact⟨b1,nt,nb⟩
  .rw[(A4),hv,List.take_succ,ht,(A4)];simp only[List.map_cons,List.map_nil,Option.toList_some];rw[hv']
 .rintro Y H1 ⟨U,R,hql,hzl,hz,hb,hv⟩ M;refine⟨⟨xs,AU.of (U _ _ ha),Nat.le_refl _⟩,?_⟩;have hq12:(nd+(3*kd+1)*4)*R.length<=(nd+(3*kd+1)*4)*12:=aT _ AC;refine⟨D,Y,R,n+(3*k+1)*4,nd+(3*kd+1)*4,rfl,M,by lia,by lia,hz,hb,by lia,by lia,fun l H' e2 hl'=>q l H' (U.trans e2) ?_⟩;rw[hv,hxl,(DC)]at hl';exact hl'
end
theorem Yo:∀(zs:List (Int×Rat)) (a:Rat),zs.foldl (fun a z=>a*JJ z.2 z.1.toNat) a=a*FN zs
 |[],a=>by unfold FN;rw[List.foldl_nil,List.foldl_nil,Rat.mul_one]
 |z::zs,a=>by
  unfold FN;rw[(Qe),(Qe),Yo zs,Yo zs (1*JJ z.2 z.1.toNat),Rat.one_mul,Rat.mul_assoc]
def Zd(z:Int×Rat)(zs:List (Int×Rat)):FN (z::zs)=JJ z.2 z.1.toNat*FN zs:=by
 show(z::zs).foldl _ 1=_;rw[(Qe),Yo,Rat.one_mul]
theorem V8(b:Int):∀n,JJ (b:Rat) n=((b^n:Int):Rat)
 |0=>by rw[JJ,Int.pow_zero];rfl
 |n+1=>by rw[JJ,V8 b n,Int.pow_succ,Rat.intCast_mul]
def jY{c b:Int}(R:1<=c)(hb:1<=b):Em c b=(Int.lcm c b:Int):=by
 have hg:FM.gi c b≠0:=Int.ne_of_gt (FM.LZ AC);obtain⟨q,g⟩:=FM.MF c b;unfold Em;rw[FM.Fz hg g];have h:=Int.gcd_mul_lcm c b;have M:(FM.gi c b)*(Int.lcm c b:Int)=c*b:=by
  have:((Int.gcd c b*Int.lcm c b:Nat):Int)=((c*b).natAbs:Int):=by rw[h,Int.natAbs_mul]
  rw[Int.natCast_mul,Int.natAbs_of_nonneg (Int.mul_nonneg AC AC)]at this;exact this
 have I:FM.gi c b*(q*b)=FM.gi c b*(Int.lcm c b:Int):=by
  rw[M,<-Int.mul_assoc,<-g]
 exact Int.eq_of_mul_eq_mul_left hg I
theorem X2{n:Nat}:∀(bs:List Int) (c:Int),1<=c->c ∣ (n:Int)->(∀b∈bs,1<=b/\b ∣ (n:Int))->bs.foldl Em c ∣ (n:Int)
 |[],c,_,h,_=>h
 |b::bs,c,g,h,k=>by
  obtain⟨b1,b2⟩:=k b aR;obtain⟨s1,_,_,_⟩:=NF g b1;refine X2 bs (Em c b) s1 ?_ fun y I=>k y (aN _ I);rw[jY g b1];exact Int.ofNat_dvd.mpr (Int.lcm_dvd h b2)
def sZ{d:Nat}(h0:d≠0)(g:d<=6):(d:Int) ∣ ((60:Nat):Int):=by
 match d,h0,g with
 |1,_,_=>exact⟨60,by decide⟩
 |2,_,_=>exact⟨30,by decide⟩
 |3,_,_=>exact⟨20,by decide⟩
 |4,_,_=>exact⟨15,by decide⟩
 |5,_,_=>exact⟨12,by decide⟩
 |6,_,_=>exact⟨10,by decide⟩
def Uy{bs:t6}(h:∀b∈bs,1<=b/\b<=6):1<=D8 bs/\D8 bs<=60:=by
 have I:=(K3 (k:=3) (bs:=bs) fun b hb=>⟨(h b hb).1,by have:=h b hb;lia⟩).1;have g:=X2 (n:=60) bs 1 AS ⟨60,by decide⟩ fun b hb=>⟨(h b hb).1,by
  obtain⟨a,c⟩:=h b hb;have:=sZ (d:=b.toNat) AC AC
  rwa [show((b.toNat:Nat):Int)=b by lia]at this⟩
 exact⟨I,Int.le_of_dvd AS g⟩
structure HR(H:Hp)(p T:Addr)(ts:List Int)(B:Int):Prop where
 at_:H p=some (.tup [.ref T,.int B])
 Ej:H T=some (.lst (ts.map V.int))
def HR.same{H H':Hp}{p T:AD}{ts:t6}{B:Int}(h:HR H p T ts B)(e:AK H H'):HR H' p T ts B:=⟨e _ _ h.at_,e _ _ h.Ej⟩
def GL(ts:t6):uC:=ts.map fun t:Int=>(t:Rat)
def EZ(uss:Ch)(ts:t6)(B:Int):uC:=(B7 B uss).map fun us=>LS us (GL ts)
def oB(many:Nat)(m:Ag):Prop:=m.1.length=many/\(∀p∈m.1,(0:Int)<=p/\p<=3)/\0<=Bc m/\Bc m<=3
def Wz:Sp:=fun vs H Q _=>∃(C p T:AD) (cs:IR) (uss:Ch) (ts:List Int) (B:Int) (many k g:Nat),vs=[.ref C,.ref p]/\LJ H C cs uss 4/\HR H p T ts B/\(∀us∈uss,∀m∈us,oB many m)/\ts.length=many/\many<=4/\B.natAbs<2^k/\k<=1200/\(∀t∈ts,t.natAbs<2^g)/\g<=1300 /\
 ∀I M H',AK H H'->H M=none->HR H' I M ((EZ uss ts B).map fun r=>r.num) (B*Gv uss B)->Q (.ref I) H'
section
variable{P:F0b}{w:F0c}{K:Fg}{mg:tm}{base:Heap}{f g1 g2 g3:AD}{fd gd1 gd2 gd3:F0a}
def Wc:Ab ["change","place","numbers","worths"] ["change","place"] (AQ MM):=Be
def XA(F:Fn K mg "speeds_at" MM ["change","place"] f fd)(CB:Fn K mg "whole_change" Fc ["change","grain"] g1 gd1)(Kz:Fn K mg "worth_at" Mz ["some","start"] g2 gd2)(EW:Fn K mg "pace_of" J0 ["change","grain"] g3 gd3) (FV:AH P w K mg base Aa 4 g1 gd1 ["change","grain"] ZS)(ZI:AH P w K mg base Aa 4 g2 gd2 ["some","start"] WY)(J3:AH P w K mg base Aa 4 g3 gd3 ["change","grain"] R5):AH P w K mg base Aa 5 f fd ["change","place"] Wz:=by
 have sc:=Wc;refine F.F.ok (k:=4) sc BY As
 .obtain⟨C,p,T,cs,uss,ts,B,many,k,tb,rfl,_⟩:=h
  rfl
 obtain⟨C,p,T,cs,uss,ts,B,many,k,tb,rfl,ch,pl,hm,htl,hm4,hB,hk,htb,ht1,q⟩:=h;have hl4:=ch.len;obtain⟨g1',g3',g2'⟩:=Gk (c:=3) (uss:=uss) AS fun us U m I=>(hm us U m I).2.2.2;obtain⟨b1,b2,_⟩:=Fp ch.len ch.EK;have hgN:Ax uss<=3:=by unfold Ax;lia
 refine⟨_,(AG (AX (i:=2) sc.nd rfl (Or.inr rfl) (CH [".0","top"] 1 [none,none] (Av (Ao A5 Fa AJ By)) F9 (fun _ _ _ _ _=>(Eh (AA Fa (AA AJ AB))))))
 (AG (FA (i:=3) [".0","some","numbers"] 1 [none,none,some 2] sc.nd rfl rfl (Av (AZ CB FV hr rfl (AA FS (AA (Ao A5 Fa AJ By) AB)))) F9 (fun _ _ _ _ _=>(AZ Kz ZI hr rfl (AA Fa (AA IN AB)))))
 (AL (Aj (Eh (AA (CH [".0","worth"] 1 [none,none] (Av (pv 3)) F9 (fun _ _ _ _ _=>(Ao EE Fa AJ By))) (AA (Ae BD (Ao A5 Fa AJ By) (AZ EW J3 hr rfl (AA FS (AA (Ao A5 Fa AJ By) AB)))) AB))))))),?_⟩
 refine⟨_,rfl,_,_,_,_,rfl,rfl,Al.of pl.at_,rfl,T,rfl,⟨_,AU.of pl.Ej⟩,fun D hD=>Bo (n:=ts.length) (fun i ys H'=>AK H H'/\ys.length=i/\Aq H' (AV (GL (ts.take i))) ys) ⟨AO hD _,rfl,.nil⟩ ?_ ?_⟩
 .rintro i ys H1 hi ⟨e1,hyl,dy⟩ hD1;have ht:ts[i]? = some ts[i]:=by simp[hi]
  generalize ts[i]=t at ht;have ht':(ts.map V.int)[i]? = some (.int t):=by rw[(BC),ht];rfl
  refine⟨⟨_,.int t,AU.of (e1 _ _ pl.Ej),ht'⟩,Bt (n:=60) AC AS,fun x H' y=>?_⟩;obtain⟨rfl,y⟩:=y;have hx:=y _ (AU.of (e1 _ _ pl.Ej));rw[ht']at hx;cases hx;unfold B0;refine Ba ⟨_,rfl,BX (show 2<=60 by decide),fun b hb=>?_⟩;generalize hH:upd _ b _=H2;obtain⟨e2,d2,_⟩:=iC (ds:=[.int t,.int 1]) hH hb (.cons .int (.cons .int .nil));clear hH;have d2:DU H2 (HH (t:Rat)) (.ref b):=d2;have hD2:=e2 _ _ hD1;refine⟨hD2,BG hi ⟨fun b o z=>?_,by simp[hyl],?_⟩⟩
  .rw[AN (AR z hD)];exact e2 _ _ (e1 _ _ z)
  .rw[(CP),ht];have dn:Aq H2 (AV (GL (ts.take i++[t]))) (ys++[.ref b]):=by
    unfold GL;rw[(A4),J7];exact(dy.same e2).app (.cons d2 .nil)
   exact GV hD2 .upd dn
 rintro ns H1 ⟨e1,hnl,dn⟩ hD1;rw[(DC)]at dn;refine⟨⟨_,AU.of (e1 _ _ pl.Ej),by rw[(Ah)];exact aH _⟩,?_⟩;refine⟨_,rfl,_,rfl,_,_,_,_,rfl,rfl,Al.of (e1 _ _ pl.at_),rfl,C,cs,uss,B,k,rfl,ch.same e1,fun us U m I=>(hm us U m I).2.2,hB,hk,fun DW H2 zs e2 _ hDW dz=>?_⟩;have E2:=e1.trans e2;have st:YV H2 D ns (GL ts) many tb 1:=⟨e2 _ _ hD1,dn.same e2,by unfold GL;rw[(Ah)];exact htl,fun x hx=>by
  obtain⟨t,ht,rfl⟩:=aL.mp hx;exact⟨htb t ht,by show((1:Nat):Int).natAbs<2^1;decide⟩⟩
 have hwl:(B7 B uss).length=uss.length:=by unfold B7;rw[(Ah)]
 have hzl:zs.length=uss.length:=by rw[dz.len,(Ah),hwl]
 refine⟨DW,rfl,⟨_,AU.of hDW⟩,fun D3 hD3=>Bo (n:=zs.length) (fun i ys H'=>AK H2 H'/\ys.length=i/\Aq H' (AV ((EZ uss ts B).take i)) ys) ⟨AO hD3 _,rfl,.nil⟩ ?_ ?_⟩
 .rintro i ys H3 hi ⟨e3,hyl,dy⟩ g;have hu:uss[i]? = some (uss[i]' AC):=aG _;have Y:=aI hu;generalize uss[i]' AC=us at hu Y;have hw:(B7 B uss)[i]? = some (DK (Bi uss) B (Ax uss) us):=by unfold B7;rw[(BC),hu];rfl
  obtain⟨a,xs,k1,k2,k3⟩:=JP dz hw;obtain⟨u12,uf⟩:=ch.EK us Y;refine⟨⟨zs,.ref a,AU.of (e3 _ _ hDW),k1⟩,Bt (n:=60) AC AS,fun x H' y=>?_⟩;obtain⟨rfl,y⟩:=y;have hx:=y zs (AU.of (e3 _ _ hDW));rw[k1]at hx;cases hx;unfold B0;refine Ba ⟨_,rfl,_,rfl,a,D,xs,ns,DK (Bi uss) B (Ax uss) us,GL ts,many,tb,1,4+(1+4*48)+(k*3+1),1,rfl,e3 _ _ k2,k3.same e3,by unfold DK;rw[(Ah)];exact u12,fun m' hm'=>?_,st.same e3,hm4,ht1,by decide,by lia,by decide,fun l H4 Z hl=>?_⟩
  .obtain⟨m,I,rfl⟩:=aL.mp hm';obtain⟨o1,o2,o3,o4⟩:=hm us Y m I;refine⟨o1,o2,?_,by show((1:Nat):Int).natAbs<2^1;decide⟩;show(m.2.num*(Bi uss).fdiv (m.2.den:Int)*B^(Ax uss-(Bc m).toNat)).natAbs<_;exact FM.A6 (FM.A6 (uf m I).1 (aJ (FM.Az _ _) b2)) (Dc (p:=3) hB AC)
  have R:=Z _ _ g;refine⟨R,BG hi ⟨fun b o z=>?_,by simp[hyl],?_⟩⟩
  .rw[AN (AR z hD3)];exact Z _ _ (e3 _ _ z)
  .have hwi:(EZ uss ts B)[i]? = some (LS (DK (Bi uss) B (Ax uss) us) (GL ts)):=by unfold EZ;rw[(BC),hw];rfl
   rw[(CP),hwi];have dn':Aq H4 (AV ((EZ uss ts B).take i++[LS (DK (Bi uss) B (Ax uss) us) (GL ts)])) (ys++[.ref l]):=by
    rw[J7];exact(dy.same Z).app (.cons (Rg hl) .nil)
   exact GV R .upd dn'
 rintro vs H3 ⟨e3,hvl,dv⟩ g;refine⟨⟨zs,AU.of (e3 _ _ hDW),Nat.le_refl _⟩,?_⟩;have hwl2:(EZ uss ts B).length=uss.length:=by unfold EZ;rw[(Ah),hwl]
 rw[List.take_of_length_le AC]at dv;have E3:=E2.trans e3;refine⟨_,rfl,D3,rfl,⟨_,AU.of g⟩,fun D4 R=>Bo (n:=vs.length) (fun i ys H'=>AK H3 H'/\ys=(((EZ uss ts B).take i).map fun r=>r.num).map V.int) ⟨AO R _,rfl⟩ ?_ ?_⟩
 .rintro i ys H4 hi ⟨Z,rfl⟩ M;have hr:(EZ uss ts B)[i]? = some ((EZ uss ts B)[i]' AC):=aG _;obtain⟨c,k1,k2⟩:=Eu dv hr;generalize (EZ uss ts B)[i]' AC=r at hr k2;refine⟨⟨vs,.ref c,AU.of (Z _ _ g),k1⟩,Bt (n:=60) (by simp;lia) AS,fun x H' y=>?_⟩;obtain⟨rfl,y⟩:=y;have hx:=y vs (AU.of (Z _ _ g));rw[k1]at hx;cases hx;unfold B0;refine Ba ⟨_,rfl,_,_,_,_,rfl,rfl,Al.of (Z _ _ k2),rfl,M,BG hi ⟨fun b o z=>?_,?_⟩⟩
  .rw[AN (AR z R)];exact Z _ _ z
  .rw[(CP),hr,(A4),(A4)]
   rfl
 rintro ys H4 ⟨Z,rfl⟩ M;rw[List.take_of_length_le AC]at M;refine⟨⟨vs,AU.of (Z _ _ g),Nat.le_refl _⟩,?_⟩;have E4:=E3.trans Z;have n4:(B^(Ax uss-1)).natAbs<2^(k*3+1):=Dc (p:=3) hB AC;refine⟨_,rfl,_,_,_,_,rfl,rfl,Al.of (E4 _ _ pl.at_),rfl,_,rfl,_,rfl,_,_,_,_,rfl,rfl,Al.of (E4 _ _ pl.at_),rfl,C,cs,uss,B,k,rfl,ch.same E4,fun us U m I=>(hm us U m I).2.2,hB,hk,fun H5 e5=>?_⟩;refine⟨_,_,rfl,rfl,D9 hB (FM.A6 b2 n4) AC,BX (show 2<=60 by decide),fun p' hp'=>?_⟩;exact q p' D4 _ (E4.trans (e5.trans (AO hp' _))) (Cd E3 R) ⟨AM,AO hp' _ _ _ (e5 _ _ M)⟩
end
abbrev Pl:=List Int×Int
def Xu(s:Pl):PD:=.tuple [.list (s.1.map .int),.int s.2]
theorem WU{H:Hp}:∀ {ps:List Int} {xs:IR},Aq H (ps.map .int) xs->xs=ps.map V.int
 |[],xs,h=>by
  have:=h.len;rw[List.map_nil,List.length_nil]at this;rw[List.eq_nil_of_length_eq_zero this]
  rfl
 |p::ps,xs,h=>by
  obtain⟨x,r,rfl,I,g⟩:=Aq.Xv h;obtain⟨N,b⟩:=I;have:=b N (aH _);rw[Dt]at this;rw[this,WU g,(C0)]
def cZ{H:Hp}{GH:List Pl}{xs:uD}{i:Nat}{s:Pl}(d:Aq H (GH.map Xu) xs)(h:GH[i]? = some s):∃c T,xs[i]? = some (.ref c)/\HR H c T s.1 s.2:=by
 obtain⟨v,h1,Z⟩:=d.get (i:=i) (d:=Xu s) (by rw[(BC),h];rfl);obtain⟨c,ys,rfl,R,I⟩:=Z.cw;obtain⟨x,y,rfl,Y,U⟩:=I.OC;obtain⟨T,ts,rfl,g,M⟩:=Y.Ju;obtain⟨N,b⟩:=U;have e:=b N (aH _);rw[Dt]at e;subst e;rw[WU M]at g;exact⟨c,T,h1,R,g⟩
def GO(qs:uC):t6:=qs.map fun r=>(r.den:Int)
def MN(qs:uC)(h:Rat)(B:Int):Int:=D8 (GO qs)*(h.den:Int)*B
def KC(bot:Int)(h q:Rat)(B:Int):Int:=q.num*h.num*bot.fdiv ((q.den:Int)*(h.den:Int)*B)
def stepT(bot:Int)(h:Rat)(Ej:t6)(z:Rat×Pl):t6:=List.zipWith (fun t v=>t+KC bot h z.1 z.2.2*v) Ej z.2.1
def LG(rs:uC)(zs:List (Rat×Pl))(h:Rat)(bot:Int):t6:=zs.foldl (stepT bot h) (BP rs bot)
def cY(rs:uC)(zs:List (Rat×Pl))(z:Rat×Pl)(h:Rat)(bot:Int):LG rs (zs++[z]) h bot=stepT bot h (LG rs zs h bot) z:=by
 unfold LG;rw[(So)]
 rfl
def V1{rs:uC}{h:Rat}{bot:Int}{many:Nat}(U:rs.length=many):∀(zs:List (Rat×Pl)),(∀z∈zs,z.2.1.length=many)->(LG rs zs h bot).length=many:=fun zs=>by
 have gen:∀(zs:List (Rat×Pl)) (ts:List Int),ts.length=many->(∀z∈zs,z.2.1.length=many)->(zs.foldl (stepT bot h) ts).length=many:=fun zs=>by
  induction zs with
  |nil=>intro ts I _;exact I
  |cons z zs M=>
   intro ts I g;rw[(Qe)];refine M _ ?_ fun y R=>g y (aN _ R);unfold stepT;rw[List.length_zipWith,I,g z aR,Nat.min_self]
 exact fun g=>gen zs _ (by unfold BP;rw[(Ah)];exact U) g
def jD:Sp:=fun vs H Q _=>∃(S Rw Sp Ln:AD) (xs ys M:IR) (rs g:List Rat) (GH:List Pl) (h:Rat) (I:Pl) (many Y R:Nat),vs=[.ref S,.ref Rw,.ref Sp,.ref Ln]/\H S=some (.lst xs)/\Aq H (AV rs) xs/\rs.length=many/\many<=4/\(∀r∈rs,FM.Fits r 3) /\
 H Rw=some Id/\Aq H (AV g) ys/\(∀q∈g,FM.Fits q 3/\q.den<=6)/\H Sp=some (.lst M)/\Aq H (GH.map Xu) M/\g.length=GH.length/\GH.length<=8/\GH[GH.length-1]? = some I/\(∀s∈GH,s.1.length=many/\1<=s.2/\s.2.natAbs<2^Y/\∀t∈s.1,t.natAbs<2^R)/\Y<=3000/\R<=100000 /\
 H Ln=some (.tup (IX h))/\FM.Fits h 3/\∀U Z H',AK H H'->H Z=none->HR H' U Z (LG rs (g.zip GH) h (MN g h I.2)) (MN g h I.2)->Q (.ref U) H'
section
variable{P:F0b}{w:F0c}{K:Fg}{mg:tm}{base:Heap}{f g1 g2:AD}{fd gd1 gd2:F0a}
def cj:Ab ["start","row","speeds","length","bottom","tops","part","there","share"] ["start","row","speeds","length"] (AQ Qr):=Be
def Zu(F:Fn K mg "led_to" Qr ["start","row","speeds","length"] f fd)(A0:Fn K mg "common_bottom" Cm ["bottoms"] g1 gd1)(Bx:Fn K mg "tops_over" GD ["some","bottom"] g2 gd2) (CK:AH P w K mg base Aa 2 g1 gd1 ["bottoms"] N9)(EV:AH P w K mg base Aa 2 g2 gd2 ["some","bottom"] O3)(Et:mg "zip" = none):AH P w K mg base Aa 3 f fd ["start","row","speeds","length"] jD:=by
 have sc:=cj;refine F.F.ok (k:=2) sc BY As
 .obtain⟨S,Rw,Sp,Ln,xs,ys,zs,rs,g,GH,h,sL,many,kb,sb,rfl,_⟩:=h
  rfl
 obtain⟨S,Rw,Sp,Ln,xs,ys,zs,rs,g,GH,h,sL,many,kb,sb,rfl,hS,dx,hrl,hm4,hrf,R,dy,hqf,hSp,dz,hql,h8,hL,hsp,hkb,hsb,hLn,hf,q⟩:=h;have hyl:ys.length=g.length:=by rw[dy.len,DY]
 have hzl:zs.length=GH.length:=by rw[dz.len,(Ah)]
 have hn1:1<=GH.length:=by have:=(aB.mp hL).1;lia
 have hd6:∀b∈GO g,1<=b/\b<=6:=fun b hb=>by
  obtain⟨r,hr,rfl⟩:=aL.mp hb;have:=r.den_nz;have:=(hqf r hr).2;exact⟨by lia,by lia⟩
 obtain⟨c1,c60⟩:=Uy hd6;have cb:(D8 (GO g)).natAbs<2^6:=by lia
 obtain⟨l1,l2,l3,l4⟩:=hsp sL (aI hL);have hb1:(D8 (GO g)*(h.den:Int)).natAbs<2^(6+3):=FM.A6 cb hf.d;have hbot:(MN g h sL.2).natAbs<2^(6+3+kb):=FM.A6 hb1 l3;obtain⟨cL,TL,k1,pL⟩:=cZ dz hL;have hat:Fe zs (-1)=some (.ref cL):=by
  unfold Fe P5;rw[if_neg AS,if_pos AC];show zs[(-1+(zs.length:Int)).toNat]? = _;rw[show(-1+(zs.length:Int)).toNat=GH.length-1 by lia];exact k1
 refine⟨_,(AG (AX (i:=4) sc.nd rfl AT (Ae BD (Ae BD (AZ A0 CK hr rfl (AA (CH [".0","part"] 1 [none,none] (Av Fa) F9 (fun _ _ _ _ _=>(Ao EE Fa AJ By))) AB)) (Ao A5 (pv 3) AJ By)) (Ao A5 (Ao IC IN (Ux Rn AJ) By) AJ By)))
 (AG (AX (i:=5) sc.nd rfl AT (AZ Bx EV hr rfl (AA FS (AA (pv 4) AB))))
 (AG (Bg aM rfl (Nz rfl Et (AA Fa (AA IN AB))) (HS rfl (Bw (An (i:=6) sc.nd rfl AT) (Bw (An (i:=7) sc.nd rfl AT) F8)))
  (AG (AX (i:=8) sc.nd rfl (Or.inr rfl) (Ae BD (Ae BD (Ao A5 (pv 6) AJ By) (Ao A5 (pv 3) AJ By)) (Ae Dl (pv 4) (Ae BD (Ae BD (Ao A5 (pv 6) AJ By) (Ao A5 (pv 3) AJ By)) (Ao A5 (pv 7) AJ By)))))
  (AL (IJ (i:=5) [".0","top","speed","share"] 1 2 [none,none,none,some 8] sc.nd rfl rfl (Nz rfl Et (AA (pv 5) (AA (Ao A5 (pv 7) AJ By) AB))) F9 (fun _ _ _ _ _=>(Ae Cf Fa (Ae BD (pv 3) IN)))))))
 (AL (Aj (Eh (AA (pv 5) (AA (pv 4) AB)))))))),?_⟩
 refine⟨_,rfl,Rw,rfl,⟨_,AU.of R⟩,fun D hD=>Bo (n:=ys.length) (fun i us H'=>AK H H'/\us=(GO (g.take i)).map V.int) ⟨AO hD _,rfl⟩ ?_ ?_⟩
 .rintro i us H1 hi ⟨Y,rfl⟩ hD1;have hr:g[i]? = some (g[i]' AC):=aG _;obtain⟨p,hp1,hp2⟩:=Eu dy hr;generalize g[i]' AC=r at hr hp2;refine⟨⟨ys,.ref p,AU.of (Y _ _ R),hp1⟩,Bt (n:=60) (by unfold GO;simp;lia) AS,fun x H' y=>?_⟩;obtain⟨rfl,y⟩:=y;have hx:=y ys (AU.of (Y _ _ R));rw[hp1]at hx;cases hx;unfold B0;refine Ba ⟨_,rfl,_,_,_,_,rfl,rfl,Al.of (Y _ _ hp2),rfl,hD1,BG hi ⟨fun b o z=>?_,?_⟩⟩
  .rw[AN (AR z hD)];exact Y _ _ z
  .rw[(CP),hr,GO,GO,(A4),(A4)]
   rfl
 rintro us H1 ⟨Y,rfl⟩ hD1;rw[hyl,(DC)]at hD1;refine⟨⟨ys,AU.of (Y _ _ R),Nat.le_refl _⟩,D,GO g,3,rfl,hD1,fun b hb=>⟨(hd6 b hb).1,by have:=hd6 b hb;lia⟩,?_,?_⟩
 .rw[show(GO g).length=g.length from bo _]
  lia
 refine⟨_,rfl,_,_,_,_,rfl,rfl,Al.of (Y _ _ hLn),rfl,_,_,rfl,rfl,D9 cb hf.d AC,_,rfl,_,rfl,_,_,_,_,rfl,rfl,AU.of (Y _ _ hSp),hat,_,_,_,_,rfl,rfl,Al.of (Y _ _ pL.at_),rfl,_,_,rfl,rfl,D9 hb1 l3 AC,?_⟩;rw[show((fun i j:Int=>V.int (i*j)) ((fun i j:Int=>i*j) (D8 (GO g)) (h.den:Int)) sL.2)=V.int (MN g h sL.2) from rfl];refine⟨_,rfl,_,rfl,S,xs,rs,MN g h sL.2,3,6+3+kb,rfl,Y _ _ hS,dx.same Y,by lia,hrf,hbot,by lia,fun D2 H2 e2 hD2n hD2=>?_⟩;have E2:=Y.trans e2;generalize hbv:MN g h sL.2=bot at q hbot hD2;refine⟨_,rfl,_,rfl,false,false,Rw,Sp,rfl,⟨_,E2 _ _ R⟩,⟨_,E2 _ _ hSp⟩,cM g.length (fun i σ H'=>∃(Tn:AD) (r6 r7 r8:Option V),σ=[some (.ref S),some (.ref Rw),some (.ref Sp),some (.ref Ln),some (.int bot),some (.ref Tn),r6,r7,r8]/\AK H H'/\H' Tn=some (.lst ((LG rs ((g.zip GH).take i) h bot).map V.int))/\H Tn=none) ?_ ?_ ?_⟩
 .exact⟨D2,_,_,_,rfl,E2,hD2,Cd Y hD2n⟩
 .rintro i σ H3 hi ⟨Tn,r6,r7,r8,rfl,e3,I,hTnn⟩;have hq:g[i]? = some (g[i]' hi):=aG _;have hs:GH[i]? = some (GH[i]' AC):=aG _;generalize g[i]' hi=Z at hq;generalize GH[i]' AC=M at hs;obtain⟨pq,a1,a2⟩:=Eu dy hq;obtain⟨ps,Ts,a3,a4⟩:=cZ dz hs;obtain⟨fq,q6⟩:=hqf Z (aI hq);obtain⟨s1,s2,s3,s4⟩:=hsp M (aI hs);refine⟨⟨_,_,_,_,e3 _ _ R,e3 _ _ hSp,a1,a3⟩,fun v H' y=>?_⟩;obtain⟨pp,x1,x2,rfl,np,rfl,q1,q2⟩:=y;have w1:=q1 _ (e3 _ _ R);have w2:=q2 _ (e3 _ _ hSp);rw[a1]at w1;rw[a3]at w2;cases w1;cases w2;have e4:=AO np (.tup [.ref pq,.ref ps]);refine⟨pp,_,rfl,Al.of AM,rfl,_,_,rfl,_,_,rfl,rfl,?_⟩;generalize upd H3 pp (.tup [.ref pq,.ref ps])=H4 at e4;have E4:=e3.trans e4;have hdiv:((Z.den:Int)*(h.den:Int)*M.2).natAbs<2^(3+3+kb):=FM.A6 (FM.A6 fq.d hf.d) s3;have hne:(Z.den:Int)*(h.den:Int)*M.2≠0:=Int.mul_ne_zero (Int.mul_ne_zero (by have:=Z.den_nz;lia) (by have:=h.den_nz;lia)) AC;have hfd:(bot.fdiv ((Z.den:Int)*(h.den:Int)*M.2)).natAbs<2^(6+3+kb):=aJ (FM.Az _ _) hbot;have hsh:(KC bot h Z M.2).natAbs<2^(3+3+(6+3+kb)):=FM.A6 (FM.A6 fq.1 hf.1) hfd;refine⟨_,rfl,_,_,_,_,rfl,rfl,Al.of (E4 _ _ a2),rfl,_,rfl,_,_,_,_,rfl,rfl,Al.of (E4 _ _ hLn),rfl,_,_,rfl,rfl,D9 fq.1 hf.1 AC,_,rfl,_,rfl,_,_,_,_,rfl,rfl,Al.of (E4 _ _ a2),rfl,_,rfl,_,_,_,_,rfl,rfl,Al.of (E4 _ _ hLn),rfl,_,_,rfl,rfl,D9 fq.d hf.d AC,_,rfl,_,_,_,_,rfl,rfl,Al.of (E4 _ _ a4.at_),rfl,_,_,rfl,rfl,D9 (FM.A6 fq.d hf.d) s3 AC,_,_,rfl,rfl,⟨hne,3+3+kb,by lia,hdiv⟩,_,_,rfl,rfl,D9 (FM.A6 fq.1 hf.1) hfd AC,?_⟩;have I:=e4 _ _ I;have hlt:(LG rs ((g.zip GH).take i) h bot).length=many:=V1 hrl _ fun z hz=>(hsp z.2 (bh (bW hz)).2).1;generalize hold:LG rs ((g.zip GH).take i) h bot=ts at I hlt;refine⟨_,rfl,_,rfl,_,_,_,_,rfl,rfl,Al.of (E4 _ _ a4.at_),rfl,false,false,Tn,Ts,rfl,⟨_,I⟩,⟨_,E4 _ _ a4.Ej⟩,fun D5 hD5=>Hk (n:=many) (fun j us H'=>AK H4 H'/\us=(((List.zipWith (fun t v=>t+KC bot h Z M.2*v) ts M.1)).take j).map V.int) ⟨AO hD5 _,by rw[List.take_zero];rfl⟩ ?_ ?_⟩
  .rintro j us H5 hj ⟨e5,rfl⟩ U;have hx:=aG (l:=ts) (i:=j) AC;have hy:=aG (l:=M.1) (i:=j) AC;generalize ts[j]' AC=tv at hx;generalize hyv:M.1[j]' AC=yv at hy;have hx':(ts.map V.int)[j]? = some (.int tv):=by rw[(BC),hx];rfl
   have hy':(M.1.map V.int)[j]? = some (.int yv):=by rw[(BC),hy];rfl
   have ea:=e5 _ _ I;have eb:=e5 _ _ (E4 _ _ a4.Ej);refine⟨⟨_,_,_,_,ea,eb,hx',hy'⟩,Bt (n:=60) (by rw[(Ah),(JZ)];lia) AS,fun v H' y=>?_⟩;obtain⟨pz,x1,x2,rfl,nz,rfl,k1,k2⟩:=y;have w1:=k1 _ ea;have w2:=k2 _ eb;rw[hx']at w1;rw[hy']at w2;cases w1;cases w2;have sp:=AO nz (.tup [.int tv,.int yv]);refine⟨pz,_,_,rfl,Al.of AM,?_⟩;unfold B0;refine Ba ⟨_,rfl,_,rfl,_,rfl,_,_,rfl,rfl,D9 hsh (s4 yv (aI hy)) AC,_,_,rfl,rfl,sp _ _ U,BG hj ⟨fun c o z=>?_,?_⟩⟩
   .rw[AN (AR z hD5)];exact sp _ _ (e5 _ _ z)
   .have hz:(List.zipWith (fun t v=>t+KC bot h Z M.2*v) ts M.1)[j]? = some (tv+KC bot h Z M.2*yv):=by
     rw[List.getElem?_zipWith,hx,hy]
    rw[(CP),hz,(A4)]
    rfl
  .rintro us H5 ⟨e5,rfl⟩ U;have hzw:(List.zipWith (fun t v=>t+KC bot h Z M.2*v) ts M.1).length=many:=by rw[List.length_zipWith,hlt,s1,Nat.min_self]
   rw[List.take_of_length_le AC]at U;refine⟨⟨_,_,e5 _ _ I,e5 _ _ (E4 _ _ a4.Ej),.inl (by rw[(Ah),hlt])⟩,D5,_,_,_,rfl,E4.trans e5,?_,Cd E4 hD5⟩;rw[(CP),(List.getElem?_zip_eq_some (z:=(Z,M))).mpr ⟨hq,hs⟩];show H5 D5=some (.lst ((LG rs ((g.zip GH).take i++[(Z,M)]) h bot).map V.int));rw[cY,hold];exact U
 .rintro σ H3 ⟨Tn,r6,r7,r8,rfl,e3,I,hTnn⟩;refine⟨⟨_,_,e3 _ _ R,e3 _ _ hSp,.inl hyl.symm⟩,?_⟩;rw[List.take_of_length_le (by rw[List.length_zip,hql,Nat.min_self];exact aH _)]at I;refine⟨_,rfl,_,rfl,BX (show 2<=60 by decide),fun p' hp'=>?_⟩;exact q p' Tn _ (e3.trans (AO hp' _)) hTnn ⟨AM,AO hp' _ _ _ I⟩
end
def Kx(ps ts:t6):Int:=(List.zipWith (fun p t=>t^p.toNat) ps ts).foldr (· * ·) 1
theorem Wf:∀(ps ts:List Int),FN (ps.zip (GL ts))=((Kx ps ts:Int):Rat)
 |[],_=>by simp[FN,Kx]
 |_::_,[]=>by simp[FN,Kx,GL]
 |p::ps,t::ts=>by
  have g:=Wf ps ts;unfold GL at g ⊢;rw[(C0),List.zip_cons_cons,Zd,g];show JJ (t:Rat) p.toNat*_=_;rw[V8];unfold Kx;rw[List.zipWith_cons_cons,List.foldr_cons,<-Rat.intCast_mul]
def jH(S B:Int)(gr:Nat)(m:Ag)(ts:t6):Int:=m.2.num*S.fdiv (m.2.den:Int)*B^(gr-(Bc m).toNat)*Kx m.1 ts
theorem UE(S B:Int)(gr:Nat)(ts:List Int):∀us:List Ag,LS (DK S B gr us) (GL ts)=(((us.map fun m=>jH S B gr m ts).sum:Int):Rat)
 |[]=>by simp[LS,DK]
 |m::us=>by
  have g:=UE S B gr ts us;unfold LS DK at g ⊢;rw[(C0),(C0),(KG),g,(C0),(KG),Rat.intCast_add]
  congr 1
  show((m.2.num*S.fdiv (m.2.den:Int)*B^(gr-(Bc m).toNat):Int):Rat)*FN (m.1.zip (GL ts))=_;rw[Wf,<-Rat.intCast_mul]
  rfl
theorem Xz{n:Nat}:∀(zs:List Int),(∀z∈zs,z.natAbs<2^n)->zs.sum.natAbs<=zs.length*2^n
 |[],_=>by simp
 |z::zs,h=>by
  have I:=Xz zs fun y g=>h y (aN _ g);have M:=h z aR;rw[(KG),(Im),Nat.succ_mul];have:=Int.natAbs_add_le z zs.sum
  lia
def b7{n:Nat}{zs:t6}(g:zs.length<=15)(h:∀z∈zs,z.natAbs<2^n):zs.sum.natAbs<2^(n+4):=by
 have R:=Xz zs h;have M:zs.length*2^n<=15*2^n:=bp _ g;have I:0<2^n:=Nat.two_pow_pos n;rw[Nat.pow_add]
 lia
theorem Qm{tb:Nat}:∀(ps ts:List Int),(∀p∈ps,0<=p)->(∀t∈ts,t.natAbs<2^tb)->(Kx ps ts).natAbs<2^(tb*ps.sum.toNat+ps.length+1)/\0<=ps.sum
 |[],ts,_,_=>⟨by simp[Kx],by simp⟩
 |p::ps,[],I,_=>by
  have Z:=(Qm (tb:=tb) ps [] (fun y g=>I y (aN _ g)) fun _ z=>(bC z).elim).2;have:=I p aR;refine⟨?_,by rw[(KG)];lia⟩;show(1:Int).natAbs<_;exact aK AS (ay AS (show 1<=_ by lia))
 |p::ps,t::ts,I,M=>by
  obtain⟨h1,Z⟩:=Qm ps ts (fun y g=>I y (aN _ g)) fun y g=>M y (aN _ g);have R:=I p aR;have Y:=Dc (k:=tb) (e:=p.toNat) (p:=p.toNat) (M t aR) (aH _);have e:Kx (p::ps) (t::ts)=t^p.toNat*Kx ps ts:=rfl;rw[e,(KG),(Im)];refine⟨?_,by lia⟩;have U:=FM.A6 Y h1;refine FM.BR U ?_;rw[show(p+ps.sum).toNat=p.toNat+ps.sum.toNat by lia,Nat.mul_add]
  lia
structure Gu(uss:Ch)(many:Nat):Prop where
 len:uss.length<=4
 EK:∀us∈uss,us.length<=12/\∀m∈us,FM.Fits m.2 3/\m.2.den<=6/\m.1.length=many/\(∀p∈m.1,(0:Int)<=p/\p<=3)/\0<=Bc m/\Bc m<=2
def Gu.great{uss:Ch}{many:Nat}(h:Gu uss many):1<=Ax uss/\Ax uss<=2/\∀us∈uss,∀m∈us,(Bc m).toNat<=Ax uss:=by
 obtain⟨a,b,c⟩:=Gk (c:=2) (uss:=uss) AS fun us g m hm=>((h.EK us g).2 m hm).2.2.2.2.2;unfold Ax;refine⟨by lia,by lia,fun us g m hm=>?_⟩;have:=c us g m hm
 lia
def Gu.b5{uss:Ch}{many:Nat}(h:Gu uss many):1<=Bi uss/\(Bi uss).natAbs<2^6:=by
 obtain⟨a,b⟩:=Uy (bs:=FP uss) fun b hb=>by
  unfold FP at hb;obtain⟨l,I,hb⟩:=bz.mp hb;obtain⟨us,g,rfl⟩:=aL.mp I;obtain⟨m,hm,rfl⟩:=aL.mp hb;have:=m.2.den_nz;have:=((h.EK us g).2 m hm).2.1;exact⟨by lia,by lia⟩
 exact⟨a,by show(D8 (FP uss)).natAbs<_;lia⟩
def CN(uss:Ch)(g:Pl):Pl:=((EZ uss g.1 g.2).map fun r=>r.num,g.2*Gv uss g.2)
def OB{uss:Ch}{many k:Nat}{g:Pl}(h:Gu uss many)(h1:1<=g.2)(hk:g.2.natAbs<2^k):1<=(CN uss g).2/\(CN uss g).2.natAbs<2^(2*k+7):=by
 obtain⟨U,R,_⟩:=h.great;obtain⟨b1,b2⟩:=h.b5;have M:1<=g.2^(Ax uss-1):=by
  have:0<g.2^(Ax uss-1):=Int.pow_pos AC
  lia
 have I:(g.2^(Ax uss-1)).natAbs<2^(k*1+1):=Dc (p:=1) hk AC;refine⟨?_,?_⟩
 .have:0<g.2*(Bi uss*g.2^(Ax uss-1)):=Int.mul_pos AC (Int.mul_pos AC AC);exact this
 .have:=FM.A6 hk (FM.A6 b2 I);exact FM.BR this AC
def Zl{uss:Ch}{many k tb:Nat}{g:Pl}(h:Gu uss many)(hm4:many<=4)(hk:g.2.natAbs<2^k)(ht:∀t∈g.1,t.natAbs<2^tb):∀t∈(CN uss g).1,t.natAbs<2^(2*k+2*tb+19):=fun t R=>by
 obtain⟨g1,g2,g3⟩:=h.great;obtain⟨b1,b2⟩:=h.b5;obtain⟨r,hr,rfl⟩:=aL.mp R;obtain⟨U,I,rfl⟩:=aL.mp hr;obtain⟨us,M,rfl⟩:=aL.mp I;rw[UE,Rat.num_intCast];obtain⟨Z,Y⟩:=h.EK us M;have:=b7 (n:=2*k+2*tb+15) (zs:=us.map fun m=>jH (Bi uss) g.2 (Ax uss) m g.1) (by rw[(Ah)];lia) fun z hz=>by
  obtain⟨m,hm,rfl⟩:=aL.mp hz;obtain⟨f1,f2,f3,f4,f5,f6⟩:=Y m hm;have n1:=FM.A6 f1.1 (aJ (FM.Az (Bi uss) (m.2.den:Int)) b2);have n2:(g.2^(Ax uss-(Bc m).toNat)).natAbs<2^(k*2+1):=Dc (p:=2) hk AC;obtain⟨n3,_⟩:=Qm m.1 g.1 (fun p hp=>(f4 p hp).1) ht;have n4:=FM.A6 (FM.A6 n1 n2) n3;refine FM.BR n4 ?_;have hs:m.1.sum.toNat<=2:=by unfold Bc at f6;lia
  have:=aT tb hs
  lia
 exact FM.BR this AC
def Yr{qs:uC}{h:Rat}{B:Int}{g:Nat}(M:∀q∈qs,q.den<=6)(hf:FM.Fits h 3)(h1:1<=B)(hB:B.natAbs<2^g):1<=MN qs h B/\(MN qs h B).natAbs<2^(g+9):=by
 obtain⟨U,R⟩:=Uy (bs:=GO qs) fun b hb=>by
  obtain⟨r,I,rfl⟩:=aL.mp hb;have:=r.den_nz;have:=M r I;exact⟨by lia,by lia⟩
 have hd:=h.den_nz;refine⟨?_,?_⟩
 .have:0<D8 (GO qs)*(h.den:Int)*B:=Int.mul_pos (Int.mul_pos AC AC) AC;exact this
 .have:=FM.A6 (FM.A6 (m:=6) (show(D8 (GO qs)).natAbs<2^6 by lia) hf.d) hB;exact FM.BR this AC
def eY{rs:uC}{h:Rat}{bot:Int}{g sb n:Nat}(U:∀r∈rs,FM.Fits r 3)(hf:FM.Fits h 3)(hb:bot.natAbs<2^g):∀(zs:List (Rat×Pl)),zs.length<=n->(∀z∈zs,FM.Fits z.1 3/\∀t∈z.2.1,t.natAbs<2^sb)->∀t∈LG rs zs h bot,t.natAbs<(n+1)*2^(6+g+sb):=fun zs=>by
 have gen:∀(zs:List (Rat×Pl)) (j:Nat) (ts:List Int),(∀t∈ts,t.natAbs<(j+1)*2^(6+g+sb))->(∀z∈zs,FM.Fits z.1 3/\∀t∈z.2.1,t.natAbs<2^sb)->∀t∈zs.foldl (stepT bot h) ts,t.natAbs<(j+zs.length+1)*2^(6+g+sb):=fun zs=>by
  induction zs with
  |nil=>intro j ts Y _;exact Y
  |cons z zs ih=>
   intro j ts Y h2;rw[(Qe)];have:=ih (j+1) (stepT bot h ts z) (fun t I=>by
    unfold stepT at I;obtain⟨i,hi⟩:=ah I;rw[List.getElem?_zipWith]at hi;cases R:ts[i]? with
    |none=>rw[R]at hi;cases hi
    |some tv=>
     cases M:z.2.1[i]? with
     |none=>rw[R,M]at hi;cases hi
     |some Z=>
      rw[R,M]at hi;cases hi;obtain⟨fz,tz⟩:=h2 z aR;have a1:=Y tv (aI R);have a2:(KC bot h z.1 z.2.2).natAbs<2^(3+3+g):=FM.A6 (FM.A6 fz.1 hf.1) (aJ (FM.Az _ _) hb);have a3:=FM.A6 a2 (tz Z (aI M));have a4:=Int.natAbs_add_le tv (KC bot h z.1 z.2.2*Z);have e1:(j+1+1)*2^(6+g+sb)=(j+1)*2^(6+g+sb)+2^(6+g+sb):=Nat.succ_mul _ _;rw[e1];exact aJ a4 (Nat.add_lt_add a1 a3)) fun y M=>h2 y (aN _ M)
   rw[(Im),show j+(zs.length+1)+1=j+1+zs.length+1 by lia];exact this
 intro hl hz t I;have:=gen zs 0 (BP rs bot) (fun t I=>by
  obtain⟨r,hr,rfl⟩:=aL.mp I;have a:=FM.A6 (U r hr).1 (aJ (FM.Az bot (r.den:Int)) hb);rw[Nat.zero_add,Nat.one_mul];exact FM.BR a AC) hz t I
 refine aK this (bp _ AC)
def kS:Nat->Nat
 |0=>6
 |i+1=>2*kS i+16
def tS:Nat->Nat
 |0=>9
 |i+1=>4*kS i+2*tS i+44
def Vk(uss:Ch)(rs:uC)(h:Rat)(st:List Pl×Pl)(row:uC):List Pl×Pl :=
 (st.1++[CN uss st.2],(LG rs (row.zip (st.1++[CN uss st.2])) h (MN row h (CN uss st.2).2),MN row h (CN uss st.2).2))
def qp(rs:uC):List Pl×Pl:=([],(BP rs (Ac rs),Ac rs))
def G7(uss:Ch)(rs:uC)(h:Rat)(rows:List uC):List Pl×Pl:=rows.foldl (Vk uss rs h) (qp rs)
structure RI(many i:Nat)(st:List Pl×Pl):Prop where
 len:st.1.length=i
 sp:∀s∈st.1,s.1.length=many/\1<=s.2/\s.2.natAbs<2^kS i/\∀t∈s.1,t.natAbs<2^tS i
 one:1<=st.2.2
 bot:st.2.2.natAbs<2^kS i
 tl:st.2.1.length=many
 Ej:∀t∈st.2.1,t.natAbs<2^tS i
structure Yj(i:Nat)(row:List Rat):Prop where
 len:row.length=i+1
 fit:∀q∈row,FM.Fits q 3/\q.den<=6
def eP{uss:Ch}{g:Pl}:(CN uss g).1.length=uss.length:=by
 unfold CN EZ B7;rw[(Ah),(Ah),(Ah)]
def Rt{uss:Ch}{many i:Nat}{st:List Pl×Pl}(ch:Gu uss many)(M:uss.length=many)(hm:many<=4)(v:RI many i st):∀s∈st.1++[CN uss st.2],s.1.length=many/\1<=s.2/\s.2.natAbs<2^(2*kS i+7)/\∀t∈s.1,t.natAbs<2^(2*kS i+2*tS i+19):=fun s g=>by
 rcases aQ.mp g with g|g
 .obtain⟨a,b,c,d⟩:=v.sp s g;exact⟨a,b,FM.BR c AC,fun t I=>FM.BR (d t I) AC⟩
 .rw[List.mem_singleton.mp g];obtain⟨a,b⟩:=OB ch v.one v.bot;exact⟨by rw[eP,M],a,b,Zl ch hm v.bot v.Ej⟩
def iD{uss:Ch}{many i:Nat}{st:List Pl×Pl}{rs:uC}{h:Rat}{row:uC}(ch:Gu uss many)(hl:uss.length=many)(hm:many<=4)(U:rs.length=many)(Y:∀r∈rs,FM.Fits r 3)(hf:FM.Fits h 3)(v:RI many i st)(hi:i<4)(M:Yj i row):RI many (i+1) (Vk uss rs h st row):=by
 have sa:=Rt ch hl hm v;obtain⟨a,b⟩:=OB ch v.one v.bot;obtain⟨l1,Z⟩:=Yr (qs:=row) (h:=h) (fun q hq=>(M.fit q hq).2) hf a b;have I:(st.1++[CN uss st.2]).length=i+1:=by simp[v.len]
 have hz:(row.zip (st.1++[CN uss st.2])).length<=7:=by rw[List.length_zip,I,M.len,Nat.min_self];lia
 have tp:=eY (rs:=rs) (h:=h) (n:=7) (sb:=2*kS i+2*tS i+19) Y hf Z (row.zip (st.1++[CN uss st.2])) hz fun z g=>⟨(M.fit z.1 (bh g).1).1,(sa z.2 (bh g).2).2.2.2⟩;refine⟨I,fun s hs=>?_,l1,FM.BR Z (by show _<=2*kS i+16;lia),V1 U _ fun z g=>(sa z.2 (bh g).2).1,fun t R=>?_⟩
 .obtain⟨c1,c2,c3,c4⟩:=sa s hs;exact⟨c1,c2,FM.BR c3 (by show _<=2*kS i+16;lia),fun t R=>FM.BR (c4 t R) (by show _<=4*kS i+2*tS i+44;lia)⟩
 .have:=tp t R;refine aK this ?_;show(7+1)*2^_<=2^(4*kS i+2*tS i+44);rw[show(7+1:Nat)=2^3 from rfl,<-Nat.pow_add];exact ay AS AC
def jk{t:Tb}(o:t.Ok 4)(hf:∀r∈Ak t,∀q∈r,FM.Fits q 3/\q.den<=6):(Ak t).length=t.rs.length/\∀(i:Nat) r,(Ak t)[i]? = some r->Yj i r:=by
 have R:=o.one;refine⟨by unfold Ak;rw[(Ge),(MS),(LL)];lia,fun i r g=>⟨?_,hf r (aI g)⟩⟩;unfold Ak at g;by_cases hi:i<(t.rs.drop 1).length
 .rw[List.getElem?_append_left hi,List.getElem?_drop]at g;have:=o.row _ _ g
  lia
 .rw[List.getElem?_append_right AC]at g;have I:=(aB.mp g).1;rw[(LL)]at I;rw[(MS)]at hi I;have M:i=t.rs.length-1:=by lia
  rw[show i-(t.rs.drop 1).length=0 by rw[(MS)];lia]at g;cases g;rw[o.last]
  lia
def iV{i:Nat}(h:i<=4):kS i<=400/\(i<=3->tS i<=1300)/\(i<=3->kS i<=300):=by
 match i,h with
 |0,_=>exact⟨by decide,fun _=>by decide,fun _=>by decide⟩
 |1,_=>exact⟨by decide,fun _=>by decide,fun _=>by decide⟩
 |2,_=>exact⟨by decide,fun _=>by decide,fun _=>by decide⟩
 |3,_=>exact⟨by decide,fun _=>by decide,fun _=>by decide⟩
 |4,_=>exact⟨by decide,fun h=>absurd h AS,fun h=>absurd h AS⟩
def jg{rs:uC}{many:Nat}(I:rs.length=many)(g:∀r∈rs,FM.Fits r 3/\r.den<=6):RI many 0 (qp rs):=by
 obtain⟨a,b⟩:=Uy (bs:=rs.map fun r=>(r.den:Int)) fun b hb=>by
  obtain⟨r,M,rfl⟩:=aL.mp hb;have:=r.den_nz;have:=(g r M).2;exact⟨by lia,by lia⟩
 have hb:(Ac rs).natAbs<2^6:=by show(D8 _).natAbs<_;lia
 refine⟨rfl,fun s U=>(bC U).elim,a,hb,by show(BP rs _).length=_;unfold BP;rw[(Ah)];exact I,fun t R=>?_⟩;obtain⟨r,M,rfl⟩:=aL.mp R;exact FM.A6 (g r M).1.1 (aJ (FM.Az _ _) hb)
def Z0:Sp:=fun vs H Q _=>∃(I:V) (C S M:AD) (t:Tb) (cs xs:IR) (uss:Ch) (rs:List Rat) (h:Rat) (many:Nat),vs=[I,.ref C,.ref S,.ref M]/\DU H (CM t) I/\t.Ok 4/\(∀r∈Ak t,∀q∈r,FM.Fits q 3/\q.den<=6)/\LJ H C cs uss 3/\Gu uss many/\DH (.list (uss.map Bz))=true/\uss.length=many /\
 H S=some (.lst xs)/\Aq H (AV rs) xs/\rs.length=many/\(∀r∈rs,FM.Fits r 3/\r.den<=6)/\1<=many/\many<=4/\H M=some (.tup (IX h))/\FM.Fits h 3/\∀D H' g,AK H H'->H D=none->H' D=some (.lst g)->Aq H' (AV ((G7 uss rs h (Ak t)).2.1.map fun a=>Rat.divInt a (G7 uss rs h (Ak t)).2.2)) g->Q (.ref D) H'
def RF{uss:Ch}{rs:uC}{h:Rat}{rows:List uC}{i:Nat}{row:uC}(g:rows[i]? = some row):G7 uss rs h (rows.take (i+1))=Vk uss rs h (G7 uss rs h (rows.take i)) row:=by
 unfold G7;rw[(CP),g];show List.foldl _ _ (rows.take i++[row])=_;rw[(So)]
 rfl
theorem UB{uss:Ch}{many:Nat}{rs:List Rat}{h:Rat}{rows:List (List Rat)}(ch:Gu uss many)(U:uss.length=many)(hm:many<=4)(g:rs.length=many)(I:∀r∈rs,FM.Fits r 3/\r.den<=6)(hf:FM.Fits h 3)(Y:rows.length<=4)(R:∀(i:Nat) r,rows[i]? = some r->Yj i r):∀i,i<=rows.length->RI many i (G7 uss rs h (rows.take i))
 |0,_=>jg g I
 |i+1,hi=>by
  have M:rows[i]? = some (rows[i]' AC):=aG _;rw[RF M];exact iD ch U hm g (fun r M=>(I r M).1) hf (UB ch U hm g I hf Y R i AC) AC (R i _ M)
theorem X8{c:AD}{I:IR}{H:Hp}(g:H c=some (.lst I)):∀ {rs:List (List Rat)} {zs:IR},Aq H (BU rs) zs->(∀y∈zs,y≠.ref c)->AW c H (BU rs) zs
 |[],zs,h,_=>by
  have:=h.len;rw[show BU []=[] from rfl,List.length_nil]at this;rw[List.eq_nil_of_length_eq_zero this];exact .nil
 |r::rs,zs,h,n=>by
  obtain⟨x,t,rfl,U,R⟩:=Aq.Xv h;obtain⟨a,xs,rfl,ha,dx⟩:=DU.Ju U;exact .cons (eR g (fun z=>n (.ref a) aR (by rw[z])) ha dx) (X8 g R fun y M=>n y (aN _ M))
def qT{H:Hp}{c p T:AD}{M:uD}{s:Pl}(I:H c=some (.lst M))(n:T≠c)(pv:HR H p T s.1 s.2):Dt c H (Xu s) (.ref p):=by
 have g:∀ps:List Int,AW c H (ps.map .int) GT:=fun ps=>by
  induction ps with
  |nil=>exact .nil
  |cons p ps R=>exact .cons .int R
 exact .tup (fun z=>by subst z;rw[pv.at_]at I;cases I) pv.at_ (.cons (.lst n pv.Ej (g _)) (.cons .int .nil))
section
variable{P:F0b}{w:F0c}{K:Fg}{mg:tm}{base:Heap}{f g1 g2 g3 g4 g5 g6 g7:AD}{fd gd1 gd2 gd3 gd4 gd5 gd6 gd7:F0a}
def Q7:Ab ["table","change","start","length","grain","place","speeds","row"] ["table","change","start","length"] (AQ L8):=Be
def Zi(F:Fn K mg "step_to" L8 ["table","change","start","length"] f fd)(Bs:Fn K mg "refuse_no_step" CU Go g1 gd1)(Dx:Fn K mg "grain_of" IZ ["start"] g2 gd2)(Bx:Fn K mg "tops_over" GD ["some","bottom"] g3 gd3)(Cy:Fn K mg "rows_that_read" Ft ["table"] g4 gd4)(Jj:Fn K mg "speeds_at" MM ["change","place"] g5 gd5)(NQ:Fn K mg "led_to" Qr ["start","row","speeds","length"] g6 gd6)(Cb:Fn K mg "fraction_of" F4 ["top","bottom"] g7 gd7) (Di:AH P w K mg base Aa 8 g1 gd1 Go QU)(Ih:AH P w K mg base Aa 8 g2 gd2 ["start"] PZ)(EV:AH P w K mg base Aa 8 g3 gd3 ["some","bottom"] O3)(Hv:AH P w K mg base Aa 8 g4 gd4 ["table"] Sw)(Xj:AH P w K mg base Aa 8 g5 gd5 ["change","place"] Wz)(fD:AH P w K mg base Aa 8 g6 gd6 ["start","row","speeds","length"] jD)(F5:AH P w K mg base Aa 8 g7 gd7 ["top","bottom"] Sn):AH P w K mg base Aa 9 f fd ["table","change","start","length"] Z0:=by
 have sc:=Q7;refine F.F.ok (k:=8) sc BY (fun cdv A outer s H vs Q E g h=>?_)
 .obtain⟨vt,C,S,Ln,t,cs,xs,uss,rs,h,many,rfl,_⟩:=h
  rfl
 obtain⟨vt,C,S,Ln,t,cs,xs,uss,rs,h,many,rfl,dt,ot,hrd,ch,co,hcd,hul,hS,dx,hrl,hrf,hm1,Z,hLn,hf,q⟩:=h;obtain⟨I,hro⟩:=jk ot hrd;have ho4:=ot.most;have inv:=UB (rows:=Ak t) co hul Z hrl hrf hf AC hro;obtain⟨_,gb⟩:=(⟨(inv 0 AC).one,(inv 0 AC).bot⟩:1<=Ac rs/\(Ac rs).natAbs<2^6);refine⟨_,(AG (BK (AZ Bs Di g rfl (AA FS (AA Fa (AA IN AB)))))
 (AG (AX (i:=4) sc.nd rfl AT (AZ Dx Ih g rfl (AA IN AB)))
 (AG (AX (i:=5) sc.nd rfl (Or.inr rfl) (Eh (AA (AZ Bx EV g rfl (AA IN (AA (pv 4) AB))) (AA (pv 4) AB))))
 (AG (AX (i:=6) sc.nd rfl AT (Cu AB))
 (AG (Bg aM rfl (Av (AZ Cy Hv g rfl (AA FS AB))) (An (i:=7) sc.nd rfl AT)
  (AG (BK (Ij ag au av EX (pv 6) (AA (AZ Jj Xj g rfl (AA Fa (AA (pv 5) AB))) AB)))
  (AL (AX (i:=5) sc.nd rfl (Or.inr rfl) (AZ NQ fD g rfl (AA IN (AA (pv 7) (AA (pv 6) (AA (pv 3) AB)))))))))
 (AL (Aj (CH [".0","top","place"] 1 [none,none,some 5] (Av (Ao A5 (pv 5) AJ By)) F9 (fun _ _ _ _ _=>(AZ Cb F5 g rfl (AA Fa (AA (Ao EE IN AJ By) AB)))))))))))),?_⟩
 refine⟨_,rfl,_,rfl,_,rfl,vt,C,S,t,cs,xs,uss,rs,many,rfl,dt,ot,ch,hcd,hul,hS,dx,hrl,Z,fun H1 e1=>?_⟩;refine⟨_,rfl,S,xs,rs,3,rfl,e1 _ _ hS,dx.same e1,by lia,fun r g=>(hrf r g).1,by lia,fun H2 e2=>?_⟩;have E2:=e1.trans e2;refine⟨_,rfl,_,rfl,S,xs,rs,Ac rs,3,6,rfl,E2 _ _ hS,dx.same E2,by lia,fun r g=>(hrf r g).1,gb,by decide,fun T0 H3 e3 hT0n hT0=>?_⟩;have E3:=E2.trans e3;refine⟨_,rfl,BX (show 2<=60 by decide),fun p0 hp0=>?_⟩;have e4:=AO hp0 (.tup [V.ref T0,V.int (Ac rs)]);have h4:upd H3 p0 (.tup [V.ref T0,V.int (Ac rs)]) p0=some (.tup [V.ref T0,V.int (Ac rs)]):=AM;generalize upd H3 p0 (.tup [V.ref T0,V.int (Ac rs)])=H4 at e4 h4;have E4:=E3.trans e4;have pl0:HR H4 p0 T0 (BP rs (Ac rs)) (Ac rs):=⟨h4,e4 _ _ hT0⟩;refine⟨BX (show 0<=60 by decide),fun Sp hSp=>?_⟩;have e5:=AO hSp (.lst []);have hSp5:upd H4 Sp (.lst []) Sp=some (.lst []):=AM;generalize upd H4 Sp (.lst [])=H5 at e5 hSp5;have E5:=E4.trans e5;refine⟨_,rfl,vt,t,4,rfl,dt.same E5,ot,by decide,fun D H6 rws e6 hDn hD drw=>?_⟩;have E6:=E5.trans e6;have U:=e6 _ _ hSp5;have nD:D≠Sp:=fun z=>by subst z;rw[hSp5]at hDn;cases hDn
 have hwl:rws.length=t.rs.length:=by rw[drw.len,Hz,I]
 have rAt:AW Sp H6 (BU (Ak t)) rws:=X8 U drw fun y hy z=>by
  obtain⟨i,hi⟩:=ah hy;have hil:i<(Ak t).length:=by rw[I,<-hwl];exact(aB.mp hi).1
  have g:(Ak t)[i]? = some ((Ak t)[i]' hil):=aG _;obtain⟨b,us,k1,k2,k3⟩:=NW drw g;rw[hi,z]at k1;cases k1;rw[U]at k2;cases k2;have:=k3.len;rw[DY,(hro i _ g).len]at this;simp at this
 have cAt:AW Sp H6 (uss.map Bz) cs:=by
  obtain⟨N,b⟩:=ch.du;exact(HP hSp ((b N (aH _)).same E4)).same (e5.trans e6)
 have ne:∀ {a:AD} {o:HO},H4 a=some o->a≠Sp:=fun ha z=>by subst z;rw[hSp]at ha;cases ha
 have nT0:T0≠Sp:=ne pl0.Ej;refine⟨D,rfl,⟨_,AU.of hD⟩,CI (xs:=rws) (fun i σ H'=>∃(p T:AD) (r7:Option V) (ss:IR),σ=[some vt,some IO,some (.ref S),some (.ref Ln),some (.int (Ac rs)),some (.ref p),some (.ref Sp),r7]/\SameBut Sp H6 H'/\H' Sp=some (.lst ss)/\ss.length=i/\AW Sp H' ((G7 uss rs h ((Ak t).take i)).1.map Xu) ss/\T≠Sp/\HR H' p T (G7 uss rs h ((Ak t).take i)).2.1 (G7 uss rs h ((Ak t).take i)).2.2) ?_ ?_ ?_ ?_⟩
 .exact⟨p0,T0,_,[],rfl,.of (.refl _),U,rfl,.nil,nT0,pl0.same (e5.trans e6)⟩
 .rintro i σ H' _ ⟨p,T,r7,ss,rfl,e,_⟩;exact AU.of (e _ _ nD hD)
 .rintro i x σ H7 hx ⟨p,T,r7,ss,rfl,e7,R,hsl,dss,nT,pv⟩;have hi:i<(Ak t).length:=by rw[I,<-hwl];exact(aB.mp hx).1
  have g:(Ak t)[i]? = some ((Ak t)[i]' hi):=aG _;have ro:=hro i _ g;generalize (Ak t)[i]' hi=row at g ro;have Y:=inv i AC;have Q5:=RF (uss:=uss) (rs:=rs) (h:=h) g;generalize G7 uss rs h ((Ak t).take i)=st at Y Q5 dss pv;obtain⟨k1,k2,k3⟩:=iV (i:=i) AC;have sa:=Rt co hul Z Y;have ch7:LJ H7 C cs uss 4:=⟨e7 _ _ (ne (E4 _ _ ch.at_)) (E6 _ _ ch.at_),CT (.but e7 cAt),ch.len,fun us hus=>⟨(ch.EK us hus).1,fun m hm=>((ch.EK us hus).2 m hm).mono⟩⟩;refine⟨_,rfl,.inl ⟨rfl,_,AU.of R⟩,_,rfl,_,rfl,C,p,T,cs,uss,st.2.1,st.2.2,many,kS i,tS i,rfl,ch7,pv,fun us hus m hm=>?_,Y.tl,Z,Y.bot,by have:=k3 AC;lia,Y.Ej,k2 AC,fun p' T' H8 e8 hT'n pv'=>?_⟩
  .obtain⟨_,_,f3,f4,f5,f6⟩:=(co.EK us hus).2 m hm;exact⟨f3,f4,f5,by lia⟩
  have hSp8:=e8 _ _ R;have nT':T'≠Sp:=fun z=>by subst z;rw[R]at hT'n;cases hT'n
  refine⟨Sp,ss,_,rfl,rfl,hSp8,Bt (n:=60) AC AS,?_⟩;have u:SameBut Sp H8 (upd H8 Sp (.lst (ss++[.ref p']))):=.upd;have M:upd H8 Sp (.lst (ss++[.ref p'])) Sp=some (.lst (ss++[.ref p'])):=AM;have d9:AW Sp (upd H8 Sp (.lst (ss++[.ref p']))) ((st.1++[CN uss st.2]).map Xu) (ss++[.ref p']):=by
   rw[(A4)];exact .but u ((dss.same e8).app (.cons (qT (s:=CN uss st.2) hSp8 nT' pv') .nil))
  have e9:SameBut Sp H6 (upd H8 Sp (.lst (ss++[.ref p']))):=(e7.trans (.of e8)).trans u;generalize upd H8 Sp (.lst (ss++[.ref p']))=H9 at u M d9 e9;obtain⟨a,us,j1,j2,j3⟩:=NW (CT (.but e9 rAt)) g;rw[hx]at j1;cases j1;have hlast:(st.1++[CN uss st.2])[(st.1++[CN uss st.2]).length-1]? = some (CN uss st.2):=by simp
  refine⟨_,rfl,_,rfl,_,rfl,_,rfl,S,a,Sp,Ln,xs,us,ss++[.ref p'],rs,row,st.1++[CN uss st.2],h,CN uss st.2,many,2*kS i+7,2*kS i+2*tS i+19,rfl,e9 _ _ (ne (E4 _ _ hS)) (E6 _ _ hS),GV U e9 (dx.same E6),hrl,Z,fun r g=>(hrf r g).1,j2,j3,ro.fit,M,CT d9,by rw[ro.len,(Ge),Y.len];rfl,by rw[(Ge),Y.len,(LL)];lia,hlast,sa,by lia,by have:=k2 AC;lia,e9 _ _ (ne (E4 _ _ hLn)) (E6 _ _ hLn),hf,fun p2 T2 H10 e10 hT2n pv2=>?_⟩;have nT2:T2≠Sp:=fun z=>by subst z;rw[M]at hT2n;cases hT2n
  refine⟨p2,T2,_,ss++[.ref p'],rfl,e9.trans (.of e10),e10 _ _ M,by simp[hsl],?_,nT2,?_⟩
  .rw[Q5];exact d9.same e10
  .rw[Q5];exact pv2
 .rintro σ H7 ⟨p,T,r7,ss,rfl,e7,R,hsl,dss,nT,pv⟩;rw[List.take_of_length_le AC]at pv;have Y:=inv (Ak t).length (aH _);rw[(DC)]at Y;obtain⟨k1,_,_⟩:=iV (i:=(Ak t).length) AC;have E7:AK H H7:=fun b o z=>e7 _ _ (ne (E4 _ _ z)) (E6 _ _ z);generalize G7 uss rs h (Ak t)=st at Y pv q;have htl:=Y.tl;refine⟨_,rfl,_,_,_,_,rfl,rfl,Al.of pv.at_,rfl,T,rfl,⟨_,AU.of pv.Ej⟩,fun D2 hD2=>Bo (n:=st.2.1.length) (fun j ys H'=>AK H7 H'/\ys.length=j/\Aq H' (AV ((st.2.1.take j).map fun a=>Rat.divInt a st.2.2)) ys) ⟨AO hD2 _,rfl,.nil⟩ ?_ ?_⟩
  .rintro j ys H8 hj ⟨e8,hyl,dy⟩ hD8;have ht:st.2.1[j]? = some (st.2.1[j]' hj):=aG _;generalize st.2.1[j]' hj=tv at ht;have ht':(st.2.1.map V.int)[j]? = some (.int tv):=by rw[(BC),ht];rfl
   refine⟨⟨_,.int tv,AU.of (e8 _ _ pv.Ej),ht'⟩,Bt (n:=60) AC AS,fun x H' y=>?_⟩;obtain⟨rfl,y⟩:=y;have hx:=y _ (AU.of (e8 _ _ pv.Ej));rw[ht']at hx;cases hx;unfold B0;refine Ba ⟨_,rfl,_,rfl,_,_,_,_,rfl,rfl,Al.of (e8 _ _ pv.at_),rfl,tv,st.2.2,kS (Ak t).length,rfl,by have:=Y.one;lia,by lia,Y.bot,fun l H9 e9 hl=>?_⟩;have hD9:=e9 _ _ hD8;refine⟨hD9,BG hj ⟨fun b o z=>?_,by simp[hyl],?_⟩⟩
   .rw[AN (AR z hD2)];exact e9 _ _ (e8 _ _ z)
   .rw[(CP),ht];have dn:Aq H9 (AV ((st.2.1.take j++[tv]).map fun a=>Rat.divInt a st.2.2)) (ys++[.ref l]):=by
     rw[(A4),J7];exact(dy.same e9).app (.cons (Rg hl) .nil)
    exact GV hD9 .upd dn
  .rintro ys H8 ⟨e8,hyl,dy⟩ hD8;rw[(DC)]at dy;exact⟨⟨_,AU.of (e8 _ _ pv.Ej),by rw[(Ah)];exact aH _⟩,q D2 H8 ys (E7.trans e8) (Cd E7 hD2) hD8 dy⟩
end
def Sa(many:Nat)(t:IT.Tm):Prop:=(t.1.length=many/\t.1.sum<=2)/\(∀p∈t.1,(0:Int)<=p/\p<=3)/\∃r:Rat,t.2=[r.num,(r.den:Int)]/\r≠0/\r.num.natAbs<=6/\r.den<=6
def Pu(t:IT.Tm):PD:=.tuple [.tuple (t.1.map .int),.tuple (t.2.map .int)]
def KD(many:Nat)(us:List IT.Tm):Prop:=us.length<=12/\(∀t∈us,Sa many t)/\us.Pairwise (fun x y=>IT.lt y.1 x.1=true)
def f9{κ:Type}[DecidableEq κ]{kvs:List (κ×V)}{k:κ}{v:V}{x:κ×V}(h:x∈putK kvs k v):x∈kvs\/x=(k,v):=by
 unfold putK at h;split at h
 .obtain⟨y,g,e⟩:=aL.mp h;split at e
  .rename_i z
   right;rw[<-e,<-z]
  .left;rw[<-e];exact g
 .rcases aQ.mp h with h|h
  .exact .inl h
  .exact .inr (List.mem_singleton.mp h)
def YW{κ:Type}[DecidableEq κ]{kvs:List (κ×V)}{k:κ}(v:V)(h:(kvs.map (·.1)).Nodup):((putK kvs k v).map (·.1)).Nodup:=by
 cases e:Ci kvs k with
 |none=>exact j8 v h e
 |some y=>
  unfold putK;rw[JO,e,if_pos (show(some y).isSome=true from rfl),(HM)];have:(kvs.map ((fun x:κ×V=>x.1) ∘ fun kv=>if kv.1=k then(kv.1,v) else kv))=kvs.map (·.1):=by
   apply bP;intro x _;simp only[Function.comp];split<;>rfl
  rw[this];exact h
def KL(many:Nat)(H:Hp)(kv:List Key×V):Prop:=∃t:IT.Tm,kv.1=t.1.map Sum.inl/\(∃c,kv.2=.ref c/\H c=some (.tup (t.2.map V.int)))/\Sa many t
def KL.step{many:Nat}{H H':Hp}{kv:List Key×V}(e:∀c ys,H c=some (.tup ys)->H' c=some (.tup ys))(h:KL many H kv):KL many H' kv:=by
 obtain⟨t,R,⟨c,M,I⟩,g⟩:=h;exact⟨t,R,⟨c,M,e _ _ I⟩,g⟩
theorem UM{many:Nat}{H:Hp}:∀ {kvs:IF},(∀kv∈kvs,KL many H kv)->∃ts:List IT.Tm,ts.length=kvs.length/\(∀t∈ts,Sa many t)/\kvs.map (·.1)=ts.map (fun t=>t.1.map Sum.inl) /\
  ∀(j:Nat) k v t,kvs[j]? = some (k,v)->ts[j]? = some t->k=t.1.map Sum.inl/\∃c,v=.ref c/\H c=some (.tup (t.2.map V.int))
 |[],_=>⟨[],rfl,fun _ z=>(bC z).elim,rfl,fun j k v t h=>by simp at h⟩
 |kv::kvs,h=>by
  obtain⟨ts,h1,h2,h3,h4⟩:=UM (kvs:=kvs) fun x g=>h x (aN _ g);obtain⟨t,R,Z,Y⟩:=h kv aR;refine⟨t::ts,by simp[h1],fun x g=>?_,by rw[(C0),(C0),h3,R],fun j k v U M I=>?_⟩
  .rcases aU.mp g with rfl|g
   .exact Y
   .exact h2 x g
  .cases j with
   |zero=>
    simp at M I;subst M I;exact⟨R,Z⟩
   |succ j=>exact h4 j k v U (by simpa using M) (by simpa using I)
def Ul{us ts:List IT.Tm}(U:us.Perm ts)(hn:(ts.map fun t=>t.1.map (Sum.inl:Int->Key)).Nodup)(R:us.Pairwise (fun x y=>IT.LM.kle y x)):us.Pairwise (fun x y=>IT.lt y.1 x.1=true):=by
 have I:(us.map fun t=>t.1.map (Sum.inl:Int->Key)).Nodup:=(U.map _).nodup_iff.mpr hn;rw[List.Nodup,List.pairwise_map]at I;refine(R.and I).imp fun {x y} h=>?_;obtain⟨h1,Z⟩:=h;have g:x.1≠y.1:=fun z=>Z (by rw[z]);have M:IT.IH x y=false:=h1;unfold IT.IH at M;rw[if_neg g]at M;cases Y:IT.lt y.1 x.1 with
 |true=>rfl
 |false=>exact absurd (IT.M9 _ _ M Y) g
theorem SJ{c:AD}{H:Hp}:∀(ps:List Int),AW c H (ps.map .int) GT
 |[]=>.nil
 |p::ps=>.cons .int (SJ ps)
theorem Ws{c:AD}{zc:IR}{H1 H':Hp}(e:AK H1 H')(I:H1 c=some (.lst zc)):∀ {us:List IT.Tm} {zs:IR},zs.length=us.length ->
  (∀(j:Nat) z t,zs[j]? = some z->us[j]? = some t->∃p b d,z=.ref p/\H1 p=none/\H' p=some (.tup [.ref b,.ref d])/\H1 b=some (.tup (t.1.map V.int))/\H1 d=some (.tup (t.2.map V.int)))->AW c H' (us.map Pu) zs
 |[],[],_,_=>.nil
 |[],_::_,h,_=>by simp at h
 |_::_,[],h,_=>by simp at h
 |t::us,z::zs,hl,h=>by
  obtain⟨p,b,d,rfl,Z,h2,Y,U⟩:=h 0 z t rfl rfl;have M:∀ {x:AD} {ys:IR},H1 x=some (.tup ys)->x≠c:=fun R g=>by rw[g,I]at R;cases R
  exact .cons (.tup (fun g=>by rw[g,I]at Z;cases Z) h2 (.cons (.tup (M Y) (e _ _ Y) (SJ _)) (.cons (.tup (M U) (e _ _ U) (SJ _)) .nil)))
   (Ws e I (by simpa using hl) fun j z' t' hz ht=>h (j+1) z' t' (by simpa using hz) (by simpa using ht))
def dI:Sp:=fun vs H Q _=>∃(l:AD) (x:Int) (many:Nat),vs=[.ref l,.int many,.int 2]/\H l=some (.lst [.int x])/\1<=many/\many<=4 /\
 ∀v H' us,SameBut l H H'->KD many us->(∀c g,H c=some (.lst g)->Dt c H' (.list (us.map Pu)) v)->Q v H'
def kP{ps:t6}{r:Int}(h0:0<=r)(h1:r<=(ps.length:Nat)):Cs GT (some r) none++Cs GT none (some r)=(ps.drop r.toNat++ps.take r.toNat).map V.int:=by
 have e:(some r)=some ((r.toNat:Nat):Int):=by rw[show((r.toNat:Nat):Int)=r by lia]
 unfold Cs;rw[e,HT.LR,HT.LR,HT.K4,HT.K4,(Ah),Nat.min_eq_left AC,List.drop_zero,Nat.sub_zero,(A4),List.map_drop,List.map_take]
 congr 1
 rw[List.take_of_length_le (by rw[(MS),(Ah)];lia)]
section
variable{P:F0b}{w:F0c}{K:Fg}{mg:tm}{base:Heap}{f g g1 g2 g4 g5:AD}{fd gd gd1 gd2:F0a}
def Wj:Ab ["_law_pile","_law_many","_law_most","_law_counts","_law_count","_law_k","_law_powers","_law_left","_law_j","_law_turn","_law_part_here"] ["_law_pile","_law_many","_law_most"] (AQ MG):=Be
structure JM(H:Hp)(l C:Addr)(kvs:IF)(many n:Nat)(H':Hp):Prop where
 tr:SameBut l H H'
 Ie:∃y,H' l=some (.lst [.int y])
 L5:H' C=some (.dT kvs)
 len:kvs.length<=n
 nd:(kvs.map (·.1)).Nodup
 ok:∀kv∈kvs,KL many H' kv
def JM.same{H:Hp}{l C:AD}{kvs:IF}{many n:Nat}{H1 I:Hp}(g:JM H l C kvs many n H1)(e:AK H1 I):JM H l C kvs many n I :=
 ⟨g.tr.trans (.of e),let⟨y,h⟩:=g.Ie;⟨y,e _ _ h⟩,e _ _ g.L5,g.len,g.nd,fun kv h=>(g.ok kv h).step fun c ys=>e c _⟩
def JM.take{H:Hp}{l C:AD}{kvs:IF}{many n:Nat}{H1:Hp}(g:JM H l C kvs many n H1)(M:C≠l)(y:Int):JM H l C kvs many n (upd H1 l (.lst [.int y])) :=
 let⟨_,R⟩:=g.Ie
 ⟨g.tr.trans .upd,⟨y,AM⟩,by rw[AN M];exact g.L5,g.len,g.nd,fun kv h=>(g.ok kv h).step fun c ys I=>by rw[AN (fun z=>by rw[z,R]at I;cases I)];exact I⟩
def JM.list{H:Hp}{l C p:AD}{kvs:IF}{many n:Nat}{H1:Hp}{ys zs:uD}(g:JM H l C kvs many n H1)(U:H p=none)(np:p≠l)(M:p≠C)(h:H1 p=some Id):JM H l C kvs many n (upd H1 p (.lst zs)) :=
 ⟨fun b o nb z=>by rw[AN (AR z U)];exact g.tr _ _ nb z,let⟨y,R⟩:=g.Ie;⟨y,by rw[AN np.symm];exact R⟩,by rw[AN M.symm];exact g.L5,g.len,g.nd,fun kv hk=>(g.ok kv hk).step fun c Y I=>by rw[AN (fun z=>by rw[z,h]at I;cases I)];exact I⟩
def VW(F:Fn K mg "_law_poly" MG ["_law_pile","_law_many","_law_most"] f fd)(Ct:Fn K mg "_law_take" Jq ["_law_pile","_law_size"] g1 gd1)(EN:Fn K mg "_law_part" Jh ["_law_pile"] g2 gd2) (FC:AH P w K mg base Aa 3 g1 gd1 ["_law_pile","_law_size"] WI)(Jk:AH P w K mg base Aa 3 g2 gd2 ["_law_pile"] SY)(A3:mg "range" = none)(JI:mg "sorted" = none)(CA:mg "tuple" = none):AH P w K mg base Aa 4 f fd ["_law_pile","_law_many","_law_most"] dI:=by
 have sc:=Wj;refine F.F.ok (k:=3) sc BY As
 .obtain⟨l,x,many,rfl,_⟩:=h
  rfl
 obtain⟨l,x,many,rfl,hl,hm1,hm4,q⟩:=h;refine⟨_,(AG (AX (i:=3) sc.nd rfl AT Nf)
 (AG (AX (i:=4) sc.nd rfl AT (AZ Ct FC hr rfl (AA FS (AA AJ AB))))
 (AG (B5 (BM K0 (pv 4) AJ (Ap _))
  (AL (AX (i:=4) sc.nd rfl AT (Ae Cf (pv 4) (AZ Ct FC hr rfl (AA FS (AA AJ AB))))))
  BL)
 (AG (Bg aM rfl (C4 rfl A3 (AA (pv 4) AB)) (An (i:=5) sc.nd rfl AT)
  (AG (AX (i:=6) sc.nd rfl AT (Cu AB))
  (AG (AX (i:=7) sc.nd rfl AT IN)
  (AG (Bg aM rfl (C4 rfl A3 (AA Fa AB)) (An (i:=8) sc.nd rfl AT)
   (AG (BK (Ij ag au av EX (pv 6) (AA (AZ Ct FC hr rfl (AA FS (AA (Ae Cf (pv 7) AJ) AB))) AB)))
   (AL (AX (i:=7) sc.nd rfl AT (Ae HQ (pv 7) (Ao IC (pv 6) (Ux Rn AJ) By))))))
  (AG (AX (i:=9) sc.nd rfl AT (AZ Ct FC hr rfl (AA FS (AA Fa AB))))
  (AG (AX (i:=10) sc.nd rfl AT (AZ EN Jk hr rfl (AA FS AB)))
  (AL (B5 (BM (cT (by have:=hr.units;exact this)) (pv 10) (Eh (AA AJ (AA AJ AB))) (Ap _))
   (AL (PY GM (pv 3) (Tt Nj rfl CA bN (AA (Ae Mk (JQ PU (pv 6) (K2 (pv 9)) K5) (JQ PU (pv 6) K5 (K2 (pv 9)))) AB)) (pv 10) rfl))
   BL))))))))
 (AL (Aj (fG rfl (by have:=hr.units;exact this) rfl JI (pv 3)))))))),?_⟩
 refine fun C hC=>?_;have nC:C≠l:=(AR hl hC).symm;have Y:JM H l C [] many 0 (upd H C (.dT [])):=⟨.of (AO hC _),⟨x,AO hC _ _ _ hl⟩,AM,Nat.le_refl _,List.nodup_nil,fun _ z=>(bC z).elim⟩;generalize upd H C (.dT [])=H1 at Y;obtain⟨x1,hl1⟩:=Y.Ie;refine⟨_,rfl,l,x1,5,rfl,hl1,by decide,by decide,fun cnt y0 c0 c1=>?_⟩;have Y:=Y.take nC y0;generalize upd H1 l (.lst [.int y0])=H2 at Y
 try dsimp only[EJ]
 refine Jf (fun σ' H'=>∃n:Nat,n<=12/\σ'=[some (.ref l),some (.int many),some (.int 2),some IO,some (.int n),none,none,none,none,none,none]/\JM H l C [] many 0 H') (fun nx hnx=>?_) ?_
 .refine⟨_,rfl,rfl,_,rfl,Bq (fun c=>?_) (fun c=>?_)⟩
  .obtain⟨x2,hl2⟩:=Y.Ie;have e4:cnt=4:=by simpa using c
   refine⟨_,rfl,_,rfl,l,x2,9,rfl,hl2,by decide,by decide,fun r y1 r0 r1=>⟨_,_,rfl,rfl,hnx _ _ ⟨(cnt+r).toNat,by lia,?_,Y.take nC y1⟩⟩⟩;show [some (V.ref l),some (V.int many),some (V.int 2),some (V.ref C),some (V.int (cnt+r)),none,none,none,none,none,none]=_;rw[show(((cnt+r).toNat:Nat):Int)=cnt+r by lia]
  .refine hnx _ _ ⟨cnt.toNat,by lia,?_,Y⟩;show [some (V.ref l),some (V.int many),some (V.int 2),some (V.ref C),some (V.int cnt),none,none,none,none,none,none]=_;rw[show((cnt.toNat:Nat):Int)=cnt by lia]
 rintro σ' H3 ⟨n,hn,rfl,Y⟩;refine⟨_,rfl,(n:Int),rfl,by lia,by lia,GY (n:=(n:Int).toNat) (fun i σ H'=>∃(r5 r6 r7 r8 r9 Z:Option V) (kvs:IF),σ=[some (.ref l),some (.int many),some (.int 2),some IO,some (.int n),r5,r6,r7,r8,r9,Z]/\JM H l C kvs many i H') ?_ ?_ ?_⟩
 .exact⟨_,_,_,_,_,_,[],rfl,Y⟩
 .rintro i σ H4 hi ⟨r5,r6,r7,r8,r9,Z,kvs,rfl,g4⟩;refine⟨BX AS,fun p U=>?_⟩;have hpn:H p=none:=by
   cases z:H p with
   |none=>rfl
   |some o=>
    have np:p≠l:=fun zz=>by
     obtain⟨y,hy⟩:=g4.Ie;rw[zz,hy]at U;cases U
    rw[g4.tr _ _ np z]at U;cases U
  have np:p≠l:=let⟨y,hy⟩:=g4.Ie;(AR hy U).symm;have npC:p≠C:=(AR g4.L5 U).symm;have g5:=g4.same (AO U (.lst []));have h5:upd H4 p (.lst []) p=some (.lst []):=AM;generalize upd H4 p (.lst [])=H5 at g5 h5;refine⟨_,rfl,?_⟩;refine⟨_,rfl,(many:Int),rfl,by lia,by lia,GY (n:=(many:Int).toNat) (fun j σ H'=>∃(r8:Option V) (left:Int) (ps:List Int),σ=[some (.ref l),some (.int many),some (.int 2),some IO,some (.int n),some (.int (0+(i:Nat))),some (.ref p),some (.int left),r8,r9,Z]/\JM H l C kvs many i H'/\H' p=some (.lst GT)/\ps.length=j/\(∀z∈ps,(0:Int)<=z/\z<=3)/\0<=left/\left<=3/\ps.sum+left=2) ?_ ?_ ?_⟩
  .exact⟨_,2,[],rfl,g5,h5,rfl,fun _ z=>(bC z).elim,by decide,by decide,by decide⟩
  .rintro j σ H6 hj ⟨r8,left,ps,rfl,g6,h6,hpl,hps,l0,l3,lsum⟩;obtain⟨x6,hl6⟩:=g6.Ie;refine⟨_,rfl,.inl ⟨rfl,_,AU.of h6⟩,_,rfl,_,rfl,_,_,rfl,rfl,l,x6,left+1,rfl,hl6,by lia,by lia,fun r y r0 r1=>?_⟩;have g7:=g6.take nC y;have h7:upd H6 l (.lst [.int y]) p=some (.lst GT):=by rw[AN np];exact h6
   generalize upd H6 l (.lst [.int y])=H7 at g7 h7;refine⟨p,_,_,rfl,rfl,h7,Bt (n:=60) (by rw[(Ah)];lia) AS,?_⟩;have g8:=g7.list hpn np npC h7 (zs:=ps.map V.int++[.int r]);have h8:upd H7 p (.lst (ps.map V.int++[.int r])) p=some (.lst ((ps++[r]).map V.int)):=by rw[AM,(A4)];rfl
   generalize upd H7 p (.lst (ps.map V.int++[.int r]))=H8 at g8 h8;have hat:Fe ((ps++[r]).map V.int) (-1)=some (.int r):=by
    unfold Fe P5;rw[if_neg AS,if_pos (by rw[(Ah),(Ge),(LL)];lia)];rw[(Ah),(Ge),(LL),show((-1:Int)+((ps.length+1:Nat):Int)).toNat=ps.length by lia];simp
   refine⟨_,rfl,_,rfl,_,rfl,_,_,_,_,rfl,rfl,AU.of h8,hat,_,_,rfl,rfl,_,left-r,ps++[r],rfl,g8,h8,by simp[hpl],fun z I=>?_,by lia,by lia,by rw[List.sum_append,List.sum_singleton];lia⟩;rcases aQ.mp I with I|I
   .exact hps z I
   .rw[List.mem_singleton.mp I];exact⟨r0,by lia⟩
  .rintro σ H6 ⟨r8,left,ps,rfl,g6,h6,hpl,hps,l0,l3,lsum⟩;obtain⟨x6,hl6⟩:=g6.Ie;refine⟨_,rfl,_,rfl,l,x6,(many:Int),rfl,hl6,by lia,by lia,fun turn y t0 t1=>?_⟩;have g7:=g6.take nC y;have h7:upd H6 l (.lst [.int y]) p=some (.lst GT):=by rw[AN np];exact h6
   generalize upd H6 l (.lst [.int y])=H7 at g7 h7;obtain⟨x7,hl7⟩:=g7.Ie;refine⟨_,rfl,l,x7,rfl,hl7,fun c fr y8 H8 e8 hc r6 d6=>?_⟩;have g8:=(g7.take nC y8).same e8;have h8:H8 p=some (.lst GT):=e8 _ _ (by rw[AN np];exact h7);obtain⟨ta,R⟩:∃ta,ta=fr.num:=⟨_,rfl⟩;obtain⟨tb,M⟩:∃tb,tb=(fr.den:Int):=⟨_,rfl⟩
   replace hc:H8 c=some (.tup [.int ta,.int tb]):=by rw[R,M];exact hc
   refine⟨_,rfl,BX (show 2<=60 by decide),fun q0 hq=>?_⟩;have e9:=AO hq (.tup [.int 0,.int 1]);have hq9:upd H8 q0 (.tup [.int 0,.int 1]) q0=some (.tup [.int 0,.int 1]):=AM;generalize upd H8 q0 (.tup [.int 0,.int 1])=H9 at e9 hq9;have g9:=g8.same e9;have h9:=e9 _ _ h8;have hc9:=e9 _ _ hc;have sh:∀a b:Int,SeqAt.shaped (.tuple [.int a,.int b])=true:=fun a b=>(Sm.tup (n:=0) (ds:=[.int a,.int b]) (show 2<=60 by decide) (fun x hx=>by
    rcases aU.mp hx with rfl|hx
    .trivial
    .rw[List.mem_singleton.mp hx];trivial)).ok.shaped AS
   obtain⟨x9,hl9⟩:=g9.Ie;have ntl:∀ {b:AD} {ys:IR},H9 b=some (.tup ys)->b≠l:=fun hb z=>by rw[z,hl9]at hb;cases hb
   refine⟨.tuple [.int ta,.int tb],.tuple [.int 0,.int 1],(Dt.tup (ntl hc9) hc9 (.cons .int (.cons .int .nil))).br,(Dt.tup (ntl hq9) hq9 (.cons .int (.cons .int .nil))).br,sh _ _,sh _ _,_,rfl,Bq (fun b=>?_) (fun b=>?_)⟩
   .have hfr0:fr≠0:=fun z=>by
     have e1:ta=0:=by rw[R,z];rfl
     have e2:tb=1:=by rw[M,z];rfl
     subst e1 e2;exact absurd b (by simp[PyData.eqv,PyData.eqvAll])
    refine⟨_,rfl,_,rfl,_,rfl,_,rfl,_,rfl,p,_,rfl,AU.of h9,fun p1 hp1=>?_⟩;have ea:=AO hp1 (.lst (Cs GT (some turn) none));have ha1:upd H9 p1 (.lst (Cs GT (some turn) none)) p1=some (.lst (Cs GT (some turn) none)):=AM;generalize upd H9 p1 (.lst (Cs GT (some turn) none))=Ha at ea ha1;refine⟨_,rfl,_,rfl,_,rfl,p,_,rfl,AU.of (ea _ _ h9),fun p2 hp2=>?_⟩;have eb:=AO hp2 (.lst (Cs GT none (some turn)));have hb2:upd Ha p2 (.lst (Cs GT none (some turn))) p2=some (.lst (Cs GT none (some turn))):=AM;generalize upd Ha p2 (.lst (Cs GT none (some turn)))=Hb at eb hb2;refine⟨p1,p2,_,_,rfl,rfl,eb _ _ ha1,hb2,?_,fun p3 hp3=>?_⟩
    .have z1:=GA GT (some turn) none;have z2:=GA GT none (some turn);rw[(Ah)]at z1 z2;exact BX AC
    rw[kP t0 AC]at *;have ec:=AO hp3 (.lst ((ps.drop turn.toNat++ps.take turn.toNat).map V.int));have hc3:upd Hb p3 (.lst ((ps.drop turn.toNat++ps.take turn.toNat).map V.int)) p3=some (.lst ((ps.drop turn.toNat++ps.take turn.toNat).map V.int)):=AM;generalize upd Hb p3 (.lst ((ps.drop turn.toNat++ps.take turn.toNat).map V.int))=Hc at ec hc3;refine⟨p3,_,rfl,.inl ⟨AU.of hc3,fun p4 hp4=>?_⟩⟩;have ed:=AO hp4 (.tup ((ps.drop turn.toNat++ps.take turn.toNat).map V.int));have hd4:upd Hc p4 (.tup ((ps.drop turn.toNat++ps.take turn.toNat).map V.int)) p4=some (.tup ((ps.drop turn.toNat++ps.take turn.toNat).map V.int)):=AM;generalize upd Hc p4 (.tup ((ps.drop turn.toNat++ps.take turn.toNat).map V.int))=Hd at ed hd4;have E:=ea.trans (eb.trans (ec.trans ed));have gd:=g9.same E;have hcd:=E _ _ hc9;refine⟨C,_,rfl,OY.t gd.L5 (k:=(ps.drop turn.toNat++ps.take turn.toNat).map Sum.inl) (by rw[WX];exact hd4) (Bt (n:=60) (by have:=gd.len;lia) AS),?_⟩;have hCn:∀c ys,Hd c=some (.tup ys)->c≠C:=fun c ys hh z=>by rw[z,gd.L5]at hh;cases hh
    refine⟨_,_,_,_,_,_,_,rfl,⟨fun b o nb z=>by rw[AN (AR z hC)];exact gd.tr _ _ nb z,let⟨y,hy⟩:=gd.Ie;⟨y,by rw[AN nC.symm];exact hy⟩,AM,Nat.le_trans (MI _ _ _) (Nat.succ_le_succ gd.len),YW _ gd.nd,fun kv hk=>?_⟩⟩;rcases f9 hk with hk|rfl
    .exact(gd.ok kv hk).step fun c ys hh=>by rw[AN (hCn c ys hh)];exact hh
    .refine⟨(ps.drop turn.toNat++ps.take turn.toNat,[ta,tb]),rfl,⟨c,rfl,by rw[AN (hCn _ _ hcd)];exact hcd⟩,?_,fun z I=>?_,fr,by rw[R,M],hfr0,r6,d6⟩
     .refine⟨by simp only[List.length_append,List.length_drop,List.length_take];lia,?_⟩;show(ps.drop turn.toNat++ps.take turn.toNat).sum<=2;have es:(ps.take turn.toNat++ps.drop turn.toNat).sum=ps.sum:=by rw[List.take_append_drop]
      rw[List.sum_append]at es;rw[List.sum_append]
      lia
     .rcases aQ.mp I with I|I
      .exact hps z (bX I)
      .exact hps z (bW I)
   .exact⟨_,_,_,_,_,_,kvs,rfl,⟨g9.tr,g9.Ie,g9.L5,Nat.le_succ_of_le g9.len,g9.nd,g9.ok⟩⟩
 .rintro σ H4 ⟨r5,r6,r7,r8,r9,Z,kvs,rfl,g4⟩;obtain⟨ts,k1,k2,k3,k4⟩:=UM g4.ok;have hlen:=g4.len;refine⟨_,rfl,C,kvs,ts,rfl,g4.L5,by lia,k1,k4,fun D H' zs us e hD hD' U hs hzl I=>?_⟩;obtain⟨y4,hl4⟩:=g4.Ie;refine q _ H' us (g4.tr.trans (.of e)) ⟨by rw[U.length_eq,k1];lia,fun t ht=>k2 t (U.mem_iff.mp ht),Ul U (by rw[<-k3];exact g4.nd) hs⟩ fun c zc hc=>?_;have hc4:∃zc',H4 c=some (.lst zc'):=by
   by_cases z:c=l
   .subst z;exact⟨_,hl4⟩
   .exact⟨_,g4.tr _ _ z hc⟩
  obtain⟨zc',hc4⟩:=hc4;exact .lst (AR hc4 hD).symm hD' (Ws e hc4 hzl I)
end
def J6(us:List IT.Tm):PD:=.list (us.map Pu)
def Vl(K:Fg):Sp:=fun vs H Q _=>∃(a:AD) (ns:List Int) (many:Nat),vs=[.ref a,.int 1,.int many,.int 2]/\AU K H a (ns.map V.int)/\1<=many/\many<=4 /\
 ∀v H' (uss:List (List IT.Tm)),AK H H'->uss.length=many->(∀us∈uss,KD many us)->DU H' (.list (uss.map J6)) v->Q v H'
def Ll(t:IT.Tm):Ag:=(t.1,Rat.divInt (t.2.getD 0 0) (t.2.getD 1 1))
def cP{many:Nat}{t:IT.Tm}(ok:Sa many t):Pu t=Es (Ll t)/\FM.Fits (Ll t).2 3/\(Ll t).2.den<=6/\(Ll t).2≠0:=by
 obtain⟨_,_,r,I,R,M,g⟩:=ok;have e:(Ll t).2=r:=by
  unfold Ll;rw[I];exact FM.MQ r
 refine⟨?_,?_,by rw[e];exact g,by rw[e];exact R⟩
 .unfold Pu Es;rw[e,I]
  rfl
 .rw[e];exact⟨aJ M AS,Nat.lt_of_le_of_lt g AS⟩
theorem RS:∀ {ps:List Int},(∀p∈ps,0<=p)->0<=ps.sum
 |[],_=>by simp
 |p::ps,h=>by
  have:=RS (ps:=ps) fun y g=>h y (aN _ g);have:=h p aR;rw[(KG)]
  lia
def X0{many:Nat}{us:List IT.Tm}(ok:KD many us):J6 us=Bz (us.map Ll):=by
 unfold J6 Bz;rw[(HM)]
 congr 1
 exact bP fun t g=>(cP (ok.2.1 t g)).1
def kW{many:Nat}{uss:List (List IT.Tm)}(Y:uss.length<=4)(ok:∀us∈uss,KD many us):Gu (uss.map fun us=>us.map Ll) many:=by
 refine⟨by rw[(Ah)];exact Y,fun ms I=>?_⟩;obtain⟨us,g,rfl⟩:=aL.mp I;refine⟨by rw[(Ah)];exact(ok us g).1,fun m hm=>?_⟩;obtain⟨t,R,rfl⟩:=aL.mp hm;have tk:=(ok us g).2.1 t R;obtain⟨_,f,d,_⟩:=cP tk;obtain⟨⟨l,M⟩,ps,_⟩:=tk;exact⟨f,d,l,ps,RS fun p U=>(ps p U).1,M⟩
section
variable{P:F0b}{w:F0c}{K:Fg}{mg:tm}{base:Heap}{f g1 g2:AD}{fd gd1 gd2:F0a}
def SX:Ab ["_law_script","_law_start_here","_law_many","_law_most"] ["_law_script","_law_start_here","_law_many","_law_most"] (AQ KP):=Be
def Su(F:Fn K mg "_law_change" KP ["_law_script","_law_start_here","_law_many","_law_most"] f fd)(Bm:Fn K mg "_law_cell" EM ["_law_script","_law_k"] g1 gd1)(Ji:Fn K mg "_law_poly" MG ["_law_pile","_law_many","_law_most"] g2 gd2) (Dr:AH P w K mg base Aa 4 g1 gd1 ["_law_script","_law_k"] (PB K))(XT:AH P w K mg base Aa 4 g2 gd2 ["_law_pile","_law_many","_law_most"] dI)(A3:mg "range" = none):AH P w K mg base Aa 5 f fd ["_law_script","_law_start_here","_law_many","_law_most"] (Vl K):=by
 have sc:=SX;refine F.F.ok (k:=4) sc BY As
 .obtain⟨a,ns,many,rfl,_⟩:=h
  rfl
 obtain⟨a,ns,many,rfl,hS,hm1,hm4,q⟩:=h;refine⟨_,(AL (Aj (CH [".0","_law_k","_law_many","_law_most","_law_script","_law_start_here"] 1 [none,none,some 2,some 3,some 0,some 1] (C4 rfl A3 (AA IN AB)) F9 (fun _ _ _ _ _=>(AZ Ji XT hr rfl (AA (Cu (AA (AZ Bm Dr hr rfl (AA (pv 4) (AA (Ae Cf (pv 5) Fa) AB))) AB)) (AA IN (AA (pv 3) AB)))))))),?_⟩;refine⟨_,rfl,(many:Int),rfl,by lia,by lia,fun D hD=>Bo (n:=(many:Int).toNat) (fun i ys H'=>AK H H'/\∃uss:List (List IT.Tm),uss.length=i/\(∀us∈uss,KD many us)/\AW D H' (uss.map J6) ys) ?_ ?_ ?_⟩
 .exact⟨AO hD _,[],rfl,fun _ z=>(bC z).elim,.nil⟩
 .rintro i ys H0 hi ⟨e0,uss,R,I,hd⟩ g;refine⟨hi,Bt (n:=60) (by rw[hd.len,(Ah)];lia) AS,fun x H' y=>?_⟩;obtain⟨rfl,rfl⟩:=y;unfold B0;refine Ba ⟨_,rfl,_,rfl,_,rfl,_,_,rfl,rfl,a,ns,_,rfl,e0.seq hS,by lia,by lia,fun cell=>?_⟩;refine⟨BX (show 1<=60 by decide),fun l Z=>?_⟩;have M:=AO Z (.lst [.int cell]);have Y:upd H' l (.lst [.int cell]) l=some (.lst [.int cell]):=AM;have nl:D≠l:=AR g Z;have hln:∀o,H l≠some o:=fun o z=>by rw[e0 _ _ z]at Z;cases Z
  have dl:AW l (upd H' l (.lst [.int cell])) (uss.map J6) ys:=(HP Z hd).same M;generalize upd H' l (.lst [.int cell])=H1 at M Y dl;refine⟨_,rfl,_,rfl,l,cell,many,rfl,Y,hm1,hm4,fun v H2 us e2 ok dt=>?_⟩;have hD2:H2 D=some Id:=e2 _ _ nl (M _ _ g);have k1:AW D H2 ((uss++[us]).map J6) (ys++[v]):=by
   rw[(A4)];exact(Kw e2 (hd.same M) dl).app (.cons (dt D _ (M _ _ g)) .nil)
  refine⟨hD2,BG hi ⟨fun b o z=>?_,uss++[us],by simp[R],fun u U=>?_,.but .upd k1⟩⟩
  .rw[AN (AR z hD)];exact e2 _ _ (fun zz=>hln o (zz ▸ z)) (M _ _ (e0 _ _ z))
  .rcases aQ.mp U with U|U
   .exact I u U
   .rw[List.mem_singleton.mp U];exact ok
 .rintro ys H0 ⟨e0,uss,R,I,hd⟩ g;exact⟨aH _,q _ H0 uss e0 AC I (.lst g (CT hd))⟩
end
def Tc(r:Rat):Prop:=FM.Fits r 3/\r.den<=6
def OJ(l:AD)(g:Hp)(i:Nat)(ys:uD)(H':Hp):Prop:=SameBut l g H'/\(∃y,H' l=some (.lst [.int y]))/\ys.length=i/\∃rs:List Rat,rs.length=i/\(∀r∈rs,Tc r)/\Aq H' (AV rs) ys
def WR{l D:AD}{g:Hp}{y:Int}(M:g l=some (.lst [.int y]))(I:g D=none):OJ l g 0 [] (upd g D (.lst [])):=⟨.of (AO I _),⟨y,AO I _ _ _ M⟩,rfl,[],rfl,fun _ z=>(bC z).elim,.nil⟩
def QD{l D p:AD}{U H1 I:Hp}{yb Y:Int}{i:Nat}{ys:uD}{r:Rat}(hl:U l=some (.lst [.int yb]))(hD:U D=none)(d:OJ l U i ys H1)(hD1:H1 D=some Id)(e2:AK (upd H1 l (.lst [.int Y])) I)(hp:I p=some (.tup (IX r)))(h6:r.num.natAbs<=6)(h7:r.den<=6):I D=some Id/\OJ l U (i+1) (ys++[.ref p]) (upd I D (.lst (ys++[.ref p]))):=by
 obtain⟨e1,⟨y1,hl1⟩,Z,rs,hrl,hrs,dr⟩:=d;have nl:l≠D:=AR hl hD;have hl2:I l=some (.lst [.int Y]):=e2 _ _ AM;have g:SameBut l H1 I:=SameBut.upd.trans (.of e2);have R:=g _ _ nl.symm hD1;have d2:Aq I (AV (rs++[r])) (ys++[.ref p]):=by
  rw[J7];exact(GV hl1 g dr).app (.cons (Rg hp) .nil)
 refine⟨R,fun b o nb z=>?_,⟨Y,by rw[AN nl];exact hl2⟩,by simp[Z],rs++[r],by simp[hrl],fun x M=>?_,GV R .upd d2⟩
 .rw[AN (AR z hD)];exact g _ _ nb (e1 _ _ nb z)
 .rcases aQ.mp M with M|M
  .exact hrs x M
  .rw[List.mem_singleton.mp M];exact⟨⟨aJ h6 AS,Nat.lt_of_le_of_lt h7 AS⟩,h7⟩
def Vv(K:Fg):Sp:=fun vs H Q _=>∃(a:AD) (ns:List Int),vs=[.ref a,.int 5,.int 4]/\AU K H a (ns.map V.int)/\∀v H' t,AK H H'->DU H' (CM t) v->t.Ok 4->(∀r∈t.rs,∀q∈r,Tc q)->(∀q∈t.ls,Tc q)->Q v H'
section
variable{P:F0b}{w:F0c}{K:Fg}{mg:tm}{base:Heap}{f g1 g2:AD}{fd gd1 gd2:F0a}
def UZ:Ab ["_law_script","_law_start_here","_law_most","_law_size","_law_rows","_law_k","_law_pile"] ["_law_script","_law_start_here","_law_most"] (AQ K9):=Be
def S9(F:Fn K mg "_law_table" K9 ["_law_script","_law_start_here","_law_most"] f fd)(Bm:Fn K mg "_law_cell" EM ["_law_script","_law_k"] g1 gd1)(EN:Fn K mg "_law_part" Jh ["_law_pile"] g2 gd2) (Dr:AH P w K mg base Aa 3 g1 gd1 ["_law_script","_law_k"] (PB K))(Jk:AH P w K mg base Aa 3 g2 gd2 ["_law_pile"] SY)(A3:mg "range" = none):AH P w K mg base Aa 4 f fd ["_law_script","_law_start_here","_law_most"] (Vv K):=by
 have sc:=UZ;refine F.F.ok (k:=3) sc BY (fun cdv A outer s H vs Q E g h=>?_)
 .obtain⟨a,ns,rfl,_⟩:=h
  rfl
 obtain⟨a,ns,rfl,hS,q⟩:=h;refine⟨_,(AG (AX (i:=3) sc.nd rfl AT (Ae Cf AJ (Ae Mg (AZ Bm Dr g rfl (AA FS (AA Fa AB))) IN)))
 (AG (AX (i:=4) sc.nd rfl AT (Cu AB))
 (AG (Bg aM rfl (C4 rfl A3 (AA (pv 3) AB)) (An (i:=5) sc.nd rfl AT)
  (AG (AX (i:=6) sc.nd rfl (Or.inr rfl) (Cu (AA (AZ Bm Dr g rfl (AA FS (AA (Ae Cf (Ae Cf Fa AJ) (pv 5)) AB))) AB)))
  (AL (BK (Ij ag au av EX (pv 4) (AA (CH [".0","_law_j","_law_pile"] 1 [none,none,some 6] (C4 rfl A3 (AA (pv 5) AB)) F9 (fun _ _ _ _ _=>(AZ EN Jk g rfl (AA IN AB)))) AB))))))
 (AG (AX (i:=6) sc.nd rfl (Or.inr rfl) (Cu (AA (AZ Bm Dr g rfl (AA FS (AA (Ae Cf (Ae Cf Fa AJ) IN) AB))) AB)))
 (AL (Aj (Eh (AA (pv 4) (AA (CH [".0","_law_j","_law_pile"] 1 [none,none,some 6] (C4 rfl A3 (AA (pv 3) AB)) F9 (fun _ _ _ _ _=>(AZ EN Jk g rfl (AA IN AB)))) AB))))))))),?_⟩
 refine⟨_,rfl,_,rfl,a,ns,5,rfl,hS,by decide,by decide,fun x0=>⟨_,rfl,_,_,rfl,rfl,(by decide:(4:Int)≠0),_,_,rfl,rfl,?_⟩⟩;obtain⟨size,hs1,hs4,es⟩:∃size:Nat,1<=size/\size<=4/\1+x0.fmod 4=(size:Int):=by
  have e:=Int.fmod_eq_emod_of_nonneg x0 (show(0:Int)<=4 by decide);exact⟨(1+x0.fmod 4).toNat,by lia,by lia,by lia⟩
 rw[show((fun i j:Int=>V.int (i+j)) 1 (x0.fmod 4))=V.int (size:Int) from bA V.int es];refine⟨BX (show 0<=60 by decide),fun R hR=>?_⟩;have e1:=AO hR (.lst []);have hR1:upd H R (.lst []) R=some (.lst []):=AM;generalize upd H R (.lst [])=H1 at e1 hR1;refine⟨_,rfl,(size:Int),rfl,by lia,by lia,GY (n:=(size:Int).toNat) (fun i σ H'=>∃(r5 r6:Option V) (rs:List (List Rat)) (xs:IR),σ=[some (.ref a),some (.int 5),some (.int 4),some (.int (size:Int)),some (.ref R),r5,r6]/\AK H H'/\H' R=some (.lst xs)/\AW R H' (BU rs) xs/\rs.length=i/\(∀(j:Nat) r,rs[j]? = some r->r.length=j)/\∀r∈rs,∀q∈r,Tc q) ?_ ?_ ?_⟩
 .exact⟨_,_,[],[],rfl,e1,hR1,.nil,rfl,fun j r z=>by simp at z,fun _ z=>(bC z).elim⟩
 .rintro i σ H2 hi ⟨r5,r6,rs,xs,rfl,e2,U,dx,hrl,hrj,hrf⟩;refine⟨_,rfl,_,rfl,_,_,rfl,rfl,_,rfl,_,_,rfl,rfl,a,ns,_,rfl,e2.seq hS,by lia,by lia,fun cell=>⟨BX (show 1<=60 by decide),fun l hl=>?_⟩⟩;have e3:=AO hl (.lst [.int cell]);have I:upd H2 l (.lst [.int cell]) l=some (.lst [.int cell]):=AM;generalize upd H2 l (.lst [.int cell])=H3 at e3 I;have hxl:xs.length=i:=by rw[dx.len,Hz,hrl]
  refine⟨_,rfl,.inl ⟨rfl,_,AU.of (e3 _ _ U)⟩,_,rfl,0+(i:Int),rfl,by lia,by lia,fun D hD=>Bo (n:=(0+(i:Int)).toNat) (OJ l H3) (WR I hD) ?_ ?_⟩
  .rintro j ys Z hj d M;refine⟨hj,Bt (n:=60) (by rw[d.2.2.1];lia) AS,fun x H' y=>?_⟩;obtain⟨rfl,rfl⟩:=y;obtain⟨y1,hl1⟩:=d.2.1;unfold B0;refine Ba ⟨_,rfl,l,y1,rfl,hl1,fun p r y2 H5 Y hp r6 r7=>?_⟩;obtain⟨k1,k2⟩:=QD I hD d M Y hp r6 r7;exact⟨k1,BG hj k2⟩
  .rintro ys Z ⟨e4,_,hyl,qs,hql,hqs,dq⟩ M;have E4:AK H2 Z:=fun b o z=>e4 _ _ (AR z hl) (e3 _ _ z);have hR4:=E4 _ _ U;have nD:D≠R:=fun z=>by subst z;rw[e3 _ _ U]at hD;cases hD
   refine⟨aH _,R,xs,_,rfl,rfl,hR4,Bt (n:=60) AC AS,?_⟩;have u:SameBut R Z (upd Z R (.lst (xs++[.ref D]))):=.upd;refine⟨_,_,rs++[qs],xs++[.ref D],rfl,fun b o z=>?_,AM,?_,by simp[hrl],fun j r g=>?_,fun r g=>?_⟩
   .rw[AN (AR z hR)];exact E4 _ _ (e2 _ _ z)
   .rw[BU,(A4)];exact .but u ((dx.same E4).app (.cons (eR hR4 nD M dq) .nil))
   .by_cases z:j<rs.length
    .rw[List.getElem?_append_left z]at g;exact hrj j r g
    .rw[List.getElem?_append_right AC]at g;have:=(aB.mp g).1;rw[(LL)]at this;rw[show j-rs.length=0 by lia]at g;cases g
     lia
   .rcases aQ.mp g with g|g
    .exact hrf r g
    .rw[List.mem_singleton.mp g];exact hqs
 .rintro σ H2 ⟨r5,r6,rs,xs,rfl,e2,U,dx,hrl,hrj,hrf⟩;refine⟨_,rfl,_,rfl,_,_,rfl,rfl,_,rfl,_,_,rfl,rfl,a,ns,_,rfl,e2.seq hS,by decide,by decide,fun cell=>⟨BX (show 1<=60 by decide),fun l hl=>?_⟩⟩;have e3:=AO hl (.lst [.int cell]);have I:upd H2 l (.lst [.int cell]) l=some (.lst [.int cell]):=AM;generalize upd H2 l (.lst [.int cell])=H3 at e3 I;refine⟨_,rfl,_,rfl,(size:Int),rfl,by lia,by lia,fun D hD=>Bo (n:=(size:Int).toNat) (OJ l H3) (WR I hD) ?_ ?_⟩
  .rintro j ys Z hj d M;refine⟨hj,Bt (n:=60) (by rw[d.2.2.1];lia) AS,fun x H' y=>?_⟩;obtain⟨rfl,rfl⟩:=y;obtain⟨y1,hl1⟩:=d.2.1;unfold B0;refine Ba ⟨_,rfl,l,y1,rfl,hl1,fun p r y2 H5 Y hp r6 r7=>?_⟩;obtain⟨k1,k2⟩:=QD I hD d M Y hp r6 r7;exact⟨k1,BG hj k2⟩
  .rintro ys Z ⟨e4,_,hyl,qs,hql,hqs,dq⟩ M;have E4:AK H2 Z:=fun b o z=>e4 _ _ (AR z hl) (e3 _ _ z);refine⟨aH _,BX (show 2<=60 by decide),fun t0 ht=>?_⟩;have Y:=AO ht (.tup [V.ref R,V.ref D]);have h5:upd Z t0 (.tup [V.ref R,V.ref D]) t0=some (.tup [V.ref R,V.ref D]):=AM;generalize upd Z t0 (.tup [V.ref R,V.ref D])=H5 at Y h5;exact q _ H5 ⟨rs,qs⟩ (e2.trans (E4.trans Y)) (oO h5 (Y _ _ (E4 _ _ U)) ((CT dx).same (E4.trans Y)) (Y _ _ M) (dq.same Y)) ⟨by show 1<=rs.length;lia,by show rs.length<=4;lia,by show qs.length=rs.length;lia,hrj⟩ hrf hqs
end
theorem Vo:∀ {ps:List Int},(∀p∈ps,(0:Int)<=p)->(ps.map PyData.int).all Hn=true
 |[],_=>rfl
 |p::ps,h=>by
  rw[(C0),List.all_cons,Vo (fun q g=>h q (aN _ g)),Bool.and_true,Hn];exact bV (h p aR)
def Sa.is{many:Nat}{t:IT.Tm}(h:Sa many t):Gw many (Pu t)=true:=by
 obtain⟨⟨U,_⟩,R,r,M,I,_,_⟩:=h;have hn:r.num≠0:=fun z=>I (Rat.num_eq_zero.mp z);rw[Pu,Gw,HD,Vo fun p g=>(R p g).1,(Ah),decide_eq_true (by rw[U]),M];show(true&&true&&(Ei (HH r) && !decide (r.num=0)))=true;rw[V3,decide_eq_false hn];rfl
theorem VV:∀ps:List Int,(ps.map PyData.int).map intD=ps
 |[]=>rfl
 |p::ps=>by rw[(C0),(C0),VV ps,intD]
def eM(t:IT.Tm):Vx (Pu t)=t.1:=by rw[Pu,Vx,VC,VV]
def KD.is{many:Nat}{us:List IT.Tm}(h:KD many us):Fu many (.list (us.map Pu))=true:=by
 obtain⟨_,I,g⟩:=h;rw[Fu,(Ht)];intro k hk;rw[List.mem_range,(Ah)]at hk;unfold IL;rw[(BC),List.getElem?_eq_getElem hk,Option.map_some];simp only;rw[(I _ (aq hk)).is,(Fo)];by_cases z:k=0
 .rw[decide_eq_true z,Bool.true_or]
 .rw[(BC),List.getElem?_eq_getElem (show k-1<us.length by lia),Option.map_some];simp only;rw[eM,eM,List.pairwise_iff_getElem.mp g (k-1) k AC hk AC,Bool.or_true]
def gm{many:Nat}{uss:List (List IT.Tm)}(I:uss.length=many)(h1:1<=many)(h:∀us∈uss,KD many us):DH (.list ((uss.map fun us=>us.map Ll).map Bz))=true:=by
 have e:(uss.map fun us=>us.map Ll).map Bz=uss.map J6:=by
  rw[(HM)];exact bP fun us g=>(X0 (h us g)).symm
 rw[e,DH,(Ah),I,decide_eq_false AC,Bool.not_false,(Fo),(Ht)];intro e M;obtain⟨us,g,rfl⟩:=aL.mp M;exact(h us g).is
section
variable{P:F0b}{w:F0c}{K:Fg}{mg:tm}{base:Heap}{f:AD}{fd:F0a}
def OL:Ab ["_law_script","_law_k","_law_cell_here","_law_number","_law_found","_law_turn"] ["_law_script","_law_k"] (AQ EM):=Be
noncomputable def MK:DF :=
 (Bd (Dg 2 (fC (.int 0)))
 (Bd (Gp (Ca (Ho fun i j=>decide (i<j)) (nm 1) (Cw Qj (AF (nm 0) Af)))
  (Dg 2 (Au ES (nm 0) (nm 1)))
  D6)
 (Bd (Gp (Ca (Ho fun i j=>decide (j<=i)) (nm 2) (Au Lb (fC (.int 10)) (fC (.int 18))))
  (FE (Au Gj (Au Zf (nm 2) (Au Lb (fC (.int 10)) (fC (.int 18)))) (Au Lb (fC (.int 10)) (fC (.int 60)))))
  D6)
 (Bd (Dg 3 (Au Gj (Au FG (Au FG (Au Ek (nm 2) (fC (.int 48271))) (Au Ek (nm 1) (fC (.int 69621)))) (fC (.int 11))) (fC (.int 2147483629))))
 (Bd (Dg 4 (fC (.int 0)))
 (Bd (NJ (Kp QV (AF (fC (.int 8)) Af)) (VP 5)
  (Bd (Dg 3 (Au Gj (Au FG (Au FG (Au Ek (nm 3) (nm 3)) (Au Ek (fC (.int 69621)) (nm 5))) (fC (.int 7))) (fC (.int 2147483587))))
  (Dg 4 (Au FG (Au Ek (nm 4) (fC (.int 2147483563))) (Au Gj (Au Ek (nm 3) (nm 3)) (fC (.int 2147483563)))))))
 (FE (nm 4))))))))
noncomputable def Dy:MD:=M7 ["_law_script","_law_k"] ["_law_script","_law_k","_law_cell_here","_law_number","_law_found","_law_turn"] (MK)
def Ww{k:Nat}(F:Fn K mg "_law_cell" EM ["_law_script","_law_k"] f fd)(g:mg "len" = none)(I:mg "range" = none):AH P w K mg base Aa (k+1) f fd ["_law_script","_law_k"] (HA (Dy)):=ie F OL fun cdv A outer s H E M=>by
 have sc:=OL;exact(Aw (Cq (i:=2) sc.nd rfl AT Ai)
 (Aw (He (De jJ (AI Fa) (NS Rx rfl g af (AE (AI FS) Ad)) (Ap _))
  (B4 (Cq (i:=2) sc.nd rfl AT (Ew (AI FS) (AI Fa) By)))
  En)
 (Aw (He (De pf (AI IN) (BB Mo Ai Ai) (Ap _))
  (B4 (Er (BB FT (BB SV (AI IN) (BB Mo Ai Ai)) (BB Mo Ai Ai))))
  En)
 (Aw (Cq (i:=3) sc.nd rfl AT (BB FT (BB Ec (BB Ec (BB JA (AI IN) Ai) (BB JA (AI Fa) Ai)) Ai) Ai))
 (Aw (Cq (i:=4) sc.nd rfl AT Ai)
 (Aw (Rh aM rfl (Ta rfl I (AE Ai Ad)) (S0 (An (i:=5) sc.nd rfl AT))
  (Aw (Cq (i:=3) sc.nd rfl AT (BB FT (BB Ec (BB Ec (BB JA (AI (pv 3)) (AI (pv 3))) (BB JA Ai (AI (pv 5)))) Ai) Ai))
  (B4 (Cq (i:=4) sc.nd rfl AT (BB Ec (BB JA (AI (pv 4)) Ai) (BB FT (BB JA (AI (pv 3)) (AI (pv 3))) Ai))))))
 (B4 (Er (AI (pv 4))))))))))
end
abbrev My(ns:List Int):PD:=LC ns
def eo{ns:t6}{k:Nat}(h:k<ns.length):Fe (ns.map PyData.int) (k:Int)=some (.int ns[k]):=FZ (by rw[(BC),List.getElem?_eq_getElem h];rfl)
def kM(ns:t6)(k:Nat)(hk:k<1000):∃x:Int,Dy [My ns,.int k]=some (.int x):=by
 suffices h:∃x:Int,MK [.d (My ns),.d (.int k),.no,.no,.no,.no]=some (.rt (.int x)) by
  obtain⟨x,R⟩:=h;exact⟨x,O8 rfl R⟩
 have M:∃c:Int,(Gp (Ca (Ho fun i j=>decide (i<j)) (nm 1) (Cw Qj (AF (nm 0) Af))) (Dg 2 (Au ES (nm 0) (nm 1))) D6) [.d (My ns),.d (.int k),.d (.int 0),.no,.no,.no]=some (.nx [.d (My ns),.d (.int k),.d (.int c),.no,.no,.no]):=by
  by_cases h:k<ns.length
  .refine⟨ns[k],U1 ?_ (Ea (y:=.int ns[k]) (eo h))⟩;show some (decide ((k:Int)<((ns.map PyData.int).length:Nat)))=_;rw[(Ah),decide_eq_true AC]
  .refine⟨0,GI ?_ rfl⟩;show some (decide ((k:Int)<((ns.map PyData.int).length:Nat)))=_;rw[(Ah),decide_eq_false AC]
 obtain⟨c,M⟩:=M;unfold MK;have I:Lb (.int 10) (.int 18)=some (.int (10^18)):=VM (n:=18) AS AS;have U:Lb (.int 10) (.int 60)=some (.int (10^60)):=VM (n:=60) AS AS;by_cases h:(10:Int)^18<=c
 .refine⟨(c-10^18) % 10^60,BN rfl (BN M (j7 (U1 ?_ (Pe ?_))))⟩
  .refine Cn (x:=.int c) (y:=.int (10^18)) rfl I ?_;show some (PyData.bool (decide ((10:Int)^18<=c)))=_;rw[decide_eq_true h]
  .exact BI (BI (x:=.int c) rfl I rfl) U (mod_is AS)
 .have e1:=Int.emod_nonneg (c*48271+(k:Int)*69621+11) (show(2147483629:Int)≠0 by decide);have Z:=Int.emod_lt_of_pos (c*48271+(k:Int)*69621+11) (show(0:Int)<2147483629 by decide);have step:∃g,(NJ (Kp QV (AF (fC (.int 8)) Af)) (VP 5)
    (Bd (Dg 3 (Au Gj (Au FG (Au FG (Au Ek (nm 3) (nm 3)) (Au Ek (fC (.int 69621)) (nm 5))) (fC (.int 7))) (fC (.int 2147483587))))
    (Dg 4 (Au FG (Au Ek (nm 4) (fC (.int 2147483563))) (Au Gj (Au Ek (nm 3) (nm 3)) (fC (.int 2147483563))))))) [.d (My ns),.d (.int k),.d (.int c),.d (.int ((c*48271+(k:Int)*69621+11) % 2147483629)),.d (.int 0),.no]=some (.nx g) /\
    ∃(a b:Int) (l:L),g=[.d (My ns),.d (.int k),.d (.int c),.d (.int a),.d (.int b),l]/\0<=a/\a<2147483629:=by
   refine WS (xs:=MC 0 8) (fun _ g=>∃(a b:Int) (l:L),g=[.d (My ns),.d (.int k),.d (.int c),.d (.int a),.d (.int b),l]/\0<=a/\a<2147483629) (Zr (j:=8) rfl AS AS) ⟨_,_,_,rfl,e1,Z⟩ ?_;rintro i x δ R ⟨a,b,l,rfl,a0,a1⟩;obtain⟨hi,_⟩:=YT R;subst hi;have f1:=Int.emod_nonneg (a*a+69621*(0+(i:Int))+7) (show(2147483587:Int)≠0 by decide);have f2:=Int.emod_lt_of_pos (a*a+69621*(0+(i:Int))+7) (show(0:Int)<2147483587 by decide);refine⟨_,_,rfl,BN (Ea (y:=.int ((a*a+69621*(0+(i:Int))+7) % 2147483587)) ?_) (Ea (y:=.int (b*2147483563+((a*a+69621*(0+(i:Int))+7) % 2147483587)*((a*a+69621*(0+(i:Int))+7) % 2147483587) % 2147483563)) ?_),⟨_,_,_,rfl,f1,by lia⟩⟩
   .exact BI (BI (BI (BI (x:=.int a) (y:=.int a) rfl rfl (mul_r AC)) (BI (x:=.int 69621) (y:=.int (0+(i:Int))) rfl rfl (qc AS)) rfl) rfl rfl) rfl (mod_is AS)
   .exact BI (BI (x:=.int b) rfl rfl (mul_r AS)) (BI (BI (x:=.int ((a*a+69621*(0+(i:Int))+7) % 2147483587)) (y:=.int ((a*a+69621*(0+(i:Int))+7) % 2147483587)) rfl rfl (mul_r AC)) rfl (mod_is AS)) rfl
  obtain⟨g,Y,a,b,l,rfl,_⟩:=step;refine⟨b,BN rfl (BN M (BN (GI ?_ rfl) (BN (Ea ?_) (BN rfl (BN Y rfl)))))⟩
  .refine Cn (x:=.int c) (y:=.int (10^18)) rfl I ?_;show some (PyData.bool (decide ((10:Int)^18<=c)))=_;rw[decide_eq_false h]
  .exact BI (BI (BI (BI (x:=.int c) rfl rfl (mul_r AS)) (BI (x:=.int k) rfl rfl (mul_r AS)) rfl) rfl rfl) rfl (mod_is AS)
section
variable{P:F0b}{w:F0c}{K:Fg}{mg:tm}{base:Heap}{f:AD}{fd:F0a}
def Jz:Ab FI FI (AQ DR):=Be
noncomputable def HK(I:MD)(g:AD):Gm :=
 (WC (ZF (SE (Cw I (AF (nm 0) Af))))
  (OQ g (fC (.str (Str.ofString "a table is a tuple of rows, the k-th of k fractions, and a last of as many as there are rows"))))
  (fun δ=>some (.inl (.nx δ))))
noncomputable def Bu(I:MD)(g:AD):rW:=GF FI FI (HK I g)
def OP{k:Nat}{U:MD}{g:AD}(F:Fn K mg "refuse_no_table" DR FI f fd) {M:AD}{R:F0a}(Fs:Fn K mg "is_table" Kn FI M R)(Z:AH P w K mg base Aa k M R FI (HA U))(I:Exc K mg "NoTable" g):AH P w K mg base (CQ P w) (k+1) f fd FI (Dq (Bu U g)):=RB F Jz fun cdv A outer s H E Y=>by
 have sc:=Jz;exact(GC (VE (W4 (OO (Ff Fs Z Y rfl (AE (AI FS) Ad))))
  (GC (by exact NB I VB Ce))
  PR))
def JF:Ab FI FI (AQ B3):=Be
noncomputable def GW(I:MD)(g:AD):Gm :=
 (WC (ZF (SE (Cw I (AF (nm 0) Af))))
  (OQ g (fC (.str (Str.ofString "a change is a list of n polynomials in n unknowns, n from 1 on"))))
  (fun δ=>some (.inl (.nx δ))))
noncomputable def BS(I:MD)(g:AD):rW:=GF FI FI (GW I g)
def Np{k:Nat}{U:MD}{g:AD}(F:Fn K mg "refuse_no_change" B3 FI f fd) {M:AD}{R:F0a}(FH:Fn K mg "is_change" Jo FI M R)(Z:AH P w K mg base Aa k M R FI (HA U))(I:Exc K mg "NoChange" g):AH P w K mg base (CQ P w) (k+1) f fd FI (Dq (BS U g)):=RB F JF fun cdv A outer s H E Y=>by
 have sc:=JF;exact(GC (VE (W4 (OO (Ff FH Z Y rfl (AE (AI FS) Ad))))
  (GC (by exact NB I VB Ce))
  PR))
def L4:Ab [] [] (AQ Jd):=Be
noncomputable def MW(g:AD):Gm :=
 (OQ g (fC (.str (Str.ofString "a start is a list of as many fractions as there are unknowns"))))
noncomputable def Bn(g:AD):rW:=GF [] [] (MW g)
def RJ{k:Nat}{g:AD}(F:Fn K mg "refuse_start" Jd [] f fd)(I:Exc K mg "NoStart" g):AH P w K mg base (CQ P w) (k+1) f fd [] (Dq (Bn g)):=RB F L4 fun cdv A outer s H E M=>by
 have sc:=L4;exact(GC (by exact NB I VB Ce))
def J5:Ab EQ EQ (AQ CF):=Be
noncomputable def FK(g:MD)(Bn:rW):Gm :=
 (WC (i7 (ZF (SE (Cw g (AF (nm 0) Af)))) (Ca (ER true) (Cw Qj (AF (nm 0) Af)) (nm 1)))
  (GN Bn Af fun _ δ=>.nx δ)
  (fun δ=>some (.inl (.nx δ))))
noncomputable def Bb(g:MD)(Bn:rW):rW:=GF EQ EQ (FK g Bn)
def OS{k:Nat}{Y:MD}{Bn:rW}(F:Fn K mg "refuse_no_start" CF EQ f fd) {U:AD}{R:F0a}(BV:Fn K mg "are_fractions" EB FI U R)(CL:AH P w K mg base Aa k U R FI (HA Y)) {I:AD}{M:F0a}(G8:Fn K mg "refuse_start" Jd [] I M)(Z:AH P w K mg base (CQ P w) k I M [] (Dq Bn))(A9:mg "len" = none):AH P w K mg base (CQ P w) (k+1) f fd EQ (Dq (Bb Y Bn)):=RB F J5 fun cdv A outer s H E g=>by
 have sc:=J5;exact(GC (VE (DW.dt (i4 (W4 (OO (Ff BV CL g rfl (AE (AI FS) Ad)))) (RK (De (L7 (by have:=g.units;exact this)) (NS Rx rfl A9 af (AE (AI FS) Ad)) (AI Fa) (Ap _)))))
  (GC (by exact gq G8 Z g Jm (fun h=>BK h)))
  PR))
def Ke:Ab Go Go (AQ CU):=Be
noncomputable def Ed(BS:rW)(Bb:rW)(Bu:rW):Gm :=
 (Iq (GN Bu (AF (nm 0) Af) fun _ δ=>.nx δ)
 (Iq (GN BS (AF (nm 1) Af) fun _ δ=>.nx δ)
 (GN Bb (AF (nm 2) (AF (Cw Qj (AF (nm 1) Af)) Af)) fun _ δ=>.nx δ)))
noncomputable def LA(BS:rW)(Bb:rW)(Bu:rW):rW:=GF Go Go (Ed BS Bb Bu)
def Pk{k:Nat}{BS:rW}{Bb:rW}{Bu:rW}(F:Fn K mg "refuse_no_step" CU Go f fd) {R:AD}{Z:F0a}(BE:Fn K mg "refuse_no_change" B3 FI R Z)(B2:AH P w K mg base (CQ P w) k R Z FI (Dq BS)) {M:AD}{Y:F0a}(BO:Fn K mg "refuse_no_start" CF EQ M Y)(CD:AH P w K mg base (CQ P w) k M Y EQ (Dq Bb)) {I:AD}{U:F0a}(CC:Fn K mg "refuse_no_table" DR FI I U)(EI:AH P w K mg base (CQ P w) k I U FI (Dq Bu))(A9:mg "len" = none):AH P w K mg base (CQ P w) (k+1) f fd Go (Dq (LA BS Bb Bu)):=RB F Ke fun cdv A outer s H E g=>by
 have sc:=Ke;exact(Gb (by exact Gz CC EI g Jm (by exact(AE (AI FS) Ad)) (fun h=>BK h))
 (Gb (by exact Gz BE B2 g Jm (by exact(AE (AI Fa) Ad)) (fun h=>BK h))
 (GC (by exact Gz BO CD g Jm (by exact(AE (AI IN) (AE (NS Rx rfl A9 af (AE (AI Fa) Ad)) Ad))) (fun h=>BK h)))))
def J4:Ab ["most"] ["most"] (AQ CG):=Be
noncomputable def HJ(g:AD):Gm :=
 (WC (i7 (Ca (Ho fun i j=>decide (i<j)) (nm 0) (fC (.int 0))) (Ca (Ho fun i j=>decide (j<i)) (nm 0) (fC (.int 7))))
  (OQ g (fC (.str (Str.ofString "rows are told up to the powers 0 to 7"))))
  (fun δ=>some (.inl (.nx δ))))
noncomputable def Kc(g:AD):rW:=GF ["most"] ["most"] (HJ g)
def Om{k:Nat}{I:AD}(F:Fn K mg "refuse_too_many" CG ["most"] f fd){g:Tok}(R:mg "MOST_POWER" = some (.int 7 g))(M:Exc K mg "TooMany" I):AH P w K mg base (CQ P w) (k+1) f fd ["most"] (Dq (Kc I)):=RB F J4 fun cdv A outer s H E U=>by
 have sc:=J4;exact(GC (VE (DW.dt (i4 (De jJ (AI FS) Ai (Ap _)) (RK (De ZC (AI FS) (gC rfl R) (Ap _)))))
  (GC (by exact NB M VB Ce))
  PR))
def MU:Ab ["_law_caught","_law_some","_law_names","_law_found"] ["_law_caught"] (AQ Ka):=Be
noncomputable def Uo(U:Fk)(R:Fk)(kt_NoLine:Fk)(kt_NoName:Fk)(kt_NoParts:Fk)(kt_NoStart:Fk)(Z:Fk)(kt_NoText:Fk)(kt_NoTree:Fk)(I:Fk)(M:Fk)(Y:Fk)(g:Fk):DF :=
 (Bd (Gp (Ca (lW false) (nm 0) (fC .none))
  (FE (BQ Af))
  D6)
 (Bd (Dg 1 (BQ (AF (IU U (nm 0)) (AF (IU kt_NoTree (nm 0)) (AF (IU R (nm 0)) Af)))))
 (Bd (Dg 1 (Au FG (nm 1) (BQ (AF (IU kt_NoStart (nm 0)) (AF (IU Z (nm 0)) (AF (IU kt_NoName (nm 0)) Af))))))
 (Bd (Dg 1 (Au FG (nm 1) (BQ (AF (IU I (nm 0)) (AF (IU M (nm 0)) (AF (IU kt_NoParts (nm 0)) Af))))))
 (Bd (Dg 1 (Au FG (nm 1) (BQ (AF (IU Y (nm 0)) (AF (IU kt_NoText (nm 0)) (AF (IU kt_NoLine (nm 0)) Af))))))
 (Bd (Dg 2 (BQ (AF (fC (.str (Str.ofString "bottom"))) (AF (fC (.str (Str.ofString "tree"))) (AF (fC (.str (Str.ofString "change"))) (AF (fC (.str (Str.ofString "start"))) (AF (fC (.str (Str.ofString "table"))) (AF (fC (.str (Str.ofString "name"))) (AF (fC (.str (Str.ofString "weighing"))) (AF (fC (.str (Str.ofString "alike"))) (AF (fC (.str (Str.ofString "parts"))) (AF (fC (.str (Str.ofString "many"))) (AF (fC (.str (Str.ofString "text"))) (AF (fC (.str (Str.ofString "line"))) Af))))))))))))))
 (Bd (Dg 3 (O9 (Hx 1 2) (SE (nm 2)) (nm 1) [none,none,none] (Kp zip2 (AF (nm 2) (AF (nm 1) Af)))))
 (Bd (Gp (SE (IU g (nm 0)))
  (FE (nm 3))
  D6)
 (FE (BQ (AF (fC (.str (Str.ofString "none"))) Af)))))))))))
noncomputable def Cv(U:Fk)(R:Fk)(kt_NoLine:Fk)(kt_NoName:Fk)(kt_NoParts:Fk)(kt_NoStart:Fk)(Z:Fk)(kt_NoText:Fk)(kt_NoTree:Fk)(I:Fk)(M:Fk)(Y:Fk)(g:Fk):MD:=M7 ["_law_caught"] ["_law_caught","_law_some","_law_names","_law_found"] (Uo U R kt_NoLine kt_NoName kt_NoParts kt_NoStart Z kt_NoText kt_NoTree I M Y g)
def S3{k:Nat}{Y:AD}{U:AD}{C_NoLine:AD}{C_NoName:AD}{C_NoParts:AD}{C_NoStart:AD}{C_NoTable:AD}{C_NoText:AD}{C_NoTree:AD}{g:AD}{R:AD}{Z:AD}{kt_NoBottom:Fk}{kt_NoChange:Fk}{kt_NoLine:Fk}{kt_NoName:Fk}{kt_NoParts:Fk}{kt_NoStart:Fk}{kt_NoTable:Fk}{kt_NoText:Fk}{kt_NoTree:Fk}{M:Fk}{kt_NotAlike:Fk}{kt_TooMany:Fk}{I:Fk}(F:Fn K mg "_law_called" Ka ["_law_caught"] f fd)(Li:mg "ValueError" = none)(AY:mg "isinstance" = none)(Et:mg "zip" = none)(M5:mg "NoBottom" = some (.ref Y))(Ko:mg "NoChange" = some (.ref U))(Qh:mg "NoLine" = some (.ref C_NoLine))(Qc:mg "NoName" = some (.ref C_NoName))(OM:mg "NoParts" = some (.ref C_NoParts))(Lr:mg "NoStart" = some (.ref C_NoStart))(Lk:mg "NoTable" = some (.ref C_NoTable))(QX:mg "NoText" = some (.ref C_NoText))(Qt:mg "NoTree" = some (.ref C_NoTree))(K6:mg "NoWeighing" = some (.ref g))(Mw:mg "NotAlike" = some (.ref R))(L3:mg "TooMany" = some (.ref Z))(kh_NoBottom:∀C b,kt_NoBottom C=some b->CV K C/\PySem.W.kitOne K IO (Cr (.ref Y))=some b)(kh_NoChange:∀C b,kt_NoChange C=some b->CV K C/\PySem.W.kitOne K IO (Cr (.ref U))=some b)(kh_NoLine:∀C b,kt_NoLine C=some b->CV K C/\PySem.W.kitOne K IO (Cr (.ref C_NoLine))=some b)(kh_NoName:∀C b,kt_NoName C=some b->CV K C/\PySem.W.kitOne K IO (Cr (.ref C_NoName))=some b)(kh_NoParts:∀C b,kt_NoParts C=some b->CV K C/\PySem.W.kitOne K IO (Cr (.ref C_NoParts))=some b)(kh_NoStart:∀C b,kt_NoStart C=some b->CV K C/\PySem.W.kitOne K IO (Cr (.ref C_NoStart))=some b)(kh_NoTable:∀C b,kt_NoTable C=some b->CV K C/\PySem.W.kitOne K IO (Cr (.ref C_NoTable))=some b)(kh_NoText:∀C b,kt_NoText C=some b->CV K C/\PySem.W.kitOne K IO (Cr (.ref C_NoText))=some b)(kh_NoTree:∀C b,kt_NoTree C=some b->CV K C/\PySem.W.kitOne K IO (Cr (.ref C_NoTree))=some b)(kh_NoWeighing:∀C b,M C=some b->CV K C/\PySem.W.kitOne K IO (Cr (.ref g))=some b)(kh_NotAlike:∀C b,kt_NotAlike C=some b->CV K C/\PySem.W.kitOne K IO (Cr (.ref R))=some b)(kh_TooMany:∀C b,kt_TooMany C=some b->CV K C/\PySem.W.kitOne K IO (Cr (.ref Z))=some b)(kh_ValueError:∀C b,I C=some b->CV K C/\PySem.W.kitOne K IO (Cr (.ty "ValueError"))=some b):AH P w K mg base Aa (k+1) f fd ["_law_caught"] (HA (Cv kt_NoBottom kt_NoChange kt_NoLine kt_NoName kt_NoParts kt_NoStart kt_NoTable kt_NoText kt_NoTree M kt_NotAlike kt_TooMany I)):=ie F MU fun cdv A outer s H E hr=>by
 have sc:=MU;exact(Aw (He (De p7 (AI FS) OE (Ap _))
  (B4 (Er (BF Ad)))
  En)
 (Aw (Cq (i:=1) sc.nd rfl AT (BF (AE (FR kh_NoBottom Hq rfl AY (Dh (v:=.ref Y) rfl M5 rfl) (AI FS)) (AE (FR kh_NoTree Hq rfl AY (Dh (v:=.ref C_NoTree) rfl Qt rfl) (AI FS)) (AE (FR kh_NoChange Hq rfl AY (Dh (v:=.ref U) rfl Ko rfl) (AI FS)) Ad)))))
 (Aw (Cq (i:=1) sc.nd rfl AT (BB Ec (AI Fa) (BF (AE (FR kh_NoStart Hq rfl AY (Dh (v:=.ref C_NoStart) rfl Lr rfl) (AI FS)) (AE (FR kh_NoTable Hq rfl AY (Dh (v:=.ref C_NoTable) rfl Lk rfl) (AI FS)) (AE (FR kh_NoName Hq rfl AY (Dh (v:=.ref C_NoName) rfl Qc rfl) (AI FS)) Ad))))))
 (Aw (Cq (i:=1) sc.nd rfl AT (BB Ec (AI Fa) (BF (AE (FR kh_NoWeighing Hq rfl AY (Dh (v:=.ref g) rfl K6 rfl) (AI FS)) (AE (FR kh_NotAlike Hq rfl AY (Dh (v:=.ref R) rfl Mw rfl) (AI FS)) (AE (FR kh_NoParts Hq rfl AY (Dh (v:=.ref C_NoParts) rfl OM rfl) (AI FS)) Ad))))))
 (Aw (Cq (i:=1) sc.nd rfl AT (BB Ec (AI Fa) (BF (AE (FR kh_TooMany Hq rfl AY (Dh (v:=.ref Z) rfl L3 rfl) (AI FS)) (AE (FR kh_NoText Hq rfl AY (Dh (v:=.ref C_NoText) rfl QX rfl) (AI FS)) (AE (FR kh_NoLine Hq rfl AY (Dh (v:=.ref C_NoLine) rfl Qh rfl) (AI FS)) Ad))))))
 (Aw (Cq (i:=2) sc.nd rfl AT (BF (AE Ce (AE Ce (AE Ce (AE Ce (AE Ce (AE Ce (AE Ce (AE Ce (AE Ce (AE Ce (AE Ce (AE Ce Ad))))))))))))))
 (Aw (P8 (i:=3) [".0","_law_name","_law_truth"] 1 2 [none,none,none] sc.nd rfl rfl (WD rfl Et (AE (AI IN) (AE (AI Fa) Ad))) (fun _ _ _ _ _=>(jZ (OO (AI IN)))) (fun _ _ _ _ _=>(AI Fa)))
 (Aw (He (OO (FR kh_ValueError Hq rfl AY (FX (v:=.ty "ValueError") rfl Li PyProof.Rows.Boot.«ValueError» rfl) (AI FS)))
  (B4 (Er (AI (pv 3))))
  En)
 (B4 (Er (BF (AE Ce Ad))))))))))))
def Ng:Ab ["_law_which","_law_some","_law_most","_law_caught","e"] ["_law_which","_law_some","_law_most"] (AQ Ic):=Be
noncomputable def LQ(Cv:MD)(M:rW)(I:rW)(g:rW):DF :=
 (Bd (Dg 3 (fC .none))
 (Bd (U8 4
  (Il (UA (Ca (ER false) (nm 0) (fC (.int 0)))
  (Il (Jl M (AF (Au ES (nm 1) (fC (.int 1))) (AF (Au ES (nm 1) (fC (.int 2))) (AF (nm 2) Af))))
   KY)
  (Il (UA (Ca (ER false) (nm 0) (fC (.int 1)))
   (Il (Jl I (AF (Au ES (nm 1) (fC (.int 0))) (AF (Au ES (nm 1) (fC (.int 1))) (AF (Au ES (nm 1) (fC (.int 2))) (AF (nm 2) Af)))))
    KY)
   (Il (Jl g (AF (Au ES (nm 1) (fC (.int 0))) (AF (Au ES (nm 1) (fC (.int 1))) (AF (Au ES (nm 1) (fC (.int 2))) (AF (Jb (AF (fC (.int 1)) (AF (fC (.int 2)) Af))) Af)))))
    KY))
   KY))
  KY)
  (Dg 3 (nm 4)))
 (FE (Cw Cv (AF (nm 3) Af)))))
noncomputable def B8(Cv:MD)(M:rW)(I:rW)(g:rW):MD:=M7 ["_law_which","_law_some","_law_most"] ["_law_which","_law_some","_law_most","_law_caught","e"] (LQ Cv M I g)
def Us{k:Nat}{Cv:MD}{EG:rW}{Z:rW}{Y:rW}{g:AD}(F:Fn K mg "_law_flags" Ic ["_law_which","_law_some","_law_most"] f fd) {Nl:AD}{Mh:F0a}(Hh:Fn K mg "_law_called" Ka ["_law_caught"] Nl Mh)(KJ:AH P w K mg base Aa k Nl Mh ["_law_caught"] (HA Cv)) {Nm:AD}{Ma:F0a}(F0:Fn K mg "growth_rows" Hi ["change","start","most"] Nm Ma)(UY:AH P w K mg base (CQ P w) k Nm Ma ["change","start","most"] (Dq EG)) {P0:AD}{OI:F0a}(HW:Fn K mg "step_rows" Js ["table","change","start","most"] P0 OI)(XF:AH P w K mg base (CQ P w) k P0 OI ["table","change","start","most"] (Dq Z)) {UH:AD}{Ry:F0a}(Jy:Fn K mg "step_to" L8 ["table","change","start","length"] UH Ry)(eK:AH P w K mg base (CQ P w) k UH Ry ["table","change","start","length"] (Dq Y))(La:mg "GroveError" = some (.ref g))(I:∀ds C,EG ds=some (.inr C)->Eb K C g true)(M:∀ds C,Z ds=some (.inr C)->Eb K C g true)(R:∀ds C,Y ds=some (.inr C)->Eb K C g true):AH P w K mg base Aa (k+1) f fd ["_law_which","_law_some","_law_most"] (HA (B8 Cv EG Z Y)):=ie F Ng fun cdv A outer s H E U=>by
 have sc:=Ng;exact(Aw (Cq (i:=3) sc.nd rfl AT OE)
 (Aw (kQ (k:=4) (Mi (iR (De (Yx (by have:=U.units;exact this)) (AI FS) Ai (Ap _)) (Mi (Sl F0 UY U (by exact(AE (Ew (AI Fa) Ai By) (AE (Ew (AI Fa) Ai By) (AE (AI IN) Ad)))))
   Og) (Mi (iR (De (Yx (by have:=U.units;exact this)) (AI FS) Ai (Ap _)) (Mi (Sl HW XF U (by exact(AE (Ew (AI Fa) Ai By) (AE (Ew (AI Fa) Ai By) (AE (Ew (AI Fa) Ai By) (AE (AI IN) Ad))))))
    Og) (Mi (Sl Jy eK U (by exact(AE (Ew (AI Fa) Ai By) (AE (Ew (AI Fa) Ai By) (AE (Ew (AI Fa) Ai By) (AE (GZ (AE Ai (AE Ai Ad))) Ad))))))
    Og))
   Og))
  Og) sc.nd (B9.at (P:=fun C=>Eb K C g true) (B9.seq (B9.if (B9.seq (B9.call I) B9.nil) (B9.seq (B9.if (B9.seq (B9.call M) B9.nil) (B9.seq (B9.call R) B9.nil)) B9.nil)) B9.nil)) La (fun ea=>(B4 (Cq (i:=3) sc.nd rfl AT (AI (pv 4))))))
 (B4 (Er (Ff Hh KJ U rfl (AE (AI (pv 3)) Ad))))))
def cf:Ab ["_law_script","_law_many","_law_change_here","_law_start_here","_law_table_here","_law_cell_here","_law_most","_law_far","_law_none","_law_wrong","_law_rows","_law_last","_law_tables","_law_odd","_law_which","_law_dues","_law_bad"] ["_law_script"] (AQ RZ):=Be
noncomputable def SU(Dy:MD)(B8:MD):DF :=
 (Bd (Dg 5 (Cw Dy (AF (nm 0) (AF (fC (.int 12)) Af))))
 (Bd (Dg 6 (Au Gj (nm 5) (fC (.int 4))))
 (Bd (Dg 7 (Au ES (BQ (AF (fC (.int 8)) (AF (gz (fC (.int 1))) (AF (Au FG (fC (.int 9)) (Au Gj (nm 5) (Au Lb (fC (.int 10)) (fC (.int 39))))) (AF (Au Zf (Au Zf (fC (.int 0)) (fC (.int 2))) (Au Gj (nm 5) (Au Lb (fC (.int 10)) (fC (.int 39))))) Af))))) (Au Gj (Au QT (nm 5) (fC (.int 4))) (fC (.int 4)))))
 (Bd (Dg 8 (Au ES (BQ (AF (fC .none) (AF (Jb Af) (AF (fC (.int 0)) (AF (Cw NC (AF (nm 2) Af)) (AF (Au FG (nm 2) (BQ (AF (fC (.int 0)) Af))) (AF (BQ (AF (BQ (AF (Jb (AF (fC (.int 0)) (AF (fC (.int 0)) Af))) Af)) Af)) Af))))))) (Au Gj (Au QT (nm 5) (fC (.int 16))) (fC (.int 6)))))
 (Bd (Dg 9 (Au ES (BQ (AF (Au FG (nm 3) (BQ (AF (Jb (AF (fC (.int 0)) (AF (fC (.int 1)) Af))) Af))) (AF (Yq (nm 3) (Uv (fC (.int 1))) VG) (AF (fC .none) (AF (Cw NC (AF (nm 3) Af)) (AF (Au Ek (BQ (AF (Jb (AF (fC (.int 2)) (AF (fC (.int 2)) Af))) Af)) (nm 1)) Af)))))) (Au Gj (Au QT (nm 5) (fC (.int 96))) (fC (.int 5)))))
 (Bd (mn (nm 4) (Hx 10 11))
 (Bd (Dg 12 (BQ (AF (fC .none) (AF (BQ (AF (nm 10) (AF (nm 11) Af))) (AF (Jb (AF (nm 10) (AF (nm 11) (AF (fC (.int 0)) Af)))) (AF (Jb (AF (nm 10) (AF (Au FG (nm 11) (BQ (AF (Jb (AF (fC (.int 1)) (AF (fC (.int 1)) Af))) Af))) Af))) (AF (Jb (AF (Yq (nm 10) VG (Uv (gz (fC (.int 1))))) (AF (nm 11) Af))) (AF (Jb (AF (BQ Af) (AF (BQ Af) Af))) Af))))))))
 (Bd (Dg 13 (Au ES (Au FG (nm 12) (BQ (AF (Jb (AF (Au FG (nm 10) (BQ (AF (BQ Af) Af))) (AF (nm 11) Af))) Af))) (Au Gj (Au QT (nm 5) (fC (.int 480))) (fC (.int 7)))))
 (Bd (NJ (Kp QV (AF (fC (.int 3)) Af)) (VP 14)
  (Bd (gI 15 (AF (BQ (AF (fC (.str (Str.ofString "change"))) Af)) (AF (BQ (AF (fC (.str (Str.ofString "start"))) Af)) (AF (BQ (AF (fC (.str (Str.ofString "many"))) Af)) Af))))
  (Bd (Gp (Ca (ER false) (nm 14) (fC (.int 2)))
   (Yt 15 (BQ Af) (fC (.int 2)))
   D6)
  (Bd (NJ (om (BQ (AF (nm 9) (AF (nm 3) Af)))) (VP 16)
   (Gp (M6 (Ca (ER true) (Cw B8 (AF (nm 14) (AF (BQ (AF (nm 4) (AF (nm 8) (AF (nm 16) Af)))) (AF (nm 7) Af)))) (Au ES (nm 15) (fC (.int 0)))))
    (FE (fC (.bool false)))
    D6))
  (Bd (Gp (M6 (Ca (ER true) (Cw B8 (AF (nm 14) (AF (BQ (AF (nm 4) (AF (nm 2) (AF (nm 9) Af)))) (AF (nm 7) Af)))) (Au ES (nm 15) (fC (.int 1)))))
   (FE (fC (.bool false)))
   D6)
  (Bd (Gp (M6 (Ca (ER true) (Cw B8 (AF (nm 14) (AF (BQ (AF (nm 4) (AF (nm 2) (AF (nm 3) Af)))) (AF (nm 7) Af)))) (Au ES (nm 15) (fC (.int 2)))))
   (FE (fC (.bool false)))
   D6)
  (Bd (Gp (SO (Ca (Ho fun i j=>decide (j<i)) (nm 14) (fC (.int 0))) (Ca (ER true) (Cw B8 (AF (nm 14) (AF (BQ (AF (nm 13) (AF (nm 8) (AF (nm 9) Af)))) (AF (nm 7) Af)))) (BQ (AF (fC (.str (Str.ofString "table"))) Af))))
   (FE (fC (.bool false)))
   D6)
  (Bd (Gp (SO (Ca (Ho fun i j=>decide (j<i)) (nm 14) (fC (.int 0))) (Ca (ER true) (Cw B8 (AF (nm 14) (AF (BQ (AF (nm 13) (AF (nm 2) (AF (nm 3) Af)))) (AF (nm 6) Af)))) (BQ (AF (fC (.str (Str.ofString "table"))) Af))))
   (FE (fC (.bool false)))
   D6)
  (Gp (Ca (ER true) (Cw B8 (AF (nm 14) (AF (BQ (AF (nm 4) (AF (nm 2) (AF (nm 3) Af)))) (AF (nm 6) Af)))) (BQ Af))
   (FE (fC (.bool false)))
   D6)))))))))
 (FE (fC (.bool true))))))))))))
def eh{k:Nat}{Dy:MD}{B8:MD} {R:AD}{U:F0a}(Bm:Fn K mg "_law_cell" EM ["_law_script","_law_k"] R U)(Dr:AH P w K mg base Aa k R U ["_law_script","_law_k"] (HA Dy)) {Y:AD}{Z:F0a}(M:Fn K mg "_law_flags" Ic ["_law_which","_law_some","_law_most"] Y Z)(I:AH P w K mg base Aa k Y Z ["_law_which","_law_some","_law_most"] (HA B8))(A3:mg "range" = none)(CA:mg "tuple" = none)(cdv:VL)(A:F0d)(outer:uH)(s:SD)(H:Hp)(E:XK)(g:C9 k (A.deeper (PyProof.Rows.envOfC "law" (AQ RZ) s.heap.objs.size f cdv))):Pt (Cz Aa P w K mg base ["_law_script","_law_many","_law_change_here","_law_start_here","_law_table_here","_law_cell_here","_law_most","_law_far","_law_none","_law_wrong","_law_rows","_law_last","_law_tables","_law_odd","_law_which","_law_dues","_law_bad"] "law" (AQ RZ) f cdv A outer s H E).Ki ((EA RZ).drop 4) (SU Dy B8):=by
 have sc:=cf;exact(Aw (Cq (i:=5) sc.nd rfl AT (Ff Bm Dr g rfl (AE (AI FS) (AE Ai Ad))))
 (Aw (Cq (i:=6) sc.nd rfl AT (BB FT (AI (pv 5)) Ai))
 (Aw (Cq (i:=7) sc.nd rfl AT (Ew (BF (AE Ai (AE (Zv Ai) (AE (BB Ec Ai (BB FT (AI (pv 5)) (BB Mo Ai Ai))) (AE (BB SV (BB SV Ai Ai) (BB FT (AI (pv 5)) (BB Mo Ai Ai))) Ad))))) (BB FT (BB PJ (AI (pv 5)) Ai) Ai) By))
 (Aw (Cq (i:=8) sc.nd rfl AT (Ew (BF (AE OE (AE (GZ Ad) (AE Ai (AE (T8 WO rfl CA bN (AE (AI IN) Ad)) (AE (BB Ec (AI IN) (BF (AE Ai Ad))) (AE (BF (AE (BF (AE (GZ (AE Ai (AE Ai Ad))) Ad)) Ad)) Ad))))))) (BB FT (BB PJ (AI (pv 5)) Ai) Ai) By))
 (Aw (Cq (i:=9) sc.nd rfl AT (Ew (BF (AE (BB Ec (AI (pv 3)) (BF (AE (GZ (AE Ai (AE Ai Ad))) Ad))) (AE (V7 (AI (pv 3)) (X9 Ai) Xw) (AE OE (AE (T8 WO rfl CA bN (AE (AI (pv 3)) Ad)) (AE (BB JA (BF (AE (GZ (AE Ai (AE Ai Ad))) Ad)) (AI Fa)) Ad)))))) (BB FT (BB PJ (AI (pv 5)) Ai) Ai) By))
 (Aw (nQ (AI (pv 4)) (cQ (HS rfl (Bw (An (i:=10) sc.nd rfl AT) (Bw (An (i:=11) sc.nd rfl AT) F8)))))
 (Aw (Cq (i:=12) sc.nd rfl AT (BF (AE OE (AE (BF (AE (AI (pv 10)) (AE (AI (pv 11)) Ad))) (AE (GZ (AE (AI (pv 10)) (AE (AI (pv 11)) (AE Ai Ad)))) (AE (GZ (AE (AI (pv 10)) (AE (BB Ec (AI (pv 11)) (BF (AE (GZ (AE Ai (AE Ai Ad))) Ad))) Ad))) (AE (GZ (AE (V7 (AI (pv 10)) Xw (X9 (Zv Ai))) (AE (AI (pv 11)) Ad))) (AE (GZ (AE (BF Ad) (AE (BF Ad) Ad))) Ad))))))))
 (Aw (Cq (i:=13) sc.nd rfl AT (Ew (BB Ec (AI (pv 12)) (BF (AE (GZ (AE (BB Ec (AI (pv 10)) (BF (AE (BF Ad) Ad))) (AE (AI (pv 11)) Ad))) Ad))) (BB FT (BB PJ (AI (pv 5)) Ai) Ai) By))
 (Aw (Rh aM rfl (Ta rfl A3 (AE Ai Ad)) (S0 (An (i:=14) sc.nd rfl AT))
  (Aw (kx (i:=15) sc.nd rfl AT (AE (BF (AE Ce Ad)) (AE (BF (AE Ce Ad)) (AE (BF (AE Ce Ad)) Ad))))
  (Aw (He (De (Yx (by have:=g.units;exact this)) (AI (pv 14)) Ai (Ap _))
   (B4 (mz (pv 15) Ai (BF Ad) (fun h1 h2 h3=>Vr h1 (cq h2 h3 set_list))))
   En)
  (Aw (Rh aM rfl (lI (BF (AE (AI (pv 9)) (AE (AI (pv 3)) Ad)))) (S0 (An (i:=16) sc.nd rfl AT))
   (B4 (He (Sb (De (L7 (by have:=g.units;exact this)) (Ff M I g rfl (AE (AI (pv 14)) (AE (BF (AE (AI (pv 4)) (AE (AI (pv 8)) (AE (AI (pv 16)) Ad)))) (AE (AI (pv 7)) Ad)))) (Ew (AI (pv 15)) Ai By) (Ap _)))
    (B4 (Er M3))
    En)))
  (Aw (He (Sb (De (L7 (by have:=g.units;exact this)) (Ff M I g rfl (AE (AI (pv 14)) (AE (BF (AE (AI (pv 4)) (AE (AI IN) (AE (AI (pv 9)) Ad)))) (AE (AI (pv 7)) Ad)))) (Ew (AI (pv 15)) Ai By) (Ap _)))
   (B4 (Er M3))
   En)
  (Aw (He (Sb (De (L7 (by have:=g.units;exact this)) (Ff M I g rfl (AE (AI (pv 14)) (AE (BF (AE (AI (pv 4)) (AE (AI IN) (AE (AI (pv 3)) Ad)))) (AE (AI (pv 7)) Ad)))) (Ew (AI (pv 15)) Ai By) (Ap _)))
   (B4 (Er M3))
   En)
  (Aw (He (DW.dt (a8 (De ZC (AI (pv 14)) Ai (Ap _)) (RK (De (L7 (by have:=g.units;exact this)) (Ff M I g rfl (AE (AI (pv 14)) (AE (BF (AE (AI (pv 13)) (AE (AI (pv 8)) (AE (AI (pv 9)) Ad)))) (AE (AI (pv 7)) Ad)))) (BF (AE Ce Ad)) (Ap _)))))
   (B4 (Er M3))
   En)
  (Aw (He (DW.dt (a8 (De ZC (AI (pv 14)) Ai (Ap _)) (RK (De (L7 (by have:=g.units;exact this)) (Ff M I g rfl (AE (AI (pv 14)) (AE (BF (AE (AI (pv 13)) (AE (AI IN) (AE (AI (pv 3)) Ad)))) (AE (AI (pv 6)) Ad)))) (BF (AE Ce Ad)) (Ap _)))))
   (B4 (Er M3))
   En)
  (B4 (He (De (L7 (by have:=g.units;exact this)) (Ff M I g rfl (AE (AI (pv 14)) (AE (BF (AE (AI (pv 4)) (AE (AI IN) (AE (AI (pv 3)) Ad)))) (AE (AI (pv 6)) Ad)))) (BF Ad) (Ap _))
   (B4 (Er M3))
   En))))))))))
 (B4 (Er M3)))))))))))
end
def V4{X:Cx}{E:XK}{g:uG}:TR X E g (fun _=>none):=⟨fun _ _ _=>False,fun _ _ _ _ _ _ z=>z.elim,fun δ r h=>by cases h⟩
def Jg(I ms g:rW):Gm :=
 (Iq (GN I (AF (nm 0) Af) fun _ δ=>.nx δ)
 (Iq (GN ms (AF (nm 1) (AF (Cw Qj (AF (nm 0) Af)) Af)) fun _ δ=>.nx δ)
 (Iq (GN g (AF (nm 2) Af) fun _ δ=>.nx δ) fun _=>none)))
def Jr(mt g:rW):Gm :=
 (Iq (GN mt (AF (nm 0) (AF (nm 1) (AF (nm 2) Af))) fun _ δ=>.nx δ)
 (Iq (GN g (AF (nm 3) Af) fun _ δ=>.nx δ) fun _=>none))
def Jt(mt:rW):Gm :=
 (Iq (GN mt (AF (nm 0) (AF (nm 1) (AF (nm 2) Af))) fun _ δ=>.nx δ) fun _=>none)
abbrev bG(I ms g:List PD->Option Xr):List PD->Option Xr:=GF ["change","start","most"] ["change","start","most","grain","finer","rows","pace"] (Jg I ms g)
abbrev bR(mt g:List PD->Option Xr):List PD->Option Xr:=GF ["table","change","start","most"] ["table","change","start","most","grain","bottom","reading","rows","pace"] (Jr mt g)
abbrev bT(mt:List PD->Option Xr):List PD->Option Xr:=GF ["table","change","start","length"] ["table","change","start","length","grain","place","speeds","row"] (Jt mt)
section
variable{P:F0b}{w:F0c}{K:Fg}{mg:tm}{base:Heap}{f g1 g2 g3:AD}{fd gd1 gd2 gd3:F0a}{k:Nat}{mc ms mm mt:rW}
def TF(F:Fn K mg "growth_rows" Hi ["change","start","most"] f fd)(R:Fn K mg "refuse_no_change" B3 FI g1 gd1)(Z:AH P w K mg base (CQ P w) k g1 gd1 FI (Dq mc))(M:Fn K mg "refuse_no_start" CF EQ g2 gd2)(Y:AH P w K mg base (CQ P w) k g2 gd2 EQ (Dq ms))(I:Fn K mg "refuse_too_many" CG ["most"] g3 gd3)(U:AH P w K mg base (CQ P w) k g3 gd3 ["most"] (Dq mm))(A9:mg "len" = none):AH P w K mg base (CQ P w) (k+1) f fd ["change","start","most"] (Dq (bG mc ms mm)):=RB F Mp fun cdv A outer s H E g=>(Gb (by exact Gz R Z g Jm (by exact(AE (AI FS) Ad)) (fun h=>BK h))
 (Gb (by exact Gz M Y g Jm (by exact(AE (AI Fa) (AE (NS Rx rfl A9 af (AE (AI FS) Ad)) Ad))) (fun h=>BK h))
 (Gb (by exact Gz I U g Jm (by exact(AE (AI IN) Ad)) (fun h=>BK h)) V4)))
def VZ(F:Fn K mg "step_rows" Js ["table","change","start","most"] f fd)(M:Fn K mg "refuse_no_step" CU Go g1 gd1)(U:AH P w K mg base (CQ P w) k g1 gd1 Go (Dq mt))(I:Fn K mg "refuse_too_many" CG ["most"] g3 gd3)(R:AH P w K mg base (CQ P w) k g3 gd3 ["most"] (Dq mm)):AH P w K mg base (CQ P w) (k+1) f fd ["table","change","start","most"] (Dq (bR mt mm)):=RB F O0 fun cdv A outer s H E g=>(Gb (by exact Gz M U g Jm (by exact(AE (AI FS) (AE (AI Fa) (AE (AI IN) Ad)))) (fun h=>BK h))
 (Gb (by exact Gz I R g Jm (by exact(AE (AI (pv 3)) Ad)) (fun h=>BK h)) V4))
def ZG(F:Fn K mg "step_to" L8 ["table","change","start","length"] f fd)(I:Fn K mg "refuse_no_step" CU Go g1 gd1)(M:AH P w K mg base (CQ P w) k g1 gd1 Go (Dq mt)):AH P w K mg base (CQ P w) (k+1) f fd ["table","change","start","length"] (Dq (bT mt)):=RB F Q7 fun cdv A outer s H E g=>(Gb (by exact Gz I M g Jm (by exact(AE (AI FS) (AE (AI Fa) (AE (AI IN) Ad)))) (fun h=>BK h)) V4)
end
def Q4(m1 g:rW)(ds:tZ):Option Xr:=match m1 ds with
 |some r=>some r
 |none=>g ds
def LD{m1 g:rW}{ds:tZ}{r:Xr}(h:m1 ds=some r):Q4 m1 g ds=some r:=by unfold Q4;rw[h]
def Yv{m1 g:rW}{ds:tZ}{r:Option Xr}(h:m1 ds=none)(k:g ds=r):Q4 m1 g ds=r:=by unfold Q4;rw[h];exact k
def WE{P:F0b}{w:F0c}{K:Fg}{mg:tm}{base:Heap}{CX:Iw}{k:Nat}{f:AD}{fd:F0a}{ps:t7}{m1 g:rW}(Z:AH P w K mg base CX k f fd ps (Dq m1))(Y:AH P w K mg base CX k f fd ps (Dq g)):AH P w K mg base CX k f fd ps (Dq (Q4 m1 g)):=by
 have key:∀vs H Q E,Dq (Q4 m1 g) vs H Q E->Dq m1 vs H Q E\/Dq g vs H Q E:=fun vs H Q E ⟨I,r,G,h,q⟩=>by
  cases e:m1 I with
  |some r'=>rw[LD e]at h;cases h;exact .inl ⟨I,_,G,e,q⟩
  |none=>rw[Yv e rfl]at h;exact .inr ⟨I,r,G,h,q⟩
 exact⟨fun vs H Q E h=>(key _ _ _ _ h).elim (Z.len _ _ _ _) (Y.len _ _ _ _),fun A outer s H args us vs Q E R U hb M h=>(key _ _ _ _ h).elim (Z.run A outer s H args us vs Q E R U hb M) (Y.run A outer s H args us vs Q E R U hb M)⟩
open Classical in
noncomputable def Vs{α:Type}(hand:α->List PD)(ok:α->Prop)(tell:α->PD)(ds:tZ):tq:=if h:∃a,ds=hand a/\ok a then some (tell (choose h)) else none
def Vy{α:Type}{hand:α->List PD}{ok:α->Prop}{tell:α->PD}{a:α}(h:ok a):∃x,Vs hand ok tell (hand a)=some x:=by
 have:∃b,hand a=hand b/\ok b:=⟨a,rfl,h⟩;unfold Vs;rw[dif_pos this];exact⟨_,rfl⟩
def iG{P:F0b}{w:F0c}{K:Fg}{mg:tm}{base:Heap}{CX:Iw}{k:Nat}{f:AD}{fd:F0a}{ps:t7}{sp:Sp}{α:Type}{hand:α->List PD}{ok:α->Prop}{tell:α->PD}(F:AH P w K mg base CX k f fd ps sp) (h:∀a,ok a->∀G H vs Q E,Ay G (hand a) vs->AK G H->(∀v g H',AK G g->Nw G H g->AK g H'->AK H H'->Du g (tell a) v->Q v H')->sp vs H Q E):AH P w K mg base CX k f fd ps (HA (Vs hand ok tell)) :=
 F.imp fun vs H Q E ⟨R,x,G,hm,d,e,I⟩=>by
  unfold Vs at hm;split at hm
  .rename_i M;cases hm;have c:=Classical.choose_spec M;refine h _ c.2 G H vs Q E ?_ e I;rw[<-c.1];exact d
  .cases hm
abbrev Bv(uss:Ch):PD:=.list (uss.map Bz)
def fe(m:Ag):(Es m).canLay0=true:=Kr fun d hd=>by
 rcases aU.mp hd with rfl|hd
 .exact Kr fun d hd=>by obtain⟨p,_,rfl⟩:=aL.mp hd;simp[PyData.canLay0]
 .rw[List.mem_singleton.mp hd];exact SS _
def Gn(uss:Ch):∀d∈uss.map Bz,d.canLay0=true:=fun d hd=>by
 obtain⟨us,_,rfl⟩:=aL.mp hd;exact B6 fun d hd=>by obtain⟨p,_,rfl⟩:=aL.mp hd;exact fe p
def EO(rs:uC):∀d∈AV rs,d.canLay0=true:=fun d hd=>by
 unfold AV at hd;obtain⟨p,_,rfl⟩:=aL.mp hd;exact SS p
def WQ(rs:List uC):∀d∈BU rs,d.canLay0=true:=fun d hd=>by
 unfold BU at hd;obtain⟨p,_,rfl⟩:=aL.mp hd;exact B6 (EO p)
def MY(t:Tb):(CM t).canLay0=true:=Kr fun d hd=>by
 rcases aU.mp hd with rfl|hd
 .exact B6 (WQ _)
 .rw[List.mem_singleton.mp hd];exact B6 (EO _)
theorem Nx{G H H':Hp}:∀ {rs:List (List Rat)} {xs:IR},Aq H' (BU rs) xs->(∀z∈xs,∃a,z=.ref a/\H a=none)->Ay (KO G H H') (BU rs) xs
 |[],xs,h,_=>by
  have:=h.len;have e:xs=[]:=List.eq_nil_of_length_eq_zero (by simpa[BU]using this);rw[e];exact .nil
 |q::I,xs,h,hn=>by
  obtain⟨x,r,rfl,U,R⟩:=Aq.Xv (d:=ME q) (ds:=BU I) h;obtain⟨a,ys,e,ha,Y⟩:=U.Ju;obtain⟨b,g,hb⟩:=hn x (.head _);rw[e]at g;cases g;subst e;refine .cons ?_ (Nx R fun z M=>hn z (.tail _ M));show Du _ (.list (AV q)) _;rw[Du];exact⟨a,ys,rfl,RP ha hb,NX Y⟩
noncomputable abbrev gG:MD:=Vs (fun a:List (List Ag)×List Rat×Nat=>[Bv a.1,.list (AV a.2.1),.int (a.2.2:Nat)]) (fun a=>∃nn,Hl a.1 a.2.1 a.2.2 nn) fun a=>.list (BU (Yi a.1 a.2.1 a.2.2))
noncomputable abbrev gR:MD:=Vs (fun a:Tb×List (List Ag)×List Rat×Nat=>[CM a.1,Bv a.2.1,.list (AV a.2.2.1),.int (a.2.2.2:Nat)]) (fun a=>∃nn,EF a.1 a.2.1 a.2.2.1 a.2.2.2 nn) fun a=>.list (BU (VX a.1 a.2.1 a.2.2.1 a.2.2.2))
structure lT(t:Tb)(uss:Ch)(rs:List Rat)(h:Rat)(many:Nat):Prop where
 tab:t.Ok 4
 fit:∀r∈Ak t,∀q∈r,FM.Fits q 3/\q.den<=6
 chg:Gu uss many
 good:DH (.list (uss.map Bz))=true
 ul:uss.length=many
 rl:rs.length=many
 rf:∀r∈rs,FM.Fits r 3/\r.den<=6
 m1:1<=many
 m4:many<=4
 hf:FM.Fits h 3
noncomputable abbrev gT:MD:=Vs (fun a:Tb×List (List Ag)×List Rat×Rat=>[CM a.1,Bv a.2.1,.list (AV a.2.2.1),HH a.2.2.2]) (fun a=>∃nn,lT a.1 a.2.1 a.2.2.1 a.2.2.2 nn) fun a=>.list (AV ((G7 a.2.1 a.2.2.1 a.2.2.2 (Ak a.1)).2.1.map fun b=>Rat.divInt b (G7 a.2.1 a.2.2.1 a.2.2.2 (Ak a.1)).2.2))
section
variable{P:F0b}{w:F0c}{K:Fg}{mg:tm}{base:Heap}{CX:Iw}{k:Nat}{f:AD}{fd:F0a}{ps:t7}
def toG(F:AH P w K mg base CX k f fd ps k9):AH P w K mg base CX k f fd ps (HA gG):=iG F fun a ⟨nn,o⟩ G H vs Q E d e kk=>by
 obtain⟨v1,r,rfl,d1,d⟩:=d.un;obtain⟨v2,v3,rfl,d2,M⟩:=d.OC;rw[Du]at M;subst M;obtain⟨C,cs,rfl,hC,dc⟩:=(JC (B6 (Gn _)) (d1.same e)).Ju;obtain⟨S,ss,rfl,hS,dS⟩:=(JC (B6 (EO _)) (d2.same e)).Ju;refine⟨C,S,cs,ss,a.1,a.2.1,a.2.2,nn,rfl,hC,dc,hS,dS,o,fun D H' R I hD g dz U=>?_⟩;obtain⟨n1,Z,Y⟩:=SQ e I;refine kk (.ref D) _ H' n1 Z Y I ?_;rw[Du];exact⟨D,R,rfl,RP g hD,Nx dz U⟩
def tM(F:AH P w K mg base CX k f fd ps i9):AH P w K mg base CX k f fd ps (HA gR):=iG F fun a ⟨nn,o⟩ G H vs Q E d e kk=>by
 obtain⟨U,r1,rfl,d1,d⟩:=d.un;obtain⟨v2,r2,rfl,d2,d⟩:=d.un;obtain⟨v3,v4,rfl,d3,M⟩:=d.OC;rw[Du]at M;subst M;obtain⟨C,cs,rfl,hC,dc⟩:=(JC (B6 (Gn _)) (d2.same e)).Ju;obtain⟨S,ss,rfl,hS,dS⟩:=(JC (B6 (EO _)) (d3.same e)).Ju;refine⟨U,C,S,cs,ss,a.1,a.2.1,a.2.2.1,a.2.2.2,nn,rfl,JC (MY _) (d1.same e),hC,dc,hS,dS,o,fun D H' R I hD g dz Y=>?_⟩;obtain⟨n1,n2,Z⟩:=SQ e I;refine kk (.ref D) _ H' n1 n2 Z I ?_;rw[Du];exact⟨D,R,rfl,RP g hD,Nx dz Y⟩
def sT(F:AH P w K mg base CX k f fd ps Z0):AH P w K mg base CX k f fd ps (HA gT):=iG F fun a ⟨nn,o⟩ G H vs Q E d e kk=>by
 obtain⟨Y,r1,rfl,d1,d⟩:=d.un;obtain⟨v2,r2,rfl,d2,d⟩:=d.un;obtain⟨v3,v4,rfl,d3,d4⟩:=d.OC;obtain⟨C,cs,rfl,hC,dc⟩:=(JC (B6 (Gn _)) (d2.same e)).Ju;obtain⟨S,ss,rfl,hS,dS⟩:=(JC (B6 (EO _)) (d3.same e)).Ju;obtain⟨Ln,rfl,g⟩:=(JC (SS _) (d4.same e)).rat;refine⟨Y,C,S,Ln,a.1,cs,ss,a.2.1,a.2.2.1,a.2.2.2,nn,rfl,JC (MY _) (d1.same e),o.tab,o.fit,⟨hC,dc,o.chg.len,fun us M=>⟨(o.chg.EK us M).1,fun m hm=>((o.chg.EK us M).2 m hm).1⟩⟩,o.chg,o.good,o.ul,hS,dS,o.rl,o.rf,o.m1,o.m4,g,o.hf,fun D H' U R hD I dz=>?_⟩;obtain⟨n1,n2,Z⟩:=SQ e R;refine kk (.ref D) _ H' n1 n2 Z R ?_;rw[Du];exact⟨D,U,rfl,RP I hD,NX dz⟩
end
def gW(s:PD)(n:Nat):Bool:=match s with
 |.list ss=>decide (ss.length=n)
 |_=>false
def C5(s:PD)(n:Nat):Bool:=Bf s&&gW s n
def Oh{C:AD}{c:PD}(g:c.canLay0=true)(h:DH c=true):BS (mB DH) C [c]=some (.inl .none):=by
 refine MZ (δ:=[.d c]) rfl ?_;unfold GW;exact U6 (Je (JX (CY (xs:=[c]) rfl (QI g h)))) rfl
def dU{C:AD}{c:PD}(g:c.canLay0=true)(h:DH c=false):BS (mB DH) C [c]=some (.inr C):=by
 refine Cc rfl ?_;unfold GW;exact PM (Je (JX (CY (xs:=[c]) rfl (QI g h)))) rfl
def i6{C:AD}:Bn C []=some (.inr C):=by
 refine Cc rfl ?_;unfold MW;exact rfl
def W7{C:AD}{s:PD}{n:Nat}(M:s.canLay0=true)(h:C5 s n=true):Bb (mB Bf) (Bn C) [s,.int (n:Nat)]=some (.inl .none):=by
 unfold C5 at h;rw[(Lh)]at h;obtain⟨R,g⟩:=h;unfold gW at g;split at g
 .rename_i ss;have I:=ae g;refine MZ (δ:=[.d (.list ss),.d (.int (n:Nat))]) rfl ?_;unfold FK;refine(U6 (Ut (Je (JX (CY (xs:=[.list ss]) rfl (QI M R)))) (Cn (x:=.int (ss.length:Nat)) (y:=.int (n:Nat)) rfl rfl ?_)) rfl);rw[PV,I];simp
 .cases g
def dA{C:AD}{s:PD}{n:Nat}(I:s.canLay0=true)(h:C5 s n=false):Bb (mB Bf) (Bn C) [s,.int (n:Nat)]=some (.inr C):=by
 unfold C5 at h;cases g:Bf s with
 |false=>
  refine Cc rfl ?_;unfold FK;exact(PM (i3 (Je (JX (CY (xs:=[s]) rfl (QI I g))))) (C2 (ds:=[]) rfl i6))
 |true=>
  rw[g,(Fo)]at h;cases s with
  |list ss=>
   have R:¬ss.length=n:=az h;refine Cc rfl ?_;unfold FK;refine(PM (Ut (Je (JX (CY (xs:=[.list ss]) rfl (QI I g)))) (Cn (x:=.int (ss.length:Nat)) (y:=.int (n:Nat)) rfl rfl ?_)) (C2 (ds:=[]) rfl i6));rw[PV,decide_eq_false AC];rfl
  |none=>simp[Bf]at g
  |bool _=>simp[Bf]at g
  |int _=>simp[Bf]at g
  |str _=>simp[Bf]at g
  |tuple _=>simp[Bf]at g
  |dict _=>simp[Bf]at g
def eI{q:PD->Bool}{ds:tZ}{e:PD}(h:e∈ds)(k:q e=false):ds.all q=false:=aZ.mpr fun z=>by
 rw[(Ht)]at z;rw[z e h]at k;cases k
def pS{ds:tZ}{e:PD}{n:Nat}(h:e∈ds)(k:Ei e=false):C5 (.list ds) n=false:=by
 unfold C5;rw[show Bf (.list ds)=false from eI h k,(HF)]
def Z8{ds:tZ}{n:Nat}(h:ds.length≠n):C5 (.list ds) n=false:=by
 unfold C5;rw[show gW (.list ds) n=false from bM h,(MP)]
def oo{ds:tZ}{e:PD}(h:e∈ds)(k:Fu ds.length e=false):DH (.list ds)=false:=by
 rw[DH,eI h k,(MP)]
noncomputable abbrev qt:List PD->Option Xr:=BS (mB DH) 61
noncomputable abbrev qh:List PD->Option Xr:=Bb (mB Bf) (Bn 73)
noncomputable abbrev nJ:List PD->Option Xr:=Bu (mB Cg) 85
noncomputable abbrev iZ:List PD->Option Xr:=Kc 145
noncomputable abbrev Xx:List PD->Option Xr:=LA qt qh nJ
def Vw{c:PD}(g:c.canLay0=true)(h:Cg c=true):nJ [c]=some (.inl .none):=by
 refine MZ (δ:=[.d c]) rfl ?_;unfold HK;exact U6 (Je (JX (CY (xs:=[c]) rfl (QI g h)))) rfl
def ky{c:PD}(g:c.canLay0=true)(h:Cg c=false):nJ [c]=some (.inr 85):=by
 refine Cc rfl ?_;unfold HK;exact PM (Je (JX (CY (xs:=[c]) rfl (QI g h)))) rfl
def iu{n:Nat}(h:n<=7):iZ [.int (n:Nat)]=some (.inl .none):=by
 refine MZ (δ:=[.d (.int (n:Nat))]) rfl ?_;unfold HJ;refine U6 (Ut (Cn (x:=.int (n:Nat)) (y:=.int 0) rfl rfl ?_) (Cn (x:=.int (n:Nat)) (y:=.int 7) rfl rfl ?_)) rfl
 .show some (PyData.bool (decide ((n:Int)<0)))=_;rw[decide_eq_false AC]
 .show some (PyData.bool (decide ((7:Int)<(n:Int))))=_;rw[decide_eq_false AC]
def iP{n:Int}(h:n<0\/7<n):iZ [.int n]=some (.inr 145):=by
 refine Cc rfl ?_;unfold HJ;have t1:Ca (Ho fun i j=>decide (i<j)) (nm 0) (fC (.int 0)) [.d (.int n)]=some (decide (n<0)):=Cn (x:=.int n) (y:=.int 0) rfl rfl rfl;have g:Ca (Ho fun i j=>decide (j<i)) (nm 0) (fC (.int 7)) [.d (.int n)]=some (decide (7<n)):=Cn (x:=.int n) (y:=.int 7) rfl rfl rfl;by_cases z:n<0
 .rw[decide_eq_true z]at t1;exact PM (i3 t1) rfl
 .rw[decide_eq_false z]at t1;rw[decide_eq_true AC]at g;exact PM (Ut t1 g) rfl
section
variable{t c s:PD}{cs:tZ}
def Zw(g:t.canLay0=true)(h:Cg t=false):Xx [t,c,s]=some (.inr 85):=by
 refine Cc rfl ?_;unfold Ed;exact Eo (C2 (ds:=[t]) rfl (ky g h))
def Zs(g:t.canLay0=true)(h:Cg t=true)(I:c.canLay0=true)(M:DH c=false):Xx [t,c,s]=some (.inr 61):=by
 refine Cc rfl ?_;unfold Ed;exact Dm (Cj (ds:=[t]) rfl (Vw g h)) (Eo (C2 (ds:=[c]) rfl (dU I M)))
def Wo(I:t.canLay0=true)(h:Cg t=true)(R:(PyData.list cs).canLay0=true)(Y:DH (.list cs)=true)(M:s.canLay0=true)(U:C5 s cs.length=false):Xx [t,.list cs,s]=some (.inr 73):=by
 refine Cc rfl ?_;unfold Ed;exact Dm (Cj (ds:=[t]) rfl (Vw I h)) (Dm (Cj (ds:=[.list cs]) rfl (Oh R Y)) (C2 (ds:=[s,.int (cs.length:Nat)]) rfl (dA M U)))
def Zk(I:t.canLay0=true)(h:Cg t=true)(R:(PyData.list cs).canLay0=true)(Y:DH (.list cs)=true)(M:s.canLay0=true)(U:C5 s cs.length=true):Xx [t,.list cs,s]=some (.inl .none):=by
 refine MZ (δ:=[.d t,.d (.list cs),.d s]) rfl ?_;unfold Ed;exact Dm (Cj (ds:=[t]) rfl (Vw I h)) (Dm (Cj (ds:=[.list cs]) rfl (Oh R Y)) (Cj (ds:=[s,.int (cs.length:Nat)]) rfl (W7 M U)))
end
def L9(c:Nat):AD->Option Bool:=fun(C:Nat)=>if C=61 then some (decide (61=c)) else if C=73 then some (decide (73=c)) else if C=85 then some (decide (85=c)) else if C=145 then some (decide (145=c)) else none
def md:AD->Option Bool:=fun(C:Nat)=>if C=61\/C=73\/C=85\/C=145 then some true else none
def HY{K:Fg}{c:Nat}{g:V}(U:CV K 61)(R:CV K 73)(M:CV K 85)(I:CV K 145)(k1:PySem.W.kitOne K (.ref 61) (Cr g)=some (decide (61=c)):=by kernel_rfl)(k2:PySem.W.kitOne K (.ref 73) (Cr g)=some (decide (73=c)):=by kernel_rfl)(k3:PySem.W.kitOne K (.ref 85) (Cr g)=some (decide (85=c)):=by kernel_rfl)(Y:PySem.W.kitOne K (.ref 145) (Cr g)=some (decide (145=c)):=by kernel_rfl):∀C z,L9 c C=some z->CV K C/\PySem.W.kitOne K IO (Cr g)=some z:=fun C z h=>by
 unfold L9 at h;split at h
 .rename_i e;cases e;cases h;exact⟨U,k1⟩
 split at h
 .rename_i e;cases e;cases h;exact⟨R,k2⟩
 split at h
 .rename_i e;cases e;cases h;exact⟨M,k3⟩
 split at h
 .rename_i e;cases e;cases h;exact⟨I,Y⟩
 cases h
def pK{K:Fg}{g:V}(U:CV K 61)(R:CV K 73)(M:CV K 85)(I:CV K 145)(k1:PySem.W.kitOne K (.ref 61) (Cr g)=some true:=by kernel_rfl)(k2:PySem.W.kitOne K (.ref 73) (Cr g)=some true:=by kernel_rfl)(k3:PySem.W.kitOne K (.ref 85) (Cr g)=some true:=by kernel_rfl)(Y:PySem.W.kitOne K (.ref 145) (Cr g)=some true:=by kernel_rfl):∀C z,md C=some z->CV K C/\PySem.W.kitOne K IO (Cr g)=some z:=fun C z h=>by
 unfold md at h;split at h
 .rename_i e;cases h;rcases e with e|e|e|e<;>cases e
  .exact⟨U,k1⟩
  .exact⟨R,k2⟩
  .exact⟨M,k3⟩
  .exact⟨I,Y⟩
 .cases h
noncomputable abbrev JR:MD:=Cv (L9 37) (L9 61) (L9 169) (L9 97) (L9 133) (L9 73) (L9 85) (L9 157) (L9 49) (L9 109) (L9 121) (L9 145) md
abbrev word(x:String):PD:=.list [.str (Str.ofString x)]
def dk:JR [JU 61]=some (word "change"):=by kernel_rfl
def dF:JR [JU 73]=some (word "start"):=by kernel_rfl
def dB:JR [JU 85]=some (word "table"):=by kernel_rfl
def ZY:JR [JU 145]=some (word "many"):=by kernel_rfl
def iH:JR [.none]=some (.list []):=by kernel_rfl
abbrev refs:List AD:=[61,73,85,145]
noncomputable abbrev oG:List PD->Option Xr:=only refs (Q4 (bG qt qh iZ) fun g=>(gG g).map .inl)
noncomputable abbrev oR:List PD->Option Xr:=only refs (Q4 (bR Xx iZ) fun g=>(gR g).map .inl)
noncomputable abbrev oT:List PD->Option Xr:=only refs (Q4 (bT Xx) fun g=>(gT g).map .inl)
noncomputable abbrev Kd:MD:=B8 JR oG oR oT
noncomputable def door(g:Nat)(t c s n:PD):Option Xr:=match g with
 |0=>oG [c,s,n]
 |1=>oR [t,c,s,n]
 |_=>oT [t,c,s,.tuple [.int 1,.int 2]]
section
variable{wh:Nat}{t c s n:PD}{cs:tZ}
def YC{r:Option AD}(R:wh<3)(h:(door wh t c s n).map (fun r=>match r with|.inl _=>none|.inr C=>some C)=some r):(Il (UA (Ca (ER false) (nm 0) (fC (.int 0)))
  (Il (Jl oG (AF (Au ES (nm 1) (fC (.int 1))) (AF (Au ES (nm 1) (fC (.int 2))) (AF (nm 2) Af))))
   KY)
  (Il (UA (Ca (ER false) (nm 0) (fC (.int 1)))
   (Il (Jl oR (AF (Au ES (nm 1) (fC (.int 0))) (AF (Au ES (nm 1) (fC (.int 1))) (AF (Au ES (nm 1) (fC (.int 2))) (AF (nm 2) Af)))))
    KY)
   (Il (Jl oT (AF (Au ES (nm 1) (fC (.int 0))) (AF (Au ES (nm 1) (fC (.int 1))) (AF (Au ES (nm 1) (fC (.int 2))) (AF (Jb (AF (fC (.int 1)) (AF (fC (.int 2)) Af))) Af)))))
    KY))
   KY))
  KY) [.d (.int (wh:Nat)),.d (.list [t,c,s]),.d n,.d .none,.no]=some r:=by
 obtain⟨x,g,I⟩:=aF.mp h
 match wh,R with
 |0,_=>
  cases x with
  |inl y=>cases I;exact IG (U7 rfl (IG (Qf (ds:=[c,s,n]) rfl g) rfl)) rfl
  |inr C=>cases I;exact ID (U7 rfl (ID (QK (ds:=[c,s,n]) rfl g)))
 |1,_=>
  cases x with
  |inl y=>cases I;exact IG (Pb rfl (IG (U7 rfl (IG (Qf (ds:=[t,c,s,n]) rfl g) rfl)) rfl)) rfl
  |inr C=>cases I;exact ID (Pb rfl (ID (U7 rfl (ID (QK (ds:=[t,c,s,n]) rfl g)))))
 |2,_=>
  cases x with
  |inl y=>cases I;exact IG (Pb rfl (IG (Pb rfl (IG (Qf (ds:=[t,c,s,.tuple [.int 1,.int 2]]) rfl g) rfl)) rfl)) rfl
  |inr C=>cases I;exact ID (Pb rfl (ID (Pb rfl (ID (QK (ds:=[t,c,s,.tuple [.int 1,.int 2]]) rfl g)))))
def U4{C:AD}{x:PD}(I:wh<3)(h:door wh t c s n=some (.inr C))(k:JR [JU C]=some x):Kd [.int (wh:Nat),.list [t,c,s],n]=some x:=by
 refine O8 rfl ?_;unfold LQ;refine BN rfl (BN (gY (C:=C) (δ':=[.d (.int (wh:Nat)),.d (.list [t,c,s]),.d n,.d (JU C),.d (JU C)]) (YC I (by rw[h];rfl)) rfl) (Pe (CY (xs:=[JU C]) rfl k)))
def VH{y:PD}(g:wh<3)(h:door wh t c s n=some (.inl y)):Kd [.int (wh:Nat),.list [t,c,s],n]=some (.list []):=by
 refine O8 rfl ?_;unfold LQ;exact BN rfl (BN (fN (YC g (by rw[h];rfl))) (Pe (CY (xs:=[.none]) rfl iH)))
def gD(M:wh<3)(R:t.canLay0=true)(h:Cg t=true)(g:c.canLay0=true)(I:DH c=false):Kd [.int (wh:Nat),.list [t,c,s],n]=some (word "change"):=by
 refine U4 M ?_ dk
 match wh,M with
 |0,_=>exact GB (LD (Cc rfl (by unfold Jg;exact Eo (C2 (ds:=[c]) rfl (dU g I))))) (.head _)
 |1,_=>exact GB (LD (Cc rfl (by unfold Jr;exact Eo (C2 (ds:=[t,c,s]) rfl (Zs R h g I))))) (.head _)
 |2,_=>exact GB (LD (Cc rfl (by unfold Jt;exact Eo (C2 (ds:=[t,c,s]) rfl (Zs R h g I))))) (.head _)
def VS(g:wh<3)(h0:0<wh)(I:t.canLay0=true)(h:Cg t=false):Kd [.int (wh:Nat),.list [t,c,s],n]=some (word "table"):=by
 refine U4 g ?_ dB
 match wh,g,h0 with
 |1,_,_=>exact GB (LD (Cc rfl (by unfold Jr;exact Eo (C2 (ds:=[t,c,s]) rfl (Zw I h))))) (.tail _ (.tail _ (.head _)))
 |2,_,_=>exact GB (LD (Cc rfl (by unfold Jt;exact Eo (C2 (ds:=[t,c,s]) rfl (Zw I h))))) (.tail _ (.tail _ (.head _)))
def Yp(Y:wh<3)(Z:t.canLay0=true)(h:Cg t=true)(I:(PyData.list cs).canLay0=true)(R:DH (.list cs)=true)(g:s.canLay0=true)(M:C5 s cs.length=false):Kd [.int (wh:Nat),.list [t,.list cs,s],n]=some (word "start"):=by
 refine U4 Y ?_ dF
 match wh,Y with
 |0,_=>exact GB (LD (Cc rfl (by unfold Jg;exact Dm (Cj (ds:=[.list cs]) rfl (Oh I R)) (Eo (C2 (ds:=[s,.int (cs.length:Nat)]) rfl (dA g M)))))) (.tail _ (.head _))
 |1,_=>exact GB (LD (Cc rfl (by unfold Jr;exact Eo (C2 (ds:=[t,.list cs,s]) rfl (Wo Z h I R g M))))) (.tail _ (.head _))
 |2,_=>exact GB (LD (Cc rfl (by unfold Jt;exact Eo (C2 (ds:=[t,.list cs,s]) rfl (Wo Z h I R g M))))) (.tail _ (.head _))
def Tx{i:Int}(Y:wh<2)(Z:t.canLay0=true)(h:Cg t=true)(M:(PyData.list cs).canLay0=true)(U:DH (.list cs)=true)(I:s.canLay0=true)(R:C5 s cs.length=true)(hi:i<0\/7<i):Kd [.int (wh:Nat),.list [t,.list cs,s],.int i]=some (word "many"):=by
 refine U4 AC ?_ ZY
 match wh,Y with
 |0,_=>exact GB (LD (Cc rfl (by unfold Jg;exact Dm (Cj (ds:=[.list cs]) rfl (Oh M U)) (Dm (Cj (ds:=[s,.int (cs.length:Nat)]) rfl (W7 I R)) (Eo (C2 (ds:=[.int i]) rfl (iP hi))))))) (.tail _ (.tail _ (.tail _ (.head _))))
 |1,_=>exact GB (LD (Cc rfl (by unfold Jr;exact Dm (Cj (ds:=[t,.list cs,s]) rfl (Zk Z h M U I R)) (Eo (C2 (ds:=[.int i]) rfl (iP hi)))))) (.tail _ (.tail _ (.tail _ (.head _))))
def OG{N ps:t7}{J:Gm}{ds:tZ}(g:ds.length=ps.length)(h:J (LV N ds)=none):GF ps N J ds=none:=by unfold GF;rw[if_pos g,h]
structure Gd(t:Tb)(uss:Ch)(rs:List Rat)(many:Nat):Prop where
 gr:Hl uss rs 7 many
 st:EF t uss rs 7 many
 to:lT t uss rs (Rat.divInt 1 2) many
section
variable{t:Tb}{uss:Ch}{rs:uC}{many m:Nat}(g:Gd t uss rs many)
include g
theorem Gd.start:C5 (.list (AV rs)) (uss.map Bz).length=true:=by
 unfold C5;rw[show Bf (.list (AV rs))=true from List.all_eq_true.mpr fun d hd=>by
  unfold AV at hd;obtain⟨r,_,rfl⟩:=aL.mp hd;exact V3 r,(Fo)]
 show decide ((AV rs).length=_)=true;rw[DY,(Ah),g.gr.len,g.gr.Gi];exact bV rfl
theorem Gd.tab:Cg (CM t)=true:=g.st.tab.is AS
theorem Gd.led(n:PD):∃y,door 2 (CM t) (Bv uss) (.list (AV rs)) n=some (.inl y):=by
 obtain⟨x,I⟩:∃x,gT [CM t,Bv uss,.list (AV rs),HH (Rat.divInt 1 2)]=some x:=Vy (a:=(t,uss,rs,Rat.divInt 1 2)) ⟨many,g.to⟩;have e:HH (Rat.divInt 1 2)=.tuple [.int 1,.int 2]:=by kernel_rfl
 refine⟨x,SR (Yv (OG rfl (by unfold Jt;exact Dm (Cj (ds:=[CM t,Bv uss,.list (AV rs)]) rfl (Zk (MY t) g.tab (B6 (Gn uss)) g.gr.good (B6 (EO rs)) g.start)) rfl)) ?_)⟩;rw[<-e];exact bA (Option.map Sum.inl) I
theorem Gd.in(hw:wh<3)(hm:m<=7):Kd [.int (wh:Nat),.list [CM t,Bv uss,.list (AV rs)],.int (m:Nat)]=some (.list []):=by
 have k1:=MY t;have U:(Bv uss).canLay0=true:=B6 (Gn uss);have R:(PyData.list (AV rs)).canLay0=true:=B6 (EO rs);have h1:=g.tab;have Z:=g.gr.good;have Y:=g.start
 match wh,hw with
 |0,_=>
  obtain⟨x,M⟩:∃x,gG [Bv uss,.list (AV rs),.int (m:Nat)]=some x:=Vy (a:=(uss,rs,m)) ⟨many,g.gr.n4,g.gr.len,g.gr.Gi,hm,g.gr.fit,g.gr.pw,g.gr.Ob,g.gr.good⟩;exact VH (y:=x) AS (SR (Yv (OG rfl (by unfold Jg;exact Dm (Cj (ds:=[Bv uss]) rfl (Oh U Z)) (Dm (Cj (ds:=[.list (AV rs),.int ((uss.map Bz).length:Nat)]) rfl (W7 R Y)) (Dm (Cj (ds:=[.int (m:Nat)]) rfl (iu hm)) rfl)))) (bA (Option.map Sum.inl) M)))
 |1,_=>
  obtain⟨x,M⟩:∃x,gR [CM t,Bv uss,.list (AV rs),.int (m:Nat)]=some x:=Vy (a:=(t,uss,rs,m)) ⟨many,g.st.tab,g.st.Qi,g.st.n4,g.st.len,g.st.Gi,hm,g.st.fit,g.st.pw,g.st.Ob,g.st.good⟩;exact VH (y:=x) AS (SR (Yv (OG rfl (by unfold Jr;exact Dm (Cj (ds:=[CM t,Bv uss,.list (AV rs)]) rfl (Zk k1 h1 U Z R Y)) (Dm (Cj (ds:=[.int (m:Nat)]) rfl (iu hm)) rfl))) (bA (Option.map Sum.inl) M)))
 |2,_=>
  obtain⟨y,hy⟩:=g.led (.int (m:Nat));exact VH AS hy
end
end
noncomputable abbrev pC:DF:=(Bd (gI 15 (AF (BQ (AF (fC (.str (Str.ofString "change"))) Af)) (AF (BQ (AF (fC (.str (Str.ofString "start"))) Af)) (AF (BQ (AF (fC (.str (Str.ofString "many"))) Af)) Af))))
  (Bd (Gp (Ca (ER false) (nm 14) (fC (.int 2)))
   (Yt 15 (BQ Af) (fC (.int 2)))
   D6)
  (Bd (NJ (om (BQ (AF (nm 9) (AF (nm 3) Af)))) (VP 16)
   (Gp (M6 (Ca (ER true) (Cw Kd (AF (nm 14) (AF (BQ (AF (nm 4) (AF (nm 8) (AF (nm 16) Af)))) (AF (nm 7) Af)))) (Au ES (nm 15) (fC (.int 0)))))
    (FE (fC (.bool false)))
    D6))
  (Bd (Gp (M6 (Ca (ER true) (Cw Kd (AF (nm 14) (AF (BQ (AF (nm 4) (AF (nm 2) (AF (nm 9) Af)))) (AF (nm 7) Af)))) (Au ES (nm 15) (fC (.int 1)))))
   (FE (fC (.bool false)))
   D6)
  (Bd (Gp (M6 (Ca (ER true) (Cw Kd (AF (nm 14) (AF (BQ (AF (nm 4) (AF (nm 2) (AF (nm 3) Af)))) (AF (nm 7) Af)))) (Au ES (nm 15) (fC (.int 2)))))
   (FE (fC (.bool false)))
   D6)
  (Bd (Gp (SO (Ca (Ho fun i j=>decide (j<i)) (nm 14) (fC (.int 0))) (Ca (ER true) (Cw Kd (AF (nm 14) (AF (BQ (AF (nm 13) (AF (nm 8) (AF (nm 9) Af)))) (AF (nm 7) Af)))) (BQ (AF (fC (.str (Str.ofString "table"))) Af))))
   (FE (fC (.bool false)))
   D6)
  (Bd (Gp (SO (Ca (Ho fun i j=>decide (j<i)) (nm 14) (fC (.int 0))) (Ca (ER true) (Cw Kd (AF (nm 14) (AF (BQ (AF (nm 13) (AF (nm 2) (AF (nm 3) Af)))) (AF (nm 6) Af)))) (BQ (AF (fC (.str (Str.ofString "table"))) Af))))
   (FE (fC (.bool false)))
   D6)
  (Gp (Ca (ER true) (Cw Kd (AF (nm 14) (AF (BQ (AF (nm 4) (AF (nm 2) (AF (nm 3) Af)))) (AF (nm 6) Af)))) (BQ Af))
   (FE (fC (.bool false)))
   D6))))))))
def rB:ER true (word "change") (word "change")=some (.bool false):=by kernel_rfl
def rG:ER true (word "start") (word "start")=some (.bool false):=by kernel_rfl
def ml:ER true (word "table") (word "table")=some (.bool false):=by kernel_rfl
def my:ER true (word "many") (word "many")=some (.bool false):=by kernel_rfl
def UO:Nat->PD
 |2=>.list []
 |_=>word "many"
def ne_nil:ER true (.list []) (.list [])=some (.bool false):=by kernel_rfl
def YD{a b:tY}{δ:Dv}{q:Option Bool}(h:a δ=some true)(k:b δ=q):SO a b δ=q:=by show(a δ).bind _=q;rw[h];exact k
def YK{a b:tY}{δ:Dv}(h:a δ=some false):SO a b δ=some false:=by show(a δ).bind _=_;rw[h];rfl
section
variable{t:Tb}{uss:Ch}{rs:uC}{many:Nat}(g:Gd t uss rs many)
include g
theorem Gd.turn{ns:t6}{x M:Int}{m I:Nat}(Z:I<3)(hm:m<=7)(hf:M<0\/7<M){N W O r10 r11:PD}(n1:N.canLay0=true)(n2:DH N=false)(w1:W.canLay0=true)(w2:C5 W many=false)(o1:O.canLay0=true)(o2:Cg O=false)(U l15 Y:L):∃l15' R:L,pC [.d (LC ns),.d (.int (many:Nat)),.d (Bv uss),.d (.list (AV rs)),.d (CM t),.d (.int x),.d (.int (m:Nat)),.d (.int M),.d N,.d W,.d r10,.d r11,U,.d O,.d (.int (I:Nat)),l15,Y]=some (.nx [.d (LC ns),.d (.int (many:Nat)),.d (Bv uss),.d (.list (AV rs)),.d (CM t),.d (.int x),.d (.int (m:Nat)),.d (.int M),.d N,.d W,.d r10,.d r11,U,.d O,.d (.int (I:Nat)),l15',R]):=by
 have k1:=MY t;have h1:=g.tab;have k2:(Bv uss).canLay0=true:=B6 (Gn uss);have k3:(PyData.list (AV rs)).canLay0=true:=B6 (EO rs);have h2:=g.gr.good;have h3:=g.start;have hl:(uss.map Bz).length=many:=by rw[(Ah)];exact g.gr.len
 have w2':C5 W (uss.map Bz).length=false:=by rw[hl];exact w2
 have s2:(Gp (Ca (ER false) (nm 14) (fC (.int 2)))
   (Yt 15 (BQ Af) (fC (.int 2)))
   D6) [.d (LC ns),.d (.int (many:Nat)),.d (Bv uss),.d (.list (AV rs)),.d (CM t),.d (.int x),.d (.int (m:Nat)),.d (.int M),.d N,.d W,.d r10,.d r11,U,.d O,.d (.int (I:Nat)),.own (.lst [word "change",word "start",word "many"]),Y]=some (.nx [.d (LC ns),.d (.int (many:Nat)),.d (Bv uss),.d (.list (AV rs)),.d (CM t),.d (.int x),.d (.int (m:Nat)),.d (.int M),.d N,.d W,.d r10,.d r11,U,.d O,.d (.int (I:Nat)),.own (.lst [word "change",word "start",(UO I)]),Y]):=by
  match I,Z with
  |0,_=>exact GI rfl rfl
  |1,_=>exact GI rfl rfl
  |2,_=>exact U1 rfl rfl
 refine⟨.own (.lst [word "change",word "start",(UO I)]),.d (.list (AV rs)),?_⟩;refine BN (lx (ys:=[word "change",word "start",word "many"]) rfl AS) (BN s2 ?_);refine QF (xs:=[W,.list (AV rs)]) (fun i δ=>∃R:L,(i=2->R=.d (.list (AV rs)))/\δ=[.d (LC ns),.d (.int (many:Nat)),.d (Bv uss),.d (.list (AV rs)),.d (CM t),.d (.int x),.d (.int (m:Nat)),.d (.int M),.d N,.d W,.d r10,.d r11,U,.d O,.d (.int (I:Nat)),.own (.lst [word "change",word "start",(UO I)]),R]) rfl ⟨Y,fun z=>absurd z AS,rfl⟩ ?_ ?_
 .rintro i y δ hy ⟨l,_,rfl⟩;refine⟨_,rfl,_,GI (Cn (x:=word "change") (y:=word "change") (CY (xs:=[.int (I:Nat),.list [CM t,N,y],.int M]) rfl (gD Z k1 h1 n1 n2)) rfl rB) rfl,.d y,fun z=>?_,rfl⟩;have:i=1:=by lia
  subst this;cases hy;rfl
 .rintro δ ⟨l,hl2,rfl⟩;rw[hl2 rfl];refine BN (GI (Cn (x:=word "start") (y:=word "start") (CY (xs:=[.int (I:Nat),.list [CM t,Bv uss,W],.int M]) rfl (Yp Z k1 h1 k2 h2 w1 w2')) rfl rG) rfl) ?_;have e3:Kd [.int (I:Nat),.list [CM t,Bv uss,.list (AV rs)],.int M]=some (UO I)/\ER true (UO I) (UO I)=some (.bool false):=by
   match I,Z with
   |0,_=>exact⟨Tx AS k1 h1 k2 h2 k3 h3 hf,my⟩
   |1,_=>exact⟨Tx AS k1 h1 k2 h2 k3 h3 hf,my⟩
   |2,_=>
    obtain⟨y,hy⟩:=g.led (.int M);exact⟨VH AS hy,ne_nil⟩
  refine BN (GI (Cn (x:=(UO I)) (y:=(UO I)) (CY (xs:=[.int (I:Nat),.list [CM t,Bv uss,.list (AV rs)],.int M]) rfl e3.1) rfl e3.2) rfl) ?_;have gt:∀δ:Dv,nm 14 δ=some (.int (I:Nat))->Ca (Ho fun i j=>decide (j<i)) (nm 14) (fC (.int 0)) δ=some (decide (0<I)):=fun δ h=>(Cn (x:=.int (I:Nat)) (y:=.int 0) h rfl rfl).trans (bA some (decide_eq_decide.mpr AC));by_cases z:0<I
  .refine BN (GI (YD ((gt _ rfl).trans (by rw[decide_eq_true z])) (Cn (x:=word "table") (y:=word "table") (CY (xs:=[.int (I:Nat),.list [O,N,W],.int M]) rfl (VS Z z o1 o2)) rfl ml)) rfl) ?_;refine BN (GI (YD ((gt _ rfl).trans (by rw[decide_eq_true z])) (Cn (x:=word "table") (y:=word "table") (CY (xs:=[.int (I:Nat),.list [O,Bv uss,.list (AV rs)],.int (m:Nat)]) rfl (VS Z z o1 o2)) rfl ml)) rfl) ?_;exact GI (Cn (x:=.list []) (y:=.list []) (CY (xs:=[.int (I:Nat),.list [CM t,Bv uss,.list (AV rs)],.int (m:Nat)]) rfl (g.in Z hm)) rfl ne_nil) rfl
  .refine BN (GI (YK ((gt _ rfl).trans (by rw[decide_eq_false z]))) rfl) ?_;refine BN (GI (YK ((gt _ rfl).trans (by rw[decide_eq_false z]))) rfl) ?_;exact GI (Cn (x:=.list []) (y:=.list []) (CY (xs:=[.int (I:Nat),.list [CM t,Bv uss,.list (AV rs)],.int (m:Nat)]) rfl (g.in Z hm)) rfl ne_nil) rfl
end
def FO(a b:Int):PD:=.tuple [.int a,.int b]
def eT(C:tZ):tZ:=[.none,.tuple [],.int 0,.tuple C,.list (C++[.int 0]),.list [.list [FO 0 0]]]
def b9(S:tZ)(n:Nat):tZ:=[.list (S++[FO 0 1]),.list (S.drop 1),.none,.tuple S,.list (List.replicate n [FO 2 2]).flatten]
def Mf(R L:tZ):tZ:=[.none,.list [.list R,.list L],.tuple [.list R,.list L,.int 0],.tuple [.list R,.list (L++[FO 1 1])],.tuple [.list (R.take (R.length-1)),.list L],.tuple [.list [],.list []]]
def nB(R L:tZ):tZ:=Mf R L++[.tuple [.list (R++[.list []]),.list L]]
def QH(a b:Int):(FO a b).canLay0=true:=by simp[FO,PyData.canLay0,PyData.canLayAll0]
def Mq{ds:tZ}{e:PD}(h:∀d∈ds,d.canLay0=true)(k:e.canLay0=true):∀d∈ds++[e],d.canLay0=true:=fun d hd=>by
 rcases aQ.mp hd with hd|hd
 .exact h d hd
 .rw[List.mem_singleton.mp hd];exact k
def MV{a b:PD}(h:a.canLay0=true)(k:b.canLay0=true):∀d∈[a,b],d.canLay0=true:=fun d hd=>by
 rcases aU.mp hd with rfl|hd
 .exact h
 .rw[List.mem_singleton.mp hd];exact k
def jQ{C:List PD}(g:∀d∈C,d.canLay0=true):∀j,j<6->∃N,(eT C)[j]? = some N/\N.canLay0=true/\DH N=false
 |0,_=>⟨_,rfl,by decide +kernel,rfl⟩
 |1,_=>⟨_,rfl,by decide +kernel,rfl⟩
 |2,_=>⟨_,rfl,by decide +kernel,rfl⟩
 |3,_=>⟨_,rfl,Kr g,rfl⟩
 |4,_=>⟨_,rfl,B6 (Mq g (by decide +kernel)),oo (e:=.int 0) (aa _ (.head _)) rfl⟩
 |5,_=>⟨_,rfl,by decide +kernel,by decide +kernel⟩
def gJ{S:List PD}{n:Nat}(g:∀d∈S,d.canLay0=true)(M:S.length=n)(h1:1<=n):∀j,j<5->∃W,(b9 S n)[j]? = some W/\W.canLay0=true/\C5 W n=false
 |0,_=>⟨_,rfl,B6 (Mq g (QH _ _)),Z8 (by simp;lia)⟩
 |1,_=>⟨_,rfl,B6 fun d hd=>g d (bX hd),Z8 (by simp;lia)⟩
 |2,_=>⟨_,rfl,by decide +kernel,rfl⟩
 |3,_=>⟨_,rfl,Kr g,rfl⟩
 |4,_=>by
  have hm:∀d∈(List.replicate n [FO 2 2]).flatten,d=FO 2 2:=fun d hd=>by
   obtain⟨l,h1,I⟩:=bz.mp hd;rw[List.eq_of_mem_replicate h1]at I;exact List.mem_singleton.mp I
  refine⟨_,rfl,B6 fun d hd=>by rw[hm d hd];exact QH _ _,pS (e:=FO 2 2) (bz.mpr ⟨[FO 2 2],List.mem_replicate.mpr ⟨by lia,rfl⟩,.head _⟩) (by decide +kernel)⟩
def S4{R L:tZ}(h:L.length≠R.length):Cg (.tuple [.list R,.list L])=false:=by
 show(Dj (.list R)&&(Bf (.list L)&&decide (L.length=R.length)))=false;rw[decide_eq_false h,(MP),(MP)]
def l8{R L:List PD}(g:∀d∈R,d.canLay0=true)(I:∀d∈L,d.canLay0=true)(M:L.length=R.length)(h1:1<=R.length):∀j,j<7->∃O,(nB R L)[j]? = some O/\O.canLay0=true/\Cg O=false
 |0,_=>⟨_,rfl,by decide +kernel,rfl⟩
 |1,_=>⟨_,rfl,B6 (MV (B6 g) (B6 I)),rfl⟩
 |2,_=>⟨_,rfl,Kr fun d hd=>by
   rcases aU.mp hd with rfl|hd
   .exact B6 g
   .exact MV (B6 I) (by decide +kernel) d hd,rfl⟩
 |3,_=>⟨_,rfl,Kr (MV (B6 g) (B6 (Mq I (QH _ _)))),S4 (by simp;lia)⟩
 |4,_=>⟨_,rfl,Kr (MV (B6 fun d hd=>g d (bW hd)) (B6 I)),S4 (by simp;lia)⟩
 |5,_=>⟨_,rfl,by decide +kernel,by decide +kernel⟩
 |6,_=>⟨_,rfl,Kr (MV (B6 (Mq g (by decide +kernel))) (B6 I)),S4 (by simp;lia)⟩
def k7(y:Int):∀j,j<4->∃i,[PyData.int 8,.int (-1),.int (9+y % 10^39),.int (0-2-y % 10^39)][j]? = some (.int i)/\(i<0\/7<i)
 |0,_=>⟨_,rfl,.inr AS⟩
 |1,_=>⟨_,rfl,.inl AS⟩
 |2,_=>⟨_,rfl,.inr (by have:=Int.emod_nonneg y (show(10:Int)^39≠0 by decide);lia)⟩
 |3,_=>⟨_,rfl,.inl (by have:=Int.emod_nonneg y (show(10:Int)^39≠0 by decide);lia)⟩
def md5{x a b:Int}{j:Nat}(ha:0<a)(g:a.natAbs<2^64)(hb:0<b)(e:x / a % b=j){δ:Dv}(h:nm 5 δ=some (.int x)):Au Gj (Au QT (nm 5) (fC (.int a))) (fC (.int b)) δ=some (.int (j:Nat)) :=
 (BI (x:=.int (x / a)) (y:=.int b) (BI (x:=.int x) (y:=.int a) h rfl (div_is ha g)) rfl (mod_is hb)).trans (by rw[e])
def lR{f:tX}{set:PD->Dv->Option Dv}{δ δ':Dv}{x:PD}(h:f δ=some x)(k:set x δ=some δ'):mn f set δ=some (.nx δ'):=by
 show(f δ).bind _=_;rw[h];show(set x δ).map _=_;rw[k];rfl
def iB{f:tX}{δ:Dv}{R:tZ}(h:f δ=some (.list R)):Yq f VG (Uv (gz (fC (.int 1)))) δ=some (.list (R.take (R.length-1))):=by
 show(f δ).bind _=_;rw[h,(OH),(OH)];show some (PyData.list (cutD R none (some (-1))))=_;unfold cutD;rw[HT.LR,List.drop_zero,Nat.sub_zero,show HT.BW R.length R.length (some (-1))=(-1+(R.length:Int)).toNat by unfold HT.BW;exact if_pos AS,show(-1+(R.length:Int)).toNat=R.length-1 by lia]
def o9{f:tX}{δ:Dv}{R:tZ}(h:f δ=some (.list R)):Yq f (Uv (fC (.int 1))) VG δ=some (.list (R.drop 1)):=by
 show(f δ).bind _=_;rw[h,(OH)];show some (PyData.list (cutD R (some ((1:Nat):Int)) none))=_;rw[lD]
section
variable{t:Tb}{uss:Ch}{rs:uC}{many:Nat}(g:Gd t uss rs many)
include g
theorem Gd.tP(ns:t6)(h1:1<=many):SU Dy Kd [.d (LC ns),.d (.int (many:Nat)),.d (Bv uss),.d (.list (AV rs)),.d (CM t),.no,.no,.no,.no,.no,.no,.no,.no,.no,.no,.no,.no]=some (.rt (.bool true)):=by
 obtain⟨x,hx⟩:=kM ns 12 AS;have hul:(uss.map Bz).length=many:=by rw[(Ah)];exact g.gr.len
 have Z:(AV rs).length=many:=by rw[DY];exact g.gr.Gi
 have m4:=g.gr.n4;have tab:=g.st.tab;have Y:(BU t.rs).length=t.rs.length:=Hz _;have hLl:(AV t.ls).length=(BU t.rs).length:=by rw[DY,Y];exact tab.last
 have r1:=tab.one;have r4:=tab.most;obtain⟨m,hm,em⟩:∃m:Nat,m<4/\x % 4=(m:Nat):=⟨(x % 4).toNat,by lia,by lia⟩;obtain⟨j1,hj1,ej1⟩:∃j:Nat,j<4/\x / 4 % 4=(j:Nat):=⟨(x / 4 % 4).toNat,by lia,by lia⟩;obtain⟨j2,hj2,ej2⟩:∃j:Nat,j<6/\x / 16 % 6=(j:Nat):=⟨(x / 16 % 6).toNat,by lia,by lia⟩;obtain⟨j3,hj3,ej3⟩:∃j:Nat,j<5/\x / 96 % 5=(j:Nat):=⟨(x / 96 % 5).toNat,by lia,by lia⟩;obtain⟨j4,hj4,ej4⟩:∃j:Nat,j<7/\x / 480 % 7=(j:Nat):=⟨(x / 480 % 7).toNat,by lia,by lia⟩;obtain⟨far,hfar,hf⟩:=k7 x j1 hj1;obtain⟨N,hN,n1,n2⟩:=jQ (Gn uss) j2 hj2;obtain⟨W,hW,w1,w2⟩:=gJ (EO rs) Z h1 j3 hj3;obtain⟨O,hO,o1,o2⟩:=l8 (WQ t.rs) (EO t.ls) hLl AC j4 hj4;have h39:∀δ:Dv,Au Lb (fC (.int 10)) (fC (.int 39)) δ=some (.int (10^39)):=fun δ=>BI (x:=.int 10) (y:=.int 39) rfl rfl (VM (n:=39) AS AS);have R:∀δ:Dv,nm 5 δ=some (.int x)->Au Gj (nm 5) (Au Lb (fC (.int 10)) (fC (.int 39))) δ=some (.int (x % 10^39)):=fun δ h=>BI h (h39 δ) (mod_is AS);unfold SU;refine BN (Ea (CY (xs:=[LC ns,.int (12:Nat)]) rfl hx)) ?_;refine BN (Ea (y:=.int (m:Nat)) ((BI (x:=.int x) (y:=.int 4) rfl rfl (mod_is AS)).trans (by rw[em]))) ?_;refine BN (Ea (y:=.int far) (BI (x:=.list [.int 8,.int (-1),.int (9+x % 10^39),.int (0-2-x % 10^39)]) (y:=.int (j1:Nat)) (MX (BJ rfl (BJ rfl (BJ (BI (x:=.int 9) rfl (R _ rfl) rfl) (BJ (BI (x:=.int (0-2)) rfl (R _ rfl) rfl) rfl)))) (show 4<=1000 by decide)) (md5 AS AS AS ej1 rfl) (FZ hfar))) ?_;refine BN (Ea (y:=N) (BI (x:=.list (eT (uss.map Bz))) (y:=.int (j2:Nat)) (MX (BJ rfl (BJ rfl (BJ rfl (BJ rfl (BJ (BI (x:=Bv uss) (y:=.list [.int 0]) rfl rfl (add_l (by rw[hul];show many+1<=1000;lia))) rfl))))) (show 6<=1000 by decide)) (md5 AS AS AS ej2 rfl) (FZ hN))) ?_;have rep:Ek (.list [FO 2 2]) (.int (many:Nat))=some (.list (List.replicate many [FO 2 2]).flatten):=by
  show R8 (.list [FO 2 2]) (.int (many:Nat))=_;refine(if_pos ⟨?_,by lia,by lia⟩).trans (by rw[(OD)]);rw[(OD)];show 1*many<=1000
  lia
 refine BN (Ea (y:=W) (BI (x:=.list (b9 (AV rs) many)) (y:=.int (j3:Nat)) (MX (BJ (BI (x:=.list (AV rs)) (y:=.list [FO 0 1]) rfl rfl (add_l (by rw[Z];show many+1<=1000;lia))) (BJ (o9 rfl) (BJ rfl (BJ rfl (BJ (BI (x:=.list [FO 2 2]) (y:=.int (many:Nat)) rfl rfl rep) rfl))))) (show 5<=1000 by decide)) (md5 AS AS AS ej3 rfl) (FZ hW))) ?_;refine BN (lR (x:=CM t) rfl rfl) ?_;refine BN (Ea (y:=.list (Mf (BU t.rs) (AV t.ls))) (MX (BJ rfl (BJ rfl (BJ rfl (BJ (TQ (BJ rfl (BJ (BI (x:=.list (AV t.ls)) (y:=.list [FO 1 1]) rfl rfl (add_l (by rw[hLl,Y];show t.rs.length+1<=1000;lia))) rfl)) (show 2<=1000 by decide)) (BJ (TQ (BJ (iB rfl) rfl) (show 2<=1000 by decide)) rfl))))) (show 6<=1000 by decide))) ?_;refine BN (Ea (y:=O) (BI (x:=.list (nB (BU t.rs) (AV t.ls))) (y:=.int (j4:Nat)) (BI (x:=.list (Mf (BU t.rs) (AV t.ls))) (y:=.list [.tuple [.list (BU t.rs++[.list []]),.list (AV t.ls)]]) rfl (MX (BJ (TQ (BJ (BI (x:=.list (BU t.rs)) (y:=.list [.list []]) rfl rfl (add_l (by rw[Y];show t.rs.length+1<=1000;lia))) rfl) (show 2<=1000 by decide)) rfl) (show 1<=1000 by decide)) (add_l (a:=Mf (BU t.rs) (AV t.ls)) (b:=[_]) (show 6+1<=1000 by decide))) (md5 AS AS AS ej4 rfl) (FZ hO))) ?_;refine QF (xs:=MC 0 3) (fun i δ=>∃U M I:L,δ=[.d (LC ns),.d (.int (many:Nat)),.d (Bv uss),.d (.list (AV rs)),.d (CM t),.d (.int x),.d (.int (m:Nat)),.d (.int far),.d N,.d W,.d (.list (BU t.rs)),.d (.list (AV t.ls)),.d (.list (Mf (BU t.rs) (AV t.ls))),.d O,U,M,I]) (Zr (j:=3) rfl AS AS) ⟨_,_,_,rfl⟩ ?_ ?_
 .rintro i y δ hy ⟨U,M,I,rfl⟩;obtain⟨e,hi⟩:=YT hy;subst e;have hi3:i<3:=hi;obtain⟨a,b,k⟩:=g.turn (ns:=ns) (x:=x) (r10:=.list (BU t.rs)) (r11:=.list (AV t.ls)) hi3 (show m<=7 by lia) hf n1 n2 w1 w2 o1 o2 (.d (.list (Mf (BU t.rs) (AV t.ls)))) M I;rw[show(0:Int)+(i:Int)=((i:Nat):Int) by lia];exact⟨_,rfl,_,k,_,_,_,rfl⟩
 .rintro δ ⟨U,M,I,rfl⟩
  rfl
end
def pQ{t:Tb}{uss:Ch}{rs:uC}{many:Nat}(co:Gu uss many)(I:uss.length=many)(Y:DH (.list (uss.map Bz))=true)(h1:1<=many)(h4:many<=4)(R:rs.length=many)(U:∀r∈rs,Tc r)(ot:t.Ok 4)(Z:∀r∈t.rs,∀q∈r,Tc q)(hls:∀q∈t.ls,Tc q):Gd t uss rs many:=by
 have pw:∀us∈uss,∀m∈us,Dk many m.1:=fun us M m hm=>by
  obtain⟨_,_,a,b,_,c⟩:=(co.EK us M).2 m hm;exact⟨a,fun p hp=>(b p hp).1,by have:m.1.sum<=2:=c;lia⟩
 refine⟨⟨h4,I,R,by decide,fun us M=>⟨(co.EK us M).1,fun m hm=>((co.EK us M).2 m hm).1.mono⟩,pw,fun r g=>(U r g).1.mono,Y⟩,⟨ot,⟨fun r g q hq=>(Z r g q hq).1,fun q hq=>(hls q hq).1⟩,h4,I,R,by decide,fun us M=>⟨(co.EK us M).1,fun m hm=>((co.EK us M).2 m hm).1⟩,pw,fun r g=>(U r g).1,Y⟩,⟨ot,fun r g=>?_,co,Y,I,R,U,h1,h4,⟨by decide +kernel,by decide +kernel⟩⟩⟩;unfold Ak at g;rcases aQ.mp g with g|g
 .exact Z r (bX g)
 .rw[List.mem_singleton.mp g];exact hls
def UD(n:Nat):uC:=(List.range n).map fun k=>(((k:Nat):Int):Rat)
def jz(n:Nat):(UD n).length=n:=by unfold UD;rw[(Ah),List.length_range]
def gn(n:Nat):UD (n+1)=UD n++[(((n:Nat):Int):Rat)]:=by unfold UD;rw[(Ny),(A4)];rfl
def mQ{n:Nat}(h:n<=3):∀r∈UD n,Tc r:=fun r g=>by
 obtain⟨k,hk,rfl⟩:=aL.mp g;have:=bU.mp hk;exact⟨⟨show((k:Int)).natAbs<8 by lia,by show 1<8;decide⟩,by show 1<=6;decide⟩
def Y6(K:Fg):Sp:=fun vs H Q _=>∃(a:AD) (ns:List Int),vs=[.ref a]/\AU K H a (ns.map V.int)/\ns.length<=63/\∀H',Q (.bl true) H'
section
variable{P:F0b}{w:F0c}{K:Fg}{mg:tm}{base:Heap}{f g1 g2 g3 g4:AD}{fd gd1 gd2 gd3 gd4:F0a}
def lq{k:Nat}(hK:U2 K=true)(F:Fn K mg "law" RZ ["_law_script"] f fd)(Bm:Fn K mg "_law_cell" EM ["_law_script","_law_k"] g1 gd1)(Hg:Fn K mg "_law_change" KP ["_law_script","_law_start_here","_law_many","_law_most"] g2 gd2)(Ik:Fn K mg "_law_table" K9 ["_law_script","_law_start_here","_law_most"] g3 gd3)(CO:Fn K mg "_law_flags" Ic ["_law_which","_law_some","_law_most"] g4 gd4) (Dr:AH P w K mg base Aa k g1 gd1 ["_law_script","_law_k"] (PB K))(I:AH P w K mg base Aa k g1 gd1 ["_law_script","_law_k"] (HA Dy))(UU:AH P w K mg base Aa k g2 gd2 ["_law_script","_law_start_here","_law_many","_law_most"] (Vl K))(W9:AH P w K mg base Aa k g3 gd3 ["_law_script","_law_start_here","_law_most"] (Vv K))(Cp:AH P w K mg base Aa k g4 gd4 ["_law_which","_law_some","_law_most"] (HA Kd)) (A3:mg "range" = none)(CA:mg "tuple" = none):AH P w K mg base Aa (k+1) f fd ["_law_script"] (Y6 K):=by
 have sc:=cf;refine F.F.ok (k:=k) sc BY As
 .obtain⟨a,ns,rfl,_⟩:=h
  rfl
 obtain⟨a,ns,rfl,hS,h63,q⟩:=h;obtain⟨tt,pt,kt⟩:=eh Bm I CO Cp A3 CA cdv A outer s H E hr;refine⟨_,(AG (AX (i:=1) sc.nd rfl AT (Ae Cf AJ (Ae Me (AZ Bm Dr hr rfl (AA FS (AA AJ AB))) AJ)))
  (AG (AX (i:=2) sc.nd rfl AT (AZ Hg UU hr rfl (AA FS (AA AJ (AA Fa (AA AJ AB))))))
  (AG (FA (i:=3) [".0","_law_k"] 1 [none,none] sc.nd rfl rfl (C4 rfl A3 (AA Fa AB)) F9 (fun _ _ _ _ _=>(Eh (AA Fa (AA AJ AB)))))
  (AG (AX (i:=4) sc.nd rfl AT (AZ Ik W9 hr rfl (AA FS (AA AJ (AA AJ AB))))) pt)))),?_⟩
 refine⟨_,rfl,a,ns,0,rfl,hS,by decide,by decide,fun x0=>⟨_,_,rfl,rfl,(by show(0:Int)<3;decide),_,_,rfl,rfl,?_⟩⟩;obtain⟨many,R,hm3,em⟩:∃many:Nat,1<=many/\many<=3/\1+x0 % 3=(many:Int):=⟨(1+x0 % 3).toNat,by lia,by lia,by lia⟩;rw[show((fun i j:Int=>V.int (i+j)) 1 (x0 % 3))=V.int (many:Int) from bA V.int em];have hm4:many<=4:=by lia
 refine⟨_,rfl,_,rfl,a,ns,many,rfl,hS,R,hm4,fun vC H1 M e1 htl Am dC=>?_⟩;have hcd:=gm htl R Am;have co:=kW (many:=many) AC Am;have hul:(M.map fun us=>us.map Ll).length=many:=by rw[(Ah)];exact htl
 have dC:DU H1 (.list ((M.map fun us=>us.map Ll).map Bz)) vC:=by
  have e:(M.map fun us=>us.map Ll).map Bz=M.map J6:=by
   rw[(HM)];exact bP fun us hu=>(X0 (Am us hu)).symm
  rw[e];exact dC
 generalize M.map (fun us=>us.map Ll)=uss at hcd co hul dC;refine⟨_,rfl,(many:Int),rfl,by lia,by lia,fun D hD=>Bo (n:=(many:Int).toNat) (fun i ys H'=>AK H1 H'/\ys.length=i/\Aq H' (AV (UD i)) ys) ⟨AO hD _,rfl,.nil⟩ ?_ ?_⟩
 .rintro i ys H2 hi ⟨e2,Z,dy⟩ Y;refine⟨hi,Bt (n:=60) AC AS,fun x H' y=>?_⟩;obtain⟨rfl,rfl⟩:=y;unfold B0;refine Ba ⟨_,rfl,BX (show 2<=60 by decide),fun p hp=>?_⟩;have U:=AO hp (.tup [V.int (0+(i:Int)),V.int 1]);have h3:upd H' p (.tup [V.int (0+(i:Int)),V.int 1]) p=some (.tup (IX (((i:Nat):Int):Rat))):=by
   rw[AM,show(0:Int)+(i:Int)=((i:Nat):Int) by lia];rfl
  have hD3:=U _ _ Y;refine⟨hD3,BG hi ⟨fun b o z=>?_,by simp[Z],?_⟩⟩
  .rw[AN (AR z hD)];exact U _ _ (e2 _ _ z)
  .have dn:Aq (upd H' p (.tup [V.int (0+(i:Int)),V.int 1])) (AV (UD (i+1))) (ys++[.ref p]):=by
    rw[gn,J7];exact(dy.same U).app (.cons (Rg h3) .nil)
   exact GV hD3 .upd dn
 .rintro ys H2 ⟨e2,Z,dy⟩ Y;rw[(OD)]at dy;refine⟨aH _,?_⟩;refine⟨_,rfl,a,ns,rfl,(e1.trans e2).seq hS,fun vt H3 t U dt ot hrs hls=>?_⟩;have g:=pQ (t:=t) co hul hcd R hm4 (jz many) (mQ hm3) ot hrs hls;refine kt _ _ (g.tP ns R) H3 H3 H3 H3 _ _ ⟨.refl _,Nw.refl,.refl _,.refl _,rfl,fun i x h=>?_,fun i xs h=>?_,fun i j xs ys _ h=>?_,fun q hq=>by cases hq⟩ fun v G' H' _ _ _ _ dv=>?_
  .rcases i with _|_|_|_|_|_|_|_|_|_|_|_|_|_|_|_|_|i
   .cases h;exact⟨_,rfl,lY ((mR hK hS).same ((e1.trans e2).trans U))⟩
   .cases h;exact⟨_,rfl,by rw[Du]⟩
   .cases h;exact⟨_,rfl,(dC.same (e2.trans U)).du⟩
   .cases h;exact⟨_,rfl,(DU.lst (U _ _ Y) (dy.same U)).du⟩
   .cases h;exact⟨_,rfl,dt.du⟩
   all_goals first|(cases h;done)|(simp at h)
  .rcases i with _|_|_|_|_|_|_|_|_|_|_|_|_|_|_|_|_|i
   all_goals first|(cases h;done)|(simp at h)
  .rcases i with _|_|_|_|_|_|_|_|_|_|_|_|_|_|_|_|_|i
   all_goals first|(cases h;done)|(simp at h)
  .rw[Du]at dv;subst dv;exact q H'
end
section
open PySem.W
def fnX{w:F0c}{mg:tm}{h:Heap}(X:(kH w.params).In h)(G:h.Ns mainGlobals mg)(n:String)(i:Nat)(m:String×Nat)(c:Nat)(ps:t7)
 (ha:nsIn (kH w.params) mainGlobals (Str.ofString n)=some (some (.ref (c+1))):=by kernel_rfl)(g:(kH w.params).lookup (c+1)=some (fO n i m.1 m.2 c):=by kernel_rfl)(I:codeIn (kH w.params) (.ref c) (Str.ofString n)=true:=by kernel_rfl)(hk:keepIn (kH w.params) (.ref (c+1))=true:=by kernel_rfl)
 (hb:∀(kV doc pm:VL) (an:Option AD) (cdv ct:VL) (us:tf),us.length=ps.length->bindArgs (fnOf (Str.ofString n) (Str.ofString n) (G5 (top i)) (EA (top i)) (AQ (top i)) .none kV doc pm an cdv ct) ⟨us,[]⟩=pure (ps.zip us):=by first|(exact fun _ _ _ _ _ _ us g=>match us,g with|[_],_=>rfl)|(exact fun _ _ _ _ _ _ us g=>match us,g with|[_,_],_=>rfl)|(exact fun _ _ _ _ _ _ us g=>match us,g with|[_,_,_],_=>rfl)|(exact fun _ _ _ _ _ _ us g=>match us,g with|[_,_,_,_],_=>rfl)|(exact fun _ _ _ _ _ _ us g=>match us,g with|[_,_,_,_,_],_=>rfl)|(exact fun _ _ _ _ _ _ us g=>match us,g with|[],_=>rfl)) :
  Fn (kH w.params) mg (Str.ofString n) (top i) ps (c+1) (fnOf (Str.ofString n) (Str.ofString n) (G5 (top i)) (EA (top i)) (AQ (top i)) .none .none .none (.str (Str.ofString m.1) m.2) none (.ref c) .none) :=
 ⟨dJ g I hk,(dJ (st:=top i) g I hk).binds hb,mg_of X G ha⟩
def Mn{w:F0c}{mg:tm}{h:Heap}(X:(kH w.params).In h)(G:h.Ns mainGlobals mg)(n:String)(v:VL)(e:nsIn (kH w.params) mainGlobals (Str.ofString n)=some (some v):=by kernel_rfl):mg (Str.ofString n)=some v:=mg_of X G e
def LU{w:F0c}{mg:tm}{h:Heap}(X:(kH w.params).In h)(G:h.Ns mainGlobals mg)(n:String)(e:nsIn (kH w.params) mainGlobals (Str.ofString n)=some none:=by kernel_rfl):mg (Str.ofString n)=none:=mg_none_of X G e
set_option maxHeartbeats 4000000 in
def sd(w:F0c)(mg:tm)(fa:AD)(h:Heap)(X:(kH w.params).In h)(G:h.Ns mainGlobals mg)(hfa:mg "law" = some (.ref fa)):∃fd:F0a,(∀(s:SD) (v:VL),BindsTo s fd ⟨[v],[]⟩ [("_law_script",v)])/\∀base:Heap,(kH w.params).In base->base.Ns mainGlobals mg->AH Df.prog w (kH w.params) mg base Aa 14 fa fd ["_law_script"] (Y6 (kH w.params)):=by
 have e:=hfa.symm.trans (mg_of X G (v:=.ref 557) (by kernel_rfl));cases e;have Cb:=fnX X G "fraction_of" 15 Kg 177 ["top","bottom"];have EH:=fnX X G "is_fraction" 16 Kg 184 FI;have BV:=fnX X G "are_fractions" 17 Kg 191 FI;have Ez:=fnX X G "is_whole" 18 Kg 198 FI;have A8:=fnX X G "greatest_divisor" 19 Kg 205 ["one","other"];have A0:=fnX X G "common_bottom" 20 Kg 212 ["bottoms"];have IP:=fnX X G "frac_total" 21 Kg 217 ["some"];have DQ:=fnX X G "power_of" 22 Kg 224 ["base","power"];have Lm:=fnX X G "is_poly" 24 Kh 231 EQ;have Lz:=fnX X G "is_term" 25 Kh 238 EQ;have Iy:=fnX X G "are_powers" 26 Kh 245 EQ;have BO:=fnX X G "refuse_no_start" 27 Kh 252 EQ;have G8:=fnX X G "refuse_start" 28 Kh 259 [];have Fy:=fnX X G "one_less" 29 Kh 266 ["powers","k"];have Kz:=fnX X G "worth_at" 30 Kh 271 ["some","start"];have Ir:=fnX X G "term_worth" 31 Kh 278 ["powers","part","start"];have GP:=fnX X G "product_up_to" 33 qj 285 ["many"];have Dx:=fnX X G "grain_of" 35 JD 290 ["start"];have EW:=fnX X G "pace_of" 36 JD 297 ["change","grain"];have HX:=fnX X G "whole_start" 37 JD 302 ["start","grain"];have Bx:=fnX X G "tops_over" 38 JD 307 ["some","bottom"];have Gy:=fnX X G "table_bottom" 39 JD 312 ["table"];have CB:=fnX X G "whole_change" 40 JD 317 ["change","grain"];have Ib:=fnX X G "whole_poly" 41 JD 324 ["some","bottom","grain","greatest"];have DP:=fnX X G "speeds_bottom" 42 JD 329 ["change"];have C3:=fnX X G "greatest_power" 43 JD 336 ["change"];have FH:=fnX X G "is_change" 45 i5 343 FI;have BE:=fnX X G "refuse_no_change" 46 i5 350 FI;have F0:=fnX X G "growth_rows" 49 Kk 355 ["change","start","most"];have Bl:=fnX X G "refuse_too_many" 50 Kk 362 ["most"];have CS:=fnX X G "row_of_fractions" 51 Kk 369 ["row","pace","grain"];have II:=fnX X G "whole_rows" 52 Kk 374 ["change","start","most","finer"];have DN:=fnX X G "powers_needed" 53 Kk 381 ["change"];have DL:=fnX X G "first_unknown" 54 Kk 388 ["powers"];have Eg:=fnX X G "product_at" 55 Kk 393 ["products","rows","powers","k"];have Fx:=fnX X G "speed_at" 56 Kk 398 ["some","products","k"];have Fs:=fnX X G "is_table" 59 X6 405 FI;have CC:=fnX X G "refuse_no_table" 60 X6 412 FI;have Ky:=fnX X G "are_rows" 61 X6 419 FI;have Jy:=fnX X G "step_to" 63 JG 424 ["table","change","start","length"];have HW:=fnX X G "step_rows" 64 JG 429 ["table","change","start","most"];have Bs:=fnX X G "refuse_no_step" 65 JG 436 Go;have Cy:=fnX X G "rows_that_read" 66 JG 443 ["table"];have Jj:=fnX X G "speeds_at" 67 JG 448 ["change","place"];have NQ:=fnX X G "led_to" 68 JG 453 ["start","row","speeds","length"];have Ip:=fnX X G "whole_step" 69 JG 458 ["reading","change","start","most"];have Ia:=fnX X G "speed_rows" 70 JG 463 ["change","order","places","most"];have MA:=fnX X G "read_at" 71 JG 468 ["row","speeds","unknown","most"];have Bm:=fnX X G "_law_cell" 73 HC 475 ["_law_script","_law_k"]
 have Ct:=fnX X G "_law_take" 74 HC 482 ["_law_pile","_law_size"];have Hf:=fnX X G "_law_shared" 75 HC 489 ["_law_one","_law_other"];have Jp:=fnX X G "_law_frac" 76 HC 496 ["_law_top","_law_bottom"];have EN:=fnX X G "_law_part" 79 HC 517 ["_law_pile"];have Ji:=fnX X G "_law_poly" 80 HC 524 ["_law_pile","_law_many","_law_most"];have Hg:=fnX X G "_law_change" 81 HC 529 ["_law_script","_law_start_here","_law_many","_law_most"];have Ik:=fnX X G "_law_table" 83 HC 539 ["_law_script","_law_start_here","_law_most"];have Hh:=fnX X G "_law_called" 84 HC 544 ["_law_caught"];have CO:=fnX X G "_law_flags" 85 HC 551 ["_law_which","_law_some","_law_most"];have pO:=fnX X G "law" 86 HC 556 ["_law_script"];have A9:=LU X G "len";have A3:=LU X G "range";have NR:=LU X G "abs";have AY:=LU X G "isinstance";have ZU:=LU X G "int";have Wg:=LU X G "bool";have CA:=LU X G "tuple";have F3:=LU X G "list";have Dw:=LU X G "enumerate";have EC:=LU X G "sum";have Et:=LU X G "zip";have JI:=LU X G "sorted";have tT:=LU X G "all";have Yd:=LU X G "max";have Li:=LU X G "ValueError";have a_MP:nsIn (kH w.params) mainGlobals "MOST_POWER" = some (some (.int 7 640)):=by kernel_rfl
 have a_MR:nsIn (kH w.params) mainGlobals "MOST_ROWS" = some (some (.int 40 707)):=by kernel_rfl
 have La:=Mn X G "GroveError" (.ref 24);have M5:=Mn X G "NoBottom" (.ref 37);have Qt:=Mn X G "NoTree" (.ref 49);have Ko:=Mn X G "NoChange" (.ref 61);have Lr:=Mn X G "NoStart" (.ref 73);have Lk:=Mn X G "NoTable" (.ref 85);have Qc:=Mn X G "NoName" (.ref 97);have K6:=Mn X G "NoWeighing" (.ref 109);have Mw:=Mn X G "NotAlike" (.ref 121);have OM:=Mn X G "NoParts" (.ref 133);have L3:=Mn X G "TooMany" (.ref 145);have QX:=Mn X G "NoText" (.ref 157);have Qh:=Mn X G "NoLine" (.ref 169);have X_NoChange:Exc (kH w.params) mg "NoChange" 61:=⟨Ko,by kernel_rfl⟩;have U:Eb (kH w.params) 61 24 true:=by constructor<;>kernel_rfl
 have g:CV (kH w.params) 61:=by constructor<;>kernel_rfl
 have X_NoStart:Exc (kH w.params) mg "NoStart" 73:=⟨Lr,by kernel_rfl⟩;have be_NoStart:Eb (kH w.params) 73 24 true:=by constructor<;>kernel_rfl
 have R:CV (kH w.params) 73:=by constructor<;>kernel_rfl
 have X_NoTable:Exc (kH w.params) mg "NoTable" 85:=⟨Lk,by kernel_rfl⟩;have Z:Eb (kH w.params) 85 24 true:=by constructor<;>kernel_rfl
 have M:CV (kH w.params) 85:=by constructor<;>kernel_rfl
 have X_TooMany:Exc (kH w.params) mg "TooMany" 145:=⟨L3,by kernel_rfl⟩;have Y:Eb (kH w.params) 145 24 true:=by constructor<;>kernel_rfl
 have I:CV (kH w.params) 145:=by constructor<;>kernel_rfl
 have hK:U2 (kH w.params)=true:=by kernel_rfl
 refine⟨fnOf (Str.ofString "law") (Str.ofString "law") (G5 (top 86)) (EA (top 86)) (AQ (top 86)) .none .none .none (.str (Str.ofString "law_stepgrove_k26_refused_growth") 792) none (.ref 556) .none,fun s v=>.of_eq rfl,fun base _ _=>?_⟩;have Fd:=PySem.W.mg_of X G a_MP;have MJ:=PySem.W.mg_of X G a_MR;have ZH:=Nt (P:=Df.prog) (w:=w) (base:=base) A8 NR;have gg:=Sz Cb A8 ZH;have lK:=XZ (P:=Df.prog) (w:=w) (base:=base) Ez AY ZU Wg;have d7:=Sx EH Ez A8 lK ZH AY CA A9;have Zh:=QN BV EH d7 AY F3;have rO:=Xl Ky BV Zh MJ AY F3 A9 Dw;have la:=Xa Fs Ky BV rO (Zh.mono) AY CA A9;have sM:=OW CC Fs (la.mono);have pY:=Ub Iy Ez lK AY CA A9;have sD:=ZR Lz Iy EH pY d7 AY CA A9;have rT:=YX Lm Lz sD AY F3 Dw;have lE:=Wd FH Lm rT AY F3 A9;have oU:=Nv BE FH (lE.mono);have ni:=Oz BO BV (Zh.mono) A9;have nM:=Po Bs CC BE BO (sM.mono) oU (ni.mono) A9;have iY:=N6 (P:=Df.prog) (w:=w) (base:=base) Bl Fd;have Y4:=Pq A0 A8 ZH;have sP:=Rj Gy A0 Y4;have Zo:=Xg (P:=Df.prog) (w:=w) (base:=base) DQ;have ZX:=Vc (P:=Df.prog) (w:=w) (base:=base) Bx;have fj:=XW Dx A0 Y4;have oq:=Qv DP A0 Y4;have lP:=Pg (P:=Df.prog) (w:=w) (base:=base) C3 Yd EC;have sG:=Um Ib DQ Zo EC;have gF:=Q8 CB DP C3 Ib oq (lP.mono) (sG.mono);have fL:=ZE EW DP C3 DQ oq (lP.mono) (Zo.mono);have nX:=Pf (P:=Df.prog) (w:=w) (base:=base) Cy;have nH:=Xi (P:=Df.prog) (w:=w) (base:=base) Fy;have nV:=Qq (P:=Df.prog) (w:=w) (base:=base) DL;have mG:=Qa DN DL Fy nV nH EC JI;have jF:=Uk Eg DL Fy nV nH EC A3;have lZ:=XU (P:=Df.prog) (w:=w) (base:=base) Fx EC;have pV:=Ur Ia Eg Fx jF lZ A3;have Oa:=Y1 (P:=Df.prog) (w:=w) (base:=base) (k:=0) MA Et;have pP:=Ui Ip DN Ia MA (mG.mono) pV (Oa.mono) Dw;have jI:=Nr CS Cb gg;have pW:=Vm HW Bs Bl Dx Gy Cy Bx Ip CB EW CS nM (iY.mono) (fj.mono) (sP.mono) (nX.mono) (ZX.mono) (pP.mono) (gF.mono) (fL.mono) (jI.mono);have dD:=Vh (P:=Df.prog) (w:=w) (base:=base) Ct;have f7:=TJ (P:=Df.prog) (w:=w) (base:=base) Hf NR;have kj:=Vg Jp Hf f7;have Wl:=Vp (P:=Df.prog) (w:=w) (base:=base) Bm A9 A3;have d_cell:=Ww (P:=Df.prog) (w:=w) (base:=base) (k:=9) Bm A9 A3;have cG:=WH EN Ct Jp (dD.mono) kj;have rF:=VW Ji Ct EN (dD.mono) cG A3 JI CA;have rZ:=Su Hg Bm Ji (Wl.mono) rF A3;have sE:=S9 Ik Bm EN (Wl.mono) cG A3;have pF:=Qo A0 A8 ZH;have qE:=SG IP A0 Cb pF gg EC;have qy:=S7 Ir DQ Zo Et;have sU:=Wy Kz IP Ir qE (qy.mono);have rk:=XA Jj CB Kz EW gF sU fL;have rD:=Zu NQ A0 Bx Y4 (ZX.mono) Et;have sI:=Zi Jy Bs Dx Bx Cy Jj NQ Cb (nM.mono) (fj.mono) (ZX.mono) (nX.mono) (rk.mono) (rD.mono) (gg.mono);have rg:=US II DN Eg Fx mG jF lZ A3 Et;have o8:=Qk (P:=Df.prog) (w:=w) (base:=base) GP A3;have q8:=Sf HX Bx ZX;have mC:=SF F0 BE BO Bl Dx GP CB HX II EW CS oU (ni.mono) (iY.mono) (fj.mono) (o8.mono) (gF.mono) (q8.mono) (rg.mono) (fL.mono) (jI.mono) A9;have HV:=mh (q:=DH) lE (fun l d v H Q E hd hq=>⟨l,d,v,rfl,hd,hq⟩);have CL:=mh (q:=Bf) Zh (fun l d v H Q E hd hq=>⟨l,d,v,rfl,hd,hq H (.refl H)⟩);have IM:=mh (q:=Cg) la (fun l d v H Q E hd hq=>⟨l,d,v,rfl,hd,hq⟩);have EI:=OP (P:=Df.prog) (w:=w) (base:=base) (k:=6) CC Fs (IM.mono) X_NoTable
 have B2:=Np (P:=Df.prog) (w:=w) (base:=base) (k:=6) BE FH (HV.mono) X_NoChange;have JN:=RJ (P:=Df.prog) (w:=w) (base:=base) (k:=5) G8 X_NoStart;have CD:=OS (P:=Df.prog) (w:=w) (base:=base) (k:=6) BO BV (CL.mono) G8 (JN.mono) A9;have Di:=Pk (P:=Df.prog) (w:=w) (base:=base) (k:=7) Bs BE (B2.mono) BO (CD.mono) CC (EI.mono) A9;have DV:=Om (P:=Df.prog) (w:=w) (base:=base) (k:=0) Bl Fd X_TooMany;have x_gr:=TF (k:=8) F0 BE (B2.mono) BO (CD.mono) Bl (DV.mono) A9;have x_sr:=VZ (k:=8) HW Bs (Di.mono) Bl (DV.mono);have x_st:=ZG (k:=8) Jy Bs (Di.mono);have o_gr:=QP refs (WE x_gr ((ZD (toG mC)).mono));have o_sr:=QP refs (WE (x_sr.mono (show 9<=12 by decide)) ((ZD (tM pW)).mono));have o_st:=QP refs (WE (x_st.mono (show 9<=12 by decide)) ((ZD (sT sI)).mono));have KJ:=S3 (P:=Df.prog) (w:=w) (base:=base) (k:=7) Hh Li AY Et M5 Ko Qh Qc OM Lr Lk QX Qt K6 Mw L3 (HY (c:=37) g R M I) (HY (c:=61) g R M I) (HY (c:=169) g R M I) (HY (c:=97) g R M I) (HY (c:=133) g R M I) (HY (c:=73) g R M I) (HY (c:=85) g R M I) (HY (c:=157) g R M I) (HY (c:=49) g R M I) (HY (c:=109) g R M I) (HY (c:=121) g R M I) (HY (c:=145) g R M I) (pK g R M I);have bb:∀C:AD,C∈refs->Eb (kH w.params) C 24 true:=fun C h=>by
  rcases aU.mp h with rfl|h
  .exact U
  rcases aU.mp h with rfl|h
  .exact be_NoStart
  rcases aU.mp h with rfl|h
  .exact Z
  rw[List.mem_singleton.mp h];exact Y
 have Cp:=Us (k:=12) CO Hh (KJ.mono) F0 (o_gr.mono) HW (o_sr.mono) Jy (o_st.mono) La (fun ds C h=>bb C (TM h)) (fun ds C h=>bb C (TM h)) (fun ds C h=>bb C (TM h));exact lq (k:=13) hK pO Bm Hg Ik CO (Wl.mono) (d_cell.mono) (rZ.mono) (sE.mono) (Cp.mono) A3 CA
def walkX:WalkO qX [] (XL qX []) hX.says Df.row.toRowW dX [] (fun f vs=>PySem.call f vs) :=
 L2.kB (l:=Df) (n:=63) (k:=14) (x := "_law_script") (CX:=fun _=>Aa) (K:=kH) (sp:=fun w=>Y6 (kH w.params)) rfl AS rfl ⟨rfl,by decide,by decide⟩ (fun w mg h X G H d e=>by rw[mg_none_of X G (by kernel_rfl)]at e;cases e) (fun w h Y=>kIn_of Y) sd (fun _ _ a ns g _ I=>⟨a,ns,rfl,I,g,fun _=>rfl⟩) fun _ _ _ _ _ z=>z
end
end Q26
open PySem PySem.W PyProof.Rows
set_option maxRecDepth 100000 in
theorem PySem.Challenge.cw_stepgrove_k26_refused_growth_holds : PySem.Challenge.rw_stepgrove_k26_refused_growth.Holds := by
  refine Q26.openX ?hw Q26.walkX
  w_witness2
#print axioms PySem.Challenge.cw_stepgrove_k26_refused_growth_holds
