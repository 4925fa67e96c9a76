import PyProof.Rows.All
import Wide.All
import OpenK.AllK
import Wide.FinOn
import Lean
import PyProof.EqAt
import PyProof.EqKinds
import PyProof.TupleCall
import PySem.Challenge.RW_stepgrove_k96_whole_sharpened_tables
set_option Elab.async false
set_option linter.all false
set_option maxRecDepth 100000
set_option maxHeartbeats 4000000
abbrev BW:=@List.length_map
abbrev DJ:=@List.getD_eq_getElem?_getD
abbrev B7:=@List.getElem?_map
abbrev CI:=@List.map_cons
abbrev Dk:=@List.length_append
abbrev D8:=@List.size_toArray
abbrev Fo:=@List.map_append
abbrev Gq:=@Option.bind_some
abbrev JO:=@List.length_cons
abbrev IU:=@PySem.Heap.size_push
abbrev Hc:=@List.map_map
abbrev ML:=@Int.toNat_natCast
abbrev ME:=@List.take_add_one
abbrev Qu:=@List.getElem?_replicate
abbrev MI:=@List.length_take
abbrev MN:=@Bool.and_eq_true
abbrev PD:=@List.replicate_succ
abbrev NP:=@List.take_length
abbrev Wv:=@Array.getD_eq_getD_getElem?
abbrev MO:=@Bool.true_and
abbrev MM:=@Rat.mul_assoc
abbrev Ow:=@List.lookup_cons
abbrev NG:=@Bool.false_and
abbrev L9:=@Rat.zero_mul
abbrev Qx:=@List.flatten_cons
abbrev Qm:=@List.length_range
abbrev Qv:=@List.all_eq_true
abbrev W2:=@List.length_replicate
abbrev Qd:=@Rat.intCast_mul
abbrev Q6:=@Int.natAbs_mul
abbrev Wy:=@List.filterMap_cons
abbrev aA:=@PySem.wpAny_bind
abbrev aB:=@PySem.wpAny_pure
abbrev aC:=@Option.bind_eq_some_iff
abbrev aD:=@List.getElem?_eq_some_iff
abbrev aE:=@PySem.Heap.get?_push_of_some
abbrev aF:=@Option.map_eq_some_iff
abbrev aG:=@PySem.Heap.lt_size
abbrev aH:=@Nat.le_refl
abbrev aI:=@Nat.lt_of_lt_of_le
abbrev aJ:=@Bool.false_ne_true
abbrev aK:=@List.mem_map
abbrev aL:=@PySem.Heap.get?_push_size
abbrev aM:=@List.getElem?_eq_getElem
abbrev aN:=@PySem.PassesOwn.never
abbrev aO:=@Nat.ne_of_lt
abbrev aP:=@Nat.lt_of_le_of_lt
abbrev aQ:=@List.mem_cons
abbrev aR:=@Nat.le_trans
abbrev aS:=@Nat.pow_le_pow_right
abbrev aT:=@List.mem_of_getElem?
abbrev aU:=@List.mem_append
abbrev aV:=@List.mem_cons_of_mem
abbrev aW:=@PySem.wpAny_call_entry
abbrev aX:=@List.mem_cons_self
abbrev aY:=@PySem.wpAny_holding
abbrev aZ:=@PySem.wpAny_field
abbrev aa:=@PySem.wpAny_callSpecial?_slot
abbrev ab:=@PySem.F.plainAttrs_list
abbrev ae:=@List.mem_append_right
abbrev af:=@PySem.Heap.SameBut.update
abbrev ag:=@Option.some.inj
abbrev ah:=@of_decide_eq_true
abbrev ai:=@PySem.wpAny_seqItems
abbrev aj:=@PySem.boot_len
abbrev ak:=@Nat.not_lt_zero
abbrev ao:=@PySem.wpAny_mono
abbrev aq:=@PySem.wpAny_newObj_type
abbrev ar:=@Bool.eq_false_iff
abbrev au:=@PySem.wpAny_setField_rec
abbrev av:=@Nat.le_of_lt
abbrev ax:=@PyProof.Rows.callWith_type1
abbrev ay:=@congrArg
abbrev az:=@List.all_eq_true
abbrev bC:=@PySem.wpAny_setState_of
abbrev bD:=@List.mem_range
abbrev bF:=@PyProof.Rows.boot_isinstance
abbrev bG:=@PySem.W.kia_one
abbrev bH:=@Nat.zero_le
abbrev bI:=@List.mem_of_find?_eq_some
abbrev bJ:=@of_decide_eq_false
abbrev bK:=@List.map_inj_left
abbrev bL:=@List.length_map
abbrev bM:=@PySem.wpAny_rule
abbrev bN:=@Int.natAbs_dvd_natAbs
abbrev bO:=@decide_eq_false
abbrev bP:=@PyProof.Rows.KeyOrd.kle_refl
abbrev bQ:=@Nat.ne_of_gt
abbrev bR:=@PySem.F.slot_zip_next
abbrev bS:=@PySem.F.slot_list_extend
abbrev bT:=@PySem.F.type_list_extend
abbrev bU:=@PySem.F.slot_list_append
abbrev bV:=@PySem.F.type_list_append
abbrev bW:=@PySem.wpAny_truthy_bool
abbrev bX:=@Nat.lt_succ_of_lt
abbrev bY:=@List.eq_nil_of_length_eq_zero
abbrev bZ:=@Nat.mul_le_mul_left
abbrev bc:=@Nat.lt_succ_self
abbrev bf:=@decide_eq_true
abbrev bg:=@PyProof.Rows.boot_list
abbrev bj:=@List.pairwise_cons
abbrev bo:=@PyProof.Rows.boot_abs
abbrev bp:=@PyProof.Rows.boot_sum
set_option hygiene false
local macro_rules
|`(AC)=>`(List PyData->Option PyData)
|`(AS)=>`(by lia)
|`(AT)=>`(Value->Shared->Prop)
|`(As)=>`(by decide)
|`(At)=>`(PySem.W.Frag)
|`(BY)=>`(model prog w)
|`(By)=>`(Or.inl rfl)
|`(CH)=>`(by simp)
|`(Ch)=>`(List PyData)
|`(Cl)=>`(Inv X pins σ H s)
|`(Cs)=>`(model X.prog X.w)
|`(Cy)=>`(List (Addr×Obj))
|`(Da)=>`(fun _ _=>rfl)
|`(Db)=>`(List Value)
|`(Do)=>`(fC (.int 1))
|`(EQ)=>`(BF X scope cl N C s₀ H₀ fp)
|`(Eu)=>`(Str->Option Value)
|`(Ev)=>`(["_law_one","_law_other"])
|`(FB)=>`(Dv->Option PyData)
|`(FS)=>`(.ListComp elt [⟨.Name x px,iter,ifs,0⟩] scope pos)
|`(Fa)=>`(List V)
|`(Fk)=>`(fun j=>A0 t k j*Al (A0 t) t.rs.length b j)
|`(Fp)=>`(Dv->Option (List PyData))
|`(Fr)=>`({ s with heap:=((s.heap.update a (Obj.mapSeq fun _ => #[])).push (seqObj "tuple" us.toArray 0)).push (seqObj "list" #[] 0) })
|`(GD)=>`(Rat.divInt 1 2)
|`(GE)=>`(FuncData)
|`(GH)=>`(AD (pv 0))
|`(GJ)=>`(Shared)
|`(GM)=>`(.ref s.heap.objs.size)
|`(Gm)=>`(AD (pv 1))
|`(Go)=>`(fC (.int 0))
|`(G8)=>`(Program)
|`(HS)=>`(.list (DL t.rs.length (Al (A0 t) t.rs.length b)))
|`(HU)=>`({s with heap:=h',toks:=tk})
|`(Hf)=>`(fun cdv A outer s H vs Q E hr h=>?_)
|`(Hq)=>`(.type "tuple")
|`(IF)=>`(Rw G0 H0 G H σ δ ts)
|`(IG)=>`(((SetTable.insertAt ev (t.put j).2 (Bc x,Value.ref xa))[·]?))
|`(IN)=>`(Cz fun i j=>decide (i<j))
|`(IO)=>`(AA (nm 1) AG)
local macro_rules
|`(IR)=>`(PyData)
|`(IS)=>`(.lst ys)
|`(Id)=>`(World)
|`(Is)=>`(["thing"])
|`(Iv)=>`(List (Option Nat))
|`(Ix)=>`(AD (pv 2))
|`(Iy)=>`(["one","other"])
|`(JB)=>`(nm 0)
|`(Jj)=>`(.ref a)
|`(Jl)=>`(fun vs H Q E h=>?_)
|`(Jz)=>`(by kernel_rfl)
|`(KB)=>`(["_law_script","_law_k"])
|`(KF)=>`(s.heap.objs.size+1)
|`(KM)=>`(PyData->Dv->Option Dv)
|`(KP)=>`(List Str)
|`(KS)=>`(Value)
|`(Kw)=>`(∀(D C:Addr) (s':GJ) (H':Hp) m,s'.heap.Ns C m->Q (.ref D) H'->(∀h',Heap.SameBut C s'.heap h'->Inv X pins σ H' { s' with heap:=h'})->C≠D->(∀b o,s2.heap.get? b=some o->b≠C)->H' C=none->s2.heap.objs.size<=C->RR (.ref D) C (.ok .next) s')
namespace Opn
open PySem PySem.W PyProof.Rows PySem.Calls
noncomputable def q0:Pos:=⟨0,0,0,0⟩
noncomputable def rF:Obj:={ cls:=.type "tuple",data:=.seq #[]}
noncomputable def rH:Obj:={ cls:=.none,data:=.fields #[]}
noncomputable def rD:Obj:={ cls:=.type "code",data:=.fields #[.str (Str.ofString "<module>") 182,.str (Str.ofString "<module>") 183,.str (Str.ofString "/claim/cut.py") 184,.int 1 0,.int 0 0,.int 0 0,.int 0 0,.int 0 0,.ref 11,.bool false,.int 181 0,.ref 12,.none,.none,.none,.none,.int 185 0,.int 1 0,.str (Str.ofString "/claim/cut.py") 186]}
noncomputable def rN:Obj:={ cls:=.type "frame",slots:=#[some (.ref 13),some (.ref 3),some (.ref 3),none,some (.str (Str.ofString "__main__") 164),none,some (.ref 0)]}
noncomputable def qz(P:Params):List Obj:=(boot_heap P).objs.toList++[rF,rH,rD,rN]
noncomputable def nN(P:Params)(o:Params->Obj)(l r:BT):BT:=.node (o P) l r
noncomputable def lN(P:Params)(o:Params->Obj):BT:=.node (o P) .nil .nil
noncomputable def qT(P:Params):BT :=
 nN P boot_o_0 (nN P boot_o_1 (nN P boot_o_3 (lN P boot_o_7) (.node rF .nil .nil)) (nN P boot_o_5 (lN P boot_o_9) (.node rD .nil .nil)))
  (nN P boot_o_2 (nN P boot_o_4 (lN P boot_o_8) (.node rH .nil .nil)) (nN P boot_o_6 (lN P boot_o_10) (.node rN .nil .nil)))
noncomputable def ic:Life:=Life.mk [] [] [] 0 [] [] false #[] [] 0 false false false 0 [2000,10,10] false 0 true [] [] 0 false
noncomputable def sA(w:Id)(os:OsState):Shared:=⟨⟨⟨qz w.params⟩,ic⟩,#[],boot_drawn,187,os⟩
noncomputable def sB(w:Id)(os:OsState):SharedT:=⟨qT w.params,15,ic,#[],boot_drawn,187,os⟩
noncomputable def Q4(p:G8):Env:={ scope:=p.main.scope,locals:=mainNs,globals:=mainNs,cells:=[],code:=.ref 13,frame:=some 14}
noncomputable def cB(p:G8):Code:=.body (behindTheImports p) (Q4 p)
noncomputable abbrev J9:Option Value:=some (.ref 6)
noncomputable abbrev bB:List Frame:=[topFrame q0]
noncomputable def XF(p:G8)(M:Nat)(w:Id)(os:OsState):Option (Flow×SharedT×Code×Pos) :=
 PySem.W.Fast.tw10110043849684766642 PySem.W.Fast.tw14364793385576792824 p w 11 J9 1 M (sB w os) (piecesOf (behindTheImports p) (Q4 p) (cB p) q0 bB)
noncomputable def Vz(p:G8)(M:Nat)(w:Id)(os:OsState):SharedT:=match XF p M w os with|some (_,s,_)=>s|none=>sB w os
theorem kD{p:G8}{M:Nat}{w:Id}{os:OsState}{r:Option (Flow×SharedT×Code×Pos)}(h:XF p M w os=r) :
  segRunT treeTable p w 11 J9 1 M (sB w os) (piecesOf (behindTheImports p) (Q4 p) (cB p) q0 bB)=r:=by
 have e:segRunT treeTable=PySem.W.Fast.tw10110043849684766642 PySem.W.Fast.tw14364793385576792824:=congr PySem.W.Fast.te10110043849684766642 PySem.W.Fast.te14364793385576792824;rw[e];exact h
theorem mf{p:G8}{M I:Nat}{g:Pos}{w:Id}{os:OsState}
 (pre:topGo treeTable p w 11 J9 12 ⟨boot_heap w.params,#[],boot_drawn,boot_toks,os⟩ (topStub p)=some (sA w os,⟨denote treeTable (cB p),cB p,q0,bB⟩))
 (B:segRun treeTable p w 11 J9 1 1 (sA w os) (blockOf (behindTheImports p) (Q4 p) (cB p) q0 bB)=some (.next,(sB w os).abs,cB p,q0))
 (seg:XF p M w os=some (.next,Vz p M w os,cB p,g))
 (fin:∀s,topRun treeTable p w 11 J9 2 s (restOf [] (Q4 p) (cB p) g bB)=some s)(R:I=12+(1+(M+2))) :
  topRun treeTable p w 11 J9 I ⟨boot_heap w.params,#[],boot_drawn,boot_toks,os⟩ (topStub p)=some (Vz p M w os).abs:=by
 subst R;refine go_top pre (piece_block B ?_);have h:=piece_app (rest:=[]) (segRun_of (kD seg)) (fin _);rw[List.append_nil]at h;exact h
theorem jf{p q:G8}{loose:KP}{Xt:Shared->Bool}{α:Type}{Yf:Shared->α}{Ya:World->α}{N M:Nat}{S:World->OsState->Shared}
 (g:∀w:World,(fencedOpening treeTable p w N).map (fun s=>(s.heap,s.gens,s.drawn,s.toks))=some (boot_heap w.params,#[],boot_drawn,boot_toks))
 (size:∀w:World,((boot_heap w.params).isNs mainGlobals&&(#[]:Array GenState).size==0,(boot_heap w.params).objs.size,(boot_heap w.params).nsMap mainGlobals "__annotations__")=(true,11,J9))
 (run:∀w os,topRun treeTable p w 11 J9 M ⟨boot_heap w.params,#[],boot_drawn,boot_toks,os⟩ (topStub p)=some (S w os))(le:Nat.ble M N=true)
 (ok:∀w os,(staticsOk (importedModules p.main.body) (boot_heap w.params) (S w os).heap&&namesBound p (S w os).heap&&gensDone (S w os)&&laidKept (boot_heap w.params) (S w os).heap)=true)
 (seen:∀w os,openSeen q loose (importedModules p.main.body) Xt true (S w os)=openGood q loose)
 (U:∀w os,Yf (S w os)=Ya w):LeftO p q loose Xt Yf Ya N:=fun w=>by
 obtain⟨⟨h,gs,d,k,os⟩,e,Y⟩:=aF.mp (g w);obtain⟨rfl,rfl,rfl,rfl⟩:h=boot_heap w.params/\gs=#[]/\d=boot_drawn/\k=boot_toks:=by simpa using Y
 obtain⟨R,I,B⟩:_/\_/\_:=by simpa only[Prod.mk.injEq]using size w
 have T:=ok w os;have r:=topRun_mono (N-M) _ _ _ _ (run w os);rw[show M+(N-M)=N by have:=Nat.le_of_ble_eq_true le;lia]at r;have t:topFrom treeTable p w N ⟨boot_heap w.params,#[],boot_drawn,boot_toks,os⟩=some (S w os):=by
  unfold topFrom;dsimp only;rw[R,I,B,r];show(match staticsOk (importedModules p.main.body) (boot_heap w.params) (S w os).heap&&namesBound p (S w os).heap&&gensDone (S w os)&&laidKept (boot_heap w.params) (S w os).heap with|true=>_|false=>_)=_;rw[T]
 unfold openEnds;rw[e];show(topFrom treeTable p w N _).map _=_;rw[t];exact ay some (Prod.ext (seen w os) (U w os))
theorem qo(w:Id):((boot_heap w.params).isNs mainGlobals&&(#[]:Array GenState).size==0,(boot_heap w.params).objs.size,(boot_heap w.params).nsMap mainGlobals "__annotations__")=(true,11,J9):=by kernel_rfl
end Opn
namespace Q96
open PySem
def top(i:Nat):Stmt:=PySem.Challenge.pw_stepgrove_k96_whole_sharpened_tables.main.body.getD i (.Pass ⟨0,0,0,0⟩)
end Q96
namespace L2
open PySem
def HJ(s:Stmt):Arguments:=match s with
 |.FunctionDef _ a _ _ _ _ _ _ _ _=>a
 |_=>{ posonlyargs:=[],args:=[],vararg:=none,kwonlyargs:=[],kw_defaults:=[],kwarg:=none,defaults:=[]}
def Fj(s:Stmt):List Stmt:=match s with
 |.FunctionDef _ _ b _ _ _ _ _ _ _=>b
 |_=>[]
def AX(s:Stmt):Scope:=match s with
 |.FunctionDef _ _ _ _ _ _ sc _ _ _=>sc
 |_=>{ kind:=.function,names:=[],isGenerator:=false,isCoroutine:=false}
abbrev eD(P:Params)(x:Str)(t a:Nat):DictEntry:=⟨PyData.keyHash P x,.str x t,.ref a⟩
abbrev pM(P:Params)(d t1 t2 t3 t4 t5:Nat):Obj:=⟨.type "dict",none,.dict #[eD P "plain" t1 (d+5),eD P "middle" t2 (d+13),eD P "heel" t3 (d+21),eD P "third" t4 (d+33),eD P "fourth" t5 (d+50)] 5,#[]⟩
abbrev ZY(its:Db):Obj:=⟨.type "tuple",none,.seq its.toArray 0,#[]⟩
def NH:Nat->List (List Value)->PySem.W.Frag
 |_,[]=>[]
 |n,its::r=>(n,ZY its)::NH (n+1) r
end L2
namespace Q96
open PySem L2
section
open PySem.W PyProof.Rows PySem.Calls
abbrev EJ:Program:=PySem.Challenge.pw_stepgrove_k96_whole_sharpened_tables
abbrev CS:OpenLaw:=PySem.Challenge.rw_stepgrove_k96_whole_sharpened_tables
noncomputable abbrev dE(P:Params)(x:String)(t:Nat)(v:KS):DictEntry:=⟨PyData.keyHash P (Str.ofString x),.str (Str.ofString x) t,v⟩
noncomputable abbrev sV(x:String)(t:Nat):Value:=.str (Str.ofString x) t
noncomputable abbrev fO(n:String)(i:Nat)(m:String)(t c:Nat):Obj:=⟨.type "function",none,.func (fnOf n n (HJ (top i)) (Fj (top i)) (AX (top i)) .none .none .none (.str (Str.ofString m) t) none (.ref c) .none),#[]⟩
noncomputable abbrev cO(n:String)(t l a k r:Nat)(b:Bool)(R:Nat)(I B g v4:KS)(t2:Nat):Obj:=⟨.type "code",none,.fields #[sV n t,sV n (t+1),sV "/claim/cut.py" (t+2),.int l 0,.int a 0,.int 0 0,.int 0 0,.int k 0,.ref r,.bool b,.int 181 0,.ref R,I,B,g,v4,.int t2 0,.int l 0,sV "/claim/cut.py" (t2+1)],#[]⟩
noncomputable def kH:Params->Frag:=fun P=>
 (nat_lit 2,⟨.none,none,(.dict #[] 0),#[]⟩) ::
 (nat_lit 3,⟨(.type "dict"),none,(.dict #[dE P "__name__" 165 (sV "law_stepgrove_k96_whole_sharpened_tables" 632),dE P "__doc__" 166 .none,dE P "__package__" 167 .none,dE P "__loader__" 168 (.builtin "__main__.__loader__#opaque"),dE P "__spec__" 169 .none,dE P "__annotations__" 170 (.ref 6),dE P "__builtins__" 171 (.ref 4),dE P "__file__" 173 (sV "/claim/cut.py" 172),dE P "__cached__" 174 .none,dE P "GroveError" 206 (.ref 24),dE P "NoBottom" 222 (.ref 37),dE P "NoTable" 238 (.ref 49),dE P "NoName" 254 (.ref 61),dE P "NoParts" 270 (.ref 73),dE P "TooMany" 286 (.ref 85),dE P "fraction_of" 297 (.ref 94),dE P "frac_times" 305 (.ref 101),dE P "is_fraction" 312 (.ref 108),dE P "are_fractions" 320 (.ref 115),dE P "is_whole" 327 (.ref 122),dE P "greatest_divisor" 338 (.ref 129),dE P "common_bottom" 347 (.ref 136),dE P "power_of" 358 (.ref 143),dE P "MOST_ROWS" 362 (.int 40 361),dE P "NAMED_TABLES" 419 (.ref 144),dE P "is_table" 426 (.ref 201),dE P "table_of" 432 (.ref 206),dE P "refuse_no_table" 439 (.ref 213),dE P "are_rows" 448 (.ref 220),dE P "MOST_SHARPENED" 452 (.int 6 451),dE P "table_behind" 458 (.ref 225),dE P "table_shrunk" 464 (.ref 230),dE P "table_mixed" 470 (.ref 235),dE P "table_sharpened" 481 (.ref 242),dE P "refuse_too_many_rows" 487 (.ref 247),dE P "scaled" 493 (.ref 252),dE P "MOST_KNOTS" 497 (.int 7 496),dE P "trees_of" 508 (.ref 259),dE P "trees_to" 517 (.ref 266),dE P "in_falling_order" 524 (.ref 273),dE P "knots_within" 530 (.ref 278),dE P "density_within" 539 (.ref 285),dE P "trees_one_larger" 550 (.ref 292),dE P "tops_over" 558 (.ref 297),dE P "table_bottom" 564 (.ref 302),dE P "table_weighing" 574 (.ref 309),dE P "true_weighing" 581 (.ref 316),dE P "true_weights" 587 (.ref 321),dE P "weights_under" 593 (.ref 326),dE P "readings" 599 (.ref 331),dE P "read_by" 605 (.ref 336),dE P "MOST_ORDER" 609 (.int 6 608),dE P "table_order" 619 (.ref 343),dE P "first_unlike" 631 (.ref 350),dE P "_law_cell_at" 641 (.ref 357),dE P "_law_mixed" 650 (.ref 364),dE P "_law_rest" 660 (.ref 371),dE P "_law_ratio" 670 (.ref 378),dE P "_law_sum" 678 (.ref 385),dE P "_law_times" 686 (.ref 392),dE P "_law_table" 703 (.ref 399),dE P "_law_drawn" 717 (.ref 406),dE P "_law_worths" 723 (.ref 411),dE P "_law_knots" 729 (.ref 416),dE P "_law_density" 738 (.ref 423),dE P "_law_due" 749 (.ref 430),dE P "_law_wrongs" 760 (.ref 437),dE P "law" 766 (.ref 442)] 68),#[]⟩) ::
 (nat_lit 15,⟨Hq,none,(.seq #[(.type "ValueError")] 0),#[]⟩) ::
 (nat_lit 22,⟨Hq,none,(.seq #[] 0),#[]⟩) ::
 (nat_lit 23,⟨(.type "dict"),none,(.dict #[dE P "__module__" 196 (sV "stepgrove.errors" 187),dE P "__firstlineno__" 200 (.int 2 199),dE P "__static_attributes__" 201 (.ref 22),dE P "__weakref__" 203 (.ref 25),dE P "__doc__" 204 .none] 3),#[]⟩) ::
 (nat_lit 24,⟨(.type "type"),none,(.cls ⟨Str.ofString "GroveError",[(.type "ValueError")],[(.ref 24),(.type "ValueError"),(.type "Exception"),(.type "BaseException"),(.type "object")],23,Str.ofString "GroveError",true,[],[(.ref 37),(.ref 49),(.ref 61),(.ref 73),(.ref 85)],false,none,false⟩),#[some (.ref 15),none,some (sV "GroveError" 189),some (sV "GroveError" 197),some (.builtin "ValueError.__new__"),some (.bool true)]⟩) ::
 (nat_lit 25,⟨(.type "getset_descriptor"),none,(.fields #[(sV "__weakref__" 202),(.ref 24),(.builtin "ExceptionGroup.__weakref__"),.none]),#[]⟩) ::
 (nat_lit 28,⟨Hq,none,(.seq #[(.ref 24)] 0),#[]⟩) ::
 (nat_lit 35,⟨Hq,none,(.seq #[] 0),#[]⟩) ::
 (nat_lit 36,⟨(.type "dict"),none,(.dict #[dE P "__module__" 214 (sV "stepgrove.errors" 187),dE P "__firstlineno__" 218 (.int 4 217),dE P "__static_attributes__" 219 (.ref 35),dE P "__doc__" 220 .none] 2),#[]⟩) ::
 (nat_lit 37,⟨(.type "type"),none,(.cls ⟨Str.ofString "NoBottom",[(.ref 24)],[(.ref 37),(.ref 24),(.type "ValueError"),(.type "Exception"),(.type "BaseException"),(.type "object")],36,Str.ofString "NoBottom",true,[],[],false,none,false⟩),#[some (.ref 28),none,some (sV "NoBottom" 207),some (sV "NoBottom" 215),some (.builtin "ValueError.__new__"),some (.bool true)]⟩) ::
 (nat_lit 40,⟨Hq,none,(.seq #[(.ref 24)] 0),#[]⟩) ::
 (nat_lit 47,⟨Hq,none,(.seq #[] 0),#[]⟩) ::
 (nat_lit 48,⟨(.type "dict"),none,(.dict #[dE P "__module__" 230 (sV "stepgrove.errors" 187),dE P "__firstlineno__" 234 (.int 6 233),dE P "__static_attributes__" 235 (.ref 47),dE P "__doc__" 236 .none] 2),#[]⟩) ::
 (nat_lit 49,⟨(.type "type"),none,(.cls ⟨Str.ofString "NoTable",[(.ref 24)],[(.ref 49),(.ref 24),(.type "ValueError"),(.type "Exception"),(.type "BaseException"),(.type "object")],48,Str.ofString "NoTable",true,[],[],false,none,false⟩),#[some (.ref 40),none,some (sV "NoTable" 223),some (sV "NoTable" 231),some (.builtin "ValueError.__new__"),some (.bool true)]⟩) ::
 (nat_lit 52,⟨Hq,none,(.seq #[(.ref 24)] 0),#[]⟩) ::
 (nat_lit 59,⟨Hq,none,(.seq #[] 0),#[]⟩) ::
 (nat_lit 60,⟨(.type "dict"),none,(.dict #[dE P "__module__" 246 (sV "stepgrove.errors" 187),dE P "__firstlineno__" 250 (.int 8 249),dE P "__static_attributes__" 251 (.ref 59),dE P "__doc__" 252 .none] 2),#[]⟩) ::
 (nat_lit 61,⟨(.type "type"),none,(.cls ⟨Str.ofString "NoName",[(.ref 24)],[(.ref 61),(.ref 24),(.type "ValueError"),(.type "Exception"),(.type "BaseException"),(.type "object")],60,Str.ofString "NoName",true,[],[],false,none,false⟩),#[some (.ref 52),none,some (sV "NoName" 239),some (sV "NoName" 247),some (.builtin "ValueError.__new__"),some (.bool true)]⟩) ::
 (nat_lit 64,⟨Hq,none,(.seq #[(.ref 24)] 0),#[]⟩) ::
 (nat_lit 71,⟨Hq,none,(.seq #[] 0),#[]⟩) ::
 (nat_lit 72,⟨(.type "dict"),none,(.dict #[dE P "__module__" 262 (sV "stepgrove.errors" 187),dE P "__firstlineno__" 266 (.int 10 265),dE P "__static_attributes__" 267 (.ref 71),dE P "__doc__" 268 .none] 2),#[]⟩) ::
 (nat_lit 73,⟨(.type "type"),none,(.cls ⟨Str.ofString "NoParts",[(.ref 24)],[(.ref 73),(.ref 24),(.type "ValueError"),(.type "Exception"),(.type "BaseException"),(.type "object")],72,Str.ofString "NoParts",true,[],[],false,none,false⟩),#[some (.ref 64),none,some (sV "NoParts" 255),some (sV "NoParts" 263),some (.builtin "ValueError.__new__"),some (.bool true)]⟩) ::
 (nat_lit 76,⟨Hq,none,(.seq #[(.ref 24)] 0),#[]⟩) ::
 (nat_lit 83,⟨Hq,none,(.seq #[] 0),#[]⟩) ::
 (nat_lit 84,⟨(.type "dict"),none,(.dict #[dE P "__module__" 278 (sV "stepgrove.errors" 187),dE P "__firstlineno__" 282 (.int 12 281),dE P "__static_attributes__" 283 (.ref 83),dE P "__doc__" 284 .none] 2),#[]⟩) ::
 (nat_lit 85,⟨(.type "type"),none,(.cls ⟨Str.ofString "TooMany",[(.ref 24)],[(.ref 85),(.ref 24),(.type "ValueError"),(.type "Exception"),(.type "BaseException"),(.type "object")],84,Str.ofString "TooMany",true,[],[],false,none,false⟩),#[some (.ref 76),none,some (sV "TooMany" 271),some (sV "TooMany" 279),some (.builtin "ValueError.__new__"),some (.bool true)]⟩) ::
 (nat_lit 93,cO "fraction_of" 289 15 2 3 88 true 89 .none (.ref 90) (.ref 91) (.ref 92) 295) ::
 (nat_lit 94,fO "fraction_of" 8 "stepgrove.fracs" 287 93) ::
 (nat_lit 100,cO "frac_times" 298 22 2 3 95 true 96 .none (.ref 97) (.ref 98) (.ref 99) 303) ::
 (nat_lit 101,fO "frac_times" 9 "stepgrove.fracs" 287 100) ::
 (nat_lit 107,cO "is_fraction" 306 24 1 3 102 true 103 .none (.ref 104) (.ref 105) (.ref 106) 310) ::
 (nat_lit 108,fO "is_fraction" 10 "stepgrove.fracs" 287 107) ::
 (nat_lit 114,cO "are_fractions" 313 30 1 3 109 true 110 .none (.ref 111) (.ref 112) (.ref 113) 318) ::
 (nat_lit 115,fO "are_fractions" 11 "stepgrove.fracs" 287 114) ::
 (nat_lit 121,cO "is_whole" 321 37 1 3 116 true 117 .none (.ref 118) (.ref 119) (.ref 120) 325) ::
 (nat_lit 122,fO "is_whole" 12 "stepgrove.fracs" 287 121) ::
 (nat_lit 128,cO "greatest_divisor" 328 39 2 3 123 true 124 .none (.ref 125) (.ref 126) (.ref 127) 336) ::
 (nat_lit 129,fO "greatest_divisor" 13 "stepgrove.fracs" 287 128) ::
 (nat_lit 135,cO "common_bottom" 339 47 1 3 130 true 131 .none (.ref 132) (.ref 133) (.ref 134) 345) ::
 (nat_lit 136,fO "common_bottom" 14 "stepgrove.fracs" 287 135) ::
 (nat_lit 142,cO "power_of" 348 52 2 3 137 true 138 .none (.ref 139) (.ref 140) (.ref 141) 356) ::
 (nat_lit 143,fO "power_of" 15 "stepgrove.fracs" 287 142) ::
 (nat_lit 200,cO "is_table" 420 66 1 3 195 true 196 .none (.ref 197) (.ref 198) (.ref 199) 424) ::
 (nat_lit 201,fO "is_table" 19 "stepgrove.tables" 359 200) ::
 (nat_lit 205,cO "table_of" 427 70 1 3 202 true 203 .none .none .none (.ref 204) 430) ::
 (nat_lit 206,fO "table_of" 20 "stepgrove.tables" 359 205) ::
 (nat_lit 212,cO "refuse_no_table" 433 75 1 3 207 true 208 .none (.ref 209) (.ref 210) (.ref 211) 437) ::
 (nat_lit 213,fO "refuse_no_table" 21 "stepgrove.tables" 359 212) ::
 (nat_lit 219,cO "are_rows" 440 78 1 3 214 true 215 .none (.ref 216) (.ref 217) (.ref 218) 446) ::
 (nat_lit 220,fO "are_rows" 22 "stepgrove.tables" 359 219) ::
 (nat_lit 224,cO "table_behind" 453 87 2 3 221 true 222 .none .none .none (.ref 223) 456) ::
 (nat_lit 225,fO "table_behind" 25 "stepgrove.joins" 449 224) ::
 (nat_lit 229,cO "table_shrunk" 459 93 2 3 226 true 227 .none .none .none (.ref 228) 462) ::
 (nat_lit 230,fO "table_shrunk" 26 "stepgrove.joins" 449 229) ::
 (nat_lit 234,cO "table_mixed" 465 96 2 3 231 true 232 .none .none .none (.ref 233) 468) ::
 (nat_lit 235,fO "table_mixed" 27 "stepgrove.joins" 449 234) ::
 (nat_lit 241,cO "table_sharpened" 471 109 2 3 236 true 237 .none (.ref 238) (.ref 239) (.ref 240) 479) ::
 (nat_lit 242,fO "table_sharpened" 28 "stepgrove.joins" 449 241) ::
 (nat_lit 246,cO "refuse_too_many_rows" 482 117 1 3 243 true 244 .none .none .none (.ref 245) 485) ::
 (nat_lit 247,fO "refuse_too_many_rows" 29 "stepgrove.joins" 449 246) ::
 (nat_lit 251,cO "scaled" 488 120 2 3 248 true 249 .none .none .none (.ref 250) 491) ::
 (nat_lit 252,fO "scaled" 30 "stepgrove.joins" 449 251) ::
 (nat_lit 258,cO "trees_of" 498 124 1 3 253 true 254 .none (.ref 255) (.ref 256) (.ref 257) 506) ::
 (nat_lit 259,fO "trees_of" 33 "stepgrove.trees" 494 258) ::
 (nat_lit 265,cO "trees_to" 509 134 1 3 260 true 261 .none (.ref 262) (.ref 263) (.ref 264) 515) ::
 (nat_lit 266,fO "trees_to" 34 "stepgrove.trees" 494 265) ::
 (nat_lit 272,cO "in_falling_order" 518 141 1 3 267 true 268 .none (.ref 269) (.ref 270) (.ref 271) 522) ::
 (nat_lit 273,fO "in_falling_order" 35 "stepgrove.trees" 494 272) ::
 (nat_lit 277,cO "knots_within" 525 143 1 3 274 true 275 .none .none .none (.ref 276) 528) ::
 (nat_lit 278,fO "knots_within" 36 "stepgrove.trees" 494 277) ::
 (nat_lit 284,cO "density_within" 531 145 1 3 279 true 280 .none (.ref 281) (.ref 282) (.ref 283) 537) ::
 (nat_lit 285,fO "density_within" 37 "stepgrove.trees" 494 284) ::
 (nat_lit 291,cO "trees_one_larger" 540 150 1 3 286 true 287 .none (.ref 288) (.ref 289) (.ref 290) 548) ::
 (nat_lit 292,fO "trees_one_larger" 38 "stepgrove.trees" 494 291) ::
 (nat_lit 296,cO "tops_over" 553 157 2 3 293 true 294 .none .none .none (.ref 295) 556) ::
 (nat_lit 297,fO "tops_over" 40 "stepgrove.wholes" 551 296) ::
 (nat_lit 301,cO "table_bottom" 559 159 1 3 298 true 299 .none .none .none (.ref 300) 562) ::
 (nat_lit 302,fO "table_bottom" 41 "stepgrove.wholes" 551 301) ::
 (nat_lit 308,cO "table_weighing" 567 165 2 3 303 true 304 .none (.ref 305) (.ref 306) (.ref 307) 572) ::
 (nat_lit 309,fO "table_weighing" 43 "stepgrove.weights" 565 308) ::
 (nat_lit 315,cO "true_weighing" 575 168 1 3 310 true 311 .none (.ref 312) (.ref 313) (.ref 314) 579) ::
 (nat_lit 316,fO "true_weighing" 44 "stepgrove.weights" 565 315) ::
 (nat_lit 320,cO "true_weights" 582 170 1 3 317 true 318 .none .none .none (.ref 319) 585) ::
 (nat_lit 321,fO "true_weights" 45 "stepgrove.weights" 565 320) ::
 (nat_lit 325,cO "weights_under" 588 172 2 3 322 true 323 .none .none .none (.ref 324) 591) ::
 (nat_lit 326,fO "weights_under" 46 "stepgrove.weights" 565 325) ::
 (nat_lit 330,cO "readings" 594 180 3 3 327 true 328 .none .none .none (.ref 329) 597) ::
 (nat_lit 331,fO "readings" 47 "stepgrove.weights" 565 330) ::
 (nat_lit 335,cO "read_by" 600 187 2 3 332 true 333 .none .none .none (.ref 334) 603) ::
 (nat_lit 336,fO "read_by" 48 "stepgrove.weights" 565 335) ::
 (nat_lit 342,cO "table_order" 610 191 1 3 337 true 338 .none (.ref 339) (.ref 340) (.ref 341) 617) ::
 (nat_lit 343,fO "table_order" 51 "stepgrove.orders" 606 342) ::
 (nat_lit 349,cO "first_unlike" 620 199 3 3 344 true 345 .none (.ref 346) (.ref 347) (.ref 348) 629) ::
 (nat_lit 350,fO "first_unlike" 52 "stepgrove.orders" 606 349) ::
 (nat_lit 356,cO "_law_cell_at" 634 205 2 3 351 true 352 .none (.ref 353) (.ref 354) (.ref 355) 639) ::
 (nat_lit 357,fO "_law_cell_at" 54 "law_stepgrove_k96_whole_sharpened_tables" 632 356) ::
 (nat_lit 363,cO "_law_mixed" 642 209 2 3 358 true 359 .none (.ref 360) (.ref 361) (.ref 362) 648) ::
 (nat_lit 364,fO "_law_mixed" 55 "law_stepgrove_k96_whole_sharpened_tables" 632 363) ::
 (nat_lit 370,cO "_law_rest" 651 213 2 3 365 true 366 .none (.ref 367) (.ref 368) (.ref 369) 658) ::
 (nat_lit 371,fO "_law_rest" 56 "law_stepgrove_k96_whole_sharpened_tables" 632 370) ::
 (nat_lit 377,cO "_law_ratio" 661 219 2 3 372 true 373 .none (.ref 374) (.ref 375) (.ref 376) 668) ::
 (nat_lit 378,fO "_law_ratio" 57 "law_stepgrove_k96_whole_sharpened_tables" 632 377) ::
 (nat_lit 384,cO "_law_sum" 671 227 2 3 379 true 380 .none (.ref 381) (.ref 382) (.ref 383) 676) ::
 (nat_lit 385,fO "_law_sum" 58 "law_stepgrove_k96_whole_sharpened_tables" 632 384) ::
 (nat_lit 391,cO "_law_times" 679 229 2 3 386 true 387 .none (.ref 388) (.ref 389) (.ref 390) 684) ::
 (nat_lit 392,fO "_law_times" 59 "law_stepgrove_k96_whole_sharpened_tables" 632 391) ::
 (nat_lit 398,cO "_law_table" 687 231 2 3 393 true 394 .none (.ref 395) (.ref 396) (.ref 397) 701) ::
 (nat_lit 399,fO "_law_table" 60 "law_stepgrove_k96_whole_sharpened_tables" 632 398) ::
 (nat_lit 405,cO "_law_drawn" 704 249 2 3 400 true 401 .none (.ref 402) (.ref 403) (.ref 404) 715) ::
 (nat_lit 406,fO "_law_drawn" 61 "law_stepgrove_k96_whole_sharpened_tables" 632 405) ::
 (nat_lit 410,cO "_law_worths" 718 263 2 3 407 true 408 .none .none .none (.ref 409) 721) ::
 (nat_lit 411,fO "_law_worths" 62 "law_stepgrove_k96_whole_sharpened_tables" 632 410) ::
 (nat_lit 415,cO "_law_knots" 724 273 1 3 412 true 413 .none .none .none (.ref 414) 727) ::
 (nat_lit 416,fO "_law_knots" 63 "law_stepgrove_k96_whole_sharpened_tables" 632 415) ::
 (nat_lit 422,cO "_law_density" 730 275 1 3 417 true 418 .none (.ref 419) (.ref 420) (.ref 421) 736) ::
 (nat_lit 423,fO "_law_density" 64 "law_stepgrove_k96_whole_sharpened_tables" 632 422) ::
 (nat_lit 429,cO "_law_due" 739 280 1 3 424 true 425 .none (.ref 426) (.ref 427) (.ref 428) 747) ::
 (nat_lit 430,fO "_law_due" 65 "law_stepgrove_k96_whole_sharpened_tables" 632 429) ::
 (nat_lit 436,cO "_law_wrongs" 750 288 2 3 431 true 432 .none (.ref 433) (.ref 434) (.ref 435) 758) ::
 (nat_lit 437,fO "_law_wrongs" 66 "law_stepgrove_k96_whole_sharpened_tables" 632 436) ::
 (nat_lit 441,cO "law" 761 293 1 3 438 true 439 .none .none .none (.ref 440) 764) ::
 (nat_lit 442,fO "law" 67 "law_stepgrove_k96_whole_sharpened_tables" 632 441)::[]
noncomputable def mC:List (List Value):=[[],
 [(.ref 145)],
 [(.int 1 364),(.int 1 365)],
 [(.ref 147)],
 [(.ref 146),(.ref 148)],
 [],
 [(.int 1 367),(.int 2 368)],
 [(.ref 151)],
 [(.ref 150),(.ref 152)],
 [(.int 0 369),(.int 1 370)],
 [(.int 1 371),(.int 1 372)],
 [(.ref 154),(.ref 155)],
 [(.ref 153),(.ref 156)],
 [],
 [(.int 1 374),(.int 1 375)],
 [(.ref 159)],
 [(.ref 158),(.ref 160)],
 [(.int 1 376),(.int 2 377)],
 [(.int 1 378),(.int 2 379)],
 [(.ref 162),(.ref 163)],
 [(.ref 161),(.ref 164)],
 [],
 [(.int 1 381),(.int 3 382)],
 [(.ref 167)],
 [(.int 0 383),(.int 1 384)],
 [(.int 2 385),(.int 3 386)],
 [(.ref 169),(.ref 170)],
 [(.ref 166),(.ref 168),(.ref 171)],
 [(.int 1 387),(.int 4 388)],
 [(.int 0 389),(.int 1 390)],
 [(.int 3 391),(.int 4 392)],
 [(.ref 173),(.ref 174),(.ref 175)],
 [(.ref 172),(.ref 176)],
 [],
 [(.int 1 394),(.int 2 395)],
 [(.ref 179)],
 [(.int 0 396),(.int 1 397)],
 [(.int 1 398),(.int 2 399)],
 [(.ref 181),(.ref 182)],
 [(.int 0 400),(.int 1 401)],
 [(.int 0 402),(.int 1 403)],
 [(.int 1 404),(.int 1 405)],
 [(.ref 184),(.ref 185),(.ref 186)],
 [(.ref 178),(.ref 180),(.ref 183),(.ref 187)],
 [(.int 1 406),(.int 6 407)],
 [(.int 1 408),(.int 3 409)],
 [(.int 1 410),(.int 3 411)],
 [(.int 1 412),(.int 6 413)],
 [(.ref 189),(.ref 190),(.ref 191),(.ref 192)],
 [(.ref 188),(.ref 193)]]
noncomputable abbrev mS(P:Params):Obj:=pM P 144 363 366 373 380 393
noncomputable def kT:Params->Frag:=fun P=>(nat_lit 144,mS P)::NH (nat_lit 145) mC
noncomputable def kF:Params->Frag:=fun P=>kH P++kT P
theorem i4{p:World->Prop}(h:∀(b:Bool) (w:Id),p (w.withFollow "special-get-raises" b))(w:Id):p w:=by
 have:=h (w.params.followText "special-get-raises") w
 rwa [World.withFollow_self]at this
abbrev qX:Program:=view EJ [1,2,3,4,5,6,8,9,10,11,12,13,14,15,17,18,19,20,21,22,24,25,26,27,28,29,30,32,33,34,35,36,37,38,40,41,43,44,45,46,47,48,50,51,52,54,55,56,57,58,59,60,61,62,63,64,65,66,67]
noncomputable abbrev hX:Hook:=kHook kF [nat_lit 2,nat_lit 3,nat_lit 15,nat_lit 22,nat_lit 23,nat_lit 24,nat_lit 25,nat_lit 28,nat_lit 35,nat_lit 36,nat_lit 37,nat_lit 40,nat_lit 47,nat_lit 48,nat_lit 49,nat_lit 52,nat_lit 59,nat_lit 60,nat_lit 61,nat_lit 64,nat_lit 71,nat_lit 72,nat_lit 73,nat_lit 76,nat_lit 83,nat_lit 84,nat_lit 85,nat_lit 93,nat_lit 94,nat_lit 100,nat_lit 101,nat_lit 107,nat_lit 108,nat_lit 114,nat_lit 115,nat_lit 121,nat_lit 122,nat_lit 128,nat_lit 129,nat_lit 135,nat_lit 136,nat_lit 142,nat_lit 143,nat_lit 200,nat_lit 201,nat_lit 205,nat_lit 206,nat_lit 212,nat_lit 213,nat_lit 219,nat_lit 220,nat_lit 224,nat_lit 225,nat_lit 229,nat_lit 230,nat_lit 234,nat_lit 235,nat_lit 241,nat_lit 242,nat_lit 246,nat_lit 247,nat_lit 251,nat_lit 252,nat_lit 258,nat_lit 259,nat_lit 265,nat_lit 266,nat_lit 272,nat_lit 273,nat_lit 277,nat_lit 278,nat_lit 284,nat_lit 285,nat_lit 291,nat_lit 292,nat_lit 296,nat_lit 297,nat_lit 301,nat_lit 302,nat_lit 308,nat_lit 309,nat_lit 315,nat_lit 316,nat_lit 320,nat_lit 321,nat_lit 325,nat_lit 326,nat_lit 330,nat_lit 331,nat_lit 335,nat_lit 336,nat_lit 342,nat_lit 343,nat_lit 349,nat_lit 350,nat_lit 356,nat_lit 357,nat_lit 363,nat_lit 364,nat_lit 370,nat_lit 371,nat_lit 377,nat_lit 378,nat_lit 384,nat_lit 385,nat_lit 391,nat_lit 392,nat_lit 398,nat_lit 399,nat_lit 405,nat_lit 406,nat_lit 410,nat_lit 411,nat_lit 415,nat_lit 416,nat_lit 422,nat_lit 423,nat_lit 429,nat_lit 430,nat_lit 436,nat_lit 437,nat_lit 441,nat_lit 442,nat_lit 144,nat_lit 145,nat_lit 146,nat_lit 147,nat_lit 148,nat_lit 149,nat_lit 150,nat_lit 151,nat_lit 152,nat_lit 153,nat_lit 154,nat_lit 155,nat_lit 156,nat_lit 157,nat_lit 158,nat_lit 159,nat_lit 160,nat_lit 161,nat_lit 162,nat_lit 163,nat_lit 164,nat_lit 165,nat_lit 166,nat_lit 167,nat_lit 168,nat_lit 169,nat_lit 170,nat_lit 171,nat_lit 172,nat_lit 173,nat_lit 174,nat_lit 175,nat_lit 176,nat_lit 177,nat_lit 178,nat_lit 179,nat_lit 180,nat_lit 181,nat_lit 182,nat_lit 183,nat_lit 184,nat_lit 185,nat_lit 186,nat_lit 187,nat_lit 188,nat_lit 189,nat_lit 190,nat_lit 191,nat_lit 192,nat_lit 193,nat_lit 194] (fun _=>by kernel_rfl)
noncomputable def dX:DefRec:=⟨Str.ofString "law",HJ (top 67),Fj (top 67),AX (top 67),⟨293,0,313,90⟩⟩
theorem qb:CS.wellSaid=true:=(congrFun PySem.W.Fast.te9446332074065402090 _).trans Jz
theorem tM(w:Id)(os:OsState):topGo treeTable EJ w 11 Opn.J9 12 ⟨boot_heap w.params,#[],boot_drawn,boot_toks,os⟩ (topStub EJ)=some (Opn.sA w os,⟨denote treeTable (Opn.cB EJ),Opn.cB EJ,Opn.q0,Opn.bB⟩):=by kernel_rfl
theorem si(w:Id)(os:OsState):segRun treeTable EJ w 11 Opn.J9 1 1 (Opn.sA w os) (blockOf (behindTheImports EJ) (Opn.Q4 EJ) (Opn.cB EJ) Opn.q0 Opn.bB)=some (.next,(Opn.sB w os).abs,Opn.cB EJ,Opn.q0):=by kernel_rfl
theorem rf(w:Id)(s:GJ):topRun treeTable EJ w 11 Opn.J9 2 s (restOf [] (Opn.Q4 EJ) (Opn.cB EJ) ⟨293,0,313,90⟩ Opn.bB)=some s:=by kernel_rfl
theorem sN(w:Id)(os:OsState):Opn.XF EJ 3018 w os=some (.next,Opn.Vz EJ 3018 w os,Opn.cB EJ,⟨293,0,313,90⟩):=i4 (p:=fun w=>Opn.XF EJ 3018 w os=some (.next,Opn.Vz EJ 3018 w os,Opn.cB EJ,⟨293,0,313,90⟩)) (fun b w=>by cases b<;>kernel_rfl) w
noncomputable abbrev sX(w:Id)(os:OsState):Shared:=(Opn.Vz EJ 3018 w os).abs
theorem sP(w:Id)(os:OsState):(staticsOk (importedModules EJ.main.body) (boot_heap w.params) (sX w os).heap&&namesBound EJ (sX w os).heap&&gensDone (sX w os)&&laidKept (boot_heap w.params) (sX w os).heap)=true:=i4 (p:=fun w=>(staticsOk (importedModules EJ.main.body) (boot_heap w.params) (sX w os).heap&&namesBound EJ (sX w os).heap&&gensDone (sX w os)&&laidKept (boot_heap w.params) (sX w os).heap)=true) (fun b w=>by cases b<;>kernel_rfl) w
theorem qy(w:Id)(os:OsState):hX.obs (sX w os)=hX.val w:=i4 (p:=fun w=>hX.obs (sX w os)=hX.val w) (fun b w=>by cases b<;>kernel_rfl) w
noncomputable abbrev YB:Shared->Bool:=fun s=>xlAt qX [] s&&recOk (RowW.records CS.row.toRowW) s
theorem qk(w:Id)(os:OsState):openSeen qX ["NAMED_TABLES"] (importedModules EJ.main.body) YB true (sX (w.withFollow "special-get-raises" false) os)=openGood qX ["NAMED_TABLES"]:=by kernel_rfl
theorem qQ(w:Id)(os:OsState):openSeen qX ["NAMED_TABLES"] (importedModules EJ.main.body) YB true (sX (w.withFollow "special-get-raises" true) os)=openGood qX ["NAMED_TABLES"]:=by kernel_rfl
theorem qE(w:Id)(os:OsState):openSeen qX ["NAMED_TABLES"] (importedModules EJ.main.body) YB true (sX w os)=openGood qX ["NAMED_TABLES"]:=i4 (p:=fun w=>openSeen qX ["NAMED_TABLES"] (importedModules EJ.main.body) YB true (sX w os)=openGood qX ["NAMED_TABLES"]) (fun b w=>by cases b;exact qk w os;exact qQ w os) w
theorem qJ(w:Id):(fencedOpening treeTable EJ w 6160).map (fun s=>(s.heap,s.gens,s.drawn,s.toks))=some (boot_heap w.params,#[],boot_drawn,boot_toks):=boot_open (p:=EJ) (N:=6160) Jz Jz (fun _=>by kernel_rfl) w
theorem qm:LeftO EJ qX ["NAMED_TABLES"] YB hX.obs hX.val 6160:=Opn.jf (M:=3033) (S:=sX) qJ Opn.qo (fun w os=>Opn.mf (tM w os) (si w os) (sN w os) (rf w) Jz) Jz sP qE qy
theorem sm:defOf qX CS.row.name=some (dX,[]):=by kernel_rfl
theorem tL:EJ.theDef CS.row.name=some (dX.params,dX.body,dX.scope):=by kernel_rfl
theorem tq:kwWritten? dX.params.kwonlyargs dX.params.kw_defaults=some []:=by kernel_rfl
theorem tZ:(chainsOk qX&&opensWell CS.row.prog&&(frees CS.row.toRowW&&CS.row.within.isEmpty))=true:=by kernel_rfl
theorem ql:EJ.bare:=⟨rfl,rfl,rfl,rfl,rfl,by decide +kernel⟩
theorem openX(R:CS.row.toRowW.promised)(T:WalkO qX ["NAMED_TABLES"] (XL qX []) hX.says CS.row.toRowW dX [] (fun f vs=>PySem.call f vs)):CS.Holds :=
 holds_law qb fun g=>holds_open (r:=CS.row) (q:=qX) (loose:=["NAMED_TABLES"]) (Xt:=YB) (XP:=XL qX []) (Yf:=hX.obs) (Ya:=hX.val) (YP:=hX.says) (d:=dX) (kwd:=[]) (N:=6160) qm hX.of hX.keeps (fun s e=>xl_of s (Bool.and_eq_true_iff.mp e).1) XL.keeps sm tL tq (fun s e=>recFacts_of (Bool.and_eq_true_iff.mp e).2) rfl g tZ ql R T
end
end Q96
namespace L2
open PySem PySem.Spec PyProof.Rows
abbrev Key:=Sum Int Str
def Pq:Key->Value->Bool
 |.inl k,v=>Value.isInt k v
 |.inr x,v=>Value.isStrOf x v
def sf(w:Id):Key->Int
 |.inl k=>hashInt k
 |.inr x=>hashStr w x
theorem Ds:∀ {k:Key} {v:KS},Pq k v=true->(∃i t,k=Sum.inl i/\v=Value.int i t)\/(∃x t,k=Sum.inr x/\v=Value.str x t)
 |.inl i,v,h=>by
  obtain⟨t,e⟩:=Value.isInt_shape (k:=i) (v:=v) h;exact .inl ⟨i,t,rfl,e⟩
 |.inr x,v,h=>by
  obtain⟨t,e⟩:=Value.isStrOf_shape (x:=x) (v:=v) h;exact .inr ⟨x,t,rfl,e⟩
theorem cR(i:Int)(t:Tok):Pq (.inl i) (.int i t)=true:=by simp[Pq,Value.isInt]
theorem Dy(x:Str)(t:Tok):Pq (.inr x) (.str x t)=true:=by simp[Pq,Value.isStrOf]
theorem lE(a b:Int):decide ((Sum.inl a:Key)=Sum.inl b)=(a==b):=by
 by_cases e:a=b
 .subst e;simp
 .have h:¬(Sum.inl a:Key)=Sum.inl b:=fun q=>e (Sum.inl.inj q);rw[decide_eq_false h];exact(beq_eq_false_iff_ne.mpr e).symm
theorem mF(a b:Str):decide ((Sum.inr a:Key)=Sum.inr b)=decide (a=b):=by
 by_cases e:a=b
 .subst e;simp
 .have h:¬(Sum.inr a:Key)=Sum.inr b:=fun q=>e (Sum.inr.inj q);rw[decide_eq_false h,decide_eq_false e]
theorem mZ(a:Int)(b:Str):decide ((Sum.inl a:Key)=Sum.inr b)=false:=bO (fun q=>nomatch q)
theorem mI(a:Str)(b:Int):decide ((Sum.inr a:Key)=Sum.inl b)=false:=bO (fun q=>nomatch q)
def GP(prog:G8)(w:Id):PySem.KeyKind prog w Key where
 is:=Pq
 hash:=sf w
 inj:=fun v a b ha hb=>by
  rcases Ds ha with ⟨i,t,rfl,rfl⟩|⟨x,t,rfl,rfl⟩
  .rcases Ds hb with ⟨j,u,rfl,e⟩|⟨y,u,rfl,e⟩
   .injection e with e1 _;rw[e1]
   .exact nomatch e
  .rcases Ds hb with ⟨j,u,rfl,e⟩|⟨y,u,rfl,e⟩
   .exact nomatch e
   .injection e with e1 _;rw[e1]
 byValue:=fun k v h=>by
  rcases Ds h with ⟨i,t,rfl,rfl⟩|⟨x,t,rfl,rfl⟩<;>rfl
 pyHash:=fun hv h=>by
  rcases Ds hv with ⟨i,t,rfl,rfl⟩|⟨x,t,rfl,rfl⟩
  .exact wpAny_pyHash_int h
  .exact wpAny_pyHash_str h
 eqBool:=fun hu hv h=>by
  rcases Ds hu with ⟨i,t,rfl,rfl⟩|⟨x,t,rfl,rfl⟩
  .rcases Ds hv with ⟨j,u,rfl,rfl⟩|⟨y,u,rfl,rfl⟩
   .rw[lE]at h;exact wpAny_eqBool_int h
   .rw[mZ]at h;exact SeqAt.EqAt.int_str i t y u _ _ _ _ h
  .rcases Ds hv with ⟨j,u,rfl,rfl⟩|⟨y,u,rfl,rfl⟩
   .rw[mI]at h;exact SeqAt.EqAt.str_int x t j u _ _ _ _ h
   .rw[mF]at h;exact wpAny_eqBool_str h
 «strs»:=fun k x t v h=>by
  rcases Ds h with ⟨i,u,rfl,e⟩|⟨y,u,rfl,e⟩
  .exact nomatch e
  .injection e with e1 _
   subst e1;cases v<;>rfl
theorem XT(prog:G8)(w:Id)(i:Int)(t:Tok):(GP prog w).is (.inl i) (.int i t)=true:=cR i t
theorem Xf(prog:G8)(w:Id)(x:Str)(t:Tok):(GP prog w).is (.inr x) (.str x t)=true:=Dy x t
inductive V where
 |CL|bl (b:Bool)|int (i:Int)|str (x:Str)|PL (b:Array UInt8)|Yx (b:UInt64)|ref (a:Addr)|ty (n:String)
 deriving DecidableEq
def RelV:V->Value->Prop
 |.CL,u=>u=Value.none
 |.bl b,u=>u=Value.bool b
 |.int i,u=>∃t,u=Value.int i t
 |.str x,u=>∃t,u=Value.str x t
 |.PL b,u=>∃t,u=Value.bytes b t
 |.Yx b,u=>∃t,u=Value.float b t
 |.ref a,u=>u=Value.ref a
 |.ty n,u=>u=Value.type n
abbrev Vals:List V->List Value->Prop:=Paired RelV
theorem Vals.length{xs:Fa}{us:Db}(r:Vals xs us):xs.length=us.length:=Paired.length r
theorem Vals.get:∀ {xs:Fa} {us:Db} {i:Nat} {x:V},Vals xs us->xs[i]? = some x->∃u,us[i]? = some u/\RelV x u
 |_,_,_,_,.nil,e=>by simp at e
 |_,_,0,_,.cons r _,e=>by simp at e;subst e;exact⟨_,rfl,r⟩
 |_,_,i+1,x,.cons _ t,e=>by
  obtain⟨u,B,g⟩:=Vals.get (i:=i) (x:=x) t (by simpa using e);exact⟨u,by simpa using B,g⟩
theorem Vals.set{x:V}{u:KS}(r:RelV x u):∀ {xs:Fa} {us:Db} (i:Nat),Vals xs us->Vals (xs.set i x) (us.set i u)
 |_,_,_,.nil=>.nil
 |_,_,0,.cons _ t=>.cons r t
 |_,_,i+1,.cons q t=>.cons q (Vals.set r i t)
theorem Vals.append:∀ {xs ys:Fa} {us g:Db},Vals xs us->Vals ys g->Vals (xs++ys) (us++g)
 |_,_,_,_,.nil,s=>s
 |_,_,_,_,.cons r t,s=>.cons r (Vals.append t s)
theorem Vals.take:∀ {xs:Fa} {us:Db} (n:Nat),Vals xs us->Vals (xs.take n) (us.take n)
 |_,_,0,_=>.nil
 |_,_,_+1,.nil=>.nil
 |_,_,n+1,.cons r t=>.cons r (Vals.take n t)
theorem Vals.drop:∀ {xs:Fa} {us:Db} (n:Nat),Vals xs us->Vals (xs.drop n) (us.drop n)
 |_,_,0,r=>r
 |_,_,_+1,.nil=>.nil
 |_,_,n+1,.cons _ t=>Vals.drop n t
def LG:Option V->Option Value->Prop
 |some v,some u=>RelV v u
 |none,none=>True
 |_,_=>False
def KV{κ:Type}:List (κ×V)->List (κ×Value)->Prop:=Paired fun(p:κ×V) (q:κ×Value)=>p.1=q.1/\RelV p.2 q.2
def kV:Key->V
 |.inl i=>.int i
 |.inr x=>.str x
inductive HO where
 |lst (xs:Fa)
 |tup (xs:Fa)
 |dK (kvs:List (Key×V))|dT (kvs:List (List Key×V))
 |set (S:Int->Bool) (n:Nat)
 |ins (C dx:Addr) (fs:List (Str×V))
 |own (x:Addr)
 |xd (fs:List (Str×V))
 |met (f x:Addr)
 |oo (lo hi:Int)
 |Ft (o:Obj) (u:HO)
 |Wk (ps:Array Value)
 |ext (φ:Heap->Prop)
abbrev Hp:=Addr->Option HO
def upd(H:Hp)(a:Addr)(o:HO):Hp:=fun b=>if b=a then some o else H b
theorem AM{H:Hp}{a:Addr}{o:HO}:upd H a o a=some o:=by unfold upd;rw[if_pos rfl]
theorem AR{H:Hp}{a b:Addr}{o:HO}(h:b≠a):upd H a o b=H b:=by unfold upd;rw[if_neg h]
theorem Z3{H:Hp}{a b:Addr}{o u:HO}(h:H a=some o)(h':H b=some u)(d:o≠u):a≠b:=by
 intro e;subst e;rw[h]at h';exact d (ag h')
theorem Aq{H:Hp}{a b:Addr}{o:HO}(h:H a=some o)(h':H b=none):a≠b:=by
 intro e;subst e;rw[h]at h';cases h'
section
variable(P:G8)(w:Id)
def Cu(H:Hp)(h:Heap)(a:Addr):HO->Prop
 |.lst xs=>xs.length<=sizeLine/\∃(its:Db) (n:Nat),Vals xs its/\h.get? a=some { cls:=.type "list",data:=.seq its.toArray n}
 |.tup xs=>xs.length<=sizeLine/\∃its:List Value,Vals xs its/\IsTup h a its.toArray
 |.dK kvs=>kvs.length<=sizeLine/\(a==sysModules)=false/\∃vs,KV kvs vs/\h.DictOf (GP P w) a vs
 |.dT kvs=>kvs.length<=sizeLine/\(a==sysModules)=false/\∃xs:List (List Key×Addr×Value),
   Paired (fun(p:List Key×V) (q:List Key×Addr×Value)=>p.1=q.1/\H q.2.1=some (.tup (p.1.map kV))/\RelV p.2 q.2.2) kvs xs /\
   ∃o es ep,h.get? a=some o/\o.ExactDict/\o.data=.dict es ep/\es.toList=xs.map (entryOfKey (tupleKind (GP P w)))/\(xs.map (·.1)).Nodup
 |.set S n=>h.SetOf (intKind P w) a S n
 |.ins C dx fs=>H dx=some (.own a)/\fs.length<=1000/\dx≠a/\h.get? a=some (PySem.W.instObj C dx) /\
   ∃mA,h.Ns1 dx mA/\(∀f,LG (fs.lookup f) (mA f))/\PySem.Within mA (fs.map (·.1))
 |.own _=>∃o,h.get? a=some o
 |.xd fs=>∃mA,h.Ns1 a mA/\∀f,LG (fs.lookup f) (mA f)
 |.oo lo hi=>∃t u v,h.get? a=some { cls:=.type "range",data:=.fields #[.int lo t,.int hi u,.int 1 v]}
 |.Ft o u=>h.get? a=some o/\Cu H h a u
 |.Wk ps=>h.get? a=some { cls:=.none,data:=.fields ps}
 |.met f x=>h.get? a=some (PySem.W.methodObj (.ref f) (.ref x))
 |.ext φ=>φ h/\(∃o,h.get? a=some o)/\∀B g:Heap,φ B->(∀o,B.get? a=some o->g.get? a=some o)->φ g
def Ek(H:Hp)(h:Heap):Prop:=∀a o,H a=some o->Cu P w H h a o
end
section
variable{P:G8}{w:Id}{H H':Hp}{h h':Heap}{a:Addr}{o:HO}
theorem Cu.lt(x:Cu P w H h a o):a<h.objs.size:=by
 cases o with
 |lst xs=>obtain⟨_,_,_,_,e⟩:=x;exact aG e
 |tup xs=>obtain⟨_,_,_,p⟩:=x;exact p.lt
 |dK kvs=>obtain⟨_,_,_,_,o,_,_,e,_⟩:=x;exact aG e
 |dT kvs=>obtain⟨_,_,_,_,o,_,_,e,_⟩:=x;exact aG e
 |set S n=>obtain⟨o,_,_,_,e,_⟩:=x;exact aG e
 |ins C dx fs=>obtain⟨_,_,_,e,_⟩:=x;exact aG e
 |own y=>obtain⟨_,e⟩:=x;exact aG e
 |xd fs=>obtain⟨_,⟨_,_,_,e,_⟩,_⟩:=x;exact aG e
 |oo lo hi=>obtain⟨_,_,_,e⟩:=x;exact aG e
 |Ft ob u=>obtain⟨e,_⟩:=x;exact aG e
 |Wk ps=>exact aG (show h.get? a=some _ from x)
 |met f y=>exact aG (show h.get? a=some _ from x)
 |ext φ=>obtain⟨_,⟨_,e⟩,_⟩:=x;exact aG e
theorem Paired.pI{α g:Type}{F G:α->g->Prop}:∀ {l₁:List α} {l₂:List g},Paired F l₁ l₂->(∀a b,F a b->G a b)->Paired G l₁ l₂
 |_,_,.nil,_=>.nil
 |_,_,.cons r t,f=>.cons (f _ _ r) (Paired.pI t f)
theorem Cu.Nx(x:Cu P w H h a o)(k:∀b u,(b=a\/H b=some (.own a))->h.get? b=some u->h'.get? b=some u)
 (I:∀b,H b=some (.own a)->H' b=some (.own a))(B:∀b xs,H b=some (.tup xs)->H' b=some (.tup xs)):Cu P w H' h' a o:=by
 induction o with
 |lst xs=>obtain⟨z,its,n,r,e⟩:=x;exact⟨z,its,n,r,k _ _ (.inl rfl) e⟩
 |tup xs=>obtain⟨z,its,r,ob,e,c⟩:=x;exact⟨z,its,r,ob,k _ _ (.inl rfl) e,c⟩
 |dK kvs=>obtain⟨z,y,vs,r,ob,es,ep,e,c⟩:=x;exact⟨z,y,vs,r,ob,es,ep,k _ _ (.inl rfl) e,c⟩
 |dT kvs=>
  obtain⟨z,y,xs,r,ob,es,ep,e,c⟩:=x;exact⟨z,y,xs,Paired.pI r fun p q z=>⟨z.1,B _ _ z.2.1,z.2.2⟩,ob,es,ep,k _ _ (.inl rfl) e,c⟩
 |set S n=>obtain⟨ob,es,ep,t,e,c⟩:=x;exact⟨ob,es,ep,t,k _ _ (.inl rfl) e,c⟩
 |ins C dx fs=>
  obtain⟨d,z,ne,e,mA,⟨od,es,ep,R,c⟩,r⟩:=x;exact⟨I _ d,z,ne,k _ _ (.inl rfl) e,mA,⟨od,es,ep,k _ _ (.inr d) R,c⟩,r⟩
 |own y=>obtain⟨ob,e⟩:=x;exact⟨ob,k _ _ (.inl rfl) e⟩
 |xd fs=>obtain⟨mA,⟨od,es,ep,e,c⟩,r⟩:=x;exact⟨mA,⟨od,es,ep,k _ _ (.inl rfl) e,c⟩,r⟩
 |oo lo hi=>obtain⟨t,u,v,e⟩:=x;exact⟨t,u,v,k _ _ (.inl rfl) e⟩
 |Ft ob u g=>obtain⟨e,q⟩:=x;exact⟨k _ _ (.inl rfl) e,g q⟩
 |Wk ps=>
  have e:h.get? a=some { cls:=.none,data:=.fields ps}:=x;show h'.get? a=some { cls:=.none,data:=.fields ps};exact k a _ (.inl rfl) e
 |met f y=>
  have e:h.get? a=some (PySem.W.methodObj (.ref f) (.ref y)):=x;show h'.get? a=some (PySem.W.methodObj (.ref f) (.ref y));exact k a _ (.inl rfl) e
 |ext φ=>obtain⟨p,⟨o,e⟩,st⟩:=x;exact⟨st _ _ p fun o q=>k _ _ (.inl rfl) q,⟨o,k _ _ (.inl rfl) e⟩,st⟩
theorem Ek.lt(x:Ek P w H h)(e:H a=some o):a<h.objs.size:=(x a o e).lt
theorem Ek.fresh(x:Ek P w H h)(e:h.objs.size<=a):H a=none:=by
 cases q:H a with
 |none=>rfl
 |some u=>exact absurd (aI (x.lt q) e) (Nat.lt_irrefl _)
theorem Ek.kept(x:Ek P w H h)(k:∀b u,h.get? b=some u->h'.get? b=some u):Ek P w H h':=fun a o e=>
 (x a o e).Nx (fun b u _ q=>k b u q) (fun _ q=>q) fun _ _ q=>q
theorem Ek.laid(x:Ek P w H h)(k:∀b u,h.get? b=some u->h'.get? b=some u)(B:h.objs.size<=a)(new:Cu P w (upd H a o) h' a o):Ek P w (upd H a o) h':=fun b u e=>by
 have hn:=x.fresh B;by_cases g:b=a
 .subst g;rw[AM]at e;cases e;exact new
 .rw[AR g]at e;exact(x b u e).Nx (fun c v _ q=>k c v q) (fun c q=>by rw[AR (Aq q hn)];exact q) fun c xs q=>by rw[AR (Aq q hn)];exact q
end
def Rd(H:Hp)(a:Addr)(u:HO):Prop:=H a=some u\/∃o,H a=some (.Ft o u)
theorem Rd.ok{P:G8}{w:Id}{H:Hp}{h:Heap}{a:Addr}{u:HO}(r:Rd H a u)(x:Ek P w H h):Cu P w H h a u:=by
 rcases r with r|⟨o,r⟩
 .exact x a u r
 .obtain⟨_,q⟩:=x a _ r;exact q
def iO:Option HO->Prop
 |some (.lst _)=>True
 |some (.dK _)=>True
 |some (.dT _)=>True
 |some (.set _ _)=>True
 |some (.ins _ _ _)=>True
 |some (.ext _)=>True
 |_=>False
section
variable{P:G8}{w:Id}{H:Hp}{h h':Heap}{x e:Addr}{o':HO}
theorem Ek.write(ok:Ek P w H h)(I:iO (H x))(Z:e=x\/H e=some (.own x))(k:∀b u,b≠e->h.get? b=some u->h'.get? b=some u)(U:∃u,h'.get? e=some u)
 (new:Cu P w (upd H x o') h' x o'):Ek P w (upd H x o') h':=fun b u q=>by
 have B:∀c y,H c=some (.own y)->c≠x:=fun c y r z=>by subst z;rw[r]at I;exact I
 have Td:∀c xs,H c=some (.tup xs)->c≠x:=fun c xs r z=>by subst z;rw[r]at I;exact I
 by_cases T:b=x
 .subst T;rw[AM]at q;cases q;exact new
 .rw[AR T]at q;by_cases g:b=e
  .have Y:H b=some (.own x):=by
    rcases Z with z|z
    .exact absurd (g.trans z) T
    .rw[g];exact z
   rw[q]at Y;cases Y;obtain⟨v,hv⟩:=U;exact⟨v,by rw[g];exact hv⟩
  .refine(ok b u q).Nx (fun c v R r=>k c v ?_ r) (fun c r=>by rw[AR (B c b r)];exact r) fun c xs r=>by rw[AR (Td c xs r)];exact r
   rcases R with rfl|R
   .exact g
   .rintro rfl;rcases Z with z|z
    .exact B c b R z
    .rw[R]at z;cases z;exact T rfl
end
structure Un(fs ex:List Addr)(H H':Hp)(h h':Heap):Prop where
 keep:∀b o,h.get? b=some o->H b=none->b ∉ fs->b ∉ ex->h'.get? b=some o
 slot:∀b o,h.get? b=some o->H b=none->b∈fs->b ∉ ex->∃sl,h'.get? b=some {o with slots:=sl}
 free:∀b o,h.get? b=some o->H b=none->b ∉ ex->H' b=none
 there:∀b o,h.get? b=some o->b ∉ ex->∃o',h'.get? b=some o'
 Be:∀b xs,H b=some (.tup xs)->H' b=some (.tup xs)
 Ku:∀b o u,H b=some (.Ft o u)->H' b=some (.Ft o u)
 Nm:∀b ps,H b=some (.Wk ps)->∃more,H' b=some (.Wk (ps++more))
 MQ:∀b xs o,H b=some (.tup xs)->h.get? b=some o->b ∉ ex->h'.get? b=some o
section
variable{fs ex:List Addr}{H H1:Hp}{h h1 h':Heap}{a x e:Addr}{o:HO}
theorem Un.any(u:Un fs ex H H1 h h1){b:Addr}{ob:Obj}(q:h.get? b=some ob)(n:H b=none)(g:b ∉ ex):∃sl,h1.get? b=some {ob with slots:=sl}:=by
 by_cases B:b∈fs
 .exact u.slot b ob q n B g
 .exact⟨ob.slots,u.keep b ob q n B g⟩
theorem Un.kept(k:∀b u,h.get? b=some u->h'.get? b=some u):Un fs ex H H h h' :=
 ⟨fun b ob q _ _ _=>k b ob q,fun b ob q _ _ _=>⟨ob.slots,k b ob q⟩,fun _ _ _ n _=>n,fun b ob q _=>⟨ob,k b ob q⟩,fun _ _ q=>q,fun _ _ _ q=>q,fun _ ps q=>⟨#[],by rw[q];simp⟩,fun _ _ ob _ e _=>k _ ob e⟩
theorem Un.refl:Un fs ex H H h h:=Un.kept fun _ _ q=>q
theorem Un.laid(k:∀b u,h.get? b=some u->h'.get? b=some u)(hp:h.objs.size<=a)(hn:H a=none):Un fs ex H (upd H a o) h h' where
 keep:=fun b u q _ _ _=>k b u q
 slot:=fun b u q _ _ _=>⟨u.slots,k b u q⟩
 free:=fun b u q n _=>by rw[AR (aO (aI (aG q) hp))];exact n
 there:=fun b u q _=>⟨u,k b u q⟩
 Be:=fun b xs q=>by rw[AR (Aq q hn)];exact q
 Ku:=fun b u xs q=>by rw[AR (Aq q hn)];exact q
 Nm:=fun b ps q=>⟨#[],by rw[AR (Aq q hn),q];simp⟩
 MQ:=fun b _ u _ e _=>k b u e
theorem Un.write(B:iO (H x))(T:e=x\/H e=some (.own x))(k:∀b u,b≠e->h.get? b=some u->h'.get? b=some u)(I:∃u,h'.get? e=some u):Un fs ex H (upd H x o) h h':=by
 have R:∀b,H b=none->b≠x:=fun b n z=>by subst z;rw[n]at B;exact B
 have U:∀b,H b=none->b≠e:=fun b n z=>by
  subst z;rcases T with r|r
  .exact R b n r
  .rw[n]at r;cases r
 have hm:∀b u,H b=some u->¬iO (some u)->b≠x:=fun b u q nm z=>by subst z;rw[q]at B;exact nm B
 refine⟨fun b u q n _ _=>k b u (U b n) q,fun b u q n _ _=>⟨u.slots,k b u (U b n) q⟩,fun b u q n _=>by rw[AR (R b n)];exact n,fun b u q _=>?_,
  fun b xs q=>by rw[AR (hm b _ q fun z=>z)];exact q,fun b u xs q=>by rw[AR (hm b _ q fun z=>z)];exact q,fun b ps q=>⟨#[],by rw[AR (hm b _ q fun z=>z),q];simp⟩,fun b xs u q e _=>k b u (fun z=>by
   rcases T with r|r
   .exact hm b _ q (fun z=>z) (z.trans r)
   .rw[<-z,q]at r;cases r) e⟩
 by_cases g:b=e
 .subst g;exact I
 .exact⟨u,k b u g q⟩
end
def P7(h:Heap)(H:Hp):List Addr:=(List.range h.objs.size).filter fun a=>(H a).isSome
def Oy(h:Heap)(H:Hp):Heap:=PySem.W.hideAll h (P7 h H)
theorem dk(h:Heap)(H:Hp):(Oy h H).objs.size=h.objs.size:=PySem.W.hideAll_size _ _
theorem W9{h:Heap}{H:Hp}{b:Addr}{o:Obj}(e:h.get? b=some o)(n:H b=none):(Oy h H).get? b=some o :=
 PySem.W.hideAll_get _ e fun hm=>by
  have q:(H b).isSome=true:=(List.mem_filter.mp hm).2;rw[n]at q;simp at q
theorem jo{h:Heap}{H:Hp}{b:Addr}{o:Obj}(e:(Oy h H).get? b=some o):h.get? b=some o/\H b=none:=by
 have g:h.get? b=some o:=PySem.W.of_hideAll (P7 h H) e;refine⟨g,?_⟩;cases q:H b with
 |none=>rfl
 |some x=>
  have hm:b∈P7 h H:=List.mem_filter.mpr ⟨bD.mpr (aG g),by simp[q]⟩;have z:(Oy h H).get? b=none:=PySem.W.hideAll_none (P7 h H) hm;rw[z]at e;cases e
structure Mod(K:At)(mg:Eu)(base:Heap):Prop where
 nV:K.In base
 glob:base.Ns mainGlobals mg
 blt:∃mb,base.Ns builtinsNs mb/\∀x:Str,x ≠ "__name__" -> mb x=bootBuiltins x
 nolimit:base.NoLimit
def OP(d:Nat):List (List V):=[[],[.ref (d+1)],[.int 1,.int 1],[.ref (d+3)],[.ref (d+2),.ref (d+4)],[],[.int 1,.int 2],[.ref (d+7)],[.ref (d+6),.ref (d+8)],[.int 0,.int 1],[.int 1,.int 1],[.ref (d+10),.ref (d+11)],[.ref (d+9),.ref (d+12)],[],[.int 1,.int 1],[.ref (d+15)],[.ref (d+14),.ref (d+16)],[.int 1,.int 2],[.int 1,.int 2],[.ref (d+18),.ref (d+19)],[.ref (d+17),.ref (d+20)],[],[.int 1,.int 3],[.ref (d+23)],[.int 0,.int 1],[.int 2,.int 3],[.ref (d+25),.ref (d+26)],[.ref (d+22),.ref (d+24),.ref (d+27)],[.int 1,.int 4],[.int 0,.int 1],[.int 3,.int 4],[.ref (d+29),.ref (d+30),.ref (d+31)],[.ref (d+28),.ref (d+32)],[],[.int 1,.int 2],[.ref (d+35)],[.int 0,.int 1],[.int 1,.int 2],[.ref (d+37),.ref (d+38)],[.int 0,.int 1],[.int 0,.int 1],[.int 1,.int 1],[.ref (d+40),.ref (d+41),.ref (d+42)],[.ref (d+34),.ref (d+36),.ref (d+39),.ref (d+43)],[.int 1,.int 6],[.int 1,.int 3],[.int 1,.int 3],[.int 1,.int 6],[.ref (d+45),.ref (d+46),.ref (d+47),.ref (d+48)],[.ref (d+44),.ref (d+49)]]
def PQ(d:Nat):List (Key×V):=[(.inr "plain",.ref (d+5)),(.inr "middle",.ref (d+13)),(.inr "heel",.ref (d+21)),(.inr "third",.ref (d+33)),(.inr "fourth",.ref (d+50))]
def KTb(mg:Eu)(H:Hp):Prop:=∀d:Addr,mg "NAMED_TABLES" = some (.ref d)->(∃o,H d=some (.Ft o (.dK (PQ d))))/\∀j xs,(OP d)[j]? = some xs->H (d+1+j)=some (.tup xs)
theorem KTb.un{mg:Eu}{fs ex:List Addr}{H H':Hp}{h h':Heap}(k:KTb mg H)(u:Un fs ex H H' h h'):KTb mg H':=fun d e=>by
 obtain⟨⟨o,B⟩,g⟩:=k d e;exact⟨⟨o,u.Ku _ _ _ B⟩,fun j xs q=>u.Be _ _ (g j xs q)⟩
structure Cx where
 prog:Program
 w:World
 K:PySem.W.Frag
 mg:Str->Option Value
 base:Heap
 A:Around
 N:List Str
 s₀:Shared
 H₀:Hp
 env:Env
 outer:List Env
 stack:List Env
 ex:List Addr
 fn:Str->Bool
 calm:Bool
 pn:List (Addr×Obj)
 xe:Value->Shared->Prop
def OO(l:List Env):List Addr:=l.filterMap (·.frame)
abbrev Cx.fs(X:Cx):List Addr:=OO X.outer
def mK(sc:Scope)(x:Str):Prop:=sc.names.lookup x=some .local\/sc.names.lookup x=some .cell\/sc.names.lookup x=some .free
def Loc(sc:Scope)(x:Str):Prop:=sc.names.lookup x=some .local\/sc.names.lookup x=some .cell
def Look(env:Env)(h:Heap)(m:Eu)(x:Str)(u:KS):Prop :=
 (env.kindOf x=some .local/\m x=some u)\/((env.kindOf x=some .cell\/env.kindOf x=some .free)/\∃c,env.cells.lookup x=some c/\h.IsCell c (some u))
structure Cx.Ok(X:Cx):Prop where
 mod:Mod X.K X.mg X.base
 kind:X.env.scope.kind=.function
 glob:X.env.globals=mainGlobals
 blt:X.env.builtins=builtinsNs
 above:X.s₀.heap.objs.size<=X.env.locals
 inj:∀x y c,X.env.cells.lookup x=some c->X.env.cells.lookup y=some c->x=y
 has:∀x,(X.env.kindOf x=some .cell\/X.env.kindOf x=some .free)->∃c,X.env.cells.lookup x=some c
 YH:∀x c,X.fn x=true->X.env.cells.lookup x=some c->X.s₀.heap.objs.size<=c
 hd:X.calm=true->X.A.handled=none
 frames:X.A.frames=some X.stack
 ia:X.stack=X.outer\/(X.stack=X.env::X.outer/\X.env.frame=some X.env.locals)
 rQ:∀b∈X.ex,b≠X.env.locals/\∀x c,X.env.cells.lookup x=some c->c≠b
 bs:∀b o,X.base.get? b=some o->X.s₀.heap.get? b=some o/\X.H₀ b=none
 Ug:X.base.objs.size<=X.s₀.heap.objs.size
 VQ:∀b o,X.base.get? b=some o->b ∉ X.ex
 WY:∀b∈X.ex,b ∉ X.fs
 K2:X.s₀.heap.FunFrames X.base X.outer
 YW:∀b∈X.fs,X.H₀ b=none
 kt:KTb X.mg X.H₀
structure Inv(X:Cx)(pins:Cy)(σ:List (Option V))(H:Hp)(s:GJ):Prop where
 ok:X.Ok
 os:s.os=X.s₀.os
 bare:AllBare s.gens
 base:Un X.fs X.ex X.H₀ H X.s₀.heap s.heap
 loc:∃m,s.heap.Ns X.env.locals m/\∀(i:Nat) (x:Str) (v:V),X.N[i]? = some x->σ[i]? = some (some v)->mK X.env.scope x->∃u,RelV v u/\Look X.env s.heap m x u
 cell:∀x c,X.env.cells.lookup x=some c->∃v,s.heap.IsCell c v
 free:H X.env.locals=none
 Jf:∀x c,X.env.cells.lookup x=some c->H c=none
 pin:∀p∈X.pn++pins,s.heap.get? p.1=some p.2/\H p.1=none/\p.1≠X.env.locals/\p.1 ∉ X.fs/\∀v,p.2.data≠.cell v
 BA:Ek X.prog X.w H s.heap
 len:σ.length=X.N.length
theorem Inv.kt{X:Cx}{pins:Cy}{σ:List (Option V)}{H:Hp}{s:GJ}(I:Cl):KTb X.mg H:=I.ok.kt.un I.base
section
variable{X:Cx}{pins:Cy}{σ:List (Option V)}{H H':Hp}{s:GJ}{h':Heap}
theorem Cx.Ok.sv(ok:X.Ok){b:Addr}{o:Obj}(e:X.base.get? b=some o):b ∉ X.fs:=fun g=>by
 have:=(ok.K2.mem g).1;rw[e]at this;cases this
theorem Inv.bs(I:Cl):∀b o,X.base.get? b=some o->s.heap.get? b=some o/\H b=none:=fun b o e=>
 ⟨I.base.keep b o (I.ok.bs b o e).1 (I.ok.bs b o e).2 (I.ok.sv e) (I.ok.VQ b o e),I.base.free b o (I.ok.bs b o e).1 (I.ok.bs b o e).2 (I.ok.VQ b o e)⟩
theorem Inv.bk(I:Cl):∀b o,X.base.get? b=some o->s.heap.get? b=some o:=fun b o e=>(I.bs b o e).1
theorem Inv.mod(I:Cl):Mod X.K X.mg X.base:=I.ok.mod
theorem Inv.Jx(I:Cl):X.K.In s.heap:=I.ok.mod.nV.keeps I.bk
theorem Inv.lt(I:Cl):X.env.locals<s.heap.objs.size:=let⟨_,hn,_⟩:=I.loc;hn.lt
theorem Inv.sz(I:Cl):X.s₀.heap.objs.size<=s.heap.objs.size:=aR I.ok.above (av I.lt)
theorem Inv.tV(I:Cl){a:Addr}(h:s.heap.objs.size<=a):a ∉ X.fs:=fun B=>by
 obtain⟨_,o,g,_⟩:=I.ok.K2.mem B;exact absurd (aI (aG g) (aR I.sz h)) (Nat.lt_irrefl _)
theorem Inv.V7(I:Cl):∀x c,X.env.cells.lookup x=some c->c≠X.env.locals:=fun x c e z=>by
 obtain⟨v,o,R,hd⟩:=I.cell x c e;obtain⟨m,⟨o',es,ep,g,B,_⟩,_⟩:=I.loc;rw[z,g]at R;cases R;rw[B]at hd;cases hd
theorem Inv.K2(I:Cl):s.heap.FunFrames X.base X.outer:=by
 have all:∀(l:List Env),(∀b∈OO l,b∈X.fs)->X.s₀.heap.FunFrames X.base l->s.heap.FunFrames X.base l:=by
  intro l
  induction l with
  |nil=>intro _ _;trivial
  |cons env r U=>
   intro T hl;obtain⟨hk,⟨L,o,g,hn,Z,hd⟩,Y⟩:=hl;have R:L∈X.fs:=T L (by unfold OO;rw[(Wy),g];exact aX);obtain⟨sl,e⟩:=I.base.slot L o Z (I.ok.YW L R) R fun z=>I.ok.WY L z R;exact⟨hk,⟨L,_,g,hn,e,hd⟩,U (fun b B=>T b (by unfold OO;rw[(Wy),g];exact aV _ B)) Y⟩
 exact all X.outer (fun _ B=>B) I.ok.K2
theorem Inv.stack(I:Cl):s.heap.FunFrames X.base X.stack:=by
 rcases I.ok.ia with e|⟨e,g⟩
 .rw[e];exact I.K2
 .rw[e];obtain⟨m,hn,_⟩:=I.loc;refine .cons (by rw[I.ok.kind];decide) g hn ?_ I.K2;exact Heap.get?_none_of_le (aR I.ok.Ug I.ok.above)
theorem Inv.Wq(I:Cl):∀b∈OO X.stack,b∈X.env.locals::X.fs:=fun b g=>by
 rcases I.ok.ia with e|⟨e,B⟩
 .rw[e]at g;exact aV _ g
 .rw[e]at g;unfold OO at g;rw[(Wy),B]at g;exact g
theorem Inv.Ym(I:Cl):∀b∈OO X.stack,H b=none:=fun b g=>by
 rcases aQ.mp (I.Wq b g) with e|g
 .rw[e];exact I.free
 .obtain⟨_,o,B,_⟩:=I.ok.K2.mem g;exact I.base.free b o B (I.ok.YW b g) fun z=>I.ok.WY b z g
theorem Inv.step{g':Array GenState}{t':Nat}{d':Drawn}{ch:List Addr}(I:Cl)
 (T:∀b∈ch,(b∈X.ex\/X.s₀.heap.objs.size<=b)/\b≠X.env.locals/\(∀x c,X.env.cells.lookup x=some c->c≠b)/\∀p∈X.pn++pins,p.1≠b)
 (keep:∀b o,b≠X.env.locals->b ∉ X.fs->b ∉ ch->s.heap.get? b=some o->H b=none->h'.get? b=some o)
 (slot:∀b o,b≠X.env.locals->b∈X.fs->b ∉ ch->s.heap.get? b=some o->H b=none->∃sl,h'.get? b=some {o with slots:=sl})(free:∀b o,b ∉ ch->s.heap.get? b=some o->H b=none->H' b=none)
 (there:∀b o,b ∉ ch->s.heap.get? b=some o->∃o',h'.get? b=some o')
 (Be:∀b xs,H b=some (.tup xs)->H' b=some (.tup xs))(Ku:∀b o u,H b=some (.Ft o u)->H' b=some (.Ft o u))(Nm:∀b ps,H b=some (.Wk ps)->∃more,H' b=some (.Wk (ps++more)))
 (MQ:∀b xs o,b ∉ ch->H b=some (.tup xs)->s.heap.get? b=some o->h'.get? b=some o)
 (ns:∀m,s.heap.Ns X.env.locals m->h'.Ns X.env.locals m)(BA:Ek X.prog X.w H' h')(hg:AllBare g') :
  Inv X pins σ H' {s with heap:=h',gens:=g',drawn:=d',toks:=t'}:=by
 have Z:∀b o,X.s₀.heap.get? b=some o->b≠X.env.locals:=fun b o e=>aO (aI (aG e) I.ok.above);have B:∀b o,X.s₀.heap.get? b=some o->b ∉ X.ex->b ∉ ch:=fun b o e g U=>by
  rcases(T b U).1 with z|z
  .exact g z
  .exact absurd (aI (aG e) z) (Nat.lt_irrefl _)
 have cellK:∀x c,X.env.cells.lookup x=some c->∀v,s.heap.IsCell c v->h'.IsCell c v:=fun x c e v ⟨o,Y,hd⟩=>by
  have R:c ∉ ch:=fun z=>(T c z).2.2.1 x c e rfl;by_cases hc:c∈X.fs
  .obtain⟨sl,q⟩:=slot c o (I.V7 x c e) hc R Y (I.Jf x c e);exact⟨_,q,hd⟩
  .exact⟨o,keep c o (I.V7 x c e) hc R Y (I.Jf x c e),hd⟩
 refine⟨I.ok,I.os,hg,⟨fun b o e n U g=>?_,fun b o e n U g=>?_,fun b o e n g=>?_,fun b o e g=>?_,fun b xs e=>Be b xs (I.base.Be b xs e),fun b o xs e=>Ku b o xs (I.base.Ku b o xs e),fun b ps e=>?_,fun b xs o q e g=>MQ b xs o (B b o e g) (I.base.Be b xs q) (I.base.MQ b xs o q e g)⟩,?_,fun x c e=>?_,?_,fun x c e=>?_,fun p hp=>?_,BA,I.len⟩
 .exact keep b o (Z b o e) U (B b o e g) (I.base.keep b o e n U g) (I.base.free b o e n g)
 .obtain⟨sl,e1⟩:=I.base.slot b o e n U g;obtain⟨sl',e2⟩:=slot b _ (Z b o e) U (B b o e g) e1 (I.base.free b o e n g);exact⟨sl',e2⟩
 .obtain⟨o',e1⟩:=I.base.there b o e g;exact free b o' (B b o e g) e1 (I.base.free b o e n g)
 .obtain⟨o',e1⟩:=I.base.there b o e g;exact there b o' (B b o e g) e1
 .obtain⟨m1,e1⟩:=I.base.Nm b ps e;obtain⟨m2,e2⟩:=Nm b _ e1;exact⟨m1++m2,by rw[e2,Array.append_assoc]⟩
 .obtain⟨m,hn,hl⟩:=I.loc;refine⟨m,ns m hn,fun i x v e1 e2 e3=>?_⟩;obtain⟨u,r,l⟩:=hl i x v e1 e2 e3;refine⟨u,r,?_⟩;rcases l with l|⟨k,c,e,z⟩
  .exact .inl l
  .exact .inr ⟨k,c,e,cellK x c e _ z⟩
 .obtain⟨v,z⟩:=I.cell x c e;exact⟨v,cellK x c e v z⟩
 .obtain⟨m,⟨o,_,_,Y,_⟩,_⟩:=I.loc;exact free _ o (fun z=>(T _ z).2.1 rfl) Y I.free
 .obtain⟨v,o,Y,hd⟩:=I.cell x c e;exact free c o (fun z=>(T c z).2.2.1 x c e rfl) Y (I.Jf x c e)
 .obtain⟨e,n,ne,nf,d⟩:=I.pin p hp;have R:p.1 ∉ ch:=fun z=>(T p.1 z).2.2.2 p hp rfl;exact⟨keep p.1 p.2 ne nf R e n,free p.1 p.2 R e n,ne,nf,d⟩
theorem Inv.un{t':Nat}(I:Cl)(u:Un X.fs [] H H' s.heap h')(BA:Ek X.prog X.w H' h'):Inv X pins σ H' {s with heap:=h',toks:=t'}:=by
 obtain⟨m,⟨o,es,ep,U,r⟩,_⟩:=id I.loc;obtain⟨sl,Z⟩:=u.any U I.free CH;exact I.step (g':=s.gens) (d':=s.drawn) (ch:=[]) (fun _ z=>nomatch z) (fun b o _ B _ e n=>u.keep b o e n B CH) (fun b o _ B _ e n=>u.slot b o e n B CH) (fun b o _ e n=>u.free b o e n CH) (fun b o _ e=>u.there b o e CH) u.Be u.Ku u.Nm (fun b xs o _ q e=>u.MQ b xs o q e CH) (fun m' hm=>by
  obtain⟨o',R,T,g,Y⟩:=hm;rw[U]at g;cases g;exact⟨_,R,T,Z,Y⟩) BA I.bare
theorem Inv.call{g':Array GenState}{t':Nat}{d':Drawn}{ch:List Addr}(I:Cl)(u:Un (OO X.stack) ch H H' s.heap h')(BA:Ek X.prog X.w H' h')(hg:AllBare g')
 (R:∀b∈ch,(b∈X.ex\/X.s₀.heap.objs.size<=b)/\b≠X.env.locals/\(∀x c,X.env.cells.lookup x=some c->c≠b)/\∀p∈X.pn++pins,p.1≠b) :
  Inv X pins σ H' {s with heap:=h',gens:=g',drawn:=d',toks:=t'}:=by
 obtain⟨m,⟨o,es,ep,Z,r⟩,_⟩:=id I.loc;obtain⟨sl,T⟩:=u.any Z I.free fun z=>(R _ z).2.1 rfl;exact I.step (ch:=ch) R (fun b o T hb g e n=>u.keep b o e n (fun z=>(aQ.mp (I.Wq b z)).elim T hb) g) (fun b o _ _ g e n=>u.any e n g) (fun b o g e n=>u.free b o e n g) (fun b o g e=>u.there b o e g) u.Be u.Ku u.Nm (fun b xs o g q e=>u.MQ b xs o q e g) (fun m' hm=>by
  obtain⟨o',U,Y,B,r'⟩:=hm;rw[Z]at B;cases B;exact⟨_,U,Y,T,r'⟩) BA hg
theorem Inv.turned{t':Nat}{it:Addr}(I:Cl)(k:∀b o,b≠it->s.heap.get? b=some o->h'.get? b=some o)(hn:H it=none)(R:it≠X.env.locals)
 (h1:it∈X.ex\/X.s₀.heap.objs.size<=it)(Z:∀x c,X.env.cells.lookup x=some c->c≠it)(Y:∀p∈X.pn++pins,p.1≠it):Inv X pins σ H {s with heap:=h',toks:=t'}:=by
 have B:∀b u,H b=some u->b≠it:=fun b u e z=>by rw[z,hn]at e;cases e
 refine I.step (g':=s.gens) (d':=s.drawn) (ch:=[it]) (fun b U=>?_) (fun b o _ _ g e _=>k b o (fun z=>g (by simp[z])) e) (fun b o _ _ g e _=>⟨o.slots,k b o (fun z=>g (by simp[z])) e⟩) (fun _ _ _ _ n=>n)
  (fun b o g e=>⟨o,k b o (fun z=>g (by simp[z])) e⟩) (fun _ _ e=>e) (fun _ _ _ e=>e) (fun b ps e=>⟨#[],by rw[e];simp⟩) (fun b xs o g _ e=>k b o (fun z=>g (by simp[z])) e) (fun m hm=>?_) (fun b u e=>?_) I.bare
 .have e:b=it:=by simpa using U
  subst e;exact⟨h1,R,Z,Y⟩
 .obtain⟨o,es,ep,T,r⟩:=hm;exact⟨o,es,ep,k _ o (Ne.symm R) T,r⟩
 .refine(I.BA b u e).Nx (fun c v g q=>k c v ?_ q) (fun _ q=>q) fun _ _ q=>q;rcases g with z|z
  .rw[z];exact B b u e
  .exact B c _ z
theorem Inv.tok(I:Cl)(t:Nat):Inv X pins σ H {s with toks:=t}:=I.un (h':=s.heap) (t':=t) Un.refl I.BA
theorem Inv.kept{t':Nat}(I:Cl)(k:∀b u,s.heap.get? b=some u->h'.get? b=some u):Inv X pins σ H {s with heap:=h',toks:=t'}:=I.un (Un.kept k) (I.BA.kept k)
theorem Inv.laid{a:Addr}{o:HO}{t':Nat}(I:Cl)(k:∀b u,s.heap.get? b=some u->h'.get? b=some u)(g:s.heap.objs.size<=a)(new:Cu X.prog X.w (upd H a o) h' a o) :
  Inv X pins σ (upd H a o) {s with heap:=h',toks:=t'}:=I.un (Un.laid k g (I.BA.fresh g)) (I.BA.laid k g new)
theorem Inv.write{x e:Addr}{o:HO}{t':Nat}(I:Cl)(B:iO (H x))(R:e=x\/H e=some (.own x))(k:∀b u,b≠e->s.heap.get? b=some u->h'.get? b=some u)(g:∃u,h'.get? e=some u)
 (new:Cu X.prog X.w (upd H x o) h' x o):Inv X pins σ (upd H x o) {s with heap:=h',toks:=t'}:=I.un (Un.write B R k g) (I.BA.write B R k g new)
theorem Inv.X4{g:Cy}(I:Cl)(h:∀p∈g,s.heap.get? p.1=some p.2/\H p.1=none/\p.1≠X.env.locals/\p.1 ∉ X.fs/\∀v,p.2.data≠.cell v):Inv X g σ H s :=
 ⟨I.ok,I.os,I.bare,I.base,I.loc,I.cell,I.free,I.Jf,fun p B=>(aU.mp B).elim (fun z=>I.pin p (List.mem_append_left _ z)) (h p),I.BA,I.len⟩
theorem W3{N:KP}(g:N.Nodup){i j:Nat}{x:Str}(a:N[i]? = some x)(b:N[j]? = some x):i=j:=by
 obtain⟨R,e1⟩:=aD.mp a;obtain⟨I,B⟩:=aD.mp b;exact(List.getElem_inj g).mp (e1.trans B.symm)
theorem Tu{M:Model}{A:Around}{E:AT}{i:Nat}{x:Str}{v:V}{u:KS}{Q:Unit->Shared->Prop}(I:Cl)(hN:X.N.Nodup)(hi:X.N[i]? = some x)(B:Loc X.env.scope x)(r:RelV v u)
 (h:∀s',Inv X pins (σ.set i (some v)) H s'->(∃a,Heap.SameBut a s.heap s'.heap/\(a=X.env.locals\/X.env.cells.lookup x=some a))->Q () s')(hf:X.fn x=true\/X.env.scope.names.lookup x=some .local:=by first|exact .inl rfl|exact .inr rfl|assumption):wpAny M A (storeName X.env x u) Q E s:=by
 obtain⟨m,hn,hl⟩:=id I.loc;have hcls:(X.env.scope.kind==.class||(X.env.scope.kind==.module&&X.env.locals != X.env.globals))=false:=by rw[I.ok.kind];rfl
 have hiσ:i<σ.length:=by rw[I.len];exact(aD.mp hi).1
 have V7:=I.V7;have tracked:∀ {a:Addr} {h':Heap},(∃o,s.heap.get? a=some o/\H a=none)->Heap.SameBut a s.heap h'->Ek X.prog X.w H h':=fun {a h'} ha g b ob e=>by
  obtain⟨_,_,T⟩:=ha;refine(I.BA b ob e).Nx (fun c w' R q=>(g.2 c ?_).trans q) (fun _ q=>q) fun _ _ q=>q;rintro rfl;rcases R with rfl|R
  .rw[T]at e;cases e
  .rw[T]at R;cases R
 rcases B with Z|Z
 .refine wpAny_storeName_local Z hn (fun h' hn' g=>?_) hcls;obtain⟨oL,_,_,hoL,_⟩:=id hn;refine h _ ⟨I.ok,I.os,I.bare,⟨fun b o e n hb B=>?_,fun b o e n hb B=>?_,I.base.free,fun b o e B=>?_,I.base.Be,I.base.Ku,I.base.Nm,fun b xs o q e B=>(g.2 b (aO (aI (aG e) I.ok.above))).trans (I.base.MQ b xs o q e B)⟩,⟨_,hn',fun j y v' e1 Y e3=>?_⟩,fun y c e=>?_,I.free,I.Jf,fun p hp=>?_,tracked ⟨oL,hoL,I.free⟩ g,by simpa using I.len⟩ ⟨_,g,.inl rfl⟩
  .exact(g.2 b (aO (aI (aG e) I.ok.above))).trans (I.base.keep b o e n hb B)
  .obtain⟨sl,e1⟩:=I.base.slot b o e n hb B;exact⟨sl,(g.2 b (aO (aI (aG e) I.ok.above))).trans e1⟩
  .obtain⟨o',e1⟩:=I.base.there b o e B;exact⟨o',(g.2 b (aO (aI (aG e) I.ok.above))).trans e1⟩
  .by_cases hj:j=i
   .subst hj;rw[hi]at e1;cases e1;rw[List.getElem?_set_self hiσ]at Y;cases Y;exact⟨u,r,.inl ⟨Z,by simp⟩⟩
   .rw[List.getElem?_set_ne (Ne.symm hj)]at Y;obtain⟨u',r',q⟩:=hl j y v' e1 Y e3;refine⟨u',r',?_⟩;rcases q with ⟨k,e⟩|⟨k,c,e,z⟩
    .refine .inl ⟨k,?_⟩;have:y≠x:=fun e=>hj (W3 hN e1 (e ▸ hi));simp[this,e]
    .exact .inr ⟨k,c,e,z.sameBut g (V7 y c e)⟩
  .obtain⟨w',z⟩:=I.cell y c e;exact⟨w',z.sameBut g (V7 y c e)⟩
  .obtain⟨e,n,ne,nf,d⟩:=I.pin p hp;exact⟨(g.2 p.1 ne).trans e,n,ne,nf,d⟩
 .have U:X.fn x=true:=by
   rcases hf with z|z
   .exact z
   .rw[z]at Z;cases Z
  obtain⟨c,R⟩:=I.ok.has x (.inl Z);obtain⟨w',z⟩:=I.cell x c R;refine wpAny_storeName_cell I.ok.kind Z R z (fun h' hc' g=>?_);obtain⟨oc,hoc,hocd⟩:=id z;refine h {s with heap:=h'} ⟨I.ok,I.os,I.bare,⟨fun b o e n hb B=>?_,fun b o e n hb B=>?_,I.base.free,fun b o e B=>?_,I.base.Be,I.base.Ku,I.base.Nm,fun b xs o q e B=>(g.2 b (aO (aI (aG e) (I.ok.YH x c U R)))).trans (I.base.MQ b xs o q e B)⟩,⟨m,hn.sameBut g (Ne.symm (V7 x c R)),fun j y v' e1 Y e3=>?_⟩,fun y c' e=>?_,I.free,I.Jf,fun p hp=>?_,tracked ⟨oc,hoc,I.Jf x c R⟩ g,by simpa using I.len⟩ ⟨c,g,.inr R⟩
  .exact(g.2 b (aO (aI (aG e) (I.ok.YH x c U R)))).trans (I.base.keep b o e n hb B)
  .obtain⟨sl,e1⟩:=I.base.slot b o e n hb B;exact⟨sl,(g.2 b (aO (aI (aG e) (I.ok.YH x c U R)))).trans e1⟩
  .obtain⟨o',e1⟩:=I.base.there b o e B;exact⟨o',(g.2 b (aO (aI (aG e) (I.ok.YH x c U R)))).trans e1⟩
  .by_cases hj:j=i
   .subst hj;rw[hi]at e1;cases e1;rw[List.getElem?_set_self hiσ]at Y;cases Y;exact⟨u,r,.inr ⟨.inl Z,c,R,hc'⟩⟩
   .rw[List.getElem?_set_ne (Ne.symm hj)]at Y;obtain⟨u',r',q⟩:=hl j y v' e1 Y e3;refine⟨u',r',?_⟩;rcases q with q|⟨k,c',e,z'⟩
    .exact .inl q
    .refine .inr ⟨k,c',e,z'.sameBut g ?_⟩;rintro rfl;exact hj (W3 hN e1 (I.ok.inj _ _ _ e R ▸ hi))
  .by_cases hcc:c'=c
   .subst hcc;exact⟨_,hc'⟩
   .obtain⟨w2,z2⟩:=I.cell y c' e;exact⟨w2,z2.sameBut g hcc⟩
  .obtain⟨e,n,ne,nf,d⟩:=I.pin p hp;refine⟨(g.2 p.1 ?_).trans e,n,ne,nf,d⟩;intro q;rw[q,hoc]at e;have q':oc=p.2:=ag e;exact d w' (by rw[<-q'];exact hocd)
theorem NV{M:Model}{A:Around}{E:AT}{i:Nat}{x:Str}{v:V}{u:KS}{Q:Unit->Shared->Prop}(I:Cl)(R:X.N.Nodup)(hi:X.N[i]? = some x)(g:Loc X.env.scope x)(r:RelV v u)
 (h:∀s',Inv X pins (σ.set i (some v)) H s'->Q () s')(B:X.fn x=true\/X.env.scope.names.lookup x=some .local:=by first|exact .inl rfl|exact .inr rfl|assumption):wpAny M A (storeName X.env x u) Q E s :=
 Tu I R hi g r (fun s' T _=>h s' T) B
theorem Inv.qi{s':GJ}{ch:List Addr}(I:Cl)(U:s'.os=s.os)(u:Un (OO X.stack) ch H H' s.heap s'.heap)(BA:Ek X.prog X.w H' s'.heap)(Y:AllBare s'.gens)
 (g:∀b∈ch,(b∈X.ex\/X.s₀.heap.objs.size<=b)/\b≠X.env.locals/\(∀x c,X.env.cells.lookup x=some c->c≠b)/\∀p∈X.pn++pins,p.1≠b):Inv X pins σ H' s':=by
 obtain⟨h',R,T,B,o'⟩:=s';have e:o'=s.os:=U;subst e;exact I.call (g':=R) (t':=B) (d':=T) u BA Y g
end
abbrev XK:=Value->Option Addr->Hp->Prop
abbrev St:=List (Option V)
abbrev VK:=V->Hp->Prop
abbrev TE:=St->Hp->VK->Prop
abbrev TT:=St->Hp->(Bool->Hp->Prop)->Prop
abbrev TA:=St->Hp->(List V->Hp->Prop)->Prop
structure Ends where
 nx:St->Hp->Prop
 rt:VK
 bk:St->Hp->Prop:=fun _ _=>False
 ct:St->Hp->Prop:=fun _ _=>False
abbrev TS:=Ends->St->Hp->Prop
def EP(X:Cx)(pins:Cy)(σ:St)(Q:VK)(u:KS)(s':GJ):Prop:=∃v H',Inv X pins σ H' s'/\RelV v u/\Q v H'
def TP(X:Cx)(pins:Cy)(σ:St)(Q:Bool->Hp->Prop)(b:Bool)(s':GJ):Prop:=∃H',Inv X pins σ H' s'/\Q b H'
def AP(X:Cx)(pins:Cy)(σ:St)(Q:List V->Hp->Prop)(us:Db)(s':GJ):Prop:=∃vs H',Inv X pins σ H' s'/\Vals vs us/\Q vs H'
def SP(X:Cx)(pins:Cy)(D:Ends)(f:Flow)(s':GJ):Prop :=
 match f with
 |.next=>∃g H',Inv X pins g H' s'/\D.nx g H'
 |.brk=>∃g H',Inv X pins g H' s'/\D.bk g H'
 |.cont=>∃g H',Inv X pins g H' s'/\D.ct g H'
 |.ret u=>∃v g H',Inv X pins g H' s'/\RelV v u/\D.rt v H'
def PE(X:Cx)(e:Expr)(t:TE):Prop :=
 ∀(pins:Cy) (s:GJ) (σ:St) (H:Hp) (Q:VK),Inv X pins σ H s->t σ H Q->wpAny Cs X.A (eval e X.env) (EP X pins σ Q) X.xe s
def PT(X:Cx)(e:Expr)(t:TT):Prop :=
 ∀(pins:Cy) (s:GJ) (σ:St) (H:Hp) (Q:Bool->Hp->Prop),Inv X pins σ H s->t σ H Q->wpAny Cs X.A (isTrue e X.env (eval e X.env)) (TP X pins σ Q) X.xe s
def PW(X:Cx)(e:Expr)(t:TT):Prop :=
 ∀(g:Sem Value) (pins:Cy) (s:GJ) (σ:St) (H:Hp) (Q:Bool->Hp->Prop),Inv X pins σ H s->t σ H Q->wpAny Cs X.A (isTrue e X.env g) (TP X pins σ Q) X.xe s
theorem PW.pt{X:Cx}{e:Expr}{t:TT}(h:PW X e t):PT X e t:=h _
def PA(X:Cx)(es:List Expr)(t:TA):Prop :=
 ∀(pos:Pos) (pins:Cy) (s:GJ) (σ:St) (H:Hp) (Q:List V->Hp->Prop),Inv X pins σ H s->t σ H Q->wpAny Cs X.A (spliced (backTo pos (starEach es X.env))) (AP X pins σ Q) X.xe s
def PS(X:Cx)(st:Stmt)(t:TS):Prop :=
 ∀(pins:Cy) (s:GJ) (σ:St) (H:Hp) (D:Ends),Inv X pins σ H s->t D σ H->wpAny Cs X.A (exec st X.env) (SP X pins D) X.xe s
def Lw(X:Cx)(st:List Stmt)(t:TS):Prop :=
 ∀(pins:Cy) (s:GJ) (σ:St) (H:Hp) (D:Ends),Inv X pins σ H s->t D σ H->wpAny Cs X.A (execs st X.env) (SP X pins D) X.xe s
theorem BQ{α:Type}{t:Sem α}{Q g:α->Shared->Prop}{M:Model}{A:Around}{E:AT}{s:GJ}(h:wpAny M A t Q E s)(B:∀a s,Q a s->g a s):wpAny M A t g E s:=ao h B fun _ _ x=>x
section
variable{X:Cx}
def LL(i:Nat):TE:=fun σ H Q=>∃v,σ[i]? = some (some v)/\Q v H
def tC(v:V):TE:=fun _ H Q=>Q v H
theorem oI{i:Nat}{x:Str}{pos:Pos}(Z:X.N[i]? = some x)(U:mK X.env.scope x)(hd:(x==("__debug__" : Str))=false:=by decide)(R:(x==("__classdict__" : Str))=false:=by decide):PE X (.Name x pos) (LL i):=by
 intro pins s σ H Q I h;obtain⟨v,e,h⟩:=h;obtain⟨m,hn,Y⟩:=I.loc;obtain⟨u,r,l⟩:=Y i x v Z e U;have fin:EP X pins σ Q u s:=⟨v,H,I,r,h⟩;rcases l with ⟨B,hm⟩|⟨B,c,T,g⟩
 .exact wpAny_Name (wpAny_loadName_local I.ok.kind B hn hm fin) hd
 .rcases B with B|B
  .exact wpAny_Name (wpAny_loadName_cell I.ok.kind B T g fin) hd
  .exact wpAny_Name (wpAny_loadName_free I.ok.kind B T g fin R) hd
theorem AQ{i j pos}:PE X (.Constant (.int i) j pos) (tC (.int i)):=fun _ _ _ H _ I h=>wpAny_Constant_int ⟨.int i,H,I.tok _,⟨_,rfl⟩,h⟩
theorem Jc{b j pos}:PE X (.Constant (.bool b) j pos) (tC (.bl b)):=fun _ _ _ H _ I h=>Constant_bool ⟨.bl b,H,I,rfl,h⟩
theorem lM{j pos}:PE X (.Constant .none j pos) (tC .CL):=fun _ _ _ H _ I h=>Constant_none ⟨.CL,H,I,rfl,h⟩
theorem Oa{x j pos}:PE X (.Constant (.str x) j pos) (tC (.str x)):=fun _ _ _ H _ I h=>Calls.Constant_str ⟨.str x,H,I.tok _,⟨_,rfl⟩,h⟩
def Gl(X:Cx)(x:Str):Prop:=X.env.kindOf x=some .globalImplicit
theorem Xv{E:AT}{pins:Cy}{s:GJ}{σ:St}{H:Hp}{x:Str}{u:KS}{pos:Pos}{Q:AT}(I:Cl)(g:Gl X x)(hm:X.mg x=some u)(h:Q u s)
 (hd:(x==("__debug__" : Str))=false:=by decide):wpAny Cs X.A (eval (.Name x pos) X.env) Q E s :=
 Calls.Name_function_global I.ok.kind g (Calls.loadGlobal_global (by rw[I.ok.glob];exact I.mod.glob.keeps I.bk) hm h) hd
theorem Hh{E:AT}{pins:Cy}{s:GJ}{σ:St}{H:Hp}{x:Str}{u:KS}{pos:Pos}{Q:AT}(I:Cl)(B:Gl X x)(hm:X.mg x=none)(g:bootBuiltins x=some u)(h:Q u s)
 (hn:x ≠ "__name__":=by decide)(hd:(x==("__debug__" : Str))=false:=by decide):wpAny Cs X.A (eval (.Name x pos) X.env) Q E s:=by
 obtain⟨mb,T,R⟩:=I.mod.blt;exact Calls.Name_function_global I.ok.kind B (Calls.loadGlobal_builtin (by rw[I.ok.glob];exact I.mod.glob.keeps I.bk) hm (by rw[I.ok.blt];exact T.keeps I.bk) ((R x hn).trans g) h) hd
theorem Pf{x:Str}{v:V}{u:KS}{pos:Pos}(g:Gl X x)(hm:X.mg x=some u)(r:RelV v u)(hd:(x==("__debug__" : Str))=false:=by decide):PE X (.Name x pos) (tC v) :=
 fun _ _ _ H _ I h=>Xv I g hm ⟨v,H,I,r,h⟩ hd
theorem Kr{x:Str}{v:V}{u:KS}{pos:Pos}(B:Gl X x)(hm:X.mg x=none)(g:bootBuiltins x=some u)(r:RelV v u)(hn:x ≠ "__name__":=by decide)(hd:(x==("__debug__" : Str))=false:=by decide):PE X (.Name x pos) (tC v) :=
 fun _ _ _ H _ I h=>Hh I B hm g ⟨v,H,I,r,h⟩ hn hd
variable{a b:Expr}{ta tb:TE}{pos:Pos}
def PC(X:Cx)(op:CmpOp)(a b:Expr)(t:TE):Prop :=
 ∀(pins:Cy) (s:GJ) (σ:St) (H:Hp) (Q:VK),Inv X pins σ H s->t σ H Q ->
  wpAny Cs X.A (eval a X.env) (fun v B=>wpAny Cs X.A (eval b X.env) (fun u g=>wpAny Cs X.A (compareOp op v u) (EP X pins σ Q) X.xe g) X.xe B) X.xe s
def tB(t:TE):TT:=fun σ H Q=>t σ H fun x g=>∃c,x=.bl c/\Q c g
theorem pj{op:CmpOp}{t:TE}(h:PC X op a b t)(B:behindInMarks op b=false:=by first|exact g _ As As|rfl):PT X (.Compare a [op] [b] pos) (tB t):=by
 intro pins s σ H Q I U;refine wpAny_isTrue_Compare1 (BQ (h pins s σ H _ I U) fun v s1 B=>BQ B fun u s2 Y=>BQ Y fun c s3 ⟨x,H1,Z,R,T⟩=>?_) B;obtain⟨d,rfl,q⟩:=T;cases R;exact bW ⟨H1,Z,q⟩
theorem Ig{e : Expr}{t : TE}(h : PE X e t)(he : ∀ whole,isTrue e X.env whole = (do let v <- whole; standAt e.pos; holding [v] (truthy v)):=by intro _; rfl):PT X e (tB t):=by
  intro pins s σ H Q I hw
  refine isTrue_plain (BQ (h pins s σ H _ I hw) fun v s1 ⟨x,H1,I1,r1,q1⟩ => ?_) (he _)
  obtain ⟨d,rfl,q⟩:=q1
  cases r1
  exact bW ⟨H1,I1,q⟩
variable{tA tB':TT}{rest:List Expr}
def sE(t u:TT):TT:=fun σ H Q=>t σ H fun c g=>if c=true then u σ g Q else Q false g
def t9(t u:TT):TT:=fun σ H Q=>t σ H fun c g=>if c=true then Q true g else u σ g Q
def sD(t:TT):TT:=fun σ H Q=>t σ H fun c g=>Q (!c) g
theorem jk(ha:PT X a tA):PW X (.BoolOp .And [a] pos) tA:=by
 intro g pins s σ H Q I h;refine isTrue_and (BQ (ha pins s σ H Q I h) fun c s1 e=>?_);cases c with
 |true=>exact isTrue_and_nil e
 |false=>exact e
theorem Mu(ha:PT X a tA):PW X (.BoolOp .Or [a] pos) tA:=by
 intro g pins s σ H Q I h;refine isTrue_or (BQ (ha pins s σ H Q I h) fun c s1 e=>?_);cases c with
 |false=>exact isTrue_or_nil e
 |true=>exact e
theorem oJ(ha:PT X a tA)(U:PW X (.BoolOp .And (b::rest) pos) tB'):PW X (.BoolOp .And (a::b::rest) pos) (sE tA tB'):=by
 intro T pins s σ H Q I h;refine isTrue_and (BQ (ha pins s σ H _ I h) fun c s1 ⟨R,B,g⟩=>?_);cases c with
 |true=>exact U T pins s1 σ R Q B g
 |false=>exact⟨R,B,g⟩
theorem NN(ha:PT X a tA)(U:PW X (.BoolOp .Or (b::rest) pos) tB'):PW X (.BoolOp .Or (a::b::rest) pos) (t9 tA tB'):=by
 intro T pins s σ H Q I h;refine isTrue_or (BQ (ha pins s σ H _ I h) fun c s1 ⟨R,B,g⟩=>?_);cases c with
 |true=>exact⟨R,B,g⟩
 |false=>exact U T pins s1 σ R Q B g
theorem IT(ha:PT X a tA):PT X (.UnaryOp .Not a pos) (sD tA):=by
 intro pins s σ H Q I h;exact isTrue_not (ha pins s σ H (fun c g=>Q (!c) g) I h)
def qK(ta tb:TE):TE:=fun σ H Q=>ta σ H fun x g=>∃c,x=.bl c/\if c=true then tb σ g Q else Q (.bl false) g
def qv(ta:TE):TE:=fun σ H Q=>ta σ H fun x g=>∃c,x=.bl c/\Q (.bl (!c)) g
theorem VT{op}{t:TE}(h:PE X a t):PE X (.BoolOp op [a] pos) t:=fun pins s σ H Q I g=>BoolOp_one (h pins s σ H Q I g)
theorem R7(ha:PE X a ta)(U:PE X (.BoolOp .And (b::rest) pos) tb):PE X (.BoolOp .And (a::b::rest) pos) (qK ta tb):=by
 intro pins s σ H Q I h;refine BoolOp_and (BQ (ha pins s σ H _ I h) fun v s1 ⟨x,R,B,T,g⟩=>?_);obtain⟨c,rfl,g⟩:=g;cases T;refine bW ?_;cases c with
 |true=>exact U pins s1 σ R Q B g
 |false=>exact⟨.bl false,R,B,rfl,g⟩
theorem la(ha:PE X a ta):PE X (.UnaryOp .Not a pos) (qv ta):=by
 intro pins s σ H Q I h;refine UnaryOp_ (BQ (ha pins s σ H _ I h) fun v s1 ⟨x,T,R,B,g⟩=>?_);obtain⟨c,rfl,g⟩:=g;cases B;exact not_of (bW ⟨.bl (!c),T,R,rfl,g⟩)
end
def Ax(K:At)(H:Hp)(a:Addr)(xs:Fa):Prop :=
 Rd H a (.lst xs) \/
  ∃(o:Obj) (its:Array Value) (n:Nat),K.lookup a=some o/\o.cls=.type "list" /\ o.dict=none/\o.data=.seq its n/\its.size<=sizeLine/\Vals xs its.toList
def BE(K:At)(H:Hp)(a:Addr)(xs:Fa):Prop :=
 Rd H a (.tup xs) \/
  ∃(o:Obj) (its:Array Value) (n:Nat),K.lookup a=some o/\o.cls=.type "tuple" /\ o.data=.seq its n/\its.size<=sizeLine/\Vals xs its.toList
def ZL:Value->Option V
 |.none=>some .CL
 |.bool b=>some (.bl b)
 |.int i _=>some (.int i)
 |.str x _=>some (.str x)
 |.bytes b _=>some (.PL b)
 |.float b _=>some (.Yx b)
 |.ref a=>some Jj
 |.type n=>some (.ty n)
 |_=>none
theorem RelV.abs{x:V}{u:KS}(r:RelV x u):ZL u=some x:=by
 cases x with
 |CL=>cases r;rfl
 |bl _=>cases r;rfl
 |int _=>obtain⟨t,rfl⟩:=r;rfl
 |str _=>obtain⟨t,rfl⟩:=r;rfl
 |PL _=>obtain⟨t,rfl⟩:=r;rfl
 |Yx _=>obtain⟨t,rfl⟩:=r;rfl
 |ref _=>cases r;rfl
 |ty _=>cases r;rfl
theorem RelV.inj{x y:V}{u:KS}(r:RelV x u)(q:RelV y u):x=y:=ag (r.abs.symm.trans q.abs)
theorem Vals.inj:∀ {xs ys:Fa} {us:Db},Vals xs us->Vals ys us->xs=ys
 |_,_,_,.nil,.nil=>rfl
 |_,_,_,.cons r t,.cons B g=>by rw[r.inj B,Vals.inj t g]
section
variable{X:Cx}{pins:Cy}{σ:St}{H:Hp}{s:GJ}{a:Addr}{xs ys:Fa}
theorem Ax.of{K:At}(h:H a=some (.lst xs)):Ax K H a xs:=.inl (.inl h)
theorem BE.of{K:At}(h:H a=some (.tup xs)):BE K H a xs:=.inl (.inl h)
theorem Inv.list(I:Cl)(h:Ax X.K H a xs):∃its:List Value,Vals xs its/\PlainL s.heap a its.toArray/\xs.length<=sizeLine:=by
 rcases h with h|⟨o,its,n,B,R,hd,g,T,r⟩
 .obtain⟨z,its,n,r,e⟩:=h.ok I.BA;exact⟨its,r,⟨_,n,e,rfl,rfl,rfl⟩,z⟩
 .refine⟨its.toList,r,⟨o,n,I.Jx a o B,R,hd,by simpa using g⟩,?_⟩;have e:=r.length;simp only[Array.length_toList]at e
  lia
theorem Inv.tuple(I:Cl)(h:BE X.K H a xs):∃its:List Value,Vals xs its/\IsTup s.heap a its.toArray/\xs.length<=sizeLine:=by
 rcases h with h|⟨o,its,n,B,R,g,T,r⟩
 .obtain⟨z,its,r,p⟩:=h.ok I.BA;exact⟨its,r,p,z⟩
 .refine⟨its.toList,r,⟨o,I.Jx a o B,R,n,by simpa using g⟩,?_⟩;have e:=r.length;simp only[Array.length_toList]at e
  lia
theorem Inv.VE(I:Cl)(h:Ax X.K H a xs)(h':Ax X.K H a ys):xs=ys:=by
 obtain⟨its,r,⟨o,n,e,_,_,d⟩,_⟩:=I.list h;obtain⟨g,T,⟨o',U,B,_,_,R⟩,_⟩:=I.list h';rw[e]at B;cases B;rw[d]at R
 injection R with d1 _
 have:its=g:=by simpa using ay Array.toList d1
 subst this;exact r.inj T
theorem Inv.Tw(I:Cl)(h:BE X.K H a xs)(h':BE X.K H a ys):xs=ys:=by
 obtain⟨its,r,⟨o,e,_,n,d⟩,_⟩:=I.tuple h;obtain⟨g,T,⟨o',B,_,U,R⟩,_⟩:=I.tuple h';rw[e]at B;cases B;rw[d]at R
 injection R with d1 _
 have:its=g:=by simpa using ay Array.toList d1
 subst this;exact r.inj T
end
abbrev Cx.L8(X:Cx)(E:AT):Cx:={X with xe:=E}
abbrev Cx.dJ(X:Cx):Cx:=X.L8 fun _ _=>False
theorem Cx.Ok.L8{X:Cx}(ok:X.Ok)(E:AT):(X.L8 E).Ok :=
 ⟨ok.mod,ok.kind,ok.glob,ok.blt,ok.above,ok.inj,ok.has,ok.YH,ok.hd,ok.frames,ok.ia,ok.rQ,ok.bs,ok.Ug,ok.VQ,ok.WY,ok.K2,ok.YW,ok.kt⟩
theorem Cx.Ok.Jv{X:Cx}{E:AT}(ok:(X.L8 E).Ok):X.Ok :=
 ⟨ok.mod,ok.kind,ok.glob,ok.blt,ok.above,ok.inj,ok.has,ok.YH,ok.hd,ok.frames,ok.ia,ok.rQ,ok.bs,ok.Ug,ok.VQ,ok.WY,ok.K2,ok.YW,ok.kt⟩
section
variable{X:Cx}{pins:Cy}{σ:St}{H:Hp}{s:GJ}{E:AT}
theorem Inv.L8(I:Cl)(E:AT):Inv (X.L8 E) pins σ H s:=⟨I.ok.L8 E,I.os,I.bare,I.base,I.loc,I.cell,I.free,I.Jf,I.pin,I.BA,I.len⟩
theorem Inv.Jv(I:Inv (X.L8 E) pins σ H s):Inv X pins σ H s:=⟨I.ok.Jv,I.os,I.bare,I.base,I.loc,I.cell,I.free,I.Jf,I.pin,I.BA,I.len⟩
theorem SP.Jv{D:Ends}{f:Flow}{s':GJ}(h:SP (X.L8 E) pins D f s'):SP X pins D f s':=by
 cases f with
 |next=>obtain⟨g,H',I,q⟩:=h;exact⟨g,H',I.Jv,q⟩
 |brk=>obtain⟨g,H',I,q⟩:=h;exact⟨g,H',I.Jv,q⟩
 |cont=>obtain⟨g,H',I,q⟩:=h;exact⟨g,H',I.Jv,q⟩
 |ret u=>obtain⟨v,g,H',I,r,q⟩:=h;exact⟨v,g,H',I.Jv,r,q⟩
theorem Lw.dJ{st:List Stmt}{t:TS}(h:Lw X.dJ st t):Lw X st t:=fun pins s σ H D I g=>
 ao (h pins s σ H D (I.L8 _) g) (fun _ _ q=>q.Jv) fun _ _ z=>False.elim z
end
section
variable{X:Cx}{st:Stmt}{rest:List Stmt}{t u:TS}{e:Expr}{te:TE}{pos:Pos}
def qH:TS:=fun D σ H=>D.nx σ H
def nq(t u:TS):TS:=fun D σ H=>t {D with nx:=u D} σ H
theorem DB:Lw X [] qH:=fun _ _ σ H _ I h=>wpAny_execs_nil ⟨σ,H,I,h⟩
theorem Aa(R:PS X st t)(B:Lw X rest u):Lw X (st::rest) (nq t u):=by
 intro pins s σ H D I h;refine wpAny_execs_cons (BQ (R pins s σ H {D with nx:=u D} I h) fun f s1 q=>?_);cases f with
 |next=>
  obtain⟨g,H',T,q⟩:=q;exact B pins s1 g H' D T q
 |ret v=>exact q
 |brk=>exact q
 |cont=>exact q
theorem Ar(g:PS X st t):Lw X [st] t:=by
 intro pins s σ H D I h;refine wpAny_execs_cons (BQ (g pins s σ H D I h) fun f s1 q=>?_);cases f with
 |next=>exact wpAny_execs_nil q
 |ret v=>exact q
 |brk=>exact q
 |cont=>exact q
theorem Inv.quiet{pins:Cy}{σ:St}{H:Hp}{s:GJ}(I:Cl):interactive X.env=false:=by simp[interactive,I.ok.kind]
def Y2(te:TE):TS:=fun D σ H=>te σ H fun _ g=>D.nx σ g
theorem Fc(R:PE X e te)(B:swapsWith e none pos.line X.env=pure false:=by rfl):PS X (.Expr e pos) (Y2 te):=by
 intro pins s σ H D I h;exact wpAny_Expr_any (BQ (R pins s σ H _ I h) fun v s1 ⟨x,U,T,Y,g⟩=>⟨σ,U,T,g⟩) I.quiet B
def sG(te:TE):TS:=fun D σ H=>te σ H D.rt
theorem Bo(R:PE X e te):PS X (.Return (some e) pos) (sG te):=by
 intro pins s σ H D I h;exact wpAny_Return_some (BQ (R pins s σ H _ I h) fun v s1 ⟨x,U,T,g,B⟩=>⟨x,σ,U,T,g,B⟩)
def rj(c:TT)(t u:TS):TS:=fun D σ H=>c σ H fun b g=>if b=true then t D σ g else u D σ g
theorem FD{c:Expr}{a b:List Stmt}{g:TT}(U:PT X c g)(ha:Lw X a t)(Y:Lw X b u):PS X (.If c a b pos) (rj g t u):=by
 intro pins s σ H D I h;refine wpAny_If (BQ (U pins s σ H _ I h) fun d s1 ⟨T,R,B⟩=>?_);cases d with
 |true=>exact ha pins s1 σ T D R B
 |false=>exact Y pins s1 σ T D R B
def lW:TS:=fun _ _ _=>False
theorem V2:PS X st lW:=fun _ _ _ _ _ _ h=>h.elim
end
abbrev TG:=V->St->Hp->(St->Hp->Prop)->Prop
abbrev WT:=List V->St->Hp->(St->Hp->Prop)->Prop
def PG(X:Cx)(target:Expr)(t:TG):Prop :=
 ∀(pins:Cy) (s:GJ) (σ:St) (H:Hp) (v:V) (u:KS) (Q:St->Hp->Prop),Inv X pins σ H s->RelV v u->t v σ H Q ->
  wpAny Cs X.A (assign target X.env u) (fun _ B=>∃g H',Inv X pins g H' B/\Q g H') X.xe s
def iK(X:Cx)(ts:List Expr)(t:WT):Prop :=
 ∀(pins:Cy) (s:GJ) (σ:St) (H:Hp) (vs:Fa) (us:Db) (Q:St->Hp->Prop),Inv X pins σ H s->Vals vs us->t vs σ H Q ->
  wpAny Cs X.A (assignInOrder ((assignEach ts X.env).map (·.2)) us) (fun _ B=>∃g H',Inv X pins g H' B/\Q g H') X.xe s
abbrev Zf:=V->V->V->Hp->(Hp->Prop)->Prop
def gu(X:Cx)(t:Zf):Prop :=
 ∀(pins:Cy) (s:GJ) (σ:St) (H:Hp) (o i v:V) (g B u:KS) (Q:Hp->Prop),Inv X pins σ H s->RelV o g->RelV i B->RelV v u->t o i v H Q ->
  wpAny Cs X.A (setItem g B u) (fun _ I=>∃H',Inv X pins σ H' I/\Q H') X.xe s
section
variable{X:Cx}{pos:Pos}
def FU(i:Nat):TG:=fun v σ H Q=>Q (σ.set i (some v)) H
theorem Ay{i:Nat}{x:Str}(R:X.N.Nodup)(hi:X.N[i]? = some x)(g:Loc X.env.scope x)(B:X.fn x=true\/X.env.scope.names.lookup x=some .local:=by first|exact .inl rfl|exact .inr rfl|assumption):PG X (.Name x pos) (FU i):=by
 intro pins s σ H v u Q I r h;exact wpAny_assign_Name (NV I R hi g r (fun U T=>⟨_,H,T,h⟩) B)
def Zz:WT:=fun vs σ H Q=>vs=[]/\Q σ H
def L3(t:TG)(u:WT):WT:=fun vs σ H Q=>∃v r,vs=v::r/\t v σ H fun g H'=>u r g H' Q
theorem FY:iK X [] Zz:=by
 intro pins s σ H vs us Q I r h;obtain⟨e,h⟩:=h;subst e;cases r;exact assignInOrder_nil ⟨σ,H,I,h⟩
theorem Bq{e:Expr}{es:List Expr}{t:TG}{u:WT}(Y:PG X e t)(U:iK X es u)
 (T:(assignEach (e::es) X.env).map (·.2)=assign e X.env::(assignEach es X.env).map (·.2):=by rfl):iK X (e::es) (L3 t u):=by
 intro pins s σ H vs us Q I r h;obtain⟨v,vr,e1,h⟩:=h;subst e1;cases r with
 |cons r B=>
  rw[T];refine assignInOrder_cons (BQ (Y pins s σ H _ _ _ I r h) fun _ s1 ⟨g,H1,Z,R⟩=>?_);exact U pins s1 g H1 _ _ Q Z B R
def cC(K:At)(n:Nat)(t:WT):TG:=fun v σ H Q=>∃a xs,v=.ref a/\BE K H a xs/\xs.length=n/\t xs σ H Q
theorem Gp{es:List Expr}{k:Nat}{t:WT}{n:Nat}(hc:X.calm=true)(h:iK X es t)
 (hn:(assignEach es X.env).length=n:=by rfl)(B:(assignEach es X.env).findIdx? (·.1)=none:=by rfl):PG X (.Tuple es k pos) (cC X.K n t):=by
 intro pins s σ H v u Q I r g;obtain⟨a,xs,e1,Y,Z,g⟩:=g;subst e1;cases r;obtain⟨its,R,U,hz⟩:=I.tuple Y;refine assign_Tuple_tuple (I.ok.hd hc) U (by simp[hn,<-Z,R.length]) B fun h' T=>?_;have I1:Inv X pins σ H {s with heap:=h'}:=I.kept (t':=s.toks) fun b o e=>T b o (aO (aG e)) e;exact h pins _ σ H xs _ Q I1 (by simpa using R) g
def mU(g B:TE)(t:Zf):TG:=fun v σ H Q=>g σ H fun o T=>B σ T fun i R=>t o i v R fun I=>Q σ I
theorem R5{o i:Expr}{to ti:TE}{t:Zf}(ho:PE X o to)(hi:PE X i ti)(hs:gu X t)
 (ha:∀v,assign (.Subscript o i pos) X.env v=(do
      let ov <-holding [v] (eval o X.env)
      let iv <-holding [v,ov] (eval i X.env)
      standAt pos
      holding [v,ov,iv] (setItem ov iv v)
      release [v,ov,iv] []):=by intro _;rfl):PG X (.Subscript o i pos) (mU to ti t):=by
  intro pins s σ H v u Q I r h
  rw[ha]
  refine aA (aY (BQ (ho pins s σ H _ I h) fun ov s1 ⟨x,H1,I1,r1,q1⟩=>?_))
  refine aA (aY (BQ (hi pins s1 σ H1 _ I1 q1) fun iv s2 ⟨y,H2,I2,r2,q2⟩=>?_))
  refine aA (wpAny_standAt (aA (aY (BQ (hs pins s2 σ H2 x y v ov iv u _ I2 r1 r2 r q2) fun _ s3 ⟨H3,I3,q3⟩=>?_))))
  exact wpAny_release ⟨σ,H3,I3,q3⟩
def Vt(B:TE)(g:TG):TS:=fun D σ H=>B σ H fun x I=>g x σ I D.nx
theorem M4{tg e:Expr}{B:TE}{g:TG}(he:PE X e B)(Z:PG X tg g)(Y:swapsWithSole [tg] e pos.line X.env=pure false:=by rfl)(U:swappedStores [tg] e X.env=pure none:=by rfl)
 (h1:(assignEach [tg] X.env).map (·.2)=[assign tg X.env]:=by rfl):PS X (.Assign [tg] e pos) (Vt B g):=by
 intro pins s σ H D I h;refine wpAny_Assign_stores (BQ (he pins s σ H _ I h) fun v s1 ⟨x,H1,I1,R,T⟩=>?_) Y U;rw[h1];exact BQ (Z pins s1 σ H1 x v _ I1 R T) fun _ s2 q=>q
theorem BJ{i:Nat}{x:Str}{e:Expr}{B:TE}{g:Pos}(hN:X.N.Nodup)(hi:X.N[i]? = some x)(U:Loc X.env.scope x)(he:PE X e B)(Y:swapsWith e (some (.Name x g)) pos.line X.env=pure false:=by rfl)(Z:X.fn x=true\/X.env.scope.names.lookup x=some .local:=by first|exact .inl rfl|exact .inr rfl|assumption) :
  PS X (.Assign [.Name x g] e pos) (Vt B (FU i)):=by
 intro pins s σ H D I h;refine wpAny_Assign_Name (BQ (he pins s σ H _ I h) fun v s1 ⟨y,H1,I1,R,T⟩=>?_) Y;exact NV I1 hN hi U R (fun s2 I2=>⟨_,H1,I2,T⟩) Z
def tU(i j:Nat)(g:TA):TS:=fun D σ H=>g σ H fun vs B=>∃v w,vs=[v,w]/\D.nx ((σ.set i (some v)).set j (some w)) B
theorem lV{i j:Nat}{x y:Str}{a b:Expr}{ta:TA}{px Z pt:Pos}{kt k2 B}(hc:X.calm=true)(hN:X.N.Nodup)(hi:X.N[i]? = some x)(hj:X.N[j]? = some y)(hij:i≠j)
 (hx:X.env.scope.names.lookup x=some .local)(hy:X.env.scope.names.lookup y=some .local)(ha:PA X [a,b] ta)
 (hw:swappedStores [.Tuple [.Name x px,.Name y Z] kt pt] (.Tuple [a,b] k2 B) X.env=pure (some [x,y]))
 (hs:swapsWithSole [.Tuple [.Name x px,.Name y Z] kt pt] (.Tuple [a,b] k2 B) pos.line X.env=pure false:=by rfl) :
  PS X (.Assign [.Tuple [.Name x px,.Name y Z] kt pt] (.Tuple [a,b] k2 B) pos) (tU i j ta):=by
 intro pins s σ H D I h;rw[exec_Assign_arm];refine aA (wpAny_standAt ?_);rw[hs];refine aA (aB ?_);rw[if_neg As];refine aA (Tuple_ (BQ (ha _ pins s σ H _ I h) fun us s1 ⟨vs,H1,I1,r1,Y⟩=>?_));obtain⟨v,w,e1,Y⟩:=Y;subst e1;obtain⟨T,R,rfl,rv,U⟩:∃T R,us=[T,R]/\RelV v T/\RelV w R:=by
  cases r1 with
  |cons p q=>
   cases q with
   |cons p' q'=>
    cases q';exact⟨_,_,rfl,p,p'⟩
 refine aq ?_ (by show 2<=sizeLine;decide);have I2:Inv X pins σ H1 {s1 with heap:=s1.heap.push { cls:=.type "tuple",data:=.seq [T,R].toArray} }:=I1.kept (t':=s1.toks) fun b o e=>aE _ e;rw[hw];refine aA (aB ?_);show wpAny Cs X.A (do rule "assign.swapped-stores"; let g <-unpackItems (.ref s1.heap.objs.size) 2 none;assignInOrder [fun v=>bindName X.env y v,fun v=>bindName X.env x v] g.reverse;pure Flow.next) _ _ _;refine aA (bM (aA (unpackItems_tuple (items:=#[T,R]) (I.ok.hd hc) (IsTup.new s1.heap _) fun h' hx'=>?_)));have I3:=I2.kept (h':=h') (t':=s1.toks) fun b o e=>hx' b o (aO (aG e)) e;show wpAny _ _ (assignInOrder [fun v=>bindName X.env y v,fun v=>bindName X.env x v] [R,T]>>=fun _=>pure Flow.next) _ _ _;refine aA (assignInOrder_cons (wpAny_bindName (NV I3 hN hj (.inl hy) U (fun s2 I4=>?_) (.inr hy))));refine assignInOrder_cons (wpAny_bindName (NV I4 hN hi (.inl hx) rv (fun s3 I5=>assignInOrder_nil (aB ?_)) (.inr hx)));rw[List.set_comm _ _ (Ne.symm hij)]at I5;exact⟨_,H1,I5,Y⟩
end
section
variable{X:Cx}{pos:Pos}
def eu(c:TT)(R:TS):TS:=fun D σ H=>∃W:Nat->St->Hp->Prop,(∃m,W m σ H)/\∀m σ H,W m σ H ->
 c σ H fun b I=>if b=true then ∃N:St->Hp->Prop,(∀g H',N g H'->∃B,B<m/\W B g H')/\R {D with nx:=N,ct:=N,bk:=D.nx} σ I else D.nx σ I
theorem Q2{c:Expr}{R:List Stmt}{tc:TT}{tb:TS}(hp:PassesOwn Cs X.A X.env X.xe)(hc:PT X c tc)(hb:Lw X R tb):PS X (.While c R [] pos) (eu tc tb):=by
 intro pins s σ H D I h;obtain⟨W,⟨m0,w0⟩,turn⟩:=h;refine wpAny_While (codeAny_whileLoop (fun n s'=>∃T H',Inv X pins T H' s'/\W n T H') ?_ m0 ⟨σ,H,I,w0⟩);rintro n s1 ⟨B,H1,I1,w1⟩;refine wpAny_passesOwn hp (BQ (hc pins s1 B H1 _ I1 (turn n B H1 w1)) fun b s2 ⟨H2,I2,Z⟩=>?_);cases b with
 |true=>
  obtain⟨N,hN,Z⟩:=Z;rw[if_pos rfl];refine wpAny_passesOwn hp (BQ (hb pins s2 B H2 _ I2 Z) fun f s3 Y=>?_);cases f with
  |next=>
   obtain⟨g,U,I3,n3⟩:=Y;obtain⟨m',hm,w3⟩:=hN g U n3;exact⟨m',hm,g,U,I3,w3⟩
  |cont=>
   obtain⟨g,U,I3,n3⟩:=Y;obtain⟨m',hm,w3⟩:=hN g U n3;exact⟨m',hm,g,U,I3,w3⟩
  |brk=>exact Y
  |ret v=>exact Y
 |false=>
  rw[if_neg aJ];exact wpAny_execs_nil ⟨B,H2,I2,Z⟩
end
structure It where
 go:Nat->Hp->Prop
 Fw:Nat->Hp->V->Hp->Prop
 stop:Nat->Hp->Prop
def KI(X:Cx)(pins:Cy)(H:Hp)(b:Addr):Prop :=
 H b=none/\b≠X.env.locals/\b ∉ X.fs/\(b∈X.ex\/X.s₀.heap.objs.size<=b)/\(∀x c,X.env.cells.lookup x=some c->c≠b)/\∀p∈X.pn++pins,p.1≠b
theorem Inv.QQ{X:Cx}{pins:Cy}{σ:St}{H H':Hp}{s:GJ}{b:Addr}(I:Cl)(g:s.heap.objs.size<=b)(hn:H' b=none):KI X pins H' b:=by
 refine⟨hn,Nat.ne_of_gt (aI I.lt g),I.tV g,.inr (aR I.sz g),fun x c e z=>?_,fun p B z=>?_⟩
 .obtain⟨v,q⟩:=I.cell x c e;exact absurd (aI q.lt (by rw[z];exact g)) (Nat.lt_irrefl _)
 .exact absurd (aI (aG (I.pin p B).1) (by rw[z];exact g)) (Nat.lt_irrefl _)
structure Turn(P:G8)(w:Id)(K:At)(tg:Expr)(J:It)(fp:List Addr)(it:Addr)(tn:Nat->Heap->Prop):Prop where
 mem:it∈fp
 obj:∀i h,tn i h->∀b∈fp,∃o,h.get? b=some o/\∀v,o.data≠.cell v
 keep:∀i h h',tn i h->(∀b∈fp,∀o,h.get? b=some o->h'.get? b=some o)->tn i h'
 item:∀(X:Cx),X.prog=P->X.w=w->X.K=K->X.calm=true->∀(i:Nat) (pins:Cy) (s:GJ) (σ:St) (H:Hp) (E:AT),Inv X pins σ H s->(∀b∈fp,KI X pins H b)->tn i s.heap->J.go i H ->
  wpAny (model P w) X.A (pyNext (.ref it)) (fun r s1=>∃u,r=some u /\
   wpAny (model P w) X.A (letOwnedTupleGo tg (.ref it) u) (fun _ s2=>∃x H',Inv X pins σ H' s2/\RelV x u/\J.Fw i H x H'/\tn (i+1) s2.heap/\∀b∈fp,H' b=none) E s1) E s
 done:∀(X:Cx),X.prog=P->X.w=w->X.K=K->X.calm=true->∀(i:Nat) (pins:Cy) (s:GJ) (σ:St) (H:Hp) (E:AT),Inv X pins σ H s->(∀b∈fp,KI X pins H b)->tn i s.heap->J.stop i H ->
  wpAny (model P w) X.A (pyNext (.ref it)) (fun r s1=>r=none/\Inv X pins σ H s1) E s
 self:∀(A:Around) (i:Nat) (s:GJ) (Q:AT) (E:AT),tn i s.heap->Q (.ref it) s->wpAny (model P w) A (pyIter (.ref it)) Q E s
abbrev TI:=St->Hp->(It->Hp->Prop)->Prop
def rC(X:Cx)(pins:Cy)(σ:St)(tg:Expr)(R:It->Hp->Prop)(g:KS)(s2:GJ):Prop :=
 ∃(it:Addr) (fp:List Addr) (tn:Nat->Heap->Prop) (J:It) (H':Hp),g=.ref it/\Inv X pins σ H' s2/\Turn X.prog X.w X.K tg J fp it tn/\tn 0 s2.heap/\(∀b∈fp,KI X pins H' b)/\R J H'
def PI(X:Cx)(tg iter:Expr)(g:TI):Prop :=
 ∀(pins:Cy) (s:GJ) (σ:St) (H:Hp) (R:It->Hp->Prop),Inv X pins σ H s->g σ H R ->
  wpAny Cs X.A (eval iter X.env) (fun v s1=>wpAny Cs X.A (pyIter v) (rC X pins σ tg R) X.xe s1) X.xe s
theorem ZO{M:Model}{A:Around}{E:AT}{s:GJ}{tg:Expr}{it:Addr}{u:KS}{o:Obj}{n:String}{vs:Array Value}{Q:Unit->Shared->Prop}(B:s.heap.get? it=some o)(I:o.cls=.type n)(hd:o.data=.fields vs)
 (hn:["enumerate","zip","dict_itemiterator","dict_reverseitemiterator","odict_iterator","itertools.zip_longest","itertools.pairwise"].contains n=false)(g:Q () s):wpAny M A (letOwnedTupleGo tg (.ref it) u) Q E s:=by
 unfold letOwnedTupleGo;cases tg<;>first
  |exact aB g
  |(cases u<;>first
    |exact aB g
    |(refine aA (wpAny_load B ?_)
      rw[I,hd];show wpAny M A (if(["enumerate","zip","dict_itemiterator","dict_reverseitemiterator","odict_iterator","itertools.zip_longest","itertools.pairwise"].contains n&&vs[0]? == some (rawInt _))=true then _ else _) Q E s;rw[if_neg (by intro h;rw[hn,(NG)]at h;cases h)];exact aB g))
def Xx(K:At)(a:Addr):It :=
 ⟨fun i H=>∃xs x,Ax K H a xs/\xs[i]? = some x,fun i H x H'=>H'=H/\∀xs,Ax K H a xs->xs[i]? = some x,fun i H=>∃xs,Ax K H a xs/\xs.length<=i⟩
def YK(K:At)(a:Addr):It :=
 ⟨fun i H=>∃xs x,BE K H a xs/\xs[i]? = some x,fun i H x H'=>H'=H/\∀xs,BE K H a xs->xs[i]? = some x,fun i H=>∃xs,BE K H a xs/\xs.length<=i⟩
def T8(lo:Int)(n:Nat):It:=⟨fun i _=>i<n,fun i H x H'=>H'=H/\x=.int (lo+i),fun i _=>n<=i⟩
theorem d7{P:G8}{w:Id}{K:At}{tg:Expr}(a it:Addr):Turn P w K tg (Xx K a) [it] it (fun i h=>h.IsListIter it a i) where
 mem:=by simp
 obj:=fun i h st b hb=>by
  have e:b=it:=by simpa using hb
  subst e;obtain⟨o,e,c,d⟩:=st;exact⟨o,e,fun v z=>by rw[d]at z;cases z⟩
 keep:=fun i h h' st k=>st.at fun o e=>k it CH o e
 item:=by
  intro X hP hw hK hc i pins s σ H E I hf st hg;subst hP hw hK;obtain⟨xs,x,hq,hx⟩:=hg;obtain⟨its,rv,p,hz⟩:=I.list hq;obtain⟨u,hu,ru⟩:=rv.get hx;obtain⟨f0,f1,f2,f3,f4,f5⟩:=hf it CH;refine wpAny_pyNext_list_item st p.isList (x:=u) (by simpa using hu) fun h' st' sb=>?_;have I1:Inv X pins σ H {s with heap:=h'}:=I.turned (t':=s.toks) (fun b o hb e=>(sb.2 b hb).trans e) f0 f1 f3 f4 f5;obtain⟨o,e,c,d⟩:=id st';exact⟨u,rfl,ZO (s:={s with heap:=h'}) e c d As ⟨x,H,I1,ru,⟨rfl,fun ys hy=>by rw[I.VE hy hq];exact hx⟩,st',fun b hb=>(hf b hb).1⟩⟩
 done:=by
  intro X hP hw hK hc i pins s σ H E I hf st hg;subst hP hw hK;obtain⟨xs,hq,hx⟩:=hg;obtain⟨its,rv,p,hz⟩:=I.list hq;obtain⟨f0,f1,f2,f3,f4,f5⟩:=hf it CH;have hl:=rv.length;exact wpAny_pyNext_list_end (I.ok.hd hc) st p.isList (by simp;lia) fun h' eb=>⟨rfl,I.turned (t':=s.toks) (fun b o hb e=>eb b o hb e) f0 f1 f3 f4 f5⟩
 self:=fun _ _ _ _ _ st h=>wpAny_pyIter_listiter st h
theorem Zb{P:G8}{w:Id}{K:At}{tg:Expr}(a it:Addr):Turn P w K tg (YK K a) [it] it (fun i h=>h.IsTupleIter it a i) where
 mem:=by simp
 obj:=fun i h st b hb=>by
  have e:b=it:=by simpa using hb
  subst e;obtain⟨o,e,c,d⟩:=st;exact⟨o,e,fun v z=>by rw[d]at z;cases z⟩
 keep:=fun i h h' st k=>st.at fun o e=>k it CH o e
 item:=by
  intro X hP hw hK hc i pins s σ H E I hf st hg;subst hP hw hK;obtain⟨xs,x,hq,hx⟩:=hg;obtain⟨its,rv,p,hz⟩:=I.tuple hq;obtain⟨u,hu,ru⟩:=rv.get hx;obtain⟨f0,f1,f2,f3,f4,f5⟩:=hf it CH;refine wpAny_pyNext_tuple_item st (show s.heap.IsTuple a its.toArray from p) (x:=u) (by simpa using hu) fun h' st' sb=>?_;have I1:Inv X pins σ H {s with heap:=h'}:=I.turned (t':=s.toks) (fun b o hb e=>(sb.2 b hb).trans e) f0 f1 f3 f4 f5;obtain⟨o,e,c,d⟩:=id st';exact⟨u,rfl,ZO (s:={s with heap:=h'}) e c d As ⟨x,H,I1,ru,⟨rfl,fun ys hy=>by rw[I.Tw hy hq];exact hx⟩,st',fun b hb=>(hf b hb).1⟩⟩
 done:=by
  intro X hP hw hK hc i pins s σ H E I hf st hg;subst hP hw hK;obtain⟨xs,hq,hx⟩:=hg;obtain⟨its,rv,p,hz⟩:=I.tuple hq;obtain⟨f0,f1,f2,f3,f4,f5⟩:=hf it CH;have hl:=rv.length;exact wpAny_pyNext_tuple_end (I.ok.hd hc) st (show s.heap.IsTuple a its.toArray from p) (by simp;lia) fun h' eb=>⟨rfl,I.turned (t':=s.toks) (fun b o hb e=>eb b o hb e) f0 f1 f3 f4 f5⟩
 self:=fun _ _ _ _ _ st h=>wpAny_pyIter_tupleiter st h
theorem Zj{P:G8}{w:Id}{K:At}{tg:Expr}(it:Addr)(lo:Int)(n:Nat):Turn P w K tg (T8 lo n) [it] it (fun i h=>IsRangeIter h it (lo+(i:Nat)*1) ((n:Int)-(i:Nat)) 1) where
 mem:=by simp
 obj:=fun i h st b hb=>by
  have e:b=it:=by simpa using hb
  subst e;exact⟨_,st,fun v z=>by
   have z':Data.fields _=Data.cell v:=z;cases z'⟩
 keep:=fun i h h' st k=>k it CH _ st
 item:=by
  intro X hP hw hK hc i pins s σ H E I hf st hg;subst hP hw hK;obtain⟨f0,f1,f2,f3,f4,f5⟩:=hf it CH;have W:=Walks.range (prog:=X.prog) (w:=X.w) (I.ok.hd hc) it lo 1 n;refine W.item i s _ _ hg st fun v h' tk hv st' kk=>?_;obtain⟨t,rfl⟩:=hv;have I1:Inv X pins σ H HU:=I.turned (fun b o hb e=>kk b o (by simpa using hb) e) f0 f1 f3 f4 f5;refine⟨_,rfl,ZO (s:={s with heap:=h',toks:=tk}) (n := "range_iterator") st' rfl rfl As ⟨.int (lo+i),H,I1,⟨t,?_⟩,⟨rfl,rfl⟩,st',fun b hb=>(hf b hb).1⟩⟩;rw[Int.mul_one]
 done:=by
  intro X hP hw hK hc i pins s σ H E I hf st hg;subst hP hw hK;obtain⟨f0,f1,f2,f3,f4,f5⟩:=hf it CH;exact wpAny_pyNext_range_end (I.ok.hd hc) st (by have:n<=i:=hg;lia) fun h' eb=>⟨rfl,I.turned (t':=s.toks) (fun b o hb e=>eb b o hb e) f0 f1 f3 f4 f5⟩
 self:=fun _ _ _ _ _ st h=>wpAny_pyIter_rangeiter st h
section
variable{X:Cx}{tg:Expr}
def qg(K:At)(B:TE):TI:=fun σ H R=>B σ H fun x g=>∃a,x=.ref a/\(∃xs,Ax K g a xs)/\R (Xx K a) g
def sd(K:At)(B:TE):TI:=fun σ H R=>B σ H fun x g=>∃a,x=.ref a/\(∃xs,BE K g a xs)/\R (YK K a) g
theorem Es{l:Expr}{B:TE}(Z:PE X l B):PI X tg l (qg X.K B):=by
 intro pins s σ H R I h;refine BQ (Z pins s σ H _ I h) fun v s1 ⟨x,H1,g,T,U⟩=>?_;obtain⟨a,e,⟨xs,Y⟩,q⟩:=U;subst e;cases T;obtain⟨its,rv,p,hz⟩:=g.list Y;refine wpAny_pyIter_list p.isList ?_;refine⟨s1.heap.objs.size,[s1.heap.objs.size],_,_,H1,rfl,g.kept (t':=s1.toks) fun b o e=>aE _ e,d7 a _,⟨_,Heap.get?_push_size _ rfl,rfl,rfl⟩,fun b hb=>?_,q⟩;have e:b=s1.heap.objs.size:=by simpa using hb
 subst e;exact g.QQ (aH _) (g.BA.fresh (aH _))
theorem VF{l:Expr}{B:TE}(Z:PE X l B):PI X tg l (sd X.K B):=by
 intro pins s σ H R I h;refine BQ (Z pins s σ H _ I h) fun v s1 ⟨x,H1,g,T,U⟩=>?_;obtain⟨a,e,⟨xs,Y⟩,q⟩:=U;subst e;cases T;obtain⟨its,rv,p,hz⟩:=g.tuple Y;refine wpAny_pyIter_tuple (show s1.heap.IsTuple a its.toArray from p) ?_;refine⟨s1.heap.objs.size,[s1.heap.objs.size],_,_,H1,rfl,g.kept (t':=s1.toks) fun b o e=>aE _ e,Zb a _,⟨_,Heap.get?_push_size _ rfl,rfl,rfl⟩,fun b hb=>?_,q⟩;have e:b=s1.heap.objs.size:=by simpa using hb
 subst e;exact g.QQ (aH _) (g.BA.fresh (aH _))
theorem WV{pins:Cy}{σ:St}{H:Hp}{s:GJ}{R:It->Hp->Prop}{E:AT}{lo hi:Int}{t u v:Tok}{tk:Nat}(I:Cl)(Z:-(2^62)<=lo)(Y:lo<2^62)(U:-(2^62)<=hi)(T:hi<2^62)
 (q:R (T8 lo (hi-lo).toNat) H):wpAny Cs X.A (pyIter GM) (rC X pins σ tg R) E {s with heap:=s.heap.push { cls:=.type "range",data:=.fields #[.int lo t,.int hi u,.int 1 v]},toks:=tk}:=by
 refine wpAny_pyIter_range (IsRange.new ..) (small_one Z Y U T) ?_;have g:Inv X pins σ H {s with heap:=s.heap.push { cls:=.type "range",data:=.fields #[.int lo t,.int hi u,.int 1 v]},toks:=tk}:=I.kept fun b o e=>aE _ e;refine⟨(s.heap.push { cls:=.type "range",data:=.fields #[.int lo t,.int hi u,.int 1 v]}).objs.size,[(s.heap.push { cls:=.type "range",data:=.fields #[.int lo t,.int hi u,.int 1 v]}).objs.size],_,_,H,rfl,
  g.kept (t':=tk) fun b o e=>aE _ e,Zj _ lo (hi-lo).toNat,?_,fun b B=>?_,q⟩
 .have e1:lo+((0:Nat):Int)*1=lo:=by simp
  have e2:(((hi-lo).toNat:Nat):Int)-((0:Nat):Int)=Builtin.Range.rangeSize lo hi 1:=by rw[rangeSize_one];split<;>lia
  show IsRangeIter _ _ (lo+((0:Nat):Int)*1) ((((hi-lo).toNat:Nat):Int)-((0:Nat):Int)) 1;rw[e1,e2];exact aL _ rfl
 .have e:b=(s.heap.push { cls:=.type "range",data:=.fields #[.int lo t,.int hi u,.int 1 v]}).objs.size:=by simpa using B
  subst e;exact g.QQ (aH _) (g.BA.fresh (aH _))
def rA(g:TA):TI:=fun σ H R=>g σ H fun vs B=>∃j:Int,vs=[.int j]/\-(2^62)<=j/\j<2^62/\R (T8 0 j.toNat) B
def qa(g:TA):TI:=fun σ H R=>g σ H fun vs B=>∃i j:Int,vs=[.int i,.int j]/\(-(2^62)<=i/\i<2^62/\-(2^62)<=j/\j<2^62)/\R (T8 i (j-i).toNat) B
theorem PH{a:Expr}{B:TA}{p pos:Pos}(hg:Gl X "range")(hm:X.mg "range" = none)(ha:PA X [a] B)(Z:starEach [a] X.env=[(false,eval a X.env)]:=by rfl):PI X tg (.Call (.Name "range" p) [a] [] pos) (rA B):=by
 intro pins s σ H R I h;refine Call_ (Hh I hg hm boot_range (ax (BQ (ha pos pins s σ H _ I h) fun us s1 ⟨vs,H1,I1,U,g⟩=>?_) Z rfl));obtain⟨j,e,g,Y,q⟩:=g;subst e;cases U with
 |cons r T=>
  cases T;obtain⟨t,rfl⟩:=r;exact call_range_1 (WV I1 AS AS g Y (by simpa using q))
theorem eZ{a b:Expr}{U:TA}{p pos:Pos}(hg:Gl X "range")(hm:X.mg "range" = none)(ha:PA X [a,b] U)(hs:starEach [a,b] X.env=[(false,eval a X.env),(false,eval b X.env)]:=by rfl)(g:starEach [b] X.env=[(false,eval b X.env)]:=by rfl) :
  PI X tg (.Call (.Name "range" p) [a,b] [] pos) (qa U):=by
 intro pins s σ H R I h;refine Call_ (Hh I hg hm boot_range (ax (BQ (ha pos pins s σ H _ I h) fun us s1 ⟨vs,H1,I1,Y,T⟩=>?_) (by rw[hs,g]) (by rw[g];rfl)));obtain⟨i,j,e,⟨T,q2,q3,q4⟩,q⟩:=T;subst e;cases Y with
 |cons r B=>
  cases B with
  |cons Z B=>
   cases B;obtain⟨t,rfl⟩:=r;obtain⟨t',rfl⟩:=Z;exact call_range_2 (WV I1 T q2 q3 q4 q)
def tI(T:TI)(g:TG)(U:TS):TS:=fun D σ H=>T σ H fun J Z=>∃W:Nat->Nat->St->Hp->Prop,(∃m,W 0 m σ Z)/\∀i m σ H,W i m σ H ->
 (J.stop i H/\D.nx σ H)\/(J.go i H/\∃N:St->Hp->Prop,(∀B H',N B H'->∃R,R<m/\W (i+1) R B H')/\∀x H',J.Fw i H x H'->g x σ H' fun I Y=>U {D with nx:=N,ct:=N,bk:=D.nx} I Y)
def Oo(fp:List Addr)(h:Heap):List (Addr×Obj):=fp.filterMap fun b=>(h.get? b).map fun o=>(b,o)
theorem Kg{fp:List Addr}{h:Heap}{b:Addr}{o:Obj}(g:b∈fp)(e:h.get? b=some o):(b,o)∈Oo fp h:=List.mem_filterMap.mpr ⟨b,g,by rw[e];rfl⟩
theorem cj{fp:List Addr}{h:Heap}{p:Addr×Obj}(g:p∈Oo fp h):p.1∈fp/\h.get? p.1=some p.2:=by
 obtain⟨b,B,e⟩:=List.mem_filterMap.mp g;cases q:h.get? b with
 |none=>rw[q]at e;cases e
 |some o=>
  rw[q]at e;have I:(b,o)=p:=ag e;subst I;exact⟨B,q⟩
theorem Inv.pinned{pins:Cy}{σ:St}{H:Hp}{s:GJ}{fp:List Addr}(I:Cl)(U:∀b∈fp,KI X pins H b)(T:∀b∈fp,∃o,s.heap.get? b=some o/\∀v,o.data≠.cell v):Inv X (pins++Oo fp s.heap) σ H s :=
 I.X4 fun p R=>(aU.mp R).elim (fun z=>I.pin p (ae _ z)) fun z=>by
  obtain⟨g,e⟩:=cj z;obtain⟨Y,f1,f2,_⟩:=U p.1 g;obtain⟨o,B,d⟩:=T p.1 g;rw[e]at B;cases B;exact⟨e,Y,f1,f2,d⟩
theorem Inv.Nt{pins g:Cy}{σ:St}{H:Hp}{s:GJ}(I:Inv X (pins++g) σ H s):Inv X pins σ H s:=I.X4 fun p B=>I.pin p (ae _ (List.mem_append_left _ B))
theorem Gx{iter:Expr}{body:List Stmt}{wi:TI}{g:TG}{tb:TS}{pos:Pos}(hp:PassesOwn Cs X.A X.env X.xe)(hc:X.calm=true)(hi:PI X tg iter wi)(hg:PG X tg g)(Z:Lw X body tb)
 (hs:∀x,foldedSetIterable iter X.env x=pure x:=by intro _;rfl):PS X (.For tg iter body [] pos) (tI wi g tb):=by
 intro pins s σ H D I h;refine wpAny_For (BQ (hi pins s σ H _ I h) fun v s1 h1=>BQ h1 fun itv s2 h2=>?_) hs;obtain⟨it,fp,tn,J,H2,e,I2,T,st2,f2,W,⟨m0,w0⟩,turn⟩:=h2;subst e;have Y:∀ {H':Hp},(∀b∈fp,H' b=none)->∀b∈fp,KI X pins H' b:=fun hn b Z=>⟨hn b Z,(f2 b Z).2⟩;refine codeAny_forLoop_any (fun n s'=>∃i U H',Inv X pins U H' s'/\tn i s'.heap/\(∀b∈fp,H' b=none)/\W i n U H') ?_ m0 ⟨0,σ,H2,I2,st2,fun b Z=>(f2 b Z).1,w0⟩;rintro n s3 ⟨i,R,H3,I3,st3,fr3,w3⟩;rcases turn i n R H3 w3 with ⟨stop,qn⟩|⟨go,N,hN,step⟩
 .refine wpAny_passesOwn hp (BQ (T.done X rfl rfl rfl hc i pins s3 R H3 X.xe I3 (Y fr3) st3 stop) fun r s4 ⟨hr,I4⟩=>?_);subst hr;exact wpAny_execs_nil ⟨R,H3,I4,qn⟩
 .refine wpAny_passesOwn hp (BQ (T.item X rfl rfl rfl hc i pins s3 R H3 X.xe I3 (Y fr3) st3 go) fun r s4 ⟨u,hr,h4⟩=>?_);subst hr;refine wpAny_passesOwn hp (BQ h4 fun _ s5 ⟨x,H5,I5,r5,y5,st5,fr5⟩=>?_);have I5':=I5.pinned (Y fr5) (T.obj _ _ st5);refine wpAny_passesOwn hp (BQ (hg _ s5 R H5 x u _ I5' r5 (step x H5 y5)) fun _ s6 ⟨σ6,H6,I6,q6⟩=>?_);refine wpAny_passesOwn hp (BQ (Z _ s6 σ6 H6 _ I6 q6) fun f s7 q7=>?_);have again:∀ {B:St} {H7:Hp},Inv X (pins++Oo fp s5.heap) B H7 s7->N B H7->∃m,m<n/\∃i U H',Inv X pins U H' s7/\tn i s7.heap/\(∀b∈fp,H' b=none)/\W i m U H':=fun {B H7} I7 n7=>by
   obtain⟨m',hm,w7⟩:=hN B H7 n7;refine⟨m',hm,i+1,B,H7,I7.Nt,T.keep _ _ _ st5 fun b Z o e=>(I7.pin (b,o) (ae _ (ae _ (Kg Z e)))).1,fun b Z=>?_,w7⟩;obtain⟨o,e,d⟩:=T.obj _ _ st5 b Z;exact(I7.pin (b,o) (ae _ (ae _ (Kg Z e)))).2.1
  cases f with
  |next=>obtain⟨B,H7,I7,n7⟩:=q7;exact again I7 n7
  |cont=>obtain⟨B,H7,I7,n7⟩:=q7;exact again I7 n7
  |brk=>obtain⟨B,H7,I7,q7⟩:=q7;exact⟨B,H7,I7.Nt,q7⟩
  |ret v=>obtain⟨x7,B,H7,I7,r7,q7⟩:=q7;exact⟨x7,B,H7,I7.Nt,r7,q7⟩
end
theorem JX{K:At}{a:Addr}{xs:Fa}{g:TG}{U:TS}{D:Ends}{σ:St}{H:Hp}(Pv:Nat->St->Hp->Prop)(h0:Pv 0 σ H)(hl:∀i σ H,i<=xs.length->Pv i σ H->Ax K H a xs)
 (hs:∀i x σ H,xs[i]? = some x->Pv i σ H->g x σ H fun B T=>U {D with nx:=Pv (i+1),ct:=Pv (i+1),bk:=D.nx} B T)(hd:∀σ H,Pv xs.length σ H->D.nx σ H) :
  ∃W:Nat->Nat->St->Hp->Prop,(∃m,W 0 m σ H)/\∀i m σ H,W i m σ H ->
   ((Xx K a).stop i H/\D.nx σ H)\/((Xx K a).go i H/\∃N:St->Hp->Prop,(∀I H',N I H'->∃Y,Y<m/\W (i+1) Y I H')/\∀x H',(Xx K a).Fw i H x H'->g x σ H' fun B T=>U {D with nx:=N,ct:=N,bk:=D.nx} B T):=by
 refine⟨fun i m σ H=>m=xs.length-i/\i<=xs.length/\Pv i σ H,⟨xs.length,by simp,Nat.zero_le _,h0⟩,?_⟩;rintro i m σ H ⟨rfl,hi,p⟩;have q:=hl i σ H hi p;by_cases R:i<xs.length
 .refine .inr ⟨⟨xs,xs[i],q,by simp[R]⟩,Pv (i+1),fun I H' Z=>⟨xs.length-(i+1),by lia,rfl,R,Z⟩,fun x H' y=>?_⟩;obtain⟨e,y⟩:=y;subst e;exact hs i x σ _ (y xs q) p
 .have e:i=xs.length:=by lia
  subst e;exact .inl ⟨⟨xs,q,Nat.le_refl _⟩,hd σ H p⟩
theorem kK{K:At}{a:Addr}{xs:Fa}{g:TG}{U:TS}{D:Ends}{σ:St}{H:Hp}(Pv:Nat->St->Hp->Prop)(h0:Pv 0 σ H)(hl:∀i σ H,i<=xs.length->Pv i σ H->BE K H a xs)
 (hs:∀i x σ H,xs[i]? = some x->Pv i σ H->g x σ H fun B T=>U {D with nx:=Pv (i+1),ct:=Pv (i+1),bk:=D.nx} B T)(hd:∀σ H,Pv xs.length σ H->D.nx σ H) :
  ∃W:Nat->Nat->St->Hp->Prop,(∃m,W 0 m σ H)/\∀i m σ H,W i m σ H ->
   ((YK K a).stop i H/\D.nx σ H)\/((YK K a).go i H/\∃N:St->Hp->Prop,(∀I H',N I H'->∃Y,Y<m/\W (i+1) Y I H')/\∀x H',(YK K a).Fw i H x H'->g x σ H' fun B T=>U {D with nx:=N,ct:=N,bk:=D.nx} B T):=by
 refine⟨fun i m σ H=>m=xs.length-i/\i<=xs.length/\Pv i σ H,⟨xs.length,by simp,Nat.zero_le _,h0⟩,?_⟩;rintro i m σ H ⟨rfl,hi,p⟩;have q:=hl i σ H hi p;by_cases R:i<xs.length
 .refine .inr ⟨⟨xs,xs[i],q,by simp[R]⟩,Pv (i+1),fun I H' Z=>⟨xs.length-(i+1),by lia,rfl,R,Z⟩,fun x H' y=>?_⟩;obtain⟨e,y⟩:=y;subst e;exact hs i x σ _ (y xs q) p
 .have e:i=xs.length:=by lia
  subst e;exact .inl ⟨⟨xs,q,Nat.le_refl _⟩,hd σ H p⟩
theorem Tz{lo:Int}{n:Nat}{g:TG}{U:TS}{D:Ends}{σ:St}{H:Hp}(Pv:Nat->St->Hp->Prop)(h0:Pv 0 σ H)
 (hs:∀i σ H,i<n->Pv i σ H->g (.int (lo+i)) σ H fun B T=>U {D with nx:=Pv (i+1),ct:=Pv (i+1),bk:=D.nx} B T)(hd:∀σ H,Pv n σ H->D.nx σ H) :
  ∃W:Nat->Nat->St->Hp->Prop,(∃m,W 0 m σ H)/\∀i m σ H,W i m σ H ->
   ((T8 lo n).stop i H/\D.nx σ H)\/((T8 lo n).go i H/\∃N:St->Hp->Prop,(∀I H',N I H'->∃Y,Y<m/\W (i+1) Y I H')/\∀x H',(T8 lo n).Fw i H x H'->g x σ H' fun B T=>U {D with nx:=N,ct:=N,bk:=D.nx} B T):=by
 refine⟨fun i m σ H=>m=n-i/\i<=n/\Pv i σ H,⟨n,by simp,Nat.zero_le _,h0⟩,?_⟩;rintro i m σ H ⟨rfl,hi,p⟩;by_cases R:i<n
 .refine .inr ⟨R,Pv (i+1),fun I H' Z=>⟨n-(i+1),by lia,rfl,R,Z⟩,fun x H' y=>?_⟩;obtain⟨e,y⟩:=y;subst e y;exact hs i σ _ R p
 .have e:i=n:=by lia
  subst e;exact .inl ⟨aH _,hd σ H p⟩
theorem Qt{c:TT}{R:TS}{D:Ends}{σ:St}{H:Hp}(Pv:St->Hp->Prop)(I:St->Hp->Nat)(h0:Pv σ H)
 (Y:∀σ H,Pv σ H->c σ H fun b B=>if b=true then R {D with nx:=fun g H'=>Pv g H'/\I g H'<I σ H,ct:=fun g H'=>Pv g H'/\I g H'<I σ H,bk:=D.nx} σ B else D.nx σ B)
 (mono:∀σ H Q T,(∀b B,Q b B->T b B)->c σ H Q->c σ H T):eu c R D σ H:=by
 refine⟨fun m σ H=>m=I σ H/\Pv σ H,⟨_,rfl,h0⟩,?_⟩;rintro m σ H ⟨rfl,p⟩;refine mono σ H _ _ (fun b B q=>?_) (Y σ H p);cases b with
 |true=>exact⟨_,fun g H' ⟨U,l⟩=>⟨_,l,rfl,U⟩,q⟩
 |false=>exact q
abbrev R2:=V->V->Hp->VK->Prop
def Dg(X:Cx)(f:Value->Value->Sem Value)(r:R2):Prop :=
 ∀(pins:Cy) (s:GJ) (σ:St) (H:Hp) (x y:V) (v u:KS) (Q:VK),Inv X pins σ H s->RelV x v->RelV y u->r x y H Q ->
  wpAny Cs X.A (f v u) (EP X pins σ Q) X.xe s
def lq(X:Cx)(f:Value->Sem Value)(r:V->Hp->VK->Prop):Prop :=
 ∀(pins:Cy) (s:GJ) (σ:St) (H:Hp) (x:V) (v:KS) (Q:VK),Inv X pins σ H s->RelV x v->r x H Q ->
  wpAny Cs X.A (f v) (EP X pins σ Q) X.xe s
def FV(X:Cx)(f:KS)(r:List V->Hp->VK->Prop):Prop :=
 ∀(pins:Cy) (s:GJ) (σ:St) (H:Hp) (xs:Fa) (us:Db) (Q:VK),Inv X pins σ H s->Vals xs us->r xs H Q ->
  wpAny Cs X.A (call f us) (EP X pins σ Q) X.xe s
def cy(r:R2)(B g:TE):TE:=fun σ H Q=>B σ H fun x R=>g σ R fun y I=>r x y I Q
def uD(r:V->Hp->VK->Prop)(g:TE):TE:=fun σ H Q=>g σ H fun x B=>r x B Q
def rI(C:Int->Int->Prop)(g:Int->Int->V):R2:=fun x y H Q=>∃i j,x=.int i/\y=.int j/\C i j/\Q (g i j) H
def Uk(g:Int->Int->V):R2:=fun x y H Q=>∃i j,x=.int i/\y=.int j/\Q (g i j) H
def rU(g:Int->V):V->Hp->VK->Prop:=fun x H Q=>∃i,x=.int i/\Q (g i) H
section
variable{X:Cx}{a b:Expr}{ta tb:TE}{pos:Pos}
theorem gg(ha:PE X a ta)(hb:PE X b tb){pins:Cy}{s:GJ}{σ:St}{H:Hp}{R:V->V->Hp->Prop}(I:Cl)
 (h:ta σ H fun x U=>tb σ U fun y g=>R x y g){Q:AT}{f:Value->Value->Sem Value}
 (hf:∀v u s2 x y g,Inv X pins σ g s2->RelV x v->RelV y u->R x y g->wpAny Cs X.A (f v u) Q X.xe s2) :
  wpAny Cs X.A (eval a X.env) (fun v T=>wpAny Cs X.A (eval b X.env) (fun u B=>wpAny Cs X.A (f v u) Q X.xe B) X.xe T) X.xe s:=by
 refine BQ (ha pins s σ H _ I h) fun v s1 ⟨x,U,I1,Z,q1⟩=>?_;refine BQ (hb pins s1 σ U _ I1 q1) fun u s2 ⟨y,g,I2,Y,q2⟩=>?_;exact hf v u s2 x y g I2 Z Y q2
theorem A9{op:Operator}{r:R2}(R:Dg X (binaryOp op) r)(ha:PE X a ta)(T:PE X b tb):PE X (.BinOp a op b pos) (cy r ta tb):=by
 intro pins s σ H Q I h;exact wpAny_BinOp (gg ha T I h fun v u s2 x y Y U B g q=>R pins s2 σ Y x y v u Q U B g q)
theorem L6{op:UnaryOp}{r:V->Hp->VK->Prop}(R:lq X (unaryOp op) r)(ha:PE X a ta):PE X (.UnaryOp op a pos) (uD r ta):=by
 intro pins s σ H Q I h;exact UnaryOp_ (BQ (ha pins s σ H _ I h) fun v s1 ⟨x,U,T,g,B⟩=>R pins s1 σ U x v Q T g B)
theorem V4{f:Value->Value->Sem Value}{C:Int->Int->Prop}{g:Int->Int->Int}
 (rule:∀(i j:Int) (t u:Tok) (s:GJ) (Q:AT) (E:AT),C i j->Q (.int (g i j) s.toks) {s with toks:=s.toks+1}->wpAny Cs X.A (f (.int i t) (.int j u)) Q E s) :
  Dg X f (rI C fun i j=>.int (g i j)):=by
 intro pins s σ H x y v u Q I T R h;obtain⟨i,j,rfl,rfl,U,q⟩:=h;obtain⟨t,rfl⟩:=T;obtain⟨B,rfl⟩:=R;exact rule i j t B s _ _ U ⟨.int (g i j),H,I.tok _,⟨_,rfl⟩,q⟩
theorem nK{f:Value->Value->Sem Value}{g:Int->Int->Int}
 (rule:∀(i j:Int) (t u:Tok) (s:GJ) (Q:AT) (E:AT),Q (.int (g i j) s.toks) {s with toks:=s.toks+1}->wpAny Cs X.A (f (.int i t) (.int j u)) Q E s) :
  Dg X f (Uk fun i j=>.int (g i j)):=by
 intro pins s σ H x y v u Q I T R h;obtain⟨i,j,rfl,rfl,q⟩:=h;obtain⟨t,rfl⟩:=T;obtain⟨B,rfl⟩:=R;exact rule i j t B s _ _ ⟨.int (g i j),H,I.tok _,⟨_,rfl⟩,q⟩
theorem fj{f:Value->Value->Sem Value}{g:Int->Int->Bool}
 (rule:∀(i j:Int) (t u:Tok) (s:GJ) (Q:AT) (E:AT),Q (.bool (g i j)) s->wpAny Cs X.A (f (.int i t) (.int j u)) Q E s) :
  Dg X f (Uk fun i j=>.bl (g i j)):=by
 intro pins s σ H x y v u Q I T R h;obtain⟨i,j,rfl,rfl,q⟩:=h;obtain⟨t,rfl⟩:=T;obtain⟨B,rfl⟩:=R;exact rule i j t B s _ _ ⟨.bl (g i j),H,I,rfl,q⟩
def sL(i j:Int):Prop:=0<j/\j<1073741824
def lJ(i j:Int):Prop:=0<=j/\j<=1000000/\i.natAbs<2^64
def Ti(i j:Int):Prop:=(-(2^64)<i/\i<2^64)\/(-(2^64)<j/\j<2^64)
theorem Ti.ok{i j:Int}(h:Ti i j):IntMulOk i j:=by
 rcases h with ⟨B,g⟩|⟨B,g⟩
 .exact .of_left (intBits_le_64 B g)
 .exact .of_right (intBits_le_64 B g)
theorem Jn:Dg X (binaryOp .Add) (Uk fun i j=>.int (i+j)):=nK fun _ _ _ _ _ _ _ q=>add_int q
theorem MU:Dg X (binaryOp .Sub) (Uk fun i j=>.int (i-j)):=nK fun _ _ _ _ _ _ _ q=>sub_int q
theorem JG:Dg X (binaryOp .FloorDiv) (rI sL fun i j=>.int (i / j)):=V4 fun i j _ _ _ _ _ g q=>by
 have I:(0:Int)<j:=g.1;have B:j<1073741824:=g.2;exact floordiv_int AS (by rw[Int.fdiv_eq_ediv_of_nonneg i AS];exact q) (.inl (PyProof.noPylong_small AS))
theorem IM:Dg X (binaryOp .Mod) (rI (fun _ j=>0<j) fun i j=>.int (i % j)):=V4 fun i j _ _ _ _ _ g q=>by
 have B:(0:Int)<j:=g;exact mod_int' AS (by rw[Int.fmod_eq_emod_of_nonneg i AS];exact q)
theorem Ph:Dg X (binaryOp .Mod) (rI (fun _ j=>j≠0) fun i j=>.int (i.fmod j)):=V4 fun _ _ _ _ _ _ _ g q=>mod_int' g q
theorem mX:Dg X (binaryOp .Pow) (rI lJ fun i j=>.int (i^j.toNat)):=V4 fun _ _ _ _ _ _ _ g q=>pow_int_small g.1 g.2.1 g.2.2 q
theorem nG:Dg X (binaryOp .LShift) (rI lJ fun i j=>.int (i*2^j.toNat)):=V4 fun _ _ _ _ _ _ _ g q=>lshift_int_small g.1 g.2.1 g.2.2 q
theorem uC{f:Value->Sem Value}{g:Int->Int}
 (rule:∀(i:Int) (t:Tok) (s:GJ) (Q:AT) (E:AT),Q (.int (g i) s.toks) {s with toks:=s.toks+1}->wpAny Cs X.A (f (.int i t)) Q E s) :
  lq X f (rU fun i=>.int (g i)):=by
 intro pins s σ H x v Q I B h;obtain⟨i,rfl,q⟩:=h;obtain⟨t,rfl⟩:=B;exact rule i t s _ _ ⟨.int (g i),H,I.tok _,⟨_,rfl⟩,q⟩
theorem J2:lq X (unaryOp .USub) (rU fun i=>.int (-i)):=uC fun _ _ _ _ _ q=>neg_int q
end
def pB:V->V->Bool
 |.CL,.CL=>true|.CL,.int _=>true|.int _,.CL=>true|.CL,.bl _=>true|.bl _,.CL=>true|.CL,.str _=>true|.str _,.CL=>true
 |.int _,.int _=>true|.bl _,.bl _=>true|.str _,.str _=>true|.PL _,.PL _=>true
 |.int _,.str _=>true|.str _,.int _=>true|.bl _,.str _=>true|.str _,.bl _=>true
 |_,_=>false
def tj:R2:=fun x y H Q=>pB x y=true/\Q (.bl (decide (x=y))) H
def tm:R2:=fun x y H Q=>pB x y=true/\Q (.bl (!decide (x=y))) H
theorem YV{i j:Int}:decide (V.int i=V.int j)=(i==j):=by
 rw[Bool.eq_iff_iff];simp
theorem dG{i j:Bool}:decide (V.bl i=V.bl j)=(i==j):=by
 rw[Bool.eq_iff_iff];simp
theorem Ye{i j:Str}:decide (V.str i=V.str j)=(i==j):=by
 rw[Bool.eq_iff_iff];simp
theorem YS{i j:Array UInt8}:decide (V.PL i=V.PL j)=(i.toList==j.toList):=by
 rw[Bool.eq_iff_iff];cases i;cases j;simp
section
variable{X:Cx}{a b c:Expr}{ta tb:TE}{pos:Pos}
theorem Bn{pins:Cy}{σ:St}{H:Hp}{s:GJ}{Q:VK}{k g:Bool}(I:Cl)(q:Q (.bl k) H)(e:k=g):EP X pins σ Q (.bool g) s:=by
 subst e;exact⟨.bl k,H,I,rfl,q⟩
theorem Rl:Dg X (compareOp .Eq) tj:=by
 intro pins s σ H x y v u Q I T g h;obtain⟨R,q⟩:=h;cases x with
 |CL=>
  cases T;cases y with
  |CL=>cases g;exact PySem.EqNone.eq_none_none (Bn I q CH)
  |bl j=>cases g;exact PySem.EqNone.eq_none_bool (Bn I q CH)
  |int j=>obtain⟨B,rfl⟩:=g;exact PySem.EqNone.eq_none_int (Bn I q CH)
  |str j=>obtain⟨B,rfl⟩:=g;exact PySem.EqNone.eq_none_str (Bn I q CH)
  |_=>exact absurd (show false=true from R) aJ
 |bl i=>
  cases T;cases y with
  |CL=>cases g;exact PySem.EqNone.eq_bool_none (Bn I q CH)
  |bl j=>cases g;exact eq_bool (Bn I q dG)
  |str j=>obtain⟨B,rfl⟩:=g;exact PySem.EqMixed.eq_bool_str (Bn I q CH)
  |_=>exact absurd (show false=true from R) aJ
 |int i=>
  obtain⟨t,rfl⟩:=T;cases y with
  |CL=>cases g;exact PySem.EqNone.eq_int_none (Bn I q CH)
  |int j=>obtain⟨B,rfl⟩:=g;exact eq_int (Bn I q YV)
  |str j=>obtain⟨B,rfl⟩:=g;exact PySem.EqMixed.eq_int_str (Bn I q CH)
  |_=>exact absurd (show false=true from R) aJ
 |str i=>
  obtain⟨t,rfl⟩:=T;cases y with
  |CL=>cases g;exact PySem.EqNone.eq_str_none (Bn I q CH)
  |bl j=>cases g;exact PySem.EqMixed.eq_str_bool (Bn I q CH)
  |int j=>obtain⟨B,rfl⟩:=g;exact PySem.EqMixed.eq_str_int (Bn I q CH)
  |str j=>obtain⟨B,rfl⟩:=g;exact eq_str (Bn I q Ye)
  |_=>exact absurd (show false=true from R) aJ
 |PL i=>
  obtain⟨t,rfl⟩:=T;cases y with
  |PL j=>obtain⟨B,rfl⟩:=g;exact PySem.W.eq_bytes (Bn I q YS)
  |_=>exact absurd (show false=true from R) aJ
 |_=>cases y<;>exact absurd (show false=true from R) aJ
theorem U6:Dg X (compareOp .NotEq) tm:=by
 intro pins s σ H x y v u Q I T g h;obtain⟨R,q⟩:=h;cases x with
 |CL=>
  cases T;cases y with
  |CL=>cases g;exact PySem.EqNone.ne_none_none (Bn I q CH)
  |bl j=>cases g;exact PySem.EqNone.ne_none_bool (Bn I q CH)
  |int j=>obtain⟨B,rfl⟩:=g;exact PySem.EqNone.ne_none_int (Bn I q CH)
  |str j=>obtain⟨B,rfl⟩:=g;exact PySem.EqNone.ne_none_str (Bn I q CH)
  |_=>exact absurd (show false=true from R) aJ
 |bl i=>
  cases T;cases y with
  |CL=>cases g;exact PySem.EqNone.ne_bool_none (Bn I q CH)
  |bl j=>cases g;exact ne_bool (Bn I q (ay not dG))
  |str j=>obtain⟨B,rfl⟩:=g;exact PySem.EqMixed.ne_bool_str (Bn I q CH)
  |_=>exact absurd (show false=true from R) aJ
 |int i=>
  obtain⟨t,rfl⟩:=T;cases y with
  |CL=>cases g;exact PySem.EqNone.ne_int_none (Bn I q CH)
  |int j=>obtain⟨B,rfl⟩:=g;exact ne_int (Bn I q (ay not YV))
  |str j=>obtain⟨B,rfl⟩:=g;exact PySem.EqMixed.ne_int_str (Bn I q CH)
  |_=>exact absurd (show false=true from R) aJ
 |str i=>
  obtain⟨t,rfl⟩:=T;cases y with
  |CL=>cases g;exact PySem.EqNone.ne_str_none (Bn I q CH)
  |bl j=>cases g;exact PySem.EqMixed.ne_str_bool (Bn I q CH)
  |int j=>obtain⟨B,rfl⟩:=g;exact PySem.EqMixed.ne_str_int (Bn I q CH)
  |str j=>obtain⟨B,rfl⟩:=g;exact ne_str (Bn I q (ay not Ye))
  |_=>exact absurd (show false=true from R) aJ
 |PL i=>
  obtain⟨t,rfl⟩:=T;cases y with
  |PL j=>obtain⟨B,rfl⟩:=g;exact PySem.W.ne_bytes (Bn I q (ay not YS))
  |_=>exact absurd (show false=true from R) aJ
 |_=>cases y<;>exact absurd (show false=true from R) aJ
theorem Rg:Dg X (compareOp .Lt) (Uk fun i j=>.bl (decide (i<j))):=fj fun _ _ _ _ _ _ _ q=>lt_int q
theorem Pa:Dg X (compareOp .Gt) (Uk fun i j=>.bl (decide (j<i))):=fj fun _ _ _ _ _ _ _ q=>gt_int q
theorem iQ:Dg X (compareOp .GtE) (Uk fun i j=>.bl (decide (j<=i))):=fj fun _ _ _ _ _ _ _ q=>ge_int q
theorem j8:Dg X (compareOp .IsNot) (fun x y H Q=>y=.CL/\Q (.bl (!decide (x=.CL))) H):=by
 intro pins s σ H x y v u Q I g B h;obtain⟨rfl,q⟩:=h;cases B;refine isnot_none_gen (Bn I q ?_);cases x<;>first
  |(cases g;rfl)
  |(obtain⟨t,rfl⟩:=g;rfl)
theorem Dg.or{f:Value->Value->Sem Value}{r R:R2}(h:Dg X f r)(h':Dg X f R):Dg X f (fun x y H Q=>r x y H Q\/R x y H Q):=by
 intro pins s σ H x y v u Q I B g q;rcases q with q|q
 .exact h pins s σ H x y v u Q I B g q
 .exact h' pins s σ H x y v u Q I B g q
theorem A6(b:Expr){op:CmpOp}(h:op≠.In:=by decide)(g:op≠.NotIn:=by decide):behindInMarks op b=false:=by
 have e1:(op==CmpOp.In)=false:=by cases op<;>first|rfl|exact absurd rfl h
 have B:(op==CmpOp.NotIn)=false:=by cases op<;>first|rfl|exact absurd rfl g
 cases b<;>simp[behindInMarks,e1,B]
theorem Pr{op:CmpOp}{r:R2}(R:Dg X (compareOp op) r)(ha:PE X a ta)(T:PE X b tb)(hm:behindInMarks op b=false):PE X (.Compare a [op] [b] pos) (cy r ta tb):=by
 intro pins s σ H Q I h;exact wpAny_Compare1 (gg ha T I h fun v u s2 x y Y U B g q=>R pins s2 σ Y x y v u Q U B g q) hm
def qq(t:TE):TT:=fun σ H Q=>t σ H fun x H'=>∃k,x=.bl k/\Q k H'
theorem Cw{op:CmpOp}{r:R2}(Z:Dg X (compareOp op) r)(ha:PE X a ta)(hb:PE X b tb)(hm:behindInMarks op b=false):PT X (.Compare a [op] [b] pos) (qq (cy r ta tb)):=by
 intro pins s σ H Q I h;refine wpAny_isTrue_Compare1 (BQ (ha pins s σ H _ I h) fun v s1 ⟨x,H1,I1,R,Y⟩=>BQ (hb pins s1 σ H1 _ I1 Y) fun u s2 ⟨y,H2,I2,B,U⟩=>
  BQ (Z pins s2 σ H2 x y v u _ I2 R B U) fun c s3 ⟨z,H3,I3,g,k,e,T⟩=>?_) hm
 subst e;cases g;exact bW ⟨H3,I3,T⟩
theorem Oe:(sizeLine:Nat)<2^63:=by rw[sizeLine_eq];decide
theorem ZG:Dg X (binaryOp .Add) (fun x y H Q=>∃i j,x=.str i/\y=.str j/\i.length+j.length<=sizeLine/\Q (.str (i++j)) H):=by
 intro pins s σ H x y v u Q I R B h;obtain⟨i,j,rfl,rfl,T,q⟩:=h;obtain⟨t,rfl⟩:=R;obtain⟨g,rfl⟩:=B;exact add_str (fun g U=>⟨.str (i++j),H,I.tok _,⟨_,rfl⟩,q⟩) T
theorem vals1{x:V}{us:Db}(r:Vals [x] us):∃u,us=[u]/\RelV x u:=by
 cases r with
 |cons B g=>cases g;exact⟨_,rfl,B⟩
theorem Ks:FV X (.builtin "abs") (fun xs H Q=>∃i,xs=[.int i]/\Q (.int (if i<0 then -i else i)) H):=by
 intro pins s σ H xs us Q I r h;obtain⟨i,rfl,q⟩:=h;obtain⟨u,rfl,t,rfl⟩:=vals1 r;exact call_abs_int fun u g=>⟨.int (if i<0 then -i else i),H,I.tok _,⟨_,rfl⟩,q⟩
end
structure gK(h:Heap)(x dx C:Addr)(mA:Eu):Prop where
 obj:h.get? x=some (PySem.W.instObj C dx)
 ns:h.Ns1 dx mA
 ne:dx≠x
theorem cb{h:Heap}{dx:Addr}{mA:Eu}(n:h.Ns1 dx mA):∃od,h.get? dx=some od/\∀name,PySem.W.lookIn name od=some (mA name):=by
 obtain⟨o,es,ep,I,hd,R,_,hm⟩:=n;refine⟨o,I,fun name=>?_⟩;have e:=hm name;unfold nsFind findBy at e;rw[<-Array.find?_toList]at e;unfold PySem.W.lookIn;rw[hd];dsimp only;split
 .rename_i y q;rw[q]at e;exact ay some e
 .rename_i q;rw[q]at e;have a:es.toList.any (·.refKey)=false:=by
   rw[List.any_eq_false];intro y B;obtain⟨z,t,g⟩:=R y (Array.mem_toList_iff.mp B);simp[DictEntry.refKey,g]
  have T:¬es.toList.any (·.refKey)=true:=by rw[a];exact aJ
  rw[if_neg T];exact ay some e
theorem gK.look{h:Heap}{x dx C:Addr}{mA:Eu}(I:gK h x dx C mA):∃od,PySem.W.InstAt h x (PySem.W.instObj C dx) C (some od)/\∀name,PySem.W.lookIn name od=some (mA name) :=
 let⟨od,g,B⟩:=cb I.ns
 ⟨od,⟨I.obj,rfl,rfl,g⟩,B⟩
theorem LG.some_of{v:V}{o:Option Value}(r:LG (some v) o):∃u,o=some u/\RelV v u:=by
 cases o with
 |none=>exact(show False from r).elim
 |some u=>exact⟨u,rfl,r⟩
section
variable{P:G8}{w:Id}{H:Hp}{h:Heap}{a C dx:Addr}{fs:List (Str×V)}
theorem jO(BA:Ek P w H h)(e:H a=some (.ins C dx fs)):∃mA,gK h a dx C mA/\(∀f,LG (fs.lookup f) (mA f))/\PySem.Within mA (fs.map (·.1))/\fs.length<=1000/\H dx=some (.own a):=by
 obtain⟨d,z,ne,ob,mA,n,r,q⟩:=(show Cu P w H h a (.ins C dx fs) from BA a _ e);exact⟨mA,⟨ob,n,ne⟩,r,q,z,d⟩
end
structure pA(K:At)(C:Addr):Prop where
 pg:PySem.W.plainGet K C Str.empty=true
 hd:PySem.W.hasDictIn K C=true
 po:PySem.W.plainOver K C=true
 sa:PySem.W.findIn K (.ref C) "__setattr__" = some (some (.builtin "object.__setattr__"))
theorem pA.get{K:At}{C:Addr}(c:pA K C)(f:Str):PySem.W.plainGet K C f=true:=c.pg
section
variable{X:Cx}{pins:Cy}{σ:St}{H:Hp}{s:GJ}{A:Around}{E:AT}{Q:AT}{c:KS}{b:Bool}
inductive IL(K:At)(H:Hp):V->Value->Prop where
 |CL:IL K H .CL (.type "NoneType")
 |bl (x:Bool):IL K H (.bl x) (.type "bool")
 |int (i:Int):IL K H (.int i) (.type "int")
 |str (x:Str):IL K H (.str x) (.type "str")
 |Yx (x:UInt64):IL K H (.Yx x) (.type "float")
 |lst {a:Addr} {xs:Fa} (e:H a=some (.lst xs)):IL K H Jj (.type "list")
 |Ft {a:Addr} {o:Obj} {xs:Fa} (e:H a=some (.Ft o (.lst xs))):IL K H Jj (.type "list")
 |tup {a:Addr} {xs:Fa} (e:H a=some (.tup xs)):IL K H Jj Hq
 |dK {a:Addr} {kvs:List (Key×V)} (e:H a=some (.dK kvs)):IL K H Jj (.type "dict")
 |dT {a:Addr} {kvs:List (List Key×V)} (e:H a=some (.dT kvs)):IL K H Jj (.type "dict")
 |ins {a C dx:Addr} {fs:List (Str×V)} (e:H a=some (.ins C dx fs)) (cl:pA K C) (ha:PySem.W.findIn K (.ref C) "__class__" = some (some (.builtin "object.__class__")))
   (hn:PySem.W.specialIn K (.builtin "object.__class__") "__get__" = some (some (.builtin "getset_descriptor.__get__"))) (htk:PySem.W.takesIn K (.builtin "object.__class__")=some true)
   (hm:PySem.W.mroIn K C (.type "object")=some true):IL K H Jj (.ref C)
theorem cV{x:V}{u t:KS}(I:Cl)(g:RelV x u)(ty:IL X.K H x t)(e:PySem.W.kitOne X.K t c=some b)(h:∀tk,Q (.bool b) {s with toks:=tk}) :
  wpAny Cs A (call (.builtin "isinstance") [u,c]) Q E s:=by
 cases ty with
 |CL=>cases (show u=Value.none from g);exact bG PySem.W.kitx_none I.Jx True.intro e (fun z=>nomatch z) h
 |bl y=>cases (show u=Value.bool y from g);exact bG PySem.W.kitx_bool I.Jx True.intro e (fun z=>nomatch z) h
 |int i=>obtain⟨t,q⟩:=(show ∃t,u=Value.int i t from g);cases q;exact bG PySem.W.kitx_int I.Jx True.intro e (fun z=>nomatch z) h
 |str y=>obtain⟨t,q⟩:=(show ∃t,u=Value.str y t from g);cases q;exact bG PySem.W.kitx_str I.Jx True.intro e (fun z=>nomatch z) h
 |Yx y=>obtain⟨t,q⟩:=(show ∃t,u=Value.float y t from g);cases q;exact bG PySem.W.kitx_float I.Jx True.intro e (fun z=>nomatch z) h
 | @lst a xs B=>
  cases (show u=Value.ref a from g);obtain⟨_,_,n,_,R⟩:=(show Cu X.prog X.w H s.heap a (.lst xs) from I.BA a _ B);exact bG PySem.W.kitx_list I.Jx ⟨_,R,rfl⟩ e (fun z=>nomatch z) h
 | @Ft a ob xs B=>
  cases (show u=Value.ref a from g);obtain⟨_,_,_,n,_,R⟩:=(show Cu X.prog X.w H s.heap a (.Ft ob (.lst xs)) from I.BA a _ B);exact bG PySem.W.kitx_list I.Jx ⟨_,R,rfl⟩ e (fun z=>nomatch z) h
 | @tup a xs B=>
  cases (show u=Value.ref a from g);obtain⟨_,_,_,p⟩:=(show Cu X.prog X.w H s.heap a (.tup xs) from I.BA a _ B);obtain⟨o,R,T,_⟩:=p;exact bG PySem.W.kitx_tuple I.Jx ⟨o,R,T⟩ e (fun z=>nomatch z) h
 | @dK a kvs B=>
  cases (show u=Value.ref a from g);obtain⟨_,_,vs,_,p⟩:=(show Cu X.prog X.w H s.heap a (.dK kvs) from I.BA a _ B);obtain⟨o,es,ep,R,T,_⟩:=p;exact bG PySem.W.kitx_dict I.Jx ⟨o,R,T.1⟩ e (fun z=>nomatch z) h
 | @dT a kvs B=>
  cases (show u=Value.ref a from g);obtain⟨_,_,xs,_,o,es,ep,R,T,_⟩:=(show Cu X.prog X.w H s.heap a (.dT kvs) from I.BA a _ B);exact bG PySem.W.kitx_dict I.Jx ⟨o,R,T.1⟩ e (fun z=>nomatch z) h
 | @ins a C dx fs B cl ha hn htk hm=>
  cases (show u=Value.ref a from g);obtain⟨mA,O,_⟩:=jO I.BA B;obtain⟨od,J,_⟩:=O.look;exact bG (PySem.W.kitx_own (cl.get _) cl.hd ha hn htk hm) I.Jx J e (fun z=>nomatch z) h
end
structure Fb(k:Nat)(A:Around):Prop where
 hd:A.handled=none
 dp:A.depth+3*k+5<recursionLimit
 un:A.units+16*k+200<cLine
theorem Fb.mono{j k:Nat}{A:Around}(r:Fb k A)(h:j<=k:=by decide):Fb j A:=⟨r.hd,by have:=r.dp;lia,by have:=r.un;lia⟩
theorem Fb.deeper{k:Nat}{A:Around}(r:Fb (k+1) A)(env:Env):Fb k (A.deeper env) :=
 ⟨r.hd,by have:=r.dp;show A.depth+1+3*k+5<_;lia,by have:=r.un;show A.units+3+16*k+200<_;lia⟩
theorem Fb.depth{k:Nat}{A:Around}(r:Fb k A):A.depth<recursionLimit:=by have:=r.dp;lia
theorem Fb.units{k:Nat}{A:Around}(r:Fb k A):A.units+64<cLine:=by have:=r.un;lia
def tE:TA:=fun _ H Q=>Q [] H
def qf(B:TE)(g:TA):TA:=fun σ H Q=>B σ H fun x R=>g σ R fun xs I=>Q (x::xs) I
section
variable{X:Cx}{e:Expr}{es:List Expr}{te:TE}{t:TA}{pos:Pos}
theorem AV:PA X [] tE:=fun _ _ _ _ H Q I h=>Calls.spliced_nil ⟨[],H,I,.nil,h⟩
theorem AF(ha:PE X e te)(Y:PA X es t)(U:starEach (e::es) X.env=(false,eval e X.env)::starEach es X.env:=by rfl):PA X (e::es) (qf te t):=by
 intro pos pins s σ H Q I h;rw[U];show wpAny _ _ (spliced ((false,eval e X.env)::backTo pos (starEach es X.env))) _ _ s;refine Calls.spliced_cons (BQ (ha pins s σ H _ I h) fun u s1 ⟨x,H1,I1,B,T⟩=>?_);exact BQ (Y pos pins s1 σ H1 _ I1 T) fun us s2 ⟨xs,H2,Z,g,R⟩=>⟨x::xs,H2,Z,.cons B g,R⟩
def sI(t:TA):TE:=fun σ H Q=>t σ H fun xs g=>xs.length<=sizeLine/\∀p,g p=none->Q (.ref p) (upd g p (.tup xs))
def rz(t:TA):TE:=fun σ H Q=>t σ H fun xs g=>xs.length<=sizeLine/\∀p,g p=none->Q (.ref p) (upd g p (.lst xs))
theorem FA{x1}(h:PA X es t):PE X (.Tuple es x1 pos) (sI t):=by
 intro pins s σ H Q I R;refine wpAny_Tuple_spliced (BQ (h pos pins s σ H _ I R) fun us s1 ⟨xs,B,g,r,z,q⟩=>⟨by rw[<-r.length];exact z,?_⟩);have T:B s1.heap.objs.size=none:=g.BA.fresh (aH _);refine⟨.ref s1.heap.objs.size,upd B s1.heap.objs.size (.tup xs),g.laid (t':=s1.toks) (fun b u e=>aE _ e) (aH _) ?_,rfl,q _ T⟩;exact⟨z,us,r,⟨_,Heap.get?_push_size _ rfl,rfl,_,rfl⟩⟩
theorem Ff(h:PA X es t):PE X (.List es pos) (rz t):=by
 intro pins s σ H Q I R;refine wpAny_List_spliced (BQ (h pos pins s σ H _ I R) fun us s1 ⟨xs,B,g,r,z,q⟩=>⟨by rw[<-r.length];exact z,?_⟩);have T:B s1.heap.objs.size=none:=g.BA.fresh (aH _);refine⟨.ref s1.heap.objs.size,upd B s1.heap.objs.size (.lst xs),g.laid (t':=s1.toks) (fun b u e=>aE _ e) (aH _) ?_,rfl,q _ T⟩;exact⟨z,us,0,r,Heap.get?_push_size _ rfl⟩
end
abbrev Sp:=List V->Hp->VK->XK->Prop
abbrev JC:=List Env->Hp->Shared->XK->Value->Shared->Prop
structure Zm(P:G8)(w:Id)(K:At)(mg:Eu)(base:Heap)(A:Around)(outer:List Env)(s:GJ)(H:Hp):Prop where
 frames:A.frames=some outer
 mod:Mod K mg base
 bs:∀b o,base.get? b=some o->s.heap.get? b=some o/\H b=none
 Ug:base.objs.size<=s.heap.objs.size
 K2:s.heap.FunFrames base outer
 YW:∀b∈OO outer,H b=none
 BA:Ek P w H s.heap
 bare:AllBare s.gens
 kt:KTb mg H
def CE(outer:List Env)(P:G8)(w:Id)(H:Hp)(s:GJ)(Q:VK)(u:KS)(s':GJ):Prop :=
 ∃v H',s'.os=s.os/\AllBare s'.gens/\Un (OO outer) [] H H' s.heap s'.heap/\Ek P w H' s'.heap/\RelV v u/\Q v H'
def CR(CX:JC)(outer:List Env)(P:G8)(w:Id)(H:Hp)(s:GJ)(Q:VK)(E:XK)(r:Result)(s':GJ):Prop :=
 match r with
 |.ok (.ret u)=>CE outer P w H s Q u s'
 |.ok _=>False
 |.error e=>CX outer H s E e s'
structure AL(P:G8)(w:Id)(K:At)(mg:Eu)(base:Heap)(CX:JC)(k:Nat)(f:Addr)(fd:GE)(ps:KP)(sp:Sp):Prop where
 len:∀vs H Q E,sp vs H Q E->vs.length=ps.length
 run:∀(A:Around) (outer:List Env) (s:GJ) (H:Hp) (args:Args) (us:Db) (vs:Fa) (Q:VK) (E:XK),Fb k A->Zm P w K mg base A outer s H->BindsTo s fd args (ps.zip us)->Vals vs us->sp vs H Q E ->
  codeAny (model P w) A (.call (.ref f) args) (CR CX outer P w H s Q E) s
theorem AL.mono{P:G8}{w:Id}{K:At}{mg:Eu}{base:Heap}{CX:JC}{j k:Nat}{f:Addr}{fd:GE}{ps:KP}{sp:Sp}(F:AL P w K mg base CX j f fd ps sp)(h:j<=k:=by decide) :
  AL P w K mg base CX k f fd ps sp:=⟨F.len,fun A outer s H args us vs Q E g=>F.run A outer s H args us vs Q E (g.mono h)⟩
theorem AL.imp{P:G8}{w:Id}{K:At}{mg:Eu}{base:Heap}{CX:JC}{k:Nat}{f:Addr}{fd:GE}{ps:KP}{sp g:Sp}(F:AL P w K mg base CX k f fd ps sp)
 (h:∀vs H Q E,g vs H Q E->sp vs H Q E):AL P w K mg base CX k f fd ps g :=
 ⟨fun vs H Q E q=>F.len vs H Q E (h _ _ _ _ q),fun A outer s H args us vs Q E R T U B I=>F.run A outer s H args us vs Q E R T U B (h _ _ _ _ I)⟩
section
variable{X:Cx}{pins:Cy}{σ:St}{H:Hp}{s s':GJ}
theorem Inv.tY(I:Cl):Zm X.prog X.w X.K X.mg X.base X.A X.stack s H :=
 ⟨I.ok.frames,I.ok.mod,I.bs,Nat.le_trans I.ok.Ug I.sz,I.stack,I.Ym,I.BA,I.bare,I.kt⟩
theorem Inv.after{Q:VK}{u:KS}(I:Cl)(h:CE X.stack X.prog X.w H s Q u s'):EP X pins σ Q u s':=by
 obtain⟨v,H',os,bare,un,BA,r,q⟩:=h;obtain⟨R,g,d,t,B⟩:=s';obtain rfl:B=s.os:=os;exact⟨v,H',I.call (h':=R) (g':=g) (d':=d) (t':=t) (ch:=[]) un BA bare (fun b z=>absurd z CH),r,q⟩
end
def iH(sp:Sp)(g:Fa)(E:XK)(t:TA):TE:=fun σ H Q=>t σ H fun vs B=>sp (vs++g) B Q E
def Binds(K:At)(fd:GE)(ps:KP)(ds:Db):Prop :=
 ∀(s:GJ) (us:Db),K.In s.heap->(us++ds).length=ps.length->BindsTo s fd ⟨us,[]⟩ (ps.zip (us++ds))
theorem Binds.all{K:At}{fd:GE}{ps:KP}(h:∀us:List Value,us.length=ps.length->bindArgs fd ⟨us,[]⟩=pure (ps.zip us)):Binds K fd ps []:=fun s us _ g=>by
 rw[List.append_nil]at g ⊢;exact .of_eq (h us g)
def Passes(CX:JC)(X:Cx)(E:XK):Prop:=∀(pins:Cy) (σ:St) (H:Hp) (s:GJ) (e:KS) (g:GJ),Inv X pins σ H s->CX X.stack H s E e g->X.xe e g
section
variable{X:Cx}{CX:JC}{k:Nat}{f:Addr}{fd:GE}{ps:KP}{sp:Sp}{dvs:Fa}{ds:Db}{E:XK}{x:Str}{p pos:Pos}{e:Expr}{es:List Expr}{t:TA}
theorem oX{pins:Cy}{σ:St}{H:Hp}{s:GJ}{Q:VK}{us:Db}{vs:Fa}(F:AL X.prog X.w X.K X.mg X.base CX k f fd ps sp)(U:Fb k X.A)(Z:Binds X.K fd ps ds)(hd:Vals dvs ds)(T:Passes CX X E)
 (I:Cl)(r:Vals vs us)(h:sp (vs++dvs) H Q E):wpAny Cs X.A (call (.ref f) us) (EP X pins σ Q) X.xe s:=by
 have B:Vals (vs++dvs) (us++ds):=r.append hd;have Y:(us++ds).length=ps.length:=by rw[<-B.length];exact F.len _ _ _ _ h
 refine wpAny_call (codeAny_mono (F.run X.A X.stack s H ⟨us,[]⟩ (us++ds) (vs++dvs) Q E U I.tY (Z s us I.Jx Y) B h) fun r R g=>?_);cases r with
 |error e=>exact T pins σ H s e R I g
 |ok fl=>
  cases fl with
  |ret u=>exact I.after g
  |next=>exact False.elim g
  |brk=>exact False.elim g
  |cont=>exact False.elim g
theorem jw(F:AL X.prog X.w X.K X.mg X.base CX k f fd ps sp)(U:Fb k X.A)(Z:Gl X x)(hm:X.mg x=some (.ref f))(Y:PySem.W.keepIn X.K (.ref f)=true)(hb:Binds X.K fd ps ds)(hd:Vals dvs ds)(T:Passes CX X E)
 (ha:PA X (e::es) t)(B:(x==("__debug__" : Str))=false:=by decide)(he:starEach (e::es) X.env=(false,eval e X.env)::starEach es X.env:=by rfl)(g:(backTo pos (starEach es X.env)).any (·.1)=false:=by rfl) :
  PE X (.Call (.Name x p) (e::es) [] pos) (iH sp dvs E t):=by
 intro pins s σ H Q I h;refine wpAny_Call_Name_kw (Xv I Z hm ?_ B);refine PySem.W.callWith_K (h₀:=X.base) I.ok.mod.nV Y (BQ (ha pos pins s σ H _ I h) fun us s1 ⟨vs,H1,R,r,q⟩=>⟨R.Jx,?_⟩) he g;exact oX F U hb hd T R r q
end
structure Aj(N P:KP)(sc:Scope):Prop where
 kind:sc.kind=.function
 co:sc.isCoroutine=false
 gen:sc.isGenerator=false
 nd:N.Nodup
 pre:N.take P.length=P
 par:∀x∈P,sc.names.lookup x=some .local\/sc.names.lookup x=some .cell
 pf:∀y∈sc.names,y.2≠.free
theorem T9{kindOf:Str->Option NameKind}{x:Str}:∀ {binds:List (Str×Value)} {m:Eu},(∀v,(x,v) ∉ binds)->bindL kindOf binds m x=m x
 |[],_,_=>rfl
 |(n,v)::r,m,h=>by
  unfold bindL;rw[T9 fun w g=>h w (aV _ g)];split
  .have:x≠n:=by rintro rfl;exact h v aX
   simp[this]
  .rfl
theorem T5{kindOf:Str->Option NameKind}{x:Str}:∀ {binds:List (Str×Value)} {m:Eu},(∀v,(x,v) ∉ binds)->bindC kindOf binds m x=m x
 |[],_,_=>rfl
 |(n,v)::r,m,h=>by
  unfold bindC;rw[T5 fun w g=>h w (aV _ g)];split
  .rfl
  .have:x≠n:=by rintro rfl;exact h v aX
   simp[this]
theorem UD{kindOf:Str->Option NameKind}{x:Str}{v:KS}:∀ {P:KP} {vs:Db} {i:Nat} {m:Eu},P.Nodup->P[i]? = some x->vs[i]? = some v->kindOf x=some .local ->
  bindL kindOf (P.zip vs) m x=some v
 |[],_,_,_,_,h,_,_=>by simp at h
 |_::_,[],_,_,_,_,h,_=>by simp at h
 |p::P,w::vs,0,m,nd,B,g,I=>by
  simp at B g;subst B;subst g;show bindL kindOf ((p,w)::P.zip vs) m p=_;unfold bindL;rw[T9 fun v R=>(List.nodup_cons.mp nd).1 (List.of_mem_zip R).1,if_pos I];simp
 |p::P,w::vs,i+1,m,nd,B,g,I=>by
  show bindL kindOf ((p,w)::P.zip vs) m x=_;unfold bindL;exact UD (i:=i) (List.nodup_cons.mp nd).2 (by simpa using B) (by simpa using g) I
theorem T6{kindOf:Str->Option NameKind}{x:Str}{v:KS}:∀ {P:KP} {vs:Db} {i:Nat} {m:Eu},P.Nodup->P[i]? = some x->vs[i]? = some v->kindOf x≠some .local ->
  bindC kindOf (P.zip vs) m x=some v
 |[],_,_,_,_,h,_,_=>by simp at h
 |_::_,[],_,_,_,_,h,_=>by simp at h
 |p::P,w::vs,0,m,nd,B,g,I=>by
  simp at B g;subst B;subst g;show bindC kindOf ((p,w)::P.zip vs) m p=_;unfold bindC;rw[T5 fun v R=>(List.nodup_cons.mp nd).1 (List.of_mem_zip R).1,if_neg I];simp
 |p::P,w::vs,i+1,m,nd,B,g,I=>by
  show bindC kindOf ((p,w)::P.zip vs) m x=_;unfold bindC;exact T6 (i:=i) (List.nodup_cons.mp nd).2 (by simpa using B) (by simpa using g) I
def start(N:KP)(vs:Fa):St:=vs.map some++List.replicate (N.length-vs.length) none
def QY(CX:JC)(P:G8)(w:Id)(K:At)(mg:Eu)(base:Heap)(N:KP)(qual:Str)(scope:Scope)(f:Addr)(cd:KS)(A:Around)(outer:List Env)(s:GJ)(H:Hp)(E:XK):Cx where
 prog:=P
 w:=w
 K:=K
 mg:=mg
 base:=base
 A:=A.deeper (envOfC qual scope s.heap.objs.size f cd)
 N:=N
 s₀:=s
 H₀:=H
 env:=envOfC qual scope s.heap.objs.size f cd
 outer:=outer
 stack:=envOfC qual scope s.heap.objs.size f cd::outer
 ex:=[]
 calm:=true
 fn:=fun _=>true
 pn:=[]
 xe:=fun e s'=>wpAny (model P w) (A.deeper (envOfC qual scope s.heap.objs.size f cd)) (leaving (envOfC qual scope s.heap.objs.size f cd) e) (fun _ s''=>CX outer H s E e s'') (fun e' s''=>CX outer H s E e' s'') s'
theorem VY{sc:Scope}{n:Nat}{x:Str}(h:sc.names.lookup x=some .cell):∃c,(cellsFrom n sc.names []).lookup x=some c:=by
 have q:=PySem.W.cellsFrom_some sc.names n [] (.inl h);exact Option.isSome_iff_exists.mp q
theorem eJ{CX:JC}{P:G8}{w:Id}{K:At}{mg:Eu}{base:Heap}{N ps:KP}{qual:Str}{scope:Scope}{f:Addr}{Z:KS}{A:Around}{outer:List Env}{s s1:GJ}{H:Hp}{E:XK}{us:Db}{vs:Fa}
 (S:Aj N ps scope)(hd:A.handled=none)(B:Zm P w K mg base A outer s H)(hl:vs.length=ps.length)(r:Vals vs us)
 (x:InCallC s s.heap.objs.size (bindL (envOfC qual scope s.heap.objs.size f Z).kindOf (ps.zip us) fun _=>none) (cellsFrom KF scope.names []) (bindC (envOfC qual scope s.heap.objs.size f Z).kindOf (ps.zip us) fun _=>none) s1) :
  Inv (QY CX P w K mg base N qual scope f Z A outer s H E) [] (start N vs) H s1:=by
 have hpl:ps.length<=N.length:=by have:=ay List.length S.pre;rw[(MI)]at this;lia
 obtain⟨Y,tk,rfl,hk⟩:=x.done;have I:∀b:Addr,b ∉ (QY CX P w K mg base N qual scope f Z A outer s H E).ex:=fun b z=>absurd (show b∈([]:List Addr) from z) CH;refine⟨⟨B.mod,S.kind,rfl,rfl,Nat.le_refl _,fun y z c Y g=>?_,fun y R=>?_,fun y c _ h=>?_,fun _=>hd,Around.frames_deeper B.frames,.inr ⟨rfl,rfl⟩,fun b z=>absurd z (I b),B.bs,B.Ug,fun b _ _=>I b,fun b z=>absurd z (I b),B.K2,B.YW,B.kt⟩,
  rfl,B.bare,Un.kept hk,⟨_,x.toInCall.ns,fun i y v Y g h3=>?_⟩,fun y c h=>⟨_,x.cell y c h⟩,B.BA.fresh (aH _),fun y c h=>?_,fun p U=>absurd (show p∈([]:List (Addr×Obj)) from U) CH,B.BA.kept hk,?_⟩
 .exact name_of_addr x.apart (PySem.mem_of_lookup Y) (PySem.mem_of_lookup g)
 .have R:scope.names.lookup y=some .cell\/scope.names.lookup y=some .free:=R;rcases R with R|R
  .exact VY R
  .exact absurd rfl (S.pf _ (PySem.mem_of_lookup R))
 .exact av (x.above y c (PySem.mem_of_lookup h))
 .have hi:i<vs.length:=by
   unfold start at g;by_cases hi:i<vs.length
   .exact hi
   .rw[List.getElem?_append_right (by simpa using hi)]at g;rw[(Qu)]at g;split at g<;>cases g
  have ha:vs[i]? = some v:=by
   unfold start at g;rw[List.getElem?_append_left (by simpa using hi),(B7)]at g;cases e:vs[i]? with
   |none=>rw[e]at g;cases g
   |some a=>rw[e]at g;cases g;rfl
  obtain⟨u,hu,rv⟩:=r.get ha;have U:ps[i]? = some y:=by
   rw[<-S.pre,List.getElem?_take_of_lt AS];exact Y
  have T:ps.Nodup:=by rw[<-S.pre];exact S.nd.sublist (List.take_sublist _ _)
  refine⟨u,rv,?_⟩;rcases S.par y (aT U) with k|k
  .exact .inl ⟨k,UD T U hu k⟩
  .obtain⟨c,e⟩:=VY (n:=s.heap.objs.size+1) k;refine .inr ⟨.inl k,c,e,?_⟩;have q:=x.cell y c e;rw[T6 T U hu (by show scope.names.lookup y≠_;rw[k];decide)]at q;exact q
 .exact B.BA.fresh (av (x.above y c (PySem.mem_of_lookup h)))
 .unfold start;show _=N.length;rw[(Dk),(BW),(W2)]
  lia
theorem q9{CX:JC}{P:G8}{w:Id}{K:At}{mg:Eu}{base:Heap}{k:Nat}{f:Addr}{name qual:Str}{params:Arguments}{g:List Stmt}{scope:Scope}{dV kV doc pm cdv ct oc:KS}{an od:Option Addr}
 {osl:Array (Option Value)}{N ps:KP}{sp:Sp}(lk:K.lookup f=some ⟨oc,od,.func (PySem.W.fnOf name qual params g scope dV kV doc pm an cdv ct),osl⟩)(hcd:PySem.W.codeIn K cdv qual=true)(S:Aj N ps scope)
 (len:∀vs H Q E,sp vs H Q E->vs.length=ps.length)
 (T:∀(A:Around) (outer:List Env) (s:GJ) (H:Hp) (vs:Fa) (Q:VK) (E:XK),Fb k (A.deeper (envOfC qual scope s.heap.objs.size f cdv))->sp vs H Q E ->
   ∃t,Lw (QY CX P w K mg base N qual scope f cdv A outer s H E) g t/\t { nx:=fun _ H'=>Q .CL H',rt:=Q} (start N vs) H) :
  AL P w K mg base CX (k+1) f (PySem.W.fnOf name qual params g scope dV kV doc pm an cdv ct) ps sp:=by
 refine⟨len,fun A outer s H args us vs Q E hr Z hb r Y=>?_⟩;have hl:=len _ _ _ _ Y;have KX:K.In s.heap:=Z.mod.nV.keeps fun b o e=>(Z.bs b o e).1;have lim:s.heap.NoLimit:=Z.mod.nolimit.keeps fun b o e=>(Z.bs b o e).1;have R:∀y∈ps.zip us,scope.names.lookup y.1=some .local\/(scope.names.lookup y.1=some .cell/\((cellsFrom KF scope.names []).lookup y.1).isSome=true):=fun⟨n,v⟩ hy=>by
  rcases S.par n (List.of_mem_zip hy).1 with q|q
  .exact .inl q
  .exact .inr ⟨q,PySem.W.cellsFrom_some _ _ _ (.inl q)⟩
 refine codeAny_call_function hr.depth (KX _ _ lk) rfl S.co S.gen rfl (PySem.W.codeRec_of KX hcd) (hb _ _ _ _ ?_);refine wpAny_newFunctionEnv_cells S.kind R fun env he s1 x=>?_;subst he;refine⟨lim.keeps x.toInCall.keep,codeAny_func ?_⟩;obtain⟨t,ht,hq⟩:=T A outer s H vs Q E (hr.deeper _) Y;have I:Inv (QY CX P w K mg base N qual scope f cdv A outer s H E) [] (start N vs) H s1:=eJ S hr.hd Z hl r x;refine ao (ht [] s1 (start N vs) H _ I hq) (fun fl s' U=>?_) fun e s' U=>U;have fin:∀ {B:St} {H':Hp} {v:V} {u:KS},Inv (QY CX P w K mg base N qual scope f cdv A outer s H E) [] B H' s'->RelV v u->Q v H'->CE outer P w H s Q u s' :=
  fun {B H' v u} J rv q=>⟨v,H',J.os,J.bare,J.base,J.BA,rv,q⟩
 cases fl with
 |ret u=>
  obtain⟨v,B,H',J,rv,q⟩:=U;exact fin J rv q
 |next=>
  obtain⟨B,H',J,q⟩:=U;exact fin (v:=V.CL) (u:=Value.none) J rfl q
 |brk=>
  obtain⟨_,_,_,q⟩:=U;exact False.elim q
 |cont=>
  obtain⟨_,_,_,q⟩:=U;exact False.elim q
section
variable{X:Cx}{x:Str}{p pos:Pos}{e:Expr}{es:List Expr}{t:TA}{id T:String}{r:List V->Hp->VK->Prop}
def rO(r:List V->Hp->VK->Prop)(t:TA):TE:=fun σ H Q=>t σ H fun vs g=>r vs g Q
theorem Bp(hc:FV X (.builtin id) r)(Z:Gl X x)(hm:X.mg x=none)(Y:bootBuiltins x=some (.builtin id))(ha:PA X (e::es) t)(hn:x ≠ "__name__":=by decide)(B:(x==("__debug__" : Str))=false:=by decide)
 (he:starEach (e::es) X.env=(false,eval e X.env)::starEach es X.env:=by rfl)(g:(backTo pos (starEach es X.env)).any (·.1)=false:=by rfl):PE X (.Call (.Name x p) (e::es) [] pos) (rO r t):=by
 intro pins s σ H Q I h;refine wpAny_Call_Name_kw (Hh I Z hm Y ?_ hn B);exact PyProof.Rows.callWith_builtin1 (BQ (ha pos pins s σ H _ I h) fun us s1 ⟨vs,H1,I1,R,U⟩=>hc pins s1 σ H1 vs us Q I1 R U) he g
theorem UH(hc:FV X (.type T) r)(Z:Gl X x)(hm:X.mg x=none)(Y:bootBuiltins x=some (.type T))(ha:PA X (e::es) t)(hn:x ≠ "__name__":=by decide)(B:(x==("__debug__" : Str))=false:=by decide)
 (he:starEach (e::es) X.env=(false,eval e X.env)::starEach es X.env:=by rfl)(g:(backTo pos (starEach es X.env)).any (·.1)=false:=by rfl):PE X (.Call (.Name x p) (e::es) [] pos) (rO r t):=by
 intro pins s σ H Q I h;refine wpAny_Call_Name_kw (Hh I Z hm Y ?_ hn B);exact ax (BQ (ha pos pins s σ H _ I h) fun us s1 ⟨vs,H1,I1,R,U⟩=>hc pins s1 σ H1 vs us Q I1 R U) he g
end
end L2
namespace HT
open PySem PyProof.Rows
section
variable{prog:G8}{w:Id}{A:Around}{E:AT}{s:GJ}
theorem kB{t b:Addr}{vs g:Db}{Q:AT}(ht:IsTup s.heap t vs.toArray)(hb:IsTup s.heap b g.toArray)(hv:vs≠[])
 (h1:g=[]->Q (.ref t) s)(h2:g≠[]->Q GM {s with heap:=s.heap.push { cls:=.type "tuple",data:=.seq (vs++g).toArray} })
 (hsz:vs.length+g.length<=sizeLine):wpAny BY A (binaryOp .Add (.ref t) (.ref b)) Q E s:=by
 obtain⟨⟨cls,dd,data,sl⟩,Z,hc,n,hd⟩:=id ht;obtain⟨⟨cls2,U,data2,I⟩,B,T,n2,R⟩:=id hb;simp only at hc hd T R;subst hc hd T R;have e:vs.toArray++g.toArray=(vs++g).toArray:=by simp
 by_cases Y:g=[]
 .exact concat_meets ⟨_,Z,rfl⟩ ⟨_,B,rfl⟩ noFill_tuple_add seq_tuple_add PySem.F.slot_tuple_add PySem.F.entry_tuple_add (PySem.F.args_tuple_add_2 _ _)
   (tuple_addW1 t b vs.toArray g.toArray n n2 dd U sl I (by simpa using hv) (by simp[Y])) ⟨Z,B,h1 Y⟩
 .refine concat_meets ⟨_,Z,rfl⟩ ⟨_,B,rfl⟩ noFill_tuple_add seq_tuple_add PySem.F.slot_tuple_add PySem.F.entry_tuple_add (PySem.F.args_tuple_add_2 _ _)
   (tuple_addW2 t b vs.toArray g.toArray n n2 dd U sl I (by simpa using hv) (by simpa using Y) (by rw[(D8),(D8)];exact hsz)) ⟨Z,B,?_⟩
  rw[e];exact h2 Y
def B0(n d:Nat):Option Int->Nat
 |none=>d
 |some v=>if v<0 then(v+(n:Int)).toNat else min v.toNat n
theorem gP(n d:Nat):B0 n d none=d:=rfl
theorem tf(n d k:Nat):B0 n d (some (k:Int))=min k n:=by
 show(if(k:Int)<0 then((k:Int)+(n:Int)).toNat else min (k:Int).toNat n)=min k n;rw[if_neg AS,(ML)]
theorem nH(n d:Nat)(hd:d<=n)(o:Option Int):B0 n d o<=n:=by
 cases o with
 |none=>exact hd
 |some v=>
  show(if v<0 then(v+(n:Int)).toNat else min v.toNat n)<=n;by_cases g:v<0
  .rw[if_pos g];lia
  .rw[if_neg g];exact Nat.min_le_right _ _
theorem Xr(v:Int)(n d:Nat):(if v<0 then max (v+(n:Int)) 0 else min v (n:Int))=((B0 n d (some v):Nat):Int):=by
 show(if v<0 then max (v+(n:Int)) 0 else min v (n:Int))=(((if v<0 then(v+(n:Int)).toNat else min v.toNat n):Nat):Int);by_cases g:v<0
 .simp only[if_pos g];lia
 .simp only[if_neg g];lia
theorem Zq(lo hi:Option Int)(n:Nat):Builtin.Slice.sliceAdjust lo hi 1 (n:Int)=(((B0 n 0 lo:Nat):Int),((B0 n n hi:Nat):Int)):=by
 have g:¬((1:Int)<0):=by lia
 unfold Builtin.Slice.sliceAdjust;simp only[g,if_false];refine Prod.ext ?_ ?_
 .cases lo with
  |none=>rfl
  |some v=>exact Xr v n 0
 .cases hi with
  |none=>rfl
  |some v=>exact Xr v n n
theorem ZX(i j:Nat):Builtin.Slice.slicePlaces (i:Int) (j:Int) 1=j-i:=by
 unfold Builtin.Slice.slicePlaces;have g:(1:Int) > 0:=by lia
 simp only[g,if_true,Int.ediv_one];split<;>lia
theorem R9{v:KS}{o:Option Int}{Q:Option Int->Shared->Prop}(p:IsPart v o)(h:Q o s):wpAny BY A (Builtin.Slice.slicePartIndex v) Q E s:=by
 cases p with
 |none=>exact slicePart_none h
 |int i t=>exact slicePart_int h
theorem QZ{sl:Addr}{R I:KS}{lo hi:Option Int}{n:Nat}{Q:Int×Int×Nat->Shared->Prop}(Y:s.heap.IsSliceOf sl R I .none)(U:IsPart R lo)(T:IsPart I hi)
 (h:Q (((B0 n 0 lo:Nat):Int),1,B0 n n hi-B0 n 0 lo) s):wpAny BY A (Builtin.Slice.sliceApplied (.ref sl) (pure (n:Int))) Q E s:=by
 obtain⟨os,g,Z,B⟩:=id Y;unfold Builtin.Slice.sliceApplied Builtin.Slice.sliceFields;refine aA (aA (aZ g B (x:=R) rfl (aA (aZ g B (x:=I) rfl (aA (aZ g B (x:=.none) rfl (aB ?_)))))));refine aA (slicePart_none ?_);show wpAny _ _ (if((1:Int)==0)=true then _ else _) _ _ s;rw[if_neg As];refine aA (R9 U (aA (R9 T (aA (aB ?_)))));show wpAny _ _ (match Builtin.Slice.sliceAdjust lo hi 1 (n:Int) with|(lo,hi)=>pure (lo,(1:Int),Builtin.Slice.slicePlaces lo hi 1)) _ _ s;rw[Zq lo hi n];show wpAny _ _ (pure (((B0 n 0 lo:Nat):Int),(1:Int),Builtin.Slice.slicePlaces ((B0 n 0 lo:Nat):Int) ((B0 n n hi:Nat):Int) 1)) _ _ s;rw[ZX];exact aB h
theorem gN(xs:Array Value)(i k:Nat):((List.range k).filterMap fun(m:Nat)=>xs[((i:Int)+(m:Int)*1).toNat]?).toArray=((xs.toList.drop i).take k).toArray:=by
 have e:(fun(m:Nat)=>xs[((i:Int)+(m:Int)*1).toNat]?)=fun m=>xs[i+m]? := by
  funext m
  have:((i:Int)+(m:Int)*1).toNat=i+m:=by lia
  rw[this]
 rw[e];have:=pick_run xs i k;rw[List.filterMap_map]at this;have g:((fun x=>xs[x]?) ∘ fun x=>i+x)=fun m=>xs[i+m]?:=rfl;rw[g]at this;rw[this]
theorem Pu{t sl:Addr}{items:Array Value}{Z Y:KS}{lo hi:Option Int}{Q:AT}(B:IsTup s.heap t items)(hs:s.heap.IsSliceOf sl Z Y .none)(pl:IsPart Z lo)(pu:IsPart Y hi)
 (hw:¬(B0 items.size 0 lo=0/\B0 items.size items.size hi=items.size))
 (h:Q GM {s with heap:=s.heap.push { cls:=.type "tuple",data:=.seq ((items.toList.drop (B0 items.size 0 lo)).take (B0 items.size items.size hi-B0 items.size 0 lo)).toArray} })
 (hsz:items.size<=sizeLine):wpAny BY A (getItem (.ref t) (.ref sl)) Q E s:=by
 have g:sizeOk (.seq ((items.toList.drop (B0 items.size 0 lo)).take (B0 items.size items.size hi-B0 items.size 0 lo)).toArray):=by
  show((items.toList.drop (B0 items.size 0 lo)).take (B0 items.size items.size hi-B0 items.size 0 lo)).toArray.size<=sizeLine;rw[(D8),(MI),List.length_drop,Array.length_toList]
  lia
 have hj:B0 items.size items.size hi<=items.size:=nH _ _ (aH _) hi;obtain⟨os,I,T,hds⟩:=id hs;have U:s.TypeIs (.ref sl) "slice" := ⟨os,I,T⟩;unfold getItem
 try with_reducible refine aY ?_
 first|refine aA (aB ?_)|skip
 refine aA (wpAny_sequenceKey B.typeIs As ?_);refine aA (aa (name:=Str.ofString "__getitem__") B.typeIs PyProof.Rows.slot_tuple_getitem
  (aW PyProof.Rows.slot_tuple_getitem B.typeIs entry_tuple_getitem ?_ (args_tuple_getitem _ _)))
 show wpAny _ _ (Builtin.Tuple.tupleItemsOf (.ref t)>>=_) _ _ s;refine aA (tupleItemsOf_ B ?_);refine aA (wpAny_typeOf U ?_);rw[if_pos As];refine aA (QZ hs pl pu ?_);have R:¬((((B0 items.size 0 lo:Nat):Int)==0&&(1:Int)==1&&(B0 items.size items.size hi-B0 items.size 0 lo)==items.size)=true):=by
  intro q;rw[(MN),(MN)]at q;have q1:((B0 items.size 0 lo:Nat):Int)=0:=eq_of_beq q.1.1;have q2:B0 items.size items.size hi-B0 items.size 0 lo=items.size:=eq_of_beq q.2;exact hw ⟨by lia,by lia⟩
 show wpAny _ _ (if(((B0 items.size 0 lo:Nat):Int)==0&&(1:Int)==1&&(B0 items.size items.size hi-B0 items.size 0 lo)==items.size)=true then _ else _) _ _ s;rw[if_neg R,gN]
 first
  |exact aA (m:=Builtin.Tuple.tupleExact _) (aq (aB ⟨_,rfl,wpAny_pure h⟩) g)
  |exact aA (m:=Builtin.Tuple.tupleExact _) (aq (aA (aB (aB ⟨_,rfl,wpAny_pure h⟩))) g)
  |exact aA (aA (m:=Builtin.Tuple.tupleExact _) (aq (aB (aB ⟨_,rfl,wpAny_pure h⟩)) g))
  |exact aA (aA (m:=Builtin.Tuple.tupleExact _) (aq (aB ⟨_,rfl,wpAny_pure h⟩) g))
end
end HT
namespace L2
open PySem PySem.Spec PyProof.Rows
abbrev TO:=St->Hp->(Option Int->Hp->Prop)->Prop
def PO(X:Cx)(e:Option Expr)(t:TO):Prop :=
 ∀(pins:Cy) (s:GJ) (σ:St) (H:Hp) (Q:Option Int->Hp->Prop),Inv X pins σ H s->t σ H Q ->
  wpAny Cs X.A (evalPart e X.env) (fun u g=>∃o H',Inv X pins σ H' g/\IsPart u o/\Q o H') X.xe s
def kz:TO:=fun _ H Q=>Q none H
def qM(t:TE):TO:=fun σ H Q=>t σ H fun x g=>∃i,x=.int i/\Q (some i) g
theorem intsAre_of{ns:List Int}:∀ {us:Db},Vals (ns.map V.int) us->IntsAre us ns:=by
 induction ns with
 |nil=>intro us r;rw[List.map_nil]at r;cases r;exact .nil
 |cons n ns I=>
  intro us r;rw[(CI)]at r;cases r with
  |cons B g=>
   obtain⟨t,e⟩:=B;subst e;exact .cons n t (I g)
section
variable{X:Cx}{e:Expr}{te:TE}{lo hi:Option Expr}{tl th:TO}{pos p2:Pos}
theorem TZ:PO X none kz:=by
 intro pins s σ H Q I h;rw[evalPart_none];exact aB ⟨none,H,I,.none,h⟩
theorem S7(h:PE X e te):PO X (some e) (qM te):=by
 intro pins s σ H Q I R;rw[evalPart_some];refine BQ (h pins s σ H _ I R) fun u s1 ⟨x,U,T,g,B⟩=>?_;obtain⟨i,rfl,q⟩:=B;obtain⟨t,rfl⟩:=g;exact⟨some i,U,T,.int i t,q⟩
def WC(X:Cx)(r:V->Option Int->Option Int->Hp->VK->Prop):Prop :=
 ∀(pins:Cy) (s:GJ) (σ:St) (H:Hp) (x:V) (v B g:KS) (lo hi:Option Int) (sl:Addr) (Q:VK),Inv X pins σ H s->RelV x v->s.heap.IsSliceOf sl B g .none->IsPart B lo->IsPart g hi->r x lo hi H Q ->
  ∃T id,typeLookup (.type T) "__getitem__" = pure (some (.builtin id))/\s.TypeIs v T/\wpAny Cs X.A (getItem v (.ref sl)) (EP X pins σ Q) X.xe s
theorem WC.or{r T:V->Option Int->Option Int->Hp->VK->Prop}(h:WC X r)(h':WC X T):WC X (fun x lo hi H Q=>r x lo hi H Q\/T x lo hi H Q):=by
 intro pins s σ H x v B g lo hi sl Q I R Z Y U q;rcases q with q|q
 .exact h pins s σ H x v B g lo hi sl Q I R Z Y U q
 .exact h' pins s σ H x v B g lo hi sl Q I R Z Y U q
def uF(r:V->Option Int->Option Int->Hp->VK->Prop)(te:TE)(tl th:TO):TE:=fun σ H Q=>te σ H fun x I=>tl σ I fun l B=>th σ B fun u g=>r x l u g Q
theorem Q5{r:V->Option Int->Option Int->Hp->VK->Prop}(hr:WC X r)(he:PE X e te)(hl:PO X lo tl)(hu:PO X hi th):PE X (.Subscript e (.Slice lo hi none p2) pos) (uF r te tl th):=by
 intro pins s σ H Q I h;refine Subscript_ (BQ (he pins s σ H _ I h) fun v s1 ⟨x,H1,I1,Y,q1⟩=>?_);refine wpAny_Slice (BQ (hl pins s1 σ H1 _ I1 q1) fun R s2 ⟨l,H2,I2,pl,q2⟩=>BQ (hu pins s2 σ H2 _ I2 q2) fun B g ⟨u,U,I3,pu,Z⟩=>?_);rw[evalPart_none];refine aB ?_;have I4:Inv X pins σ U {g with heap:=g.heap.push { cls:=.type "slice",data:=.fields #[R,B,.none]} }:=I3.kept (t':=g.toks) fun b ob q=>aE _ q;obtain⟨T,id,hT,ht,hg⟩:=hr pins {g with heap:=g.heap.push { cls:=.type "slice",data:=.fields #[R,B,.none]} } σ U x v R B l u g.heap.objs.size Q I4 Y (Heap.IsSliceOf.new ..) pl pu Z;show wpAny Cs X.A (subscriptTail e (.Slice lo hi none p2) v (.ref g.heap.objs.size)) (EP X pins σ Q) X.xe {g with heap:=g.heap.push { cls:=.type "slice",data:=.fields #[R,B,.none]} };exact tail_any (ops:=[.ref g.heap.objs.size,v]) ht hT hg (by with_unfolding_all rfl)
def Ik(xs:Fa)(lo hi:Option Int):List V:=(xs.drop (HT.B0 xs.length 0 lo)).take (HT.B0 xs.length xs.length hi-HT.B0 xs.length 0 lo)
theorem MK(xs:Fa)(lo hi:Option Int):(Ik xs lo hi).length<=xs.length:=by
 unfold Ik;rw[(MI),List.length_drop]
 lia
def sU(K:At):V->Option Int->Option Int->Hp->VK->Prop:=fun x lo hi H Q=>∃a xs,x=.ref a/\BE K H a xs /\
 ¬(HT.B0 xs.length 0 lo=0/\HT.B0 xs.length xs.length hi=xs.length)/\∀p,H p=none->Q (.ref p) (upd H p (.tup (Ik xs lo hi)))
theorem pU:WC X (sU X.K):=by
 intro pins s σ H x v vl vu lo hi sl Q I T hs Y U h;obtain⟨a,xs,rfl,Z,hw,q⟩:=h;cases T;obtain⟨its,r,R,B⟩:=I.tuple Z;have g:its.toArray.size=xs.length:=by rw[(D8)];exact r.length.symm
 refine⟨"tuple",_,PyProof.Rows.slot_tuple_getitem.lookup,R.typeIs,?_⟩;refine HT.Pu R hs Y U (by rw[g];exact hw) ?_ (by rw[g];exact B);rw[g];refine⟨.ref s.heap.objs.size,_,I.laid (t':=s.toks) (o:=.tup (Ik xs lo hi)) (fun b ob q=>aE _ q) (aH _) ?_,rfl,q _ (I.BA.fresh (aH _))⟩;exact⟨aR (MK xs lo hi) B,_,(r.drop (HT.B0 xs.length 0 lo)).take (HT.B0 xs.length xs.length hi-HT.B0 xs.length 0 lo),IsTup.new _ _⟩
theorem Vals.YA{xs:Fa}{us:Db}(r:Vals xs us):us=[] ↔ xs=[]:=by
 cases r with
 |nil=>simp
 |cons _ _=>simp
end
def LJ(n:Nat)(i:Int):Option Nat:=if 0<=i then(if i<n then some i.toNat else none) else if -(n:Int)<=i then some (i+n).toNat else none
def Fu{α:Type}(xs:List α)(i:Int):Option α:=(LJ xs.length i).bind fun j=>xs[j]?
theorem YF{n:Nat}{i:Int}{j:Nat}(h:LJ n i=some j):seqIndex? i n=some j/\j<n/\-(n:Int)<=i/\i<n:=by
 unfold LJ at h;by_cases h0:0<=i
 .rw[if_pos h0]at h;by_cases g:i<n
  .rw[if_pos g]at h;have e:i.toNat=j:=ag h;exact⟨by rw[seqIndex_of h0 g,e],by lia,by lia,g⟩
  .rw[if_neg g]at h;cases h
 .rw[if_neg h0]at h;by_cases g:-(n:Int)<=i
  .rw[if_pos g]at h;have e:(i+n).toNat=j:=ag h;exact⟨by rw[seqIndex_neg AS g,e],by lia,g,by lia⟩
  .rw[if_neg g]at h;cases h
theorem Tc{α:Type}{xs:List α}{i:Int}{v:α}(h:Fu xs i=some v):∃j,seqIndex? i xs.length=some j/\xs[j]? = some v/\j<xs.length/\-(xs.length:Int)<=i/\i<xs.length:=by
 unfold Fu at h;cases e:LJ xs.length i with
 |none=>rw[e]at h;cases h
 |some j=>
  rw[e]at h;obtain⟨R,I,B,g⟩:=YF e;exact⟨j,R,h,I,B,g⟩
theorem Th{α:Type}{xs:List α}{j:Nat}{v:α}(h:xs[j]? = some v):Fu xs (j:Int)=some v:=by
 have g:j<xs.length:=(aD.mp h).1;have e:LJ xs.length (j:Int)=some j:=by
  unfold LJ;rw[if_pos AS,if_pos AS];simp
 unfold Fu;rw[e];exact h
theorem fI{α:Type}(xs:List α)(v:α):Fu (xs++[v]) (-1)=some v:=by
 have g:(xs++[v]).length=xs.length+1:=by simp
 have e:LJ (xs++[v]).length (-1)=some xs.length:=by
  unfold LJ;rw[g,if_neg As,if_pos AS]
  congr 1
  lia
 unfold Fu;rw[e];show(xs++[v])[xs.length]? = some v;simp
def TC(b:Expr):Prop:=∀o i,subscripted b false o i=operate [o,i] (getItem o i)
def QL(X:Cx)(r:R2):Prop :=
 ∀(value slice:Expr) (pins:Cy) (s:GJ) (σ:St) (H:Hp) (x y:V) (v u:KS) (Q:VK),Inv X pins σ H s->RelV x v->RelV y u->r x y H Q ->
  subscripted slice false v u=operate [v,u] (getItem v u)->wpAny Cs X.A (subscriptTail value slice v u) (EP X pins σ Q) X.xe s
def rT(X:Cx)(id:String)(r:V->List V->Hp->VK->Prop):Prop :=
 ∀(pins:Cy) (s:GJ) (σ:St) (H:Hp) (x:V) (xs:Fa) (v:KS) (us:Db) (Q:VK),Inv X pins σ H s->RelV x v->Vals xs us->r x xs H Q ->
  wpAny Cs X.A (call (.builtin id) (v::us)) (EP X pins σ Q) X.xe s
section
variable{X:Cx}{a b:Expr}{ta tb:TE}{pos:Pos}
theorem QL.or{r R:R2}(h:QL X r)(h':QL X R):QL X (fun x y H Q=>r x y H Q\/R x y H Q):=by
 intro value slice pins s σ H x y v u Q I B g q T;rcases q with q|q
 .exact h value slice pins s σ H x y v u Q I B g q T
 .exact h' value slice pins s σ H x y v u Q I B g q T
theorem Bz{r:R2}(T:QL X r)(ha:PE X a ta)(U:PE X b tb)(R:TC b):PE X (.Subscript a b pos) (cy r ta tb):=by
 intro pins s σ H Q I h;exact Subscript_ (gg ha U I h fun v u s2 x y Z Y B g q=>T a b pins s2 σ Z x y v u Q Y B g q (R _ _))
def pH(K:At):R2:=fun x y H Q=>∃p xs i v,x=.ref p/\y=.int i/\Ax K H p xs/\Fu xs i=some v/\Q v H
def fg(K:At):R2:=fun x y H Q=>∃p xs i v,x=.ref p/\y=.int i/\BE K H p xs/\Fu xs i=some v/\Q v H
def og:R2:=fun x y H Q=>∃z i c,x=.str z/\y=.int i/\z.length<=sizeLine/\Fu z.cps.toList i=some c/\Q (.str ⟨#[c]⟩) H
theorem M8:QL X (pH X.K):=by
 intro value slice pins s σ H x y v u Q I rx ry h U;obtain⟨p,xs,i,z,rfl,rfl,hq,he,q⟩:=h;cases rx;obtain⟨t,rfl⟩:=ry;obtain⟨its,r,R,hz⟩:=I.list hq;obtain⟨j,g,h2,h3,h4,h5⟩:=Tc he;obtain⟨w,Y,B⟩:=r.get h2;have hl:=r.length;have hn:=Oe;have fin:EP X pins σ Q w s:=⟨z,H,I,B,q⟩;by_cases h0:0<=i
 .have T:i.toNat=j:=by
   rw[seqIndex_of h0 h5]at g;exact ag g
  exact item_listR R.isList h0 AS (by rw[T];simpa using Y) fin U
 .have T:(i+(its.toArray.size:Int)).toNat=j:=by
   rw[seqIndex_neg AS h4]at g;rw[(D8),<-hl];exact ag g
  exact subscriptTail_builtinR (x:=w) R.isList.typeIs slot_list_getitem.lookup
   (wpAny_getItem_list_neg (Q:=fun r Z=>r=w/\EP X pins σ Q r Z) R.isList AS (by rw[(D8)]<;>lia) AS (by rw[T];simpa using Y) ⟨rfl,fin⟩) U
theorem B5:QL X (fg X.K):=by
 intro value slice pins s σ H x y v u Q I U T h Y;obtain⟨p,xs,i,z,rfl,rfl,Z,he,q⟩:=h;cases U;obtain⟨t,rfl⟩:=T;obtain⟨its,r,B,hz⟩:=I.tuple Z;obtain⟨j,h1,h2,h3,h4,h5⟩:=Tc he;obtain⟨w,ew,g⟩:=r.get h2;have hl:=r.length;have hn:=Oe;have fin:EP X pins σ Q w s:=⟨z,H,I,g,q⟩;exact subscriptTail_builtinR (x:=w) B.typeIs slot_tuple_getitem.lookup
  (getItem_tuple (j:=j) (Q:=fun r R=>r=w/\EP X pins σ Q r R) B AS AS (by rw[(D8),<-hl];exact h1) (by simpa using ew) ⟨rfl,fin⟩) Y
theorem oP:QL X og:=by
 intro value slice pins s σ H x y v u Q I R B h T;obtain⟨z,i,c,rfl,rfl,hz,Y,q⟩:=h;obtain⟨t,rfl⟩:=R;obtain⟨t',rfl⟩:=B;obtain⟨j,g,h2,h3,h4,Z⟩:=Tc Y;have U:z.cps.toList.length=z.length:=by simp[Str.length]
 rw[U]at g h4 Z;have hn:=Oe;exact tail_any (typeIs_str s z t) slot_str_getitem.lookup (getItem_str (c:=c) (by
  have e1:decide (i < -(2^63:Int))=false:=bO AS;have e2:decide (i >= 2^63)=false:=bO AS;rw[e1,e2,Bool.or_false]) (by rw[g];simpa using h2) ⟨.str ⟨#[c]⟩,H,I.tok _,⟨_,rfl⟩,q⟩) T
def t8(K:At):R2:=fun x y H Q=>pH K x y H Q\/fg K x y H Q\/og x y H Q
theorem nW:QL X (t8 X.K):=M8.or (B5.or oP)
theorem Z6(its:Db)(n j:Nat)(u:KS):Obj.mapSeq (·.setIfInBounds j u) { cls:=.type "list",data:=.seq its.toArray n}={ cls:=.type "list",data:=.seq (its.set j u).toArray n}:=by
 simp[Obj.mapSeq]
theorem Inv.lst{pins:Cy}{σ:St}{H:Hp}{s:GJ}{p:Addr}{xs:Fa}(I:Cl)(h:H p=some (.lst xs)) :
  ∃(its:Db) (n:Nat),Vals xs its/\s.heap.get? p=some { cls:=.type "list",data:=.seq its.toArray n}/\xs.length<=sizeLine:=by
 obtain⟨z,its,n,r,e⟩:=I.BA p _ h;exact⟨its,n,r,e,z⟩
theorem Inv.pY{pins:Cy}{σ:St}{H:Hp}{s:GJ}{p:Addr}{xs ys:Fa}{its its':Db}{n n':Nat}{f:Obj->Obj}(I:Cl)(h:H p=some (.lst xs))
 (B:s.heap.get? p=some { cls:=.type "list",data:=.seq its.toArray n})(g:f { cls:=.type "list",data:=.seq its.toArray n}={ cls:=.type "list",data:=.seq its'.toArray n'})(r:Vals ys its')(hz:ys.length<=sizeLine)(t:Nat) :
  Inv X pins σ (upd H p IS) {s with heap:=s.heap.update p f,toks:=t}:=by
 have e:(s.heap.update p f).get? p=some { cls:=.type "list",data:=.seq its'.toArray n'}:=by
  rw[Heap.get?_update_self f B (by rw[g]<;>rfl),g]
 refine I.write (x:=p) (e:=p) (by rw[h];trivial) (.inl rfl) (fun b u R q=>(Heap.get?_update_other _ _ (Ne.symm R)).trans q) ⟨_,e⟩ ?_;exact⟨hz,its',n',r,e⟩
def iq:V->V->V->Hp->(Hp->Prop)->Prop:=fun o i v H Q=>∃p xs k j,o=.ref p/\i=.int k/\H p=some (.lst xs)/\LJ xs.length k=some j/\Q (upd H p (.lst (xs.set j v)))
theorem set_list:gu X iq:=by
 intro pins s σ H o i v ov iv u Q I ro ri rv h;obtain⟨p,xs,k,j,rfl,rfl,U,hj,q⟩:=h;cases ro;obtain⟨t,rfl⟩:=ri;obtain⟨its,n,r,B,hz⟩:=I.lst U;obtain⟨g,h2,Z,Y⟩:=YF hj;have R:=r.length;have hn:=Oe;have I':Inv X pins σ (upd H p (.lst (xs.set j v))) {s with heap:=s.heap.update p (Obj.mapSeq (·.setIfInBounds j u))} :=
  I.pY U B (Z6 its n j u) (r.set rv j) (by rw[List.length_set];exact hz) s.toks
 by_cases h0:0<=k
 .have T:k.toNat=j:=by
   rw[seqIndex_of h0 Y]at g;exact ag g
  exact PySem.W.ki_setAt B h0 AS (by rw[(D8),<-R];exact Y) (by rw[T];exact⟨_,I',q⟩)
 .have T:(k+(its.toArray.size:Int)).toNat=j:=by
   rw[seqIndex_neg AS Z]at g;rw[(D8),<-R];exact ag g
  exact PySem.W.ki_setBack B AS (by rw[(D8),<-R];exact Z) AS (by rw[T];exact⟨_,I',q⟩)
theorem Vf(lo hi:Option Int)(n:Nat):(sliceBounds lo hi none n).1=((HT.B0 n 0 lo:Nat):Int)/\(sliceBounds lo hi none n).2.1=((HT.B0 n n hi:Nat):Int)/\(sliceBounds lo hi none n).2.2=1:=by
 refine⟨?_,?_,rfl⟩
 .cases lo with
  |none=>simp[sliceBounds,HT.B0]
  |some i=>
   simp only[sliceBounds,HT.B0,Option.getD_none,show(1:Int) > 0 by decide,if_true];by_cases h:i<0
   .simp only[h,if_true]<;>lia
   .simp only[h,if_false]<;>lia
 .cases hi with
  |none=>simp[sliceBounds,HT.B0]
  |some i=>
   simp only[sliceBounds,HT.B0,Option.getD_none,show(1:Int) > 0 by decide,if_true];by_cases h:i<0
   .simp only[h,if_true]<;>lia
   .simp only[h,if_false]<;>lia
theorem U0(its:Db)(lo hi:Option Int):slicePick its.toArray lo hi none=((its.drop (HT.B0 its.length 0 lo)).take (HT.B0 its.length its.length hi-HT.B0 its.length 0 lo)).toArray:=by
 obtain⟨I,B,g⟩:=Vf lo hi its.toArray.size;unfold slicePick;rw[I,B,g];simp only[sliceRange_one,pick_run,List.size_toArray]<;>rfl
def rY(K:At):V->Option Int->Option Int->Hp->VK->Prop:=fun x lo hi H Q=>∃a xs,x=.ref a/\Ax K H a xs/\∀p,H p=none->Q (.ref p) (upd H p (.lst (Ik xs lo hi)))
theorem TJ:WC X (rY X.K):=by
 intro pins s σ H x v vl vu lo hi sl Q I R hs U T h;obtain⟨a,xs,rfl,Z,q⟩:=h;cases R;obtain⟨its,r,B,Y⟩:=I.list Z;have g:=r.length;refine⟨"list",_,slot_list_getitem.lookup,B.isList.typeIs,?_⟩;refine wpAny_getItem_list_slice B.isList hs U T .none CH ?_ (by rw[(D8)]<;>lia);rw[U0,<-g];refine⟨.ref s.heap.objs.size,_,I.laid (t':=s.toks) (o:=.lst (Ik xs lo hi)) (fun b ob q=>aE _ q) (aH _) ?_,rfl,q _ (I.BA.fresh (aH _))⟩;exact⟨aR (MK xs lo hi) Y,_,0,(r.drop (HT.B0 xs.length 0 lo)).take (HT.B0 xs.length xs.length hi-HT.B0 xs.length 0 lo),Heap.get?_push_size _ rfl⟩
theorem C2:FV X (.builtin "len") (fun xs H Q=>∃p ys,xs=[.ref p]/\(Ax X.K H p ys\/BE X.K H p ys)/\Q (.int ys.length) H):=by
 intro pins s σ H xs us Q I r h;obtain⟨p,ys,rfl,B,q⟩:=h;obtain⟨u,rfl,U⟩:=vals1 r;cases U;have hn:=Oe;rcases B with B|B
 .obtain⟨its,R,T,Y⟩:=I.list B;have g:=R.length;exact Calls.call_len_list T.isList (by simp only[List.size_toArray]<;>lia) ⟨.int ys.length,H,I.tok _,⟨s.toks+1,by rw[(D8),g]⟩,q⟩
 .obtain⟨its,R,T,Y⟩:=I.tuple B;have g:=R.length;exact len_tuple T (by simp only[List.size_toArray]<;>lia) ⟨.int ys.length,H,I.tok _,⟨s.toks+1,by rw[(D8),g]⟩,q⟩
theorem FV.or{f:KS}{r g:List V->Hp->VK->Prop}(h:FV X f r)(h':FV X f g):FV X f (fun xs H Q=>r xs H Q\/g xs H Q):=by
 intro pins s σ H xs us Q I rs q;rcases q with q|q
 .exact h pins s σ H xs us Q I rs q
 .exact h' pins s σ H xs us Q I rs q
theorem XE:FV X (.type "list") (fun xs H Q=>∃p ys,xs=[.ref p]/\(Ax X.K H p ys\/BE X.K H p ys)/\∀l,H l=none->Q (.ref l) (upd H l IS)):=by
 intro pins s σ H xs us Q I r h;obtain⟨p,ys,rfl,T,q⟩:=h;obtain⟨u,rfl,rx⟩:=vals1 r;cases rx;have fin:∀(its:Db),Vals ys its->ys.length<=sizeLine->∀(h':Heap) (B:Nat),(∀b o',s.heap.get? b=some o'->h'.get? b=some o') ->
   h'.get? s.heap.objs.size=some { cls:=.type "list",dict:=none,data:=.seq its.toArray B,slots:=#[]}->EP X pins σ Q GM {s with heap:=h'}:=fun its g R h' B kp e=>
  ⟨.ref s.heap.objs.size,_,I.laid (t':=s.toks) kp (aH _) (show Cu X.prog X.w _ h' _ IS from⟨R,its,B,g,e⟩),rfl,q _ (I.BA.fresh (aH _))⟩
 rcases T with T|T
 .obtain⟨its,g,Y,R⟩:=I.list T;have U:=g.length;obtain⟨o,Z,hc,n,hd⟩:=Y.isList;exact call_list_seq p (.inl rfl) Z hc hd (fun h' B kp e=>fin its g R h' B kp e) (by simp only[List.size_toArray]<;>lia)
 .obtain⟨its,g,Y,R⟩:=I.tuple T;have U:=g.length;obtain⟨o,Z,hc,n,hd⟩:=Y;exact call_list_seq p (.inr rfl) Z hc hd (fun h' B kp e=>fin its g R h' B kp e) (by simp only[List.size_toArray]<;>lia)
theorem Us:FV X Hq (fun xs H Q=>∃p ys,xs=[.ref p]/\((Ax X.K H p ys/\∀l,H l=none->Q (.ref l) (upd H l (.tup ys)))\/(BE X.K H p ys/\Q (.ref p) H))):=by
 intro pins s σ H xs us Q I r h;obtain⟨p,ys,rfl,h⟩:=h;obtain⟨u,rfl,rx⟩:=vals1 r;cases rx;rcases h with ⟨R,q⟩|⟨R,q⟩
 .obtain⟨its,g,B,T⟩:=I.list R;have U:=g.length;refine call_tuple_list B.isList (fun h' kp=>?_) (by simp only[List.size_toArray]<;>lia);have Y:Inv X pins σ H {s with heap:=h'}:=I.kept (t':=s.toks) kp;have I2:Inv X pins σ (upd H h'.objs.size (.tup ys)) {s with heap:=h'.push { cls:=.type "tuple",data:=.seq its.toArray} } :=
   Y.laid (t':=s.toks) (fun b o e=>aE _ e) (aH _) (show Cu X.prog X.w _ _ _ (.tup ys) from⟨T,its,g,IsTup.new _ _⟩)
  exact⟨.ref h'.objs.size,_,I2,rfl,q _ (Y.BA.fresh (aH _))⟩
 .obtain⟨its,g,B,T⟩:=I.tuple R;exact call_tuple_same B ⟨.ref p,H,I,rfl,q⟩
def lP(K:At)(T:String)(x:V)(H:Hp):Prop:=match x with
 |.str _=>T = "str"
 |.int _=>T = "int"
 |.ref p=>(T = "list" /\ ∃xs,Ax K H p xs)\/(T = "tuple" /\ ∃o,K.lookup p=some o/\o.cls=.type "tuple" /\ o.dict=none) \/
   (T = "dict" /\((∃kvs,H p=some (.dK kvs))\/∃kvs,H p=some (.dT kvs)))\/(T = "set" /\ ∃S n,H p=some (.set S n))
 |_=>False
theorem dW{pins:Cy}{σ:St}{H:Hp}{s:GJ}{T:String}{x:V}{v:KS}(I:Cl)(r:RelV x v)(ty:lP X.K T x H) :
  s.TypeIs v T/\∀a,v=.ref a->∃ob,s.heap.get? a=some ob/\ob.dict=none:=by
 cases x with
 |str z=>
  obtain⟨t,rfl⟩:=r;cases (show T = "str" from ty);exact⟨typeIs_str s z t,fun _ e=>nomatch e⟩
 |int i=>
  obtain⟨t,rfl⟩:=r;cases (show T = "int" from ty);exact⟨typeIs_int s i t,fun _ e=>nomatch e⟩
 |ref p=>
  cases r;rcases ty with ⟨rfl,xs,U⟩|⟨rfl,o,g,Y,hd⟩|⟨rfl,g⟩|⟨rfl,S,n,g⟩
  .obtain⟨its,_,R,_⟩:=I.list U;refine⟨R.isList.typeIs,fun a e=>?_⟩;cases e;obtain⟨o,n,e,c,hd,_⟩:=R;exact⟨o,e,hd⟩
  .refine⟨⟨o,I.Jx p o g,Y⟩,fun a e=>?_⟩;cases e;exact⟨o,I.Jx _ o g,hd⟩
  .have z:∃o,s.heap.get? p=some o/\o.ExactDict:=by
    rcases g with ⟨kvs,g⟩|⟨kvs,g⟩
    .obtain⟨_,_,_,_,o,_,_,e,ex,_⟩:=I.BA p _ g;exact⟨o,e,ex⟩
    .obtain⟨_,_,_,_,o,_,_,e,ex,_⟩:=I.BA p _ g;exact⟨o,e,ex⟩
   obtain⟨o,e,ex⟩:=z;refine⟨⟨o,e,ex.1⟩,fun a B=>?_⟩;cases B;exact⟨o,e,ex.2.1⟩
  .obtain⟨o,_,_,_,e,ex,_⟩:=I.BA p _ g;refine⟨⟨o,e,ex.1⟩,fun a B=>?_⟩;cases B;exact⟨o,e,ex.2.1⟩
 |_=>exact False.elim ty
def su(K:At)(T:String)(r:V->List V->Hp->VK->Prop)(B:TE):TE:=fun σ H Q=>B σ H fun x g=>lP K T x g/\r x [] g Q
def oK(K:At)(T:String)(r:V->List V->Hp->VK->Prop)(B:TE)(t:TA):TE:=fun σ H Q=>B σ H fun x g=>lP K T x g/\t σ g fun xs I=>r x xs I Q
variable{o e:Expr}{es:List Expr}{to:TE}{t:TA}{name:Str}{apos cpos:Pos}{T id:String}{r:V->List V->Hp->VK->Prop}
theorem mz(pa:PlainAttrs T)(slot:Slot T name id)(R:typeOf (.builtin id)=pure (.type "method_descriptor"))(hm:rT X id r)(ho:PE X o to)
 (B:attributeBase o name X.env (eval o X.env)=eval o X.env:=by rfl)(g:(apos.endLine==cpos.line)=true:=by rfl):PE X (.Call (.Attribute o name apos) [] [] cpos) (su X.K T r to):=by
 intro pins s σ H Q I h;refine wpAny_Call_method0_late B g (BQ (ho pins s σ H _ I h) fun v s1 ⟨x,H1,Y,U,ty,Z⟩=>?_);obtain⟨h1,h2⟩:=dW Y U ty;exact⟨T,id,pa,slot,R,h1,h2,Calls.callWith_builtin rfl (PySem.evalArgs_none (hm pins s1 σ H1 x [] v [] Q Y U .nil Z))⟩
theorem Ja(pa:PlainAttrs T)(slot:Slot T name id)(Y:typeOf (.builtin id)=pure (.type "method_descriptor"))(hm:rT X id r)(ho:PE X o to)(ha:PA X (e::es) t)
 (R:attributeBase o name X.env (eval o X.env)=eval o X.env:=by rfl)
 (U:((backTo cpos (starEach (e::es) X.env)).all (fun x=>!x.1)&&(backToKw cpos (keywordEach [] X.env)).all (fun x=>x.1.isSome)
   && decide ((e::es).length+([]:List Keyword).length+(if([]:List Keyword).isEmpty then 0 else 1)<30))=true:=by rfl)
 (B:(apos.endLine==cpos.line)=true:=by rfl)(hs:starEach (e::es) X.env=(false,eval e X.env)::starEach es X.env:=by rfl)(g:(backTo cpos (starEach es X.env)).any (·.1)=false:=by rfl) :
  PE X (.Call (.Attribute o name apos) (e::es) [] cpos) (oK X.K T r to t):=by
 intro pins s σ H Q I h;refine wpAny_Call_method_late R U B rfl (BQ (ho pins s σ H _ I h) fun v s1 ⟨x,H1,I1,Z,ty,q1⟩=>?_);obtain⟨h1,h2⟩:=dW I1 Z ty;refine⟨T,id,pa,slot,Y,h1,h2,?_⟩;have hA:=ha cpos pins s1 σ H1 _ I1 q1;rw[hs]at hA ⊢;refine Calls.callWith_builtin (by show(false||(backTo cpos (starEach es X.env)).any (·.1))=false;rw[g]<;>rfl) (Calls.evalArgs_plain ?_);exact BQ hA fun us s2 ⟨vs,H2,I2,r2,q2⟩=>hm pins s2 σ H2 x vs v us Q I2 Z r2 q2
end
def pQ(X:Cx)(id:String)(r:V->List V->Hp->VK->Prop):Prop :=
 ∀(pins:Cy) (s:GJ) (σ:St) (H:Hp) (x:V) (xs:Fa) (v:KS) (us:Db) (Q:VK),Inv X pins σ H s->RelV x v->Vals xs us->r x xs H Q ->
  wpAny Cs X.A (call (.builtin id) (v::us)) (EP X pins σ Q) X.xe s
theorem Vals.one:∀ {x:V} {us:Db},Vals [x] us->∃u,us=[u]/\RelV x u
 |_,_,.cons r .nil=>⟨_,rfl,r⟩
theorem Vals.two:∀ {x y:V} {us:Db},Vals [x,y] us->∃u v,us=[u,v]/\RelV x u/\RelV y v
 |_,_,_,.cons r (.cons q .nil)=>⟨_,_,rfl,r,q⟩
theorem Vals.zero:∀ {us:Db},Vals [] us->us=[]
 |_,.nil=>rfl
theorem Vals.dropLast{xs:Fa}{us:Db}(h:Vals xs us):Vals xs.dropLast us.dropLast:=by
 induction h with
 |nil=>exact .nil
 |cons r t g=>
  cases t with
  |nil=>exact .nil
  |cons q B=>exact .cons r g
theorem Vals.rep{xs:Fa}{us:Db}(h:Vals xs us):∀k:Nat,Vals (List.replicate k xs).flatten (List.replicate k us).flatten
 |0=>.nil
 |k+1=>by
  rw[(PD),(PD),(Qx),(Qx)];exact Vals.append h (Vals.rep h k)
theorem Zn{α:Type}(l:List α):l.eraseIdx (l.length-1)=l.dropLast:=by
 induction l with
 |nil=>rfl
 |cons a r g=>
  cases r with
  |nil=>rfl
  |cons b r=>
   have e:(a::b::r).length-1=((b::r).length-1)+1:=by
    have I:(a::b::r).length=r.length+2:=rfl;have B:(b::r).length=r.length+1:=rfl
    lia
   rw[e,List.eraseIdx_cons_succ,g]
   all_goals rfl
theorem foldl_rep(its:Db):∀(k:Nat) (g:Db),
  List.foldl (fun x1 B=>x1++B) g.toArray (List.replicate k its.toArray)=(g++(List.replicate k its).flatten).toArray
 |0,g=>by simp
 |k+1,g=>by
  have e:g.toArray++its.toArray=(g++its).toArray:=by simp
  have I:(g++its)++(List.replicate k its).flatten=g++(List.replicate (k+1) its).flatten:=by
   rw[(PD),(Qx),List.append_assoc]
  rw[<-I,<-foldl_rep its k (g++its),<-e,(PD),List.foldl_cons]
section
variable{X:Cx}{pins:Cy}{σ:St}{H:Hp}{s:GJ}{l:Addr}{xs ys:Fa}
theorem Inv.gC{its its':Db}{n:Nat}{f:Array Value->Array Value}{t':Nat}(I:Cl)(U:H l=some (.lst xs))
 (e:s.heap.get? l=some { cls:=.type "list",data:=.seq its.toArray n})(R:f its.toArray=its'.toArray)(g:Vals ys its')(hz:ys.length<=sizeLine) :
  Inv X pins σ (upd H l IS) {s with heap:=s.heap.update l (Obj.mapSeq f),toks:=t'}:=by
 have q:=PySem.IsL.update e f;rw[R]at q;refine I.write (x:=l) (e:=l) (by rw[U];exact trivial) (.inl rfl) (fun Y u T B=>(Heap.get?_update_other s.heap (Obj.mapSeq f) (Ne.symm T)).trans B) ⟨_,q⟩ ?_;exact⟨hz,its',_,g,q⟩
theorem Inv.nB{its:Db}{t':Nat}(I:Cl)(g:Vals ys its)(hz:ys.length<=sizeLine) :
  Inv X pins σ (upd H s.heap.objs.size IS) {s with heap:=s.heap.push { cls:=.type "list",data:=.seq its.toArray},toks:=t'} :=
 I.laid (fun _ _ q=>aE _ q) (aH _) ⟨hz,its,0,g,Heap.get?_push_size _ rfl⟩
theorem Inv.fresh(I:Cl):H s.heap.objs.size=none:=I.BA.fresh (aH _)
theorem Inv.Q9(I:Cl)(g:H l=some (.lst xs)):xs.length<=sizeLine/\∃(its:Db) (n:Nat),Vals xs its/\xs.length=its.length/\s.heap.get? l=some { cls:=.type "list",data:=.seq its.toArray n}:=by
 obtain⟨z,its,n,r,e⟩:=I.BA l _ g;exact⟨z,its,n,r,r.length,e⟩
theorem XC{n:Nat}(h:n<=sizeLine):Builtin.List.listTooLong n=false:=by
 unfold Builtin.List.listTooLong;exact bO AS
end
section
variable{X:Cx}
def Yz:V->List V->Hp->VK->Prop:=fun x vs H Q=>∃l xs y,x=.ref l/\vs=[y]/\H l=some (.lst xs)/\xs.length<sizeLine/\Q .CL (upd H l (.lst (xs++[y])))
theorem IE:pQ X "list.append" Yz:=by
 intro pins s σ H x vs v us Q I R T h;obtain⟨l,xs,y,rfl,rfl,B,Y,q⟩:=h;cases R;obtain⟨u,rfl,U⟩:=T.one;obtain⟨z,its,n,r,Z,e⟩:=I.Q9 B;refine call_meets F.slot_list_append ⟨_,e,rfl⟩ F.entry_list_append (F.args_list_append_2 _ _) (PySem.list_append l its.toArray n u (by rw[(D8)];lia)) ⟨e,?_⟩;refine⟨.CL,_,I.gC (its':=its++[u]) B e CH (r.append (.cons U .nil)) ?_,rfl,q⟩;rw[(Dk),List.length_singleton]
 lia
def X7:V->List V->Hp->VK->Prop:=fun x vs H Q=>∃l b xs g,x=.ref l/\vs=[.ref b]/\H l=some (.lst xs)/\H b=some (.lst g)/\xs.length+g.length<=sizeLine/\Q .CL (upd H l (.lst (xs++g)))
theorem Jr:pQ X "list.extend" X7:=by
 intro pins s σ H x vs v us Q I Y Z h;obtain⟨l,b,xs,zs,rfl,rfl,U,hB,hz,q⟩:=h;cases Y;obtain⟨u,rfl,ru⟩:=Z.one;cases ru;obtain⟨z,its,n,r,hl,e⟩:=I.Q9 U;obtain⟨z2,g,n2,r2,hl2,e2⟩:=I.Q9 hB;have R:its.toArray.size+g.toArray.size<=sizeLine:=by rw[(D8),(D8)];lia
 have B:¬(!its.toArray.isEmpty&&Builtin.List.listTooLong (its.toArray.size+g.toArray.size))=true:=by
  rw[XC R,Bool.and_false];exact aJ
 refine call_meets F.slot_list_extend ⟨_,e,rfl⟩ F.entry_list_extend (F.args_list_extend_2 _ _)
  (AutoSeq1.list_extend_list_list_0 l its.toArray n b g.toArray n2 B (by rw[(D8)];lia) AS) ⟨e,e2,?_⟩
 refine⟨.CL,_,I.gC (its':=its++g) U e CH (r.append r2) ?_,rfl,q⟩;rw[(Dk)]
 lia
def sr:V->List V->Hp->VK->Prop:=fun x vs H Q=>∃l xs y,x=.ref l/\vs=[]/\H l=some (.lst xs)/\xs[xs.length-1]? = some y/\Q y (upd H l (.lst xs.dropLast))
theorem nU:pQ X "list.pop" sr:=by
 intro pins s σ H x vs v us Q I U Y h;obtain⟨l,xs,y,rfl,rfl,T,hy,q⟩:=h;cases U;have B:=Y.zero;subst B;obtain⟨z,its,n,r,hl,e⟩:=I.Q9 T;obtain⟨u,hu,Z⟩:=r.get hy;have g:its.toArray[its.toArray.size-1]? = some u:=by
  show its.toArray[its.length-1]? = some u;rw[<-Array.getElem?_toList,<-hl];exact hu
 refine call_meets F.slot_list_pop ⟨_,e,rfl⟩ F.entry_list_pop (F.args_list_pop_1 _) (MeetsSeq.list_pop_last l its.toArray n u g (by rw[(D8)];lia)) ⟨e,?_⟩;refine⟨y,_,I.gC (its':=its.dropLast) T e ?_ r.dropLast ?_,Z,q⟩
 .show its.toArray.eraseIdxIfInBounds (its.toArray.size-1)=its.dropLast.toArray;rw[(D8),List.eraseIdxIfInBounds_toArray,Zn]
 .rw[List.length_dropLast]
  lia
def tK:R2:=fun x y H Q=>∃l b xs g,x=.ref l/\y=.ref b/\H l=some (.lst xs)/\H b=some (.lst g)/\xs.length+g.length<=sizeLine/\∀p,H p=none->Q (.ref p) (upd H p (.lst (xs++g)))
theorem de:Dg X (binaryOp .Add) tK:=by
 intro pins s σ H x y v u Q I R B h;obtain⟨l,b,xs,zs,rfl,rfl,Y,Z,hz,q⟩:=h;cases R;cases B;obtain⟨z,its,n,r,hl,e⟩:=I.Q9 Y;obtain⟨z2,g,n2,T,U,e2⟩:=I.Q9 Z;refine PySem.P.add_list e e2 ?_ (by rw[(D8),(D8)];lia);have ea:its.toArray++g.toArray=(its++g).toArray:=by simp
 rw[ea];exact⟨.ref _,_,I.nB (t':=s.toks) (r.append T) (by rw[(Dk)];lia),rfl,q _ I.fresh⟩
def tP:R2:=fun x y H Q=>∃l k xs,x=.ref l/\y=.int k/\H l=some (.lst xs)/\-(2^63)<=k/\k<2^63/\xs.length*k.toNat<=sizeLine /\
 ∀p,H p=none->Q (.ref p) (upd H p (.lst (List.replicate k.toNat xs).flatten))
theorem len_rep{α:Type}(xs:List α)(k:Nat):(List.replicate k xs).flatten.length=k*xs.length:=by
 induction k with
 |zero=>simp
 |succ k g=>rw[(PD),(Qx),(Dk),g,Nat.succ_mul,Nat.add_comm]
theorem eC:Dg X (binaryOp .Mult) tP:=by
 intro pins s σ H x y v u Q I rx ry h;obtain⟨l,k,xs,rfl,rfl,hH,h1,h2,hz,q⟩:=h;cases rx;obtain⟨t,rfl⟩:=ry;obtain⟨z,its,n,r,hl,e⟩:=I.Q9 hH;have R:its.toArray.size*k.toNat<=sizeLine:=by rw[(D8),<-hl];exact hz
 have Z:¬its.toArray.size*k.toNat > (2^63-1) / 8:=by
  have:(sizeLine:Nat)<=(2^63-1) / 8:=by decide
  lia
 have Y:¬(!Builtin.List.listFitsIndex k)=true:=by
  rw[fitsIndex_both h1 h2];exact aJ
 have g:¬Builtin.List.listTooLong (its.toArray.size*k.toNat)=true:=by
  rw[XC R];exact aJ
 have B:List.foldl (fun x1 x2=>x1++x2) #[] (List.replicate (if its.toArray.isEmpty=true then 0 else k.toNat) its.toArray)=(List.replicate k.toNat its).flatten.toArray:=by
  have f0:∀m:Nat,List.foldl (fun x1 x2=>x1++x2) #[] (List.replicate m its.toArray)=(List.replicate m its).flatten.toArray:=fun m=>by
   have:=foldl_rep its m [];rw[List.nil_append]at this;exact this
  rw[f0];cases its with
  |nil=>simp
  |cons a r'=>rw[if_neg CH]
 refine wpAny_binaryOp_repeat_ref (T := "list") (U := "int") As ⟨_,e,rfl⟩ (fun s'=>typeIs_int s' k t) noFill_list_mul F.fills_int_mul F.slot_int_rmul repeat_list F.slot_int_index.lookup
  (call_meets F.slot_int_rmul (typeIs_int s k t) F.entry_int_rmul (F.args_int_rmul_2 _ _) (int___rmul___int_list k t l its.toArray n)
   ⟨e,rfl,⟨_,e,rfl⟩,call_meets F.slot_list_mul ⟨_,e,rfl⟩ F.entry_list_mul (F.args_list_mul_2 _ _) (AutoListH.list___mul___list_int_3 l its.toArray n k t Y Z g) ⟨e,?_⟩⟩)
 rw[B];exact⟨.ref _,_,I.nB (t':=s.toks) (r.rep k.toNat) (by rw[len_rep,Nat.mul_comm];exact hz),rfl,q _ I.fresh⟩
end
end L2
namespace Att
open PySem PySem.W PySem.Calls PyProof.Rows
theorem Sb{P:Params}{h:Heap}:∀(ns:List Int) (vs:Db),WellAll P h vs (ns.map WData.int)->IntsAre vs ns:=by
 intro ns
 induction ns with
 |nil=>
  intro vs w;rw[List.map_nil]at w;cases w;exact .nil
 |cons n ns g=>
  intro vs w;rw[(CI)]at w;cases w with
  |cons a b=>
   cases a;exact .cons _ _ (g _ b)
theorem cZ{l:OpenLaw}{n:Nat}(hn:l.most=some n){P:Params}{h:Heap}{args:List WData}{vals:Db}
 (g:l.row.toRowW.claim.pre args=true)(U:WellAll P h vals args) :
  ∃a vs ns,vals=[Value.ref a]/\args=[WData.list (ns.map WData.int)]/\h.get? a=some { cls:=.type "list",data:=.seq vs.toArray}/\IntsAre vs ns/\ns.length<=n:=by
 have Y:WShape.hasAll [] args [.list .int]=true:=(pre_splitW g).1;have Z:l.pre.holds [] { args:=args}=true:=(pre_splitW g).2;obtain⟨d,r,rfl,h1,h2⟩:=hasAllW_cons Y;obtain rfl:=hasAllW_nil h2;obtain⟨xs,rfl,h3⟩:=hasW_list h1;obtain⟨ns,rfl⟩:=items_int h3;have B:ns.length<=n:=by
  unfold OpenLaw.pre at Z;have T:(WTm.not (.lt (.lit (.int (n:Int))) (.len (.arg 0)))).holds [] { args:=[.list (ns.map .int)]}=true:=by
   have T:=(holds_andW Z).1;rw[hn]at T;exact T
  have R:=condW_of T (w_not (w_lt w_lit (w_len_list (w_arg rfl))));rw[(BW)]at R;refine Nat.le_of_not_lt fun q=>?_;have q':(n:Int)<((ns.length:Nat):Int):=by lia
  first
   |(rw[decide_eq_true q']at R;exact absurd R As)
   |(simp at R;lia)
 cases U with
 |cons w1 w2=>
  cases w2;cases w1 with
  |list ho I=>exact⟨_,_,ns,rfl,rfl,ho,Sb ns _ I,B⟩
theorem eV(l:OpenLaw)(args:List WData):l.row.toRowW.claim.post args (.bool true) args=true :=
 postW_of (r:=l.row.toRowW) (X:=(true==true))
  (show WShape.has [] (.bool true) .bool=true by first|rfl|decide|simp[WShape.has,WShape.arms,WShape.armsAll])
  (show(WTm.eq .res (.lit (.bool true))).value [] { args:=args,res:=some (.bool true),after:=args}=some (.bool (true==true)) from w_eq_bool (w_res rfl) w_lit) rfl
theorem Xn{l:OpenLaw}{n:Nat}{q:G8}{loose:KP}{XP:(Str->Option Value)->Heap->Prop}{YP:World->Heap->Prop}{d:DefRec}
 (hn:l.most=some n)(hdf:d.params.defaults=[])
 (call:∀(w:Id) (s₀ g:GJ) (mg mb:Eu) (T:Addr) (o:Obj) (pm U doc:KS) (a:Addr) (vs:Db) (ns:List Int),
   Ground q loose [] XP w s₀ mg mb g.heap->YP w g.heap ->
   g.heap.get? T=some o->o.data=.func (docDef d.name d.params d.body d.scope pm U doc)->g.heap.CodeRec U d.name->mg d.name=some (.ref T) ->
   g.heap.get? a=some { cls:=.type "list",data:=.seq vs.toArray}->IntsAre vs ns->ns.length<=n->g.gens=#[] ->
   codeAny (model l.prog w) callerA (.call (.ref T) ⟨[.ref a],[]⟩) (fun r s'=>r=.ok (.ret (.bool true))/\OldK g.heap s'.heap/\s'.os=g.os/\AllBare s'.gens) g) :
  WalkO q loose XP YP l.row.toRowW d [] (fun f vs=>PySem.call f vs):=by
 intro w s₀ g mg mb G Y T o pm U doc dV kV ho hd hcd hD hmg hg args vals as B hlay hrd Z hlo;obtain rfl:dV=.none:=Dflts.none hD hdf;obtain rfl:kV=.none:=Dflts.noKw hD;obtain⟨a,vs,ns,rfl,rfl,I,hints,R⟩:=cZ hn B Z;refine enter_call (codeAny_mono (call w s₀ g mg mb T o pm U doc a vs ns G Y ho (fd_plain hd) hcd hmg I hints R hg) fun r s' hq=>?_);obtain⟨rfl,h2,h3,h4⟩:=hq;exact⟨.inl ⟨.bool true,.bool true,[],rfl,fun _=>rfl,.bool true,eV l _,fun _=>⟨List.Pairwise.nil,fun _ hm=>(nomatch hm)⟩⟩,h2,h3,h4⟩
end Att
namespace L2
open PySem PySem.Spec PyProof.Rows
theorem UW:∀ {vs:Db} {ns:List Int},IntsAre vs ns->Vals (ns.map V.int) vs
 |_,_,.nil=>.nil
 |_,_,.cons n t h=>.cons ⟨t,rfl⟩ (UW h)
end L2
namespace L2
open PySem PySem.Spec PyProof.Rows
abbrev Ad:JC:=fun _ _ _ _ _ _=>False
abbrev E0:XK:=fun _ _ _=>False
theorem qY{X:Cx}:Passes Ad X E0:=fun _ _ _ _ _ _ _ h=>h.elim
structure YT(K:At)(x qual:Str)(st:Stmt)(f:Addr)(fd:GE):Prop where
 ex:∃(oc:KS) (od:Option Addr) (kV doc pm:KS) (an:Option Addr) (cdv ct:KS) (osl:Array (Option Value)),
  fd=PySem.W.fnOf x qual (HJ st) (Fj st) (AX st) .none kV doc pm an cdv ct/\K.lookup f=some ⟨oc,od,.func fd,osl⟩/\PySem.W.codeIn K cdv qual=true
 kp:PySem.W.keepIn K (.ref f)=true
section
variable{P:G8}{w:Id}{K:At}{mg:Eu}{base:Heap}
theorem YT.ok{x qual:Str}{st:Stmt}{f:Addr}{fd:GE}{N ps:KP}{k:Nat}{sp:Sp}(F:YT K x qual st f fd)(S:Aj N ps (AX st))(len:∀vs H Q E,sp vs H Q E->vs.length=ps.length)
 (g:∀(cdv:KS) (A:Around) (outer:List Env) (s:GJ) (H:Hp) (vs:Fa) (Q:VK) (E:XK),Fb k (A.deeper (envOfC qual (AX st) s.heap.objs.size f cdv))->sp vs H Q E ->
   ∃t,Lw (QY Ad P w K mg base N qual (AX st) f cdv A outer s H E).dJ (Fj st) t/\t { nx:=fun _ H'=>Q .CL H',rt:=Q} (start N vs) H):AL P w K mg base Ad (k+1) f fd ps sp:=by
 obtain⟨oc,od,kV,doc,pm,an,cdv,ct,osl,rfl,lk,I⟩:=F.ex;refine q9 lk I S len fun A outer s H vs Q E R B=>?_;obtain⟨t,h,q⟩:=g cdv A outer s H vs Q E R B;exact⟨t,h.dJ,q⟩
theorem YT.binds{x qual:Str}{st:Stmt}{f:Addr}{fd:GE}{ps:KP}(F:YT K x qual st f fd)
 (h:∀(kV doc pm:KS) (an:Option Addr) (cdv ct:KS) (us:Db),us.length=ps.length->bindArgs (PySem.W.fnOf x qual (HJ st) (Fj st) (AX st) .none kV doc pm an cdv ct) ⟨us,[]⟩=pure (ps.zip us)):Binds K fd ps []:=by
 obtain⟨oc,od,kV,doc,pm,an,cdv,ct,osl,rfl,lk,g⟩:=F.ex;exact .all (h kV doc pm an cdv ct)
theorem d9{x qual:Str}{st:Stmt}{f:Addr}{oc:KS}{od an:Option Addr}{osl:Array (Option Value)}{kV doc pm cdv ct:KS}(l:K.lookup f=some ⟨oc,od,.func (PySem.W.fnOf x qual (HJ st) (Fj st) (AX st) .none kV doc pm an cdv ct),osl⟩)
 (c:PySem.W.codeIn K cdv qual=true)(k:PySem.W.keepIn K (.ref f)=true):YT K x qual st f (PySem.W.fnOf x qual (HJ st) (Fj st) (AX st) .none kV doc pm an cdv ct):=⟨⟨oc,od,kV,doc,pm,an,cdv,ct,osl,rfl,l,c⟩,k⟩
end
theorem Uc{n:Nat}(h:n<=1000):n<sizeLine:=aP h As
section
variable{X:Cx}
theorem pv(i:Nat){x:Str}{pos:Pos}(I:X.N[i]? = some x:=by rfl)(B:mK X.env.scope x:=by first|exact Or.inl rfl|exact Or.inr By|exact Or.inr (Or.inr rfl))(hd:(x==("__debug__" : Str))=false:=by decide)
 (g:(x==("__classdict__" : Str))=false:=by decide):PE X (.Name x pos) (LL i):=oI I B hd g
end
theorem Vn{A B:Prop}(h:B):if false=true then A else B:=by
 rw[if_neg aJ];exact h
theorem GR{A B:Prop}(h:A):if true=true then A else B:=by
 rw[if_pos rfl];exact h
theorem ER{c A B:Prop}[Decidable c](I:c->A)(g:¬c->B):if c then A else B:=by
 by_cases h:c
 .rw[if_pos h];exact I h
 .rw[if_neg h];exact g h
def AN(H H':Hp):Prop:=∀b o,H b=some o->H' b=some o
theorem AN.refl(H:Hp):AN H H:=fun _ _ h=>h
theorem AN.trans{H B g:Hp}(a:AN H B)(b:AN B g):AN H g:=fun c o h=>b c o (a c o h)
section
variable{X:Cx}
def PZ(i j:Int):Prop:=∃m:Nat,m<=1000000/\i.natAbs<2^m/\j.natAbs<2^m
theorem PZ.ok{i j:Int}(h:PZ i j):IntMulOk i j:=by
 obtain⟨m,hm,B,g⟩:=h;exact IntMulOk.of_le (intBits_le_iff.mpr B) (intBits_le_iff.mpr g) AS
theorem Ea:Dg X (binaryOp .Mult) (rI (fun i j=>Ti i j\/PZ i j) fun i j=>.int (i*j)) :=
 V4 fun _ _ _ _ _ _ _ g q=>mul_int q (g.elim (fun z=>z.ok) fun z=>z.ok)
def p8(_i j:Int):Prop:=j≠0/\∃m:Nat,m<=9000/\j.natAbs<2^m
theorem GA:Dg X (binaryOp .FloorDiv) (rI p8 fun i j=>.int (i.fdiv j)):=V4 fun i j _ _ _ _ _ B q=>by
 obtain⟨h0,m,hm,I⟩:=B;refine floordiv_int h0 q (.inl (PyProof.noPylong_of_log2 ?_));have g:j.natAbs≠0:=by lia
 have:j.natAbs.log2<m:=(Nat.log2_lt g).mpr I
 lia
mutual
def Br(K:At)(H:Hp):PyData->V->Prop
 |.none,v=>v=.CL
 |.bool b,v=>v=.bl b
 |.int i,v=>v=.int i
 |.str x,v=>v=.str x
 |.tuple g,v=>∃a xs,v=.ref a/\BE K H a xs/\G9 K H g xs
 |.list g,v=>∃a xs,v=.ref a/\Ax K H a xs/\G9 K H g xs
 |.dict _,_=>False
def G9(K:At)(H:Hp):List PyData->List V->Prop
 |[],xs=>xs=[]
 |d::g,xs=>∃x r,xs=x::r/\Br K H d x/\G9 K H g r
end
theorem AN.tup{K:At}{H H':Hp}{a:Addr}{xs:Fa}(e:AN H H')(h:BE K H a xs):BE K H' a xs:=by
 rcases h with (h|⟨o,h⟩)|h
 .exact .inl (.inl (e _ _ h))
 .exact .inl (.inr ⟨o,e _ _ h⟩)
 .exact .inr h
mutual
theorem Br.reads{pins:Cy}{σ:St}{H:Hp}{s:GJ}(I:Cl):∀ {d:IR} {v:V} {u:KS},Br X.K H d v->RelV v u->∃as,Reads s.heap u d as
 |.none,_,u,h,r=>by rw[Br]at h;subst h;cases r;exact⟨_,.none⟩
 |.bool b,_,u,h,r=>by rw[Br]at h;subst h;cases r;exact⟨_,.bool b⟩
 |.int i,_,u,h,r=>by rw[Br]at h;subst h;obtain⟨t,rfl⟩:=r;exact⟨_,.int i t⟩
 |.str x,_,u,h,r=>by rw[Br]at h;subst h;obtain⟨t,rfl⟩:=r;exact⟨_,.str x t⟩
 |.tuple U,_,u,h,r=>by
  rw[Br]at h;obtain⟨a,xs,e1,T,R⟩:=h;subst e1;cases r;obtain⟨its,g,⟨o,e,c,n,hd⟩,_⟩:=I.tuple T;obtain⟨as,B⟩:=G9.reads I R g;exact⟨_,.tuple e c hd (by simpa using B)⟩
 |.list U,_,u,h,r=>by
  rw[Br]at h;obtain⟨a,xs,e1,T,R⟩:=h;subst e1;cases r;obtain⟨its,g,⟨o,n,e,c,_,hd⟩,_⟩:=I.list T;obtain⟨as,B⟩:=G9.reads I R g;exact⟨_,.list e c hd (by simpa using B)⟩
 |.dict _,_,_,h,_=>by rw[Br]at h;exact h.elim
theorem G9.reads{pins:Cy}{σ:St}{H:Hp}{s:GJ}(I:Cl):∀ {ds:Ch} {xs:Fa} {us:Db},G9 X.K H ds xs->Vals xs us->∃as,ReadsAll s.heap us ds as
 |[],_,us,h,r=>by rw[G9]at h;subst h;cases r;exact⟨_,.nil⟩
 |_::_,_,us,h,r=>by
  rw[G9]at h;obtain⟨x,q,e1,Y,U⟩:=h;subst e1;cases r with
  |cons T R=>
   obtain⟨as,B⟩:=Br.reads I Y T;obtain⟨bs,g⟩:=G9.reads I U R;exact⟨_,.cons B g⟩
end
def fc(K:At)(neg:Bool):R2:=fun x y H Q=>∃d e,Br K H d x/\Br K H e y/\SeqAt.shaped d=true/\SeqAt.shaped e=true/\Q (.bl (if neg then !PyData.eqv d e else PyData.eqv d e)) H
theorem nr(U:X.A.units+64<cLine):Dg X (compareOp .Eq) (fc X.K false):=by
 intro pins s σ H x y v u Q I B g h;obtain⟨d,e,Z,Y,s1,s2,q⟩:=h;obtain⟨as,T⟩:=Br.reads I Z B;obtain⟨bs,R⟩:=Br.reads I Y g;exact eq_dataH T R s1 s2 U ⟨.bl _,H,I,rfl,q⟩
theorem pT(U:X.A.units+64<cLine):Dg X (compareOp .NotEq) (fc X.K true):=by
 intro pins s σ H x y v u Q I B g h;obtain⟨d,e,Z,Y,s1,s2,q⟩:=h;obtain⟨as,T⟩:=Br.reads I Z B;obtain⟨bs,R⟩:=Br.reads I Y g;exact ne_dataH T R s1 s2 U ⟨.bl _,H,I,rfl,q⟩
end
def OL(X:Cx)(g:List Expr)(t:TT):Prop :=
 ∀(pins:Cy) (s:GJ) (σ:St) (H:Hp) (Q:Bool->Hp->Prop),Inv X pins σ H s->t σ H Q ->
  wpAny Cs X.A (forIn g true fun c r=>if r=true then do let ok <-isTrue c X.env (eval c X.env);pure (ForInStep.yield ok) else pure (ForInStep.yield r)) (TP X pins σ Q) X.xe s
def Kn:TT:=fun _ H Q=>Q true H
theorem HI{X:Cx}:OL X [] Kn:=fun _ _ σ H _ I h=>wpAny_tests_nil ⟨H,I,h⟩
theorem j9{X:Cx}{c:Expr}{t:TT}(h:PT X c t):OL X [c] t:=by
 intro pins s σ H Q I g;simp only[List.forIn_cons,List.forIn_nil,if_true];refine aA (aA (BQ (h pins s σ H Q I g) fun b s1 q=>?_));exact aB (aB q)
def GQ(N B:KP)(sc g:Scope):List (Option Nat)->Nat->Bool
 |[],_=>true
 |none::r,i=>GQ N B sc g r (i+1)
 |some j::r,i=>(match N[i]?,B[j]? with
   |some n,some m=>n==m&&sc.names.lookup n==some .free&&g.names.lookup n==some .cell
   |_,_=>false)&&GQ N B sc g r (i+1)
theorem Qz{N R:KP}{sc g:Scope}:∀ {fr:Iv} {k:Nat},GQ N R sc g fr k=true->∀ {i j:Nat},fr[i]? = some (some j) ->
  ∃n,N[k+i]? = some n/\R[j]? = some n/\sc.names.lookup n=some .free/\g.names.lookup n=some .cell
 |[],_,_,i,j,e=>by simp at e
 |none::r,k,h,0,j,e=>by simp at e
 |none::r,k,h,i+1,j,e=>by
  have q:=Qz (fr:=r) (k:=k+1) h (i:=i) (j:=j) (by simpa using e);have z:k+(i+1)=k+1+i:=by lia
  rw[z];exact q
 |some I::r,k,h,0,j,e=>by
  have Y:I=j:=by simpa using e
  subst Y;rw[GQ,(MN)]at h;have B:=h.1;split at B
  .rename_i n m hn hm;simp only[Bool.and_eq_true,beq_iff_eq]at B;obtain⟨⟨rfl,U⟩,T⟩:=B;exact⟨n,by simpa using hn,hm,U,T⟩
  .cases B
 |some I::r,k,h,i+1,j,e=>by
  rw[GQ,(MN)]at h;have q:=Qz (fr:=r) (k:=k+1) h.2 (i:=i) (j:=j) (by simpa using e);have z:k+(i+1)=k+1+i:=by lia
  rw[z];exact q
def carry(fr:Iv)(σ:St):St:=fr.map fun o=>match o with
 |some j=>(σ[j]?).join
 |none=>none
theorem dj{fr:Iv}{σ:St}{i:Nat}{v:V}(h:(carry fr σ)[i]? = some (some v)):∃j,fr[i]? = some (some j)/\σ[j]? = some (some v):=by
 unfold carry at h;rw[(B7)]at h;cases e:fr[i]? with
 |none=>rw[e]at h;cases h
 |some o=>
  rw[e]at h;cases o with
  |none=>simp at h
  |some j=>
   refine⟨j,rfl,?_⟩;simp only[Option.map_some,Option.some.injEq]at h;cases q:σ[j]? with
   |none=>rw[q]at h;cases h
   |some w=>rw[q]at h;simp at h;rw[h]
theorem Im{env:Env}:∀(names:List (Str×NameKind)) (cs:List (Str×Addr)),(∀x∈names,x.2=NameKind.free->∃c,env.cells.lookup x.1=some c)->(∀x c,cs.lookup x=some c->env.cells.lookup x=some c) ->
  ∃cl,(forIn names cs (fun(x:Str×NameKind) (r:List (Str×Addr))=>do if(x.2==NameKind.free)=true then do let a <-cellOf env x.1;pure (ForInStep.yield ((x.1,a)::r)) else pure (ForInStep.yield r)):Sem (List (Str×Addr)))=pure cl /\
   (∀x c,cl.lookup x=some c->env.cells.lookup x=some c)/\(∀x,(∃c,cs.lookup x=some c)->∃c,cl.lookup x=some c)/\∀x∈names,x.2=NameKind.free->∃c,cl.lookup x.1=some c
 |[],cs,_,U=>⟨cs,rfl,U,fun _ q=>q,fun _ z=>(by cases z)⟩
 |(n,k)::r,cs,h1,U=>by
  rw[List.forIn_cons];by_cases R:(k==NameKind.free)=true
  .obtain⟨c,hc⟩:=h1 (n,k) aX (by simpa using R);have h2':∀x B,((n,c)::cs).lookup x=some B->env.cells.lookup x=some B:=fun x B e=>by
    rw[(Ow)]at e;cases g:x==n with
    |true=>rw[g]at e;have:=beq_iff_eq.mp g;subst this;simp at e;rw[<-e];exact hc
    |false=>rw[g]at e;exact U x B e
   obtain⟨cl,q1,Z,I,Y⟩:=Im r ((n,c)::cs) (fun x g=>h1 x (aV _ g)) h2';have hn:∃B,cl.lookup n=some B:=I n ⟨c,by rw[(Ow),beq_self_eq_true]⟩;refine⟨cl,?_,Z,fun x g=>?_,fun x g T=>?_⟩
   .simp only[R,if_true];unfold cellOf;rw[hc];exact q1
   .refine I x ?_;rw[(Ow)];cases hxn:x==n with
    |true=>exact⟨c,rfl⟩
    |false=>exact g
   .rcases aQ.mp g with e|g
    .subst e;exact hn
    .exact Y x g T
  .obtain⟨cl,q1,Z,I,Y⟩:=Im r cs (fun x g=>h1 x (aV _ g)) U;refine⟨cl,?_,Z,I,fun x g T=>?_⟩
   .simp only[R];exact q1
   .rcases aQ.mp g with e|g
    .subst e;exact absurd (by simpa using T) R
    .exact Y x g T
def BF(X:Cx)(scope:Scope)(cl:List (Str×Addr))(N:KP)(C:Addr)(s₀:GJ)(H₀:Hp)(fp:List Addr):Cx where
 prog:=X.prog
 w:=X.w
 K:=X.K
 mg:=X.mg
 base:=X.base
 A:=X.A
 N:=N
 s₀:=s₀
 H₀:=H₀
 env:=compEnvC scope cl C X.env
 outer:=X.stack
 stack:=X.stack
 ex:=fp
 fn:=fun _=>false
 calm:=X.calm
 pn:=[]
 xe:=fun _ _=>False
def Pk(U:TI)(fr:Iv)(ix:Nat)(B:TT)(Y:TE):TE:=fun σ H Q=>U σ H fun J T=>∀D,T D=none->∃W:Nat->Nat->List V->Hp->Prop,(∃m,W 0 m [] (upd T D (.lst []))) /\
 ∀i m ys H,W i m ys H->H D=some IS/\((J.stop i H/\Q (.ref D) H)\/(J.go i H/\ys.length<sizeLine/\∀x H',J.Fw i H x H' ->
  B ((carry fr σ).set ix (some x)) H' fun b R=>if b=true then Y ((carry fr σ).set ix (some x)) R fun y I=>I D=some IS/\∃g,g<m/\W (i+1) g (ys++[y]) (upd I D (.lst (ys++[y])))
   else ∃g,g<m/\W (i+1) g ys R))
structure FJ(scope:Scope)(N:KP)(x:Str)(ix:Nat):Prop where
 kind:scope.kind=.function
 cell:∀y∈scope.names,y.2≠.cell
 names:∀y∈scope.names,y.2=.local->scope.names.lookup y.1=some .local
 free:∀y∈scope.names,y.2=.free->scope.names.lookup y.1=some .free
 loc:scope.names.lookup x=some .local
 nd:N.Nodup
 at_:N[ix]? = some x
theorem lookup_mem{names:List (Str×NameKind)}{n:Str}{k:NameKind}:names.lookup n=some k->(n,k)∈names:=by
 induction names with
 |nil=>intro h;cases h
 |cons y r g=>
  intro h;obtain⟨m,j⟩:=y;rw[(Ow)]at h;cases e:n==m with
  |true=>rw[e]at h;have:=beq_iff_eq.mp e;subst this;simp at h;subst h;exact aX
  |false=>rw[e]at h;exact aV _ (g h)
theorem VW{scope:Scope}{env:Env}(U:∀y∈scope.names,y.2≠.cell){n:Str}(h:(relabel scope env).names.lookup n=some .cell\/(relabel scope env).names.lookup n=some .free):∃k,(n,k)∈scope.names/\k=NameKind.free:=by
 have key:∀B,(relabel scope env).names.lookup n=some B->(B=.cell\/B=.free)->∃k,(n,k)∈scope.names/\k=NameKind.free:=fun B h T=>by
  have hm:=lookup_mem h;unfold relabel at hm;obtain⟨⟨m,k⟩,I,e⟩:=aK.mp hm;dsimp only at e;by_cases g:(k==NameKind.free&&env.scope.kind==.function&&env.kindOf m==some .cell)=true
  .rw[if_pos g]at e
   injection e with e1 R
   subst e1;refine⟨k,I,?_⟩;simp only[Bool.and_eq_true,beq_iff_eq]at g;exact g.1.1
  .rw[if_neg g]at e
   injection e with e1 R
   subst e1 R;rcases T with rfl|rfl
   .exact absurd rfl (U _ I)
   .exact⟨_,I,rfl⟩
 rcases h with h|h
 .exact key _ h (.inl rfl)
 .exact key _ h (.inr rfl)
section
variable{X:Cx}{elt iter:Expr}{x:Str}{px pos:Pos}{ifs:List Expr}{scope:Scope}{wi:TI}{fr:Iv}{ix:Nat}{tif:TT}{te:TE}{N:KP}
theorem LX{prog:G8}{w:Id}{A:Around}{R:Result->Shared->Prop}{s:GJ}{elt target iter:Expr}{ifs:List Expr}{scope:Scope}{pos:Pos}{it acc:KS}{env:Env}(I:Nat->Shared->Prop)
 (turn:∀n s,I n s->wpAny BY A (pyNext it) (fun r g=>match r with
   |none=>R (.ok .next) g
   |some v=>wpAny BY A (letOwnedTupleGo target it v>>=fun _=>assign target env v) (fun _ Y=>
     wpAny BY A (forIn ifs true fun c r=>if r=true then do let ok <-isTrue c env (eval c env);pure (ForInStep.yield ok) else pure (ForInStep.yield r)) (fun ok B=>
      if ok=true then wpAny BY A (eval elt env) (fun x U=>
       wpAny BY A (call (.builtin "list.append") [acc,x]) (fun _ T=>∃m,m<n/\I m T) (notedBy BY A env fun e s'=>R (.error e) s') U) (notedBy BY A env fun e s'=>R (.error e) s') B
      else ∃m,m<n/\I m B) (notedBy BY A env fun e s'=>R (.error e) s') Y) (notedBy BY A env fun e s'=>R (.error e) s') g) (notedBy BY A env fun e s'=>R (.error e) s') s)
 (n:Nat)(h:I n s) :
  codeAny BY A (.compLoop (.ListComp elt [⟨target,iter,ifs,0⟩] scope pos) 0 it acc env) R s:=by
 refine codeAny_loop rfl I (fun n s hI=>?_) n h;show wpAny _ A ((compTurn (.ListComp elt [⟨target,iter,ifs,0⟩] scope pos) 0 it acc env).onRaise (fun x=>do noteFrame x env;theTreesLotGoes x)) _ _ s;refine wpAny_noted ?_;rw[compTurn_list];refine aA (wpAny_standAt (aA (ao (turn n s hI) (fun r g h₁=>?_) fun _ _ h'=>h')));cases r with
 |none=>exact aB h₁
 |some v=>
  show wpAny BY A (letOwnedTupleGo target it v>>=fun _=>assign target env v>>=_) _ _ g;rw[<-bind_assoc];refine aA (ao h₁ (fun _ Y h₂=>aA (ao h₂ (fun ok B Z=>?_) fun _ _ h'=>h')) fun _ _ h'=>h');cases ok with
  |false=>exact aB ⟨rfl,Z⟩
  |true=>
   exact aA (aA (ao Z (fun x U h₄=>aA (ao h₄ (fun _ T h₅=>aB (aB ⟨rfl,h₅⟩)) fun _ _ h'=>h')) fun _ _ h'=>h'))
theorem QG{pins:Cy}{σ:St}{U:Hp}{s2:GJ}{Q:VK}{it:Addr}{fp:List Addr}{tn:Nat->Heap->Prop}{J:It}{cl:List (Str×Addr)}{E:AT}{RR:Value->Addr->Result->Shared->Prop}
 (S:FJ scope N x ix)(hcalm:X.calm=true){tgE:Expr}{g:TG}(Rv:St->Prop)(r0:Rv (carry fr σ))(hpg:∀C,PG (BF X scope cl N C s2 U fp) tgE g)(hfr:GQ N X.N scope X.env.scope fr 0=true)(hlen:fr.length=N.length)
 (hif:∀cl C s₀ H₀ fp,OL EQ ifs tif)(he:∀cl C s₀ H₀ fp,PE EQ elt te)
 (R:Inv X pins σ U s2)(T:Turn X.prog X.w X.K tgE J fp it tn)(st2:tn 0 s2.heap)(f2:∀b∈fp,KI X pins U b)
 (c1:∀x c,cl.lookup x=some c->X.env.cells.lookup x=some c)(c2:∀x∈scope.names,x.2=NameKind.free->∃c,cl.lookup x.1=some c)
 (W:∀D,U D=none->∃W:Nat->Nat->List V->Hp->Prop,(∃m,W 0 m [] (upd U D (.lst []))) /\
   ∀i m ys H,W i m ys H->H D=some IS/\((J.stop i H/\Q (.ref D) H)\/(J.go i H/\ys.length<sizeLine/\∀x H',J.Fw i H x H'->∀σ',Rv σ'->g x σ' H' fun σ6 H6=>Rv σ6 /\
    tif σ6 H6 fun b U=>if b=true then te σ6 U fun y H3=>H3 D=some IS/\∃m',m'<m/\W (i+1) m' (ys++[y]) (upd H3 D (.lst (ys++[y])))
     else ∃m',m'<m/\W (i+1) m' ys U)))
 (fin:Kw) :
  wpAny Cs X.A (newList []) (fun acc s₃=>wpAny Cs X.A (newFunctionEnv scope X.env.globals cl [] X.env.qual none .none (some X.env)) (fun cenv s₄=>
   codeAny Cs X.A (.compStart (.ListComp elt [⟨tgE,iter,ifs,0⟩] scope pos) 0 (.ref it) acc {cenv with scope:=relabel scope X.env}) (RR acc cenv.locals) s₄) E s₃) E s2:=by
 refine aq (wpAny_newFunctionEnv S.cell (by intro y hy;simp at hy) (fun h₁ Z I=>?_) S.kind);dsimp only at Z I ⊢;generalize hHp:s2.heap.push { cls:=.type "list",dict:=none,data:=.seq ([]:List Value).toArray}=Y at Z I ⊢;have hC:Y.objs.size=s2.heap.objs.size+1:=by rw[<-hHp,(IU)]
 have hDC:s2.heap.objs.size≠Y.objs.size:=by rw[hC];exact aO (bc _)
 have below:∀b,b<s2.heap.objs.size->b≠Y.objs.size/\b≠s2.heap.objs.size:=fun b B=>⟨by rw[hC];exact aO (bX B),Nat.ne_of_lt B⟩;have old:∀b o,s2.heap.get? b=some o->h₁.get? b=some o:=fun b o e=>I.extBut b o (below b (aG e)).1 (aE _ (hHp ▸ aE _ e));have hacc:h₁.get? s2.heap.objs.size=some { cls:=.type "list",data:=.seq ([]:List Value).toArray}:=I.extBut _ _ hDC (aE _ (hHp ▸ aL _ rfl));have hD2:U s2.heap.objs.size=none:=R.BA.fresh (aH _);have hC2:U Y.objs.size=none:=R.BA.fresh (by rw[hC];exact Nat.le_succ _);have fpo:∀b∈fp,b<s2.heap.objs.size:=fun b B=>by
  obtain⟨o,e,_⟩:=T.obj _ _ st2 b B;exact aG e
 obtain⟨W,⟨m0,w0⟩,turn⟩:=W s2.heap.objs.size hD2;have ok:(BF X scope cl N Y.objs.size s2 U fp).Ok:=by
  refine⟨R.ok.mod,S.kind,R.ok.glob,R.ok.blt,by show s2.heap.objs.size<=Y.objs.size;rw[hC];exact Nat.le_succ _,?_,?_,?_,fun _=>R.ok.hd hcalm,R.ok.frames,.inl rfl,?_,R.bs,Nat.le_trans R.ok.Ug R.sz,?_,?_,R.stack,R.Ym,R.kt⟩
  .exact fun a b c h1 h2=>R.ok.inj a b c (c1 _ _ h1) (c1 _ _ h2)
  .intro y hy;obtain⟨k,hm,rfl⟩:=VW S.cell hy;exact c2 _ hm rfl
  .intro y c hf;cases hf
  .intro b B;refine⟨(below b (fpo b B)).1,fun y c e=>?_⟩;obtain⟨_,_,_,_,f5,_⟩:=f2 b B;exact f5 y c (c1 _ _ e)
  .intro b o e B;obtain⟨_,_,_,f4,_,_⟩:=f2 b B;rcases f4 with z|z
   .exact R.ok.VQ b o e z
   .exact absurd (aI (aG e) (aR R.ok.Ug z)) (Nat.lt_irrefl _)
  .intro b B hs;obtain⟨_,f1,f3,_⟩:=f2 b B;rcases aQ.mp (R.Wq b hs) with z|z
   .exact f1 z
   .exact f3 z
 have I4:Inv (BF X scope cl N Y.objs.size s2 U fp) [] (carry fr σ) (upd U s2.heap.objs.size (.lst [])) {s2 with heap:=h₁,toks:=s2.toks+([]:List (Str×Value)).length}:=by
  refine⟨ok,rfl,R.bare,Un.laid old (aH _) hD2,⟨_,Z,fun i y v h1 h2 h3=>?_⟩,fun y c e=>?_,?_,fun y c e=>?_,fun p hp=>(by cases hp),R.BA.laid old (aH _) ⟨bH _,[],0,.nil,hacc⟩,?_⟩
  .obtain⟨j,e1,e2⟩:=dj h2;obtain⟨n,n1,n2,n3,n4⟩:=Qz hfr e1;rw[Nat.zero_add]at n1;have:y=n:=by
    have h1':N[i]? = some y:=h1;rw[h1']at n1;exact ag n1
   subst this;obtain⟨m,hn,hl⟩:=R.loc;obtain⟨u,ru,lk⟩:=hl j y v n2 e2 (.inr (.inl n4));refine⟨u,ru,?_⟩;obtain⟨c,hc⟩:=c2 _ (lookup_mem n3) rfl;rcases lk with ⟨k1,_⟩|⟨_,c',hc',hcell⟩
   .have k1':X.env.scope.names.lookup y=some .local:=k1;rw[n4]at k1';cases k1'
   .have:=c1 _ _ hc;rw[hc']at this;cases this;refine .inr ⟨?_,c,hc,hcell.keeps old⟩;rcases h3 with z|z|z
    .obtain⟨k,hm⟩:∃k,(y,k)∈scope.names/\k=NameKind.local:=by
      have hm:=lookup_mem z;have hm':(y,NameKind.local)∈(relabel scope X.env).names:=hm;unfold relabel at hm';obtain⟨⟨m',k⟩,hy,e⟩:=aK.mp hm';dsimp only at e;by_cases hcond:(k==NameKind.free&&X.env.scope.kind==.function&&X.env.kindOf m'==some .cell)=true
      .rw[if_pos hcond]at e;injection e with _ e2';cases e2'
      .rw[if_neg hcond]at e;injection e with e1' e2';subst e1' e2';exact⟨_,hy,rfl⟩
     obtain⟨hm,rfl⟩:=hm;have:=S.names _ hm rfl;rw[n3]at this;cases this
    .exact .inl z
    .exact .inr z
  .obtain⟨v,z⟩:=R.cell y c (c1 _ _ e);exact⟨v,z.keeps old⟩
  .show upd U s2.heap.objs.size _ Y.objs.size=none;rw[AR (Ne.symm hDC)];exact hC2
  .obtain⟨v,o,ho,_⟩:=R.cell y c (c1 _ _ e);rw[AR (below c (aG ho)).2];exact R.Jf y c (c1 _ _ e)
  .show(carry fr σ).length=N.length;unfold carry;rw[(BW)];exact hlen
 have fpX:∀(p:Cy) (H':Hp),(∀q∈p,q.1∈fp->False)->(∀b∈fp,H' b=none)->∀b∈fp,KI (BF X scope cl N Y.objs.size s2 U fp) p H' b:=fun p H' hp hn b B=>by
  obtain⟨_,f1,f3,f4,f5,_⟩:=f2 b B;refine⟨hn b B,(below b (fpo b B)).1,fun hs=>ok.WY b B hs,.inl B,fun y c e=>f5 y c (c1 _ _ e),fun q hq e=>?_⟩;exact hp q hq (e ▸ B)
 have hxv:(relabel scope X.env).names.lookup x=some .local:=lookup_relabel_local S.loc;have loop:∀s₃:Shared,s₃={s2 with heap:=h₁,toks:=s2.toks+([]:List (Str×Value)).length} ->
   codeAny Cs X.A (.compLoop (.ListComp elt [⟨tgE,iter,ifs,0⟩] scope pos) 0 (.ref it) (.ref s2.heap.objs.size) (compEnvC scope cl Y.objs.size X.env)) (RR (.ref s2.heap.objs.size) Y.objs.size) s₃:=by
  rintro s₃ rfl;refine LX (fun n s'=>∃i ys σ' H',Inv (BF X scope cl N Y.objs.size s2 U fp) [] σ' H' s'/\Rv σ'/\tn i s'.heap/\(∀b∈fp,H' b=none)/\W i n ys H') ?_ m0
   ⟨0,[],carry fr σ,_,I4,r0,T.keep _ _ _ st2 fun b _ o e=>old b o e,fun b B=>by rw[AR (below b (fpo b B)).2];exact(f2 b B).1,w0⟩
  rintro n s3 ⟨i,ys,σ3,H3,I3,hσ,st3,fr3,w3⟩;obtain⟨hD3,way⟩:=turn i n ys H3 w3;rcases way with ⟨stop,qn⟩|⟨go,hsz,step⟩
  .refine ao (T.done (BF X scope cl N Y.objs.size s2 U fp) rfl rfl rfl hcalm i [] s3 σ3 H3 (fun _ _=>False) I3 (fpX [] H3 (fun _ z=>by cases z) fr3) st3 stop) (fun r s4 ⟨hr,I5⟩=>?_) fun _ _ z=>z.elim;subst hr;obtain⟨m,hn,_⟩:=id I5.loc;refine fin _ _ s4 H3 m hn qn (fun h' hs'=>?_) (Ne.symm hDC) (fun b o e=>(below b (aG e)).1) I5.free (by rw[hC];exact Nat.le_succ _);have nC:∀b u,H3 b=some u->b≠Y.objs.size:=fun b u e z=>by
    have:=I5.free;rw[show(BF X scope cl N Y.objs.size s2 U fp).env.locals=Y.objs.size from rfl,<-z,e]at this;cases this
   have keepU:Un (OO X.stack) fp U H3 s2.heap h':=by
    have u:=I5.base;refine⟨fun b o e n B hx=>?_,fun b o e n B hx=>?_,fun b o e n hx=>u.free b o e n hx,fun b o e hx=>?_,u.Be,u.Ku,u.Nm,fun b xs o q e hx=>(hs'.2 b (below b (aG e)).1).trans (u.MQ b xs o q e hx)⟩
    .exact(hs'.2 b (below b (aG e)).1).trans (u.keep b o e n B hx)
    .obtain⟨sl,e1⟩:=u.slot b o e n B hx;exact⟨sl,(hs'.2 b (below b (aG e)).1).trans e1⟩
    .obtain⟨o',e1⟩:=u.there b o e hx;exact⟨o',(hs'.2 b (below b (aG e)).1).trans e1⟩
   have hok':Ek X.prog X.w H3 h':=fun b u e=>(I5.BA b u e).Nx (fun c v hc q=>(hs'.2 c (by
    rcases hc with rfl|hc
    .exact nC _ _ e
    .exact nC _ _ hc)).trans q) (fun _ q=>q) fun _ _ q=>q
   refine R.qi (s':={s4 with heap:=h'}) (ch:=fp) I5.os keepU hok' I5.bare fun b B=>?_;obtain⟨_,f1,_,f4,f5,f6⟩:=f2 b B;exact⟨f4,f1,f5,f6⟩
  .refine ao (T.item (BF X scope cl N Y.objs.size s2 U fp) rfl rfl rfl hcalm i [] s3 σ3 H3 (fun _ _=>False) I3 (fpX [] H3 (fun _ z=>by cases z) fr3) st3 go) (fun r s4 ⟨u,hr,h4⟩=>?_) fun _ _ z=>z.elim;subst hr;show wpAny Cs X.A (letOwnedTupleGo tgE (.ref it) u>>=fun _=>assign tgE (compEnvC scope cl Y.objs.size X.env) u) _ _ s4;refine aA (ao h4 (fun _ s5 ⟨xv,H5,I5,r5,y5,st5,fr5⟩=>?_) fun _ _ z=>z.elim);have I5':=I5.pinned (fpX [] H5 (fun _ z=>by cases z) fr5) (T.obj _ _ st5);refine ao (hpg _ _ s5 σ3 H5 xv u _ I5' r5 (step xv H5 y5 σ3 hσ)) (fun _ s6 ⟨σ6,H6,I6,rv6,step5⟩=>?_) fun _ _ z=>z.elim;refine ao (hif _ _ _ _ _ _ s6 _ H6 _ I6 step5) (fun b s7 ⟨H7,I7,q7⟩=>?_) fun _ _ z=>z.elim;have again:∀ {s8:GJ} {H8:Hp} {k:Nat} {zs:Fa},Inv (BF X scope cl N Y.objs.size s2 U fp) ([]++Oo fp s5.heap) σ6 H8 s8->W (i+1) k zs H8->k<n ->
     ∃m,m<n/\∃i ys σ' H',Inv (BF X scope cl N Y.objs.size s2 U fp) [] σ' H' s8/\Rv σ'/\tn i s8.heap/\(∀b∈fp,H' b=none)/\W i m ys H':=fun {s8 H8 k zs} I8 w8 hk=>by
    refine⟨k,hk,i+1,zs,_,H8,I8.Nt,rv6,T.keep _ _ _ st5 fun b B o e=>(I8.pin (b,o) (ae _ (ae _ (Kg B e)))).1,fun b B=>?_,w8⟩;obtain⟨o,e,d⟩:=T.obj _ _ st5 b B;exact(I8.pin (b,o) (ae _ (ae _ (Kg B e)))).2.1
   cases b with
   |false=>
    rw[if_neg aJ]at q7 ⊢;obtain⟨k,hk,w7⟩:=q7;exact again I7 w7 hk
   |true=>
    rw[if_pos rfl]at q7 ⊢;refine ao (he _ _ _ _ _ _ s7 _ H7 _ I7 q7) (fun yv s8 ⟨y,H8,I8,r8,hD8,k,hk,w8⟩=>?_) fun _ _ z=>z.elim;refine ao (IE (X:=BF X scope cl N Y.objs.size s2 U fp) _ s8 _ H8 (.ref s2.heap.objs.size) [y] (.ref s2.heap.objs.size) [yv] (fun _ H9=>H9=upd H8 s2.heap.objs.size (.lst (ys++[y]))) I8 rfl (.cons r8 .nil) ⟨_,ys,y,rfl,rfl,hD8,hsz,rfl⟩) (fun _ s9 ⟨_,H9,I9,_,e9⟩=>?_) fun _ _ z=>z.elim;subst e9;exact again I9 w8 hk
 exact codeAny_compStart_list (loop _ rfl) (T.self X.A 0 _ _ _ (T.keep _ _ _ st2 fun b _ o e=>old b o e) (loop _ rfl))
theorem Sj{pins:Cy}{σ:St}{B:Hp}{s2:GJ}{Q:VK}{it:Addr}{fp:List Addr}{tn:Nat->Heap->Prop}{J:It}{cl:List (Str×Addr)}{E:AT}{RR:Value->Addr->Result->Shared->Prop}
 (S:FJ scope N x ix)(I:X.calm=true)(hfr:GQ N X.N scope X.env.scope fr 0=true)(hlen:fr.length=N.length)
 (hif:∀cl C s₀ H₀ fp,OL EQ ifs tif)(he:∀cl C s₀ H₀ fp,PE EQ elt te)
 (I2:Inv X pins σ B s2)(T:Turn X.prog X.w X.K (.Name x px) J fp it tn)(st2:tn 0 s2.heap)(f2:∀b∈fp,KI X pins B b)
 (c1:∀x c,cl.lookup x=some c->X.env.cells.lookup x=some c)(c2:∀x∈scope.names,x.2=NameKind.free->∃c,cl.lookup x.1=some c)
 (W:∀D,B D=none->∃W:Nat->Nat->List V->Hp->Prop,(∃m,W 0 m [] (upd B D (.lst []))) /\
   ∀i m ys H,W i m ys H->H D=some IS/\((J.stop i H/\Q (.ref D) H)\/(J.go i H/\ys.length<sizeLine/\∀x H',J.Fw i H x H' ->
    tif ((carry fr σ).set ix (some x)) H' fun b B=>if b=true then te ((carry fr σ).set ix (some x)) B fun y H3=>H3 D=some IS/\∃Z,Z<m/\W (i+1) Z (ys++[y]) (upd H3 D (.lst (ys++[y])))
     else ∃Z,Z<m/\W (i+1) Z ys B)))
 (fin:Kw) :
  wpAny Cs X.A (newList []) (fun acc Y=>wpAny Cs X.A (newFunctionEnv scope X.env.globals cl [] X.env.qual none .none (some X.env)) (fun g U=>
   codeAny Cs X.A (.compStart FS 0 (.ref it) acc {g with scope:=relabel scope X.env}) (RR acc g.locals) U) E Y) E s2:=by
 have hxv:(relabel scope X.env).names.lookup x=some .local:=lookup_relabel_local S.loc;refine QG S I (fun R=>∀v,R.set ix v=(carry fr σ).set ix v) (fun _=>rfl) (fun C=>Ay (X:=BF X scope cl N C s2 B fp) S.nd S.at_ (.inl hxv) (.inr hxv)) hfr hlen hif he I2 T st2 f2 c1 c2 (fun D hD=>?_) fin;obtain⟨W,w0,st⟩:=W D hD;refine⟨W,w0,fun i m ys H w=>?_⟩;obtain⟨h1,h2|⟨h2,h3,h4⟩⟩:=st i m ys H w
 .exact⟨h1,.inl h2⟩
 .refine⟨h1,.inr ⟨h2,h3,fun x H' hy R hr=>?_⟩⟩;have:=h4 x H' hy;rw[<-hr]at this;exact⟨fun v=>by rw[List.set_set,hr],this⟩
theorem jG(S:FJ scope N x ix)(U:X.calm=true)(hfr:GQ N X.N scope X.env.scope fr 0=true)(Y:fr.length=N.length)(B:∀y∈scope.names,y.2=.free->X.env.scope.names.lookup y.1=some .cell\/X.env.scope.names.lookup y.1=some .free)
 (hi:PI X (.Name x px) iter wi)(hif:∀cl C s₀ H₀ fp,OL EQ ifs tif)(he:∀cl C s₀ H₀ fp,PE EQ elt te)
 (hs:∀x,foldedSetIterable iter X.env x=pure x:=by intro _;rfl):PE X FS (Pk wi fr ix tif te):=by
 intro pins s σ H Q I hw;obtain⟨cl,R,c1,_,c2⟩:=Im (env:=X.env) scope.names [] (fun y hy hf=>I.ok.has y.1 (B y hy hf)) (fun y c z=>by cases z);have g:closureFor scope X.env=pure cl:=by
  have e:closureFor scope X.env=((forIn scope.names [] (fun(x:Str×NameKind) (r:List (Str×Addr))=>do if(x.2==NameKind.free)=true then do let a <-cellOf X.env x.1;pure (ForInStep.yield ((x.1,a)::r)) else pure (ForInStep.yield r)):Sem (List (Str×Addr)))>>=fun cs=>pure cs):=rfl;rw[e,R]
  rfl
 rw[eval_ListComp];refine wpAny_comprehension_free (use:=none) rfl hs g S.kind S.names (BQ (hi pins s σ H _ I hw) fun v s1 h1=>BQ h1 fun itv s2 h2=>?_);obtain⟨it,fp,tn,J,H2,e,I2,T,Z,f2,W⟩:=h2;subst e;refine Sj (RR:=fun acc C=>compPost Cs X.A X.xe none (EP X pins σ Q) acc C) S U hfr Y hif he I2 T Z f2 c1 c2 W ?_;intro D C s' H' m hn q hI _ _ _ _;exact⟨m,hn,fun h' hs'=>⟨.ref D,H',hI h' hs',rfl,q⟩⟩
theorem Y7{i : Nat}{y : Str}{py spos : Pos}(hN : X.N.Nodup)(hy : X.N[i]? = some y)(hly : X.env.scope.names.lookup y = some .local)(S : FJ scope N x ix)(hcalm : X.calm = true)(hfr : GQ N X.N scope X.env.scope fr 0 = true)(hlen : fr.length = N.length)
 (hfree : ∀ y∈scope.names,y.2 = .free->X.env.scope.names.lookup y.1 = some .cell\/X.env.scope.names.lookup y.1 = some .free)
 (hi : PI X (.Name x px) iter wi)(hif : ∀ cl C s₀ H₀ fp,OL EQ ifs tif)(he : ∀ cl C s₀ H₀ fp,PE EQ elt te)
 (hsw : swapsWith FS (some (.Name y py)) spos.line X.env = pure true:=by rfl)
 (hs : ∀ x,foldedSetIterable iter X.env x = pure x:=by intro _; rfl) :
    PS X (.Assign [.Name y py] FS spos) (Vt (Pk wi fr ix tif te) (FU i)):=by
  intro pins s σ H D I hw
  obtain ⟨cl,hclos,c1,_,c2⟩:=Im (env:=X.env) scope.names [] (fun y hy hf => I.ok.has y.1 (hfree y hy hf)) (fun y c z => by cases z)
  have hclos' : closureFor scope X.env = pure cl:=by
    have e : closureFor scope X.env = ((forIn scope.names [] (fun (x : Str×NameKind) (r : List (Str×Addr)) => do if (x.2 == NameKind.free) = true then do let a <- cellOf X.env x.1; pure (ForInStep.yield ((x.1,a) :: r)) else pure (ForInStep.yield r)):Sem (List (Str×Addr))) >>= fun cs => pure cs):=rfl
    rw [e,hclos]
    rfl
  rw [exec_Assign_Name_used _ _ _ _ hsw]
  refine aA (wpAny_standAt (aA ?_))
  show wpAny _ X.A (do let _ <- comprehension FS scope X.env _ (newList []) false (eval iter X.env) (some (assign (.Name y py) X.env))) _ _ s
  refine aA (ao (wpAny_comprehension_free (use:=some (assign (.Name y py) X.env)) (Q:=fun _ s' => SP X pins D .next s') rfl hs hclos' S.kind S.names
    (BQ (hi pins s σ H _ I hw) fun v s1 h1 => BQ h1 fun itv s2 h2 => ?_)) (fun _ s' hq => aB (aB hq)) fun _ _ e => e)
  obtain ⟨it,fp,tn,J,H2,e,I2,T,st2,f2,W⟩:=h2
  subst e
  refine Sj (Q:=fun x H1 => FU i x σ H1 D.nx) (RR:=fun acc C => compPost Cs X.A X.xe (some (assign (.Name y py) X.env)) (fun _ s' => SP X pins D .next s') acc C) S hcalm hfr hlen hif he I2 T st2 f2 c1 c2 W ?_
  intro D' C s' H' m hn q hI hCD hold hfreeC hsz
  have I5 : Inv X pins σ H' s':=hI s'.heap (Heap.SameBut.refl ..)
  refine wpAny_assign_Name (Tu I5 hN hy (.inl hly) (v:=.ref D') rfl (fun s'' I6 ⟨a,hsb,ha⟩ => ?_) (.inr hly))
  have hL : C≠X.env.locals:=fun z => by
    obtain ⟨_,⟨o,_,_,e,_⟩,_⟩:=I2.loc
    exact hold _ _ e z.symm
  have hcl : ∀ z c,X.env.cells.lookup z = some c->c≠C:=fun z c e => by
    obtain ⟨_,o,ho,_⟩:=I2.cell z c e
    exact hold _ _ ho
  have hCa : C≠a:=by
    rcases ha with z | z
    . rw [z]; exact hL
    . exact Ne.symm (hcl _ _ z)
  refine ⟨m,hn.sameBut hsb hCa,fun h' hs' => ⟨_,H',I6.turned (t':=s''.toks) (it:=C) (fun b o hb e => (hs'.2 b hb).trans e) hfreeC hL (.inr (aR I2.sz hsz)) hcl fun p hp => ?_,q⟩⟩
  obtain ⟨e,_⟩:=I2.pin p hp
  exact hold _ _ e
end
end L2
namespace FM
def gi(a b:Int):Int:=(Int.gcd a b:Int)
theorem XA(a b:Int):Int.gcd b (a.fmod b)=Int.gcd a b:=by
 have e:a.fmod b=a-b*a.fdiv b:=Int.fmod_def a b;rw[e,Int.gcd_comm a b];exact Int.gcd_sub_mul_left_right b a (a.fdiv b)
theorem T7(a b:Int)(g:b≠0):(a.fmod b).natAbs<b.natAbs:=by
 rcases Int.lt_or_gt_of_ne g with h|h
 .have R:-(a.fmod b)=(-a).fmod (-b):=by
   rw[Int.fmod_def,Int.fmod_def,Int.neg_fdiv_neg];have:-b*a.fdiv b=-(b*a.fdiv b):=Int.neg_mul _ _
   lia
  have I:=Int.fmod_nonneg_of_pos (-a) (show 0 < -b by lia);have B:=Int.fmod_lt_of_pos (-a) (show 0 < -b by lia)
  lia
 .have I:=Int.fmod_nonneg_of_pos a h;have B:=Int.fmod_lt_of_pos a h
  lia
theorem MZ{a b:Int}(g:b≠0):0<gi a b:=by
 have:0<Int.gcd a b:=Int.gcd_pos_of_ne_zero_right a g;unfold gi;lia
theorem ip{a b:Int}(B:b≠0):(gi a b).natAbs<=b.natAbs:=by
 have h:Int.gcd a b ∣ b.natAbs:=by
  have:=Int.gcd_dvd_right a b;exact bN.mpr this
 have g:0<b.natAbs:=by lia
 have:=Nat.le_of_dvd g h;unfold gi;lia
def gs(t b:Int):Int:=if b<0 then -gi t b else gi t b
theorem Zg{t b:Int}(g:b≠0):gs t b≠0:=by
 have:=MZ (a:=t) g;unfold gs;split<;>lia
theorem ij{t b:Int}(g:b≠0):(gs t b).natAbs<=b.natAbs:=by
 have:=ip (a:=t) g;unfold gs;split<;>lia
theorem F3{g x k:Int}(B:g≠0)(e:x=g*k):x.fdiv g=k:=by
 subst e;exact Int.mul_fdiv_cancel_left k B
theorem L7(a b:Int):gi a b ∣ a:=Int.gcd_dvd_left a b
theorem IV(a b:Int):gi a b ∣ b:=Int.gcd_dvd_right a b
theorem XB{t b:Int}(I:b≠0):t.fdiv (gs t b)=(Rat.divInt t b).num:=by
 have R:=MZ (a:=t) I;obtain⟨k,B⟩:=L7 t b;rw[Rat.num_divInt,Int.gcd_comm b t];show t.fdiv (gs t b)=b.sign*t / gi t b;unfold gs;generalize gi t b=g at R B ⊢;rcases Int.lt_or_gt_of_ne I with h|h
 .rw[if_pos h,Int.sign_eq_neg_one_of_neg h,F3 (k:=-k) AS (by rw[B];simp[Int.mul_neg,Int.neg_mul])];have:-1*t=g*(-k):=by rw[B];simp[Int.mul_neg]
  rw[this,Int.mul_ediv_cancel_left _ AS]
 .rw[if_neg AS,Int.sign_eq_one_of_pos h,F3 (k:=k) AS B,Int.one_mul,B,Int.mul_ediv_cancel_left _ AS]
theorem RP{t b:Int}(I:b≠0):b.fdiv (gs t b)=((Rat.divInt t b).den:Int):=by
 have R:=MZ (a:=t) I;obtain⟨k,B⟩:=IV t b;rw[Rat.den_divInt,if_neg I,Int.gcd_comm b t];have e:(((b.natAbs / Int.gcd t b:Nat)):Int)=(b.natAbs:Int) / gi t b:=by unfold gi;simp
 rw[e];unfold gs;generalize gi t b=g at R B ⊢;rcases Int.lt_or_gt_of_ne I with h|h
 .rw[if_pos h,F3 (k:=-k) AS (by rw[Int.neg_mul_neg];exact B)];have:(b.natAbs:Int)=g*(-k):=by rw[Int.mul_neg,<-B];lia
  rw[this,Int.mul_ediv_cancel_left _ AS]
 .rw[if_neg AS,F3 (k:=k) AS B];have:(b.natAbs:Int)=g*k:=by rw[<-B];lia
  rw[this,Int.mul_ediv_cancel_left _ AS]
theorem E1(a b:Int):(a.fdiv b).natAbs<=a.natAbs:=by
 cases a with
 |ofNat n=>
  cases n with
  |zero=>
   have e:Int.fdiv (.ofNat 0) b=0:=Int.zero_fdiv b;rw[e];exact bH _
  |succ k=>
   cases b with
   |ofNat j=>exact Nat.div_le_self (k+1) j
   |negSucc j=>exact Nat.succ_le_succ (Nat.div_le_self k (j+1))
 |negSucc k=>
  cases b with
  |ofNat j=>
   cases j with
   |zero=>exact bH _
   |succ j=>exact Nat.succ_le_succ (Nat.div_le_self k (j+1))
  |negSucc j=>exact Nat.div_le_self (k+1) (j+1)
theorem RH{t b:Int}(g:b≠0):(Rat.divInt t b).num.natAbs<=t.natAbs:=by
 rw[<-XB g];exact E1 _ _
theorem SE{t b:Int}(g:b≠0):(Rat.divInt t b).den<=b.natAbs:=by
 have h:=E1 b (gs t b);rw[RP g]at h
 simpa using h
theorem Mg(p:Rat):(p.den:Int)≠0:=by
 have:=p.den_nz
 lia
theorem EV(p:Rat):Rat.divInt p.num p.den=p:=Rat.num_divInt_den p
theorem We(p q:Rat):Rat.divInt (p.num*q.den+q.num*p.den) (p.den*q.den)=p+q:=by
 rw[<-Rat.divInt_add_divInt _ _ (Mg p) (Mg q),EV,EV]
theorem jV(p q:Rat):Rat.divInt (p.num*q.den-q.num*p.den) (p.den*q.den)=p-q:=by
 rw[<-Rat.divInt_sub_divInt _ _ (Mg p) (Mg q),EV,EV]
theorem NY(p q:Rat):Rat.divInt (p.num*q.num) (p.den*q.den)=p*q:=by
 rw[<-Rat.divInt_mul_divInt,EV,EV]
theorem HD(p q:Rat):(p.den:Int)*q.den≠0:=Int.mul_ne_zero (Mg p) (Mg q)
theorem ky{p q:Rat}(g:p.num=q.num)(B:(p.den:Int)=(q.den:Int)):p=q:=Rat.ext g AS
theorem II{x y:Int}{m n:Nat}(B:x.natAbs<2^m)(g:y.natAbs<2^n):(x*y).natAbs<2^(m+n):=by
 rw[(Q6),Nat.pow_add];exact Nat.mul_lt_mul'' B g
theorem oh{x y:Int}{n:Nat}(B:x.natAbs<2^n)(g:y.natAbs<2^n):(x+y).natAbs<2^(n+1):=by
 rw[Nat.pow_succ];lia
theorem mw{x y:Int}{n:Nat}(B:x.natAbs<2^n)(g:y.natAbs<2^n):(x-y).natAbs<2^(n+1):=by
 rw[Nat.pow_succ];lia
theorem Ml{x:Nat}{m n:Nat}(g:x<2^m)(h:m<=n):x<2^n:=aI g (aS As h)
def Fits(p:Rat)(n:Nat):Prop:=p.num.natAbs<2^n/\p.den<2^n
theorem Fits.mono{p:Rat}{m n:Nat}(h:Fits p m)(l:m<=n:=by decide):Fits p n:=⟨Ml h.1 l,Ml h.2 l⟩
theorem Fits.d{p:Rat}{n:Nat}(h:Fits p n):((p.den:Int)).natAbs<2^n:=by simpa using h.2
theorem Fits.Rm{t b:Int}{n:Nat}(g:b≠0)(I:t.natAbs<2^n)(B:b.natAbs<2^n):Fits (Rat.divInt t b) n :=
 ⟨aP (RH g) I,Nat.lt_of_le_of_lt (SE g) B⟩
theorem kP{p q:Rat}{m n:Nat}(h:Fits p m)(k:Fits q n):(p.num*q.den+q.num*p.den).natAbs<2^(m+n+1) :=
 oh (II h.1 k.d) (by have:=II k.1 h.d;rwa [Nat.add_comm n m]at this)
theorem hV{p q:Rat}{m n:Nat}(h:Fits p m)(k:Fits q n):(p.num*q.den-q.num*p.den).natAbs<2^(m+n+1) :=
 mw (II h.1 k.d) (by have:=II k.1 h.d;rwa [Nat.add_comm n m]at this)
theorem dd{p q:Rat}{m n:Nat}(h:Fits p m)(k:Fits q n):((p.den:Int)*q.den).natAbs<2^(m+n):=II h.d k.d
theorem nn{p q:Rat}{m n:Nat}(h:Fits p m)(k:Fits q n):(p.num*q.num).natAbs<2^(m+n):=II h.1 k.1
theorem Fits.sum{p q:Rat}{m n:Nat}(h:Fits p m)(k:Fits q n):Fits (p+q) (m+n+1):=by
 rw[<-We];exact .Rm (HD p q) (kP h k) (Ml (dd h k) AS)
theorem Fits.times{p q:Rat}{m n:Nat}(h:Fits p m)(k:Fits q n):Fits (p*q) (m+n):=by
 rw[<-NY];exact .Rm (HD p q) (nn h k) (dd h k)
end FM
namespace FM
theorem Yi(a b:Int):Int.gcd (if a<0 then -a else a) (if b<0 then -b else b)=Int.gcd a b:=by
 split<;>split<;>simp[Int.gcd_neg,Int.neg_gcd]
theorem abs_nonneg(a:Int):0<=(if a<0 then -a else a):=by split<;>lia
theorem di{g a b:Int}(h:Int.gcd g 0=Int.gcd a b)(h0:0<=g):g=gi a b:=by
 unfold gi;rw[<-h,Int.gcd_zero_right]
 lia
theorem fmod_nonneg{g l:Int}(B:l≠0)(h:0<=l):0<=g.fmod l:=Int.fmod_nonneg_of_pos g AS
end FM
namespace L2
open PySem PySem.Spec PyProof.Rows
structure Fn(K:At)(mg:Eu)(x:Str)(st:Stmt)(ps:KP)(f:Addr)(fd:GE):Prop where
 F:YT K x x st f fd
 b:Binds K fd ps []
 m:mg x=some (.ref f)
section
variable{X:Cx}{k:Nat}{f:Addr}{fd:GE}{ps:KP}{sp:Sp}{x:Str}{st:Stmt}{p pos:Pos}{e:Expr}{es:List Expr}{t:TA}
theorem CQ(T:Fn X.K X.mg x st ps f fd)(G:AL X.prog X.w X.K X.mg X.base Ad k f fd ps sp)(I:Fb k X.A)(R:Gl X x)(ha:PA X (e::es) t)
 (B:(x==("__debug__" : Str))=false:=by decide)(U:starEach (e::es) X.env=(false,eval e X.env)::starEach es X.env:=by rfl)(g:(backTo pos (starEach es X.env)).any (·.1)=false:=by rfl) :
  PE X (.Call (.Name x p) (e::es) [] pos) (iH sp [] E0 t):=jw G I R T.m T.F.kp T.b .nil qY ha B U g
end
theorem Qq{t u:TS}{D:Ends}{σ:St}{H:Hp}(P:St->Hp->Prop)(I:∀nx:St->Hp->Prop,(∀g H',P g H'->nx g H')->t {D with nx:=nx} σ H)(B:∀g H',P g H'->u D g H'):nq t u D σ H:=I _ B
theorem Ry:2<=sizeLine:=by decide
theorem Ab{H:Hp}{p:Addr}(h:H p=none)(o:HO):AN H (upd H p o):=fun b u q=>by rw[AR (Aq q h)];exact q
def SameBut(l:Addr)(H H':Hp):Prop:=∀b o,b≠l->H b=some o->H' b=some o
theorem SameBut.of{l:Addr}{H H':Hp}(h:AN H H'):SameBut l H H':=fun b o _ q=>h b o q
theorem SameBut.upd{l:Addr}{H:Hp}{o:HO}:SameBut l H (upd H l o):=fun b u n q=>by rw[AR n];exact q
def BZ(p:Rat):List V:=[.int p.num,.int (p.den:Int)]
def Rt(K:At)(H:Hp)(p:Rat)(v:V):Prop:=∃a,v=.ref a/\BE K H a (BZ p)
theorem Rt.of{K:At}{H:Hp}{p:Rat}{a:Addr}(h:H a=some (.tup (BZ p))):Rt K H p Jj:=⟨a,rfl,.of h⟩
def AK(p:Rat):PyData:=.tuple [.int p.num,.int (p.den:Int)]
theorem Qo{i j:Int}{m n:Nat}(B:i.natAbs<2^m)(g:j.natAbs<2^n)(h:m+n<=1000000):Ti i j\/PZ i j :=
 .inr ⟨m+n,h,FM.Ml B (Nat.le_add_right _ _),FM.Ml g (Nat.le_add_left _ _)⟩
def rZ(g:Addr)(cls:KS):HO:=.ext fun h=>∃o vs,h.get? g=some o/\o.cls=cls/\o.data=.fields vs
open PySem PySem.Spec PyProof.Rows PySem.Builtin.ObjectAttr PySem.Builtin.Getset_descriptor
def WA:V->Value
 |.ref C=>.ref C
 |.ty n=>.type n
 |_=>.none
theorem jS{c:V}{u:KS}(r:RelV c u)(h:WA c≠.none):u=WA c:=by
 cases c with
 |ref C=>exact r
 |ty n=>exact r
 |_=>exact absurd rfl h
section
variable{X:Cx}
def tH(K:At):List V->Hp->VK->Prop:=fun xs H Q=>∃x c t b,xs=[x,c]/\WA c≠.none/\IL K H x t/\PySem.W.kitOne K t (WA c)=some b/\Q (.bl b) H
theorem JP:FV X (.builtin "isinstance") (tH X.K):=by
 intro pins s σ H xs us Q I r h;obtain⟨x,c,t,b,rfl,T,ty,e,q⟩:=h;obtain⟨u,v,rfl,R,B⟩:=r.two;rw[jS B T];exact cV I R ty e fun g=>⟨.bl b,H,I.tok g,rfl,q⟩
end
theorem oY(K:At):PySem.W.kitOne K Hq Hq=some true:=rfl
theorem nc(K:At):PySem.W.kitOne K (.type "int") (.type "int")=some true:=rfl
theorem oT(K:At):PySem.W.kitOne K (.type "bool") (.type "bool")=some true:=rfl
theorem nL(K:At):PySem.W.kitOne K (.type "int") (.type "bool")=some false:=by kernel_rfl
theorem nk(K:At):PySem.W.kitOne K (.type "bool") (.type "int")=some true:=by kernel_rfl
theorem lI(K:At):PySem.W.kitOne K (.type "list") Hq=some false:=by kernel_rfl
theorem nX(K:At):PySem.W.kitOne K Hq (.type "list")=some false:=by kernel_rfl
theorem mi(K:At):PySem.W.kitOne K (.type "list") (.type "list")=some true:=rfl
theorem pD(K:At):PySem.W.kitOne K (.type "int") Hq=some false:=by kernel_rfl
theorem mW(K:At):PySem.W.kitOne K (.type "bool") Hq=some false:=by kernel_rfl
theorem mm(K:At):PySem.W.kitOne K (.type "NoneType") Hq=some false:=by kernel_rfl
theorem lg(K:At):PySem.W.kitOne K (.type "str") Hq=some false:=by kernel_rfl
theorem nv(K:At):PySem.W.kitOne K Hq (.type "int")=some false:=by kernel_rfl
theorem pX(K:At):PySem.W.kitOne K (.type "list") (.type "int")=some false:=by kernel_rfl
theorem oz(K:At):PySem.W.kitOne K (.type "NoneType") (.type "int")=some false:=by kernel_rfl
theorem mQ(K:At):PySem.W.kitOne K (.type "str") (.type "int")=some false:=by kernel_rfl
theorem pV(K:At):PySem.W.kitOne K (.type "int") (.type "list")=some false:=by kernel_rfl
theorem mP(K:At):PySem.W.kitOne K (.type "bool") (.type "list")=some false:=by kernel_rfl
theorem pK(K:At):PySem.W.kitOne K (.type "NoneType") (.type "list")=some false:=by kernel_rfl
theorem nY(K:At):PySem.W.kitOne K (.type "str") (.type "list")=some false:=by kernel_rfl
def freeOk(g:Scope)(names:List (Str×NameKind)):Bool:=names.all fun y=>y.2 != .free||g.names.lookup y.1==some .cell||g.names.lookup y.1==some .free
theorem PF{g:Scope}{names:List (Str×NameKind)}(h:freeOk g names=true):∀y∈names,y.2=.free->g.names.lookup y.1=some .cell\/g.names.lookup y.1=some .free:=fun y B I=>by
 have q:=az.mp h y B;rw[I]at q;simp only[bne_self_eq_false,Bool.false_or,Bool.or_eq_true,beq_iff_eq]at q;exact q
def DM(scope:Scope)(N:KP)(x:Str)(ix:Nat):Bool :=
 scope.kind==.function&&(scope.names.all fun y=>y.2 != .cell&&(y.2 != .local||scope.names.lookup y.1==some .local)&&(y.2 != .free||scope.names.lookup y.1==some .free))&&scope.names.lookup x==some .local&&decide N.Nodup&&N[ix]? == some x
theorem IY{scope:Scope}{N:KP}{x:Str}{ix:Nat}(h:DM scope N x ix=true):FJ scope N x ix:=by
 unfold DM at h;simp only[Bool.and_eq_true,beq_iff_eq,decide_eq_true_eq,List.all_eq_true,bne_iff_ne,Bool.or_eq_true]at h;obtain⟨⟨⟨⟨Y,I⟩,U⟩,T⟩,R⟩:=h;exact⟨Y,fun y g=>(I y g).1.1,fun y g B=>(I y g).1.2.resolve_left fun z=>z B,fun y g B=>(I y g).2.resolve_left fun z=>z B,U,T,R⟩
section
variable{X:Cx}{elt iter:Expr}{x:Str}{px pos:Pos}{ifs:List Expr}{scope:Scope}{wi:TI}{tif:TT}{te:TE}
theorem JJ(N:KP)(ix:Nat)(fr:Iv)(hi:PI X (.Name x px) iter wi)(g:∀cl C s₀ H₀ fp,OL EQ ifs tif)(I:∀cl C s₀ H₀ fp,PE EQ elt te)
 (Z:DM scope N x ix=true:=by decide +kernel)(Y:X.calm=true:=by rfl)(U:GQ N X.N scope X.env.scope fr 0=true:=by rfl)(T:fr.length=N.length:=by rfl)(R:freeOk X.env.scope scope.names=true:=by rfl)
 (B:∀x,foldedSetIterable iter X.env x=pure x:=by intro _;rfl):PE X FS (Pk wi fr ix tif te) :=
 jG (IY Z) Y U T (PF R) hi g I B
theorem Jh{i:Nat}{y:Str}{T g:Pos}(N:KP)(ix:Nat)(fr:Iv)(hN:X.N.Nodup)(U:X.N[i]? = some y)(I:X.env.scope.names.lookup y=some .local)
 (hi:PI X (.Name x px) iter wi)(R:∀cl C s₀ H₀ fp,OL EQ ifs tif)(Z:∀cl C s₀ H₀ fp,PE EQ elt te)
 (h1:DM scope N x ix=true:=by decide +kernel)(h2:X.calm=true:=by rfl)(h3:GQ N X.N scope X.env.scope fr 0=true:=by rfl)(h4:fr.length=N.length:=by rfl)(h5:freeOk X.env.scope scope.names=true:=by rfl)
 (B:swapsWith FS (some (.Name y T)) g.line X.env=pure true:=by rfl)
 (Y:∀x,foldedSetIterable iter X.env x=pure x:=by intro _;rfl):PS X (.Assign [.Name y T] FS g) (Vt (Pk wi fr ix tif te) (FU i)) :=
 Y7 hN U I (IY h1) h2 h3 h4 (PF h5) hi R Z B Y
end
end L2
inductive Tr where
 |nil
 |cons (b r:Tr)
 deriving DecidableEq
namespace Tr
def bs:Tr->List Tr
 |.nil=>[]
 |.cons b r=>b::r.bs
def of:List Tr->Tr
 |[]=>.nil
 |b::r=>.cons b (of r)
theorem Zk:∀t:Tr,of t.bs=t
 |.nil=>rfl
 |.cons b r=>by rw[bs,of,Zk r]
theorem Rf:∀l:List Tr,(of l).bs=l
 |[]=>rfl
 |b::r=>by rw[of,bs,Rf r]
theorem mr{t u:Tr}(h:t.bs=u.bs):t=u:=by rw[<-Zk t,h,Zk]
def len:Tr->Nat
 |.nil=>0
 |.cons _ r=>r.len+1
theorem Jt:∀t:Tr,t.bs.length=t.len
 |.nil=>rfl
 |.cons _ r=>by rw[bs,(JO),Jt r,len]
def AE:Tr->Nat
 |.nil=>1
 |.cons b r=>b.AE+r.AE
def deep:Tr->Nat
 |.nil=>0
 |.cons b r=>max (b.deep+1) r.deep
def lt:Tr->Tr->Bool
 |.nil,.nil=>false
 |.nil,.cons _ _=>true
 |.cons _ _,.nil=>false
 |.cons b r,.cons c q=>if b=c then lt r q else lt b c
theorem lt_irrefl:∀t:Tr,lt t t=false
 |.nil=>rfl
 |.cons b r=>by rw[lt,if_pos rfl];exact lt_irrefl r
theorem lt_trans:∀a b c:Tr,lt a b=true->lt b c=true->lt a c=true
 |.nil,.nil,_,h,_=>by cases h
 |.nil,.cons _ _,.nil,_,h=>by cases h
 |.nil,.cons _ _,.cons _ _,_,_=>rfl
 |.cons _ _,.nil,_,h,_=>by cases h
 |.cons _ _,.cons _ _,.nil,_,h=>by cases h
 |.cons a r,.cons b s,.cons c t,B,g=>by
  rw[lt]at B g ⊢;by_cases e1:a=b
  .subst e1;rw[if_pos rfl]at B;by_cases I:a=c
   .subst I;rw[if_pos rfl]at g ⊢;exact lt_trans r s t B g
   .rw[if_neg I]at g ⊢;exact g
  .rw[if_neg e1]at B;by_cases I:b=c
   .subst I;rw[if_neg e1];exact B
   .rw[if_neg I]at g;have R:=lt_trans a b c B g;by_cases T:a=c
    .subst T;rw[lt_irrefl]at R;cases R
    .rw[if_neg T];exact R
theorem K7:∀a b:Tr,lt a b=false->lt b a=false->a=b
 |.nil,.nil,_,_=>rfl
 |.nil,.cons _ _,h,_=>by cases h
 |.cons _ _,.nil,_,h=>by cases h
 |.cons a r,.cons b s,B,g=>by
  rw[lt]at B g;by_cases e:a=b
  .subst e;rw[if_pos rfl]at B g;rw[K7 r s B g]
  .rw[if_neg e]at B;rw[if_neg (Ne.symm e)]at g;exact absurd (K7 a b B g) e
theorem QK(a b c:Tr)(h:lt a c=true):lt a b=true\/lt b c=true:=by
 cases B:lt a b with
 |true=>exact .inl rfl
 |false=>
  right
  cases g:lt b a with
  |true=>exact lt_trans b a c g h
  |false=>rw[<-K7 a b B g];exact h
theorem lt_asymm{a b:Tr}(h:lt a b=true):lt b a=false:=by
 cases g:lt b a with
 |false=>rfl
 |true=>have:=lt_trans a b a h g;rw[lt_irrefl]at this;cases this
def gV:Tr->Bool
 |.nil=>true
 |.cons b r=>b.gV&&r.gV&&(match r with
  |.nil=>true
  |.cons c _=>!lt b c)
def ins(x:Tr):List Tr->List Tr
 |[]=>[x]
 |y::r=>if lt x y=true then y::ins x r else x::y::r
def FR:List Tr->List Tr
 |[]=>[]
 |x::r=>ins x (FR r)
end Tr
namespace TH
open PySem PyProof.Rows PySem.SeqAt
def Vs(h:Heap):Tr->List Value->Prop
 |.nil,us=>us=[]
 |.cons b r,us=>∃(a:Addr) (its rest:Db),us=.ref a::rest/\h.IsTuple a its.toArray/\Vs h b its/\Vs h r rest
theorem Vs.length{h:Heap}:∀ {t:Tr} {us:Db},Vs h t us->us.length=t.len
 |.nil,us,e=>by rw[Vs]at e;rw[e];rfl
 |.cons b r,us,e=>by
  rw[Vs]at e;obtain⟨a,its,rest,rfl,_,_,q⟩:=e;rw[(JO),Tr.len,Vs.length q]
theorem Km{h:Heap}{a:Addr}{x y:Array Value}(R:h.IsTuple a x)(I:h.IsTuple a y):x=y:=by
 obtain⟨o,e,_,n,d⟩:=R;obtain⟨o',g,_,T,B⟩:=I;rw[e]at g;cases g;rw[d]at B;cases B;rfl
theorem Vs.inj{h:Heap}:∀ {t u:Tr} {us:Db},Vs h t us->Vs h u us->t=u
 |.nil,.nil,_,_,_=>rfl
 |.nil,.cons _ _,us,e,f=>by
  rw[Vs]at e;rw[Vs]at f;obtain⟨_,_,_,f,_⟩:=f;rw[e]at f;cases f
 |.cons _ _,.nil,us,e,f=>by
  rw[Vs]at e;rw[Vs]at f;obtain⟨_,_,_,e,_⟩:=e;rw[f]at e;cases e
 |.cons b r,.cons c q,us,e,f=>by
  rw[Vs]at e f;obtain⟨a,its,rest,rfl,Z,Y,U⟩:=e;obtain⟨a',g,B,e',T,R,I⟩:=f;cases e';have:=Km Z T;have e2:its=g:=by simpa using this
  subst e2;rw[Vs.inj Y R,Vs.inj U I]
theorem ZD{s:GJ}:∀(t u:Tr) (A:Around) (us vs:Db),Vs s.heap t us->Vs s.heap u vs->A.units+t.deep<=cLine ->
  ∀j (T:j<us.length) (R:j<vs.length),EqAt A s us[j] vs[j] (decide (t.bs[j]? = u.bs[j]?))
 |.nil,u,A,us,vs,e,f,_,j,T,R=>by
  rw[Vs]at e;subst e;exact absurd T (ak _)
 |.cons b r,.nil,A,us,vs,e,f,_,j,T,R=>by
  rw[Vs]at f;subst f;exact absurd R (ak _)
 |.cons b r,.cons c q,A,us,vs,e,f,hu,j,T,R=>by
  rw[Vs]at e f;obtain⟨a,its,rest,rfl,k1,Y,k3⟩:=e;obtain⟨a',g,B,rfl,Z,U,l3⟩:=f;have hd:(Tr.cons b r).deep=max (b.deep+1) r.deep:=rfl;cases j with
  |zero=>
   show EqAt A s Jj (.ref a') (decide (some b=some c));by_cases ea:a=a'
   .subst ea;have:=Km k1 Z;have e2:its=g:=by simpa using this
    subst e2;rw[Vs.inj Y U,decide_eq_true rfl];exact EqAt.same _
   .refine EqAt.of_refs ea ?_;have key:=RcAt.tuples (s:=s) (A:=A) (e:=fun j=>decide (b.bs[j]? = c.bs[j]?)) k1 Z AS fun j x1 x2=>by
     have:=ZD b c A.in1 its g Y U (by rw[show A.in1.units=A.units+1 from rfl];lia) j (by simpa using x1) (by simpa using x2)
     simpa using this
    have ev:((List.range (min its.toArray.size g.toArray.size)).all (fun j=>decide (b.bs[j]? = c.bs[j]?))&&its.toArray.size==g.toArray.size)=decide (some b=some c):=by
     have z1:its.toArray.size=b.bs.length:=by rw[Tr.Jt,<-Vs.length Y];simp
     have z2:g.toArray.size=c.bs.length:=by rw[Tr.Jt,<-Vs.length U];simp
     rw[z1,z2];by_cases I:b=c
     .subst I;simp
     .rw[decide_eq_false (fun z=>I (ag z))];cases hl:b.bs.length==c.bs.length with
      |false=>rw[Bool.and_false]
      |true=>
       rw[Bool.and_true];have hl':b.bs.length=c.bs.length:=by simpa using hl
       refine ar.mpr fun z=>I (Tr.mr (List.ext_getElem? fun i=>?_));by_cases hi:i<b.bs.length
       .have:=az.mp z i (bD.mpr AS)
        simpa using this
       .rw[List.getElem?_eq_none AS,List.getElem?_eq_none AS]
    rw[ev]at key;exact key
  |succ j=>
   exact ZD r q A rest B k3 l3 AS j (by simpa using T) (by simpa using R)
theorem VJ{s:GJ}{t u:Tr}{A:Around}{a b:Addr}{its its':Db}(R:s.heap.IsTuple a its.toArray)(B:Vs s.heap t its)(I:s.heap.IsTuple b its'.toArray)(g:Vs s.heap u its')(T:A.units+t.deep<cLine) :
  EqAt A s Jj (.ref b) (decide (t=u)):=by
 have:=ZD (.cons t .nil) (.cons u .nil) A [.ref a] [.ref b] ⟨a,its,[],rfl,R,B,by rw[Vs]⟩ ⟨b,its',[],rfl,I,g,by rw[Vs]⟩ (by show A.units+max (t.deep+1) 0<=cLine;lia) 0 CH CH
 simpa[Tr.bs]using this
section
open PySem.AutoSeq1 (wpAny_loadPart')
open PySem.MeetsSeq PySem.MeetsSeq2 PySem.MeetsSeq3
theorem WW(n0:Nat)(ih:∀(t u:Tr) (A:Around) (s:GJ) (a b:Addr) (its its':Db),t.deep<n0->s.heap.IsTuple a its.toArray->Vs s.heap t its->s.heap.IsTuple b its'.toArray->Vs s.heap u its'->A.units+t.deep<cLine ->
   ∀(prog:G8) (w:Id) (E:AT) (Q:AT),Q (.bool (Tr.lt t u)) s->wpAny BY A (richCompare .Lt Jj (.ref b)) Q E s)
 (l b:Addr)(items B:Array Value)(n n2:Nat)(dd dd2:Option Addr)(sl sl2:Array (Option Value))(t u:Tr)(ht:t.deep<=n0) :
  Meets (Builtin.«tuple.__lt__» ⟨[.ref l,.ref b],[]⟩)
   (fun A R s=>s.heap.get? l=some { cls:=.type "tuple",dict:=dd,data:=.seq items n,slots:=sl}/\s.heap.get? b=some { cls:=.type "tuple",dict:=dd2,data:=.seq B n2,slots:=sl2} /\
    Vs s.heap t items.toList/\Vs s.heap u B.toList/\A.units+t.deep<cLine/\R (.ok (.ret (.bool (Tr.lt t u)))) s) :=
 .of_wp fun prog w A R s h=>by
  obtain⟨hp,g,d,tk,os⟩:=s;obtain⟨hl,hb,hi,hj,hun,h⟩:=h;have f2:=AutoSeq1.sub_tuple_tuple;have z1:items.size=t.len:=by rw[<-Vs.length hi];simp
  have z2:B.size=u.len:=by rw[<-Vs.length hj];simp
  wp_walk using wpAny_loadPart' hl,wpAny_loadPart' hb,wpAny_forIn_list _ (fun rest b s'=>b.1=none/\s'=⟨hp,g,d,tk,os⟩/\∃(vs ws:Db) (Z Y:Tr),rest=vs.zip ws /\
   Vs hp Z vs/\Vs hp Y ws/\Z.deep<=t.deep/\Z.len+B.size=Y.len+items.size/\R (.ok (.ret (.bool (Tr.lt Z Y)))) ⟨hp,g,d,tk,os⟩) _
  case turn=>
   rintro⟨y,x⟩ rest b s' ⟨hb',rfl,vs,ws,Z,Y,hz,U,T,hdp,I,hR⟩;cases Z with
   |nil=>rw[Vs]at U;subst U;rw[List.zip_nil_left]at hz;cases hz
   |cons bt rt=>
    cases Y with
    |nil=>rw[Vs]at T;subst T;rw[List.zip_nil_right]at hz;cases hz
    |cons bu ru=>
     rw[Vs]at U T;obtain⟨a1,i1,v1,rfl,p1,p2,p3⟩:=U;obtain⟨a2,i2,v2,rfl,q1,q2,q3⟩:=T;rw[List.zip_cons_cons]at hz
     injection hz with hyx hrest
     injection hyx with hy hx
     subst hy hx;have hdd:(Tr.cons bt rt).deep=max (bt.deep+1) rt.deep:=rfl;rw[Tr.lt]at hR;simp only[Tr.len]at I;have he:=VJ (s:=⟨hp,g,d,tk,os⟩) (A:=A.in1) p1 p2 q1 q2 (by rw[show A.in1.units=A.units+1 from rfl];lia);refine aA (he prog w _ _ ?_);cases hc:decide (bt=bu) with
     |true=>
      rw[if_pos (ah hc)]at hR
      wp_walk
      exact⟨rfl,rfl,_,_,_,_,hrest,p3,q3,by lia,by lia,hR⟩
     |false=>
      rw[if_neg (bJ hc)]at hR;have hri:=ih bt bu A.in1 ⟨hp,g,d,tk,os⟩ a1 a2 i1 i2 AS p1 p2 q1 q2 (by rw[show A.in1.units=A.units+1 from rfl];lia) prog w
      wp_walk using hri
      exact⟨_,rfl,by simpa using hR⟩
  case fin=>
   rintro⟨b1,b2⟩ s' ⟨hb',rfl,vs,ws,Z,Y,hz,U,T,hdp,I,hR⟩;simp only at hb';subst hb';have hv:Tr.lt Z Y=decide (items.size<B.size):=by
    cases Z with
    |nil=>
     cases Y with
     |nil=>
      simp only[Tr.len]at I;exact(bO AS).symm
     |cons c q=>
      simp only[Tr.len]at I;exact(bf AS).symm
    |cons bt rt=>
     cases Y with
     |nil=>
      simp only[Tr.len]at I;exact(bO AS).symm
     |cons c q=>
      rw[Vs]at U T;obtain⟨_,_,_,rfl,_⟩:=U;obtain⟨_,_,_,rfl,_⟩:=T;rw[List.zip_cons_cons]at hz;cases hz
   rw[hv]at hR
   wp_walk
   exact⟨_,rfl,by simpa[Builtin.Tuple.tupleCompareSizes]using hR⟩
  case h=>
   exact⟨rfl,rfl,items.toList,B.toList,t,u,rfl,hi,hj,Nat.le_refl _,by lia,h⟩
theorem Zo:∀(T:Nat) (t u:Tr) (A:Around) (s:GJ) (a b:Addr) (its its':Db),t.deep<T->s.heap.IsTuple a its.toArray->Vs s.heap t its->s.heap.IsTuple b its'.toArray->Vs s.heap u its'->A.units+t.deep<cLine ->
   ∀(prog:G8) (w:Id) (E:AT) (Q:AT),Q (.bool (Tr.lt t u)) s->wpAny BY A (richCompare .Lt Jj (.ref b)) Q E s
 |0,_,_,_,_,_,_,_,_,h,_,_,_,_,_=>absurd h (ak _)
 |T+1,t,u,A,s,a,b,its,its',hd,hl,ht,hb,Z,Y=>fun prog w E Q h=>by
  obtain⟨⟨cls,dd,data,sl⟩,ho,hc,n,I⟩:=id hl;obtain⟨⟨cls2,dd2,data2,U⟩,B,R,n2,g⟩:=id hb;simp only at hc I R g;subst hc I R g;exact richCompare_meets_room (op:=.Lt) ⟨_,ho,rfl⟩ ⟨_,B,rfl⟩ PySem.F.slot_tuple_lt PySem.F.entry_tuple_lt (PySem.F.args_tuple_lt_2 _ _) (WW T (Zo T) a b its.toArray its'.toArray n n2 dd dd2 sl U t u AS)
   ⟨ho,B,by simpa using ht,by simpa using Z,Y,show Value.bool (Tr.lt t u)≠Value.notImplemented/\Q (.bool (Tr.lt t u)) s from⟨(fun x=>nomatch x),h⟩⟩ AS
end
end TH
namespace SM
open PySem.W PyProof.Rows
def Wp{α:Type}(lt:Nat->Nat->Bool)(n:Nat):KasT α->(α->Prop)->Prop
 |.ret a,Q=>Q a
 |.ask i j k,Q=>i<n/\j<n/\Wp lt n (k (lt i j)) Q
theorem Wp.mono{α:Type}{lt:Nat->Nat->Bool}{n:Nat}{Q B:α->Prop}(g:∀a,Q a->B a):∀t:KasT α,Wp lt n t Q->Wp lt n t B
 |.ret a,h=>g a h
 |.ask i j k,h=>⟨h.1,h.2.1,Wp.mono g (k (lt i j)) h.2.2⟩
theorem Wp.bind{α g:Type}{lt:Nat->Nat->Bool}{n:Nat}{f:α->KasT g}{Q:g->Prop}:∀t:KasT α,Wp lt n t (fun a=>Wp lt n (f a) Q)->Wp lt n (t.bind f) Q
 |.ret _,h=>h
 |.ask i j k,h=>⟨h.1,h.2.1,Wp.bind (k (lt i j)) h.2.2⟩
theorem LM{p:Array Nat}{i j:Nat}(g:j<=p.size)(k:Nat):(kas_rev p i j).getD k 0=if i<=k/\k<j then p.getD (i+j-1-k) 0 else p.getD k 0:=by
 have e:=getElem?_mirror_all (i:=i) g k;unfold kas_rev;rw[(Wv),(Wv),(Wv),e];split<;>rfl
theorem Xb{p:Array Nat}{src d:Nat}(g:src<p.size)(hd:d<=src)(k:Nat) :
  (bubble p src d).getD k 0=if k=src-d then p.getD src 0 else if src-d<k/\k<=src then p.getD (k-1) 0 else p.getD k 0:=by
 have e:=getElem?_bubble g d hd k;simp only[Array.getD_eq_getD_getElem?,e];split
 .rfl
 .split<;>rfl
section
variable{O:KeyOrd}{key:Nat->O.α}{n:Nat}
def Key(key:Nat->O.α)(p:Array Nat)(i:Nat):O.α:=key (p.getD i 0)
def Up(key:Nat->O.α)(p:Array Nat)(m:Nat):Prop:=∀i j,i<=j->j<m->O.kle (Key key p i) (Key key p j)
def Dn(key:Nat->O.α)(p:Array Nat)(m:Nat):Prop:=∀i j,i<=j->j<m->O.kle (Key key p j) (Key key p i)
structure Pm(n:Nat)(p:Array Nat):Prop where
 perm:p.Perm (List.toArray (List.range n))
 pos:0<n
theorem Pm.size{p:Array Nat}(h:Pm n p):p.size=n:=by rw[h.perm.size_eq];simp
theorem Pm.lt{p:Array Nat}(h:Pm n p)(i:Nat):p.getD i 0<n:=by
 rw[(Wv)];by_cases hi:i<p.size
 .rw[Array.getElem?_eq_getElem hi];have hm:p[i]∈p:=Array.getElem_mem hi;have:=(h.perm.mem_iff).mp hm
  simpa using this
 .rw[Array.getElem?_eq_none AS];exact h.pos
theorem Pm.rev{p:Array Nat}(h:Pm n p)(i j:Nat):Pm n (kas_rev p i j):=⟨(mirror_perm _ _ _ _).trans h.perm,h.pos⟩
theorem Pm.bubble{p:Array Nat}(h:Pm n p)(i j:Nat):Pm n (bubble p i j):=⟨(bubble_perm _ _ _).trans h.perm,h.pos⟩
abbrev Hr(key:Nat->O.α):Nat->Nat->Bool:=fun i j=>O.blt (key i) (key j)
theorem Up.one{p:Array Nat}:Up key p 1:=fun i j B g=>by
 have:i=j:=by lia
 subst this;exact bP _
theorem Up.more{p:Array Nat}{m:Nat}(h:Up key p m)(T:1<=m)(B:O.kle (Key key p (m-1)) (Key key p m)):Up key p (m+1):=fun i j g R=>by
 by_cases e:j=m
 .subst e;by_cases I:i=j
  .subst I;exact bP _
  .exact KeyOrd.kle_trans (h i (j-1) AS AS) B
 .exact h i j g AS
theorem Dn.more{p:Array Nat}{m:Nat}(h:Dn key p m)(T:1<=m)(B:O.kle (Key key p m) (Key key p (m-1))):Dn key p (m+1):=fun i j g R=>by
 by_cases e:j=m
 .subst e;by_cases I:i=j
  .subst I;exact bP _
  .exact KeyOrd.kle_trans B (h i (j-1) AS AS)
 .exact h i j g AS
theorem asc{p:Array Nat}(g:Pm n p):∀(f m:Nat),1<=m->Up key p m->Wp (Hr key) n (kas_asc p f m) fun r=>m<=r/\r<=m+f/\Up key p r/\(r=m+f\/O.klt (Key key p r) (Key key p (r-1)))
 |0,m,_,h=>⟨aH _,Nat.le_refl _,h,.inl rfl⟩
 |f+1,m,I,h=>by
  refine⟨g.lt _,g.lt _,?_⟩;cases c:Hr key (p.getD m 0) (p.getD (m-1) 0) with
  |true=>exact⟨aH _,by lia,h,.inr c⟩
  |false=>
   simp only[Bool.false_eq_true,if_false];refine Wp.mono (fun r B=>?_) _ (asc g f (m+1) AS (h.more I c));exact⟨by lia,by lia,B.2.2.1,B.2.2.2.elim (fun z=>.inl AS) .inr⟩
def Eq(key:Nat->O.α)(p:Array Nat)(m q:Nat):Prop:=q<m/\∀k,m-(q+1)<=k->k<m->Key key p k=Key key p (m-1)
theorem rev_eq{p:Array Nat}{m q:Nat}(h:Eq key p m q)(hm:m<=p.size)(k:Nat):Key key (kas_rev p (m-(q+1)) m) k=Key key p k:=by
 unfold Key;rw[LM hm];split
 .have a:=h.2 (m-(q+1)+m-1-k) (by have:=h.1;lia) (by have:=h.1;lia);have b:=h.2 k AS AS;exact a.trans b.symm
 .rfl
theorem desc:∀(f:Nat) (p:Array Nat) (m q:Nat),Pm n p->1<=m->m+f<=n->Dn key p m->Eq key p m q->Wp (Hr key) n (kas_desc f p m q) fun r=>Pm n r.1/\m<=r.2.1/\r.2.1<=m+f/\Dn key r.1 r.2.1/\Eq key r.1 r.2.1 r.2.2
 |0,p,m,q,g,_,_,h,e=>⟨g,Nat.le_refl _,Nat.le_refl _,h,e⟩
 |f+1,p,m,q,g,U,hf,h,e=>by
  refine⟨g.lt _,g.lt _,?_⟩;have hm:m<=p.size:=by rw[g.size];lia
  cases c:Hr key (p.getD m 0) (p.getD (m-1) 0) with
  |true=>
   have ck:O.klt (Key key p m) (Key key p (m-1)):=c;simp only[if_true];have fin:∀B:Array Nat,Pm n B->(∀k,Key key B k=Key key p k)->Wp (Hr key) n (kas_desc f B (m+1) 0) fun r=>Pm n r.1/\m<=r.2.1/\r.2.1<=m+(f+1)/\Dn key r.1 r.2.1/\Eq key r.1 r.2.1 r.2.2:=fun B R Z=>by
    have hd:Dn key B (m+1):=fun i j T hj=>by rw[Z,Z];exact h.more U (KeyOrd.kle_of_klt ck) i j T hj
    have he:Eq key B (m+1) 0:=⟨by lia,fun k U h2=>by rw[show k=m+1-1 by lia]⟩;exact Wp.mono (fun r I=>⟨I.1,by lia,by lia,I.2.2.2.1,I.2.2.2.2⟩) _ (desc f B (m+1) 0 R AS AS hd he)
   split
   .exact fin _ (g.rev _ _) (rev_eq e hm)
   .exact fin _ g fun _=>rfl
  |false=>
   simp only[Bool.false_eq_true,if_false];refine⟨g.lt _,g.lt _,?_⟩;cases d:Hr key (p.getD (m-1) 0) (p.getD m 0) with
   |true=>
    simp only[if_true];exact⟨g,Nat.le_refl _,Nat.le_add_right _ _,h,e⟩
   |false=>
    simp only[Bool.false_eq_true,if_false];have Y:Key key p m=Key key p (m-1):=KeyOrd.kle_antisymm (show O.kle (Key key p m) (Key key p (m-1)) from d) (show O.kle (Key key p (m-1)) (Key key p m) from c);refine Wp.mono (fun r I=>⟨I.1,by lia,by lia,I.2.2.2.1,I.2.2.2.2⟩) _ (desc f p (m+1) (q+1) g AS AS (h.more U (by rw[Y];exact bP _)) ⟨by have:=e.1;lia,fun k h2 h3=>?_⟩);rw[show m+1-1=m by lia,Y];by_cases z:k=m
    .rw[z,Y]
    .exact e.2 k AS AS
theorem pP{p:Array Nat}{m:Nat}(h:Dn key p m)(hm:m<=p.size):Up key (kas_rev p 0 m) m:=fun i j g B=>by
 unfold Key;rw[LM hm,LM hm,if_pos ⟨bH _,by lia⟩,if_pos ⟨bH _,by lia⟩];exact h (0+m-1-j) (0+m-1-i) AS AS
theorem tail3{p:Array Nat}{m:Nat}(g:Pm n p)(I:1<=m)(hm:m<=n)(h:Dn key p m):Wp (Hr key) n (kas_tail3 m n p) fun r=>Pm n r.2/\1<=r.1/\r.1<=n/\Up key r.2 r.1:=by
 unfold kas_tail3;refine Wp.bind _ (Wp.mono (fun r B=>?_) _ (asc (g.rev 0 m) (n-m) m I (pP h (by rw[g.size];exact hm))));exact⟨g.rev 0 m,by lia,by lia,B.2.2.1⟩
theorem descPart{p:Array Nat}{m:Nat}(R:Pm n p)(U:1<=m)(hm:m+1<=n)(h:Dn key p (m+1)):Wp (Hr key) n (kas_descPart m n p) fun r=>Pm n r.2/\1<=r.1/\r.1<=n/\Up key r.2 r.1:=by
 unfold kas_descPart;refine Wp.bind _ (Wp.mono (fun r I=>?_) _ (desc (n-(m+1)) p (m+1) 0 R AS AS h ⟨by lia,fun k U Y=>by rw[show k=m+1-1 by lia]⟩));obtain⟨a,b,c,d,e⟩:=I;have B:r.2.1<=r.1.size:=by rw[a.size];lia
 split
 .refine tail3 (a.rev _ _) AS AS fun i j g T=>?_;rw[rev_eq e B,rev_eq e B];exact d i j g T
 .exact tail3 a AS AS d
theorem count{p:Array Nat}(g:Pm n p):Wp (Hr key) n (kas_count n p) fun r=>Pm n r.2/\1<=r.1/\r.1<=n/\Up key r.2 r.1:=by
 have hn:=g.pos;unfold kas_count;refine Wp.bind _ (Wp.mono (fun m hm=>?_) _ (asc g (n-1) 1 (aH _) Up.one));obtain⟨T,h2,R,h4⟩:=hm;split
 .exact⟨g,T,by lia,R⟩
 .rename_i U;have I:m≠n:=by simpa using U
  have hk:O.klt (Key key p m) (Key key p (m-1)):=by
   rcases h4 with z|z
   .exact absurd AS I
   .exact z
  have Z:m<=p.size:=by rw[g.size];lia
  split
  .refine⟨g.lt _,g.lt _,?_⟩;cases c:Hr key (p.getD 0 0) (p.getD (m-1) 0) with
   |true=>simp only[if_true];exact⟨g,T,by lia,R⟩
   |false=>
    simp only[Bool.false_eq_true,if_false];have all:∀k,k<m->Key key p k=Key key p (m-1):=fun k B=>KeyOrd.kle_antisymm (R k (m-1) AS AS) (KeyOrd.kle_trans (show O.kle (Key key p (m-1)) (Key key p 0) from c) (R 0 k AS B));have ek:∀k,Key key (kas_rev p 0 m) k=Key key p k:=fun k=>by
     by_cases B:k<m
     .have:Key key (kas_rev p 0 m) k=Key key p (0+m-1-k):=by
       unfold Key;rw[LM Z,if_pos ⟨bH _,B⟩]
      rw[this,all _ AS,all k B]
     .unfold Key;rw[LM Z,if_neg AS]
    refine descPart (g.rev _ _) T AS fun i j Y hj=>?_;rw[ek,ek];by_cases e:j=m
    .subst e;by_cases e2:i=j
     .subst e2;exact bP _
     .rw[all i AS];exact KeyOrd.kle_of_klt hk
    .rw[all i AS,all j AS];exact bP _
  .have:m=1:=by lia
   subst this;refine descPart g T AS fun i j Y hj=>?_;by_cases e:i=j
   .subst e;exact bP _
   .rw[show i=0 by lia,show j=1 by lia];exact KeyOrd.kle_of_klt hk
theorem place{p:Array Nat}{k:Nat}(B:Pm n p)(g:Up key p k):∀(f l r:Nat),l<=r->r<=k->r-l<=f->(∀i,i<l->O.kle (Key key p i) (Key key p k))->(∀i,r<=i->i<k->O.klt (Key key p k) (Key key p i)) ->
  Wp (Hr key) n (kas_place p k f l r) fun x=>x<=k/\(∀i,i<x->O.kle (Key key p i) (Key key p k))/\∀i,x<=i->i<k->O.klt (Key key p k) (Key key p i)
 |0,l,r,Y,I,U,a,b=>by
  have:l=r:=by lia
  subst this;exact⟨I,a,b⟩
 |f+1,l,r,Y,I,U,a,b=>by
  unfold kas_place;split
  .have:l=r:=by lia
   subst this;exact⟨I,a,b⟩
  .refine⟨B.lt _,B.lt _,?_⟩;cases c:Hr key (p.getD k 0) (p.getD ((l+r) / 2) 0) with
   |true=>
    simp only[if_true];exact place B g f l ((l+r) / 2) AS AS AS a fun i R T=>KeyOrd.klt_of_klt_of_kle (show O.klt (Key key p k) (Key key p ((l+r) / 2)) from c) (g _ _ R T)
   |false=>
    simp only[Bool.false_eq_true,if_false];exact place B g f ((l+r) / 2+1) r AS I AS (fun i R=>KeyOrd.kle_trans (g i ((l+r) / 2) AS AS) (show O.kle (Key key p ((l+r) / 2)) (Key key p k) from c)) b
theorem bin:∀(f:Nat) (p:Array Nat) (k:Nat),Pm n p->1<=k->k+f=n->Up key p k->Wp (Hr key) n (kas_bin f p k) fun r=>Pm n r/\Up key r n
 |0,p,k,g,_,hk,h=>by
  have:k=n:=by lia
  subst this;exact⟨g,h⟩
 |f+1,p,k,g,h1,hk,h=>by
  have I:k<p.size:=by rw[g.size];lia
  refine Wp.bind _ (Wp.mono (fun l Z=>?_) _ (place g h k 0 k (bH _) (aH _) AS (fun i z=>absurd z AS) fun i U z2=>absurd U AS));obtain⟨Y,B,R⟩:=Z;refine bin f _ (k+1) (g.bubble _ _) AS AS fun i j hij hj=>?_;have T:∀x,Key key (PyProof.Rows.bubble p k (k-l)) x=if x=l then Key key p k else if l<x/\x<=k then Key key p (x-1) else Key key p x:=fun x=>by
   unfold Key;rw[Xb I AS,show k-(k-l)=l by lia];split
   .rfl
   .split<;>rfl
  rw[T,T]
  repeat' split
  all_goals first
   |(exfalso;lia)
   |exact bP _
   |exact B _ AS
   |exact KeyOrd.kle_of_klt (R _ AS AS)
   |exact h _ _ AS AS
theorem sort(hn:0<n):Wp (Hr key) n (kas_sort n) fun p=>Pm n p/\Up key p n:=by
 have B:Pm n (List.toArray (List.range n)):=⟨Array.Perm.refl _,hn⟩;unfold kas_sort;refine Wp.bind _ (Wp.mono (fun r g=>?_) _ (count B));obtain⟨a,b,c,d⟩:=g;split
 .rw[show max r.1 1=r.1 by lia];exact bin _ _ _ a b AS d
 .have:r.1=n:=by lia
  rw[this]at d;exact⟨a,d⟩
end
end SM
namespace Tr
theorem QR(x:Tr):∀l:List Tr,(ins x l).Perm (x::l)
 |[]=>.refl _
 |y::r=>by
  rw[ins];split
  .exact((QR x r).cons y).trans (.swap x y r)
  .exact .refl _
theorem Nc:∀l:List Tr,(FR l).Perm l
 |[]=>.refl _
 |x::r=>by
  rw[FR];exact(QR x (FR r)).trans ((Nc r).cons x)
abbrev TR(l:List Tr):Prop:=l.Pairwise fun a b=>lt a b=false
theorem Ww(x:Tr):∀l:List Tr,TR l->TR (ins x l)
 |[],_=>List.pairwise_singleton _ _
 |y::r,h=>by
  obtain⟨B,R⟩:=bj.mp h;rw[ins];split
  .rename_i c;refine bj.mpr ⟨fun z g=>?_,Ww x r R⟩;rcases aQ.mp ((QR x r).mem_iff.mp g) with rfl|g
   .exact lt_asymm c
   .exact B z g
  .rename_i c;have I:lt x y=false:=by simpa using c
   refine bj.mpr ⟨fun z g=>?_,h⟩;rcases aQ.mp g with rfl|g
   .exact I
   .cases e:lt x z with
    |false=>rfl
    |true=>
     rcases QK x y z e with q|q
     .rw[I]at q;cases q
     .rw[B z g]at q;cases q
theorem Np:∀l:List Tr,TR (FR l)
 |[]=>List.Pairwise.nil
 |x::r=>by rw[FR];exact Ww x _ (Np r)
theorem MG:∀ {l m:List Tr},TR l->TR m->l.Perm m->l=m
 |[],m,_,_,p=>(List.nil_perm.mp p).symm
 |x::r,[],_,_,p=>absurd p.length_eq CH
 |x::r,y::q,R,I,p=>by
  obtain⟨a1,a2⟩:=bj.mp R;obtain⟨b1,b2⟩:=bj.mp I;have B:x∈y::q:=p.mem_iff.mp aX;have g:y∈x::r:=p.mem_iff.mpr aX;have e:x=y:=by
   rcases aQ.mp B with e|B
   .exact e
   .rcases aQ.mp g with e|g
    .exact e.symm
    .exact K7 x y (a1 y g) (b1 x B)
  subst e;rw[MG a2 b2 (List.Perm.cons_inv p)]
theorem eo{l m:List Tr}(h:TR m)(p:m.Perm l):m=FR l:=MG h (Np l) (p.trans (Nc l).symm)
theorem Sm{l m:List Tr}(h:m.Pairwise fun a b=>lt b a=false)(p:m.Perm l):m=(FR l).reverse:=by
 have:m.reverse=FR l:=eo (List.pairwise_reverse.mpr h) ((List.reverse_perm m).trans p);rw[<-this,List.reverse_reverse]
theorem Yg(n:Nat):∀l:List Tr,(of l).deep<=n ↔ ∀c∈l,c.deep+1<=n
 |[]=>by simp[of,deep]
 |b::r=>by
  rw[of,deep,List.forall_mem_cons,<-Yg n r]
  lia
def ord:PyProof.Rows.KeyOrd where
 α:=Tr
 blt:=lt
 irrefl:=lt_irrefl
 trans:=lt_trans
 negTrans:=QK
 total:=K7
end Tr
namespace TH
open PySem PySem.W PyProof.Rows PySem.SeqAt
theorem Vs.at{h:Heap}:∀ {t:Tr} {us:Db} {i:Nat},Vs h t us->i<us.length->∃(a:Addr) (its:Db) (c:Tr),us.getD i Value.none=.ref a/\h.IsTuple a its.toArray/\Vs h c its/\t.bs[i]? = some c/\c.deep<t.deep
 |.nil,us,i,e,hi=>by rw[Vs]at e;subst e;exact absurd hi (ak _)
 |.cons b r,us,i,e,hi=>by
  rw[Vs]at e;obtain⟨a,its,rest,rfl,Z,Y,U⟩:=e;have hd:(Tr.cons b r).deep=max (b.deep+1) r.deep:=rfl;cases i with
  |zero=>exact⟨a,its,b,rfl,Z,Y,rfl,by lia⟩
  |succ i=>
   obtain⟨a',g,c,T,R,I,B,q5⟩:=Vs.at (i:=i) U (by simpa using hi);exact⟨a',g,c,by simpa using T,R,I,by simpa[Tr.bs]using B,by lia⟩
section
variable{prog:G8}{w:Id}{A:Around}{E:AT}{s:GJ}{t u:Tr}{a b:Addr}{its its':Db}{Q:Bool->Shared->Prop}
theorem X1(T:s.heap.IsTuple a its.toArray)(B:Vs s.heap t its)(R:s.heap.IsTuple b its'.toArray)(g:Vs s.heap u its')(I:A.units+t.deep<cLine)(h:Q (Tr.lt t u) s):wpAny BY A (oneLt' false Jj (.ref b)) Q E s:=by
 rw[oneLt'_eq];simp only[Bool.false_eq_true,if_false];exact aA (Zo (t.deep+1) t u A s a b its its' (bc _) T B R g I prog w E _ (bW h))
theorem jr(h1:s.heap.IsTuple a its.toArray)(k1:Vs s.heap t its)(h2:s.heap.IsTuple b its'.toArray)(k2:Vs s.heap u its')(hu:A.units+t.deep<cLine)(h:Q (Tr.lt t u) s):wpAny BY A (oneLt' true Jj (.ref b)) Q E s:=by
 rw[oneLt'_eq];simp only[if_true];refine aA (wpAny_cRoomFor AS ?_);obtain⟨⟨cls,dd,data,sl⟩,Y,hc,n,B⟩:=id h1;obtain⟨⟨cls2,Z,data2,R⟩,U,I,n2,g⟩:=id h2;simp only at hc B I g;subst hc B I g;refine aA (wpAny_callSpecialIfBound?_slot (T := "tuple") ⟨_,Y,rfl⟩ PySem.F.slot_tuple_lt (call_meets PySem.F.slot_tuple_lt ⟨_,Y,rfl⟩ PySem.F.entry_tuple_lt (PySem.F.args_tuple_lt_2 _ _)
  (WW t.deep (Zo t.deep) a b its.toArray its'.toArray n n2 dd Z sl R t u (aH _)) ⟨Y,U,by simpa using k1,by simpa using k2,hu,?_⟩))
 exact bW h
theorem X2:∀(t u:Tr) (us vs:Db) (i:Nat),Vs s.heap t us->Vs s.heap u vs->A.units+t.deep<=cLine->Q (Tr.lt t u) s->KatLex prog w A false (decide (t.len<u.len)) Q (us.zip vs) i s
 |.nil,.nil,us,vs,i,e,f,_,h=>by
  rw[Vs]at e;subst e;rw[List.zip_nil_left];exact kat_nil h
 |.nil,.cons c q,us,vs,i,e,f,_,h=>by
  rw[Vs]at e;subst e;rw[List.zip_nil_left];refine kat_nil ?_;rw[show decide (Tr.nil.len<(Tr.cons c q).len)=true from bf (Nat.zero_lt_succ _)];exact h
 |.cons b r,.nil,us,vs,i,e,f,_,h=>by
  rw[Vs]at f;subst f;rw[List.zip_nil_right];refine kat_nil ?_;rw[show decide ((Tr.cons b r).len<Tr.nil.len)=false from bO (ak _)];exact h
 |.cons b r,.cons c q,us,vs,i,e,f,hu,h=>by
  rw[Vs]at e f;obtain⟨a,its,rest,rfl,U,T,Z⟩:=e;obtain⟨a',its',B,rfl,R,I,Y⟩:=f;have hd:(Tr.cons b r).deep=max (b.deep+1) r.deep:=rfl;rw[List.zip_cons_cons,show decide ((Tr.cons b r).len<(Tr.cons c q).len)=decide (r.len<q.len) from by simp[Tr.len]];rw[Tr.lt]at h;refine kat_cons (VJ U T R I AS prog w _ _ ?_);by_cases g:b=c
  .rw[decide_eq_true g];rw[if_pos g]at h;exact kat_yes (X2 r q rest B (i+1) Z Y AS h)
  .rw[decide_eq_false g];rw[if_neg g]at h;exact kat_no (by rw[(NG)];exact X1 U T R I AS h)
theorem ju(h1:s.heap.IsTuple a its.toArray)(R:Vs s.heap t its)(h2:s.heap.IsTuple b its'.toArray)(I:Vs s.heap u its')(hu:A.units+t.deep<cLine)(h:Q (Tr.lt t u) s):wpAny BY A (keyLt' (tuples' false) Jj (.ref b)) Q E s:=by
 obtain⟨o,Y,hc,n,hd⟩:=id h1;obtain⟨o2,g,Z,n2,B⟩:=id h2;refine kat_lt Y hd g B ?_;have U:its.toArray.size=t.len:=by rw[<-Vs.length R];simp
 have T:its'.toArray.size=u.len:=by rw[<-Vs.length I];simp
 rw[U,T];exact X2 t u its its' 0 R I AS h
def VN(κ:SortKind):Prop:=κ=general'\/κ=oneType'\/κ=tuples' false
theorem jy{κ:SortKind}(I:VN κ)(U:s.heap.IsTuple a its.toArray)(B:Vs s.heap t its)(T:s.heap.IsTuple b its'.toArray)(g:Vs s.heap u its')(R:A.units+t.deep<cLine)(h:Q (Tr.lt t u) s):wpAny BY A (keyLt' κ Jj (.ref b)) Q E s:=by
 rcases I with rfl|rfl|rfl
 .exact X1 U B T g R h
 .rw[keyLt'_oneType];exact jr U B T g R h
 .exact ju U B T g R h
theorem QP{M:Model}{h:Heap}{a:Addr}{x:Array Value}(I:h.IsTuple a x):Looks M h (typeOf Jj) Hq:=by
 obtain⟨o,g,B,_⟩:=I;exact B ▸ (Looks.ld g).andThen .now
theorem UP{M:Model}:∀(t:Tr) (us:Db) {Q:List (Option Value)->Shared->Prop},Vs s.heap t us->(∀fs:List (Option Value),(∀v,some v∈fs->Looks M s.heap (typeOf v) Hq)->Q fs s)->wpAny M A (us.mapM firstOfTuple') Q E s
 |.nil,us,Q,e,h=>by
  rw[Vs]at e;subst e;rw[List.mapM_nil];exact aB (h [] fun _ z=>by cases z)
 |.cons b r,us,Q,e,h=>by
  rw[Vs]at e;obtain⟨a,its,rest,rfl,h1,g,h3⟩:=e;obtain⟨o,R,Z,n,hd⟩:=id h1;rw[List.mapM_cons];refine aA ?_;rw[kas_first_eq];refine aA (Looks.here (show Looks M s.heap (typeOf Jj) o.cls from(Looks.ld R).andThen .now) ?_);rw[Z,if_neg (by first|decide|simp)];refine aA (listItems_at R hd (aB ?_));refine aA (UP r rest (Q:=fun bs T=>wpAny M A (pure (its.toArray[0]? :: bs)) Q E T) h3 fun fs I=>aB (h _ fun v Y=>?_));rcases aQ.mp Y with z|z
  .cases b with
   |nil=>rw[Vs]at g;subst g;simp at z
   |cons c q=>
    rw[Vs]at g;obtain⟨a',its',B,rfl,U,_⟩:=g;simp at z;subst z;exact QP U
  .exact I v z
theorem Yq{M:Model}{vs:Db}{Q:Option Value->Shared->Prop}(R:∀v∈vs,Looks M s.heap (typeOf v) Hq)(h0:vs=[]->Q none s)(T:Q (some Hq) s):wpAny M A (oneTypeOnly' vs.toArray) Q E s:=by
 rw[oneTypeOnly'_eq,List.mapM_toArray,map_eq_pure_bind];refine aA (aA (kas_mapM (r:=Value.type "tuple") _ (fun v B Y I=>(R v B).here I) (aB ?_)));cases vs with
 |nil=>exact aB (h0 rfl)
 |cons f r=>
  have g:((List.map (fun _=>Value.type "tuple") (f::r)).toArray.all fun x=>x==Value.type "tuple")=true:=by
   simp only[List.all_toArray,List.all_map,List.all_eq_true];intro _ _
   rfl
  have U:(List.map (fun _=>Value.type "tuple") (f::r)).toArray[0]? = some (Value.type "tuple"):=by simp
  rw[U];simp only[g,if_true];exact aB T
theorem k8{M:Model}{t:Tr}{us:Db}{Q:SortKind->Shared->Prop}(e:Vs s.heap t us)(h:∀κ,VN κ->Q κ s):wpAny M A (keyKind' us.toArray) Q E s:=by
 rw[kat_kind_eq,List.mapM_toArray,map_eq_pure_bind];refine aA (aA (UP t us e fun fs R=>aB ?_));split
 .refine aA (bM ?_);have e1:fs.toArray.filterMap id=(fs.filterMap id).toArray:=by simp
  rw[e1];have I:∀v∈fs.filterMap id,Looks M s.heap (typeOf v) Hq:=fun v B=>R v (by simpa using B);refine aA (Yq I (fun _=>?_) ?_)
  .exact aB (h _ (.inr (.inr rfl)))
  .exact aB (h _ (.inr (.inr rfl)))
 .split
  .exact aB (h _ (.inl rfl))
  .have I:∀v∈us,Looks M s.heap (typeOf v) Hq:=fun v B=>by
    obtain⟨i,hi,rfl⟩:=List.getElem_of_mem B;obtain⟨a,its,c,g,T,_⟩:=e.at hi;rw[(DJ),List.getElem?_eq_getElem hi]at g;simp at g;rw[g];exact QP T
   refine aA (Yq I (fun _=>?_) ?_)
   .exact aB (h _ (.inl rfl))
   .exact aB (h _ (.inr (.inl rfl)))
theorem Wb{α:Type}{cmp:Nat->Nat->(Bool->Shared->Prop)->Shared->Prop}{lt:Nat->Nat->Bool}{n:Nat}{B:α->Prop}(g:∀i j C,i<n->j<n->C (lt i j) s->cmp i j C s):∀T:KasT α,SM.Wp lt n T B->T.kasWp cmp (fun a s'=>s'=s/\B a) s
 |.ret a,h=>⟨rfl,h⟩
 |.ask i j k,h=>g i j _ h.1 h.2.1 (Wb g (k (lt i j)) h.2.2)
end
end TH
namespace TH
open PySem PySem.W PyProof.Rows PySem.SeqAt
theorem Vs.keeps{h h':Heap}(k:∀b o,h.get? b=some o->o.cls=.type "tuple" -> h'.get? b=some o):∀ {t:Tr} {us:Db},Vs h t us->Vs h' t us
 |.nil,us,e=>by rw[Vs]at e ⊢;exact e
 |.cons b r,us,e=>by
  rw[Vs]at e ⊢;obtain⟨a,its,rest,rfl,⟨o,B,g,hd⟩,R,I⟩:=e;exact⟨a,its,rest,rfl,⟨o,k _ _ B g,g,hd⟩,R.keeps k,I.keeps k⟩
theorem map_getD{α:Type}(d:α)(l:List α):(List.range l.length).map (fun i=>l.getD i d)=l:=by
 refine List.ext_getElem CH fun i B g=>?_;simp[g]
section
theorem cg(b:Bool)(us:Db)(hz:us.length<2):(if b=true then((if b=true then(us.toArray.zip us.toArray).reverse else us.toArray.zip us.toArray).map (·.2)).reverse else(if b=true then(us.toArray.zip us.toArray).reverse else us.toArray.zip us.toArray).map (·.2))=us.toArray:=by
 match us,hz with
 |[],_=>cases b<;>simp
 |[x],_=>cases b<;>simp
end
end TH
namespace ET
open PySem
section
variable{prog:G8}{w:Id}{A:Around}{E:AT}{s:GJ}
theorem next_item{it t:Addr}{i:Nat}{items}{x:KS}{Q:AT}(hit:s.heap.IsTupleIter it t i)(T:s.heap.IsTuple t items)(R:items[i]? = some x)
 (Y:∀h',h'.IsTupleIter it t (i+1)->Heap.SameBut it s.heap h'->Q x {s with heap:=h'}):wpAny BY A (Builtin.SmallTypes.nextOf (.ref it)) Q E s:=by
 obtain⟨o,g,U,hd⟩:=id hit;obtain⟨ol,B,_,nl,I⟩:=T;unfold Builtin.SmallTypes.nextOf;refine aA (aa (name:=Str.ofString "__next__") hit.typeIs F.slot_tuple_iterator_next
  (aW F.slot_tuple_iterator_next hit.typeIs F.entry_tuple_iterator_next ?_ (F.args_tuple_iterator_next_1 _)))
 show wpAny _ _ (field (.ref it) 0>>=_) _ _ s;refine aA (aZ g hd (x:=.ref t) rfl ?_);show wpAny _ _ (if(Value.ref t==Value.none)=true then _ else _) _ _ s;rw[if_neg (show ¬((Value.ref t==Value.none)=true) from aJ)];show wpAny _ _ (field (.ref it) 1>>=_) _ _ s;refine aA (aZ g hd (x:=.int i 0) rfl ?_);show wpAny _ _ (seqItems? (.ref t)>>=_) _ _ s;refine aA (ai B I ?_);simp only[Int.toNat_natCast,R];refine aA (wpAny_setField g hd CH (aB ⟨x,rfl,wpAny_pure (Y _ ?_ (af ..))⟩));exact⟨_,Heap.get?_update_self _ g (Obj.isFreed_of_fields (Obj.data_mapFields hd _)),(Obj.cls_mapFields ..).trans U,by
  rw[Obj.data_mapFields hd];simp[rawInt]⟩
theorem next_end{it t:Addr}{i:Nat}{items}{Q:AT}(R:A.handled=none)(hit:s.heap.IsTupleIter it t i)(U:s.heap.IsTuple t items)(T:items[i]? = none)
 (Y:∀h' e,Heap.ExtBut it s.heap h'->(∃o,h'.get? e=some o/\o.cls=.type "StopIteration")->E (.ref e) {s with heap:=h'}):wpAny BY A (Builtin.SmallTypes.nextOf (.ref it)) Q E s:=by
 obtain⟨o,B,Z,hd⟩:=id hit;obtain⟨ol,g,_,nl,I⟩:=U;unfold Builtin.SmallTypes.nextOf;refine aA (aa (name:=Str.ofString "__next__") hit.typeIs F.slot_tuple_iterator_next
  (aW F.slot_tuple_iterator_next hit.typeIs F.entry_tuple_iterator_next ?_ (F.args_tuple_iterator_next_1 _)))
 show wpAny _ _ (field (.ref it) 0>>=_) _ _ s;refine aA (aZ B hd (x:=.ref t) rfl ?_);show wpAny _ _ (if(Value.ref t==Value.none)=true then _ else _) _ _ s;rw[if_neg (show ¬((Value.ref t==Value.none)=true) from aJ)];show wpAny _ _ (field (.ref it) 1>>=_) _ _ s;refine aA (aZ B hd (x:=.int i 0) rfl ?_);show wpAny _ _ (seqItems? (.ref t)>>=_) _ _ s;refine aA (ai g I ?_);simp only[Int.toNat_natCast,T];refine aA (bM (aA (wpAny_setField B hd CH ?_)));show wpAny _ _ (newExc (.type "StopIteration") []>>=_) _ _ _;refine aA ?_;simp only[newExc,newTuple];refine aA (aq ?_ (by size_fits));refine aA (m:=firstArgMember _ _) (wpAny_of_eq (a:=Value.none) (by first|rfl|(simp only[firstArgMember];rfl)) ?_);refine aq ?_ (by size_fits);simp only[raiseNew];refine aA (wpAny_handled ?_)
 first|rw[show A.in1.handled=none from R]|rw[R]
 refine aA (aB (wpAny_throw ?_));exact Y _ _ (((af ..).extBut.push _).push _) ⟨_,Heap.get?_push_size _ rfl,rfl⟩
end
section
open AutoSeq1 (wpAny_loadPart')
theorem cm(l:Addr)(items:Array Value)(n:Nat)(T:Option Addr)(sl:Array (Option Value)) :
  Meets (Builtin.«enumerate.__new__» ⟨[.type "enumerate",.ref l],[]⟩) (fun _ R s=>s.heap.get? l=some { cls:=.type "tuple",dict:=T,data:=.seq items n,slots:=sl} /\
   R (.ok (.ret (.ref (s.heap.push { cls:=.type "tuple_iterator",data:=.fields #[.ref l,.int 0 0]}).objs.size)))
    {s with heap:=(s.heap.push { cls:=.type "tuple_iterator",data:=.fields #[.ref l,.int 0 0]}).push { cls:=.type "enumerate",data:=.fields #[.none,.bool false,.ref s.heap.objs.size,rawInt 0,.none,.none]} }) :=
 .of_wp fun prog w A R s h=>by
  obtain⟨Z,g,d,Y,os⟩:=s;obtain⟨B,h⟩:=h;have U:=sub_enumerate;have I:Heap.IsTuple (Shared.heap ⟨Z,g,d,Y,os⟩) l items:=⟨_,B,rfl,n,rfl⟩
  wp_walk using wpAny_loadPart' B
  refine wpAny_stack_any fun st=>aB ?_;split
  .rename_i c _ _ _ _ _;cases (c==Value.type "enumerate")
   .wp_walk using wpAny_loadPart' B,wpAny_pyIter_tuple I
    exact⟨_,rfl,h⟩
   .wp_walk using wpAny_loadPart' B,wpAny_pyIter_tuple I
    exact⟨_,rfl,h⟩
  .wp_walk using wpAny_loadPart' B,wpAny_pyIter_tuple I
   exact⟨_,rfl,h⟩
theorem dm{prog:G8}{w:Id}{A:Around}{E:AT}{s:GJ}{l:Addr}{items:Array Value}{Q:AT}(U:s.heap.IsTuple l items)
 (h:∀h',IsEnum h' KF s.heap.objs.size 0 .none->h'.IsTupleIter s.heap.objs.size l 0->h'.objs.size=s.heap.objs.size+2 ->
   (∀b o,s.heap.get? b=some o->h'.get? b=some o)->Q (.ref KF) {s with heap:=h'}) :
  wpAny BY A (call (.type "enumerate") [.ref l]) Q E s:=by
 obtain⟨⟨c,I,dt,sl⟩,T,B,n,hd⟩:=U
 replace B:c=.type "tuple" := B
 replace hd:dt=.seq items n:=hd
 subst B hd;refine callType_new F.called_enumerate As (F.typeCall_enumerate_1 _) (F.newCall_enumerate_1 _) (fun obj=>F.args_object_init_2 obj _) F.entry_enumerate_new
  (cm l items n I sl) ⟨T,?_⟩
 have g:(s.heap.push { cls:=.type "tuple_iterator",data:=.fields #[.ref l,.int 0 0]}).objs.size=s.heap.objs.size+1:=Heap.size_push ..;show _/\_;rw[g];have R:IsEnum ((s.heap.push { cls:=.type "tuple_iterator",data:=.fields #[.ref l,.int 0 0]}).push
   { cls:=.type "enumerate",data:=.fields #[.none,.bool false,.ref s.heap.objs.size,rawInt 0,.none,.none]}) KF s.heap.objs.size 0 .none:=by
  have:=aL (s.heap.push { cls:=.type "tuple_iterator",data:=.fields #[.ref l,.int 0 0]})
   (o:={ cls:=.type "enumerate",data:=.fields #[.none,.bool false,.ref s.heap.objs.size,rawInt 0,.none,.none]}) rfl
  rw[g]at this;exact this
 refine⟨⟨_,R,rfl⟩,h _ R ⟨_,Heap.get?_push_of_some _ (aL _ rfl),rfl,rfl⟩ (by rw[(IU),g]) fun b o x=>aE _ (aE _ x)⟩
end
theorem draws{prog:G8}{w:Id}{A:Around}(hh:A.handled=none)(it a:Addr)(its:Db)(hne:a≠it) :
  Draws prog w A it [it,a] its.length (fun i x=>its[i]? = some x) (fun i h=>h.IsTupleIter it a i/\h.IsTuple a its.toArray) where
 live:=fun i h st=>let⟨o,e,_⟩:=st.1;⟨o,e⟩
 frame:=fun i h h' st k=>by
  obtain⟨⟨o,e,r⟩,o2,e2,r2⟩:=st;exact⟨⟨o,k it CH o e,r⟩,o2,k a CH o2 e2,r2⟩
 item:=fun i s Q E hi st hQ=>next_item st.1 st.2 (x:=its[i]) (by simp[hi]) fun h' st' sb=>
  hQ _ h' s.toks (by simp[hi]) ⟨st',let⟨o,e,r⟩:=st.2;⟨o,(sb.2 a hne).trans e,r⟩⟩ sb
 done:=fun s Q E st hE=>next_end hh st.1 st.2 CH hE
end ET
namespace L2
open PySem PySem.Spec PyProof.Rows
section
variable{X:Cx}{pins:Cy}{σ:St}{H:Hp}{s:GJ}{h':Heap}{tk:Nat}{ch:List Addr}
theorem Inv.turn(I:Cl)(R:∀b∈ch,KI X pins H b)(keep:∀b o,b ∉ ch->s.heap.get? b=some o->h'.get? b=some o):Inv X pins σ H HU:=by
 have P7:∀b o,H b=some o->b ∉ ch:=fun b o q B=>by rw[(R b B).1]at q;cases q
 show Inv X pins σ _ {s with heap:=h',gens:=s.gens,drawn:=s.drawn,toks:=tk};refine I.step (h':=h') (g':=s.gens) (d':=s.drawn) (t':=tk) (ch:=ch) (fun b B=>?_) (fun b o _ _ g q _=>keep b o g q) (fun b o _ _ g q _=>⟨o.slots,keep b o g q⟩)
  (fun b o _ q n=>n) (fun b o g q=>⟨o,keep b o g q⟩) (fun b ys q=>q) (fun b o u q=>q)
  (fun b ps q=>⟨#[],by rw[q];simp⟩) (fun b _ o g _ q=>keep b o g q) (fun m hm=>?_) (fun b o q=>?_) I.bare
 .obtain⟨_,f1,_,f3,Y,U⟩:=R b B;exact⟨f3,f1,Y,U⟩
 .obtain⟨o,es,ep,T,r⟩:=hm;exact⟨o,es,ep,keep _ o (fun B=>(R _ B).2.1 rfl) T,r⟩
 .refine(I.BA b o q).Nx (fun c w g r=>keep c w ?_ r) (fun c r=>r) fun c ys r=>r;rcases g with rfl|g
  .exact P7 _ _ q
  .exact P7 _ _ g
theorem Inv.Rk(I:Cl)(T:∀b∈ch,KI X pins H b)(keep:∀b o,b ∉ ch->s.heap.get? b=some o->h'.get? b=some o){xs:Fa}{us:Db}(hz:xs.length<=sizeLine)(U:Vals xs us)
 (Z:h'.get? s.heap.objs.size=some { cls:=.type "tuple",data:=.seq us.toArray}):Inv X pins σ (upd H s.heap.objs.size (.tup xs)) HU:=by
 have B:H s.heap.objs.size=none:=I.BA.fresh (aH _);have neT:∀b o,s.heap.get? b=some o->b≠s.heap.objs.size:=fun b o q=>aO (aG q);have P7:∀b o,H b=some o->b ∉ ch:=fun b o q R=>by rw[(T b R).1]at q;cases q
 show Inv X pins σ _ {s with heap:=h',gens:=s.gens,drawn:=s.drawn,toks:=tk};refine I.step (h':=h') (g':=s.gens) (d':=s.drawn) (t':=tk) (ch:=ch) (fun b R=>?_) (fun b o _ _ g q _=>keep b o g q) (fun b o _ _ g q _=>⟨o.slots,keep b o g q⟩)
  (fun b o _ q n=>by rw[AR (neT b o q)];exact n) (fun b o g q=>⟨o,keep b o g q⟩) (fun b ys q=>by rw[AR (Aq q B)];exact q) (fun b o u q=>by rw[AR (Aq q B)];exact q)
  (fun b ps q=>⟨#[],by rw[AR (Aq q B),q];simp⟩) (fun b _ o g _ q=>keep b o g q) (fun m hm=>?_) (fun b o q=>?_) I.bare
 .obtain⟨_,f1,_,f3,f4,f5⟩:=T b R;exact⟨f3,f1,f4,f5⟩
 .obtain⟨o,es,ep,Y,r⟩:=hm;exact⟨o,es,ep,keep _ o (fun R=>(T _ R).2.1 rfl) Y,r⟩
 .by_cases R:b=s.heap.objs.size
  .subst R;rw[AM]at q;cases q;exact⟨hz,us,U,_,Z,rfl,_,rfl⟩
  .rw[AR R]at q;refine(I.BA b o q).Nx (fun c w g r=>keep c w ?_ r) (fun c r=>by rw[AR (Aq r B)];exact r) fun c ys r=>by rw[AR (Aq r B)];exact r
   rcases g with rfl|g
   .exact P7 _ _ q
   .exact P7 _ _ g
end
def Ts(H:Hp):Tr->List V->Prop
 |.nil,xs=>xs=[]
 |.cons b r,xs=>∃(a:Addr) (ys g:Fa),xs=.ref a::g/\H a=some (.tup ys)/\Ts H b ys/\Ts H r g
def Tv(H:Hp)(t:Tr)(v:V):Prop:=∃(a:Addr) (ys:Fa),v=.ref a/\H a=some (.tup ys)/\Ts H t ys
theorem Ts.same{H H':Hp}(e:AN H H'):∀ {t:Tr} {xs:Fa},Ts H t xs->Ts H' t xs
 |.nil,xs,h=>by rw[Ts]at h ⊢;exact h
 |.cons b r,xs,h=>by
  rw[Ts]at h ⊢;obtain⟨a,ys,g,e1,R,I,B⟩:=h;exact⟨a,ys,g,e1,e _ _ R,I.same e,B.same e⟩
theorem Tv.same{H H':Hp}{t:Tr}{v:V}(h:Tv H t v)(e:AN H H'):Tv H' t v:=let⟨a,ys,e1,B,g⟩:=h;⟨a,ys,e1,e _ _ B,g.same e⟩
def MS(H H':Hp):Prop:=∀b xs,H b=some (.tup xs)->H' b=some (.tup xs)
theorem MS.of{H H':Hp}(e:AN H H'):MS H H':=fun b xs h=>e b _ h
theorem MS.upd{H:Hp}{l:Addr}{ys:Fa}{o:HO}(g:H l=some IS):MS H (upd H l o):=fun b xs h=>by
 rw[AR (Z3 h g (by intro z;cases z))];exact h
theorem Ts.Be{H H':Hp}(e:MS H H'):∀ {t:Tr} {xs:Fa},Ts H t xs->Ts H' t xs
 |.nil,xs,h=>by rw[Ts]at h ⊢;exact h
 |.cons b r,xs,h=>by
  rw[Ts]at h ⊢;obtain⟨a,ys,g,e1,R,I,B⟩:=h;exact⟨a,ys,g,e1,e _ _ R,I.Be e,B.Be e⟩
theorem Tv.Be{H H':Hp}{t:Tr}{v:V}(h:Tv H t v)(e:MS H H'):Tv H' t v:=let⟨a,ys,e1,B,g⟩:=h;⟨a,ys,e1,e _ _ B,g.Be e⟩
theorem Ts.length{H:Hp}:∀ {t:Tr} {xs:Fa},Ts H t xs->xs.length=t.len
 |.nil,xs,h=>by rw[Ts]at h;rw[h];rfl
 |.cons b r,xs,h=>by
  rw[Ts]at h;obtain⟨a,ys,B,rfl,_,_,g⟩:=h;rw[(JO),Tr.len,g.length]
theorem Ts.len{H:Hp}{t:Tr}{xs:Fa}(h:Ts H t xs):xs.length=t.bs.length:=by rw[h.length,Tr.Jt]
theorem Ts.get{H:Hp}:∀ {t:Tr} {xs:Fa} {i:Nat} {v:V},Ts H t xs->xs[i]? = some v->∃c,t.bs[i]? = some c/\Tv H c v
 |.nil,xs,i,v,h,e=>by rw[Ts]at h;subst h;simp at e
 |.cons b r,xs,i,v,h,e=>by
  rw[Ts]at h;obtain⟨a,ys,U,rfl,T,R,I⟩:=h;cases i with
  |zero=>simp at e;subst e;exact⟨b,rfl,a,ys,rfl,T,R⟩
  |succ i=>
   obtain⟨c,B,g⟩:=I.get (i:=i) (v:=v) (by simpa using e);exact⟨c,by simpa[Tr.bs]using B,g⟩
theorem Ts.Si{H:Hp}:∀(ts:List Tr) (xs:Fa),xs.length=ts.length->(∀(i:Nat) (v:V),xs[i]? = some v->∃c,ts[i]? = some c/\Tv H c v)->Ts H (Tr.of ts) xs
 |[],xs,g,_=>by
  rw[Tr.of,Ts];exact bY (by simpa using g)
 |t::ts,[],g,_=>by simp at g
 |t::ts,x::xs,g,h=>by
  rw[Tr.of,Ts];obtain⟨c,e1,a,ys,rfl,T,R⟩:=h 0 x rfl;simp at e1;subst e1;exact⟨a,ys,xs,rfl,T,R,Ts.Si ts xs (by simpa using g) fun i v e=>by
   obtain⟨c,I,B⟩:=h (i+1) v (by simpa using e);exact⟨c,by simpa using I,B⟩⟩
theorem Ts.pick{H:Hp}{t:Tr}{xs:Fa}(h:Ts H t xs)(ix:List Nat)(hi:∀i∈ix,i<xs.length):Ts H (Tr.of (ix.map fun i=>t.bs.getD i .nil)) (ix.map fun i=>xs.getD i .CL):=by
 refine Ts.Si _ _ CH fun i v e=>?_;rw[(B7)]at e ⊢;cases q:ix[i]? with
 |none=>rw[q]at e;cases e
 |some k=>
  rw[q]at e;have I:k<xs.length:=hi k (aT q);simp only[Option.map_some,Option.some.injEq]at e;obtain⟨c,B,g⟩:=h.get (i:=k) (v:=v) (by rw[<-e,(DJ),List.getElem?_eq_getElem I];rfl);refine⟨c,?_,g⟩;simp only[Option.map_some,List.getD_eq_getElem?_getD,B]
  rfl
section
variable{X:Cx}{pins:Cy}{σ:St}{H:Hp}{s:GJ}
theorem Ts.vs(I:Cl):∀ {t:Tr} {xs:Fa} {us:Db},Ts H t xs->Vals xs us->TH.Vs s.heap t us
 |.nil,xs,us,h,r=>by
  rw[Ts]at h;subst h;cases r;rw[TH.Vs]
 |.cons b rr,xs,us,h,r=>by
  rw[Ts]at h;obtain⟨a,ys,Z,rfl,Y,U,T⟩:=h;cases r with
  |cons R B=>
   cases R;obtain⟨its,g,p,_⟩:=I.tuple (BE.of (K:=X.K) Y);rw[TH.Vs];exact⟨a,its,_,rfl,p,Ts.vs I U g,Ts.vs I T B⟩
end
def oM(K:At)(a:Addr):It :=
 ⟨fun i H=>∃xs x,BE K H a xs/\xs[i]? = some x,fun i H v H'=>∃p x,v=.ref p/\H p=none/\H'=upd H p (.tup [.int i,x])/\∀xs,BE K H a xs->xs[i]? = some x,fun i H=>∃xs,BE K H a xs/\xs.length=i⟩
theorem cx{P:G8}{w:Id}{K:At}{elts:List Expr}{x1}{pos:Pos}(a e it:Addr)(hne:e≠it) :
  Turn P w K (.Tuple elts x1 pos) (oM K a) [e,it] e (fun i h=>(∃old,IsEnum h e it (i:Nat) old)/\h.IsTupleIter it a i) where
 mem:=by simp
 obj:=fun i h st b hb=>by
  rcases aQ.mp hb with rfl|hb
  .obtain⟨⟨old,q⟩,_⟩:=st;exact⟨_,q,fun v z=>by cases z⟩
  .have e2:b=it:=by simpa using hb
   subst e2;obtain⟨_,o,q,c,d⟩:=st;exact⟨o,q,fun v z=>by rw[d]at z;cases z⟩
 keep:=fun i h h' st k=>by
  obtain⟨⟨old,q⟩,o,q2,r⟩:=st;exact⟨⟨old,k e CH _ q⟩,o,k it CH _ q2,r⟩
 item:=by
  intro X hP hw hK hc i pins s σ H E I hf st hg;subst hP hw hK;obtain⟨xs,x,hq,hx⟩:=hg;obtain⟨its,rv,p,hz⟩:=I.tuple hq;obtain⟨u,hu,ru⟩:=rv.get hx;obtain⟨⟨old,he⟩,hit⟩:=st;have hai:a≠it:=fun z=>by
   obtain⟨o,e1,c1,_⟩:=p;obtain⟨o2,e2,c2,_⟩:=hit;rw[z,e2]at e1;cases e1;rw[c1]at c2;exact absurd c2 As
  have hae:a≠e:=fun z=>by
   obtain⟨o,e1,c1,_⟩:=p;rw[z,he]at e1;cases e1;exact absurd (show Value.type "enumerate" = Value.type "tuple" from c1) As
  have hlt:i<its.length:=(aD.mp hu).1;have hE0:=hf e CH;have hI0:=hf it CH;refine wpAny_pyNext_enum_itemD (ET.draws (prog:=X.prog) (w:=X.w) (A:=X.A.in1) (I.ok.hd hc) it a its hai) he ⟨hit,p⟩ hlt hne (by simp[hne,Ne.symm hae]) fun y h' tk hy ho hs' hT hsz hk=>⟨_,rfl,wpAny_letOwnedTupleGo_enum (s:={s with heap:=h',toks:=tk+1}) ho fun h'' he'' sb=>?_⟩;have hyu:y=u:=by rw[hu]at hy;exact(ag hy).symm
  subst hyu;have keep:∀b o,b≠e->b≠it->s.heap.get? b=some o->h''.get? b=some o:=fun b o h1 h2 q=>(sb.2 b h1).trans (hk b o h1 h2 q);have hTe:s.heap.objs.size≠e:=bQ (aG he);have hTi:s.heap.objs.size≠it:=let⟨_,q,_⟩:=hit;bQ (aG q);have hT'':h''.get? s.heap.objs.size=some { cls:=.type "tuple",data:=.seq #[.int i tk,y]}:=(sb.2 _ hTe).trans hT;have hTn:H s.heap.objs.size=none:=I.BA.fresh (aH _);refine⟨.ref s.heap.objs.size,upd H s.heap.objs.size (.tup [.int i,x]),?_,rfl,⟨_,x,rfl,hTn,rfl,fun ys hy=>by rw[I.Tw hy hq];exact hx⟩,⟨⟨_,by simpa using he''⟩,?_⟩,fun b hb=>?_⟩
  .exact I.Rk (ch:=[e,it]) hf (fun b o hb q=>keep b o (fun z=>hb (by simp[z])) (fun z=>hb (by simp[z])) q) Ry (.cons ⟨tk,rfl⟩ (.cons ru .nil)) hT''
  .obtain⟨⟨o,q,r⟩,_⟩:=hs';exact⟨o,(sb.2 it (Ne.symm hne)).trans q,r⟩
  .rcases aQ.mp hb with rfl|hb
   .rw[AR (Ne.symm hTe)];exact hE0.1
   .have e2:b=it:=by simpa using hb
    subst e2;rw[AR (Ne.symm hTi)];exact hI0.1
 done:=by
  intro X hP hw hK hc i pins s σ H E I hf st hg;subst hP hw hK;obtain⟨xs,hq,hx⟩:=hg;obtain⟨its,rv,p,hz⟩:=I.tuple hq;obtain⟨⟨old,he⟩,hit⟩:=st;have hai:a≠it:=fun z=>by
   obtain⟨o,e1,c1,_⟩:=p;obtain⟨o2,e2,c2,_⟩:=hit;rw[z,e2]at e1;cases e1;rw[c1]at c2;exact absurd c2 As
  have hl:its.length=i:=by rw[<-rv.length];exact hx
  subst hl;obtain⟨f0,f1,f2,f3,f4,f5⟩:=hf it CH;exact wpAny_pyNext_enum_endD (ET.draws (prog:=X.prog) (w:=X.w) (A:=X.A.in1) (I.ok.hd hc) it a its hai) he ⟨hit,p⟩ fun h' eb=>⟨rfl,I.turned (t':=s.toks) (fun b o hb q=>eb b o hb q) f0 f1 f3 f4 f5⟩
 self:=fun _ _ _ _ _ st h=>by
  obtain⟨⟨old,he⟩,_⟩:=st;exact wpAny_pyIter_enum he h
def qj(K:At)(B:TA):TI:=fun σ H R=>B σ H fun vs g=>∃a,vs=[.ref a]/\(∃xs,BE K g a xs)/\R (oM K a) g
theorem jM{X:Cx}{elts:List Expr}{x1}{g:Pos}{a:Expr}{Y:TA}{p pos:Pos}(hg:Gl X "enumerate")(hm:X.mg "enumerate" = none)(ha:PA X [a] Y)(hs:starEach [a] X.env=[(false,eval a X.env)]:=by rfl) :
  PI X (.Tuple elts x1 g) (.Call (.Name "enumerate" p) [a] [] pos) (qj X.K Y):=by
 intro pins s σ H R I h;refine Call_ (Hh I hg hm boot_enumerate (ax (BQ (ha pos pins s σ H _ I h) fun us s1 ⟨vs,H1,T,r1,q1⟩=>?_) hs rfl));obtain⟨t,e,⟨xs,hq⟩,q⟩:=q1;subst e;cases r1 with
 |cons r rr=>
  cases rr;cases r;obtain⟨its,rv,p',hz⟩:=T.tuple hq;refine ET.dm (show s1.heap.IsTuple t its.toArray from p') fun h' Z hit hsz hk=>wpAny_pyIter_enum Z ?_;have I2:Inv X pins σ H1 {s1 with heap:=h'}:=T.kept (t':=s1.toks) hk;have hn:s1.heap.objs.size+1≠s1.heap.objs.size:=by lia
  refine⟨s1.heap.objs.size+1,[s1.heap.objs.size+1,s1.heap.objs.size],_,_,H1,rfl,I2,cx t _ _ hn,⟨⟨_,Z⟩,hit⟩,fun b hb=>?_,q⟩;have B:s1.heap.objs.size<=b:=by
   have U:b=s1.heap.objs.size+1\/b=s1.heap.objs.size:=by simpa using hb
   rcases U with z|z
   .rw[z];exact Nat.le_succ _
   .rw[z];exact aH _
  exact T.QQ B (T.BA.fresh B)
end L2
namespace TH
open PySem PySem.W PyProof.Rows PySem.SeqAt
section
variable{prog:G8}{w:Id}{A:Around}{E:AT}{s:GJ}
theorem Mp(a:Addr):Builtin.«list.sort» ⟨[.ref a],[]⟩=Builtin.«list.sort» ⟨[.ref a],[(Str.ofString "reverse",.bool false)]⟩:=by
 rw[list_sort_rev,list_sort_plain]
 rfl
theorem Pz{l:Addr}{vs:Db}{Q:List Value->Shared->Prop}(hl:s.heap.IsTuple l vs.toArray)
 (h:Q vs {s with heap:=(s.heap.push (seqObj "list" #[] 0)).update s.heap.objs.size (Obj.mapSeq (· ++ vs.toArray))})(hsz:vs.length<=sizeLine) :
    wpAny BY A (collect (.ref l)) Q E s:=by
  obtain⟨o,ho,hc,n,hd⟩:=id hl
  unfold collect
  refine aA (wpAny_runValue (codeAny_builtin entry_proto_collect' ?_))
  show wpAny _ _ (do again (.builtin "list.__iadd__" ⟨[<-newList [],.ref l],[]⟩)) _ _ s
  refine aA (wpAny_newList (aB ⟨Code.quiet_builtin _ (by decide +kernel),codeAny_builtin entry_list_iadd' ?_⟩))
  show wpAny _ _ (Builtin.List.listExtendWith GM (.ref l) GM) _ _ {s with heap:=s.heap.push (seqObj "list" #[] 0)}
  unfold Builtin.List.listExtendWith
  have ho':(s.heap.push (seqObj "list" #[] 0)).get? l=some o:=aE _ ho
  refine aA (wpAny_typeOf (T := "tuple") ⟨o,ho',hc⟩ ?_)
  have ht:(Value.type "tuple" == Value.type "tuple")=true:=by rfl
  rw[if_pos (by rw[ht];simp)]
  refine aA (listItems_at ho' hd ?_)
  refine aA (listItems_at (xs:=#[]) (n:=0) (aL _ rfl) rfl ?_)
  rw[if_neg CH]
  refine aA (listUpdate_at (xs:=#[]) (n:=0) (aL _ rfl) rfl ?_ (bH _) (by show(#[]++vs.toArray).size<=sizeLine+1;simp only[Array.size_append,List.size_toArray,List.length_nil];lia))
  refine aB ?_
  show wpAny BY A (do
      let o <-load s.heap.objs.size
      match o.data with
      |.seq xs _=>pure xs.toList
      |_=>unsupported "internal:collect") Q E {s with heap:=(s.heap.push (seqObj "list" #[] 0)).update s.heap.objs.size (Obj.mapSeq (· ++ vs.toArray))}
  refine aA (wpAny_load (get?_update_seq (aL _ rfl) _) ?_)
  show wpAny _ _ (pure ((#[]:Array Value)++vs.toArray).toList) Q E _
  rw[show((#[]:Array Value)++vs.toArray).toList=vs by simp]
  exact aB h
theorem p0{l:Addr}{vs:Db}{Q:List Value->Shared->Prop}(B:s.heap.IsList l vs.toArray\/s.heap.IsTuple l vs.toArray)
 (h:Q vs {s with heap:=(s.heap.push (seqObj "list" #[] 0)).update s.heap.objs.size (Obj.mapSeq (· ++ vs.toArray))})(g:vs.length<=sizeLine):wpAny BY A (collect (.ref l)) Q E s:=B.elim (fun z=>collect_list z h g) fun z=>Pz z h g
end
end TH
namespace Tim
open PySem PyProof.Rows
section pure
end pure
section
section pure
end pure
section pure
end pure
end
end Tim
namespace GS
open PySem PySem.W PyProof.Rows PySem.SeqAt
abbrev Ext(h0 h:Heap):Prop:=∀c o,h0.get? c=some o->h.get? c=some o
def S6(O:KeyOrd)(prog:G8)(w:Id)(κ:SortKind)(A:Around)(s:GJ)(ks:List O.α)(us:Db):Prop :=
 ∀(E:AT) (i j:Nat) (x y:O.α) (u v:KS) (Q:Bool->Shared->Prop),us[i]? = some u->us[j]? = some v->ks[i]? = some x->ks[j]? = some y->Q (O.blt x y) s->wpAny BY A (keyLt' κ u v) Q E s
structure cN(O:KeyOrd)(prog:G8)(w:Id)(h0:Heap)(r:Nat)(ks:List O.α)(us:Db):Prop where
 len:us.length=ks.length
 go:∃ok:SortKind->Prop,(∀(A:Around) (E:AT) (s:GJ) (Q:SortKind->Shared->Prop),Ext h0 s.heap->(∀κ,ok κ->Q κ s)->wpAny BY A (keyKind' us.toArray) Q E s) /\
  ∀(A:Around) (s:GJ) (κ:SortKind),Ext h0 s.heap->A.units+r<cLine->ok κ->S6 O prog w κ A s ks us
def Runs(O:KeyOrd)(prog:G8)(w:Id)(ks:List O.α):Prop :=
 ∀(d:O.α) (A:Around) (E:AT) (s:GJ) (κ:SortKind) (g:Db),g.length=ks.length->2<=g.length->S6 O prog w κ A s ks g ->
  wpAny BY A ((sortRuns').run (SortSt.mk' κ (g.toArray.zip g.toArray) #[] 7 none)) (fun r B=>B=s/\failedOf r.2=none/\∃ix:List Nat,ix.Perm (List.range g.length) /\
   (arrOf r.2).map (·.2)=(ix.map fun i=>g.getD i Value.none).toArray/\(ix.map fun i=>ks.getD i d).Pairwise O.kle) E s
theorem NX{O:KeyOrd}{prog:G8}{w:Id}{ks:List O.α}(T:ks.length<64):Runs O prog w ks:=by
 intro d A E s κ g hl h2 ask;have T:g.length<64:=by lia
 refine kat_run (Q:=fun B U=>U=s/\failedOf B=none/\∃ix:List Nat,ix.Perm (List.range g.length)/\(arrOf B).map (·.2)=(ix.map fun i=>g.getD i Value.none).toArray/\(ix.map fun i=>ks.getD i d).Pairwise O.kle)
  (G:=fun p U=>U=s/\SM.Pm g.length p/\SM.Up (O:=O) (fun i=>ks.getD i d) p g.length) rfl h2 T (fun p B U hp har hf hG=>?_)
  (TH.Wb (lt:=SM.Hr (O:=O) fun i=>ks.getD i d) (n:=g.length) (fun i j C hi R Y=>?_) _ (SM.sort AS))
 .obtain⟨rfl,hpm,Z⟩:=hG;have h1:p.toList.Perm (List.range g.length):=by simpa using Array.perm_iff_toList_perm.mp hpm.perm
  refine⟨rfl,hf,p.toList,h1,kat_snds rfl har,?_⟩;refine List.pairwise_iff_getElem.mpr fun i j hi R hij=>?_;rw[(BW),Array.length_toList,hp]at hi R;have:=Z i j AS R;have e1:∀k,k<g.length->∀I,(p.toList.map fun i=>ks.getD i d)[k]' I=ks.getD (p.getD k 0) d:=fun k I hk'=>by
   rw[List.getElem_map,Array.getElem_toList,Array.getD,dif_pos AS]
   rfl
  rw[e1 i hi,e1 j R];exact this
 .have gi:∀k,k<g.length->∃u x,g[k]? = some u/\ks[k]? = some x/\g.getD k Value.none=u/\ks.getD k d=x:=fun k I=>by
   refine⟨g[k],ks[k]' AS,List.getElem?_eq_getElem I,List.getElem?_eq_getElem AS,?_,?_⟩
   .rw[(DJ),List.getElem?_eq_getElem I];rfl
   .rw[(DJ),List.getElem?_eq_getElem AS];rfl
  obtain⟨u,x,q1,q2,q3,q4⟩:=gi i hi;obtain⟨v,y,r1,r2,r3,r4⟩:=gi j R;unfold kas_ask;rw[q3,r3];refine ask _ i j x y u v C q1 r1 q2 r2 ?_;have Y:C (O.blt (ks.getD i d) (ks.getD j d)) s:=Y;rw[q4,r4]at Y;exact Y
section
variable{O:KeyOrd}{prog:G8}{w:Id}{A:Around}{E:AT}{s:GJ}{h0:Heap}{r:Nat}{ks:List O.α}{us:Db}
theorem S6.rev{κ:SortKind}(T:us.length=ks.length)(a:S6 O prog w κ A s ks us):S6 O prog w κ A s ks.reverse us.reverse:=fun E i j x y u v Q R I B g q=>by
 have b1:=(aD.mp R).1;have b2:=(aD.mp I).1;rw[List.length_reverse]at b1 b2;rw[List.getElem?_reverse AS]at R I B g;rw[<-T]at B g;exact a E _ _ x y u v Q R I B g q
theorem gy{α:Type}{R:α->α->Prop}:∀ {l:List α},l.length<2->l.Pairwise R
 |[],_=>.nil
 |[_],_=>List.pairwise_singleton ..
 |_::_::_,h=>by simp at h;lia
theorem O9(d : O.α){a : Addr}{n : Nat}{b : Bool}{P : PySem.Fin->Shared->Prop}(C : cN O prog w h0 r ks us)(hx : Ext h0 s.heap)(ha0 : h0.objs.size<=a)(ho : s.heap.get? a = some (seqObj "list" us.toArray n))(hsz : us.length<=1000)(hr : Runs O prog w (if b then ks.reverse else ks))(hu : A.units + r < cLine)
 (h : ∀ ix : List Nat,ix.Perm (List.range us.length)->(ix.map fun i => ks.getD i d).Pairwise (fun x y => if b = true then O.kle y x else O.kle x y)->P (.done (.ret .none)) { s with heap:=sortedHeap s.heap a us (ix.map fun i => us.getD i Value.none).toArray }) :
    wpAny BY A (Builtin.«list.sort» ⟨[.ref a],[(Str.ofString "reverse",.bool b)]⟩) P E s:=by
  rw [list_sort_rev]
  have ha : a < s.heap.objs.size:=aG ho
  refine aA (listItems_at ho rfl ?_)
  refine aA (listUpdate_at ho rfl ?_ (by rw [(D8),sizeLine_eq]; lia) (bH _))
  obtain ⟨e1,ho1⟩ : ∃ e1,(s.heap.update a (Obj.mapSeq fun _ => #[])).get? a = some (seqObj "list" #[] e1):=⟨_,get?_update_seq ho (fun _ => #[])⟩
  refine aA (seqEpoch_at ho1 rfl ?_)
  refine aA (wpAny_newTuple ?_ (by show us.length<=_; rw [sizeLine_eq]; lia))
  refine aA (wpAny_newList ?_ (bH _))
  refine aY ?_
  have ho6 : (((s.heap.update a (Obj.mapSeq fun _ => #[])).push (seqObj "tuple" us.toArray 0)).push (seqObj "list" #[] 0)).get? a = some (seqObj "list" #[] e1):=by
    rw [Heap.get?_push_ne _ _ _ (by rw [size_push',Heap.size_update]; exact aO (bX ha)),Heap.get?_push_ne _ _ _ (by rw [Heap.size_update]; exact aO ha)]
    exact ho1
  have keep : Ext h0 (((s.heap.update a (Obj.mapSeq fun _ => #[])).push (seqObj "tuple" us.toArray 0)).push (seqObj "list" #[] 0)):=fun c o hc => by
    have hlt : c < h0.objs.size:=aG hc
    have hne : c≠a:=fun z => Nat.not_lt.mpr ha0 (z ▸ hlt)
    refine aE _ (aE _ ?_)
    rw [Heap.get?_update_ne _ _ _ _ hne]
    exact hx c o hc
  show wpAny BY A _ P E Fr
  dsimp only
  have step : ∀ T : Sem PySem.Fin,wpAny BY A T P E Fr ->
      wpAny BY A (if b = true then (do let _ <- rule "list.sort.reverse"; T) else T) P E Fr:=by
    intro T hT
    split
    . exact aA (bM hT)
    . exact hT
  refine step _ ?_
  obtain ⟨ok,hkind,hask⟩:=C.go
  have hl:=C.len
  by_cases h2 : us.toArray.size < 2
  . rw [if_pos h2,if_pos h2]
    refine aA (aB ?_)
    rw [StateT.run_pure]
    refine aA (aB ?_)
    dsimp only
    have hz : us.length < 2:=by simpa using h2
    have hout:=TH.cg b us hz
    refine aA (seqEpoch_at ho6 rfl ?_)
    refine aA (listUpdate_at ho6 rfl ?_ (bH _) (by
      refine aR (Nat.le_of_eq (ay Array.size hout)) ?_
      rw [(D8),sizeLine_eq]; lia))
    simp only [bne_self_eq_false,Bool.false_eq_true,if_false]
    have fin:=h (List.range us.length) (.refl _) (gy (by simpa using hz))
    rw [TH.map_getD] at fin
    rw [<- hout] at fin
    exact aB fin
  . rw [if_neg h2,if_neg h2]
    have hz : 2<=us.length:=by simpa using h2
    refine aA (hkind A E Fr _ keep fun κ hκ => ?_)
    have ask:=hask A Fr κ keep hu hκ
    obtain ⟨ws,kw,aw,hwl,hwk,hws,hrw,pick⟩ : ∃ (ws : List Value) (kw : List O.α),S6 O prog w κ A { s with heap:=((s.heap.update a (Obj.mapSeq fun _ => #[])).push (seqObj "tuple" us.toArray 0)).push (seqObj "list" #[] 0) } kw ws/\ws.length = us.length/\ws.length = kw.length /\
        (if b = true then (us.toArray.zip us.toArray).reverse else us.toArray.zip us.toArray) = ws.toArray.zip ws.toArray/\Runs O prog w kw /\
        ∀ ix : List Nat,ix.Perm (List.range ws.length)->(ix.map fun i => kw.getD i d).Pairwise O.kle->∃ iy : List Nat,iy.Perm (List.range us.length)/\(iy.map fun i => ks.getD i d).Pairwise (fun x y => if b = true then O.kle y x else O.kle x y) /\
          (if b = true then ((ix.map fun i => ws.getD i Value.none).toArray).reverse else (ix.map fun i => ws.getD i Value.none).toArray) = (iy.map fun i => us.getD i Value.none).toArray:=by
      cases b with
      | false => exact ⟨us,ks,ask,rfl,hl,rfl,hr,fun ix h1 h2 => ⟨ix,h1,by simpa using h2,rfl⟩⟩
      | true=>
        refine ⟨us.reverse,ks.reverse,ask.rev hl,by simp,by simp [hl],kat_pairs (ks:=us) (vs:=us) true rfl,hr,fun ix h1 h2 => ⟨(ix.map fun i => us.length - 1 - i).reverse,?_,?_,?_⟩⟩
        . rw [List.length_reverse] at h1
          refine (List.reverse_perm _).trans ((h1.map fun i => us.length - 1 - i).trans ?_)
          have : (List.range us.length).map (fun i => us.length - 1 - i) = (List.range us.length).reverse:=by
            refine List.ext_getElem CH fun i a1 a2 => ?_
            simp
          rw [this]
          exact List.reverse_perm _
        . have hb : ∀ i∈ix,i < us.length:=fun i hi => by simpa using h1.mem_iff.mp hi
          have e : ((ix.map fun i => us.length - 1 - i).reverse.map fun i => ks.getD i d) = (ix.map fun i => ks.reverse.getD i d).reverse:=by
            rw [List.map_reverse,(Hc)]
            congr 1
            exact List.map_congr_left fun i hi => by
              have:=hb i hi
              show ks.getD (us.length - 1 - i) d = _
              rw [(DJ),(DJ),List.getElem?_reverse AS,hl]
          rw [e,List.pairwise_reverse]
          simpa using h2
        . have hb : ∀ i∈ix,i < us.length:=fun i hi => by simpa using h1.mem_iff.mp hi
          rw [if_pos rfl,List.map_reverse,(Hc),List.reverse_toArray]
          congr 2
          exact List.map_congr_left fun i hi => by
            have:=hb i hi
            show us.reverse.getD i Value.none = us.getD (us.length - 1 - i) Value.none
            rw [(DJ),(DJ),List.getElem?_reverse AS]
    rw [hws]
    refine aA (ao (hrw d A E Fr κ ws hwk AS aw) ?_ fun _ _ z => z)
    rintro ⟨⟨⟩,st'⟩ s' ⟨rfl,hf,ix,hix,hout,hst⟩
    dsimp only
    refine aA (seqEpoch_at ho6 rfl ?_)
    obtain ⟨iy,y1,y2,hfin⟩ : ∃ iy : List Nat,iy.Perm (List.range us.length)/\(iy.map fun i => ks.getD i d).Pairwise (fun x y => if b = true then O.kle y x else O.kle x y) /\
        (if b = true then ((arrOf st').map (·.2)).reverse else (arrOf st').map (·.2)) = (iy.map fun i => us.getD i Value.none).toArray:=by
      rw [show (arrOf st').map (·.2) = _ from hout]
      exact pick ix hix hst
    refine aA (listUpdate_at ho6 rfl ?_ (bH _) (by
      refine aR (Nat.le_of_eq (ay Array.size hfin)) ?_
      have:=y1.length_eq
      rw [(Qm)] at this
      rw [(D8),(BW),this,sizeLine_eq]; lia))
    rw [show failedOf st' = none from hf]
    simp only [bne_self_eq_false,Bool.false_eq_true,if_false]
    have fin:=h iy y1 y2
    rw [<- hfin] at fin
    exact aB fin
def Ko(prog:G8)(w:Id)(A:Around)(E:AT)(s:GJ)(v:KS)(us:Db):Prop :=
 ∀Q:List Value->Shared->Prop,(∀(g:Heap) (B:Nat),Ext s.heap g->s.heap.objs.size<=g.objs.size->Q us {s with heap:=g,toks:=B})->wpAny BY A (collect v) Q E s
theorem VC{l:Addr}(B:s.heap.IsList l us.toArray)(hz:us.length<=1000):Ko prog w A E s (.ref l) us:=fun Q h=>by
 refine collect_list B (h _ _ (fun c o q=>?_) ?_) (by rw[sizeLine_eq];lia)
 .have g:c<s.heap.objs.size:=aG q;rw[Heap.get?_update_ne _ _ _ _ (aO g),Heap.get?_push_ne _ _ _ (aO g)];exact q
 .rw[Heap.size_update,size_push']
  lia
theorem XQ{l:Addr}(B:s.heap.IsTuple l us.toArray)(hz:us.length<=1000):Ko prog w A E s (.ref l) us:=fun Q h=>by
 refine TH.Pz B (h _ _ (fun c o q=>?_) ?_) (by rw[sizeLine_eq];lia)
 .have g:c<s.heap.objs.size:=aG q;rw[Heap.get?_update_ne _ _ _ _ (aO g),Heap.get?_push_ne _ _ _ (aO g)];exact q
 .rw[Heap.size_update,size_push']
  lia
theorem P5(d:O.α){b:Bool}{Q:AT}{g:Heap}{tk:Nat}{T:Sem PySem.Fin}(C:cN O prog w s.heap r ks us)(hsz:us.length<=1000)(hr:Runs O prog w (if b then ks.reverse else ks))(x1:Ext s.heap g)(U:s.heap.objs.size<=g.objs.size)
 (h:∀(h':Heap) (D tk:Nat) (ix:List Nat) (e1:Nat),s.heap.objs.size<=D->Ext s.heap h'->h'.get? D=some (seqObj "list" (ix.map fun i=>us.getD i Value.none).toArray e1)->ix.Perm (List.range us.length)->(ix.map fun i=>ks.getD i d).Pairwise (fun x y=>if b=true then O.kle y x else O.kle x y)->Q (.ref D) HU) :
  (g.push (seqObj "list" us.toArray 0)).get? g.objs.size=some (seqObj "list" us.toArray 0)/\Ext s.heap (g.push (seqObj "list" us.toArray 0)) /\
  ∀ix:List Nat,ix.Perm (List.range us.length)->(ix.map fun i=>ks.getD i d).Pairwise (fun x y=>if b=true then O.kle y x else O.kle x y)->Q (.ref g.objs.size) {s with heap:=sortedHeap (g.push (seqObj "list" us.toArray 0)) g.objs.size us (ix.map fun i=>us.getD i Value.none).toArray,toks:=tk}:=by
 have R:(g.push (seqObj "list" us.toArray 0)).get? g.objs.size=some (seqObj "list" us.toArray 0):=aL _ rfl;refine⟨R,fun b u e=>aE _ (x1 b u e),fun ix Z Y=>?_⟩;obtain⟨e1,B⟩:=sortedHeap_at (vs:=us) (out:=(ix.map fun i=>us.getD i Value.none).toArray) R;refine h _ g.objs.size tk ix e1 U (fun b u e=>?_) B Z Y;have I:b<g.objs.size:=aG (x1 b u e);rw[sortedHeap_old (aO I) (by rw[(IU)];exact bX I)];exact aE _ (x1 b u e)
theorem fV(d:O.α){v:KS}{Q:AT}(G:Ko prog w A.in1 E s v us)(C:cN O prog w s.heap r ks us)(g:us.length<=1000)(I:Runs O prog w ks)(hu:A.units+2+r<cLine)
 (h:∀(h':Heap) (D tk:Nat) (ix:List Nat) (e1:Nat),s.heap.objs.size<=D->Ext s.heap h'->h'.get? D=some (seqObj "list" (ix.map fun i=>us.getD i Value.none).toArray e1)->ix.Perm (List.range us.length)->(ix.map fun i=>ks.getD i d).Pairwise O.kle->Q (.ref D) HU) :
  wpAny BY A (call (.builtin "sorted") [v]) Q E s:=by
 refine Calls.call_function_entry kind_sorted plain_sorted entry_sorted (args_sorted1 _) ?_;unfold Builtin.«sorted»;refine aA (m:=checkCount "sorted" 1 1 _) (aB ?_);refine aA (G _ fun h1 tk Y B=>?_);refine aA (wpAny_newList ?_ (by rw[sizeLine_eq];lia));obtain⟨R,U,fin⟩:=P5 (T:=pure (.done (.ret .none))) (tk:=tk) (b:=false) d C g (by simpa using I) Y B (fun h' D tk ix e1 a1 a2 a3 a4 a5=>h h' D tk ix e1 a1 a2 a3 a4 (by simpa using a5));refine aA (aY (aW slot_list_sort ⟨_,R,rfl⟩ entry_list_sort ?_ (args_list_sort _)));rw[TH.Mp];refine O9 (s:={s with heap:=h1.push (seqObj "list" us.toArray 0),toks:=tk}) d C U B R g (by simpa using I) (by rw[show A.in1.in1.units=A.units+2 from rfl];lia) fun ix p1 Z=>⟨_,rfl,?_⟩;exact aB ⟨_,rfl,fin ix p1 Z⟩
theorem fN(d:O.α){v:KS}{b:Bool}{Q:AT}(G:Ko prog w A.in1 E s v us)(C:cN O prog w s.heap r ks us)(g:us.length<=1000)(I:Runs O prog w (if b then ks.reverse else ks))(hu:A.units+2+r<cLine)
 (h:∀(h':Heap) (D tk:Nat) (ix:List Nat) (e1:Nat),s.heap.objs.size<=D->Ext s.heap h'->h'.get? D=some (seqObj "list" (ix.map fun i=>us.getD i Value.none).toArray e1)->ix.Perm (List.range us.length)->(ix.map fun i=>ks.getD i d).Pairwise (fun x y=>if b=true then O.kle y x else O.kle x y)->Q (.ref D) HU) :
  wpAny BY A (call (.builtin "sorted") [v] [(Str.ofString "reverse",.bool b)]) Q E s:=by
 refine call_function_entry_kw kind_sorted plain_sorted entry_sorted (args_sorted_rev _ _) ?_;unfold Builtin.«sorted»;refine aA (m:=checkCount "sorted" 1 1 _) (aB ?_);refine aA (G _ fun h1 tk Y B=>?_);refine aA (wpAny_newList ?_ (by rw[sizeLine_eq];lia));obtain⟨R,U,fin⟩:=P5 (T:=pure (.done (.ret .none))) (tk:=tk) (b:=b) d C g I Y B h;refine aA (aY (wpAny_call_entry_kw slot_list_sort ⟨_,R,rfl⟩ entry_list_sort ?_ (args_list_sort_rev _ _)));refine O9 (s:={s with heap:=h1.push (seqObj "list" us.toArray 0),toks:=tk}) d C U B R g I (by rw[show A.in1.in1.units=A.units+2 from rfl];lia) fun ix p1 Z=>⟨_,rfl,?_⟩;exact aB ⟨_,rfl,fin ix p1 Z⟩
end
end GS
namespace TH
open PySem PySem.W PyProof.Rows PySem.SeqAt
section
variable{prog:G8}{w:Id}{A:Around}{E:AT}{s:GJ}
theorem V6{h0:Heap}{t:Tr}{us:Db}(e:Vs h0 t us):GS.cN Tr.ord prog w h0 t.deep t.bs us:=by
 have hl:=e.length.trans (Tr.Jt t).symm;refine⟨hl,VN,fun A E s Q x k=>k8 (e.keeps fun b o q _=>x b o q) k,fun A s κ x hu B E i j y z u v Q g h2 I h4 q=>?_⟩;have e':=e.keeps fun b o q _=>x b o q;have get:∀ {i:Nat} {u:KS} {y:Tr},us[i]? = some u->t.bs[i]? = some y->∃(a:Addr) (its:Db),u=.ref a/\s.heap.IsTuple a its.toArray/\Vs s.heap y its/\y.deep<t.deep:=fun {i u y} g I=>by
  have hi:=(aD.mp g).1;obtain⟨a,its,c,T,q2,Z,R,Y⟩:=e'.at hi;rw[(DJ),g]at T;rw[I]at R;cases R;exact⟨a,its,T,q2,Z,Y⟩
 obtain⟨a,its,rfl,a2,a3,a4⟩:=get g I;obtain⟨b,U,rfl,b2,b3,b4⟩:=get h2 h4;exact jy B a2 a3 b2 b3 AS q
theorem cA{t:Tr}{n:Nat}(g:n=t.bs.length){ix:List Nat}(p:ix.Perm (List.range n)):ix.length=n/\(∀i∈ix,i<n)/\(ix.map fun i=>t.bs.getD i .nil).Perm t.bs:=by
 refine⟨by rw[p.length_eq,(Qm)],fun i hi=>bD.mp (p.mem_iff.mp hi),?_⟩;have:=p.map fun i=>t.bs.getD i Tr.nil;rw[g,map_getD]at this;exact this
theorem Uv{h0:Heap}{a:Addr}{us:Db}{t:Tr}{n:Nat}{P:PySem.Fin->Shared->Prop}(U:∀c o,h0.get? c=some o->s.heap.get? c=some o)(ha:h0.objs.size<=a)(Z:s.heap.get? a=some (seqObj "list" us.toArray n))(e:Vs h0 t us)(h64:us.length<64)(Y:A.units+t.deep<cLine)
 (h:∀ix:List Nat,ix.length=us.length->(∀i∈ix,i<us.length)->(ix.map fun i=>t.bs.getD i .nil)=(Tr.FR t.bs).reverse->P (.done (.ret .none)) {s with heap:=sortedHeap s.heap a us (ix.map fun i=>us.getD i Value.none).toArray}) :
  wpAny BY A (Builtin.«list.sort» ⟨[.ref a],[]⟩) P E s:=by
 have hl:=e.length.trans (Tr.Jt t).symm;rw[Mp];refine GS.O9 (b:=false) Tr.nil (V6 e) U ha Z AS (GS.NX (by show t.bs.length<64;lia)) Y fun ix T R=>?_;obtain⟨I,B,g⟩:=cA hl T;exact h ix I B (Tr.Sm (List.Pairwise.imp (S:=fun a b=>Tr.lt b a=false) (fun {x y} z=>by first|exact z|(rw[if_neg aJ]at z;exact z)) R) g)
theorem pw{v:KS}{us:Db}{t:Tr}{Q:AT}(G:GS.Ko prog w A.in1 E s v us)(e:Vs s.heap t us)(Z:us.length<64)(U:A.units+2+t.deep<cLine)
 (h:∀(h':Heap) (D tk:Nat) (ix:List Nat) (e1:Nat),ix.length=us.length->(∀i∈ix,i<us.length)->(ix.map fun i=>t.bs.getD i .nil)=(Tr.FR t.bs).reverse->s.heap.objs.size<=D->(∀c o,s.heap.get? c=some o->h'.get? c=some o) ->
   h'.get? D=some (seqObj "list" (ix.map fun i=>us.getD i Value.none).toArray e1)->Q (.ref D) HU) :
  wpAny BY A (call (.builtin "sorted") [v]) Q E s:=by
 have Y:=e.length.trans (Tr.Jt t).symm;refine GS.fV Tr.nil G (V6 e) AS (GS.NX (by show t.bs.length<64;lia)) U fun h' D tk ix e1 a1 a2 a3 T R=>?_;obtain⟨I,B,g⟩:=cA Y T;exact h h' D tk ix e1 I B (Tr.Sm (List.Pairwise.imp (S:=fun a b=>Tr.lt b a=false) (fun {x y} z=>by first|exact z|(rw[if_neg aJ]at z;exact z)) R) g) a1 a2 a3
theorem O2{v:KS}{us:Db}{t:Tr}{Q:AT}(G:GS.Ko prog w A.in1 E s v us)(e:Vs s.heap t us)(Z:us.length<64)(U:A.units+2+t.deep<cLine)
 (h:∀(h':Heap) (D tk:Nat) (ix:List Nat) (e1:Nat),ix.length=us.length->(∀i∈ix,i<us.length)->(ix.map fun i=>t.bs.getD i .nil)=Tr.FR t.bs->s.heap.objs.size<=D->(∀c o,s.heap.get? c=some o->h'.get? c=some o) ->
   h'.get? D=some (seqObj "list" (ix.map fun i=>us.getD i Value.none).toArray e1)->Q (.ref D) HU) :
  wpAny BY A (call (.builtin "sorted") [v] [(Str.ofString "reverse",.bool true)]) Q E s:=by
 have Y:=e.length.trans (Tr.Jt t).symm;refine GS.fN (b:=true) Tr.nil G (V6 e) AS (GS.NX (by show t.bs.reverse.length<64;rw[List.length_reverse];lia)) U fun h' D tk ix e1 a1 a2 a3 T R=>?_;obtain⟨I,B,g⟩:=cA Y T;exact h h' D tk ix e1 I B (Tr.eo (List.Pairwise.imp (S:=fun a b=>Tr.lt a b=false) (fun {x y} z=>by rw[if_pos rfl]at z;exact z) R) g) a1 a2 a3
end
end TH
namespace L2
open PySem PySem.Spec PyProof.Rows
theorem Vals.pick{xs:Fa}{us:Db}(r:Vals xs us):∀ix:List Nat,(∀i∈ix,i<xs.length)->Vals (ix.map fun i=>xs.getD i .CL) (ix.map fun i=>us.getD i Value.none)
 |[],_=>.nil
 |i::ix,h=>by
  refine .cons ?_ (Vals.pick r ix fun k g=>h k (aV _ g));have hi:=h i aX;obtain⟨u,I,B⟩:=r.get (i:=i) (x:=xs[i]) (by simp[hi]);show RelV (xs.getD i .CL) (us.getD i Value.none);rw[(DJ),(DJ),I,List.getElem?_eq_getElem hi];exact B
section
variable{X:Cx}
def cQ(K:At):List V->Hp->VK->Prop:=fun xs H Q=>∃(p:Addr) (ys:Fa) (t:Tr),xs=[.ref p]/\(Ax K H p ys\/BE K H p ys)/\Ts H t ys/\ys.length<64/\t.deep<=60 /\
 ∀(l:Addr) (g:Fa),H l=none->Ts H (Tr.of (Tr.FR t.bs)) g->Q (.ref l) (upd H l (.lst g))
theorem VL{pins:Cy}{σ:St}{H:Hp}{s:GJ}{Q:VK}{t:Tr}{ts:List Tr}{ys:Fa}{its:Db}{h':Heap}{D tk:Nat}{ix:List Nat}{e1:Nat}(I:Cl)(Y:Ts H t ys)(R:Vals ys its)(B:ys.length<64)
 (a1:ix.length=its.length)(a2:∀i∈ix,i<its.length)(a3:(ix.map fun i=>t.bs.getD i .nil)=ts)(T:s.heap.objs.size<=D)(keep:∀c o,s.heap.get? c=some o->h'.get? c=some o)
 (Z:h'.get? D=some (seqObj "list" (ix.map fun i=>its.getD i Value.none).toArray e1))(q:∀(l:Addr) (zs:Fa),H l=none->Ts H (Tr.of ts) zs->Q (.ref l) (upd H l (.lst zs))) :
  EP X pins σ Q (.ref D) HU:=by
 have U:=R.length;have g:∀i∈ix,i<ys.length:=fun i hi=>by rw[U];exact a2 i hi
 refine⟨.ref D,upd H D (.lst (ix.map fun i=>ys.getD i .CL)),I.laid (t':=tk) keep T ⟨?_,_,e1,R.pick ix g,Z⟩,rfl,q _ _ (I.BA.fresh T) ?_⟩
 .rw[(BW),a1,<-U];exact av (aI B (by rw[sizeLine_eq];decide))
 .rw[<-a3];exact Y.pick ix g
theorem iE{e:Expr}{t:TA}{p pos kp kp2:Pos}{j}(hu:X.A.units+64<cLine)(hg:Gl X "sorted")(hm:X.mg "sorted" = none)(ha:PA X [e] t)
 (he:backTo pos (starEach [e] X.env)=(false,eval e X.env)::backTo pos (starEach [] X.env):=by rfl)(g:(backTo pos (starEach [e] X.env)).any (·.1)=false:=by rfl) :
  PE X (.Call (.Name "sorted" p) [e] [⟨some "reverse",.Constant (.bool true) j kp2,kp⟩] pos) (fun σ H Q=>t σ H fun vs H1=>cQ X.K vs H1 Q):=by
 intro pins s σ H Q I h;refine wpAny_Call_Name_kw (Hh I hg hm boot_sorted ?_ As As);refine callWith_kw (BQ (ha pos pins s σ H _ I h) fun us s1 ⟨vs,H1,R,r1,q1⟩=>kws_cons (Constant_bool (kws_nil ?_))) he g;obtain⟨p,ys,t,rfl,T,Y,U,hd,q⟩:=q1;obtain⟨u,rfl,r2⟩:=r1.one;cases r2;rcases T with T|T
 .obtain⟨its,B,Z,hz⟩:=R.list T;have hl:=B.length;exact TH.O2 (GS.VC Z.isList AS) (Y.vs R B) AS AS fun h' D tk ix e1 a1 a2 a3 lD keep hD=>VL R Y B U a1 a2 a3 lD keep hD q
 .obtain⟨its,B,Z,hz⟩:=R.tuple T;have hl:=B.length;exact TH.O2 (GS.XQ (show s1.heap.IsTuple p its.toArray from Z) AS) (Y.vs R B) AS AS fun h' D tk ix e1 a1 a2 a3 lD keep hD=>VL R Y B U a1 a2 a3 lD keep hD q
end
def CW(Pv:Nat->List V->Hp->Prop)(n:Nat)(D:Addr):Nat->Nat->List V->Hp->Prop:=fun i m ys H=>m=n-i/\i<=n/\H D=some IS/\Pv i ys H
theorem HP{Pv:Nat->List V->Hp->Prop}{n i:Nat}{D:Addr}{ys:Fa}{y:V}{H:Hp}(hi:i<n)(p:Pv (i+1) (ys++[y]) (upd H D (.lst (ys++[y])))):∃g,g<n-i/\CW Pv n D (i+1) g (ys++[y]) (upd H D (.lst (ys++[y]))) :=
 ⟨n-(i+1),by lia,rfl,hi,AM,p⟩
theorem jt{Pv:Nat->List V->Hp->Prop}{n i:Nat}{D:Addr}{ys:Fa}{H:Hp}(hi:i<n)(B:H D=some IS)(p:Pv (i+1) ys H):∃g,g<n-i/\CW Pv n D (i+1) g ys H:=⟨n-(i+1),by lia,rfl,hi,B,p⟩
theorem JK{J:It}{n:Nat}{D:Addr}{H1:Hp}{fr:Iv}{σ:St}{ix:Nat}{I:TT}{te:TE}{G:Hp->Prop}(Pv:Nat->List V->Hp->Prop)(h0:Pv 0 [] (upd H1 D (.lst [])))
 (Y:∀i ys H,i<n->Pv i ys H->H D=some IS->J.go i H/\ys.length<sizeLine/\∀x H',J.Fw i H x H' ->
   I ((carry fr σ).set ix (some x)) H' fun b T=>if b=true then te ((carry fr σ).set ix (some x)) T fun y R=>R D=some IS/\∃g,g<n-i/\CW Pv n D (i+1) g (ys++[y]) (upd R D (.lst (ys++[y])))
    else ∃g,g<n-i/\CW Pv n D (i+1) g ys T)
 (B:∀ys H,Pv n ys H->H D=some IS->J.stop n H/\G H) :
  ∃W:Nat->Nat->List V->Hp->Prop,(∃m,W 0 m [] (upd H1 D (.lst []))) /\
   ∀i m ys H,W i m ys H->H D=some IS/\((J.stop i H/\G H)\/(J.go i H/\ys.length<sizeLine/\∀x H',J.Fw i H x H' ->
    I ((carry fr σ).set ix (some x)) H' fun b T=>if b=true then te ((carry fr σ).set ix (some x)) T fun y R=>R D=some IS/\∃g,g<m/\W (i+1) g (ys++[y]) (upd R D (.lst (ys++[y])))
     else ∃g,g<m/\W (i+1) g ys T)):=by
 refine⟨CW Pv n D,⟨n,by simp,Nat.zero_le _,AM,h0⟩,?_⟩;rintro i m ys H ⟨rfl,hi,Z,p⟩;refine⟨Z,?_⟩;by_cases U:i<n
 .exact .inr (Y i ys H U p Z)
 .have e:i=n:=by lia
  subst e;exact .inl (B ys H p Z)
section
variable{X:Cx}
theorem QU(hc:X.calm=true):FV X (.builtin "sum") (fun xs H Q=>∃(p:Addr) (ns:List Int),xs=[.ref p]/\Ax X.K H p (ns.map V.int)/\Q (.int ns.sum) H):=by
 intro pins s σ H xs us Q I r h;obtain⟨p,ns,rfl,hq,q⟩:=h;obtain⟨u,rfl,Y⟩:=r.one;cases Y;obtain⟨its,U,Z,hz⟩:=I.list hq;have hi:=intsAre_of U;obtain⟨xs,R⟩:=hi.allInts.items;have g:s.heap.IsList p (intItems xs):=R ▸ Z.isList
 refine sum_intListG (I.ok.hd hc) g fun h' T B hk=>?_;have e1:ns=xs.toList.map (·.1):=by
  rw[<-nums_intItems,<-R];exact(show numsOf its.toArray.toList=ns from hi.numsOf).symm
 have e2:preSum (numAt xs) xs.size=ns.sum:=by
  rw[preSum_eq,List.take_of_length_le CH,e1]
 rw[e2];exact⟨.int _,H,I.kept (t':=T) hk,⟨B,rfl⟩,q⟩
end
section
variable{X:Cx}{scope:Scope}{cl:List (Str×Addr)}{N:KP}{C:Addr}{s₀:GJ}{H₀:Hp}{fp:List Addr}
theorem Pd:QL EQ (fg X.K):=B5
end
mutual
def Dt(l:Addr)(H:Hp):PyData->V->Prop
 |.none,v=>v=.CL
 |.bool b,v=>v=.bl b
 |.int i,v=>v=.int i
 |.str x,v=>v=.str x
 |.tuple g,v=>∃(a:Addr) (xs:Fa),v=.ref a/\a≠l/\H a=some (.tup xs)/\Ap l H g xs
 |.list g,v=>∃(a:Addr) (xs:Fa),v=.ref a/\a≠l/\H a=some (.lst xs)/\Ap l H g xs
 |.dict _,_=>False
def Ap(l:Addr)(H:Hp):List PyData->List V->Prop
 |[],xs=>xs=[]
 |d::g,xs=>∃x r,xs=x::r/\Dt l H d x/\Ap l H g r
end
mutual
theorem Dt.but{l:Addr}{H H':Hp}(e:SameBut l H H'):∀ {d:IR} {v:V},Dt l H d v->Dt l H' d v
 |.none,_,h=>by rw[Dt]at h ⊢;exact h
 |.bool _,_,h=>by rw[Dt]at h ⊢;exact h
 |.int _,_,h=>by rw[Dt]at h ⊢;exact h
 |.str _,_,h=>by rw[Dt]at h ⊢;exact h
 |.tuple _,_,h=>by
  rw[Dt]at h ⊢;obtain⟨a,xs,e1,n,B,g⟩:=h;exact⟨a,xs,e1,n,e _ _ n B,Ap.but e g⟩
 |.list _,_,h=>by
  rw[Dt]at h ⊢;obtain⟨a,xs,e1,n,B,g⟩:=h;exact⟨a,xs,e1,n,e _ _ n B,Ap.but e g⟩
 |.dict _,_,h=>by rw[Dt]at h;exact h.elim
theorem Ap.but{l:Addr}{H H':Hp}(e:SameBut l H H'):∀ {ds:Ch} {xs:Fa},Ap l H ds xs->Ap l H' ds xs
 |[],_,h=>by rw[Ap]at h ⊢;exact h
 |_::_,_,h=>by
  rw[Ap]at h ⊢;obtain⟨x,r,e1,B,g⟩:=h;exact⟨x,r,e1,Dt.but e B,Ap.but e g⟩
end
theorem Dt.same{l:Addr}{H H':Hp}{d:IR}{v:V}(h:Dt l H d v)(e:AN H H'):Dt l H' d v:=Dt.but (.of e) h
theorem Ap.same{l:Addr}{H H':Hp}{d:Ch}{v:Fa}(h:Ap l H d v)(e:AN H H'):Ap l H' d v:=Ap.but (.of e) h
theorem Ap.len{l:Addr}{H:Hp}:∀ {ds:Ch} {xs:Fa},Ap l H ds xs->xs.length=ds.length
 |[],_,h=>by rw[Ap]at h;rw[h];rfl
 |_::_,_,h=>by
  rw[Ap]at h;obtain⟨x,r,rfl,_,g⟩:=h;rw[(JO),(JO),Ap.len g]
theorem Ap.get{l:Addr}{H:Hp}:∀ {ds:Ch} {xs:Fa} {i:Nat} {v:V},Ap l H ds xs->xs[i]? = some v->∃d,ds[i]? = some d/\Dt l H d v
 |[],_,i,v,h,e=>by rw[Ap]at h;subst h;simp at e
 |d::ds,_,i,v,h,e=>by
  rw[Ap]at h;obtain⟨x,r,rfl,R,I⟩:=h;cases i with
  |zero=>simp at e;subst e;exact⟨d,rfl,R⟩
  |succ i=>
   obtain⟨c,B,g⟩:=I.get (i:=i) (v:=v) (by simpa using e);exact⟨c,by simpa using B,g⟩
theorem Ap.nil{l:Addr}{H:Hp}:Ap l H [] []:=by rw[Ap]
theorem Ap.cons{l:Addr}{H:Hp}{d:IR}{ds:Ch}{x:V}{xs:Fa}(h:Dt l H d x)(k:Ap l H ds xs):Ap l H (d::ds) (x::xs):=by
 rw[Ap];exact⟨x,xs,rfl,h,k⟩
theorem Ap.app{l:Addr}{H:Hp}:∀ {ds es:Ch} {xs ys:Fa},Ap l H ds xs->Ap l H es ys->Ap l H (ds++es) (xs++ys)
 |[],_,_,_,h,k=>by rw[Ap]at h;subst h;exact k
 |d::ds,es,_,ys,h,k=>by
  rw[Ap]at h;obtain⟨x,r,rfl,B,g⟩:=h;exact .cons B (g.app k)
theorem Dt.int{l:Addr}{H:Hp}{i:Int}:Dt l H (.int i) (.int i):=by rw[Dt]
theorem Dt.bool{l:Addr}{H:Hp}{b:Bool}:Dt l H (.bool b) (.bl b):=by rw[Dt]
theorem Dt.CL{l:Addr}{H:Hp}:Dt l H .none .CL:=by rw[Dt]
theorem Dt.str{l:Addr}{H:Hp}{x:Str}:Dt l H (.str x) (.str x):=by rw[Dt]
theorem Dt.tup{l a:Addr}{H:Hp}{ds:Ch}{xs:Fa}(n:a≠l)(h:H a=some (.tup xs))(k:Ap l H ds xs):Dt l H (.tuple ds) Jj:=by rw[Dt];exact⟨a,xs,rfl,n,h,k⟩
theorem Dt.lst{l a:Addr}{H:Hp}{ds:Ch}{xs:Fa}(n:a≠l)(h:H a=some (.lst xs))(k:Ap l H ds xs):Dt l H (.list ds) Jj:=by rw[Dt];exact⟨a,xs,rfl,n,h,k⟩
def Ok(n:Nat)(d:IR):Prop:=d.canLay0=true/\d.depth<=n
def bx(n:Nat)(ds:Ch):Prop:=PyData.canLayAll0 ds=true/\PyData.depthAll ds<=n
theorem Ok.shaped{n:Nat}{d:IR}(h:Ok n d)(hn:n<=64):SeqAt.shaped d=true:=by
 unfold SeqAt.shaped;rw[h.1,(MO)];exact bf (aR h.2 hn)
theorem Ok.tup{n:Nat}{ds:Ch}(h:bx n ds):Ok (n+1) (.tuple ds):=⟨by simp only[PyData.canLay0];exact h.1,by simp only[PyData.depth];exact Nat.succ_le_succ h.2⟩
theorem Ok.lst{n:Nat}{ds:Ch}(h:bx n ds):Ok (n+1) (.list ds):=⟨by simp only[PyData.canLay0];exact h.1,by simp only[PyData.depth];exact Nat.succ_le_succ h.2⟩
theorem Ok.int{n:Nat}{i:Int}:Ok n (.int i):=⟨by simp[PyData.canLay0],by simp[PyData.depth]⟩
mutual
theorem Nj:∀d:PyData,d.canLay0=true->PyData.eqv d d=true
 |.none,_=>by simp[PyData.eqv]
 |.bool _,_=>by simp[PyData.eqv]
 |.int _,_=>by simp[PyData.eqv]
 |.str _,_=>by simp[PyData.eqv]
 |.tuple g,h=>by simp only[PyData.eqv];exact MJ g (by simpa only[PyData.canLay0]using h)
 |.list g,h=>by simp only[PyData.eqv];exact MJ g (by simpa only[PyData.canLay0]using h)
 |.dict _,h=>by simp[PyData.canLay0]at h
theorem MJ:∀ds:List PyData,PyData.canLayAll0 ds=true->PyData.eqvAll ds ds=true
 |[],_=>by simp[PyData.eqvAll]
 |d::ds,h=>by
  simp only[PyData.canLayAll0,Bool.and_eq_true]at h;simp only[PyData.eqvAll,Nj d h.1,MJ ds h.2,Bool.and_self]
end
def WD:PyData->String
 |.none => "NoneType"
 |.bool _ => "bool"
 |.int _ => "int"
 |.str _ => "str"
 |.tuple _ => "tuple"
 |.list _ => "list"
 |.dict _ => "dict"
theorem Dt.ty{K:At}{l:Addr}{H:Hp}:∀ {d:IR} {v:V},Dt l H d v->IL K H v (.type (WD d))
 |.none,_,h=>by rw[Dt]at h;subst h;exact .CL
 |.bool _,_,h=>by rw[Dt]at h;subst h;exact .bl _
 |.int _,_,h=>by rw[Dt]at h;subst h;exact .int _
 |.str _,_,h=>by rw[Dt]at h;subst h;exact .str _
 |.tuple _,_,h=>by rw[Dt]at h;obtain⟨a,xs,rfl,_,g,_⟩:=h;exact .tup g
 |.list _,_,h=>by rw[Dt]at h;obtain⟨a,xs,rfl,_,g,_⟩:=h;exact .lst g
 |.dict _,_,h=>by rw[Dt]at h;exact h.elim
def Gs:PyData->Bool
 |.tuple _=>true
 |_=>false
def FX:PyData->Bool
 |.list _=>true
 |_=>false
def LI:PyData->Bool
 |.int _=>true
 |.bool _=>true
 |_=>false
def JF:PyData->Bool
 |.bool _=>true
 |_=>false
theorem Vg(K:At):∀d:PyData,(∀g,d≠.dict g)->PySem.W.kitOne K (.type (WD d)) Hq=some (Gs d)
 |.none,_=>mm K
 |.bool _,_=>mW K
 |.int _,_=>pD K
 |.str _,_=>lg K
 |.tuple _,_=>oY K
 |.list _,_=>lI K
 |.dict g,h=>absurd rfl (h g)
theorem Vl(K:At):∀d:PyData,(∀g,d≠.dict g)->PySem.W.kitOne K (.type (WD d)) (.type "list")=some (FX d)
 |.none,_=>pK K
 |.bool _,_=>mP K
 |.int _,_=>pV K
 |.str _,_=>nY K
 |.tuple _,_=>nX K
 |.list _,_=>mi K
 |.dict g,h=>absurd rfl (h g)
theorem pC(K:At):PySem.W.kitOne K (.type "NoneType") (.type "bool")=some false:=by kernel_rfl
theorem ng(K:At):PySem.W.kitOne K (.type "str") (.type "bool")=some false:=by kernel_rfl
theorem oj(K:At):PySem.W.kitOne K Hq (.type "bool")=some false:=by kernel_rfl
theorem oV(K:At):PySem.W.kitOne K (.type "list") (.type "bool")=some false:=by kernel_rfl
theorem fk(K:At):∀d:PyData,(∀g,d≠.dict g)->PySem.W.kitOne K (.type (WD d)) (.type "int")=some (LI d)
 |.none,_=>oz K
 |.bool _,_=>nk K
 |.int _,_=>nc K
 |.str _,_=>mQ K
 |.tuple _,_=>nv K
 |.list _,_=>pX K
 |.dict g,h=>absurd rfl (h g)
theorem eE(K:At):∀d:PyData,(∀g,d≠.dict g)->PySem.W.kitOne K (.type (WD d)) (.type "bool")=some (JF d)
 |.none,_=>pC K
 |.bool _,_=>oT K
 |.int _,_=>nL K
 |.str _,_=>ng K
 |.tuple _,_=>oj K
 |.list _,_=>oV K
 |.dict g,h=>absurd rfl (h g)
theorem Dt.nodict{l:Addr}{H:Hp}{d:IR}{v:V}(h:Dt l H d v):∀g,d≠.dict g:=fun g z=>by subst z;rw[Dt]at h;exact h
end L2
namespace Tr
theorem Ws{t c:Tr}(h:c∈t.bs):c.deep<t.deep:=by
 induction t with
 |nil=>cases h
 |cons b r _ g=>
  rw[bs]at h;have hd:(cons b r).deep=max (b.deep+1) r.deep:=rfl;rcases aQ.mp h with rfl|h
  .lia
  .have:=g h;lia
theorem D9:∀t:Tr,0<t.AE
 |.nil=>Nat.one_pos
 |.cons b r=>by rw[AE];have:=D9 b;lia
theorem L0{t c:Tr}(h:c∈t.bs):c.AE<t.AE:=by
 induction t with
 |nil=>cases h
 |cons b r _ g=>
  rw[bs]at h;have B:(cons b r).AE=b.AE+r.AE:=rfl;have R:=D9 b;have I:=D9 r;rcases aQ.mp h with rfl|h
  .lia
  .have:=g h;lia
theorem UN:∀t:Tr,1+(t.bs.map fun c=>(c.AE:Int)).sum=(t.AE:Int)
 |.nil=>rfl
 |.cons b r=>by
  rw[bs,(CI),List.sum_cons,AE];have:=UN r
  lia
theorem PK:∀t:Tr,t.bs.length<t.AE
 |.nil=>Nat.one_pos
 |.cons b r=>by
  rw[bs,(JO),AE];have:=PK r;have:=D9 b
  lia
def dp:Tr->Nat
 |.nil=>1
 |.cons b r=>b.AE*b.dp*r.dp
def QV(t:Tr):Nat:=t.AE*t.dp
end Tr
namespace L2
open PySem PySem.Spec PyProof.Rows
mutual
def MA:PyData->Option Tr
 |.tuple g=>E2 g
 |_=>none
def E2:List PyData->Option Tr
 |[]=>some .nil
 |d::g=>(MA d).bind fun b=>(E2 g).map fun r=>.cons b r
end
section
variable{X:Cx}
def qI:R2:=fun x y H Q=>∃a b xs ys,x=.ref a/\y=.ref b/\H a=some (.tup xs)/\H b=some (.tup ys)/\xs.length+ys.length<=sizeLine/\∀p H',AN H H'->H' p=some (.tup (xs++ys))->Q (.ref p) H'
theorem k7:Dg X (binaryOp .Add) qI:=by
 intro pins s σ H x y v u Q I rx ry h;obtain⟨a,b,xs,ys,rfl,rfl,ha,hb,hz,q⟩:=h;cases rx;cases ry;obtain⟨its,Y,p1,_⟩:=I.tuple (BE.of (K:=X.K) ha);obtain⟨its2,U,p2,_⟩:=I.tuple (BE.of (K:=X.K) hb);by_cases Z:its=[]
 .have hx:=Y.YA.mp Z;subst Z hx;obtain⟨⟨cls,dd,data,sl⟩,ho,hc,n,hd⟩:=id p1;obtain⟨⟨cls2,dd2,data2,T⟩,g,R,n2,B⟩:=id p2;simp only at hc hd R B;subst hc hd R B;exact concat_meets ⟨_,ho,rfl⟩ ⟨_,g,rfl⟩ noFill_tuple_add seq_tuple_add PySem.F.slot_tuple_add PySem.F.entry_tuple_add (PySem.F.args_tuple_add_2 _ _)
   (tuple_addW0 a b _ _ n n2 dd dd2 sl T CH) ⟨ho,g,⟨.ref b,H,I,rfl,q b H (.refl H) (by simpa using hb)⟩⟩
 .refine HT.kB p1 p2 Z (fun z=>?_) (fun z=>?_) (by rw[<-Y.length,<-U.length];exact hz)
  .have hy:=U.YA.mp z;subst hy;exact⟨.ref a,H,I,rfl,q a H (.refl H) (by simpa using ha)⟩
  .refine⟨.ref s.heap.objs.size,_,I.laid (t':=s.toks) (o:=.tup (xs++ys)) (fun b ob q=>aE _ q) (aH _) ?_,rfl,q _ _ (Ab (I.BA.fresh (aH _)) _) AM⟩;exact⟨by rw[(Dk)];exact hz,_,Y.append U,IsTup.new _ _⟩
end
end L2
set_option maxHeartbeats 0
set_option maxHeartbeats 4000000
namespace L2
open PySem PySem.Spec PyProof.Rows
abbrev fB(x y:Str)(I B:Pos)(tk:Nat)(g:Pos):Expr:=.Tuple [.Name x I,.Name y B] tk g
theorem jQ{ix g:Nat}(h:ix≠g)(σ:St)(a b c d:Option V):((((σ.set ix a).set g b).set ix c).set g d)=(σ.set ix c).set g d:=by
 rw[List.set_comm _ _ h.symm,List.set_set,List.set_set]
def eQ(K:At)(wi:TI)(fr:Iv)(ix T:Nat)(R:TT)(te:TE):TE:=fun σ H Q=>wi σ H fun J Z=>∀D,Z D=none->∃W:Nat->Nat->List V->Hp->Prop,(∃m,W 0 m [] (upd Z D (.lst []))) /\
 ∀i m ys H,W i m ys H->H D=some IS/\((J.stop i H/\Q (.ref D) H)\/(J.go i H/\ys.length<sizeLine/\∀x H',J.Fw i H x H'->∃a I B,x=.ref a/\BE K H' a [I,B] /\
  R (((carry fr σ).set ix (some I)).set T (some B)) H' fun b Y=>if b=true then te (((carry fr σ).set ix (some I)).set T (some B)) Y fun y U=>U D=some IS/\∃g,g<m/\W (i+1) g (ys++[y]) (upd U D (.lst (ys++[y])))
   else ∃g,g<m/\W (i+1) g ys Y))
section
variable{X:Cx}{elt iter:Expr}{x y:Str}{px py tp pos:Pos}{tk:Nat}{ifs:List Expr}{scope:Scope}{wi:TI}{fr:Iv}{ix iy:Nat}{tif:TT}{te:TE}{N:KP}
theorem Xh{pins:Cy}{σ:St}{I:Hp}{s2:GJ}{Q:VK}{it:Addr}{fp:List Addr}{tn:Nat->Heap->Prop}{J:It}{cl:List (Str×Addr)}{E:AT}{RR:Value->Addr->Result->Shared->Prop}
 (S:FJ scope N x ix)(S2:FJ scope N y iy)(hxy:ix≠iy)(B:X.calm=true)(hfr:GQ N X.N scope X.env.scope fr 0=true)(hlen:fr.length=N.length)
 (hif:∀cl C s₀ H₀ fp,OL EQ ifs tif)(he:∀cl C s₀ H₀ fp,PE EQ elt te)
 (I2:Inv X pins σ I s2)(T:Turn X.prog X.w X.K (fB x y px py tk tp) J fp it tn)(st2:tn 0 s2.heap)(f2:∀b∈fp,KI X pins I b)
 (c1:∀x c,cl.lookup x=some c->X.env.cells.lookup x=some c)(c2:∀x∈scope.names,x.2=NameKind.free->∃c,cl.lookup x.1=some c)
 (W:∀D,I D=none->∃W:Nat->Nat->List V->Hp->Prop,(∃m,W 0 m [] (upd I D (.lst []))) /\
   ∀i m ys H,W i m ys H->H D=some IS/\((J.stop i H/\Q (.ref D) H)\/(J.go i H/\ys.length<sizeLine/\∀x H',J.Fw i H x H'->∃a Y U,x=.ref a/\BE X.K H' a [Y,U] /\
    tif (((carry fr σ).set ix (some Y)).set iy (some U)) H' fun b I=>if b=true then te (((carry fr σ).set ix (some Y)).set iy (some U)) I fun y H3=>H3 D=some IS/\∃m',m'<m/\W (i+1) m' (ys++[y]) (upd H3 D (.lst (ys++[y])))
     else ∃m',m'<m/\W (i+1) m' ys I)))
 (fin:Kw) :
  wpAny Cs X.A (newList []) (fun acc s₃=>wpAny Cs X.A (newFunctionEnv scope X.env.globals cl [] X.env.qual none .none (some X.env)) (fun R s₄=>
   codeAny Cs X.A (.compStart (.ListComp elt [⟨fB x y px py tk tp,iter,ifs,0⟩] scope pos) 0 (.ref it) acc {R with scope:=relabel scope X.env}) (RR acc R.locals) s₄) E s₃) E s2:=by
 have hxv:(relabel scope X.env).names.lookup x=some .local:=lookup_relabel_local S.loc;have hyv:(relabel scope X.env).names.lookup y=some .local:=lookup_relabel_local S2.loc;refine QG (g:=cC X.K 2 (L3 (FU ix) (L3 (FU iy) Zz))) S B (fun Z=>∀v w,(Z.set ix v).set iy w=((carry fr σ).set ix v).set iy w) Da (fun C=>Gp (X:=BF X scope cl N C s2 I fp) B (Bq (Ay (X:=BF X scope cl N C s2 I fp) S.nd S.at_ (.inl hxv) (.inr hxv)) (Bq (Ay (X:=BF X scope cl N C s2 I fp) S2.nd S2.at_ (.inl hyv) (.inr hyv)) FY))) hfr hlen hif he I2 T st2 f2 c1 c2 (fun D hD=>?_) fin;obtain⟨W,w0,st⟩:=W D hD;refine⟨W,w0,fun i m ys H w=>?_⟩;obtain⟨h1,h2|⟨h2,h3,h4⟩⟩:=st i m ys H w
 .exact⟨h1,.inl h2⟩
 .refine⟨h1,.inr ⟨h2,h3,fun x H' hy Z hr=>?_⟩⟩;obtain⟨a,Y,U,rfl,hs,q⟩:=h4 x H' hy;rw[<-hr]at q;exact⟨a,[Y,U],rfl,hs,rfl,Y,[U],rfl,U,[],rfl,rfl,fun v w=>by rw[jQ hxy,hr],q⟩
theorem gO(S:FJ scope N x ix)(S2:FJ scope N y iy)(hxy:ix≠iy)(U:X.calm=true)(hfr:GQ N X.N scope X.env.scope fr 0=true)(Y:fr.length=N.length)(B:∀y∈scope.names,y.2=.free->X.env.scope.names.lookup y.1=some .cell\/X.env.scope.names.lookup y.1=some .free)
 (hi:PI X (fB x y px py tk tp) iter wi)(hif:∀cl C s₀ H₀ fp,OL EQ ifs tif)(he:∀cl C s₀ H₀ fp,PE EQ elt te)
 (hs:∀x,foldedSetIterable iter X.env x=pure x:=by intro _;rfl):PE X (.ListComp elt [⟨fB x y px py tk tp,iter,ifs,0⟩] scope pos) (eQ X.K wi fr ix iy tif te):=by
 intro pins s σ H Q I hw;obtain⟨cl,R,c1,_,c2⟩:=Im (env:=X.env) scope.names [] (fun y hy hf=>I.ok.has y.1 (B y hy hf)) (fun y c z=>by cases z);have g:closureFor scope X.env=pure cl:=by
  have e:closureFor scope X.env=((forIn scope.names [] (fun(x:Str×NameKind) (r:List (Str×Addr))=>do if(x.2==NameKind.free)=true then do let a <-cellOf X.env x.1;pure (ForInStep.yield ((x.1,a)::r)) else pure (ForInStep.yield r)):Sem (List (Str×Addr)))>>=fun cs=>pure cs):=rfl;rw[e,R]
  rfl
 rw[eval_ListComp];refine wpAny_comprehension_free (use:=none) rfl hs g S.kind S.names (BQ (hi pins s σ H _ I hw) fun v s1 h1=>BQ h1 fun itv s2 h2=>?_);obtain⟨it,fp,tn,J,H2,e,I2,T,Z,f2,W⟩:=h2;subst e;refine Xh (RR:=fun acc C=>compPost Cs X.A X.xe none (EP X pins σ Q) acc C) S S2 hxy U hfr Y hif he I2 T Z f2 c1 c2 W ?_;intro D C s' H' m hn q hI _ _ _ _;exact⟨m,hn,fun h' hs'=>⟨.ref D,H',hI h' hs',rfl,q⟩⟩
end
section
variable{X:Cx}{elt iter:Expr}{x y:Str}{px py tp pos:Pos}{tk:Nat}{ifs:List Expr}{scope:Scope}{wi:TI}{tif:TT}{te:TE}
theorem UM(N:KP)(ix g:Nat)(fr:Iv)(hi:PI X (fB x y px py tk tp) iter wi)(I:∀cl C s₀ H₀ fp,OL EQ ifs tif)(U:∀cl C s₀ H₀ fp,PE EQ elt te)
 (h1:DM scope N x ix=true:=by decide +kernel)(R:DM scope N y g=true:=by decide +kernel)(B:ix≠g:=by decide)(h2:X.calm=true:=by rfl)(h3:GQ N X.N scope X.env.scope fr 0=true:=by rfl)(Z:fr.length=N.length:=by rfl)(Y:freeOk X.env.scope scope.names=true:=by rfl)
 (T:∀x,foldedSetIterable iter X.env x=pure x:=by intro _;rfl):PE X (.ListComp elt [⟨.Tuple [.Name x px,.Name y py] tk tp,iter,ifs,0⟩] scope pos) (eQ X.K wi fr ix g tif te) :=
 gO (IY h1) (IY R) B h2 h3 Z (PF Y) hi I U T
end
theorem WQ{K:At}{J:It}{n:Nat}{D:Addr}{H1:Hp}{fr:Iv}{σ:St}{ix Z:Nat}{T:TT}{te:TE}{G:Hp->Prop}(Pv:Nat->List V->Hp->Prop)(h0:Pv 0 [] (upd H1 D (.lst [])))
 (hgo:∀i ys H,i<n->Pv i ys H->H D=some IS->J.go i H/\ys.length<sizeLine/\∀x H',J.Fw i H x H'->∃a I B,x=.ref a/\BE K H' a [I,B] /\
   T (((carry fr σ).set ix (some I)).set Z (some B)) H' fun b Y=>if b=true then te (((carry fr σ).set ix (some I)).set Z (some B)) Y fun y U=>U D=some IS/\∃g,g<n-i/\CW Pv n D (i+1) g (ys++[y]) (upd U D (.lst (ys++[y])))
    else ∃g,g<n-i/\CW Pv n D (i+1) g ys Y)
 (R:∀ys H,Pv n ys H->H D=some IS->J.stop n H/\G H) :
  ∃W:Nat->Nat->List V->Hp->Prop,(∃m,W 0 m [] (upd H1 D (.lst []))) /\
   ∀i m ys H,W i m ys H->H D=some IS/\((J.stop i H/\G H)\/(J.go i H/\ys.length<sizeLine/\∀x H',J.Fw i H x H'->∃a I B,x=.ref a/\BE K H' a [I,B] /\
    T (((carry fr σ).set ix (some I)).set Z (some B)) H' fun b Y=>if b=true then te (((carry fr σ).set ix (some I)).set Z (some B)) Y fun y U=>U D=some IS/\∃g,g<m/\W (i+1) g (ys++[y]) (upd U D (.lst (ys++[y])))
     else ∃g,g<m/\W (i+1) g ys Y)):=by
 refine⟨CW Pv n D,⟨n,by simp,Nat.zero_le _,AM,h0⟩,?_⟩;rintro i m ys H ⟨rfl,hi,hH,p⟩;refine⟨hH,?_⟩;by_cases hlt:i<n
 .exact .inr (hgo i ys H hlt p hH)
 .have:i=n:=by lia
  subst this;exact .inl (R ys H p hH)
end L2
namespace ZT
open PySem PyProof.Rows
structure Apart(z TI TO i1 i2:Addr)(f1 f2:List Addr):Prop where
 a1:TI≠z/\TI≠TO/\TI≠i1/\TI≠i2
 a2:TO≠z/\TO≠i1/\TO≠i2
 a3:i1≠z/\i2≠z/\i1≠i2
 b1:z ∉ f1/\TO ∉ f1/\i2 ∉ f1
 b2:z ∉ f2/\TO ∉ f2/\i1 ∉ f2
section
variable{prog:G8}{w:Id}{A:Around}{E:AT}{s:GJ}{z TI TO i1 i2:Addr}{f1 f2:List Addr}{n1 n2 k:Nat}{P1 P2:Nat->Value->Prop}{S1 S2:Nat->Heap->Prop}{a b:KS}
theorem BS{f:List Addr}{x:Addr}{h h':Heap}(g:x ∉ f)(e:Heap.SameBut x h h'):∀c∈f,∀o,h.get? c=some o->h'.get? c=some o:=fun c B o q=>(e.2 c fun y=>g (y ▸ B)).trans q
theorem item{Q:AT}(Z:Draws prog w A i1 f1 n1 P1 S1)(Y:Draws prog w A i2 f2 n2 P2 S2)(ap:Apart z TI TO i1 i2 f1 f2)(hz:IsZip s.heap z TI TO .none)(hI:IsPair s.heap TI (.ref i1) (.ref i2))(hO:IsPair s.heap TO a b)
 (t1:S1 k s.heap)(t2:S2 k s.heap)(l1:k<n1)(l2:k<n2)
 (q:∀x y h' tk,P1 k x->P2 k y->IsZip h' z TI TO (rawInt s.heap.objs.size)->IsPair h' TO x y->S1 (k+1) h'->S2 (k+1) h'->IsPair h' s.heap.objs.size x y->h'.objs.size=s.heap.objs.size+1 ->
   (∀c o,c≠z->c≠TO->c≠i1->c≠i2->s.heap.get? c=some o->h'.get? c=some o)->Q GM HU) :
  wpAny BY A (Builtin.«zip.__next__» ⟨[.ref z],[]⟩) (fun fin s'=>∃v,fin=.done (.ret v)/\Q v s') E s:=by
 obtain⟨⟨c1,c2,c3,c4⟩,⟨c5,c6,c7⟩,⟨c8,c9,c10⟩,⟨d1,d2,d3⟩,d4,d5,d6⟩:=ap;show wpAny _ _ (field (.ref z) 2>>=_) _ _ _;refine aA (aZ hz rfl (x:=.bool false) rfl ?_);show wpAny _ _ (field (.ref z) 3>>=_) _ _ _;refine aA (aZ hz rfl (x:=.ref TI) rfl (aA (ai hI rfl ?_)));show wpAny _ _ (Builtin.SmallTypes.ownedTupleIsFree (.ref z)>>=_) _ _ _;unfold Builtin.SmallTypes.ownedTupleIsFree;refine aA (aA (aZ hz rfl (x:=.none) rfl (aB ?_)));simp only[if_true];refine aA (bM (aA (aZ hz rfl (x:=.ref TO) rfl (aA (au hz CH fun g1 z1 U=>aA ?_)))));have U:Heap.SameBut z s.heap g1:=U;have z1:IsZip g1 z TI TO .ellipsis:=z1;simp only[List.zipIdx_cons,List.zipIdx_nil,List.forIn_cons,List.forIn_nil];refine aA (aA (wpAny_onRaise ?_));show wpAny _ _ (Builtin.SmallTypes.nextOf (.ref i1)>>=_) _ _ _;refine aA (Z.item k _ _ _ l1 (Z.frame _ _ _ t1 (BS d1 U)) fun x g2 tk2 p1 u1 T=>aB ?_);have o2:IsPair g2 TO a b:=(T.2 _ c6).trans ((U.2 _ c5).trans hO);refine aA (ai o2 rfl (aA (wpAny_updateSeq_pair o2 fun g3 o3 R=>aA (wpAny_letGo (aB ?_)))));have o3:IsPair g3 TO x b:=o3;have t2':S2 k g3:=Y.frame _ _ _ (Y.frame _ _ _ (Y.frame _ _ _ t2 (BS d4 U)) (BS d6 T)) (BS d5 R);refine aA (aA (wpAny_onRaise ?_));show wpAny _ _ (Builtin.SmallTypes.nextOf (.ref i2)>>=_) _ _ _;refine aA (Y.item k _ _ _ l2 t2' fun y g4 tk4 p2 u2 I=>aB ?_);have R:Heap.SameBut TO g2 g3:=R;have I:Heap.SameBut i2 g3 g4:=I;have o4:IsPair g4 TO x b:=(I.2 _ c7).trans o3;refine aA (ai o4 rfl (aA (wpAny_updateSeq_pair o4 fun g o5 B=>aA (wpAny_letGo (aB (aB ?_))))));have B:Heap.SameBut TO g4 g:=B;have o5:IsPair g TO x y:=o5;refine aA (ai o5 rfl (aA (wpAny_newTuple ?_)));have T:Heap.SameBut i1 g1 g2:=T;have sz:g.objs.size=s.heap.objs.size:=by rw[B.1,I.1,R.1,T.1,U.1]
 have z5:IsZip g z TI TO .ellipsis:=(B.2 _ c5.symm).trans ((I.2 _ c9.symm).trans ((R.2 _ c5.symm).trans ((T.2 _ c8.symm).trans z1)));have kp:∀c o,c≠z->c≠TO->c≠i1->c≠i2->s.heap.get? c=some o->g.get? c=some o:=fun c o e1 e2 e3 e4 e=>(B.2 _ e2).trans ((I.2 _ e4).trans ((R.2 _ e2).trans ((T.2 _ e3).trans ((U.2 _ e1).trans e))));have v1:S1 (k+1) g:=Z.frame _ _ _ (Z.frame _ _ _ (Z.frame _ _ _ u1 (BS d2 R)) (BS d3 I)) (BS d2 B);have v2:S2 (k+1) g:=Y.frame _ _ _ u2 (BS d5 B);show wpAny _ _ (Builtin.SmallTypes.ownedTupleHandOut (.ref z) (.ref g.objs.size)>>=_) _ _ _;unfold Builtin.SmallTypes.ownedTupleHandOut;have z6:IsZip (g.push { cls:=.type "tuple",data:=.seq #[x,y]}) z TI TO .ellipsis:=aE _ z5;refine aA (aA (au z6 CH fun g7 z7 m7=>au (show IsZip g7 z TI TO (rawInt g.objs.size) from z7) CH fun g8 z8 m8=>?_));have z8:IsZip g8 z TI TO (rawInt g.objs.size):=z8;have up:∀c o,c≠z->(g.push { cls:=.type "tuple",data:=.seq #[x,y]}).get? c=some o->g8.get? c=some o:=fun c o e1 e=>(m8.2 _ e1).trans ((m7.2 _ e1).trans e);have zl:z<g.objs.size:=aG z5;refine aB ⟨_,rfl,?_⟩;show Q (.ref g.objs.size) _;have fin:=q x y g8 tk4 p1 p2 (by rw[<-sz];exact z8) (up _ _ c5 (aE _ o5)) (Z.frame _ _ _ v1 fun c hc o e=>up c o (fun y=>d1 (y ▸ hc)) (aE _ e)) (Y.frame _ _ _ v2 fun c hc o e=>up c o (fun y=>d4 (y ▸ hc)) (aE _ e))
  (by rw[<-sz];exact up _ _ (bQ zl) (aL _ rfl)) (by rw[<-sz,m8.1,m7.1,(IU)]) fun c o e1 e2 e3 e4 e=>up c o e1 (aE _ (kp c o e1 e2 e3 e4 e))
 rw[sz];exact fin
theorem ended{Q:Fin->Shared->Prop}(D1:Draws prog w A i1 f1 n1 P1 S1)(D2:Draws prog w A i2 f2 n2 P2 S2)(ap:Apart z TI TO i1 i2 f1 f2)(hz:IsZip s.heap z TI TO .none)(hI:IsPair s.heap TI (.ref i1) (.ref i2))(hO:IsPair s.heap TO a b)
 (t1:S1 k s.heap)(t2:S2 k s.heap)(he:k=n1\/(k<n1/\k=n2))
 (q:∀h' e tk,(∀c o,c≠z->c≠TO->c≠i1->c≠i2->s.heap.get? c=some o->h'.get? c=some o)->(∃o,h'.get? e=some o/\o.cls=.type "StopIteration")->E (.ref e) HU) :
  wpAny BY A (Builtin.«zip.__next__» ⟨[.ref z],[]⟩) Q E s:=by
 obtain⟨⟨c1,c2,c3,c4⟩,⟨c5,c6,c7⟩,⟨c8,c9,c10⟩,⟨d1,d2,d3⟩,d4,d5,d6⟩:=ap;show wpAny _ _ (field (.ref z) 2>>=_) _ _ _;refine aA (aZ hz rfl (x:=.bool false) rfl ?_);show wpAny _ _ (field (.ref z) 3>>=_) _ _ _;refine aA (aZ hz rfl (x:=.ref TI) rfl (aA (ai hI rfl ?_)));show wpAny _ _ (Builtin.SmallTypes.ownedTupleIsFree (.ref z)>>=_) _ _ _;unfold Builtin.SmallTypes.ownedTupleIsFree;refine aA (aA (aZ hz rfl (x:=.none) rfl (aB ?_)));simp only[if_true];refine aA (bM (aA (aZ hz rfl (x:=.ref TO) rfl (aA (au hz CH fun g1 z1 T=>aA ?_)))));have T:Heap.SameBut z s.heap g1:=T;have z1:IsZip g1 z TI TO .ellipsis:=z1;simp only[List.zipIdx_cons,List.zipIdx_nil,List.forIn_cons,List.forIn_nil];refine aA (aA (wpAny_onRaise ?_));show wpAny _ _ (Builtin.SmallTypes.nextOf (.ref i1)>>=_) _ _ _;have R:=D1.frame _ _ _ t1 (BS d1 T);rcases he with he|⟨he1,he2⟩
 .rw[he]at R;refine aA (D1.done _ _ _ R fun Z e B g=>?_);obtain⟨o,g,Y⟩:=g;have z2:IsZip Z z TI TO .ellipsis:=B _ _ c8.symm z1;have ez:e≠z:=fun y=>by subst y;rw[z2]at g;cases g;simp at Y
  exact au z2 CH fun g3 _ I=>q g3 e _ (fun c o e1 e2 e3 e4 y=>(I.2 _ e1).trans (B _ _ e3 ((T.2 _ e1).trans y))) ⟨o,(I.2 _ ez).trans g,Y⟩
 .refine aA (D1.item k _ _ _ he1 R fun x Z tk2 p1 u1 B=>aB ?_);have o2:IsPair Z TO a b:=(B.2 _ c6).trans ((T.2 _ c5).trans hO);refine aA (ai o2 rfl (aA (wpAny_updateSeq_pair o2 fun g3 o3 I=>aA (wpAny_letGo (aB ?_)))));have U:S2 k g3:=D2.frame _ _ _ (D2.frame _ _ _ (D2.frame _ _ _ t2 (BS d4 T)) (BS d6 B)) (BS d5 I);rw[he2]at U;have B:Heap.SameBut i1 g1 Z:=B;have I:Heap.SameBut TO Z g3:=I;refine aA (aA (wpAny_onRaise ?_));show wpAny _ _ (Builtin.SmallTypes.nextOf (.ref i2)>>=_) _ _ _;refine aA (D2.done _ _ _ U fun g4 e m4 g=>?_);obtain⟨o,g,Y⟩:=g;have z4:IsZip g4 z TI TO .ellipsis:=m4 _ _ c9.symm ((I.2 _ c5.symm).trans ((B.2 _ c8.symm).trans z1));have ez:e≠z:=fun y=>by subst y;rw[z4]at g;cases g;simp at Y
  exact au z4 CH fun g5 _ m5=>q g5 e _ (fun c o e1 e2 e3 e4 y=>(m5.2 _ e1).trans (m4 _ _ e4 ((I.2 _ e2).trans ((B.2 _ e3).trans ((T.2 _ e1).trans y))))) ⟨o,(m5.2 _ ez).trans g,Y⟩
theorem next_item{Q:Option Value->Shared->Prop}(D1:Draws prog w A.in1 i1 f1 n1 P1 S1)(D2:Draws prog w A.in1 i2 f2 n2 P2 S2)(ap:Apart z TI TO i1 i2 f1 f2)(hz:IsZip s.heap z TI TO .none)(hI:IsPair s.heap TI (.ref i1) (.ref i2))(hO:IsPair s.heap TO a b)
 (t1:S1 k s.heap)(t2:S2 k s.heap)(l1:k<n1)(l2:k<n2)
 (q:∀x y h' tk,P1 k x->P2 k y->IsZip h' z TI TO (rawInt s.heap.objs.size)->IsPair h' TO x y->S1 (k+1) h'->S2 (k+1) h'->IsPair h' s.heap.objs.size x y->h'.objs.size=s.heap.objs.size+1 ->
   (∀c o,c≠z->c≠TO->c≠i1->c≠i2->s.heap.get? c=some o->h'.get? c=some o)->Q (some GM) HU) :
  wpAny BY A (pyNext (.ref z)) Q E s:=by
 have g:s.TypeIs (.ref z) "zip" := ⟨_,hz,rfl⟩;unfold pyNext;exact aA (wpAny_attempt (aa (name:=Str.ofString "__next__") g bR
  (aW bR g F.entry_zip_next (item D1 D2 ap hz hI hO t1 t2 l1 l2 fun x y h' tk r1 r2 Z Y U T R I B=>aB (q x y h' tk r1 r2 Z Y U T R I B)) (F.args_zip_next_1 _))))
theorem next_end{Q:Option Value->Shared->Prop}(D1:Draws prog w A.in1 i1 f1 n1 P1 S1)(Z:Draws prog w A.in1 i2 f2 n2 P2 S2)(ap:Apart z TI TO i1 i2 f1 f2)(hz:IsZip s.heap z TI TO .none)(Y:IsPair s.heap TI (.ref i1) (.ref i2))(U:IsPair s.heap TO a b)
 (t1:S1 k s.heap)(t2:S2 k s.heap)(I:k=n1\/(k<n1/\k=n2))
 (q:∀h' tk,(∀c o,c≠z->c≠TO->c≠i1->c≠i2->s.heap.get? c=some o->h'.get? c=some o)->Q none HU) :
  wpAny BY A (pyNext (.ref z)) Q E s:=by
 have B:s.TypeIs (.ref z) "zip" := ⟨_,hz,rfl⟩;unfold pyNext;refine aA (wpAny_attempt (aa (name:=Str.ofString "__next__") B bR
  (aW bR B F.entry_zip_next (ended D1 Z ap hz Y U t1 t2 I fun h' e tk kp g=>?_) (F.args_zip_next_1 _))))
 obtain⟨o,g,R⟩:=g;exact aA (wpAny_isInstance (T := "StopIteration") (b:=true) ⟨o,g,R⟩ isSubtype_stop (aB (q _ _ kp)))
end
end ZT
namespace ZT
open PySem PyProof.Rows
def Sq(b:Bool)(h:Heap)(l:Addr)(xs:Db):Prop:=if b then h.IsTuple l xs.toArray else h.IsList l xs.toArray
def BR(b:Bool)(l:Addr):Obj:=if b then { cls:=.type "tuple_iterator",data:=.fields #[.ref l,.int 0 0]} else { cls:=.type "list_iterator",data:=.fields #[.ref l,.int 0 0]}
def Ky(b:Bool)(h:Heap)(it l:Addr)(k:Nat):Prop:=if b then h.IsTupleIter it l k else h.IsListIter it l k
theorem Sq.push{b:Bool}{h:Heap}{l:Addr}{xs:Db}(o:Obj)(x:Sq b h l xs):Sq b (h.push o) l xs:=by
 cases b with
 |true=>obtain⟨u,e,r⟩:=(show h.IsTuple l xs.toArray from x);exact(show(h.push o).IsTuple l xs.toArray from⟨u,Heap.get?_push_of_some _ e,r⟩)
 |false=>obtain⟨u,e,r⟩:=(show h.IsList l xs.toArray from x);exact(show(h.push o).IsList l xs.toArray from⟨u,Heap.get?_push_of_some _ e,r⟩)
section
variable{prog:G8}{w:Id}{A:Around}{E:AT}{s:GJ}
theorem M7{b:Bool}{l:Addr}{xs:Db}{Q:AT}(x:Sq b s.heap l xs)(h:Q GM {s with heap:=s.heap.push (BR b l)}):wpAny BY A (pyIter (.ref l)) Q E s:=by
 cases b with
 |true=>exact wpAny_pyIter_tuple x h
 |false=>exact wpAny_pyIter_list x h
theorem FP(B:A.handled=none)(b:Bool)(it l:Addr)(xs:Db)(g:l≠it):Draws prog w A it [it,l] xs.length (fun i v=>xs[i]? = some v) (fun i h=>Ky b h it l i/\Sq b h l xs):=by
 cases b with
 |true=>exact ET.draws B it l xs g
 |false=>
  have:=Draws.list (prog:=prog) (w:=w) B it l g xs.toArray
  simpa[Ky,Sq]using this
def zh(b1 b2:Bool)(h:Heap)(g B:Addr):Heap :=
 ((((h.push (BR b1 g)).push (BR b2 B)).push { cls:=.type "tuple",data:=.seq #[.ref h.objs.size,.ref (h.push (BR b1 g)).objs.size]}).push { cls:=.type "tuple",data:=.seq #[.none,.none]}).push
  { cls:=.type "zip",data:=.fields #[.none,.bool false,.bool false,.ref ((h.push (BR b1 g)).push (BR b2 B)).objs.size,.ref (((h.push (BR b1 g)).push (BR b2 B)).push { cls:=.type "tuple",data:=.seq #[.ref h.objs.size,.ref (h.push (BR b1 g)).objs.size]}).objs.size]}
theorem jv(b1 b2:Bool)(B U:Addr)(xs ys:Db) :
  Meets (Builtin.«zip.__new__» ⟨[.type "zip",.ref B,.ref U],[]⟩) (fun _ R s=>Sq b1 s.heap B xs/\Sq b2 s.heap U ys /\
   R (.ok (.ret (.ref ((((s.heap.push (BR b1 B)).push (BR b2 U)).push { cls:=.type "tuple",data:=.seq #[.ref s.heap.objs.size,.ref (s.heap.push (BR b1 B)).objs.size]}).push { cls:=.type "tuple",data:=.seq #[.none,.none]}).objs.size)) ) {s with heap:=zh b1 b2 s.heap B U}) :=
 .of_wp fun prog w A R s h=>by
  obtain⟨I,g,d,T,os⟩:=s;obtain⟨h1,Z,h⟩:=h;have Y:=sub_zip;have i1:∀(A:Around) (E:AT) (Q:AT),Q (.ref I.objs.size) ⟨I.push (BR b1 B),g,d,T,os⟩->wpAny BY A (pyIter (.ref B)) Q E ⟨I,g,d,T,os⟩:=fun A E Q q=>M7 (s:=⟨I,g,d,T,os⟩) h1 q;have i2:∀(A:Around) (E:AT) (Q:AT),Q (.ref (I.push (BR b1 B)).objs.size) ⟨(I.push (BR b1 B)).push (BR b2 U),g,d,T,os⟩->wpAny BY A (pyIter (.ref U)) Q E ⟨I.push (BR b1 B),g,d,T,os⟩:=fun A E Q q=>M7 (s:=⟨I.push (BR b1 B),g,d,T,os⟩) (Z.push _) q
  wp_walk using i1,i2
  exact⟨_,rfl,h⟩
theorem iA{b1 b2:Bool}{I B:Addr}{xs ys:Db}{Q:AT}(h1:Sq b1 s.heap I xs)(h2:Sq b2 s.heap B ys)
 (h:∀h',IsZip h' (s.heap.objs.size+4) (s.heap.objs.size+2) (s.heap.objs.size+3) .none->IsPair h' (s.heap.objs.size+2) GM (.ref KF)->IsPair h' (s.heap.objs.size+3) .none .none ->
   Ky b1 h' s.heap.objs.size I 0->Ky b2 h' KF B 0->(∀c o,s.heap.get? c=some o->h'.get? c=some o)->Q (.ref (s.heap.objs.size+4)) {s with heap:=h'}) :
  wpAny BY A (call (.type "zip") [.ref I,.ref B]) Q E s:=by
 refine callType_new F.called_zip As (F.typeCall_zip_2 _ _) (F.newCall_zip_2 _ _) (fun obj=>F.args_object_init_3 obj _ _) F.entry_zip_new (jv b1 b2 I B xs ys) ⟨h1,h2,?_⟩;have U:(s.heap.push (BR b1 I)).objs.size=s.heap.objs.size+1:=Heap.size_push ..;have up:∀(g:Heap) (o:Obj) (c:Addr) (u:Obj),g.get? c=some u->(g.push o).get? c=some u:=fun g o c u e=>aE _ e;have a0:(s.heap.push (BR b1 I)).get? s.heap.objs.size=some (BR b1 I):=aL _ (by cases b1<;>rfl);generalize hg1:s.heap.push (BR b1 I)=g1 at U a0;have k1:∀c o,s.heap.get? c=some o->g1.get? c=some o:=fun c o e=>by rw[<-hg1];exact up _ _ _ _ e
 have n2:(g1.push (BR b2 B)).objs.size=s.heap.objs.size+2:=by rw[(IU),U]
 have a1:(g1.push (BR b2 B)).get? KF=some (BR b2 B):=by rw[<-U];exact aL _ (by cases b2<;>rfl)
 generalize Z:g1.push (BR b2 B)=g2 at n2 a1;have k2:∀c o,g1.get? c=some o->g2.get? c=some o:=fun c o e=>by rw[<-Z];exact up _ _ _ _ e
 have n3:(g2.push { cls:=.type "tuple",data:=.seq #[.ref s.heap.objs.size,.ref KF]}).objs.size=s.heap.objs.size+3:=by rw[(IU),n2]
 have a2:IsPair (g2.push { cls:=.type "tuple",data:=.seq #[.ref s.heap.objs.size,.ref KF]}) (s.heap.objs.size+2) GM (.ref KF):=by rw[<-n2];exact aL _ rfl
 generalize T:g2.push { cls:=.type "tuple",data:=.seq #[.ref s.heap.objs.size,.ref KF]}=g3 at n3 a2;have k3:∀c o,g2.get? c=some o->g3.get? c=some o:=fun c o e=>by rw[<-T];exact up _ _ _ _ e
 have n4:(g3.push { cls:=.type "tuple",data:=.seq #[.none,.none]}).objs.size=s.heap.objs.size+4:=by rw[(IU),n3]
 have a3:IsPair (g3.push { cls:=.type "tuple",data:=.seq #[.none,.none]}) (s.heap.objs.size+3) .none .none:=by rw[<-n3];exact aL _ rfl
 generalize R:g3.push { cls:=.type "tuple",data:=.seq #[.none,.none]}=g4 at n4 a3;have k4:∀c o,g3.get? c=some o->g4.get? c=some o:=fun c o e=>by rw[<-R];exact up _ _ _ _ e
 have ez:zh b1 b2 s.heap I B=g4.push { cls:=.type "zip",data:=.fields #[.none,.bool false,.bool false,.ref (s.heap.objs.size+2),.ref (s.heap.objs.size+3)]}:=by
  unfold zh;rw[hg1,Z,U,T,R,n2,n3]
 have a4:IsZip (g4.push { cls:=.type "zip",data:=.fields #[.none,.bool false,.bool false,.ref (s.heap.objs.size+2),.ref (s.heap.objs.size+3)]}) (s.heap.objs.size+4) (s.heap.objs.size+2) (s.heap.objs.size+3) .none:=by rw[<-n4];exact aL _ rfl
 rw[U,T,R,n4,ez];show _/\_;have Y:∀c o,g4.get? c=some o->(g4.push { cls:=.type "zip",data:=.fields #[.none,.bool false,.bool false,.ref (s.heap.objs.size+2),.ref (s.heap.objs.size+3)]}).get? c=some o:=fun c o e=>up _ _ _ _ e;refine⟨⟨_,a4,rfl⟩,h _ a4 (Y _ _ (k4 _ _ a2)) (Y _ _ a3) ?_ ?_ fun c o e=>Y _ _ (k4 _ _ (k3 _ _ (k2 _ _ (k1 _ _ e))))⟩
 .have:=Y _ _ (k4 _ _ (k3 _ _ (k2 _ _ a0)));cases b1 with
  |true=>exact⟨_,this,rfl,rfl⟩
  |false=>exact⟨_,this,rfl,rfl⟩
 .have:=Y _ _ (k4 _ _ (k3 _ _ a1));cases b2 with
  |true=>exact⟨_,this,rfl,rfl⟩
  |false=>exact⟨_,this,rfl,rfl⟩
end
end ZT
namespace L2
open PySem PySem.Spec PyProof.Rows
def Cp(b:Bool)(H:Hp)(a:Addr)(xs:Fa):Prop:=if b then H a=some (.tup xs) else H a=some (.lst xs)
theorem Cp.inj{b:Bool}{H:Hp}{a:Addr}{xs ys:Fa}(h:Cp b H a xs)(k:Cp b H a ys):xs=ys:=by
 cases b with
 |true=>have h:H a=some (.tup xs):=h;have k:H a=some (.tup ys):=k;rw[h]at k;cases k;rfl
 |false=>have h:H a=some (.lst xs):=h;have k:H a=some IS:=k;rw[h]at k;cases k;rfl
theorem Cp.none{b:Bool}{H:Hp}{a c:Addr}{xs:Fa}(h:Cp b H a xs)(k:H c=none):a≠c:=fun z=>by
 subst z;cases b with
 |true=>have h:H a=some (.tup xs):=h;rw[k]at h;cases h
 |false=>have h:H a=some (.lst xs):=h;rw[k]at h;cases h
theorem Cp.raw{X:Cx}{pins:Cy}{σ:St}{H:Hp}{s:GJ}(I:Cl){b:Bool}{a:Addr}{xs:Fa}(h:Cp b H a xs):∃its,Vals xs its/\ZT.Sq b s.heap a its:=by
 cases b with
 |true=>
  obtain⟨its,g,p,_⟩:=I.tuple (BE.of (K:=X.K) (show H a=some (.tup xs) from h));exact⟨its,g,p⟩
 |false=>
  obtain⟨its,g,p,_⟩:=I.list (Ax.of (K:=X.K) (show H a=some (.lst xs) from h));exact⟨its,g,p.isList⟩
def ox(b1 b2:Bool)(a1 a2:Addr):It :=
 ⟨fun i H=>∃xs x ys y,Cp b1 H a1 xs/\Cp b2 H a2 ys/\xs[i]? = some x/\ys[i]? = some y,
  fun i H v H'=>∃p x y,v=.ref p/\H p=none/\H'=upd H p (.tup [x,y])/\(∀xs,Cp b1 H a1 xs->xs[i]? = some x)/\∀ys,Cp b2 H a2 ys->ys[i]? = some y,
  fun i H=>∃xs ys,Cp b1 H a1 xs/\Cp b2 H a2 ys/\(i=xs.length\/(i<xs.length/\i=ys.length))⟩
def uB(b1 b2:Bool)(a1 a2 z TI TO i1 i2:Addr):Nat->Heap->Prop:=fun i h=>IsZip h z TI TO .none/\IsPair h TI (.ref i1) (.ref i2)/\(∃a b,IsPair h TO a b)/\ZT.Ky b1 h i1 a1 i/\ZT.Ky b2 h i2 a2 i
theorem GN{b:Bool}{h:Heap}{it l:Addr}{k:Nat}(x:ZT.Ky b h it l k):∃o,h.get? it=some o/\∀v,o.data≠.cell v:=by
 cases b with
 |true=>obtain⟨o,e,_,d⟩:=(show h.IsTupleIter it l k from x);exact⟨o,e,fun v z=>by rw[d]at z;cases z⟩
 |false=>obtain⟨o,e,_,d⟩:=(show h.IsListIter it l k from x);exact⟨o,e,fun v z=>by rw[d]at z;cases z⟩
theorem FO{b:Bool}{h h':Heap}{it l:Addr}{k:Nat}(x:ZT.Ky b h it l k)(e:∀o,h.get? it=some o->h'.get? it=some o):ZT.Ky b h' it l k:=by
 cases b with
 |true=>obtain⟨o,q,r⟩:=(show h.IsTupleIter it l k from x);exact(show h'.IsTupleIter it l k from⟨o,e _ q,r⟩)
 |false=>obtain⟨o,q,r⟩:=(show h.IsListIter it l k from x);exact(show h'.IsListIter it l k from⟨o,e _ q,r⟩)
theorem fK{P:G8}{w:Id}{K:At}{elts:List Expr}{x1}{pos:Pos}{b1 b2:Bool}{a1 a2 z TI TO i1 i2:Addr}(ne:[z,TI,TO,i1,i2].Nodup) :
  Turn P w K (.Tuple elts x1 pos) (ox b1 b2 a1 a2) [z,TI,TO,i1,i2] z (uB b1 b2 a1 a2 z TI TO i1 i2) where
 mem:=by simp
 obj:=fun i h st b hb=>by
  obtain⟨h1,h2,⟨u,v,h3⟩,h4,h5⟩:=st;have hb:b=z\/b=TI\/b=TO\/b=i1\/b=i2:=by simpa using hb
  rcases hb with rfl|rfl|rfl|rfl|rfl
  .exact⟨_,h1,fun v y=>by cases y⟩
  .exact⟨_,h2,fun v y=>by cases y⟩
  .exact⟨_,h3,fun v y=>by cases y⟩
  .exact GN h4
  .exact GN h5
 keep:=fun i h h' st k=>by
  obtain⟨h1,h2,⟨u,v,h3⟩,h4,h5⟩:=st;exact⟨k z CH _ h1,k TI CH _ h2,⟨u,v,k TO CH _ h3⟩,FO h4 fun o e=>k i1 CH o e,FO h5 fun o e=>k i2 CH o e⟩
 item:=by
  intro X hP hw hK hc i pins s σ H E I hf st hg;subst hP hw hK;obtain⟨xs,x,ys,y,q1,q2,hx,hy⟩:=hg;obtain⟨us,rv1,p1⟩:=q1.raw I;obtain⟨vs,rv2,p2⟩:=q2.raw I;obtain⟨u,hu,ru⟩:=rv1.get hx;obtain⟨v,hv,rv⟩:=rv2.get hy;obtain⟨t1,t2,⟨ta,tb,t3⟩,t4,t5⟩:=st;have e1:∀b∈[z,TI,TO,i1,i2],a1≠b:=fun b hb=>q1.none (hf b hb).1;have e2:∀b∈[z,TI,TO,i1,i2],a2≠b:=fun b hb=>q2.none (hf b hb).1;simp only[List.nodup_cons,List.mem_cons,List.not_mem_nil,or_false,not_or]at ne;obtain⟨⟨n1,n2,n3,n4⟩,⟨n5,n6,n7⟩,⟨n8,n9⟩,n10,_⟩:=ne;have ap:ZT.Apart z TI TO i1 i2 [i1,a1] [i2,a2]:=⟨⟨Ne.symm n1,n5,n6,n7⟩,⟨Ne.symm n2,n8,n9⟩,⟨Ne.symm n3,Ne.symm n4,n10⟩,
   ⟨by simp[n3,Ne.symm (e1 z CH)],by simp[n8,Ne.symm (e1 TO CH)],by simp[Ne.symm n10,Ne.symm (e1 i2 CH)]⟩,⟨by simp[n4,Ne.symm (e2 z CH)],by simp[n9,Ne.symm (e2 TO CH)],by simp[n10,Ne.symm (e2 i1 CH)]⟩⟩
  refine ZT.next_item (ZT.FP (prog:=X.prog) (w:=X.w) (A:=X.A.in1) (I.ok.hd hc) b1 i1 a1 us (e1 i1 CH)) (ZT.FP (prog:=X.prog) (w:=X.w) (A:=X.A.in1) (I.ok.hd hc) b2 i2 a2 vs (e2 i2 CH)) ap t1 t2 t3 ⟨t4,p1⟩ ⟨t5,p2⟩ (aD.mp hu).1 (aD.mp hv).1
   fun u' v' h' tk r1 r2 r3 r4 r5 r6 r7 r8 r9=>⟨_,rfl,wpAny_letOwnedTupleGo_zip (s:={s with heap:=h',toks:=tk}) r3 fun h'' z'' sb=>?_⟩
  rw[hu]at r1;rw[hv]at r2;cases r1;cases r2;have keep:∀b o,b ∉ [z,TI,TO,i1,i2]->s.heap.get? b=some o->h''.get? b=some o:=fun b o hb q=>by
   simp only[List.mem_cons,List.not_mem_nil,or_false,not_or]at hb;exact(sb.2 b hb.1).trans (r9 b o hb.1 hb.2.2.1 hb.2.2.2.1 hb.2.2.2.2 q)
  have lt:∀b∈[z,TI,TO,i1,i2],b<s.heap.objs.size:=fun b hb=>by
   have hb:b=z\/b=TI\/b=TO\/b=i1\/b=i2:=by simpa using hb
   rcases hb with rfl|rfl|rfl|rfl|rfl
   .exact aG t1
   .exact aG t2
   .exact aG t3
   .obtain⟨o,e,_⟩:=GN t4;exact aG e
   .obtain⟨o,e,_⟩:=GN t5;exact aG e
  have hTn:H s.heap.objs.size=none:=I.BA.fresh (aH _);have hT'':h''.get? s.heap.objs.size=some { cls:=.type "tuple",data:=.seq #[u,v]}:=(sb.2 _ (bQ (lt z CH))).trans r7;refine⟨.ref s.heap.objs.size,upd H s.heap.objs.size (.tup [x,y]),?_,rfl,⟨_,x,y,rfl,hTn,rfl,fun zs hz=>by rw[hz.inj q1];exact hx,fun zs hz=>by rw[hz.inj q2];exact hy⟩,⟨z'',?_,⟨u,v,?_⟩,?_,?_⟩,fun b hb=>?_⟩
  .exact I.Rk hf keep Ry (.cons ru (.cons rv .nil)) hT''
  .exact(sb.2 _ (Ne.symm n1)).trans (r9 _ _ (Ne.symm n1) n5 n6 n7 t2)
  .exact(sb.2 _ (Ne.symm n2)).trans r4
  .exact FO r5.1 fun o e=>(sb.2 _ (Ne.symm n3)).trans e
  .exact FO r6.1 fun o e=>(sb.2 _ (Ne.symm n4)).trans e
  .rw[AR (aO (lt b hb))];exact(hf b hb).1
 done:=by
  intro X hP hw hK hc i pins s σ H E I hf st hg;subst hP hw hK;obtain⟨xs,ys,q1,q2,he⟩:=hg;obtain⟨us,rv1,p1⟩:=q1.raw I;obtain⟨vs,rv2,p2⟩:=q2.raw I;obtain⟨t1,t2,⟨ta,tb,t3⟩,t4,t5⟩:=st;have e1:∀b∈[z,TI,TO,i1,i2],a1≠b:=fun b hb=>q1.none (hf b hb).1;have e2:∀b∈[z,TI,TO,i1,i2],a2≠b:=fun b hb=>q2.none (hf b hb).1;simp only[List.nodup_cons,List.mem_cons,List.not_mem_nil,or_false,not_or]at ne;obtain⟨⟨n1,n2,n3,n4⟩,⟨n5,n6,n7⟩,⟨n8,n9⟩,n10,_⟩:=ne;have ap:ZT.Apart z TI TO i1 i2 [i1,a1] [i2,a2]:=⟨⟨Ne.symm n1,n5,n6,n7⟩,⟨Ne.symm n2,n8,n9⟩,⟨Ne.symm n3,Ne.symm n4,n10⟩,
   ⟨by simp[n3,Ne.symm (e1 z CH)],by simp[n8,Ne.symm (e1 TO CH)],by simp[Ne.symm n10,Ne.symm (e1 i2 CH)]⟩,⟨by simp[n4,Ne.symm (e2 z CH)],by simp[n9,Ne.symm (e2 TO CH)],by simp[n10,Ne.symm (e2 i1 CH)]⟩⟩
  have he':i=us.length\/(i<us.length/\i=vs.length):=by rw[<-rv1.length,<-rv2.length];exact he
  refine ZT.next_end (ZT.FP (prog:=X.prog) (w:=X.w) (A:=X.A.in1) (I.ok.hd hc) b1 i1 a1 us (e1 i1 CH)) (ZT.FP (prog:=X.prog) (w:=X.w) (A:=X.A.in1) (I.ok.hd hc) b2 i2 a2 vs (e2 i2 CH)) ap t1 t2 t3 ⟨t4,p1⟩ ⟨t5,p2⟩ he' fun h' tk kp=>⟨rfl,?_⟩;have keep:∀b o,b ∉ [z,TI,TO,i1,i2]->s.heap.get? b=some o->h'.get? b=some o:=fun b o hb q=>by
   simp only[List.mem_cons,List.not_mem_nil,or_false,not_or]at hb;exact kp b o hb.1 hb.2.2.1 hb.2.2.2.1 hb.2.2.2.2 q
  exact I.turn hf keep
 self:=fun _ _ _ _ _ st h=>wpAny_pyIter_zip st.1 h
def tQ(B:TA):TI:=fun σ H R=>B σ H fun vs g=>∃(b1 b2:Bool) (a1 a2:Addr),vs=[.ref a1,.ref a2]/\(∃xs,Cp b1 g a1 xs)/\(∃ys,Cp b2 g a2 ys)/\R (ox b1 b2 a1 a2) g
theorem WE{X:Cx}{elts:List Expr}{x1}{g:Pos}{a b:Expr}{ta:TA}{p pos:Pos}(hg:Gl X "zip")(hm:X.mg "zip" = none)(ha:PA X [a,b] ta)(hs:starEach [a,b] X.env=[(false,eval a X.env),(false,eval b X.env)]:=by rfl)(B:starEach [b] X.env=[(false,eval b X.env)]:=by rfl) :
  PI X (.Tuple elts x1 g) (.Call (.Name "zip" p) [a,b] [] pos) (tQ ta):=by
 intro pins s σ H R I h;refine Call_ (Hh I hg hm boot_zip (ax (BQ (ha pos pins s σ H _ I h) fun us s1 ⟨vs,H1,U,r1,q1⟩=>?_) (by rw[hs,B]) (by rw[B];rfl)));obtain⟨b1,b2,l1,l2,e,⟨xs,h1⟩,⟨ys,h2⟩,q⟩:=q1;subst e;cases r1 with
 |cons r Y=>
  cases Y with
  |cons r' Y=>
   cases Y;cases r;cases r';obtain⟨us,_,p1⟩:=h1.raw U;obtain⟨vs,_,p2⟩:=h2.raw U;refine ZT.iA p1 p2 fun h' z1 z2 z3 z4 z5 hk=>wpAny_pyIter_zip z1 ?_;have I2:Inv X pins σ H1 {s1 with heap:=h'}:=U.kept (t':=s1.toks) hk;refine⟨_,[s1.heap.objs.size+4,s1.heap.objs.size+2,s1.heap.objs.size+3,s1.heap.objs.size,s1.heap.objs.size+1],_,_,H1,rfl,I2,fK ?_,⟨z1,z2,⟨_,_,z3⟩,z4,z5⟩,fun b hb=>?_,q⟩
   .simp
   have T:s1.heap.objs.size<=b:=by
    have Z:b=s1.heap.objs.size+4\/b=s1.heap.objs.size+2\/b=s1.heap.objs.size+3\/b=s1.heap.objs.size\/b=s1.heap.objs.size+1:=by simpa using hb
    rcases Z with h|h|h|h|h<;>rw[h]<;>first|exact aH _|exact Nat.le_add_right _ _
   exact U.QQ T (U.BA.fresh T)
def Yl(K:At)(a:Addr):It :=
 ⟨fun i H=>∃xs x,Ax K H a xs/\xs[i]? = some x,fun i H v H'=>∃p x,v=.ref p/\H p=none/\H'=upd H p (.tup [.int i,x])/\∀xs,Ax K H a xs->xs[i]? = some x,fun i H=>∃xs,Ax K H a xs/\xs.length=i⟩
theorem Zr{P:G8}{w:Id}{K:At}{elts:List Expr}{x1}{pos:Pos}(a e it:Addr)(hne:e≠it) :
  Turn P w K (.Tuple elts x1 pos) (Yl K a) [e,it] e (fun i h=>(∃old,IsEnum h e it (i:Nat) old)/\h.IsListIter it a i) where
 mem:=by simp
 obj:=fun i h st b hb=>by
  rcases aQ.mp hb with rfl|hb
  .obtain⟨⟨old,q⟩,_⟩:=st;exact⟨_,q,fun v z=>by cases z⟩
  .have e2:b=it:=by simpa using hb
   subst e2;obtain⟨_,o,q,c,d⟩:=st;exact⟨o,q,fun v z=>by rw[d]at z;cases z⟩
 keep:=fun i h h' st k=>by
  obtain⟨⟨old,q⟩,o,q2,r⟩:=st;exact⟨⟨old,k e CH _ q⟩,o,k it CH _ q2,r⟩
 item:=by
  intro X hP hw hK hc i pins s σ H E I hf st hg;subst hP hw hK;obtain⟨xs,x,hq,hx⟩:=hg;obtain⟨its,rv,pL,hz⟩:=I.list hq;have p:=pL.isList;obtain⟨u,hu,ru⟩:=rv.get hx;obtain⟨⟨old,he⟩,hit⟩:=st;have hai:a≠it:=fun z=>by
   obtain⟨o,e1,c1,_⟩:=p;obtain⟨o2,e2,c2,_⟩:=hit;rw[z,e2]at e1;cases e1;rw[c1]at c2;exact absurd c2 As
  have hae:a≠e:=fun z=>by
   obtain⟨o,e1,c1,_⟩:=p;rw[z,he]at e1;cases e1;exact absurd (show Value.type "enumerate" = Value.type "list" from c1) As
  have hlt:i<its.length:=(aD.mp hu).1;have hE0:=hf e CH;have hI0:=hf it CH;refine wpAny_pyNext_enum_itemD (Draws.list (prog:=X.prog) (w:=X.w) (A:=X.A.in1) (I.ok.hd hc) it a hai its.toArray) he ⟨hit,p⟩ (by simpa using hlt) hne (by simp[hne,Ne.symm hae]) fun y h' tk hy ho hs' hT hsz hk=>⟨_,rfl,wpAny_letOwnedTupleGo_enum (s:={s with heap:=h',toks:=tk+1}) ho fun h'' he'' sb=>?_⟩;have hyu:y=u:=by
   have hy:its[i]? = some y:=by simpa using hy
   rw[hu]at hy;exact(ag hy).symm
  subst hyu;have keep:∀b o,b≠e->b≠it->s.heap.get? b=some o->h''.get? b=some o:=fun b o h1 h2 q=>(sb.2 b h1).trans (hk b o h1 h2 q);have hTe:s.heap.objs.size≠e:=bQ (aG he);have hTi:s.heap.objs.size≠it:=let⟨_,q,_⟩:=hit;bQ (aG q);have hT'':h''.get? s.heap.objs.size=some { cls:=.type "tuple",data:=.seq #[.int i tk,y]}:=(sb.2 _ hTe).trans hT;have hTn:H s.heap.objs.size=none:=I.BA.fresh (aH _);refine⟨.ref s.heap.objs.size,upd H s.heap.objs.size (.tup [.int i,x]),?_,rfl,⟨_,x,rfl,hTn,rfl,fun ys hy=>by rw[I.VE hy hq];exact hx⟩,⟨⟨_,by simpa using he''⟩,?_⟩,fun b hb=>?_⟩
  .exact I.Rk (ch:=[e,it]) hf (fun b o hb q=>keep b o (fun z=>hb (by simp[z])) (fun z=>hb (by simp[z])) q) Ry (.cons ⟨tk,rfl⟩ (.cons ru .nil)) hT''
  .obtain⟨⟨o,q,r⟩,_⟩:=hs';exact⟨o,(sb.2 it (Ne.symm hne)).trans q,r⟩
  .rcases aQ.mp hb with rfl|hb
   .rw[AR (Ne.symm hTe)];exact hE0.1
   .have e2:b=it:=by simpa using hb
    subst e2;rw[AR (Ne.symm hTi)];exact hI0.1
 done:=by
  intro X hP hw hK hc i pins s σ H E I hf st hg;subst hP hw hK;obtain⟨xs,hq,hx⟩:=hg;obtain⟨its,rv,pL,hz⟩:=I.list hq;have p:=pL.isList;obtain⟨⟨old,he⟩,hit⟩:=st;have hai:a≠it:=fun z=>by
   obtain⟨o,e1,c1,_⟩:=p;obtain⟨o2,e2,c2,_⟩:=hit;rw[z,e2]at e1;cases e1;rw[c1]at c2;exact absurd c2 As
  have hl:its.length=i:=by rw[<-rv.length];exact hx
  subst hl;obtain⟨f0,f1,f2,f3,f4,f5⟩:=hf it CH;exact wpAny_pyNext_enum_endD (Draws.list (prog:=X.prog) (w:=X.w) (A:=X.A.in1) (I.ok.hd hc) it a hai its.toArray) he ⟨hit,p⟩ fun h' eb=>⟨rfl,I.turned (t':=s.toks) (fun b o hb q=>eb b o hb q) f0 f1 f3 f4 f5⟩
 self:=fun _ _ _ _ _ st h=>by
  obtain⟨⟨old,he⟩,_⟩:=st;exact wpAny_pyIter_enum he h
def oH(K:At)(B:TA):TI:=fun σ H R=>B σ H fun vs g=>∃a,vs=[.ref a]/\(∃xs,Ax K g a xs)/\R (Yl K a) g
theorem Vm{X:Cx}{elts:List Expr}{x1}{g:Pos}{a:Expr}{Y:TA}{p pos:Pos}(hg:Gl X "enumerate")(hm:X.mg "enumerate" = none)(ha:PA X [a] Y)(hs:starEach [a] X.env=[(false,eval a X.env)]:=by rfl) :
  PI X (.Tuple elts x1 g) (.Call (.Name "enumerate" p) [a] [] pos) (oH X.K Y):=by
 intro pins s σ H R I h;refine Call_ (Hh I hg hm boot_enumerate (ax (BQ (ha pos pins s σ H _ I h) fun us s1 ⟨vs,H1,T,r1,q1⟩=>?_) hs rfl));obtain⟨t,e,⟨xs,hq⟩,q⟩:=q1;subst e;cases r1 with
 |cons r rr=>
  cases rr;cases r;obtain⟨its,rv,p',hz⟩:=T.list hq;refine call_enumerate_list (show s1.heap.IsList t its.toArray from p'.isList) fun h' Z hit hsz hk=>wpAny_pyIter_enum Z ?_;have I2:Inv X pins σ H1 {s1 with heap:=h'}:=T.kept (t':=s1.toks) hk;have hn:s1.heap.objs.size+1≠s1.heap.objs.size:=by lia
  refine⟨s1.heap.objs.size+1,[s1.heap.objs.size+1,s1.heap.objs.size],_,_,H1,rfl,I2,Zr t _ _ hn,⟨⟨_,Z⟩,hit⟩,fun b hb=>?_,q⟩;have B:s1.heap.objs.size<=b:=by
   have U:b=s1.heap.objs.size+1\/b=s1.heap.objs.size:=by simpa using hb
   rcases U with z|z
   .rw[z];exact Nat.le_succ _
   .rw[z];exact aH _
  exact T.QQ B (T.BA.fresh B)
theorem cI{K:At}{a:Addr}{xs:Fa}{g:TG}{U:TS}{D:Ends}{σ:St}{H:Hp}(Pv:Nat->St->Hp->Prop)(h0:Pv 0 σ H)(hl:∀i σ H,i<=xs.length->Pv i σ H->Ax K H a xs)
 (hs:∀i x σ H,xs[i]? = some x->Pv i σ H->∀p,H p=none->g (.ref p) σ (upd H p (.tup [.int (i:Nat),x])) fun B T=>U {D with nx:=Pv (i+1),ct:=Pv (i+1),bk:=D.nx} B T)(hd:∀σ H,Pv xs.length σ H->D.nx σ H) :
  ∃W:Nat->Nat->St->Hp->Prop,(∃m,W 0 m σ H)/\∀i m σ H,W i m σ H ->
   ((Yl K a).stop i H/\D.nx σ H)\/((Yl K a).go i H/\∃N:St->Hp->Prop,(∀I H',N I H'->∃Y,Y<m/\W (i+1) Y I H')/\∀x H',(Yl K a).Fw i H x H'->g x σ H' fun B T=>U {D with nx:=N,ct:=N,bk:=D.nx} B T):=by
 refine⟨fun i m σ H=>m=xs.length-i/\i<=xs.length/\Pv i σ H,⟨xs.length,by simp,Nat.zero_le _,h0⟩,?_⟩;rintro i m σ H ⟨rfl,hi,p⟩;have q:=hl i σ H hi p;by_cases R:i<xs.length
 .refine .inr ⟨⟨xs,xs[i],q,by simp[R]⟩,Pv (i+1),fun I H' p'=>⟨xs.length-(i+1),by lia,rfl,R,p'⟩,fun x H' y=>?_⟩;obtain⟨pp,Z,rfl,hn,rfl,y⟩:=y;exact hs i Z σ _ (y xs q) p pp hn
 .have e:i=xs.length:=by lia
  subst e;exact .inl ⟨⟨xs,q,rfl⟩,hd σ H p⟩
section
variable{κ:Type}[DecidableEq κ]
def Ii(kvs:List (κ×V))(k:κ):Option V:=(kvs.find? fun g=>decide (g.1=k)).map (·.2)
theorem Vw{p:κ×V}{r:List (κ×V)}{k:κ}(e:p.1=k):Ii (p::r) k=some p.2:=by simp[Ii,List.find?_cons,e]
theorem WM{p:κ×V}{r:List (κ×V)}{k:κ}(e:¬p.1=k):Ii (p::r) k=Ii r k:=by simp[Ii,List.find?_cons,e]
theorem LG.Ua{o:Option V}{u:Option Value}(r:LG o u):o.isSome=u.isSome:=by
 cases o with
 |none=>cases u with
  |none=>rfl
  |some _=>exact(show False from r).elim
 |some _=>cases u with
  |none=>exact(show False from r).elim
  |some _=>rfl
theorem KV.val{kvs:List (κ×V)}{vs:List (κ×Value)}(r:KV kvs vs)(k:κ):LG (Ii kvs k) (valueAt vs k):=by
 unfold KV at r
 induction r with
 |nil=>exact True.intro
 | @cons p q ps g h t R=>
  obtain⟨I,T⟩:=h;by_cases e:p.1=k
  .have B:q.1=k:=I.symm.trans e;have b:valueAt (q::g) k=some q.2:=by simp[valueAt,List.find?_cons,B]
   rw[Vw e,b];exact T
  .have B:¬q.1=k:=fun z=>e (I.trans z);have b:valueAt (q::g) k=valueAt g k:=by simp[valueAt,List.find?_cons,B]
   rw[WM e,b];exact R
end
theorem Y1{P:G8}{w:Id}{k:Key}{u:KS}(r:RelV (kV k) u):(GP P w).is k u=true:=by
 cases k with
 |inl i=>obtain⟨t,e⟩:=(show ∃t,u=Value.int i t from r);subst e;exact XT P w i t
 |inr x=>obtain⟨t,e⟩:=(show ∃t,u=Value.str x t from r);subst e;exact Xf P w x t
theorem UL{P:G8}{w:Id}:∀ {ks:List Key} {us:Db},Vals (ks.map kV) us->ItemsAre (GP P w) ks us
 |[],_,r=>by rw[List.map_nil]at r;cases r;exact .nil
 |k::ks,_,r=>by
  rw[(CI)]at r;cases r with
  |cons h t=>exact .cons (Y1 h) (UL t)
abbrev KT(H:Hp):List (List Key×V)->List (List Key×Addr×Value)->Prop:=Paired fun p q=>p.1=q.1/\H q.2.1=some (.tup (p.1.map kV))/\RelV p.2 q.2.2
theorem KT.val{H:Hp}{kvs:List (List Key×V)}{xs:List (List Key×Addr×Value)}(r:KT H kvs xs)(k:List Key):LG (Ii kvs k) ((atKey xs k).map (·.2)):=by
 induction r with
 |nil=>exact True.intro
 | @cons p q ps g h t R=>
  obtain⟨I,_,T⟩:=h;by_cases e:p.1=k
  .have B:q.1=k:=I.symm.trans e;have b:atKey (q::g) k=some q.2:=by simp[atKey,List.find?_cons,B]
   rw[Vw e,b];exact T
  .have B:¬q.1=k:=fun z=>e (I.trans z);have b:atKey (q::g) k=atKey g k:=by simp[atKey,List.find?_cons,B]
   rw[WM e,b];exact R
section
variable{P:G8}{w:Id}{H:Hp}{h:Heap}{a:Addr}
theorem jB{u:HO}(ok:Ek P w H h)(e:Rd H a u):Cu P w H h a u:=e.ok ok
theorem Z0{kvs:List (Key×V)}(ok:Ek P w H h)(e:Rd H a (.dK kvs)):kvs.length<=sizeLine/\(a==sysModules)=false/\∃vs,KV kvs vs/\h.DictOf (GP P w) a vs :=
 show Cu P w H h a (.dK kvs) from jB ok e
theorem W7{ks:List Key}(ok:Ek P w H h)(e:H a=some (.tup (ks.map kV))):(tupleKind (GP P w)).is h ks a:=by
 obtain⟨_,its,r,o,I,B,n,g⟩:=(show Cu P w H h a (.tup (ks.map kV)) from ok a _ e);exact⟨o,its.toArray,n,I,B,g,by simpa using UL r⟩
theorem Zy{kvs:List (List Key×V)}(ok:Ek P w H h)(e:Rd H a (.dT kvs)):kvs.length<=sizeLine/\(a==sysModules)=false /\
  ∃xs,KT H kvs xs/\h.DictOfH (tupleKind (GP P w)) a xs:=by
 obtain⟨z,y,xs,r,o,es,ep,Z,Y,U,T,R⟩:=(show Cu P w H h a (.dT kvs) from jB ok e);refine⟨z,y,xs,r,o,es,ep,Z,Y,U,T,fun x g=>?_,R⟩;have all:∀ {l:List (List Key×V)} {m:List (List Key×Addr×Value)},KT H l m->∀x∈m,(tupleKind (GP P w)).is h x.1 x.2.1:=by
  intro l m q
  induction q with
  |nil=>intro x g;exact nomatch g
  | @cons p q ps qs B t I=>
   intro x g;rcases aQ.mp g with e|g
   .subst e;exact W7 ok (by rw[<-B.1];exact B.2.1)
   .exact I x g
 exact all r x g
end
def Vp(H:Hp)(a:Addr)(y:V)(r:Option V):Prop :=
 (∃kvs k,Rd H a (.dK kvs)/\y=kV k/\r=Ii kvs k)\/∃kvs k b,Rd H a (.dT kvs)/\y=.ref b/\H b=some (.tup (k.map kV))/\r=Ii kvs k
section
variable{X:Cx}{pins:Cy}{σ:St}{H:Hp}{s:GJ}{a:Addr}{y v:V}{u:KS}{o:Option V}{A:Around}{E:AT}
theorem cG{Q:AT}(hu:A.units+1<cLine)(I:Cl)(g:Vp H a y (some v))(Z:RelV y u)(h:∀R s',Inv X pins σ H s'->RelV v R->Q R s') :
  wpAny Cs A (getItem Jj u) Q E s:=by
 rcases g with ⟨kvs,k,e,Y,l⟩|⟨kvs,k,b,e,Y,eb,l⟩
 .subst Y;obtain⟨z,hd,vs,rel,dd⟩:=Z0 I.BA e;obtain⟨R,T,B⟩:=LG.some_of (v:=v) (o:=valueAt vs k) (by rw[l];exact rel.val k);exact wpAny_getItem_of (Y1 Z) dd.mapOf T (h R _ (I.tok _) B)
 .subst Y;cases (show u=Value.ref b from Z);obtain⟨z,hd,xs,rel,dd⟩:=Zy I.BA e;obtain⟨R,T,B⟩:=LG.some_of (v:=v) (o:=(atKey xs k).map (·.2)) (by rw[l];exact rel.val k);obtain⟨p,hp,U⟩:=aF.mp T;refine wpAny_getItem_heap (tupleKind_room_in1 hu) (W7 I.BA eb) dd hp ?_;rw[U];exact h R _ (I.tok _) B
theorem jJ{Q:AT}(T:A.units+1<cLine)(I:Cl)(g:Vp H a y o)(R:RelV y u)(h:∀s',Inv X pins σ H s'->Q (.bool (!o.isSome)) s') :
  wpAny Cs A (compareOp .NotIn u Jj) Q E s:=by
 rcases g with ⟨kvs,k,e,B,l⟩|⟨kvs,k,b,e,B,U,l⟩
 .subst B;obtain⟨z,hd,vs,rel,dd⟩:=Z0 I.BA e;refine wpAny_notIn_of (Y1 R) hd dd.mapOf ?_;rw[<-(rel.val k).Ua,<-l];exact h _ (I.tok _)
 .subst B;cases (show u=Value.ref b from R);obtain⟨z,hd,xs,rel,dd⟩:=Zy I.BA e;refine wpAny_notIn_heap (tupleKind_room_in1 T) (W7 I.BA U) hd dd ?_;have q:=(rel.val k).Ua;rw[Option.isSome_map]at q;rw[<-q,<-l];exact h _ (I.tok _)
end
def ZI(i:Expr):Prop:=∀g B,subscripted i false g B=operate [g,B] (getItem g B)
theorem YZ{prog:G8}{w:Id}{A:Around}{E:AT}{s:GJ}{env:Env}{value slice:Expr}{pos:Pos}{T id:String}{Q:AT}
 (hl:typeLookup (.type T) "__getitem__" = pure (some (.builtin id)))(hs:ZI slice)
 (h:wpAny BY A (eval value env) (fun o R=>wpAny BY A (eval slice env) (fun i g=>g.TypeIs o T/\wpAny BY A (getItem o i) Q E g) E R) E s) :
  wpAny BY A (eval (.Subscript value slice pos) env) Q E s:=by
 refine Subscript_ (ao h (fun o R Y=>ao Y (fun i g B=>?_) fun _ _ x=>x) fun _ _ x=>x);obtain⟨Z,B⟩:=B;unfold subscriptTail;refine aA ?_;rw[getitemInPython_of_ne Z.not_modules];refine aA (wpAny_specialOf Z hl ?_);have fin:wpAny BY A (subscripted slice false o i) (fun r I=>wpAny BY A (letTemporaryGo value o r>>=fun _=>pure r) Q E I) E g:=by
  rw[hs o i];exact wpAny_operating (ao B (fun r I U=>aA (wpAny_letTemporaryGo (aB U))) fun _ _ x=>x)
 first
  |exact aB (aA fin)
  |exact aA (aB (aA fin))
  |exact aA fin
theorem Xi{X:Cx}{pins:Cy}{σ:St}{H:Hp}{s:GJ}{a:Addr}{y:V}{o:Option V}(I:Cl)(g:Vp H a y o):s.TypeIs Jj "dict" := by
 rcases g with ⟨kvs,k,e,_,_⟩|⟨kvs,k,b,e,_,_,_⟩
 .obtain⟨_,_,vs,_,dd⟩:=Z0 I.BA e;exact dd.typeIs
 .obtain⟨_,_,xs,_,dd⟩:=Zy I.BA e;exact dd.typeIs
def qe(B ty:TE):TE:=fun σ H Q=>B σ H fun x I=>ty σ I fun y g=>∃a v,x=.ref a/\Vp g a y (some v)/\Q v g
def kO(ty B:TE):TE:=fun σ H Q=>ty σ H fun y I=>B σ I fun x g=>∃a o,x=.ref a/\Vp g a y o/\Q (.bl (!o.isSome)) g
section
variable{X:Cx}{o i:Expr}{pos:Pos}{td ty:TE}
theorem kx(hu:X.A.units+1<cLine)(ho:PE X o td)(hi:PE X i ty)(hs:ZI i):PE X (.Subscript o i pos) (qe td ty):=by
 intro pins s σ H Q I h;refine YZ PySem.F.slot_dict_getitem.lookup hs (BQ (ho pins s σ H _ I h) fun u s1 ⟨x,H1,I1,U,Z⟩=>BQ (hi pins s1 σ H1 _ I1 Z) fun iv s2 ⟨y,H2,R,T,a,v,ex,g,Y⟩=>?_);subst ex;obtain rfl:u=Value.ref a:=U;exact⟨Xi R g,cG hu R g T fun w' s3 I3 B=>⟨v,H2,I3,B,Y⟩⟩
theorem cf(Z:X.A.units+1<cLine)(hi:PE X i ty)(ho:PE X o td):PC X .NotIn i o (kO ty td):=by
 intro pins s σ H Q I h;refine BQ (hi pins s σ H _ I h) fun iv s1 ⟨y,H1,I1,B,U⟩=>BQ (ho pins s1 σ H1 _ I1 U) fun u s2 ⟨x,H2,I2,R,a,Y,ex,g,T⟩=>?_;subst ex;obtain rfl:u=Value.ref a:=R;exact jJ Z I2 g B fun s3 I3=>⟨.bl (!Y.isSome),H2,I3,rfl,T⟩
end
end L2
namespace TH
open PySem PyProof.Rows PySem.SeqAt
def Kf:Tr->List Int
 |.nil=>[]
 |.cons b r=>reduceHash (Builtin.Tuple.tupleHashOf (Kf b))::Kf r
def Bc(t:Tr):Int:=reduceHash (Builtin.Tuple.tupleHashOf (Kf t))
section
variable{prog:G8}{w:Id}{E:AT}
theorem IsTuple.ty{h:Heap}{a:Addr}{x:Array Value}{s:GJ}(e:s.heap=h)(k:h.IsTuple a x):s.TypeIs Jj "tuple" := by
 subst e;obtain⟨o,g,B,_⟩:=k;exact⟨o,g,B⟩
def Yc(prog:G8)(w:Id)(E:AT)(t:Tr):Prop:=∀(us:Db) (A:Around) (s:GJ) (b:Array Int) (Q:Array Int->Shared->Prop),Vs s.heap t us->A.units+t.deep<=cLine ->
 (∀B g,g.toList=b.toList++Kf t->Q g {s with toks:=B})->wpAny BY A (forIn us b fun x r=>do let h <-pyHash x;pure PUnit.unit;pure (ForInStep.yield (r.push h))) Q E s
theorem QJ{t:Tr}(row:Yc prog w E t){a:Addr}{its:Db}{A:Around}{s:GJ}{Q:Int->Shared->Prop}(g:s.heap.IsTuple a its.toArray)(U:Vs s.heap t its)(Y:A.units+t.deep<cLine)
 (h:∀tk,Q (Bc t) {s with toks:=tk}):wpAny BY A (pyHash Jj) Q E s:=by
 have R:=IsTuple.ty rfl g;obtain⟨o,B,Z,n,hd⟩:=id g;refine PySem.W.pyHash_slot (T := "tuple") R F.slot_tuple_hash F.entry_tuple_hash (F.args_tuple_hash_1 _) (beq_builtin_none _) (.inr AS) ?_;show wpAny _ _ (Builtin.Tuple.tupleItemsOf Jj>>=_) _ _ s;refine aA (wpAny_tupleItemsOf B hd ?_);refine aA ?_;rw[<-Array.forIn_toList];refine row its A.in1 s #[] _ U (by rw[Around.in1_units];lia) fun tk b I=>?_;show wpAny _ _ (retInt (Builtin.Tuple.tupleHashOf b.toList)) _ _ _;rw[I];exact aA (wpAny_mkInt (aB ⟨_,_,rfl,h _⟩))
theorem Qj:∀t:Tr,Yc prog w E t
 |.nil=>fun us A s b Q e _ h=>by rw[Vs]at e;subst e;exact aB (h s.toks b (by simp[Kf]))
 |.cons c r=>fun us A s b Q e Z h=>by
  rw[Vs]at e;obtain⟨a,its,rest,rfl,T,R,I⟩:=e;have hd:(Tr.cons c r).deep=max (c.deep+1) r.deep:=rfl;rw[List.forIn_cons];refine aA (aA (QJ (Qj c) T R AS fun Y=>?_));refine aA (aB (aB ?_));exact Qj r rest A _ _ Q I AS fun g U B=>h g U (by simp[B,Kf,Bc])
theorem kM{t:Tr}{a:Addr}{its:Db}{A:Around}{s:GJ}{Q:Int->Shared->Prop}(I:s.heap.IsTuple a its.toArray)(B:Vs s.heap t its)(g:A.units+t.deep<cLine)
 (h:∀tk,Q (Bc t) {s with toks:=tk}):wpAny BY A (pyHash Jj) Q E s:=QJ (Qj t) I B g h
def Good(h:Heap)(n:Nat)(v:KS):Prop:=∃a its t,v=.ref a/\h.IsTuple a its.toArray/\Vs h t its/\t.deep<n
theorem NU{h:Heap}:∀ {t:Tr} {us:Db} {n:Nat},Vs h t us->t.deep<=n->∀v∈us,Good h n v
 |.nil,us,n,e,_,v,g=>by rw[Vs]at e;subst e;cases g
 |.cons c r,us,n,e,hd,v,g=>by
  rw[Vs]at e;obtain⟨a,its,rest,rfl,R,I,B⟩:=e;rw[Tr.deep]at hd;rcases aQ.mp g with rfl|g
  .exact⟨a,its,c,rfl,R,I,by lia⟩
  .exact NU B AS v g
theorem VX:∀(n:Nat) {v:KS} {A:Around} {s:GJ} {Q:Bool->Shared->Prop},Good s.heap n v->Q true s->wpAny BY A (hashByValue n v) Q E s
 |0,v,A,s,Q,⟨_,_,_,_,_,_,z⟩,_=>absurd z (ak _)
 |n+1,v,A,s,Q,⟨a,its,t,e,U,h2,hd⟩,h=>by
  subst e;have Z:=IsTuple.ty rfl U;obtain⟨o,Y,hc,k,T⟩:=id U;unfold hashByValue;refine aA (wpAny_specialOf Z F.slot_tuple_hash.lookup ?_);refine aA (ai Y T ?_);refine aA ?_;show wpAny _ _ (forIn its.toArray _ _) _ _ s;rw[<-Array.forIn_toList];refine wpAny_forIn_list _ (fun rest r B=>r.1=none/\B=s/\∀v∈rest,Good s.heap n v) _ ?_ ?_ _ _ ⟨rfl,rfl,NU h2 AS⟩
  .rintro v rest r B ⟨R,rfl,g⟩;refine aA (VX n (g v aX) ?_);simp only[Bool.not_true,Bool.false_eq_true,if_false];exact aB ⟨rfl,rfl,fun u I=>g u (aV _ I)⟩
  .rintro⟨r1,r2⟩ B ⟨R,rfl,_⟩;simp only at R;subst R;exact aB h
theorem quiet:∀(n:Nat) {v:KS} {A:Around} {s:GJ} {Q:Bool->Shared->Prop},Good s.heap n v->Q true s->wpAny BY A (eqIsQuiet n v) Q E s
 |0,v,A,s,Q,⟨_,_,_,_,_,_,z⟩,_=>absurd z (ak _)
 |n+1,v,A,s,Q,⟨a,its,t,e,Y,h2,hd⟩,h=>by
  subst e;have U:=IsTuple.ty rfl Y;obtain⟨o,Z,hc,k,T⟩:=id Y;unfold eqIsQuiet;refine aA (wpAny_specialOf U F.slot_tuple_eq.lookup ?_);show wpAny _ _ (isInstance Jj Hq>>=_) _ _ s;refine aA (wpAny_isInstance U isSubtype_tuple_tuple ?_);simp only[Bool.not_true,Bool.false_eq_true,if_false];refine aA (ai Z T ?_);refine aA ?_;show wpAny _ _ (forIn its.toArray _ _) _ _ s;rw[<-Array.forIn_toList];refine wpAny_forIn_list _ (fun rest r B=>r.1=none/\B=s/\∀v∈rest,Good s.heap n v) _ ?_ ?_ _ _ ⟨rfl,rfl,NU h2 AS⟩
  .rintro v rest r B ⟨R,rfl,g⟩;refine aA (quiet n (g v aX) ?_);simp only[Bool.not_true,Bool.false_eq_true,if_false];exact aB ⟨rfl,rfl,fun u I=>g u (aV _ I)⟩
  .rintro⟨r1,r2⟩ B ⟨R,rfl,_⟩;simp only at R;subst R;exact aB h
theorem Qc:∀(n:Nat) {v:KS} {A:Around} {s:GJ} {Q:Bool->Shared->Prop},Good s.heap n v->Q false s->wpAny BY A (ofAClassStatement n v) Q E s
 |0,v,A,s,Q,⟨_,_,_,_,_,_,z⟩,_=>absurd z (ak _)
 |n+1,v,A,s,Q,⟨a,its,t,e,U,h2,hd⟩,h=>by
  subst e;have hT:=IsTuple.ty rfl U;obtain⟨o,Z,hc,k,T⟩:=id U;unfold ofAClassStatement;refine aA (wpAny_typeOf hT ?_);have Y:("tuple" == "tuple")=true:=by rfl
  dsimp only;rw[if_pos Y];refine aA (aB ?_);simp only[Bool.not_true,Bool.false_eq_true,if_false];refine aA (ai Z T ?_);refine aA ?_;rw[<-Array.forIn_toList];refine wpAny_forIn_list _ (fun rest r B=>r.1=none/\B=s/\∀v∈rest,Good s.heap n v) _ ?_ ?_ _ _ ⟨rfl,rfl,NU h2 AS⟩
  .rintro v rest r B ⟨R,rfl,g⟩;refine aA (Qc n (g v aX) ?_);simp only[Bool.false_eq_true,if_false];exact aB ⟨rfl,rfl,fun u I=>g u (aV _ I)⟩
  .rintro⟨r1,r2⟩ B ⟨R,rfl,_⟩;simp only at R;subst R;exact aB h
theorem fv{x:KS}{l:Db}{A:Around}{s:GJ}{Q:Bool->Shared->Prop}(hx:Good s.heap 8 x)(hl:∀y∈l,Good s.heap 8 y)(h:Q false s):wpAny BY A (searchCouldBeSeen x l) Q E s:=by
  unfold searchCouldBeSeen
  refine aA ?_
  refine wpAny_forIn_list _ (fun rest r s'=>r.1=none/\s'=s/\∀v∈rest,Good s.heap 8 v) _ ?_ ?_ _ _ ⟨rfl,rfl,hl⟩
  . rintro v rest r s' ⟨hr,rfl,hall⟩
    have go:∀b:Bool,wpAny BY A (if b=true then pure (ForInStep.yield (none,())) else do
        let q <-eqIsQuiet 8 x
        if(!q)=true then pure (ForInStep.done (some true,())) else do
          let q <-eqIsQuiet 8 v
          if(!q)=true then pure (ForInStep.done (some true,())) else do
            let q <-ofAClassStatement 8 x
            if q=true then pure (ForInStep.done (some true,())) else do
              let q <-ofAClassStatement 8 v
              if q=true then pure (ForInStep.done (some true,())) else pure (ForInStep.yield (none,())))
        (fun st s''=>match st with
          |ForInStep.yield r=>r.1=none/\s''=s'/\∀v∈rest,Good s'.heap 8 v
          |ForInStep.done r=>False) E s':=fun b=>by
      cases b with
      |true=>rw[if_pos rfl];exact aB ⟨rfl,rfl,fun u hu'=>hall u (aV _ hu')⟩
      |false=>
        rw[if_neg aJ]
        refine aA (quiet 8 hx ?_)
        simp only[Bool.not_true,Bool.false_eq_true,if_false]
        refine aA (quiet 8 (hall v aX) ?_)
        simp only[Bool.not_true,Bool.false_eq_true,if_false]
        refine aA (Qc 8 hx ?_)
        simp only[Bool.false_eq_true,if_false]
        refine aA (Qc 8 (hall v aX) ?_)
        simp only[Bool.false_eq_true,if_false]
        exact aB ⟨rfl,rfl,fun u hu'=>hall u (aV _ hu')⟩
    refine ao (go _) (fun st s'' z=>?_) fun _ _ z=>z
    cases st with
    |yield r=>exact z
    |done r=>exact z.elim
  . rintro⟨r1,r2⟩ s' ⟨hr,rfl,_⟩
    simp only at hr
    subst hr
    exact aB h
end
end TH
namespace TH
open PySem PyProof.Rows PySem.SeqAt
abbrev ES:=Array (Int×Tr)
def QD(g:ES)(i:Nat):Int:=(g[i]?.map (·.1)).getD 0
def ZU(g:ES)(t:SetTable)(x:Tr)(h:Int):Option (Option Nat) :=
 if t.gaveWay then none else
 match t.probe (QD g) h (t.probeStart h) with
 |some (.empty j none)=>some (some j)
 |some (.candidate _ i _)=>match g[i]? with
  |some (_,y)=>if y=x then some none else none
  |none=>none
 |_=>none
def Z7(st:ES×SetTable)(x:Tr):Option (ES×SetTable) :=
 if(st.2.fits st.1.size&&decide (st.1.size<=1000)&&st.2.plain)=false then none else
 match ZU st.1 st.2 x (Bc x) with
 |none=>none
 |some none=>some st
 |some (some slot)=>
  if(st.2.put slot).1.tooFull=false then some (SetTable.insertAt st.1 (st.2.put slot).2 (Bc x,x),(st.2.put slot).1) else
  if((st.2.put slot).1.fits (SetTable.insertAt st.1 (st.2.put slot).2 (Bc x,x)).size&&decide (SetTable.sizeAbove (SetTable.grown (st.1.size+1))<=100000))=false then none else
  match (st.2.put slot).1.relaid ((SetTable.insertAt st.1 (st.2.put slot).2 (Bc x,x)).map (·.1)) (SetTable.grown (st.1.size+1)) with
  |none=>none
  |some (g,order)=>
   if(order.filterMap ((SetTable.insertAt st.1 (st.2.put slot).2 (Bc x,x))[·]?)).size=(SetTable.insertAt st.1 (st.2.put slot).2 (Bc x,x)).size then
    some (order.filterMap ((SetTable.insertAt st.1 (st.2.put slot).2 (Bc x,x))[·]?),g) else none
def Qp(G:Value->Tr->Prop)(h:Heap)(p:Int×Value)(q:Int×Tr):Prop:=p.1=q.1/\q.2.deep<8/\G p.2 q.2/\∃a its,p.2=.ref a/\h.IsTuple a its.toArray/\Vs h q.2 its
abbrev EK(G:Value->Tr->Prop)(h:Heap)(ev:Array (Int×Value))(g:ES):Prop:=Paired (Qp G h) ev.toList g.toList
variable{G:Value->Tr->Prop}
section
variable{α β:Type}{F:α->β->Prop}
theorem Paired.get:∀ {l:List α} {m:List β},Paired F l m->∀ {i:Nat} {y:β},m[i]? = some y->∃x,l[i]? = some x/\F x y
 |_,_,.nil,i,y,h=>by simp at h
 |_,_,.cons g r,0,y,h=>by simp at h;subst h;exact⟨_,rfl,g⟩
 |_,_,.cons g r,i+1,y,h=>Paired.get r (by simpa using h)
theorem Paired.none:∀ {l:List α} {m:List β},Paired F l m->∀ {i:Nat},m[i]? = Option.none->l[i]? = Option.none:=fun {l m} r i h=>by
 have:=r.length;rw[List.getElem?_eq_none_iff]at h ⊢
 lia
theorem Paired.app{B:List α}{g:List β}(k:Paired F B g):∀ {l:List α} {m:List β},Paired F l m->Paired F (l++B) (m++g)
 |_,_,.nil=>k
 |_,_,.cons h r=>.cons h (Paired.app k r)
theorem Paired.take:∀ {l:List α} {m:List β} (n:Nat),Paired F l m->Paired F (l.take n) (m.take n)
 |_,_,0,_=>by simpa using Paired.nil
 |_,_,n+1,.nil=>by simpa using Paired.nil
 |_,_,n+1,.cons h r=>.cons h (Paired.take n r)
theorem Paired.drop:∀ {l:List α} {m:List β} (n:Nat),Paired F l m->Paired F (l.drop n) (m.drop n)
 |_,_,0,h=>h
 |_,_,n+1,.nil=>by simpa using Paired.nil
 |_,_,n+1,.cons h r=>Paired.drop n r
theorem Paired.pick{l:List α}{m:List β}(r:Paired F l m):∀(o:List Nat),Paired F (o.filterMap (l[·]?)) (o.filterMap (m[·]?))
 |[]=>.nil
 |i::o=>by
  rw[(Wy),(Wy)];cases e:m[i]? with
  |none=>rw[Paired.none r e];exact Paired.pick r o
  |some y=>
   obtain⟨x,g,h⟩:=Paired.get r e;rw[g];exact .cons h (Paired.pick r o)
theorem Paired.imp{G:α->β->Prop}(h:∀a b,F a b->G a b):∀ {l:List α} {m:List β},Paired F l m->Paired G l m
 |_,_,.nil=>.nil
 |_,_,.cons k r=>.cons (h _ _ k) (Paired.imp h r)
end
theorem J7{α:Type}(xs:Array α)(p:Nat)(x:α):(SetTable.insertAt xs p x).toList=xs.toList.take p++x::xs.toList.drop p:=by
 unfold SetTable.insertAt;simp[List.extract];rw[List.take_of_length_le CH]
theorem EK.fst{h:Heap}{ev:Array (Int×Value)}{g:ES}(r:EK G h ev g):ev.map (·.1)=g.map (·.1):=by
 have key:∀ {l:List (Int×Value)} {m:List (Int×Tr)},Paired (Qp G h) l m->l.map (·.1)=m.map (·.1):=fun r=>by
  induction r with
  |nil=>rfl
  |cons k _ B=>rw[(CI),(CI),B,k.1]
 apply Array.toList_inj.mp
 simpa using key r
theorem EK.size{h:Heap}{ev:Array (Int×Value)}{g:ES}(r:EK G h ev g):ev.size=g.size:=by simpa using Paired.length r
theorem EK.QD{h:Heap}{ev:Array (Int×Value)}{g:ES}(r:EK G h ev g)(i:Nat):(ev[i]?.map (·.1)).getD 0=QD g i:=by
 have:=ay (fun a:Array Int=>a[i]?) r.fst;simp only[Array.getElem?_map]at this;rw[TH.QD,this]
theorem EK.good{h:Heap}{ev:Array (Int×Value)}{T:ES}(r:EK G h ev T):∀p∈ev.toList,Good h 8 p.2:=by
 have key:∀ {l:List (Int×Value)} {m:List (Int×Tr)},Paired (Qp G h) l m->∀p∈l,Good h 8 p.2:=fun r=>by
  induction r with
  |nil=>intro p g;cases g
  |cons k _ B=>
   intro p g;rcases aQ.mp g with rfl|g
   .obtain⟨_,hd,_,a,its,e,R,I⟩:=k;exact⟨a,its,_,e,R,I,hd⟩
   .exact B p g
 exact key r
theorem EK.at{h:Heap}{ev:Array (Int×Value)}{I:ES}(r:EK G h ev I){i:Nat}{z:Int}{y:Tr}(e:I[i]? = some (z,y)):∃a its,ev[i]? = some (z,.ref a)/\h.IsTuple a its.toArray/\Vs h y its/\y.deep<8:=by
 obtain⟨⟨R,v⟩,Y,g,hd,_,a,its,B,U,T⟩:=Paired.get r (by simpa using e);have g:R=z:=g;have B:v=.ref a:=B;subst g B;exact⟨a,its,by simpa using Y,U,T,hd⟩
theorem EK.keeps{h h':Heap}{ev:Array (Int×Value)}{I:ES}(k:∀b o,h.get? b=some o->o.cls=.type "tuple" -> h'.get? b=some o)(r:EK G h ev I):EK G h' ev I :=
 Paired.imp (fun p q ⟨e,hd,T,a,its,Z,Y,U⟩=>⟨e,hd,T,a,its,Z,(by obtain⟨o,R,B,n,g⟩:=Y;exact⟨o,k _ _ R B,B,n,g⟩),U.keeps k⟩) r
section
variable{prog:G8}{w:Id}{E:AT}{A:Around}{s:GJ}{a xa:Addr}{o:Obj}{ev:Array (Int×Value)}{et:ES}{ep:Nat}{t:SetTable}{x:Tr}{its:Db}{h:Int}
theorem dh{r:Option Nat}{Q:SetFound->Shared->Prop}(ho:s.heap.get? a=some o)(hd:o.data=.set ev ep t)(hf:t.fits et.size=true)(R:EK G s.heap ev et)(I:s.heap.IsTuple xa its.toArray)(B:Vs s.heap x its)(hxd:x.deep<8)
 (hu:A.units+8<cLine)(g:ZU et t x h=some r)(h0:r=none->Q (.there none) s)(h1:∀j,r=some j->Q (.free j false) s):wpAny BY A (setSearch a (.ref xa) h true) Q E s:=by
 have T:t.fits ev.size=true:=by rw[R.size];exact hf
 unfold ZU at g;by_cases hg:t.gaveWay=true
 .rw[if_pos hg]at g;cases g
 rw[if_neg hg]at g;unfold setSearch;rw[show(100000:Nat)=99999+1 from rfl,setSearchFrom];refine aA (bC ho hd T ?_);dsimp only;rw[if_neg hg];have Z:∀f:Nat->Int,(∀i,f i=QD et i)->t.probe f h ((none:Option SetTable.Probe).getD (t.probeStart h))=t.probe (QD et) h (t.probeStart h):=fun f hf=>by
  rw[show f=QD et from funext hf];rfl
 generalize U:t.probe _ h ((none:Option SetTable.Probe).getD (t.probeStart h))=pr;have Y:pr=t.probe (QD et) h (t.probeStart h):=U.symm.trans (Z _ fun i=>R.QD i);clear U Z;subst Y;cases hp:t.probe (QD et) h (t.probeStart h) with
 |none=>rw[hp]at g;cases g
 |some met=>
  rw[hp]at g;cases met with
  |empty j dummy=>
   cases dummy with
   |none=>cases g;exact aB (h1 j rfl)
   |some d=>cases g
  |candidate j i next=>
   cases he:et[i]? with
   |none=>simp only[he]at g;cases g
   |some zy=>
    obtain⟨z,y⟩:=zy;simp only[he]at g;by_cases hy:y=x
    .rw[if_pos hy]at g;cases g;subst hy;obtain⟨b,its2,e1,e2,e3,e4⟩:=R.at he;cases hl:t.led with
     |true=>
      simp only[Bool.not_true,Bool.false_eq_true,if_false];rw[e1];refine aA (aY (VJ e2 e3 I B AS prog w E _ ?_));rw[decide_eq_true rfl];refine aA (bC ho hd T ?_);exact aB (h0 rfl)
     |false=>
      simp only[Bool.not_false,if_true];refine aA (fv ⟨xa,its,_,rfl,I,B,hxd⟩ (fun v hv=>?_) ?_)
      .obtain⟨p,hp1,rfl⟩:=aK.mp hv;exact R.good p (Array.mem_toList_iff.mpr (Array.mem_filter.mp (Array.mem_toList_iff.mp hp1)).1)
      simp only[Bool.false_eq_true,if_false];rw[e1];refine aA (aY (VJ e2 e3 I B AS prog w E _ ?_));rw[decide_eq_true rfl];refine aA (bC ho hd T ?_);exact aB (h0 rfl)
    .rw[if_neg hy]at g;cases g
theorem Io{n:Nat}(h:n<=100000):n<=sizeLine:=aR h (by rw[sizeLine_eq];decide)
theorem Xp{B:Heap}(I:B.get? a=some o)(hd:o.data=.set ev ep t)(g:Array (Int×Value))(t':SetTable):(B.update a (Obj.putSet g t')).get? a=some {o with data:=.set g (ep+1) t'}:=by
 have:=Heap.get?_update_self (Obj.putSet g t') I (by rw[putSet_of g t' hd];rfl);rw[putSet_of g t' hd]at this;exact this
theorem VO{B:Heap}(R:B.get? a=some o)(T:o.cls=.type "set")(g:Obj->Obj):∀b u,B.get? b=some u->u.cls=.type "tuple" ->(B.update a g).get? b=some u:=fun b u q I=>by
 have:a≠b:=fun z=>by
  subst z;rw[R]at q;cases q;rw[T]at I
  injection I with z
  exact absurd z As
 rw[Heap.get?_update_other _ _ this];exact q
theorem oZ{et' : ES}{t' : SetTable}{Q : Bool->Shared->Prop}(ho : s.heap.get? a = some o)(hc : o.cls = .type "set")(hd : o.data = .set ev ep t)(R : EK G s.heap ev et)(hx1 : s.heap.IsTuple xa its.toArray)(hx2 : Vs s.heap x its)(hxd : x.deep < 8)(hxg : G (.ref xa) x)
 (hu : A.units + 8 < cLine)(hs : Z7 (et,t) x = some (et',t'))
 (k : ∀ (b : Bool) (h' : Heap) (tk : Nat) (ev' : Array (Int×Value)) (ep' : Nat),Heap.SameBut a s.heap h'->h'.get? a = some { o with data:=.set ev' ep' t' }->EK G h' ev' et'->Q b { s with heap:=h',toks:=tk }) :
    wpAny BY A (setAdd a (.ref xa)) Q E s:=by
  unfold setAdd
  refine aY (aA (kM hx1 hx2 AS fun tk => ?_))
  unfold setAddHashed
  refine aY ?_
  unfold Z7 at hs
  by_cases h1 : (t.fits et.size && decide (et.size<=1000) && t.plain) = false
  . rw [if_pos h1] at hs; cases hs
  rw [if_neg h1] at hs
  simp only [Bool.not_eq_false,Bool.and_eq_true,decide_eq_true_eq] at h1
  obtain ⟨⟨hf,hz⟩,hpl⟩:=h1
  have hf' : t.fits ev.size = true:=by rw [R.size]; exact hf
  cases hsr : ZU et t x (Bc x) with
  | none => simp only [hsr] at hs; cases hs
  | some r=>
    simp only [hsr] at hs
    rw [show (100000 : Nat) = 99999 + 1 from rfl,setAddHashedIn]
    refine aA (bC (s:={ s with toks:=tk }) ho hd hf' ?_)
    dsimp only
    have hbs : byScan (.ref xa) ev = false:=rfl
    rw [hbs,if_neg aJ]
    refine aA (dh (s:={ s with toks:=tk }) ho hd hf R hx1 hx2 hxd hu hsr (fun hr => ?_) fun j hr => ?_)
    . subst hr
      cases hs
      exact aB (k _ s.heap tk ev ep (Heap.SameBut.refl ..) (by rw [ho,<- hd]) R)
    . subst hr
      dsimp only at hs ⊢
      refine aA (bC (s:={ s with toks:=tk }) ho hd hf' ?_)
      dsimp only
      have hpl2 : (t.put j).1.plain = true:=hpl
      rw [if_pos hpl2]
      refine aA (VX 8 (s:={ s with toks:=tk }) ⟨xa,its,x,rfl,hx1,hx2,hxd⟩ ?_)
      simp only [if_true]
      have R1 : EK G s.heap (SetTable.insertAt ev (t.put j).2 (Bc x,.ref xa)) (SetTable.insertAt et (t.put j).2 (Bc x,x)):=by
        unfold EK
        rw [J7,J7]
        exact Paired.app (.cons ⟨rfl,hxd,hxg,xa,its,rfl,hx1,hx2⟩ (Paired.drop _ R)) (Paired.take _ R)
      have hz1 : (SetTable.insertAt ev (t.put j).2 (Bc x,Value.ref xa)).size<=1001:=by
        have h2:=ay List.length (J7 ev (t.put j).2 (Bc x,Value.ref xa))
        simp only [Array.length_toList,List.length_append,List.length_take,List.length_cons,List.length_drop] at h2
        have:=R.size
        lia
      have hz2 : (SetTable.insertAt et (t.put j).2 (Bc x,x)).size = (SetTable.insertAt ev (t.put j).2 (Bc x,Value.ref xa)).size:=R1.size.symm
      refine aA (wpAny_storeSet_of (s:={ s with toks:=tk }) ho hd ?_ (Io AS))
      have g1:=Xp ho hd (SetTable.insertAt ev (t.put j).2 (Bc x,.ref xa)) (t.put j).1
      have k1:=VO ho hc (Obj.putSet (SetTable.insertAt ev (t.put j).2 (Bc x,.ref xa)) (t.put j).1)
      have sb1:=af s.heap a (Obj.putSet (SetTable.insertAt ev (t.put j).2 (Bc x,.ref xa)) (t.put j).1)
      by_cases hfull : (t.put j).1.tooFull = false
      . rw [if_pos hfull] at hs
        cases hs
        rw [hfull]
        simp only [Bool.and_false,Bool.false_eq_true,if_false]
        exact aB (k _ _ tk _ _ sb1 g1 (R1.keeps k1))
      . rw [if_neg hfull] at hs
        have hfull : (t.put j).1.tooFull = true:=by simpa using hfull
        rw [hfull]
        simp only [Bool.not_false,Bool.and_true,if_true]
        by_cases h2 : ((t.put j).1.fits (SetTable.insertAt et (t.put j).2 (Bc x,x)).size && decide (SetTable.sizeAbove (SetTable.grown (et.size + 1))<=100000)) = false
        . rw [if_pos h2] at hs; cases hs
        rw [if_neg h2] at hs
        simp only [Bool.not_eq_false,Bool.and_eq_true,decide_eq_true_eq] at h2
        obtain ⟨hfit,hsa⟩:=h2
        cases hrl : (t.put j).1.relaid ((SetTable.insertAt et (t.put j).2 (Bc x,x)).map (·.1)) (SetTable.grown (et.size + 1)) with
        | none => simp only [hrl] at hs; cases hs
        | some to=>
          obtain ⟨t2,order⟩:=to
          simp only [hrl] at hs
          by_cases h3 : (order.filterMap ((SetTable.insertAt et (t.put j).2 (Bc x,x))[·]?)).size = (SetTable.insertAt et (t.put j).2 (Bc x,x)).size
          . rw [if_pos h3] at hs
            cases hs
            have R2 : EK G s.heap (order.filterMap IG) (order.filterMap ((SetTable.insertAt et (t.put j).2 (Bc x,x))[·]?)):=by
              unfold EK
              have:=Paired.pick R1 order.toList
              simpa using this
            have g2:=Xp g1 rfl (order.filterMap IG) t'
            have k2:=VO g1 hc (Obj.putSet (order.filterMap IG) t')
            have sb2:=af (s.heap.update a (Obj.putSet (SetTable.insertAt ev (t.put j).2 (Bc x,.ref xa)) (t.put j).1)) a (Obj.putSet (order.filterMap IG) t')
            refine aA ?_
            unfold setRelay
            refine aA (bC g1 rfl (by rw [<- hz2]; exact hfit) ?_)
            dsimp only
            rw [R.size,if_neg (Nat.not_lt.mpr (Io hsa))]
            refine aA ?_
            rw [R1.fst,hrl]
            have hsz : (order.filterMap IG).size = (SetTable.insertAt ev (t.put j).2 (Bc x,Value.ref xa)).size:=by rw [R2.size,h3,hz2]
            have hne : ¬ ((order.filterMap IG).size != (SetTable.insertAt ev (t.put j).2 (Bc x,Value.ref xa)).size) = true:=by simp [hsz]
            show wpAny _ _ (do if (order.filterMap IG).size != (SetTable.insertAt ev (t.put j).2 (Bc x,Value.ref xa)).size then unsupported "internal:set-table-lost-an-element"
                               pure (order.filterMap IG,t')) _ _ _
            rw [if_neg hne]
            refine aB ?_
            refine wpAny_storeSet_of g1 rfl ?_ (Io (by rw [hsz]; lia))
            exact aB (k _ _ tk _ _ (sb1.trans sb2) g2 ((R2.keeps k1).keeps k2))
          . rw [if_neg h3] at hs; cases hs
end
end TH
namespace TH
open PySem
def grow:List Tr->Tr->List Tr
 |_,.nil=>[]
 |pre,.cons b r=>((Tr.of (Tr.FR (b.bs++[.nil]))::grow [] b).map fun g=>Tr.of (Tr.FR (pre++g::r.bs)))++grow (pre++[b]) r
def tT(t:Tr):List Tr:=Tr.of (Tr.FR (t.bs++[.nil]))::grow [] t
def ups(l:List Tr):List Tr:=l.flatMap tT
def O1(st:ES×SetTable):List Tr->Option (ES×SetTable)
 |[]=>some st
 |x::r=>(Z7 st x).bind fun g=>O1 g r
def Mv(led:Bool):ES×SetTable:=(#[],.fresh 0 0 led)
def RQ(st:ES×SetTable):List Tr:=st.1.toList.map (·.2)
def tz:Nat->List Tr
 |0=>[.nil]
 |n+1=>(Tr.FR ((ups (tz n)).eraseDups)).reverse
end TH
namespace TH
open PySem PyProof.Rows PySem.SeqAt
def U8(G:Value->Tr->Prop)(h:Heap)(v:KS)(x:Tr):Prop:=x.deep<8/\G v x/\∃a its,v=.ref a/\h.IsTuple a its.toArray/\Vs h x its
abbrev Kp(G:Value->Tr->Prop)(h:Heap)(vs:Db)(xs:List Tr):Prop:=Paired (U8 G h) vs xs
variable{G:Value->Tr->Prop}
theorem U8.keeps{h h':Heap}(k:∀b o,h.get? b=some o->o.cls=.type "tuple" -> h'.get? b=some o){v:KS}{x:Tr}(r:U8 G h v x):U8 G h' v x:=by
 obtain⟨hd,R,a,its,e,U,T⟩:=r;exact⟨hd,R,a,its,e,(by obtain⟨o,I,B,n,g⟩:=U;exact⟨o,k _ _ I B,B,n,g⟩),T.keeps k⟩
theorem Kp.keeps{h h':Heap}(k:∀b o,h.get? b=some o->o.cls=.type "tuple" -> h'.get? b=some o){vs:Db}{xs:List Tr}(r:Kp G h vs xs):Kp G h' vs xs:=Paired.imp (fun _ _ z=>z.keeps k) r
def Nq(G:Value->Tr->Prop)(h:Heap)(S:Addr)(st:ES×SetTable):Prop:=∃o ev ep,h.get? S=some o/\o.ExactSet/\o.data=.set ev ep st.2/\EK G h ev st.1
theorem Nq.keeps{h h':Heap}{S:Addr}{st:ES×SetTable}(x:Nq G h S st)(g:∀o,h.get? S=some o->h'.get? S=some o)(k:∀b o,h.get? b=some o->o.cls=.type "tuple" -> h'.get? b=some o):Nq G h' S st:=by
 obtain⟨o,ev,ep,T,R,I,B⟩:=x;exact⟨o,ev,ep,g _ T,R,I,B.keeps k⟩
section
variable{prog:G8}{w:Id}{A:Around}{R:Result->Shared->Prop}{I S:Addr}{fp wr:List Addr}{St:Nat->Heap->Prop}{items:Array Value}{xs:List Tr}{st':ES×SetTable}
theorem j5(W:Walks prog w A.in1 I fp wr items.size (fun i v=>items[i]? = some v) St)(hSf:S ∉ fp)(hcl:∀i h b o,St i h->b∈wr->h.get? b=some o->o.cls≠.type "tuple")(hu:A.units+10<cLine) :
  ∀(k i:Nat) (s:GJ) (st:ES×SetTable),items.size-i=k->i<=items.size->St i s.heap->Nq G s.heap S st->Kp G s.heap items.toList xs->O1 st (xs.drop i)=some st' ->
   (∀(h':Heap) (tk:Nat),(∀b o,b≠S->b ∉ wr->s.heap.get? b=some o->h'.get? b=some o)->(∀b o,s.heap.get? b=some o->o.cls=.type "tuple" -> h'.get? b=some o)->Nq G h' S st'->R (.ok (.ret .none)) HU) ->
   codeAny BY A (.builtin "set.update.loop" ⟨[.ref S,.ref I],[]⟩) R s:=by
 have hSw:S ∉ wr:=fun h=>hSf (W.sub _ h);intro k
 induction k with
 |zero=>
  intro i s st hk hi T hS hT g hR;have hin:i=items.size:=by lia
  subst hin;have U:=Paired.length hT;rw[List.drop_of_length_le (by rw[<-U];simp)]at g;cases g;refine codeAny_builtin F.entry_set_update_loop ?_;rw[Around.under_plainId F.plain_set_update_loop _];show wpAny _ A.in1 (pyNext (.ref I)>>=_) _ _ s;refine aA (W.done s _ _ T fun h' tk hm=>?_);show wpAny _ A.in1 (ret Value.none) _ _ _;have kt:∀b o,s.heap.get? b=some o->o.cls=.type "tuple" -> h'.get? b=some o:=fun b o e B=>hm b o (fun Z=>hcl _ _ b o T Z e B) e;exact aB (hR h' tk (fun b o _ Z e=>hm b o Z e) kt (hS.keeps (fun o e=>hm S o hSw e) kt))
 |succ k ih=>
  intro i s st hk hi T hS hT g hR;have hlt:i<items.size:=by lia
  refine codeAny_builtin F.entry_set_update_loop ?_;rw[Around.under_plainId F.plain_set_update_loop _];show wpAny _ A.in1 (pyNext (.ref I)>>=_) _ _ s;refine aA (W.item i s _ _ hlt T fun v h1 tk hP hst' hm=>?_);have kt:∀b o,s.heap.get? b=some o->o.cls=.type "tuple" -> h1.get? b=some o:=fun b o e B=>hm b o (fun Z=>hcl _ _ b o T Z e B) e;have hS1:=hS.keeps (fun o e=>hm S o hSw e) kt;have hT1:=hT.keeps kt;have U:=Paired.length hT;have hxi:i<xs.length:=by rw[<-U];simpa using hlt
  have hx:xs[i]? = some xs[i]:=aM hxi;obtain⟨v',hv',hxd,hxg,xa,its,e1,e2,e3⟩:=Paired.get hT1 hx;have hvv:v'=v:=by
   have h2:items.toList[i]? = some v:=by simpa using hP
   rw[h2]at hv';exact(ag hv').symm
  subst hvv;subst e1;rw[List.drop_eq_getElem_cons hxi,O1]at g;cases Y:Z7 st xs[i]with
  |none=>rw[Y]at g;cases g
  |some st1=>
   rw[Y]at g;obtain⟨o,ev,ep,g1,g2,g3,g4⟩:=hS1;obtain⟨et,t⟩:=st;obtain⟨et1,t1⟩:=st1;show wpAny _ A.in1 (holding [Value.ref xa] (setAdd S (.ref xa))>>=_) _ _ _;refine aA (aY (oZ (s:={s with heap:=h1,toks:=tk}) g1 g2.1 g3 g4 e2 e3 hxd hxg (by rw[Around.in1_units];lia) Y fun b h2 tk2 ev2 ep2 sb gS R2=>?_));have kt2:∀b o,h1.get? b=some o->o.cls=.type "tuple" -> h2.get? b=some o:=fun b o' e B=>by
    rw[sb.2 b fun z=>?_]
    .exact e
    .subst z;rw[g1]at e;cases e;rw[g2.1]at B
     injection B with B
     exact absurd B As
   refine aB ⟨plainId_quiet F.plain_set_update_loop _,ih (i+1) {s with heap:=h2,toks:=tk2} (et1,t1) AS hlt (W.frame _ _ _ hst' fun b Z o' e=>?_) ⟨_,ev2,ep2,gS,g2,rfl,R2⟩ (hT1.keeps kt2) g fun h3 tk3 m3 kt3 S3=>?_⟩
   .rw[sb.2 b fun z=>hSf (z ▸ Z)];exact e
   .refine hR h3 tk3 (fun b o' hbS Z e=>?_) (fun b o' e B=>kt3 b o' (kt2 b o' (kt b o' e B) B) B) S3;refine m3 b o' hbS Z ?_;show h2.get? b=some o';rw[sb.2 b hbS];exact hm b o' Z e
end
end TH
namespace TH
open PySem PyProof.Rows PySem.SeqAt
section
variable{G:Value->Tr->Prop}{prog:G8}{w:Id}{A:Around}{E:AT}{s:GJ}{l:Addr}{us:Db}{xs:List Tr}
abbrev HB(led:Bool):Obj:={ cls:=.type "set",dict:=none,data:=.set #[] 0 (.fresh 0 0 led)}
theorem Z9(v:KS){Q1:AT}(k:Q1 GM {s with heap:=s.heap.push (HB (!w.params.followText "set-order"))}) :
  codeAny BY A (.call (.builtin "set.__new__") ⟨[.type "set",v],[]⟩) (wants Q1 E) s:=by
 refine codeAny_of_tree (show wpAny _ A.in1 (checkBuiltinCall "set.__new__" ⟨[.type "set",v],[]⟩>>=fun _=>again (.builtin "set.__new__" ⟨[.type "set",v],[]⟩)) _ _ s from ?_);refine aA (wpAny_of_eq (F.newCall_set_1 v) (aB ⟨plainId_quiet F.plain_set_new _,codeAny_builtin F.entry_set_new ?_⟩));rw[Around.under_plainId F.plain_set_new _];unfold Builtin.«set.__new__»;unfold Builtin.Frozenset.newClass;have q:=sub_set_self;obtain⟨h0,g,B,t0,o0⟩:=s;dsimp only
 wp_walk
 refine wpAny_askSetting (aB ?_);dsimp only;simp only[newObj];exact aA (wpAny_alloc (aB (aB k)))
theorem Xo{Q:AT}(hA:A.handled=none)(hL:s.heap.IsList l us.toArray)(hT:Kp G s.heap us xs)(hu:A.units+20<cLine){st:ES×SetTable}(T:O1 (Mv (!w.params.followText "set-order")) xs=some st)
 (k:∀(B:Heap) (tk:Nat),Nq G B s.heap.objs.size st->(∀b u,s.heap.get? b=some u->B.get? b=some u)->Q GM {s with heap:=B,toks:=tk}) :
  wpAny BY A (call (.type "set") [.ref l]) Q E s:=by
 obtain⟨mc,mt,hmro⟩:=F.called_set.mro;have q1:=F.called_set.made;have q2:=F.called_set.sub;have q3:=F.called_set.notType;have q4:=F.called_set.canCreate;have q5:=F.typeCall_set_1 (.ref l);refine wpAny_call (codeAny_of_tree (show wpAny _ _ (callAny (.type "set") _) _ _ _ from ?_));refine aB ⟨Code.quiet_builtin _ (by decide +kernel),codeAny_builtin F.entry_type_call ?_⟩;rw[Around.under_plain (weight_type_call_type "set" [.ref l] []) rfl]
 repeat (any_goals (first|assumption|wp_step))
 have Y:=Z9 (prog:=prog) (w:=w) (s:=s) (A:=A.in1) (E:=E) (.ref l) (Q1:=fun v s1=>v=.ref s.heap.objs.size/\s1={s with heap:=s.heap.push (HB (!w.params.followText "set-order"))}) ⟨rfl,rfl⟩;refine codeAny_mono Y fun r s1 U=>?_;cases r with
 |error e=>exact U
 |ok fl=>
  cases fl with
  |next=>exact U.elim
  |brk=>exact U.elim
  |cont=>exact U.elim
  |ret obj=>
   obtain⟨rfl,rfl⟩:=U;generalize (!w.params.followText "set-order")=led at T;have gS:(s.heap.push (HB led)).get? s.heap.objs.size=some (HB led):=aL _ rfl;have tS:Shared.TypeIs {s with heap:=s.heap.push (HB led)} GM "set" := ⟨_,gS,rfl⟩;have q6:=F.called_set.init.lookup;have q7:=F.called_set.init.bind GM
   repeat (any_goals (first|assumption|wp_step))
   have I:codeAny BY A.in1 (.call (.builtin "set.__init__") ⟨[.ref s.heap.objs.size,.ref l],[]⟩)
     (wants (fun v s2=>v=.none/\∃B tk,s2={s with heap:=B,toks:=tk}/\Nq G B s.heap.objs.size st/\∀b u,s.heap.get? b=some u->B.get? b=some u) E) {s with heap:=s.heap.push (HB led)}:=by
    refine codeAny_call_builtin F.called_set.init.plain F.entry_set_init (check_set_init_1 tS ?_);obtain⟨⟨c0,d0,dt0,sl0⟩,gl,c1,n0,Z⟩:=id hL;simp only at c1 Z;subst c1 Z;have gl1:(s.heap.push (HB led)).get? l=some ⟨.type "list",d0,.seq us.toArray n0,sl0⟩:=aE _ gl;have R:(s.heap.push (HB led)).IsList l us.toArray:=⟨_,gl1,rfl,n0,rfl⟩;have s1:=F.sub_list_set;have s2:=F.sub_list_frozenset;have s3:(Value.type "list" == Value.type "dict")=false:=by decide
    unfold Builtin.«set.__init__» noKeywords Builtin.Frozenset.updateFrom;generalize ePI:pyIter=PI
    wp_walk
    subst ePI;refine wpAny_pyIter_list R (aA (wpAny_runValue ?_));have ll:l<s.heap.objs.size:=aG gl;have zI:(s.heap.push (HB led)).objs.size=s.heap.objs.size+1:=Heap.size_push ..;have neI:l≠(s.heap.push (HB led)).objs.size:=by rw[zI];exact aO (bX ll)
    have nfp:s.heap.objs.size ∉ [(s.heap.push (HB led)).objs.size,l]:=by
     simp only[List.mem_cons,List.not_mem_nil,or_false,not_or];exact⟨by rw[zI];exact aO (bc _),Nat.ne_of_gt ll⟩
    have hA3:A.in1.in1.in1.handled=none:=by simp[hA]
    refine j5 (G:=G) (xs:=xs) (st':=st) (Walks.list hA3 _ l neI us.toArray) nfp (fun i h b o hit hb e hc=>?_) (by simp only[Around.in1_units];lia) _ 0 _ (Mv led) rfl (bH _) ⟨⟨_,Heap.get?_push_size _ rfl,rfl,rfl⟩,R.push _⟩ ?_ ?_ T fun B tk m2 kt2 S2=>?_
    .obtain⟨⟨oi,gi,ci,_⟩,_⟩:=hit;have:b=(s.heap.push (HB led)).objs.size:=by simpa using hb
     subst this;rw[gi]at e;cases e;rw[ci]at hc
     injection hc with hc
     exact absurd hc As
    .exact⟨HB led,#[],0,Heap.get?_push_of_some _ gS,⟨rfl,rfl,rfl⟩,rfl,.nil⟩
    .exact hT.keeps fun b o e _=>aE _ (aE _ e)
    .refine aB ?_;show wpAny _ _ (ret Value.none) _ _ _;refine aB ⟨rfl,B,tk,rfl,S2,fun b u e=>?_⟩;have lb:b<s.heap.objs.size:=aG e;refine m2 b u (aO lb) ?_ (aE _ (aE _ e));simp only[List.mem_cons,List.not_mem_nil,or_false];rw[zI];exact aO (bX lb)
   refine codeAny_mono I fun r2 s2 g=>?_;cases r2 with
   |error e=>exact g
   |ok f2=>
    cases f2 with
    |next=>exact g.elim
    |brk=>exact g.elim
    |cont=>exact g.elim
    |ret v2=>
     obtain⟨rfl,B,tk,rfl,S2,k2⟩:=g
     repeat (any_goals (first|assumption|wp_step))
     exact k B tk S2 k2
end
end TH
namespace TH
open PySem PyProof.Rows PySem.SeqAt
theorem S8:entryFor table "set.__iter__" = some Builtin.«frozenset.__iter__» :=
 entryFor_alias (id' := "frozenset.__iter__") Jz rfl (by decide +kernel) Jz
theorem Ep:Slot "set_iterator" "__next__" "set_iterator.__next__" :=
 .of (owner := "set_iterator") (n := "__next__") (by rw[typeLookup_type,builtinLookup_eq_fast];kernel_rfl) (by decide +kernel)
  (by decide +kernel) (by decide +kernel) (by first|exact .inl (by decide +kernel)|exact .inr (by decide +kernel)) (by rw[isSubtype_type];kernel_rfl)
theorem MT:entryFor table "set_iterator.__next__" = some Builtin.«set_iterator.__next__»:=entryFor_of_fast Jz
theorem N3(a:KS):argsOk "set_iterator.__next__" ⟨[a],[]⟩:=by unfold argsOk;kernel_rfl
theorem OQ:Slot "set_iterator" "__iter__" "set_iterator.__iter__" :=
 .of (owner := "set_iterator") (n := "__iter__") (by rw[typeLookup_type,builtinLookup_eq_fast];kernel_rfl) (by decide +kernel)
  (by decide +kernel) (by decide +kernel) (by first|exact .inl (by decide +kernel)|exact .inr (by decide +kernel)) (by rw[isSubtype_type];kernel_rfl)
theorem TQ:entryFor table "set_iterator.__iter__" = some Builtin.«dict_keyiterator.__iter__» :=
 entryFor_alias (id' := "dict_keyiterator.__iter__") Jz rfl (by decide +kernel) Jz
theorem Ux(a:KS):argsOk "set_iterator.__iter__" ⟨[a],[]⟩:=by unfold argsOk;kernel_rfl
section
variable{α:Type}{next:Nat->Nat}
theorem Yt:∀(n k:Nat) (left:List α) (out:Array α),left.length=n->(pickOrder.go next n k left out).toList.Perm (out.toList++left)
 |0,k,left,out,h=>by
  have:left=[]:=bY h;subst this;rw[pickOrder.go];simp
 |n+1,k,left,out,h=>by
  rw[pickOrder.go];have g:next k % left.length<left.length:=Nat.mod_lt _ AS;rw[List.getElem?_eq_getElem g];refine(Yt n (k+1) _ _ (by rw[List.length_eraseIdx_of_lt g];lia)).trans ?_;rw[Array.toList_push,List.append_assoc];refine List.Perm.append_left _ ?_;rw[List.eraseIdx_eq_take_drop_succ];have e:left.take (next k % left.length)++left[next k % left.length]::left.drop (next k % left.length+1)=left:=by rw[<-List.drop_eq_getElem_cons g,List.take_append_drop]
  have p:=List.perm_middle (a:=left[next k % left.length]) (l₁:=left.take (next k % left.length)) (l₂:=left.drop (next k % left.length+1));rw[e]at p;exact p.symm
theorem dq(xs:Array α):(pickOrder next xs).toList.Perm xs.toList:=by
 unfold pickOrder
 simpa using Yt xs.size 0 xs.toList #[] CH
end
end TH
namespace TH
open PySem PyProof.Rows PySem.SeqAt
def Gw(w:Id)(S:Addr)(ep:Nat)(ev:Array (Int×Value)):Array (Int×Value):=if w.params.followText "set-order" = true then pickOrder (w.params.setOrder S ep) ev else ev
theorem T4(w:Id)(S:Addr)(ep:Nat)(ev:Array (Int×Value)):(Gw w S ep ev).toList.Perm ev.toList:=by
 unfold Gw;split
 .exact dq ev
 .exact .refl _
theorem Lp(w:Id)(S:Addr)(ep:Nat)(ev:Array (Int×Value)):(Gw w S ep ev).size=ev.size:=by simpa using (T4 w S ep ev).length_eq
def Jm(t:SetTable):Nat->Nat
 |0=>0
 |i+1=>t.place.getD i 0+1
def FF(w:Id)(t:SetTable)(i:Nat):Nat:=if w.params.followText "set-order" = true then 0 else Jm t i
def O5(t:SetTable)(n:Nat):Bool:=(List.range (n+1)).all fun i=>decide (SetTable.below t.place (Jm t i)=i)
abbrev Li(w:Id)(S:Addr)(t:SetTable)(ep n i:Nat):Obj:={ cls:=.type "set_iterator",data:=.fields #[rawInt ((FF w t i:Nat):Int),rawInt (i:Int),.ref S,rawInt (n:Int),rawInt (ep:Int)]}
structure GF(w:Id)(o:Obj)(ev:Array (Int×Value))(ep:Nat)(t:SetTable):Prop where
 ex:o.ExactSet
 dat:o.data=.set ev ep t
 fit:t.fits ev.size=true
 plain:t.plain=true
 led:t.led=!w.params.followText "set-order"
 walk:O5 t ev.size=true
section
variable{prog:G8}{w:Id}{A:Around}{E:AT}{s:GJ}{S I:Addr}{o:Obj}{ev:Array (Int×Value)}{ep i:Nat}{t:SetTable}
theorem Tj{Q:Bool->Shared->Prop}(h:Q (w.params.followText "set-order") s):wpAny BY A setsByText Q E s:=by
 unfold setsByText;exact aA (wpAny_askSetting (aB h))
theorem GF.cu(W:GF w o ev ep t):(!t.plain&&decide (ev.size > 1))=false:=by rw[W.plain];rfl
theorem GF.place(W:GF w o ev ep t):t.place.size=ev.size:=by
 have:=W.fit;unfold SetTable.fits at this;simp only[Bool.and_eq_true,beq_iff_eq]at this;exact this.1
theorem XD{Q:Option (Value×Nat)->Shared->Prop}(W:GF w o ev ep t)(Z:s.heap.get? S=some o)(hi:i<=ev.size)(h:Q ((Gw w S ep ev)[i]?.map fun e=>(e.2,FF w t (i+1))) s) :
  wpAny BY A (setNext S (FF w t i) i ep) Q E s:=by
 unfold setNext;refine aA (bC Z W.dat W.fit ?_);refine aA (Tj ?_);cases g:w.params.followText "set-order" with
 |true=>
  rw[if_pos rfl];have T:¬(ep != ep)=true:=by simp
  rw[if_neg T];unfold setWalk;refine aA (aA (bC Z W.dat W.fit ?_));refine aA (Tj ?_);rw[if_pos g];refine aA (wpAny_askSetting (aB ?_));refine aB ?_;have e:Gw w S ep ev=pickOrder (w.params.setOrder S ep) ev:=by unfold Gw;rw[if_pos g]
  rw[e]at h;have U:FF w t i=FF w t (i+1):=by unfold FF;rw[if_pos g,if_pos g]
  rw[U];exact h
 |false=>
  rw[if_neg aJ];refine wpAny_ite_split (fun hd=>?_) fun _=>?_
  .have:(!t.plain&&decide (ev.size > 1))=true:=hd;rw[W.cu]at this;cases this
  .refine aA ?_;have hl:t.led=true:=by rw[W.led,g];rfl
   have hn:¬(!t.led && !ev.isEmpty)=true:=by rw[hl];simp
   show wpAny _ _ (if(!t.led && !ev.isEmpty)=true then unsupported "set:maker-not-led" else pure ()) _ _ _;rw[if_neg hn];refine aB (aB ?_);have B:=W.walk;unfold O5 at B;have B:=az.mp B i (bD.mpr AS);have B:SetTable.below t.place (Jm t i)=i:=by simpa using B
   have e1:FF w t i=Jm t i:=by unfold FF;rw[g];rfl
   have U:FF w t (i+1)=Jm t (i+1):=by unfold FF;rw[g];rfl
   have e3:Gw w S ep ev=ev:=by unfold Gw;rw[g];rfl
   rw[U,e3]at h;rw[e1,B];by_cases R:i<ev.size
   .have Y:i<t.place.size:=by rw[W.place];exact R
    rw[Array.getElem?_eq_getElem R]at h ⊢;rw[Array.getElem?_eq_getElem Y];have e4:Jm t (i+1)=t.place[i]+1:=by
     rw[Jm,(Wv),Array.getElem?_eq_getElem Y]
     rfl
    rw[e4]at h;exact h
   .rw[Array.getElem?_eq_none AS]at h ⊢;exact h
theorem f9{Q:Option Value->Shared->Prop}{z:Int}{v:KS}(W:GF w o ev ep t)(T:s.heap.get? S=some o)(g:s.heap.get? I=some (Li w S t ep ev.size i))(R:(Gw w S ep ev)[i]? = some (z,v))
 (h:∀h',h'.get? I=some (Li w S t ep ev.size (i+1))->Heap.SameBut I s.heap h'->Q (some v) {s with heap:=h'}):wpAny BY A (pyNext (.ref I)) Q E s:=by
 have U:s.TypeIs (.ref I) "set_iterator" := ⟨_,g,rfl⟩;have Z:i<ev.size:=by
  have:=(Array.getElem?_eq_some_iff.mp R).1;rw[Lp]at this;exact this
 unfold pyNext;refine aA (wpAny_attempt (aa (name:=Str.ofString "__next__") U Ep (aW Ep U MT ?_ (N3 _))));unfold Builtin.«set_iterator.__next__»;refine aA (wpAny_of_eq (a:=(Value.ref I,[])) rfl ?_);refine aA (wpAny_fieldsOf g rfl ?_);show wpAny _ _ (setEntries S>>=_) _ _ s;refine aA (wpAny_setEntries_of T W.dat W.fit ?_);have B:¬((ev.size:Int) != (ev.size:Int))=true:=by simp
 dsimp only;rw[if_neg B];refine aA ?_;show wpAny _ _ (setNext S (FF w t i) i ep) _ _ _;refine XD W T AS ?_;rw[R];show wpAny _ _ (setField (.ref I) 0 (rawInt ((FF w t (i+1):Nat):Int))>>=_) _ _ _;refine aA (wpAny_setField g rfl CH ?_);have Y:(s.heap.update I (Obj.mapFields (·.setIfInBounds 0 (rawInt ((FF w t (i+1):Nat):Int))))).get? I=some { cls:=.type "set_iterator",data:=.fields #[rawInt ((FF w t (i+1):Nat):Int),rawInt (i:Int),.ref S,rawInt (ev.size:Int),rawInt (ep:Int)]} :=
  Heap.get?_update_self _ g rfl
 refine aA (wpAny_setField Y rfl CH ?_);refine aB ⟨_,rfl,wpAny_pure (h _ ?_ ((af ..).trans (af ..)))⟩;exact Heap.get?_update_self _ Y rfl
theorem iC{Q:Option Value->Shared->Prop}(Z:A.handled=none)(W:GF w o ev ep t)(U:s.heap.get? S=some o)(R:s.heap.get? I=some (Li w S t ep ev.size ev.size))
 (h:∀h',Heap.ExtBut I s.heap h'->Q none {s with heap:=h'}):wpAny BY A (pyNext (.ref I)) Q E s:=by
 have Y:s.TypeIs (.ref I) "set_iterator" := ⟨_,R,rfl⟩;unfold pyNext;refine aA (wpAny_attempt (aa (name:=Str.ofString "__next__") Y Ep (aW Ep Y MT ?_ (N3 _))));unfold Builtin.«set_iterator.__next__»;refine aA (wpAny_of_eq (a:=(Value.ref I,[])) rfl ?_);refine aA (wpAny_fieldsOf R rfl ?_);show wpAny _ _ (setEntries S>>=_) _ _ s;refine aA (wpAny_setEntries_of U W.dat W.fit ?_);have g:¬((ev.size:Int) != (ev.size:Int))=true:=by simp
 dsimp only;rw[if_neg g];refine aA ?_;show wpAny _ _ (setNext S (FF w t ev.size) ev.size ep) _ _ _;refine XD W U (aH _) ?_;rw[Array.getElem?_eq_none (by rw[Lp];exact aH _)];show wpAny _ _ (setField (.ref I) 2 Value.none>>=_) _ _ _;refine aA (wpAny_setField R rfl CH ?_);refine aA ?_;simp only[newExc,newTuple];refine aA (aq ?_ (by size_fits));refine aA (m:=firstArgMember _ _) (wpAny_of_eq (a:=Value.none) (by first|rfl|(simp only[firstArgMember];rfl)) (aq ?_ (by size_fits)));simp only[raiseNew];refine aA (wpAny_handled ?_);have B:A.in1.handled=none:=Z;rw[B];refine aA (aB (wpAny_throw ?_));refine aA (wpAny_isInstance (b:=true) (T := "StopIteration") ⟨_,Heap.get?_push_size _ rfl,rfl⟩ isSubtype_stop ?_);exact aB (h _ (((af ..).extBut.push _).push _))
theorem fS{Q:AT}(B:s.heap.get? I=some (Li w S t ep ev.size i))(h:Q (.ref I) s):wpAny BY A (pyIter (.ref I)) Q E s:=by
 have g:s.TypeIs (.ref I) "set_iterator" := ⟨_,B,rfl⟩;refine wpAny_pyIter_slot g OQ (aW OQ g TQ ?_ (Ux _));show wpAny _ _ (ret (.ref I)) _ _ s;exact aB ⟨_,rfl, "set_iterator",_,g,Ep.lookup,h⟩
theorem eA(hh:A.handled=none)(hne:S≠I)(W:GF w o ev ep t) :
  Walks prog w A I [I,S] [I] ev.size (fun i v=>∃z,(Gw w S ep ev)[i]? = some (z,v)) (fun i h=>h.get? I=some (Li w S t ep ev.size i)/\h.get? S=some o) where
 sub:=fun b hb=>by simp at hb;simp[hb]
 frame:=fun _ _ _ x k=>⟨k I CH _ x.1,k S CH _ x.2⟩
 item:=fun i s Q E hi x hQ=>by
  have hi':i<(Gw w S ep ev).size:=by rw[Lp];exact hi
  obtain⟨z,v,hx⟩:∃z v,(Gw w S ep ev)[i]? = some (z,v):=⟨(Gw w S ep ev)[i].1,(Gw w S ep ev)[i].2,by rw[Array.getElem?_eq_getElem hi']⟩;refine f9 W x.2 x.1 hx fun h' g sb=>hQ v h' s.toks ⟨z,hx⟩ ⟨g,(sb.2 S hne).trans x.2⟩ fun b u hb e=>?_;rw[sb.2 b fun q=>hb (by simp[q])];exact e
 done:=fun s Q E x hQ=>iC hh W x.2 x.1 fun h' eb=>hQ h' s.toks fun b u hb e=>eb b u (fun q=>hb (by simp[q])) e
 self:=fun _ _ _ _ x hQ=>fS x.1 hQ
theorem fQ{Q:Bool->Shared->Prop}(R:s.TypeIs (.ref S) "set")(h:Q false s):wpAny BY A (Builtin.List.listLengthHint (.ref S)) Q E s:=by
 unfold Builtin.List.listLengthHint;refine aA (wpAny_specialOf R PySem.F.slot_set_len.lookup ?_);generalize g:("set.__len__" : String)=B
 wp_delta
 rw[show splitId B=some ("set","__len__") from by subst g;decide +kernel];subst g;refine aA (wpAny_isInstance (b:=true) (T := "set") R (by rw[isSubtype_type];kernel_rfl) ?_);refine wpAny_ite_split (fun z=>absurd z As) fun _=>?_;refine wpAny_ite_split (fun _=>?_) fun z=>absurd (by decide +kernel) z;exact aA (wpAny_typeOf R (aB h))
theorem gF{Q:AT}(W:GF w o ev ep t)(g:s.heap.get? S=some o)(h:Q GM {s with heap:=s.heap.push (Li w S t ep ev.size 0)}) :
  wpAny BY A (pyIter (.ref S)) Q E s:=by
 have B:s.TypeIs (.ref S) "set" := ⟨o,g,W.ex.1⟩;refine wpAny_pyIter_slot B PySem.F.slot_set_iter (aW PySem.F.slot_set_iter B S8 ?_ (PySem.F.args_set_iter_1 _));unfold Builtin.«frozenset.__iter__»;refine aA (wpAny_of_eq (a:=S) rfl ?_);unfold Builtin.Frozenset.sizeOf;refine aA (aA (wpAny_setEntries_of g W.dat W.fit (aB ?_)));unfold setDrawn;refine aA (aA (bC g W.dat W.fit (aA (Tj (aB ?_)))));have hd:(!w.params.followText "set-order" && (!t.plain&&decide (ev.size > 1)))=false:=by rw[W.cu];simp
 refine wpAny_ite_split (fun z=>?_) fun _=>?_
 .have:(!w.params.followText "set-order" && (!t.plain&&decide (ev.size > 1)))=true:=z;rw[hd]at this;cases this
 refine aA (aB ?_);unfold setEpoch;refine aA (aA (bC g W.dat W.fit (aB ?_)));have R:FF w t 0=0:=by unfold FF Jm;split<;>rfl
 refine aA (aq (aB ⟨_,rfl, "set_iterator",_,⟨_,Heap.get?_push_size _ rfl,rfl⟩,Ep.lookup,?_⟩));unfold Li at h;rw[R]at h;exact h
theorem js(W:GF w o ev ep t):PySem.W.KdlSrc prog w "set" S S ev.size (fun i v=>∃z,(Gw w S ep ev)[i]? = some (z,v)) (fun h=>h.get? S=some o) where
 type:=fun _ ho=>⟨o,ho,W.ex.1⟩
 there:=fun _ ho=>⟨aG ho,Heap.lt_size ho⟩
 keep:=fun _ _ ho k=>k S (.inl rfl) _ ho
 notList:=by decide
 notTuple:=by decide
 hint:=fun _ _ s _ ho h=>fQ ⟨o,ho,W.ex.1⟩ h
 iter:=fun A s hh ho=>⟨Li w S t ep ev.size 0,_,(fun E Q h=>gF W ho h),eA hh (aO (aG ho)) W,⟨aL _ rfl,Heap.get?_push_of_some _ ho⟩⟩
end
end TH
namespace TH
open PySem PyProof.Rows PySem.SeqAt
theorem Paired.perm{α U:Type}{F:α->U->Prop}{l l':List α}(p:l'.Perm l):∀ {m:List U},Paired F l m->∃g,g.Perm m/\Paired F l' g:=by
 induction p with
 |nil=>intro m r;exact⟨m,.refl _,r⟩
 |cons x _ ih=>
  intro m r;cases r with
  |cons h I=>
   obtain⟨g,p',q⟩:=ih I;exact⟨_::g,p'.cons _,.cons h q⟩
 |swap x y l=>
  intro m r;cases r with
  |cons h I=>
   cases I with
   |cons h' B=>exact⟨_::_::_,List.Perm.swap ..,.cons h' (.cons h B)⟩
 |trans _ _ T R=>
  intro m r;obtain⟨m1,p1,Z⟩:=R r;obtain⟨m2,p2,Y⟩:=T Z;exact⟨m2,p2.trans p1,Y⟩
variable{G:Value->Tr->Prop}
theorem Yr{h:Heap}:∀ {l:List (Int×Value)} {m:List (Int×Tr)},Paired (Qp G h) l m->Vs h (Tr.of (m.map (·.2))) (l.map (·.2))
 |_,_,.nil=>by rw[List.map_nil,List.map_nil,Tr.of,Vs]
 |_,_,.cons (a:=(z,v)) ⟨_,_,_,a,its,e,B,g⟩ r=>by
  have e:v=.ref a:=e;subst e;rw[(CI),(CI),Tr.of,Vs];exact⟨a,its,_,rfl,B,g,Yr r⟩
theorem Ui{h:Heap}:∀ {l:List (Int×Value)} {m:List (Int×Tr)},Paired (Qp G h) l m->∀c∈m.map (·.2),c.deep<8
 |_,_,.nil,c,g=>by cases g
 |_,_,.cons ⟨_,hd,_⟩ r,c,g=>by
  rw[(CI)]at g;rcases aQ.mp g with rfl|g
  .exact hd
  .exact Ui r c g
theorem dI{h:Heap}:∀ {l:List (Int×Value)} {m:List (Int×Tr)},Paired (Qp G h) l m->Paired G (l.map (·.2)) (m.map (·.2))
 |_,_,.nil=>.nil
 |_,_,.cons ⟨_,_,g,_⟩ r=>.cons g (dI r)
theorem Paired.ik{α g:Type}{F:α->g->Prop}{l:List α}{m:List g}(r:Paired F l m)(d:α)(e:g):∀(ix:List Nat),(∀i∈ix,i<l.length)->Paired F (ix.map fun i=>l.getD i d) (ix.map fun i=>m.getD i e)
 |[],_=>.nil
 |i::ix,h=>by
  have R:=r.length;have hi:=h i aX;have hm:m[i]? = some m[i]:=aM AS;obtain⟨x,e1,I⟩:=Paired.get r hm;rw[(CI),(CI)];refine .cons ?_ (Paired.ik r d e ix fun j B=>h j (aV _ B));rw[(DJ),(DJ),e1,hm];exact I
theorem fi{l m:List Tr}(p:l.Perm m):Tr.FR l=Tr.FR m:=Tr.MG (Tr.Np l) (Tr.Np m) ((Tr.Nc l).trans (p.trans (Tr.Nc m).symm))
section
variable{prog:G8}{w:Id}{A:Around}{E:AT}{s:GJ}
theorem gather{T:String}{r d:Addr}{n:Nat}{P:Nat->Value->Prop}{Y:Heap->Prop}{R:List Value->Shared->Prop}(K:PySem.W.KdlSrc prog w T r d n P Y)(hA:A.handled=none)(BA:Y s.heap)(hn:n<=sizeLine)
 (k:∀(B:Heap) (tk:Nat) (g:Array Value),s.heap.objs.size<B.objs.size->(∀b u,s.heap.get? b=some u->B.get? b=some u)->ItemsOf P g n->R g.toList {s with heap:=B,toks:=tk}) :
  wpAny BY A (collect (.ref r)) R E s:=by
 obtain⟨Z,ld⟩:=K.there _ BA;unfold collect;refine aA (wpAny_runValue (codeAny_builtin entry_proto_collect' ?_));rw[Around.under_plainId PySem.F.plain_proto_collect _];show wpAny _ A.in1 (newList []>>=fun v=>again (.builtin "list.__iadd__" ⟨[v,.ref r],[]⟩)) _ _ s;refine aA (aq (aB ⟨plainId_quiet PySem.F.plain_list_iadd _,codeAny_builtin entry_list_iadd' ?_⟩));rw[Around.under_plainId PySem.F.plain_list_iadd _];have g0:(s.heap.push { cls:=.type "list",data:=.seq ([]:List Value).toArray}).get? s.heap.objs.size=some { cls:=.type "list",data:=.seq #[]}:=aL _ rfl;have main:=PySem.W.kdl_extend (A:=A) (s:={s with heap:=s.heap.push { cls:=.type "list",data:=.seq ([]:List Value).toArray} }) K hA
  (K.keep _ _ BA fun _ _ _ e=>aE _ e) s.heap.objs.size (bQ Z) (bQ ld) GM 0 g0
  (R:=fun q s1=>∃B tk g c,q=.ok (.ret GM)/\s1={s with heap:=B,toks:=tk}/\(∀b u,s.heap.get? b=some u->B.get? b=some u)/\B.get? s.heap.objs.size=some { cls:=.type "list",dict:=none,data:=.seq g c,slots:=#[]}/\ItemsOf P g n)
  (fun B tk g c U I ha=>⟨B,tk,g,c,rfl,rfl,fun b u e=>U b u (aO (aG e)) (aE _ e),I,ha⟩) hn
 refine ao main (fun fin s1 x=>?_) fun e s1 x=>?_
 .cases fin with
  |done f=>
   obtain⟨B,tk,g,c,e,rfl,U,I,ha⟩:=x;cases e;show wpAny _ A (load s.heap.objs.size>>=_) _ _ _;exact aA (wpAny_load I (aB (k B tk g (aG I) U ha)))
  |again c1=>
   refine⟨x.1,codeAny_mono x.2 fun q s2 y=>?_⟩;obtain⟨B,tk,g,c,rfl,rfl,U,I,ha⟩:=y;show wpAny _ A (load s.heap.objs.size>>=_) _ _ _;exact aA (wpAny_load I (aB (k B tk g (aG I) U ha)))
 .obtain⟨_,_,_,_,z,_⟩:=x;cases z
end
section
variable{prog:G8}{w:Id}{A:Around}{E:AT}{s:GJ}{S:Addr}{o:Obj}{ev:Array (Int×Value)}{et:ES}{ep:Nat}{t:SetTable}
theorem ZJ{Q:AT}(hA:A.handled=none)(W:GF w o ev ep t)(ho:s.heap.get? S=some o)(R:EK G s.heap ev et)(h64:et.size<64)(hu:A.units+20<cLine)
 (h:∀(h':Heap) (D tk e1:Nat) (us:Db),s.heap.objs.size<=D->(∀b u,s.heap.get? b=some u->h'.get? b=some u)->h'.get? D=some (seqObj "list" us.toArray e1)->Paired G us (Tr.FR (et.toList.map (·.2))).reverse->us.length<64 ->
   Q (.ref D) HU):wpAny BY A (call (.builtin "sorted") [.ref S]) Q E s:=by
 have hsz:=R.size;refine Calls.call_function_entry kind_sorted plain_sorted entry_sorted (args_sorted1 _) ?_;unfold Builtin.«sorted»;refine aA (m:=checkCount "sorted" 1 1 _) (aB ?_);refine aA (gather (A:=A.in1) (js W) hA ho (Io AS) fun T tk g z1 k1 B=>?_);have Y:g.toList=(Gw w S ep ev).toList.map (·.2):=by
  apply List.ext_getElem?;intro j;rw[(B7)];by_cases hj:j<g.size
  .have e1:g[j]? = some g[j]:=Array.getElem?_eq_getElem hj;obtain⟨z,e2⟩:=B.2 j _ e1;rw[Array.getElem?_toList,e1,Array.getElem?_toList,e2]
   rfl
  .have hj2:¬j<(Gw w S ep ev).size:=by rw[Lp,<-B.1];exact hj
   rw[List.getElem?_eq_none (by simpa using hj),List.getElem?_eq_none (by simpa using hj2)]
   rfl
 obtain⟨m,pm,Z⟩:=Paired.perm (T4 w S ep ev) R;have U:=Yr Z;rw[<-Y]at U;have hd:(Tr.of (m.map (·.2))).deep<=8:=(Tr.Yg 8 _).mpr fun c hc=>by have:=Ui Z c hc;lia
 have I:g.toList.length<64:=by rw[Array.length_toList,B.1,hsz];exact h64
 refine aA (wpAny_newList ?_ (Io AS));have g1:(T.push (seqObj "list" g.toList.toArray 0)).get? T.objs.size=some (seqObj "list" g.toList.toArray 0):=aL _ rfl;have k2:∀b u,s.heap.get? b=some u->(T.push (seqObj "list" g.toList.toArray 0)).get? b=some u:=fun b u e=>aE _ (k1 b u e);refine aA (aY (aW slot_list_sort ⟨_,g1,rfl⟩ entry_list_sort (Uv (s:={s with heap:=T.push (seqObj "list" g.toList.toArray 0),toks:=tk}) k2 (av z1) g1 U I
  (by rw[show A.in1.in1.units=A.units+2 from rfl];lia) fun ix a1 a2 a3=>⟨_,rfl,?_⟩) (args_list_sort _)))
 obtain⟨e1,he1⟩:=sortedHeap_at (vs:=g.toList) (out:=(ix.map fun i=>g.toList.getD i Value.none).toArray) g1;refine aB ⟨_,rfl,h _ T.objs.size tk e1 (ix.map fun i=>g.toList.getD i Value.none) ?_ (fun b u e=>?_) he1 ?_ (by rw[(BW),a1];exact I)⟩
 .exact av z1
 .have lb:b<T.objs.size:=aG (k1 b u e);rw[sortedHeap_old (aO lb) (by rw[(IU)];exact bX lb)];exact k2 b u e
 .have hg:=dI Z;rw[<-Y]at hg;have:=Paired.ik hg Value.none Tr.nil ix a2;rw[Tr.Rf]at a3;rw[a3,fi (pm.map (·.2))]at this;exact this
end
end TH
namespace TH
open PySem PyProof.Rows PySem.SeqAt
section
variable{prog:G8}{w:Id}{E:AT}
def WI(prog:G8)(w:Id)(E:AT)(t:Tr):Prop:=∀(us:Db) (A:Around) (s:GJ) (b:Array Int) (Q:Array Int->Shared->Prop),Vs s.heap t us->A.units+t.deep<=cLine ->
 (∀g,g.toList=b.toList++Kf t->Q g {s with toks:=s.toks+(t.AE-1)})->wpAny BY A (forIn us b fun x r=>do let h <-pyHash x;pure PUnit.unit;pure (ForInStep.yield (r.push h))) Q E s
theorem Ol{t:Tr}(row:WI prog w E t){a:Addr}{its:Db}{A:Around}{s:GJ}{Q:Int->Shared->Prop}(g:s.heap.IsTuple a its.toArray)(Y:Vs s.heap t its)(Z:A.units+t.deep<cLine)
 (h:Q (Bc t) {s with toks:=s.toks+t.AE}):wpAny BY A (pyHash Jj) Q E s:=by
 have U:=IsTuple.ty rfl g;obtain⟨o,B,hc,n,hd⟩:=id g;refine PySem.W.pyHash_slot (T := "tuple") U F.slot_tuple_hash F.entry_tuple_hash (F.args_tuple_hash_1 _) (beq_builtin_none _) (.inr AS) ?_;show wpAny _ _ (Builtin.Tuple.tupleItemsOf Jj>>=_) _ _ s;refine aA (wpAny_tupleItemsOf B hd ?_);refine aA ?_;rw[<-Array.forIn_toList];refine row its A.in1 s #[] _ Y (by rw[Around.in1_units];lia) fun b R=>?_;show wpAny _ _ (retInt (Builtin.Tuple.tupleHashOf b.toList)) _ _ _;rw[R];have I:s.toks+(t.AE-1)+1=s.toks+t.AE:=by have:=Tr.D9 t;lia
 refine aA (wpAny_mkInt (aB ⟨_,_,rfl,?_⟩));rw[I];exact h
theorem PB:∀t:Tr,WI prog w E t
 |.nil=>fun us A s b Q e _ h=>by rw[Vs]at e;subst e;exact aB (h b (by simp[Kf]))
 |.cons c r=>fun us A s b Q e Y h=>by
  rw[Vs]at e;obtain⟨a,its,rest,rfl,T,R,I⟩:=e;have hd:(Tr.cons c r).deep=max (c.deep+1) r.deep:=rfl;have hk:(Tr.cons c r).AE=c.AE+r.AE:=rfl;have Z:=Tr.D9 r;rw[List.forIn_cons];refine aA (aA (Ol (PB c) T R AS ?_));refine aA (aB (aB ?_));refine PB r rest A _ _ Q I AS fun U B=>?_;have g:s.toks+c.AE+(r.AE-1)=s.toks+((Tr.cons c r).AE-1):=by lia
  have:=h U (by simp[B,Kf,Bc]);rw[<-g]at this;exact this
def LR(prog:G8)(w:Id):HeapKind prog w Tr where
 is:=fun h t a=>t.deep<8/\∃its,h.IsTuple a its.toArray/\Vs h t its
 hash:=Bc
 draws:=Tr.AE
 room:=fun A=>A.units+8<cLine
 inj:=fun⟨_,i1,a1,a2⟩ ⟨_,i2,b1,b2⟩=>by
  have:=Km a1 b1;have e:i1=i2:=by simpa using this
  subst e;exact Vs.inj a2 b2
 keeps:=fun {h h' k a d o es ep} ⟨hd,its,h1,h2⟩ ho hdt sb=>by
  have kt:∀b u,h.get? b=some u->u.cls=.type "tuple" ->(∃x n,u.data=.seq x n)->h'.get? b=some u:=fun b u e _ ⟨x,n,hx⟩=>by
   rw[sb.2 b fun z=>?_]
   .exact e
   .subst z;rw[ho]at e;cases e;rw[hdt]at hx;cases hx
  have kv:∀ {t:Tr} {us:Db},Vs h t us->Vs h' t us:=fun {t}=>by
   induction t with
   |nil=>intro us e;rw[Vs]at e ⊢;exact e
   |cons b r ih1 ih2=>
    intro us e;rw[Vs]at e ⊢;obtain⟨a,its,rest,e1,⟨u,hu,hc,n,hx⟩,e3,e4⟩:=e;exact⟨a,its,rest,e1,⟨u,kt _ _ hu hc ⟨_,n,hx⟩,hc,n,hx⟩,ih1 e3,ih2 e4⟩
  obtain⟨u,hu,hc,n,hx⟩:=h1;exact⟨hd,its,⟨u,kt _ _ hu hc ⟨_,n,hx⟩,hc,n,hx⟩,kv h2⟩
 pyHash:=fun hr ⟨hd,its,h1,h2⟩ h=>Ol (PB _) h1 h2 AS h
 eqBool:=fun {A E s x y a b Q} hr ⟨hd,its,h1,h2⟩ ⟨_,its2,k1,k2⟩ h=>VJ h1 h2 k1 k2 AS prog w E Q h
 quiet:=fun⟨hd,its,h1,h2⟩ h=>quiet 8 ⟨_,its,_,rfl,h1,h2,hd⟩ h
end
end TH
namespace TH
open PySem PyProof.Rows
def CK:Option Tr->Int
 |none=>4238894112
 |some t=>Bc t
def Fl:Option Tr->Nat
 |none=>1
 |some t=>t.AE
def KZ(h:Heap):Option Tr->Value->Prop
 |none,v=>v=.none
 |some t,v=>∃a,v=.ref a/\t.deep<8/\∃its,h.IsTuple a its.toArray/\Vs h t its
abbrev KE:=Option Tr×Value×Value
def EM(x:KE):DictEntry:=⟨CK x.1,x.2.1,x.2.2⟩
theorem Ru{p:Nat->Bool}{j:Nat}:∀ {n:Nat},j<n->p j=true->(∀i,i<n->p i=true->i=j)->(List.range n).filter p=[j]
 |0,h,_,_=>absurd h (ak _)
 |n+1,h,I,g=>by
  rw[List.range_succ,List.filter_append];by_cases e:j=n
  .subst e;have:(List.range j).filter p=[]:=List.filter_eq_nil_iff.mpr fun i hi B=>by
    have:=bD.mp hi;have:=g i AS B
    lia
   rw[this];simp[I]
  .have hn:p n=false:=by
    cases q:p n with
    |false=>rfl
    |true=>exact absurd (g n AS q).symm e
   rw[Ru (show j<n by lia) I fun i hi=>g i AS];simp[hn]
section
variable{prog:G8}{w:Id}{A:Around}{E:AT}{s:GJ}{d:Addr}{o:Obj}{es:Array DictEntry}{ep:Nat}{xs:List KE}{k:Option Tr}{kv:KS}
theorem Mo(g:es.toList=xs.map EM)(j:Nat):es[j]? = (xs[j]?).map EM:=by rw[<-Array.getElem?_toList,g,(B7)]
theorem WR(g:es.toList=xs.map EM):es.size=xs.length:=by rw[<-Array.length_toList,g,(BW)]
theorem Ub(T:es.toList=xs.map EM)(I:∀x∈xs,CK x.1=CK k->x.1=k)(B:∀x∈xs,x.1≠k):placesWithHash es.size (fun i=>es[i]?.map (·.hash)) (CK k)=[]:=by
 unfold placesWithHash;refine List.filter_eq_nil_iff.mpr fun i hi g=>?_;dsimp only at g;rw[Mo T]at g;cases q:xs[i]? with
 |none=>rw[q]at g;simp at g
 |some x=>
  rw[q]at g;have R:=aT q;have:CK x.1=CK k:=by simpa[EM]using g
  exact B x R (I x R this)
theorem Rc(I:es.toList=xs.map EM)(R:∀x∈xs,CK x.1=CK k->x.1=k)(hn:(xs.map (·.1)).Nodup){j:Nat}{x:KE}(B:xs[j]? = some x)(T:x.1=k):placesWithHash es.size (fun i=>es[i]?.map (·.hash)) (CK k)=[j]:=by
 unfold placesWithHash;have Z:j<xs.length:=(aD.mp B).1;refine Ru (by rw[WR I];exact Z) (by dsimp only;rw[Mo I,B,<-T];simp[EM]) fun i hi g=>?_;dsimp only at g;rw[Mo I]at g;cases q:xs[i]? with
 |none=>rw[q]at g;simp at g
 |some y=>
  rw[q]at g;have Y:=R y (aT q) (by simpa[EM]using g);have U:(xs.map (·.1))[i]? = some k:=by rw[(B7),q];show some y.1=_;rw[Y]
  have h2:(xs.map (·.1))[j]? = some k:=by rw[(B7),B];show some x.1=_;rw[T]
  exact(List.getElem?_inj (aD.mp U).1 hn).mp (U.trans h2.symm)
theorem kE{Q:Bool->Shared->Prop}(h:Q true s):wpAny BY A (eqBool .none .none) Q E s:=by
 unfold eqBool;rw[if_pos (by rfl)];exact aA (bM (aB h))
theorem KZ.inj{h:Heap}{x y:Option Tr}{v:KS}(a:KZ h x v)(b:KZ h y v):x=y:=by
 cases x with
 |none=>
  cases y with
  |none=>rfl
  |some t=>
   obtain⟨_,e,_⟩:=b;rw[show v=.none from a]at e;cases e
 |some u=>
  cases y with
  |none=>
   obtain⟨_,e,_⟩:=a;rw[show v=.none from b]at e;cases e
  |some t=>
   obtain⟨a1,e1,I⟩:=a;obtain⟨a2,g,B⟩:=b;rw[e1]at g;cases g;obtain⟨_,i1,b1,b2⟩:=I;obtain⟨_,i2,T,R⟩:=B;have:i1=i2:=by simpa using Km b1 T
   subst this;rw[Vs.inj b2 R]
theorem dC{Q:Option Nat->Shared->Prop}(hu:A.units+8<cLine)(hk:KZ s.heap k kv)(ho:s.heap.get? d=some o)(hd:o.data=.dict es ep)(he:es.toList=xs.map EM)(his:∀x∈xs,KZ s.heap x.1 x.2.1)(hn:(xs.map (·.1)).Nodup)(R:∀x∈xs,CK x.1=CK k->x.1=k)
 (hno:(∀x∈xs,x.1≠k)->Q none s)(T:∀(j:Nat) (x:KE),xs[j]? = some x->x.1=k->Q (some j) s):wpAny BY A (dictFind d kv (CK k)) Q E s:=by
 unfold dictFind
 try with_reducible refine aY ?_
 refine aA (wpAny_dictEntries ho hd ?_);cases k with
 |none=>
  have hk:kv=.none:=hk;subst hk;dsimp only;by_cases g:∃x∈xs,x.1=none
  .obtain⟨x,hm,g⟩:=g;obtain⟨j,hj⟩:=List.mem_iff_getElem?.mp hm;have Z:=Rc (k:=none) he R hn hj g;have B:es[j]? = some ⟨CK none,.none,x.2.2⟩:=by
    rw[Mo he,hj];have h1:=his x hm;rw[g]at h1;show some (EM x)=_;unfold EM;rw[g,show x.2.1=Value.none from h1]
   rw[Z];rw[if_pos (by simp[B,carriedByValue])];unfold dictWalkPlain;simp only[List.forIn_cons,List.forIn_nil,B];refine aA (aA ?_);rw[if_pos CH];refine aA (wpAny_dictEpoch ho hd (aA (kE (aA (wpAny_dictEpoch ho hd ?_)))));rw[if_neg CH,if_pos rfl];exact aA (bM (aB (aB (aB (T j x hj g)))))
  .have Z:=Ub (k:=none) he R fun x hm z=>g ⟨x,hm,z⟩;rw[Z,if_pos (by simp[carriedByValue])];unfold dictWalkPlain;simp only[List.forIn_nil];exact aA (aB (aB (hno fun x hm z=>g ⟨x,hm,z⟩)))
 |some t=>
  obtain⟨a,rfl,I⟩:=hk;dsimp only;have Y:¬(es.any fun e=>e.key==Value.ref a&&e.hash != CK (some t))=true:=by
   intro z;rw[<-Array.any_toList,he,List.any_eq_true]at z;obtain⟨e,hm,z⟩:=z;obtain⟨x,g,rfl⟩:=aK.mp hm;rw[(MN)]at z;have h1:x.2.1=.ref a:=by simpa[EM]using z.1
   have h2:=his x g;rw[h1]at h2;have h3:=h2.inj (show KZ s.heap (some t) Jj from⟨a,rfl,I⟩);have h4:=z.2;rw[EM,h3]at h4;simp at h4
  by_cases g:∃x∈xs,x.1=some t
  .obtain⟨x,hm,g⟩:=g;obtain⟨j,hj⟩:=List.mem_iff_getElem?.mp hm;have Z:=Rc (k:=some t) he R hn hj g;have h1:=his x hm;rw[g]at h1;obtain⟨b,hb,htb⟩:=h1;have B:es[j]? = some ⟨CK (some t),.ref b,x.2.2⟩:=by
    rw[Mo he,hj];show some (EM x)=_;unfold EM;rw[g,hb]
   have hst:([j].filterMap fun i=>es[i]?.map (·.key))=[.ref b]:=by simp[B]
   rw[Z,hst,if_neg (by simp[carriedByValue]),if_neg Y];by_cases U:(([Value.ref b]:List Value)==[Value.ref a])=true<;>(first|rw[if_pos U]|rw[if_neg U])<;>(first|refine aA (aB ?_)|refine aA (wpAny_tableMayTell_quiet (knd:=LR prog w) I (fun v hv=>⟨t,b,List.mem_singleton.mp hv,htb⟩) ?_))<;>(
    rw[if_neg CH];simp only[List.forIn_cons,List.forIn_nil,B];refine aA (aA ?_);rw[if_pos CH];refine aA (wpAny_dictEpoch ho hd (aA ((LR prog w).eqBool (x:=t) (y:=t) hu htb I (aA (wpAny_dictEpoch ho hd ?_)))));rw[if_neg CH,if_pos CH,if_neg CH];refine aA (bM ?_);rw[if_pos CH];exact aB (aB (aB (T j x hj g))))
  .have Z:=Ub (k:=some t) he R fun x hm z=>g ⟨x,hm,z⟩;rw[Z,if_neg (by simp[carriedByValue]),if_neg Y];rw[if_neg CH];refine aA (wpAny_tableMayTell_quiet (knd:=LR prog w) I (fun v hv=>by cases hv) ?_);rw[if_neg CH];simp only[List.forIn_nil];exact aA (aB (aB (hno fun x hm z=>g ⟨x,hm,z⟩)))
theorem eR{Q:Int->Shared->Prop}(T:A.units+8<cLine)(B:KZ s.heap k kv)(h:Q (CK k) {s with toks:=s.toks+Fl k}):wpAny BY A (pyHash kv) Q E s:=by
 cases k with
 |some t=>
  obtain⟨a,rfl,I⟩:=B;exact(LR prog w).pyHash T I h
 |none=>
  have B:kv=.none:=B;subst B;have g:s.TypeIs .none "NoneType" := rfl;unfold pyHash pyHashByItsType;have R:[Value.none].any Value.onHeap=false:=rfl;refine aA ?_;rw[cRoomFor,if_neg (by rw[R];exact aJ)];refine aB ?_;refine aA (wpAny_specialOf g F.slot_NoneType_hash.lookup ?_);show wpAny _ _ (if(some (Value.builtin "NoneType.__hash__")==some Value.none)=true then _ else _) Q E s;rw[if_neg (by rw[beq_builtin_none];exact aJ)];refine aA (wpAny_specialOf g F.slot_NoneType_hash.lookup ?_);show wpAny _ _ (callSpecialIfBoundUnlessNone? .none "__hash__" _>>=_) Q E s;refine aA (wpAny_callSpecialIfBoundUnlessNone?_slot g F.slot_NoneType_hash
   (aW F.slot_NoneType_hash g F.entry_NoneType_hash
    (show wpAny _ _ (do ret (<-mkInt 4238894112)) _ _ s from wpAny_ret_mkInt ?_) (F.args_NoneType_hash_1 _)))
  show wpAny _ _ (if(decide (-(2:Int)^63<=4238894112)&&decide ((4238894112:Int)<2^63))=true then _ else _) Q E _;rw[if_pos As];exact aB h
def Ge(xs:List KE)(k:Option Tr):Option KE:=xs.find? fun x=>decide (x.1=k)
theorem SO(hn:(xs.map (·.1)).Nodup){j:Nat}{x:KE}(g:xs[j]? = some x)(B:x.1=k):Ge xs k=some x:=by
 unfold Ge;cases q:xs.find? (fun x=>decide (x.1=k)) with
 |none=>exact absurd (bf B) (List.find?_eq_none.mp q x (aT g))
 |some y=>
  have I:y.1=k:=by simpa using List.find?_some q
  obtain⟨i,hi⟩:=List.mem_iff_getElem?.mp (bI q);have e1:(xs.map (·.1))[i]? = some k:=by rw[(B7),hi];show some y.1=_;rw[I]
  have R:(xs.map (·.1))[j]? = some k:=by rw[(B7),g];show some x.1=_;rw[B]
  have:=(List.getElem?_inj (aD.mp e1).1 hn).mp (e1.trans R.symm);subst this;rw[hi]at g;exact g
theorem RJ(h:∀x∈xs,x.1≠k):Ge xs k=none:=List.find?_eq_none.mpr fun x g=>by simpa using h x g
structure Kc(h:Heap)(d:Addr)(xs:List KE):Prop where
 ob:∃o es ep,h.get? d=some o/\o.ExactDict/\o.data=.dict es ep/\es.toList=xs.map EM
 ks:∀x∈xs,KZ h x.1 x.2.1
 nd:(xs.map (·.1)).Nodup
theorem Kc.ty(hm:Kc s.heap d xs):s.TypeIs (.ref d) "dict" := let⟨o,_,_,g,B,_⟩:=hm.ob;⟨o,g,B.1⟩
theorem i8{Q:Option Value->Shared->Prop}(I:A.units+8<cLine)(T:KZ s.heap k kv)(hm:Kc s.heap d xs)(B:∀x∈xs,CK x.1=CK k->x.1=k)(h:Q ((Ge xs k).map (·.2.2)) {s with toks:=s.toks+Fl k}):wpAny BY A (dictGet d kv) Q E s:=by
 obtain⟨o,es,ep,R,_,hd,Y⟩:=hm.ob;unfold dictGet
 try with_reducible refine aY ?_
 refine aA (eR I T (aA (dC (s:={s with toks:=s.toks+Fl k}) I T R hd Y hm.ks hm.nd B (fun g=>?_) fun j x U Z=>?_)))
 .rw[RJ g]at h;exact aB h
 .rw[SO hm.nd U Z]at h;refine aA (wpAny_dictEntries (s:={s with toks:=s.toks+Fl k}) R hd ?_);rw[Mo Y j,U];exact aB h
theorem oU{x:KE}{Q:AT}(I:A.in1.units+8<cLine)(R:KZ s.heap k kv)(hm:Kc s.heap d xs)(g:∀x∈xs,CK x.1=CK k->x.1=k)(B:Ge xs k=some x)(h:Q x.2.2 {s with toks:=s.toks+Fl k}):wpAny BY A (getItem (.ref d) kv) Q E s:=by
 unfold getItem
 try with_reducible refine aY ?_
 refine aA (wpAny_sequenceKey hm.ty As ?_);refine aA (aa (name:=Str.ofString "__getitem__") hm.ty slot_dict_getitem (aW slot_dict_getitem hm.ty entry_dict_getitem ?_ (args_dict_getitem _ _)));show wpAny _ _ (dictGet d kv>>=_) _ _ s;refine aA (i8 I R hm g ?_);rw[B];exact aB ⟨x.2.2,rfl,wpAny_pure h⟩
theorem rh{Q:AT}(I:A.in1.units+8<cLine)(R:KZ s.heap k kv)(hd:(d==sysModules)=false)(hm:Kc s.heap d xs)(g:∀x∈xs,CK x.1=CK k->x.1=k)(neg:Bool)
 (h:Q (.bool (if neg then !(Ge xs k).isSome else(Ge xs k).isSome)) {s with toks:=s.toks+Fl k}):wpAny BY A (compareOp (if neg then .NotIn else .In) kv (.ref d)) Q E s:=by
 have key:∀ {Q:Bool->Shared->Prop},Q (Ge xs k).isSome {s with toks:=s.toks+Fl k}->wpAny BY A (contains (.ref d) kv) Q E s:=fun {Q} h=>by
  unfold contains
  try with_reducible refine aY ?_
  refine aA (wpAny_specialOf hm.ty slot_dict_contains.lookup ?_);show wpAny _ _ (if(some (Value.builtin "dict.__contains__")==some Value.none)=true then _ else _) _ E s;rw[if_neg (by rw[beq_builtin_none];exact aJ)];refine aA (wpAny_callSpecialUnlessNone?_slot (name:=Str.ofString "__contains__") hm.ty slot_dict_contains (aW slot_dict_contains hm.ty entry_dict_contains ?_ (args_dict_contains _ _)));show wpAny _ _ (dictGet d kv>>=_) _ _ s;refine aA (i8 I R hm g ?_);cases B:Ge xs k with
  |some p=>
   rw[B]at h;show wpAny _ _ (ret (.bool true)) _ _ _;exact aB ⟨_,rfl,wpAny_truthy_bool h⟩
  |none=>
   rw[B]at h;show wpAny _ _ (Builtin.Dict.pendingKey? d kv>>=_) _ _ _;exact aA (wpAny_pendingKey_other hd (aB ⟨_,rfl,wpAny_truthy_bool h⟩))
 cases neg with
 |false=>
  show wpAny _ _ (do return .bool (<-contains (.ref d) kv)) Q E s;exact aA (key (aB h))
 |true=>
  show wpAny _ _ (do return .bool (!(<-contains (.ref d) kv))) Q E s;exact aA (key (aB h))
def putN(k:Option Tr)(v:KS)(x:KE):KE:=if x.1=k then(x.1,x.2.1,v) else x
def IA(xs:List KE)(k:Option Tr)(kv v:KS):List KE:=if(Ge xs k).isSome then xs.map (putN k v) else xs++[(k,kv,v)]
theorem Wz(v:KS):∀xs:List KE,(xs.map (putN k v)).map (·.1)=xs.map (·.1)
 |[]=>rfl
 |x::xs=>by
  rw[(CI),(CI),(CI),Wz v xs]
  congr 1
  unfold putN;split<;>rfl
theorem R6{v:KS}:∀ {xs:List KE} {j:Nat} {x:KE},(xs.map (·.1)).Nodup->xs[j]? = some x->x.1=k->(xs.map EM).modify j (fun e=>{e with val:=v})=(xs.map (putN k v)).map EM
 |[],_,_,_,h,_=>by simp at h
 |y::ys,0,x,hn,h,g=>by
  have:y=x:=by simpa using h
  subst this;rw[(CI),List.nodup_cons]at hn;rw[(CI),(CI),(CI)];have B:ys.map (putN k v)=ys:=by
   refine(List.map_congr_left fun z I=>?_).trans (List.map_id _);unfold putN;rw[if_neg fun e=>hn.1 (by rw[g,<-e];exact List.mem_map_of_mem I)]
   rfl
  rw[B];show { EM y with val:=v}::ys.map EM=_
  congr 1
  unfold putN;rw[if_pos g]
  rfl
 |y::ys,j+1,x,hn,h,g=>by
  have h':ys[j]? = some x:=by simpa using h
  rw[(CI),List.nodup_cons]at hn;rw[(CI),(CI),(CI)];have R:putN k v y=y:=by
   unfold putN;rw[if_neg fun e=>hn.1 (by rw[e,<-g];exact List.mem_map_of_mem (aT h'))]
  rw[R];show EM y::(ys.map EM).modify j _=_;rw[R6 hn.2 h' g]
theorem KZ.keep{h h':Heap}{k:Option Tr}{v:KS}{o:Obj}{es ep}(a:KZ h k v)(prog:G8)(w:Id)(I:h.get? d=some o)(hd:o.data=.dict es ep)(g:Heap.SameBut d h h'):KZ h' k v:=by
 cases k with
 |none=>exact a
 |some t=>
  obtain⟨a1,e1,B⟩:=a;exact⟨a1,e1,(LR prog w).keeps B I hd g⟩
theorem qS{v:KS}{Q:Unit->Shared->Prop}(hu:A.in1.units+8<cLine)(Y:KZ s.heap k kv)(hm:Kc s.heap d xs)(Z:∀x∈xs,CK x.1=CK k->x.1=k)(hz:xs.length<=sizeLine)
 (hQ:∀h',Kc h' d (IA xs k kv v)->Heap.SameBut d s.heap h'->Q () {s with heap:=h',toks:=s.toks+Fl k}):wpAny BY A (setItem (.ref d) kv v) Q E s:=by
 unfold setItem
 try with_reducible refine aY ?_
 refine aA (wpAny_sequenceKey hm.ty As ?_);refine aA (aa (name:=Str.ofString "__setitem__") hm.ty slot_dict_setitem (aW slot_dict_setitem hm.ty entry_dict_setitem ?_ (args_dict_setitem _ _ _)));show wpAny _ _ (Builtin.Dict.notOrdered "__setitem__" ⟨[.ref d,kv,v],[]⟩>>=_) _ _ s;refine aA (wpAny_notOrdered_dict hm.ty ?_);show wpAny _ _ (dictSet d kv v>>=_) _ _ s;refine aA ?_;have fin:∀h',Kc h' d (IA xs k kv v)->Heap.SameBut d s.heap h'->wpAny BY A.in1 (ret .none) (fun fin s'=>∃v,fin=.done (.ret v)/\wpAny BY A (pure ()) Q E s') E {s with heap:=h',toks:=s.toks+Fl k}:=fun h' h1 h2=>aB ⟨.none,rfl,wpAny_pure (hQ h' h1 h2)⟩;obtain⟨o,es,ep,g,hc,hd,T⟩:=hm.ob;unfold dictSet
 try with_reducible refine aY ?_
 refine aA (eR hu Y ?_);unfold dictSetHashed
 try with_reducible refine aY ?_
 refine aA (dC (s:={s with toks:=s.toks+Fl k}) hu Y g hd T hm.ks hm.nd Z (fun R=>?_) fun j x hj hx=>?_)
 .have B:IA xs k kv v=xs++[(k,kv,v)]:=by unfold IA;rw[RJ R];rfl
  rw[B]at fin;refine aA (bM (wpAny_updateDictKeys (hz:=by rw[WR T];exact hz) (s:={s with toks:=s.toks+Fl k}) g hd (fin _ ⟨⟨_,_,ep+1,Heap.get?_update_self _ g (Obj.isFreed_of_dict (Obj.data_mapDictKeys hd _)),hc.mapDictKeys _,Obj.data_mapDictKeys hd _,?_⟩,fun y I=>?_,?_⟩ (af ..))))
  .simp[T,EM]
  .rcases aU.mp I with h|h
   .exact(hm.ks y h).keep prog w g hd (af ..)
   .rw[List.mem_singleton.mp h];exact Y.keep prog w g hd (af ..)
  .rw[(Fo),List.nodup_append];refine⟨hm.nd,by simp,fun a ha b hb=>?_⟩;have:b=k:=by simpa using hb
   subst this;obtain⟨y,I,rfl⟩:=aK.mp ha;exact R y I
 .have B:IA xs k kv v=xs.map (putN k v):=by unfold IA;rw[SO hm.nd hj hx];rfl
  rw[B]at fin;refine aA (bM (aA (wpAny_updateDict (s:={s with toks:=s.toks+Fl k}) g hd (wpAny_point (fin _ ⟨⟨_,_,ep,Heap.get?_update_self _ g (Obj.isFreed_of_dict (Obj.data_mapDict hd _)),hc.mapDict _,Obj.data_mapDict hd _,?_⟩,fun y I=>?_,?_⟩ (af ..))))))
  .have:=R6 (v:=v) hm.nd hj hx;rw[<-T]at this;obtain⟨l⟩:=es
   simpa using this
  .obtain⟨z,U,rfl⟩:=aK.mp I;unfold putN;split<;>exact(hm.ks z U).keep prog w g hd (af ..)
  .rw[Wz];exact hm.nd
end
end TH
namespace L2
open PySem PySem.Spec PyProof.Rows
abbrev KR:=Option Tr×V×V
def Sv(q:KR)(x:TH.KE):Prop:=x.1=q.1/\RelV q.2.1 x.2.1/\RelV q.2.2 x.2.2
def dN(d:Addr)(r:List KR):HO:=.ext fun h=>(d==sysModules)=false/\∃o es ep xs,h.get? d=some o/\o.ExactDict/\o.data=.dict es ep/\es.toList=xs.map TH.EM/\PySem.Paired Sv r xs
def KN(H:Hp):Option Tr->V->Prop
 |none,v=>v=.CL
 |some t,v=>t.deep<8/\Tv H t v
theorem KN.same{H H':Hp}{k:Option Tr}{v:V}(h:KN H k v)(e:AN H H'):KN H' k v:=by
 cases k with
 |none=>exact h
 |some t=>exact⟨h.1,h.2.same e⟩
structure W8(H:Hp)(d:Addr)(r:List KR)(k:Option Tr):Prop where
 at_:H d=some (dN d r)
 ks:∀q∈r,KN H q.1 q.2.1
 nd:(r.map (·.1)).Nodup
 ap:∀q∈r,TH.CK q.1=TH.CK k->q.1=k
theorem RV{α B:Type}{R:α->B->Prop}{l:List α}{m:List B}(h:PySem.Paired R l m):∀x∈m,∃q∈l,R q x:=by
 induction h with
 |nil=>intro x g;cases g
 |cons a _ I=>
  intro x g;rcases aQ.mp g with rfl|g
  .exact⟨_,.head _,a⟩
  .obtain⟨q,U,T⟩:=I x g;exact⟨q,.tail _ U,T⟩
theorem Tt{r:List KR}{xs:List TH.KE}(h:PySem.Paired Sv r xs):xs.map (·.1)=r.map (·.1):=by
 induction h with
 |nil=>rfl
 |cons a _ g=>rw[(CI),(CI),g,a.1]
section
variable{X:Cx}{pins:Cy}{σ:St}{H:Hp}{s:GJ}{pos:Pos}
theorem KN.raw(I:Cl){k:Option Tr}{v:V}{u:KS}(h:KN H k v)(r:RelV v u):TH.KZ s.heap k u:=by
 cases k with
 |none=>
  have h:v=.CL:=h;subst h;exact r
 |some t=>
  obtain⟨T,a,ys,rfl,R,B⟩:=h;obtain⟨its,g,p,_⟩:=I.tuple (BE.of (K:=X.K) R);exact⟨a,r,T,its,p,B.vs I g⟩
theorem VH(I:Cl){d:Addr}{r:List KR}{k:Option Tr}(h:W8 H d r k):(d==sysModules)=false/\∃xs,TH.Kc s.heap d xs/\PySem.Paired Sv r xs/\∀x∈xs,TH.CK x.1=TH.CK k->x.1=k:=by
 obtain⟨U,o,es,ep,xs,g1,g2,g3,Z,g⟩:=(show Cu X.prog X.w H s.heap d (dN d r) from I.BA d _ h.at_).1;refine⟨U,xs,⟨⟨o,es,ep,g1,g2,g3,Z⟩,fun x B=>?_,by rw[Tt g];exact h.nd⟩,g,fun x B=>?_⟩
 .obtain⟨q,T,R,Y,_⟩:=RV g x B;rw[R];exact(h.ks q T).raw I Y
 .obtain⟨q,T,R,_⟩:=RV g x B;rw[R];exact h.ap q T
theorem Qr{r:List KR}{xs:List TH.KE}(h:PySem.Paired Sv r xs)(k:Option Tr):match r.find? (fun q=>decide (q.1=k)) with
  |some q=>∃x,TH.Ge xs k=some x/\RelV q.2.2 x.2.2
  |none=>TH.Ge xs k=none:=by
 induction h with
 |nil=>exact rfl
 | @cons q x l m a _ g=>
  unfold TH.Ge at g ⊢;rw[List.find?_cons,List.find?_cons,a.1];by_cases z:q.1=k
  .simp only[decide_eq_true z];exact⟨x,rfl,a.2.2⟩
  .simp only[decide_eq_false z];exact g
def sC:R2:=fun x y H Q=>∃d r k q,x=.ref d/\KN H k y/\W8 H d r k/\r.find? (fun q=>decide (q.1=k))=some q/\Q q.2.2 H
theorem nI{o i:Expr}{R ty:TE}(hu:X.A.units+64<cLine)(ho:PE X o R)(hi:PE X i ty)(hs:ZI i):PE X (.Subscript o i pos) (cy sC R ty):=by
 intro pins s σ H Q I h;refine YZ PySem.F.slot_dict_getitem.lookup hs (BQ (ho pins s σ H _ I h) fun u s1 ⟨x,H1,I1,Y,q1⟩=>BQ (hi pins s1 σ H1 _ I1 q1) fun iv s2 ⟨y,H2,B,U,q2⟩=>?_);obtain⟨d,r,k,q,rfl,hk,hD,hf,Z⟩:=q2;obtain rfl:u=Value.ref d:=Y;obtain⟨hsm,xs,hm,hp,g⟩:=VH B hD;have T:=Qr hp k;rw[hf]at T;obtain⟨x,h1,h2⟩:=T;exact⟨hm.ty,TH.oU (by show X.A.in1.units+8<cLine;rw[Around.in1_units];lia) (hk.raw B U) hm g h1 ⟨q.2.2,H2,B.tok _,h2,Z⟩⟩
def rg(neg:Bool):R2:=fun x y H Q=>∃d r k,y=.ref d/\KN H k x/\W8 H d r k/\Q (.bl (if neg then !(r.find? (fun q=>decide (q.1=k))).isSome else(r.find? (fun q=>decide (q.1=k))).isSome)) H
theorem lQ(hu:X.A.units+64<cLine)(neg:Bool):Dg X (compareOp (if neg then .NotIn else .In)) (rg neg):=by
 intro pins s σ H x y v u Q I U T h;obtain⟨d,r,k,rfl,Z,hD,q⟩:=h;obtain rfl:u=Value.ref d:=T;obtain⟨g,xs,hm,Y,R⟩:=VH I hD;have B:=Qr Y k;have e:(TH.Ge xs k).isSome=(r.find? (fun q=>decide (q.1=k))).isSome:=by
  split at B
  .rename_i q e;obtain⟨x,h1,_⟩:=B;rw[h1,e];rfl
  .rename_i e;rw[B,e];rfl
 refine TH.rh (by show X.A.in1.units+8<cLine;rw[Around.in1_units];lia) (Z.raw I U) g hm R neg ?_;rw[e];exact⟨.bl _,H,I.tok _,rfl,q⟩
def Gv(r:List KR)(k:Option Tr)(g v:V):List KR:=if(r.find? (fun q=>decide (q.1=k))).isSome then r.map (fun q=>if q.1=k then(q.1,q.2.1,v) else q) else r++[(k,g,v)]
theorem jH{r:List KR}{xs:List TH.KE}{k:Option Tr}{B v:V}{I u:KS}(h:PySem.Paired Sv r xs)(T:RelV B I)(R:RelV v u):PySem.Paired Sv (Gv r k B v) (TH.IA xs k I u):=by
 have g:=Qr h k;unfold Gv TH.IA;split at g
 .rename_i q e;obtain⟨x,U,_⟩:=g;rw[U,e];simp only[Option.isSome_some,if_true];clear e U T
  induction h with
  |nil=>exact .nil
  | @cons q x l m a _ Y=>
   rw[(CI),(CI)];refine .cons ?_ Y;unfold TH.putN;rw[a.1];by_cases z:q.1=k
   .rw[if_pos z,if_pos z];exact⟨rfl,a.2.1,R⟩
   .rw[if_neg z,if_neg z];exact a
 .rename_i e;rw[g,e];exact h.snoc ⟨rfl,T,R⟩
def qx:Zf:=fun o i v H Q=>∃d r k,o=.ref d/\KN H k i/\W8 H d r k/\r.length<=1000/\Q (upd H d (dN d (Gv r k i v)))
theorem lY(hu:X.A.units+64<cLine):gu X qx:=by
 intro pins s σ H o i v ov iv u Q I ro U rv h;obtain⟨d,r,k,rfl,hk,Z,hl,q⟩:=h;obtain rfl:ov=Value.ref d:=ro;obtain⟨g,xs,hm,Y,R⟩:=VH I Z;have hle:xs.length=r.length:=by have:=ay List.length (Tt Y);simpa using this
 refine TH.qS (by show X.A.in1.units+8<cLine;rw[Around.in1_units];lia) (hk.raw I U) hm R (aR (by lia:xs.length<=1000) (by rw[sizeLine_eq];decide)) fun h' B sb=>?_;obtain⟨o',es,ep,T,g2,g3,g4⟩:=B.ob;refine⟨_,I.write (x:=d) (e:=d) (o:=dN d (Gv r k i v)) (t':=s.toks+TH.Fl k) (by rw[Z.at_];exact trivial) (.inl rfl) (fun b w' hb e=>(sb.2 b hb).trans e) ⟨o',T⟩ ?_,q⟩;exact⟨⟨g,o',es,ep,_,T,g2,g3,g4,jH Y U rv⟩,⟨o',T⟩,fun h1 h2 ⟨a,o,es,ep,xs,q,r⟩ k=>⟨a,o,es,ep,xs,k _ q,r⟩⟩
def lh:TE:=fun _ H Q=>∀p,H p=none->Q (.ref p) (upd H p (dN p []))
theorem gZ:PE X (.Dict [] [] pos) lh:=fun pins s σ H Q I h=>by
 refine wpAny_Dict_empty ⟨.ref s.heap.objs.size,_,I.laid (a:=s.heap.objs.size) (o:=dN s.heap.objs.size []) (t':=s.toks) (fun _ _ q=>aE _ q) (aH _) ?_,rfl,h _ (I.BA.fresh (aH _))⟩;have g:sysModules<s.heap.objs.size:=Nat.lt_trans As (I.mod.glob.keeps I.bk).lt;have hn:(s.heap.objs.size==sysModules)=false:=beq_eq_false_iff_ne.mpr (Ne.symm (aO g));exact⟨⟨hn,_,#[],0,[],Heap.get?_push_size _ rfl,⟨rfl,rfl,rfl⟩,rfl,rfl,.nil⟩,⟨_,Heap.get?_push_size _ rfl⟩,fun T R ⟨a,o,es,ep,xs,q,r⟩ k=>⟨a,o,es,ep,xs,k _ q,r⟩⟩
theorem find_key{r:List KR}{k:Option Tr}{q:KR}(h:r.find? (fun q=>decide (q.1=k))=some q):q∈r/\q.1=k:=⟨bI h,by simpa using List.find?_some h⟩
end
section
variable{X:Cx}
theorem cK(hc:X.calm=true):FV X (.builtin "sum") (fun xs H Q=>∃(p:Addr) (ns:List Int),xs=[.ref p]/\BE X.K H p (ns.map V.int)/\Q (.int ns.sum) H):=by
 intro pins s σ H xs us Q I r h;obtain⟨p,ns,rfl,hq,q⟩:=h;obtain⟨u,rfl,r1⟩:=r.one;cases r1;obtain⟨its,Z,pl,hz⟩:=I.tuple hq;have hi:=intsAre_of Z;obtain⟨xs,U⟩:=hi.allInts.items;have g:s.heap.IsTuple p (intItems xs):=U ▸ pl
 have R:p<s.heap.objs.size:=by obtain⟨_,e,_⟩:=g;exact aG e
 have e1:ns=xs.toList.map (·.1):=by
  rw[<-nums_intItems,<-U];exact(show numsOf its.toArray.toList=ns from hi.numsOf).symm
 have e2:preSum (numAt xs) xs.size=ns.sum:=by
  rw[preSum_eq,List.take_of_length_le CH,e1]
 refine call_sum_walkG (wpAny_pyIter_tuple g ?_);refine⟨_,[_,p],[_],_,_,_,numAt xs,rfl,Walks.tuple (A:=X.A.in1) (I.ok.hd hc) _ p (aO R) (intItems xs),
  ⟨⟨_,Heap.get?_push_size _ rfl,rfl,rfl⟩,g.push _⟩,fun c B=>?_,(fun _ _=>intItems_at),fun h' Y T hk=>?_⟩
 .show c<(s.heap.push _).objs.size;rw[(IU)];rcases aQ.mp B with rfl|B
  .exact bc _
  .rw[List.mem_singleton.mp B];exact bX R
 .have e3:preSum (numAt xs) (intItems xs).size=ns.sum:=by
   rw[<-e2];simp[intItems]
  rw[e3];exact⟨.int _,H,I.kept (t':=Y) (PyProof.Rows.LSm.kept_iter hk),⟨T,rfl⟩,q⟩
end
end L2
set_option maxHeartbeats 1000000
namespace L2
open PySem PySem.Spec PyProof.Rows
theorem Rd.same{H H':Hp}{a:Addr}{u:HO}(e:AN H H')(h:Rd H a u):Rd H' a u:=by
 rcases h with h|⟨o,h⟩
 .exact .inl (e _ _ h)
 .exact .inr ⟨o,e _ _ h⟩
def BB:Tr->List PyData
 |.nil=>[]
 |.cons b r=>.tuple (BB b)::BB r
def mE:Option Tr->PyData
 |none=>.none
 |some t=>.tuple (BB t)
mutual
def Du(H:Hp):PyData->V->Prop
 |.none,v=>v=.CL
 |.bool b,v=>v=.bl b
 |.int i,v=>v=.int i
 |.str x,v=>v=.str x
 |.tuple I,v=>∃a xs,v=.ref a/\H a=some (.tup xs)/\A4 H I xs
 |.list I,v=>∃a xs,v=.ref a/\H a=some (.lst xs)/\A4 H I xs
 |.dict g,v=>(∃B C:Addr,g=[(.int (C:Nat),.none)]/\v=.ref B/\H B=some (rZ B (.ref C)))\/(∃(a:Addr) (ns:List Int),g=[(.none,.list (ns.map .int))]/\v=.ref a/\Rd H a (.lst (ns.map V.int)))\/N8 H g v
def A4(H:Hp):List PyData->List V->Prop
 |[],xs=>xs=[]
 |d::g,xs=>∃x r,xs=x::r/\Du H d x/\A4 H g r
def N8(H:Hp):List (PyData×PyData)->V->Prop
 |[],_=>False
 |(g,B)::t,v=>g=.bool true/\B=.none/\∃a r,v=.ref a/\H a=some (dN a r)/\(r.map (·.1)).Nodup/\N5 H t r
def N5(H:Hp):List (PyData×PyData)->List KR->Prop
 |[],r=>r=[]
 |(k,d)::t,r=>∃q g,r=q::g/\k=mE q.1/\KN H q.1 q.2.1/\Du H d q.2.2/\N5 H t g
end
mutual
theorem Du.same{H H':Hp}(e:AN H H'):∀ {d:IR} {v:V},Du H d v->Du H' d v
 |.none,_,h=>by rw[Du]at h ⊢;exact h
 |.bool _,_,h=>by rw[Du]at h ⊢;exact h
 |.int _,_,h=>by rw[Du]at h ⊢;exact h
 |.str _,_,h=>by rw[Du]at h ⊢;exact h
 |.tuple _,_,h=>by
  rw[Du]at h ⊢;obtain⟨a,xs,e1,g,B⟩:=h;exact⟨a,xs,e1,e _ _ g,A4.same e B⟩
 |.list _,_,h=>by
  rw[Du]at h ⊢;obtain⟨a,xs,e1,g,B⟩:=h;exact⟨a,xs,e1,e _ _ g,A4.same e B⟩
 |.dict _,_,h=>by
  rw[Du]at h ⊢;rcases h with ⟨R,C,e1,I,g⟩|⟨a,ns,e1,I,g⟩|h
  .exact .inl ⟨R,C,e1,I,e _ _ g⟩
  .exact .inr (.inl ⟨a,ns,e1,I,g.same e⟩)
  .exact .inr (.inr (N8.same e h))
theorem A4.same{H H':Hp}(e:AN H H'):∀ {ds:Ch} {xs:Fa},A4 H ds xs->A4 H' ds xs
 |[],_,h=>by rw[A4]at h ⊢;exact h
 |_::_,_,h=>by
  rw[A4]at h ⊢;obtain⟨x,r,e1,B,g⟩:=h;exact⟨x,r,e1,Du.same e B,A4.same e g⟩
theorem N8.same{H H':Hp}(e:AN H H'):∀ {g:List (PyData×PyData)} {v:V},N8 H g v->N8 H' g v
 |[],_,h=>by rw[N8]at h;exact h.elim
 |(_,_)::_,_,h=>by
  rw[N8]at h ⊢;obtain⟨Y,U,a,r,T,R,I,B⟩:=h;exact⟨Y,U,a,r,T,e _ _ R,I,N5.same e B⟩
theorem N5.same{H H':Hp}(e:AN H H'):∀ {g:List (PyData×PyData)} {r:List KR},N5 H g r->N5 H' g r
 |[],_,h=>by rw[N5]at h ⊢;exact h
 |(_,_)::_,_,h=>by
  rw[N5]at h ⊢;obtain⟨q,B,Y,U,T,R,I⟩:=h;exact⟨q,B,Y,U,T.same e,Du.same e R,N5.same e I⟩
end
mutual
theorem Du.br{K:At}{H:Hp}:∀ {d:IR} {v:V},d.canLay0=true->Du H d v->Br K H d v
 |.none,_,_,h=>by rw[Du]at h;rw[Br];exact h
 |.bool _,_,_,h=>by rw[Du]at h;rw[Br];exact h
 |.int _,_,_,h=>by rw[Du]at h;rw[Br];exact h
 |.str _,_,_,h=>by rw[Du]at h;rw[Br];exact h
 |.tuple _,_,c,h=>by
  rw[Du]at h;rw[Br];obtain⟨a,xs,e1,B,g⟩:=h;exact⟨a,xs,e1,BE.of B,A4.br (by simp only[PyData.canLay0,Bool.and_eq_true]at c;first|exact c|exact c.2|exact c.1) g⟩
 |.list _,_,c,h=>by
  rw[Du]at h;rw[Br];obtain⟨a,xs,e1,B,g⟩:=h;exact⟨a,xs,e1,Ax.of B,A4.br (by simp only[PyData.canLay0,Bool.and_eq_true]at c;first|exact c|exact c.2|exact c.1) g⟩
 |.dict _,_,c,h=>by simp[PyData.canLay0]at c
theorem A4.br{K:At}{H:Hp}:∀ {ds:Ch} {xs:Fa},PyData.canLayAll0 ds=true->A4 H ds xs->G9 K H ds xs
 |[],_,_,h=>by rw[A4]at h;rw[G9];exact h
 |_::_,_,c,h=>by
  rw[A4]at h;rw[G9];obtain⟨x,r,e1,B,g⟩:=h;simp only[PyData.canLayAll0,Bool.and_eq_true]at c;exact⟨x,r,e1,Du.br c.1 B,A4.br c.2 g⟩
end
theorem A4.nil{H:Hp}:A4 H [] []:=by rw[A4]
theorem A4.cons{H:Hp}{d:IR}{ds:Ch}{x:V}{xs:Fa}(h:Du H d x)(k:A4 H ds xs):A4 H (d::ds) (x::xs):=by rw[A4];exact⟨x,xs,rfl,h,k⟩
theorem A4.un{H:Hp}{d:IR}{ds:Ch}{xs:Fa}(h:A4 H (d::ds) xs):∃x r,xs=x::r/\Du H d x/\A4 H ds r:=by rw[A4]at h;exact h
theorem A4.nil_eq{H:Hp}{xs:Fa}(h:A4 H [] xs):xs=[]:=by rw[A4]at h;exact h
theorem A4.len{H:Hp}:∀ {ds:Ch} {xs:Fa},A4 H ds xs->xs.length=ds.length
 |[],_,h=>by rw[h.nil_eq];rfl
 |_::_,_,h=>by obtain⟨x,r,rfl,_,g⟩:=h.un;simp[g.len]
theorem A4.get{H:Hp}:∀ {ds:Ch} {xs:Fa} {i:Nat} {d:IR},A4 H ds xs->ds[i]? = some d->∃v,xs[i]? = some v/\Du H d v
 |[],_,i,_,_,e=>by simp at e
 |_::_,_,0,_,h,e=>by
  obtain⟨x,r,rfl,R,_⟩:=h.un;simp at e;subst e;exact⟨x,rfl,R⟩
 |_::_,_,i+1,_,h,e=>by
  obtain⟨x,r,rfl,_,I⟩:=h.un;obtain⟨v,B,g⟩:=I.get (i:=i) (by simpa using e);exact⟨v,by simpa using B,g⟩
theorem A4.back{H:Hp}{ds:Ch}{xs:Fa}{i:Nat}{v:V}(h:A4 H ds xs)(e:xs[i]? = some v):∃d,ds[i]? = some d/\Du H d v:=by
 have I:=h.len;have hi:i<ds.length:=by rw[<-I];exact(aD.mp e).1
 have hd:ds[i]? = some ds[i]:=by simp[hi]
 obtain⟨w,g,B⟩:=h.get hd;rw[e]at g;cases g;exact⟨_,hd,B⟩
theorem A4.app{H:Hp}:∀ {ds es:Ch} {xs ys:Fa},A4 H ds xs->A4 H es ys->A4 H (ds++es) (xs++ys)
 |[],_,_,_,h,k=>by rw[h.nil_eq];exact k
 |_::_,_,_,_,h,k=>by obtain⟨x,r,rfl,B,g⟩:=h.un;exact .cons B (g.app k)
theorem A4.take{H:Hp}:∀ {ds:Ch} {xs:Fa} (i:Nat),A4 H ds xs->A4 H (ds.take i) (xs.take i)
 |_,_,0,_=>by rw[List.take_zero,List.take_zero];exact .nil
 |[],_,i+1,h=>by rw[h.nil_eq];exact .nil
 |_::_,_,i+1,h=>by obtain⟨x,r,rfl,B,g⟩:=h.un;exact .cons B (g.take i)
theorem A4.drop{H:Hp}:∀ {ds:Ch} {xs:Fa} (i:Nat),A4 H ds xs->A4 H (ds.drop i) (xs.drop i)
 |_,_,0,h=>h
 |[],_,i+1,h=>by rw[h.nil_eq];exact .nil
 |_::_,_,i+1,h=>by obtain⟨x,r,rfl,B,g⟩:=h.un;exact g.drop i
inductive Oc where
 |lst (xs:Ch)|V0 (kvs:List (List Key×PyData))|eM (kvs:List (Option Tr×PyData))
inductive L where
 |no|d (x:IR)|own (c:Oc)
abbrev Dv:=List L
def Sw(G:Hp):List (List Key×PyData)->List (List Key×V)->Prop
 |[],r=>r=[]
 |q::t,r=>∃v g,r=(q.1,v)::g/\Du G q.2 v/\Sw G t g
theorem Sw.same{G g:Hp}(e:AN G g):∀ {t:List (List Key×PyData)} {r:List (List Key×V)},Sw G t r->Sw g t r
 |[],r,h=>h
 |q::t,r,h=>by
  obtain⟨v,B,rfl,R,I⟩:=h;exact⟨v,B,rfl,R.same e,Sw.same e I⟩
abbrev iM(kvs:List (Option Tr×PyData)):List (PyData×PyData):=kvs.map fun q=>(mE q.1,q.2)
abbrev ZQ(kvs:List (Option Tr×PyData)):PyData:=.dict ((.bool true,.none)::iM kvs)
def JY(G:Hp)(a:Addr):Oc->HO->Prop
 |.lst xs,o=>∃ys,o=.lst ys/\A4 G xs ys
 |.V0 kvs,o=>∃r,o=.dT r/\Sw G kvs r
 |.eM kvs,o=>∃r,o=dN a r/\(r.map (·.1)).Nodup/\N5 G (iM kvs) r
theorem JY.same{G I:Hp}{a:Addr}{c:Oc}{o:HO}(h:JY G a c o)(e:AN G I):JY I a c o:=by
 cases c with
 |eM kvs=>obtain⟨r,B,g,R⟩:=h;exact⟨r,B,g,N5.same e R⟩
 |lst xs=>obtain⟨ys,B,g⟩:=h;exact⟨ys,B,g.same e⟩
 |V0 kvs=>obtain⟨ys,B,g⟩:=h;exact⟨ys,B,g.same e⟩
theorem JY.Td{G:Hp}{a:Addr}{c:Oc}{xs:Fa}(h:JY G a c (.tup xs)):False:=by
 cases c with
 |eM kvs=>obtain⟨r,g,B,I⟩:=h;unfold dN at g;cases g
 |lst xs=>obtain⟨ys,g,B⟩:=h;cases g
 |V0 kvs=>obtain⟨ys,g,B⟩:=h;cases g
def Nw(G0 H0 G:Hp):Prop:=∀a o,G a=some o->G0 a=some o\/H0 a=none\/∃xs,o=HO.tup xs
structure Rw(G0 H0 G H:Hp)(σ:St)(δ:Dv)(ts:List (PyData×V)):Prop where
 ext:AN G0 G
 new:Nw G0 H0 G
 ins:AN G H
 keep:AN H0 H
 len:σ.length=δ.length
 dat:∀(i:Nat) (x:IR),δ[i]? = some (L.d x)->∃v,σ[i]? = some (some v)/\Du G x v
 own:∀(i:Nat) (xs:Oc),δ[i]? = some (L.own xs)->∃(a:Addr) (ys:HO),σ[i]? = some (some (V.ref a))/\G a=none/\H0 a=none/\H a=some ys/\JY G a xs ys
 apart:∀(i j:Nat) (xs ys:Oc),i≠j->δ[i]? = some (L.own xs)->δ[j]? = some (L.own ys)->σ[i]?≠σ[j]?
 Cr:∀p∈ts,Du G p.1 p.2
def DE(X:Cx)(e:Expr)(f:FB):Prop:=∃t,PE X e t/\∀δ x,f δ=some x->∀G0 H0 G H σ ts (Q:VK),Rw G0 H0 G H σ δ ts->(∀v g H',Rw G0 H0 g H' σ δ ((x,v)::ts)->Q v H')->t σ H Q
def DA(X:Cx)(es:List Expr)(f:Fp):Prop:=∃t,PA X es t/\∀δ xs,f δ=some xs->∀G0 H0 G H σ ts (Q:List V->Hp->Prop),Rw G0 H0 G H σ δ ts->(∀vs g H',Rw G0 H0 g H' σ δ (xs.zip vs++ts)->vs.length=xs.length->Q vs H')->t σ H Q
def DT(X:Cx)(e:Expr)(f:Dv->Option Bool):Prop:=∃t,PT X e t/\∀δ b,f δ=some b->∀G0 H0 G H σ ts (Q:Bool->Hp->Prop),Rw G0 H0 G H σ δ ts->(∀g H',Rw G0 H0 g H' σ δ ts->Q b H')->t σ H Q
section
variable{G0 H0 G H:Hp}{σ:St}{δ:Dv}{ts:List (PyData×V)}
theorem Rw.drop{p:PyData×V}(r:Rw G0 H0 G H σ δ (p::ts)):Rw G0 H0 G H σ δ ts:={r with Cr:=fun q g=>r.Cr q (.tail _ g)}
theorem Rw.less{us:List (PyData×V)}(r:IF)(h:∀p∈us,p∈ts):Rw G0 H0 G H σ δ us:={r with Cr:=fun q g=>r.Cr q (h q g)}
theorem Rw.put{x:IR}{v:V}(r:IF)(h:Du G x v):Rw G0 H0 G H σ δ ((x,v)::ts):={r with Cr:=fun q g=>by rcases aQ.mp g with rfl|g;exact h;exact r.Cr q g}
theorem Rw.newObj{p:Addr}{o:HO}(r:IF)(g:H p=none):Rw G0 H0 (upd G p o) (upd H p o) σ δ ts:=by
 have Z:G p=none:=by
  cases q:G p with
  |none=>rfl
  |some u=>rw[r.ins _ _ q]at g;cases g
 have h0:H0 p=none:=by
  cases q:H0 p with
  |none=>rfl
  |some u=>rw[r.keep _ _ q]at g;cases g
 have e:AN G (upd G p o):=Ab Z o;refine⟨r.ext.trans e,fun a u h=>?_,fun a u h=>?_,r.keep.trans (Ab g o),r.len,fun i x h=>?_,fun i xs h=>?_,r.apart,fun q Y=>(r.Cr q Y).same e⟩
 .by_cases ha:a=p
  .subst ha;exact .inr (.inl h0)
  .rw[AR ha]at h;exact r.new _ _ h
 .by_cases ha:a=p
  .subst ha;rw[AM]at h ⊢;exact h
  .rw[AR ha]at h ⊢;exact r.ins _ _ h
 .obtain⟨v,I,B⟩:=r.dat i x h;exact⟨v,I,B.same e⟩
 .obtain⟨a,ys,I,B,U,R,T⟩:=r.own i xs h;have ha:a≠p:=fun z=>by subst z;rw[R]at g;cases g
  exact⟨a,ys,I,by rw[AR ha];exact B,U,by rw[AR ha];exact R,T.same e⟩
theorem Rw.lC{p:Addr}{xs:Fa}{H':Hp}(r:IF)(e:AN H H')(g:H' p=some (.tup xs)):Rw G0 H0 (upd G p (.tup xs)) H' σ δ ts:=by
 have e1:AN G (upd G p (.tup xs)):=fun a o h=>by
  by_cases ha:a=p
  .subst ha;have:=e _ _ (r.ins _ _ h);rw[g]at this;rw[AM];exact this
  .rw[AR ha];exact h
 refine⟨r.ext.trans e1,fun a u h=>?_,fun a u h=>?_,r.keep.trans e,r.len,fun i x h=>?_,fun i xs h=>?_,r.apart,fun q Y=>(r.Cr q Y).same e1⟩
 .by_cases ha:a=p
  .subst ha;rw[AM]at h;cases h;exact .inr (.inr ⟨_,rfl⟩)
  .rw[AR ha]at h;exact r.new _ _ h
 .by_cases ha:a=p
  .subst ha;rw[AM]at h;rw[g];exact h
  .rw[AR ha]at h;exact e _ _ (r.ins _ _ h)
 .obtain⟨v,I,B⟩:=r.dat i x h;exact⟨v,I,B.same e1⟩
 .obtain⟨a,ys,I,B,U,T,R⟩:=r.own i xs h;have ha:a≠p:=fun z=>by subst z;rw[e _ _ T]at g;cases g;exact R.Td
  exact⟨a,ys,I,by rw[AR ha];exact B,U,e _ _ T,R.same e1⟩
theorem Rw.lift{g H':Hp}(r:IF)(B:AN G g)(h2:Nw G H g)(Z:AN g H')(U:AN H H'):Rw G0 H0 g H' σ δ ts:=by
 refine⟨r.ext.trans B,fun a o h=>?_,Z,r.keep.trans U,r.len,fun i x h=>?_,fun i xs h=>?_,r.apart,fun q hq=>(r.Cr q hq).same B⟩
 .rcases h2 a o h with k|k|k
  .exact r.new a o k
  .right;left
   cases q:H0 a with
   |none=>rfl
   |some u=>rw[r.keep _ _ q]at k;cases k
  .exact .inr (.inr k)
 .obtain⟨v,T,R⟩:=r.dat i x h;exact⟨v,T,R.same B⟩
 .obtain⟨a,ys,T,R,k3,I,Y⟩:=r.own i xs h;refine⟨a,ys,T,?_,k3,U _ _ I,Y.same B⟩;cases q:g a with
  |none=>rfl
  |some u=>
   rcases h2 a u q with z|z|⟨xs',z⟩
   .rw[R]at z;cases z
   .rw[I]at z;cases z
   .have:=Z _ _ q;rw[U _ _ I,z]at this;cases this;exact Y.Td.elim
end
section
variable{X:Cx}{a b e:Expr}{f g h:FB}{pos:Pos}
theorem AO{i j pos}:DE X (.Constant (.int i) j pos) (fun _=>some (.int i)):=⟨_,AQ,fun δ x h G0 H0 G H σ ts Q r k=>by cases h;exact k _ _ _ (r.put (by rw[Du]))⟩
theorem Zi{i j pos}:DE X (.Constant (.bool i) j pos) (fun _=>some (.bool i)):=⟨_,Jc,fun δ x h G0 H0 G H σ ts Q r k=>by cases h;exact k _ _ _ (r.put (by rw[Du]))⟩
theorem Ro{j pos}:DE X (.Constant .none j pos) (fun _=>some .none):=⟨_,lM,fun δ x h G0 H0 G H σ ts Q r k=>by cases h;exact k _ _ _ (r.put (by rw[Du]))⟩
def nm(i:Nat)(δ:Dv):Option PyData:=match δ[i]? with|some (.d x)=>some x|_=>none
theorem Zu{i:Nat}{δ:Dv}{x:IR}(h:nm i δ=some x):δ[i]? = some (.d x):=by
 unfold nm at h;split at h
 .rename_i y e;cases h;exact e
 .cases h
theorem AD{i:Nat}{x:Str}(h:PE X (.Name x pos) (LL i)):DE X (.Name x pos) (nm i):=⟨_,h,fun δ y B G0 H0 G H σ ts Q r k=>by
 obtain⟨v,R,I⟩:=r.dat _ _ (Zu B);exact⟨v,R,k _ _ _ (r.put I)⟩⟩
def Ae(o:PyData->PyData->Option PyData)(f g:FB)(δ:Dv):Option PyData:=(f δ).bind fun x=>(g δ).bind fun y=>o x y
def FI(X:Cx)(m:Value->Value->Sem Value)(o:PyData->PyData->Option PyData):Prop:=∃r:R2,Dg X m r/\∀x y z,o x y=some z->∀G0 H0 G H σ δ ts u v (Q:VK),Rw G0 H0 G H σ δ ts->Du G x u->Du G y v->(∀w B H',Rw G0 H0 B H' σ δ ((z,w)::ts)->Q w H')->r u v H Q
theorem two{x y:IR}{f g:FB}{δ:Dv}{o:PyData->PyData->Option PyData}{z:IR}(h:Ae o f g δ=some z):∃x y,f δ=some x/\g δ=some y/\o x y=some z:=by
 unfold Ae at h;obtain⟨x,T,R⟩:=aC.mp h;obtain⟨y,I,B⟩:=aC.mp R;exact⟨x,y,T,I,B⟩
theorem BD{op:Operator}{o:PyData->PyData->Option PyData}(ho:FI X (binaryOp op) o)(ha:DE X a f)(hb:DE X b g):DE X (.BinOp a op b pos) (Ae o f g):=by
 obtain⟨r,Z,R⟩:=ho;obtain⟨ta,I,U⟩:=ha;obtain⟨tb,B,T⟩:=hb;refine⟨_,A9 Z I B,fun δ z Y G0 H0 G H σ ts Q R0 k=>?_⟩;obtain⟨x,y,h1,h2,h3⟩:=two (x:=.none) (y:=.none) Y;refine U δ x h1 G0 H0 G H σ ts _ R0 fun u G1 H1 R1=>?_;refine T δ y h2 G0 H0 G1 H1 σ _ _ R1 fun v G2 H2 R2=>?_;exact R x y z h3 G0 H0 G2 H2 σ δ ts u v Q (R2.drop.drop) (R2.Cr (x,u) (.tail _ (.head _))) (R2.Cr (y,v) (.head _)) k
theorem cP{op:CmpOp}{o:PyData->PyData->Option PyData}(ho:FI X (compareOp op) o)(ha:DE X a f)(hb:DE X b g)(hm:behindInMarks op b=false):DE X (.Compare a [op] [b] pos) (Ae o f g):=by
 obtain⟨r,Z,R⟩:=ho;obtain⟨ta,I,U⟩:=ha;obtain⟨tb,B,T⟩:=hb;refine⟨_,Pr Z I B hm,fun δ z Y G0 H0 G H σ ts Q R0 k=>?_⟩;obtain⟨x,y,h1,h2,h3⟩:=two (x:=.none) (y:=.none) Y;refine U δ x h1 G0 H0 G H σ ts _ R0 fun u G1 H1 R1=>?_;refine T δ y h2 G0 H0 G1 H1 σ _ _ R1 fun v G2 H2 R2=>?_;exact R x y z h3 G0 H0 G2 H2 σ δ ts u v Q (R2.drop.drop) (R2.Cr (x,u) (.tail _ (.head _))) (R2.Cr (y,v) (.head _)) k
end
section
variable{X:Cx}
def Nz(o o':PyData->PyData->Option PyData)(x y:IR):Option PyData:=match o x y with|some z=>some z|none=>o' x y
theorem FI.or{m:Value->Value->Sem Value}{o o':PyData->PyData->Option PyData}(h:FI X m o)(h':FI X m o'):FI X m (Nz o o'):=by
 obtain⟨r,Z,Y⟩:=h;obtain⟨r',I,B⟩:=h';refine⟨_,Dg.or Z I,fun x y z g G0 H0 G H σ δ ts u v Q U T R k=>?_⟩;unfold Nz at g;split at g
 .rename_i z' e;cases g;exact .inl (Y x y z e G0 H0 G H σ δ ts u v Q U T R k)
 .exact .inr (B x y z g G0 H0 G H σ δ ts u v Q U T R k)
theorem Mm{m:Value->Value->Sem Value}{C:Int->Int->Prop}{B:Int->Int->V}{o:Int->Int->Option PyData}(T:Dg X m (rI C B))(U:∀i j z,o i j=some z->C i j/\∀H,Du H z (B i j)) :
  FI X m (fun x y=>match x,y with|.int i,.int j=>o i j|_,_=>none):=by
 refine⟨_,T,fun x y z g G0 H0 G H σ δ ts u v Q R0 R I k=>?_⟩;dsimp only at g;split at g
 .rename_i i j;rw[Du]at R I;obtain⟨Z,Y⟩:=U i j z g;exact⟨i,j,R,I,Z,k _ _ _ (R0.put (Y _))⟩
 .cases g
theorem K5{m:Value->Value->Sem Value}{B:Int->Int->V}{o:Int->Int->PyData}(T:Dg X m (Uk B))(U:∀i j H,Du H (o i j) (B i j)) :
  FI X m (fun x y=>match x,y with|.int i,.int j=>some (o i j)|_,_=>none):=by
 refine⟨_,T,fun x y z g G0 H0 G H σ δ ts u v Q Y R I k=>?_⟩;dsimp only at g;split at g
 .rename_i i j;cases g;rw[Du]at R I;exact⟨i,j,R,I,k _ _ _ (Y.put (U _ _ _))⟩
 .cases g
def Ci:Nat:=1000
theorem Yd{n:Nat}(h:n<=Ci):n<sizeLine:=Uc h
theorem HH{n:Nat}(h:n<=Ci):n<=sizeLine:=av (Uc h)
def gb:PyData->PyData->Option PyData:=fun x y=>match x,y with|.int i,.int j=>some (.int (i+j))|_,_=>none
def Ot:PyData->PyData->Option PyData:=fun x y=>match x,y with|.int i,.int j=>some (.int (i-j))|_,_=>none
def IP(n:Nat)(i:Int):Bool:=decide (i.natAbs<2^n)
def Po(i j:Int):Bool:=IP 64 i||IP 64 j||(IP 9000 i&&IP 9000 j)
def W5:PyData->PyData->Option PyData:=fun x y=>match x,y with|.int i,.int j=>(if Po i j=true then some (.int (i*j)) else none)|_,_=>none
def gL:PyData->PyData->Option PyData:=fun x y=>match x,y with|.int i,.int j=>(if j≠0/\IP 9000 j=true then some (.int (i.fdiv j)) else none)|_,_=>none
def MC:PyData->PyData->Option PyData:=fun x y=>match x,y with|.int i,.int j=>(if j≠0 then some (.int (i.fmod j)) else none)|_,_=>none
def W6:PyData->PyData->Option PyData:=fun x y=>match x,y with|.int i,.int j=>(if 0<=j/\j<=1000/\IP 64 i=true then some (.int (i^j.toNat)) else none)|_,_=>none
theorem ji:FI X (binaryOp .Add) gb:=K5 Jn fun _ _ _=>by rw[Du]
theorem Pj:FI X (binaryOp .Sub) Ot:=K5 MU fun _ _ _=>by rw[Du]
theorem jC{i:Int}(h:IP 64 i=true):-(2^64)<i/\i<2^64:=by
 have:=ah h
 lia
theorem jb:FI X (binaryOp .Mult) W5:=Mm (o:=fun i j=>if Po i j=true then some (.int (i*j)) else none) Ea fun i j z h=>by
 split at h
 .rename_i q;cases h;refine⟨?_,fun _=>by rw[Du]⟩;unfold Po at q;rw[Bool.or_eq_true,Bool.or_eq_true,(MN)]at q;rcases q with (q|q)|q
  .exact .inl (.inl (jC q))
  .exact .inl (.inr (jC q))
  .exact .inr ⟨9000,by decide,of_decide_eq_true q.1,of_decide_eq_true q.2⟩
 .cases h
theorem km:FI X (binaryOp .FloorDiv) gL:=Mm (o:=fun i j=>if j≠0/\IP 9000 j=true then some (.int (i.fdiv j)) else none) GA fun i j z h=>by
 split at h
 .rename_i q;cases h;exact⟨⟨q.1,9000,Nat.le_refl _,of_decide_eq_true q.2⟩,fun _=>by rw[Du]⟩
 .cases h
theorem Mf:FI X (binaryOp .Mod) MC:=Mm (o:=fun i j=>if j≠0 then some (.int (i.fmod j)) else none) Ph fun i j z h=>by
 split at h
 .rename_i q;cases h;exact⟨q,fun _=>by rw[Du]⟩
 .cases h
theorem kq:FI X (binaryOp .Pow) W6:=Mm (o:=fun i j=>if 0<=j/\j<=1000/\IP 64 i=true then some (.int (i^j.toNat)) else none) mX fun i j z h=>by
 split at h
 .rename_i q;cases h;exact⟨⟨q.1,by lia,of_decide_eq_true q.2.2⟩,fun _=>by rw[Du]⟩
 .cases h
def Cz(p:Int->Int->Bool):PyData->PyData->Option PyData:=fun x y=>match x,y with|.int i,.int j=>some (.bool (p i j))|_,_=>none
theorem Jd:FI X (compareOp .Lt) IN:=K5 (o:=fun i j=>.bool (decide (i<j))) Rg fun _ _ _=>by rw[Du]
theorem Pl:FI X (compareOp .Gt) (Cz fun i j=>decide (j<i)):=K5 (o:=fun i j=>.bool (decide (j<i))) Pa fun _ _ _=>by rw[Du]
theorem qr:FI X (compareOp .GtE) (Cz fun i j=>decide (j<=i)):=K5 (o:=fun i j=>.bool (decide (j<=i))) iQ fun _ _ _=>by rw[Du]
def TV:PyData->PyData->Option PyData:=fun x y=>match x,y with|.list a,.list b=>(if a.length+b.length<=Ci then some (.list (a++b)) else none)|_,_=>none
theorem jR:FI X (binaryOp .Add) TV:=by
 refine⟨_,de,fun x y z g G0 H0 G H σ δ ts u v Q I Y U k=>?_⟩;unfold TV at g;split at g
 .rename_i a b;split at g
  .rename_i Z;cases g;rw[Du]at Y U;obtain⟨p,xs,rfl,h1,T⟩:=Y;obtain⟨q,ys,rfl,h3,R⟩:=U;refine⟨p,q,xs,ys,rfl,rfl,I.ins _ _ h1,I.ins _ _ h3,HH (by rw[T.len,R.len];exact Z),fun l B=>?_⟩;have R1:=I.newObj (o:=.lst (xs++ys)) B;refine k _ _ _ (R1.put ?_);rw[Du];have e:AN G (upd G l (.lst (xs++ys))):=fun a o h=>by
    have:=I.ins _ _ h;rw[AR (Aq this B)];exact h
   exact⟨l,xs++ys,rfl,AM,(T.same e).app (R.same e)⟩
  .cases g
 .cases g
def VB:PyData->PyData->Option PyData:=fun x y=>match x,y with|.tuple a,.tuple b=>(if a.length+b.length<=Ci then some (.tuple (a++b)) else none)|_,_=>none
theorem jK:FI X (binaryOp .Add) VB:=by
 refine⟨_,k7,fun x y z g G0 H0 G H σ δ ts u v Q B Y U k=>?_⟩;unfold VB at g;split at g
 .rename_i a b;split at g
  .rename_i Z;cases g;rw[Du]at Y U;obtain⟨p,xs,rfl,h1,T⟩:=Y;obtain⟨q,ys,rfl,h3,R⟩:=U;refine⟨p,q,xs,ys,rfl,rfl,B.ins _ _ h1,B.ins _ _ h3,HH (by rw[T.len,R.len];exact Z),fun l H' e I=>?_⟩;have R1:=B.lC e I;refine k _ _ _ (R1.put ?_);rw[Du];have e1:AN G (upd G l (.tup (xs++ys))):=fun a o h=>by
    by_cases ha:a=l
    .subst ha;have:=e _ _ (B.ins _ _ h);rw[I]at this;rw[AM];exact this
    .rw[AR ha];exact h
   exact⟨l,xs++ys,rfl,AM,(T.same e1).app (R.same e1)⟩
  .cases g
 .cases g
def Y9:PyData->PyData->Option PyData:=fun x y=>match x,y with|.str a,.str b=>(if a.length+b.length<=Ci then some (.str (a++b)) else none)|_,_=>none
theorem j0:FI X (binaryOp .Add) Y9:=by
 refine⟨_,ZG,fun x y z g G0 H0 G H σ δ ts u v Q T I B k=>?_⟩;unfold Y9 at g;split at g
 .rename_i a b;split at g
  .rename_i R;cases g;rw[Du]at I B;exact⟨a,b,I,B,HH R,k _ _ _ (T.put (by rw[Du]))⟩
  .cases g
 .cases g
def Ct:PyData->PyData->Option PyData:=Nz gb (Nz TV (Nz VB Y9))
theorem Cq:FI X (binaryOp .Add) Ct:=ji.or (jR.or (jK.or j0))
def XI:PyData->PyData->Option PyData:=fun x y=>match x,y with|.list a,.int k=>(if a.length*k.toNat<=Ci/\-1000000<=k/\k<=1000000 then some (.list (List.replicate k.toNat a).flatten) else none)|_,_=>none
theorem A4.rep{H:Hp}{ds:Ch}{xs:Fa}(h:A4 H ds xs):∀n,A4 H (List.replicate n ds).flatten (List.replicate n xs).flatten
 |0=>.nil
 |n+1=>by rw[(PD),(PD),(Qx),(Qx)];exact h.app (h.rep n)
theorem jg:FI X (binaryOp .Mult) XI:=by
 refine⟨_,eC,fun x y z g G0 H0 G H σ δ ts u v Q I U T k=>?_⟩;unfold XI at g;split at g
 .rename_i a n;split at g
  .rename_i Y;cases g;rw[Du]at U;rw[Du]at T;obtain⟨p,xs,rfl,Z,R⟩:=U;subst T;refine⟨p,n,xs,rfl,rfl,I.ins _ _ Z,by lia,by lia,HH (by rw[R.len];exact Y.1),fun l B=>?_⟩;have R1:=I.newObj (o:=.lst (List.replicate n.toNat xs).flatten) B;refine k _ _ _ (R1.put ?_);rw[Du];have e:AN G (upd G l (.lst (List.replicate n.toNat xs).flatten)):=fun a o h=>by
    have:=I.ins _ _ h;rw[AR (Aq this B)];exact h
   exact⟨l,_,rfl,AM,(R.same e).rep _⟩
  .cases g
 .cases g
def Ef:PyData->PyData->Option PyData:=Nz W5 XI
theorem D6:FI X (binaryOp .Mult) Ef:=jb.or jg
theorem T1{d:IR}(h:SeqAt.shaped d=true):d.canLay0=true:=by unfold SeqAt.shaped at h;rw[(MN)]at h;exact h.1
def Ez(neg:Bool):PyData->PyData->Option PyData:=fun x y=>if SeqAt.shaped x=true/\SeqAt.shaped y=true then some (.bool (if neg then !PyData.eqv x y else PyData.eqv x y)) else none
theorem dS{m:Value->Value->Sem Value}{neg:Bool}(R:Dg X m (fc X.K neg)):FI X m (Ez neg):=by
 refine⟨_,R,fun x y z g G0 H0 G H σ δ ts u v Q I U T k=>?_⟩;unfold Ez at g;split at g
 .rename_i B;cases g;exact⟨x,y,(U.same I.ins).br (T1 B.1),(T.same I.ins).br (T1 B.2),B.1,B.2,k _ _ _ (I.put (by rw[Du]))⟩
 .cases g
theorem Z2(g:X.A.units+64<cLine):FI X (compareOp .Eq) (Ez false):=dS (nr g)
theorem Nn(g:X.A.units+64<cLine):FI X (compareOp .NotEq) (Ez true):=dS (pT g)
def PyData.fq:PyData->Bool
 |.none=>true
 |_=>false
theorem o8{H:Hp}:∀ {x:IR} {u:V},Du H x u->decide (u=.CL)=PyData.fq x
 |.none,u,h=>by rw[Du]at h;subst h;rfl
 |.bool _,u,h=>by rw[Du]at h;subst h;rfl
 |.int _,u,h=>by rw[Du]at h;subst h;rfl
 |.str _,u,h=>by rw[Du]at h;subst h;rfl
 |.tuple _,u,h=>by rw[Du]at h;obtain⟨a,xs,rfl,_⟩:=h;rfl
 |.list _,u,h=>by rw[Du]at h;obtain⟨a,xs,rfl,_⟩:=h;rfl
 |.dict [],u,h=>by rw[Du,N8]at h;rcases h with ⟨g,C,_,rfl,_⟩|⟨a,ns,_,rfl,_⟩|h;rfl;rfl;exact h.elim
 |.dict ((_,_)::_),u,h=>by rw[Du,N8]at h;rcases h with ⟨g,C,_,rfl,_⟩|⟨a,ns,_,rfl,_⟩|⟨_,_,a,r,rfl,_⟩<;>rfl
def iL(neg:Bool):PyData->PyData->Option PyData:=fun x y=>match y with
 |.none=>some (.bool (if neg then !PyData.fq x else PyData.fq x))
 |_=>none
theorem gh:FI X (compareOp .IsNot) (iL true):=by
 refine⟨_,j8,fun x y z g G0 H0 G H σ δ ts u v Q R I B k=>?_⟩;unfold iL at g;split at g
 .cases g;rw[Du]at B;refine⟨B,?_⟩;rw[o8 I];exact k _ _ _ (R.put (by rw[Du];rfl))
 .cases g
end
section
variable{X:Cx}{a b c e:Expr}{es:List Expr}{f g h:FB}{pos p:Pos}
def Rp:PyData->Option Bool
 |.bool b=>some b
 |_=>none
def Rx:PyData->Option Int
 |.int b=>some b
 |_=>none
theorem VD{x:IR}{b:Bool}(h:Rp x=some b):x=.bool b:=by
 unfold Rp at h;split at h
 .cases h;rfl
 .cases h
theorem SU{x:IR}{b:Int}(h:Rx x=some b):x=.int b:=by
 unfold Rx at h;split at h
 .cases h;rfl
 .cases h
theorem o9(ha:DE X a f):DE X (.UnaryOp .USub a pos) (fun δ=>(f δ).bind fun x=>(Rx x).map fun i=>.int (-i)):=by
 obtain⟨ta,I,R⟩:=ha;refine⟨_,L6 J2 I,fun δ z T G0 H0 G H σ ts Q R0 k=>?_⟩;obtain⟨x,Z,Y⟩:=aC.mp T;obtain⟨i,U,rfl⟩:=aF.mp Y;have:=SU U;subst this;refine R δ _ Z G0 H0 G H σ ts _ R0 fun u G1 H1 B=>?_;have:=B.Cr _ (.head _);rw[Du]at this;exact⟨i,this,k _ _ _ (B.drop.put (by rw[Du]))⟩
variable{fa fb:Dv->Option Bool}
def DW(X:Cx)(e:Expr)(f:Dv->Option Bool):Prop:=∃t,PW X e t/\∀δ b,f δ=some b->∀G0 H0 G H σ ts (Q:Bool->Hp->Prop),Rw G0 H0 G H σ δ ts->(∀B H',Rw G0 H0 B H' σ δ ts->Q b H')->t σ H Q
theorem DW.dt(h:DW X e fa):DT X e fa:=let⟨t,p,k⟩:=h;⟨t,p.pt,k⟩
theorem CO{op:CmpOp}{o:PyData->PyData->Option PyData}(ho:FI X (compareOp op) o)(ha:DE X a f)(hb:DE X b g)(hm:behindInMarks op b=false):DT X (.Compare a [op] [b] pos) (fun δ=>(Ae o f g δ).bind Rp):=by
 obtain⟨r,hr,U⟩:=ho;obtain⟨ta,T,Z⟩:=ha;obtain⟨tb,R,Y⟩:=hb;refine⟨_,Cw hr T R hm,fun δ z hz G0 H0 G H σ ts Q R0 k=>?_⟩;obtain⟨q,h0,h4⟩:=aC.mp hz;have:=VD h4;subst this;obtain⟨x,y,h1,h2,h3⟩:=two (x:=.none) (y:=.none) h0;refine Z δ x h1 G0 H0 G H σ ts _ R0 fun u G1 H1 R1=>?_;refine Y δ y h2 G0 H0 G1 H1 σ _ _ R1 fun v G2 H2 R2=>?_;refine U x y _ h3 G0 H0 G2 H2 σ δ ts u v _ (R2.drop.drop) (R2.Cr (x,u) (.tail _ (.head _))) (R2.Cr (y,v) (.head _)) fun w G3 H3 I=>?_;have B:=I.Cr _ (.head _);rw[Du]at B;exact⟨z,B,k _ _ I.drop⟩
theorem lT(ha : DE X e f)(he : ∀ whole,isTrue e X.env whole = (do let v <- whole; standAt e.pos; holding [v] (truthy v)):=by intro _; rfl):DT X e (fun δ => (f δ).bind Rp):=by
  obtain ⟨ta,pa,ka⟩:=ha
  refine ⟨_,Ig pa he,fun δ z hz G0 H0 G H σ ts Q R0 k => ?_⟩
  obtain ⟨q,h0,h4⟩:=aC.mp hz
  have:=VD h4; subst this
  refine ka δ _ h0 G0 H0 G H σ ts _ R0 fun u G1 H1 R1 => ?_
  have hu:=R1.Cr _ (.head _)
  rw [Du] at hu
  exact ⟨z,hu,k _ _ R1.drop⟩
theorem oy(ha:DT X a fa):DT X (.UnaryOp .Not a pos) (fun δ=>(fa δ).map fun c=>!c):=by
 obtain⟨Z,B,I⟩:=ha;refine⟨_,IT B,fun δ z R G0 H0 G H σ ts Q Y k=>?_⟩;obtain⟨i,T,rfl⟩:=aF.mp R;exact I δ _ T G0 H0 G H σ ts _ Y fun G1 H1 U=>k _ _ U
theorem LS{op:BoolOp}(ha:DT X a fa):DW X (.BoolOp op [a] pos) fa:=by
 obtain⟨R,B,I⟩:=ha;cases op
 .exact⟨_,jk B,I⟩
 .exact⟨_,Mu B,I⟩
theorem Wf{rest:List Expr}(ha:DT X a fa)(hb:DW X (.BoolOp .And (b::rest) pos) fb):DW X (.BoolOp .And (a::b::rest) pos) (fun δ=>(fa δ).bind fun c=>if c=true then fb δ else some false):=by
 obtain⟨ta,U,Z⟩:=ha;obtain⟨tb,T,Y⟩:=hb;refine⟨_,oJ U T,fun δ z hz G0 H0 G H σ ts Q R0 k=>?_⟩;obtain⟨i,h3,B⟩:=aC.mp hz;refine Z δ _ h3 G0 H0 G H σ ts _ R0 fun G1 H1 R=>?_;split
 .rename_i I;rw[if_pos I]at B;exact Y δ z B G0 H0 G1 H1 σ ts Q R k
 .rename_i I;rw[if_neg I]at B;cases B;exact k _ _ R
theorem Nb{rest:List Expr}(ha:DT X a fa)(hb:DW X (.BoolOp .Or (b::rest) pos) fb):DW X (.BoolOp .Or (a::b::rest) pos) (fun δ=>(fa δ).bind fun c=>if c=true then some true else fb δ):=by
 obtain⟨ta,U,Z⟩:=ha;obtain⟨tb,T,Y⟩:=hb;refine⟨_,NN U T,fun δ z hz G0 H0 G H σ ts Q R0 k=>?_⟩;obtain⟨i,h3,B⟩:=aC.mp hz;refine Z δ _ h3 G0 H0 G H σ ts _ R0 fun G1 H1 R=>?_;split
 .rename_i I;rw[if_pos I]at B;cases B;exact k _ _ R
 .rename_i I;rw[if_neg I]at B;exact Y δ z B G0 H0 G1 H1 σ ts Q R k
variable{fs:Fp}
theorem AH:DA X [] (fun _=>some []):=⟨_,AV,fun δ xs h G0 H0 G H σ ts Q B k=>by cases h;exact k [] G H (by simpa using B) rfl⟩
theorem AB(ha:DE X e f)(Z:DA X es fs)(Y:starEach (e::es) X.env=(false,eval e X.env)::starEach es X.env:=by rfl):DA X (e::es) (fun δ=>(f δ).bind fun x=>(fs δ).map fun xs=>x::xs):=by
 obtain⟨ta,I,T⟩:=ha;obtain⟨tr,pr,R⟩:=Z;refine⟨_,AF I pr Y,fun δ z U G0 H0 G H σ ts Q R0 k=>?_⟩;obtain⟨x,h1,h2⟩:=aC.mp U;obtain⟨xs,h3,rfl⟩:=aF.mp h2;refine T δ x h1 G0 H0 G H σ ts _ R0 fun u G1 H1 R1=>?_;refine R δ xs h3 G0 H0 G1 H1 σ _ _ R1 fun vs G2 H2 R2 hl=>?_;refine k (u::vs) G2 H2 (R2.less fun q B=>?_) (by simp[hl]);simp only[List.zip_cons_cons,List.cons_append,List.mem_cons,List.mem_append]at B ⊢;rcases B with h|h|h
 .exact .inr (.inl h)
 .exact .inl h
 .exact .inr (.inr h)
theorem df{G:Hp}:∀ {xs:Ch} {vs:Fa},vs.length=xs.length->(∀q∈xs.zip vs,Du G q.1 q.2)->A4 G xs vs
 |[],vs,B,_=>by rw[List.eq_nil_of_length_eq_zero B];exact .nil
 |x::xs,[],B,_=>by simp at B
 |x::xs,v::vs,B,h=>.cons (h (x,v) CH) (df (by simpa using B) fun q I=>h q (by simp[I]))
theorem Rw.args{G0 H0 G H:Hp}{σ:St}{δ:Dv}{ts:List (PyData×V)}{xs:Ch}{vs:Fa}(r:Rw G0 H0 G H σ δ (xs.zip vs++ts))(I:vs.length=xs.length):A4 G xs vs/\Rw G0 H0 G H σ δ ts :=
 ⟨df I fun q B=>r.Cr q (List.mem_append_left _ B),r.less fun q B=>ae _ B⟩
theorem Rw.Sx{G0 H0 G H:Hp}{σ:St}{δ:Dv}{ts:List (PyData×V)}{xs:Ch}{vs:Fa}{p:Addr}(r:IF)(d:A4 G xs vs)(B:H p=none):Rw G0 H0 (upd G p (.lst vs)) (upd H p (.lst vs)) σ δ ((.list xs,.ref p)::ts):=by
 refine(r.newObj B).put ?_;have e:AN G (upd G p (.lst vs)):=fun a o h=>by rw[AR (Aq (r.ins _ _ h) B)];exact h
 rw[Du];exact⟨p,vs,rfl,AM,d.same e⟩
theorem Rw.fF{G0 H0 G H:Hp}{σ:St}{δ:Dv}{ts:List (PyData×V)}{xs:Ch}{vs:Fa}{p:Addr}(r:IF)(d:A4 G xs vs)(B:H p=none):Rw G0 H0 (upd G p (.tup vs)) (upd H p (.tup vs)) σ δ ((.tuple xs,.ref p)::ts):=by
 refine(r.newObj B).put ?_;have e:AN G (upd G p (.tup vs)):=fun a o h=>by rw[AR (Aq (r.ins _ _ h) B)];exact h
 rw[Du];exact⟨p,vs,rfl,AM,d.same e⟩
def I0(xs:Ch):Option (List PyData):=if xs.length<=Ci then some xs else none
theorem SS{xs ys:Ch}(h:I0 xs=some ys):xs=ys/\xs.length<=Ci:=by
 unfold I0 at h;split at h
 .rename_i q;cases h;exact⟨rfl,q⟩
 .cases h
theorem Cf{x1}(ha:DA X es fs):DE X (.Tuple es x1 pos) (fun δ=>((fs δ).bind I0).map .tuple):=by
 obtain⟨ta,I,R⟩:=ha;refine⟨_,FA I,fun δ z T G0 H0 G H σ ts Q R0 k=>?_⟩;obtain⟨ys,h1,rfl⟩:=aF.mp T;obtain⟨xs,h2,Z⟩:=aC.mp h1;obtain⟨rfl,Y⟩:=SS Z;refine R δ _ h2 G0 H0 G H σ ts _ R0 fun vs G1 H1 R1 B=>?_;obtain⟨d,R2⟩:=R1.args B;exact⟨HH (by rw[B];exact Y),fun q U=>k _ _ _ (R2.fF d U)⟩
theorem Ms(ha:DA X es fs):DE X (.List es pos) (fun δ=>((fs δ).bind I0).map .list):=by
 obtain⟨ta,I,R⟩:=ha;refine⟨_,Ff I,fun δ z T G0 H0 G H σ ts Q R0 k=>?_⟩;obtain⟨ys,h1,rfl⟩:=aF.mp T;obtain⟨xs,h2,Z⟩:=aC.mp h1;obtain⟨rfl,Y⟩:=SS Z;refine R δ _ h2 G0 H0 G H σ ts _ R0 fun vs G1 H1 R1 B=>?_;obtain⟨d,R2⟩:=R1.args B;exact⟨HH (by rw[B];exact Y),fun q U=>k _ _ _ (R2.Sx d U)⟩
theorem A4.Fu{H:Hp}{ds:Ch}{xs:Fa}{i:Int}{d:IR}(h:A4 H ds xs)(e:Fu ds i=some d):∃v,Fu xs i=some v/\Du H d v:=by
 unfold L2.Fu at e ⊢;rw[h.len];obtain⟨j,T,R⟩:=aC.mp e;obtain⟨v,I,B⟩:=h.get R;exact⟨v,by rw[T];exact I,B⟩
theorem Ul{G:Hp}:∀ns:List Int,A4 G (ns.map .int) (ns.map V.int)
 |[]=>.nil
 |n::ns=>.cons (by rw[Du]) (Ul ns)
def CC:PyData->PyData->Option PyData:=fun x y=>match x,y with
 |.list xs,.int i=>Fu xs i
 |.tuple xs,.int i=>Fu xs i
 |.dict [(.none,.list xs)],.int i=>Fu xs i
 |.str z,.int i=>if z.length<=Ci then(Fu z.cps.toList i).map fun c=>.str ⟨#[c]⟩ else none
 |_,_=>none
theorem B8(ha:DE X a f)(hb:DE X b g)(hs:TC b):DE X (.Subscript a b pos) (Ae CC f g):=by
 obtain⟨ta,pa,ka⟩:=ha;obtain⟨tb,pb,kb⟩:=hb;refine⟨_,Bz nW pa pb hs,fun δ z hz G0 H0 G H σ ts Q R0 k=>?_⟩;obtain⟨x,y,h1,h2,B⟩:=two (x:=.none) (y:=.none) hz;refine ka δ x h1 G0 H0 G H σ ts _ R0 fun u G1 H1 R1=>?_;refine kb δ y h2 G0 H0 G1 H1 σ _ _ R1 fun v G2 H2 R2=>?_;have R:=R2.Cr (x,u) (.tail _ (.head _));have I:=R2.Cr (y,v) (.head _);unfold CC at B;split at B
 .rw[Du]at R;rw[Du]at I;obtain⟨p,xs,rfl,Y,Z⟩:=R;obtain⟨w,T,U⟩:=Z.Fu B;exact .inl ⟨p,xs,_,w,rfl,I,Ax.of (R2.ins _ _ Y),T,k _ _ _ (R2.drop.drop.put U)⟩
 .rw[Du]at R;rw[Du]at I;obtain⟨p,xs,rfl,Y,Z⟩:=R;obtain⟨w,T,U⟩:=Z.Fu B;exact .inr (.inl ⟨p,xs,_,w,rfl,I,BE.of (R2.ins _ _ Y),T,k _ _ _ (R2.drop.drop.put U)⟩)
 .rw[Du]at R;rw[Du]at I;rcases R with ⟨ea,C,e1,_⟩|⟨p,ns,e1,rfl,Y⟩|z
  rotate_left 2
  .rw[N8]at z;cases z.1
  .simp at e1
  .obtain rfl:_=ns.map PyData.int:=by simpa using e1
   obtain⟨w,T,U⟩:=(Ul (G:=_) ns).Fu B;exact .inl ⟨p,_,_,w,rfl,I,.inl (Y.same R2.ins),T,k _ _ _ (R2.drop.drop.put U)⟩
 .rw[Du]at R;rw[Du]at I;split at B
  .rename_i hl;obtain⟨ch,T,rfl⟩:=aF.mp B;exact .inr (.inr ⟨_,_,ch,R,I,HH hl,T,k _ _ _ (R2.drop.drop.put (by rw[Du]))⟩)
  .cases B
 .cases B
end
def A3(g:AC):Sp:=fun vs H Q _=>∃I x G,g I=some x/\A4 G I vs/\AN G H/\∀v B H',AN G B->Nw G H B->AN B H'->AN H H'->Du B x v->Q v H'
section
variable{X:Cx}{e:Expr}{es:List Expr}{h:FB}{fs:Fp}{pos p:Pos}
theorem AW{k:Nat}{I:Addr}{fd:GE}{ps:KP}{m:AC}{x:Str}{st:Stmt}(T:Fn X.K X.mg x st ps I fd)(F:AL X.prog X.w X.K X.mg X.base Ad k I fd ps (A3 m))(hr:Fb k X.A)(hg:Gl X x)(ha:DA X (e::es) fs)
 (B:(x==("__debug__" : Str))=false:=by decide)(he:starEach (e::es) X.env=(false,eval e X.env)::starEach es X.env:=by rfl)(g:(backTo pos (starEach es X.env)).any (·.1)=false:=by rfl) :
  DE X (.Call (.Name x p) (e::es) [] pos) (fun δ=>(fs δ).bind m):=by
 obtain⟨ta,R,U⟩:=ha;refine⟨_,CQ T F hr hg R B he g,fun δ z Y G0 H0 G H σ ts Q R0 k=>?_⟩;obtain⟨xs,h1,h2⟩:=aC.mp Y;refine U δ _ h1 G0 H0 G H σ ts _ R0 fun vs G1 H1 R1 Z=>?_;obtain⟨d,R2⟩:=R1.args Z;refine⟨xs,z,G1,h2,by rw[List.append_nil];exact d,R2.ins,fun v G' H' h3 h4 h5 h6 h7=>?_⟩;exact k _ _ _ ((R2.lift h3 h4 h5 h6).put h7)
def Ni(X:Cx)(v:KS)(o:AC):Prop:=∃r,FV X v r/\∀xs z,o xs=some z->∀G0 H0 G H σ δ ts us (Q:VK),Rw G0 H0 G H σ δ ts->A4 G xs us->(∀w g H',Rw G0 H0 g H' σ δ ((z,w)::ts)->Q w H')->r us H Q
theorem EH{x:Str}{id:String}{o:AC}(hc:Ni X (.builtin id) o)(hg:Gl X x)(hm:X.mg x=none)(g:bootBuiltins x=some (.builtin id))(ha:DA X (e::es) fs)(hn:x ≠ "__name__":=by decide)(I:(x==("__debug__" : Str))=false:=by decide)
 (he:starEach (e::es) X.env=(false,eval e X.env)::starEach es X.env:=by rfl)(B:(backTo pos (starEach es X.env)).any (·.1)=false:=by rfl):DE X (.Call (.Name x p) (e::es) [] pos) (fun δ=>(fs δ).bind o):=by
 obtain⟨r,Z,T⟩:=hc;obtain⟨ta,R,U⟩:=ha;refine⟨_,Bp Z hg hm g R hn I he B,fun δ z Y G0 H0 G H σ ts Q R0 k=>?_⟩;obtain⟨xs,h1,h2⟩:=aC.mp Y;refine U δ _ h1 G0 H0 G H σ ts _ R0 fun vs G1 H1 R1 g=>?_;obtain⟨d,R2⟩:=R1.args g;exact T xs z h2 G0 H0 G1 H1 σ δ ts vs Q R2 d k
theorem Ld{x:Str}{T:String}{o:AC}(hc:Ni X (.type T) o)(hg:Gl X x)(hm:X.mg x=none)(g:bootBuiltins x=some (.type T))(ha:DA X (e::es) fs)(hn:x ≠ "__name__":=by decide)(I:(x==("__debug__" : Str))=false:=by decide)
 (he:starEach (e::es) X.env=(false,eval e X.env)::starEach es X.env:=by rfl)(B:(backTo pos (starEach es X.env)).any (·.1)=false:=by rfl):DE X (.Call (.Name x p) (e::es) [] pos) (fun δ=>(fs δ).bind o):=by
 obtain⟨r,hr,U⟩:=hc;obtain⟨ta,R,Y⟩:=ha;refine⟨_,UH hr hg hm g R hn I he B,fun δ z Z G0 H0 G H σ ts Q R0 k=>?_⟩;obtain⟨xs,h1,h2⟩:=aC.mp Z;refine Y δ _ h1 G0 H0 G H σ ts _ R0 fun vs G1 H1 R1 g=>?_;obtain⟨d,R2⟩:=R1.args g;exact U xs z h2 G0 H0 G1 H1 σ δ ts vs Q R2 d k
theorem A4.Iw{H:Hp}{d:IR}{xs:Fa}(h:A4 H [d] xs):∃x,xs=[x]/\Du H d x:=by
 obtain⟨x,r,rfl,B,g⟩:=h.un;rw[g.nil_eq];exact⟨x,rfl,B⟩
theorem A4.RO{H:Hp}{d e:IR}{xs:Fa}(h:A4 H [d,e] xs):∃x y,xs=[x,y]/\Du H d x/\Du H e y:=by
 obtain⟨x,r,rfl,I,B⟩:=h.un;obtain⟨y,rfl,g⟩:=B.Iw;exact⟨x,y,rfl,I,g⟩
def Gy:List PyData->Option PyData
 |[.list xs]=>some (.int xs.length)
 |[.tuple xs]=>some (.int xs.length)
 |[.dict [(.none,.list xs)]]=>some (.int xs.length)
 |_=>none
theorem Jp:Ni X (.builtin "len") Gy:=by
 refine⟨_,C2,fun xs z B G0 H0 G H σ δ ts us Q I d k=>?_⟩;unfold Gy at B;split at B
 .cases B;obtain⟨u,rfl,g⟩:=d.Iw;rw[Du]at g;obtain⟨p,ys,rfl,R,T⟩:=g;refine⟨p,ys,rfl,.inl (Ax.of (I.ins _ _ R)),?_⟩;rw[T.len];exact k _ _ _ (I.put (by rw[Du]))
 .cases B;obtain⟨u,rfl,g⟩:=d.Iw;rw[Du]at g;obtain⟨p,ys,rfl,R,T⟩:=g;refine⟨p,ys,rfl,.inr (BE.of (I.ins _ _ R)),?_⟩;rw[T.len];exact k _ _ _ (I.put (by rw[Du]))
 .cases B;obtain⟨u,rfl,g⟩:=d.Iw;rw[Du]at g;rcases g with ⟨U,C,e1,_⟩|⟨p,ns,e1,rfl,R⟩|z
  rotate_left 2
  .rw[N8]at z;cases z.1
  .simp at e1
  .obtain rfl:_=ns.map PyData.int:=by simpa using e1
   refine⟨p,_,rfl,.inl (.inl (R.same I.ins)),?_⟩;rw[(BW)]at k ⊢;exact k _ _ _ (I.put (by rw[Du]))
 .cases B
def Vy:List PyData->Option PyData
 |[.int i]=>some (.int (if i<0 then -i else i))
 |_=>none
theorem pW:Ni X (.builtin "abs") Vy:=by
 refine⟨_,Ks,fun xs z g G0 H0 G H σ δ ts us Q I d k=>?_⟩;unfold Vy at g;split at g
 .cases g;obtain⟨u,rfl,B⟩:=d.Iw;rw[Du]at B;subst B;exact⟨_,rfl,k _ _ _ (I.put (by rw[Du]))⟩
 .cases g
def Qy:List PyData->Option PyData
 |[.list xs]=>some (.tuple xs)
 |[.tuple xs]=>some (.tuple xs)
 |_=>none
theorem fG:Ni X Hq Qy:=by
 refine⟨_,Us,fun xs z B G0 H0 G H σ δ ts us Q I d k=>?_⟩;unfold Qy at B;split at B
 .cases B;obtain⟨u,rfl,g⟩:=d.Iw;rw[Du]at g;obtain⟨p,ys,rfl,R,U⟩:=g;exact⟨p,ys,rfl,.inl ⟨Ax.of (I.ins _ _ R),fun l Y=>k _ _ _ (I.fF U Y)⟩⟩
 .cases B;obtain⟨u,rfl,g⟩:=d.Iw;have T:=g;rw[Du]at g;obtain⟨p,ys,rfl,R,U⟩:=g;exact⟨p,ys,rfl,.inr ⟨BE.of (I.ins _ _ R),k _ _ _ (I.put T)⟩⟩
 .cases B
def Ma:List PyData->Option PyData
 |[.list xs]=>some (.list xs)
 |[.tuple xs]=>some (.list xs)
 |_=>none
theorem Tg:Ni X (.type "list") Ma:=by
 refine⟨_,XE,fun xs z g G0 H0 G H σ δ ts us Q I d k=>?_⟩;unfold Ma at g;split at g
 .cases g;obtain⟨u,rfl,B⟩:=d.Iw;rw[Du]at B;obtain⟨p,ys,rfl,U,T⟩:=B;exact⟨p,ys,rfl,.inl (Ax.of (I.ins _ _ U)),fun l R=>k _ _ _ (I.Sx T R)⟩
 .cases g;obtain⟨u,rfl,B⟩:=d.Iw;rw[Du]at B;obtain⟨p,ys,rfl,U,T⟩:=B;exact⟨p,ys,rfl,.inr (BE.of (I.ins _ _ U)),fun l R=>k _ _ _ (I.Sx T R)⟩
 .cases g
end
inductive Ou where
 |nx (δ:Dv)|rt (x:IR)|bk (δ:Dv)|ct (δ:Dv)|rn (xs:Ch)
def Fin(G0 H0:Hp)(D:Ends):Ou->Prop
 |.nx δ=>∀σ G H,Rw G0 H0 G H σ δ []->D.nx σ H
 |.rt x=>∀v G H,AN G0 G->Nw G0 H0 G->AN G H->AN H0 H->Du G x v->D.rt v H
 |.bk δ=>∀σ G H,Rw G0 H0 G H σ δ []->D.bk σ H
 |.ct δ=>∀σ G H,Rw G0 H0 G H σ δ []->D.ct σ H
 |.rn xs=>∀a ys G H,AN G0 G->Nw G0 H0 G->AN G H->AN H0 H->H0 a=none->G a=none->H a=some IS->A4 G xs ys->D.rt Jj H
abbrev DF:=Dv->Option Ou
def DS(X:Cx)(st:Stmt)(F:DF):Prop:=∃t,PS X st t/\∀δ r,F δ=some r->∀G0 H0 G H σ D,Rw G0 H0 G H σ δ []->Fin G0 H0 D r->t D σ H
def T3(X:Cx)(st:List Stmt)(F:DF):Prop:=∃t,Lw X st t/\∀δ r,F δ=some r->∀G0 H0 G H σ D,Rw G0 H0 G H σ δ []->Fin G0 H0 D r->t D σ H
def Ai(B F2:DF)(δ:Dv):Option Ou:=match B δ with
 |some (.nx g)=>F2 g
 |o=>o
section
variable{X:Cx}{c e:Expr}{f h:FB}{fa:Dv->Option Bool}{pos p:Pos}{st:Stmt}{sts sts':List Stmt}{F1 F2:DF}
theorem C7:T3 X [] (fun δ=>some (.nx δ)):=⟨_,DB,fun δ r h G0 H0 G H σ D R k=>by cases h;exact k _ _ _ R⟩
theorem AU(h1:DS X st F1)(h2:T3 X sts F2):T3 X (st::sts) (Ai F1 F2):=by
 obtain⟨t1,Y,T⟩:=h1;obtain⟨t2,U,Z⟩:=h2;refine⟨_,Aa Y U,fun δ r h G0 H0 G H σ D R k=>?_⟩;unfold Ai at h;split at h
 .rename_i g e1;exact T δ _ e1 G0 H0 G H σ _ R fun B G' H' R'=>Z g r h G0 H0 G' H' B D R' k
 .rename_i I;refine T δ r h G0 H0 G H σ _ R ?_;cases r with
  |nx g=>exact absurd h (I g)
  |rt x=>exact k
  |bk g=>exact k
  |ct g=>exact k
  |rn xs=>exact k
theorem Ac(I:DS X st F1):T3 X [st] F1:=by
 obtain⟨t1,g,B⟩:=I;exact⟨_,Ar g,B⟩
theorem Hu:DS X st (fun _=>none):=⟨_,V2,fun _ _ h=>by cases h⟩
theorem Bk(B:DE X e f):DS X (.Return (some e) pos) (fun δ=>(f δ).map .rt):=by
 obtain⟨t,p,k⟩:=B;refine⟨_,Bo p,fun δ r h G0 H0 G H σ D R q=>?_⟩;obtain⟨x,I,rfl⟩:=aF.mp h;exact k δ x I G0 H0 G H σ [] _ R fun v T H' g=>q v T H' g.ext g.new g.ins g.keep (g.Cr _ (.head _))
theorem HR(B:DE X e f)(g:swapsWith e none pos.line X.env=pure false:=by rfl):DS X (.Expr e pos) (fun δ=>(f δ).map fun _=>.nx δ):=by
 obtain⟨t,p,k⟩:=B;refine⟨_,Fc p g,fun δ r h G0 H0 G H σ D R q=>?_⟩;obtain⟨x,I,rfl⟩:=aF.mp h;exact k δ x I G0 H0 G H σ [] _ R fun v U H' T=>q _ _ _ T.drop
theorem FE(g:DT X c fa)(h1:T3 X sts F1)(h2:T3 X sts' F2):DS X (.If c sts sts' pos) (fun δ=>(fa δ).bind fun c=>if c=true then F1 δ else F2 δ):=by
 obtain⟨tc,pc,Z⟩:=g;obtain⟨t1,Y,k1⟩:=h1;obtain⟨t2,U,k2⟩:=h2;refine⟨_,FD pc Y U,fun δ r h G0 H0 G H σ D R q=>?_⟩;obtain⟨i,h3,B⟩:=aC.mp h;refine Z δ i h3 G0 H0 G H σ [] _ R fun T H' I=>?_;split
 .rename_i g;rw[if_pos g]at B;exact k1 δ r B G0 H0 T H' σ D I q
 .rename_i g;rw[if_neg g]at B;exact k2 δ r B G0 H0 T H' σ D I q
end
section
variable{G0 H0 G H:Hp}{σ:St}{δ:Dv}{ts:List (PyData×V)}
theorem Rw.KJ{i:Nat}{x:IR}{v:V}(r:Rw G0 H0 G H σ δ ((x,v)::ts)):Rw G0 H0 G H (σ.set i (some v)) (δ.set i (.d x)) ts:=by
 have hl:=r.len;refine⟨r.ext,r.new,r.ins,r.keep,by simp[hl],fun j y h=>?_,fun j ys h=>?_,fun j l ys Y U I B=>?_,fun q hq=>r.Cr q (.tail _ hq)⟩
 .by_cases g:i=j
  .subst g;by_cases hi:i<δ.length
   .rw[List.getElem?_set_self hi]at h;cases h;exact⟨v,by rw[List.getElem?_set_self AS],r.Cr _ (.head _)⟩
   .rw[List.getElem?_eq_none (by simp;lia)]at h;cases h
  .rw[List.getElem?_set_ne g]at h;obtain⟨w,T,R⟩:=r.dat j y h;exact⟨w,by rw[List.getElem?_set_ne g];exact T,R⟩
 .by_cases g:i=j
  .subst g;by_cases hi:i<δ.length
   .rw[List.getElem?_set_self hi]at h;cases h
   .rw[List.getElem?_eq_none (by simp;lia)]at h;cases h
  .rw[List.getElem?_set_ne g]at h;obtain⟨w,T,R,k3⟩:=r.own j ys h;exact⟨w,T,by rw[List.getElem?_set_ne g];exact R,k3⟩
 .have Z:i≠j:=fun z=>by
   subst z;by_cases hi:i<δ.length
   .rw[List.getElem?_set_self hi]at I;cases I
   .rw[List.getElem?_eq_none (by simp;lia)]at I;cases I
  have nl:i≠l:=fun z=>by
   subst z;by_cases hi:i<δ.length
   .rw[List.getElem?_set_self hi]at B;cases B
   .rw[List.getElem?_eq_none (by simp;lia)]at B;cases B
  rw[List.getElem?_set_ne Z]at I ⊢;rw[List.getElem?_set_ne nl]at B ⊢;exact r.apart j l ys Y U I B
end
section
variable{X:Cx}{e:Expr}{f:FB}{pos p:Pos}
theorem Bx{i:Nat}{x:Str}{g:Pos}(Y:X.N.Nodup)(hi:X.N[i]? = some x)(B:Loc X.env.scope x)(U:DE X e f)(I:swapsWith e (some (.Name x g)) pos.line X.env=pure false:=by rfl)(T:X.fn x=true\/X.env.scope.names.lookup x=some .local:=by first|exact .inl rfl|exact .inr rfl|assumption) :
  DS X (.Assign [.Name x g] e pos) (fun δ=>(f δ).map fun y=>.nx (δ.set i (.d y))):=by
 obtain⟨t,p,k⟩:=U;refine⟨_,BJ Y hi B p I T,fun δ r h G0 H0 G H σ D R q=>?_⟩;obtain⟨y,Z,rfl⟩:=aF.mp h;exact k δ y Z G0 H0 G H σ [] _ R fun v G' H' R'=>q _ _ _ R'.KJ
end
section
variable{G0 H0 G H:Hp}{σ:St}{δ:Dv}{ts:List (PyData×V)}
theorem Rw.base(r:IF):Rw G H0 G H σ δ ts:={r with ext:=AN.refl G,new:=fun _ _ h=>.inl h}
theorem Nw.trans{B g:Hp}(a:Nw G0 H0 B)(b:Nw B H0 g):Nw G0 H0 g:=fun c o h=>by
 rcases b c o h with z|z|z
 .exact a c o z
 .exact .inr (.inl z)
 .exact .inr (.inr z)
theorem Rw.Vr{I H':Hp}{g:St}{δ':Dv}{B:List (PyData×V)}(r:IF)(q:Rw G H0 I H' g δ' B):Rw G0 H0 I H' g δ' B:={q with ext:=r.ext.trans q.ext,new:=r.new.trans q.new}
def Ft(i:Nat)(δ:Dv):Dv:=match δ[i]? with
 |some (.own (.lst xs))=>δ.set i (.d (.list xs))
 |some (.own (.eM kvs))=>δ.set i (.d (ZQ kvs))
 |_=>δ
theorem Rw.letGo{i:Nat}{c:Oc}{x:IR}(r:IF)(hi:δ[i]? = some (.own c))(hx:∀a o,G a=none->JY G a c o->Du (upd G a o) x Jj):∃a o,σ[i]? = some (some Jj)/\G a=none/\H0 a=none/\H a=some o/\JY G a c o/\Rw G0 H0 (upd G a o) H σ (δ.set i (.d x)) ts:=by
 obtain⟨a,o,k1,Z,k3,k4,k5⟩:=r.own i _ hi;have e:AN G (upd G a o):=Ab Z _;have g:i<δ.length:=(aD.mp hi).1;refine⟨a,o,k1,Z,k3,k4,k5,r.ext.trans e,fun b o' h=>?_,fun b o' h=>?_,r.keep,by simp[r.len],fun j y h=>?_,fun j zs h=>?_,fun j l us ws hjl U T=>?_,fun q hq=>(r.Cr q hq).same e⟩
 .by_cases I:b=a
  .subst I;exact .inr (.inl k3)
  .rw[AR I]at h;exact r.new _ _ h
 .by_cases I:b=a
  .subst I;rw[AM]at h;rw[k4];exact h
  .rw[AR I]at h;exact r.ins _ _ h
 .by_cases B:i=j
  .subst B;rw[List.getElem?_set_self g]at h;cases h;exact⟨.ref a,k1,hx a o Z k5⟩
  .rw[List.getElem?_set_ne B]at h;obtain⟨w,R,Y⟩:=r.dat j y h;exact⟨w,R,Y.same e⟩
 .by_cases B:i=j
  .subst B;rw[List.getElem?_set_self g]at h;cases h
  .rw[List.getElem?_set_ne B]at h;obtain⟨b,us,R,Y,m3,m4,m5⟩:=r.own j zs h;have nb:b≠a:=fun z=>by subst z;exact r.apart i j _ zs B hi h (by rw[k1,R])
   exact⟨b,us,R,by rw[AR nb];exact Y,m3,m4,m5.same e⟩
 .have nj:i≠j:=fun z=>by subst z;rw[List.getElem?_set_self g]at U;cases U
  have nl:i≠l:=fun z=>by subst z;rw[List.getElem?_set_self g]at T;cases T
  rw[List.getElem?_set_ne nj]at U;rw[List.getElem?_set_ne nl]at T;exact r.apart j l us ws hjl U T
theorem lA{a:Addr}{o:HO}{xs:Ch}(B:G a=none)(h:JY G a (.lst xs) o):Du (upd G a o) (.list xs) Jj:=by
 obtain⟨ys,rfl,g⟩:=h;rw[Du];exact⟨a,ys,rfl,AM,g.same (Ab B _)⟩
theorem nR{a:Addr}{o:HO}{kvs:List (Option Tr×PyData)}(B:G a=none)(h:JY G a (.eM kvs) o):Du (upd G a o) (ZQ kvs) Jj:=by
 obtain⟨r,rfl,n,g⟩:=h;rw[Du,N8];exact .inr (.inr ⟨rfl,rfl,a,r,rfl,AM,n,N5.same (Ab B _) g⟩)
theorem Rw.Ft(i:Nat)(r:IF):∃g,Rw G0 H0 g H σ (L2.Ft i δ) ts:=by
 unfold L2.Ft;split
 .rename_i xs hi;obtain⟨a,o,_,_,_,_,_,R⟩:=r.letGo (x:=.list xs) hi fun a o h=>lA h;exact⟨_,R⟩
 .rename_i kvs hi;obtain⟨a,o,_,_,_,_,_,R⟩:=r.letGo (x:=ZQ kvs) hi fun a o h=>nR h;exact⟨_,R⟩
 .exact⟨G,r⟩
theorem Rw.lX{i:Nat}{xs:Oc}{ys:HO}{a:Addr}(r:IF)(d:JY G a xs ys)(ha:H a=none):Rw G0 H0 G (upd H a ys) (σ.set i (some Jj)) (δ.set i (.own xs)) ts:=by
 have hG:G a=none:=by
  cases q:G a with
  |none=>rfl
  |some u=>rw[r.ins _ _ q]at ha;cases ha
 have h0:H0 a=none:=by
  cases q:H0 a with
  |none=>rfl
  |some u=>rw[r.keep _ _ q]at ha;cases ha
 have e:AN H (upd H a ys):=Ab ha _;have hl:=r.len;have other:∀(j:Nat) (B:Oc),i≠j->(δ.set i (.own xs))[j]? = some (L.own B)->δ[j]? = some (L.own B):=fun j B g h=>by rw[List.getElem?_set_ne g]at h;exact h
 have I:∀(j:Nat) (B:Oc),δ[j]? = some (L.own B)->σ[j]?≠some (some (V.ref a)):=fun j B h z=>by
  obtain⟨b,us,T,m2,m3,m4,m5⟩:=r.own j B h;rw[z]at T;cases T;rw[m4]at ha;cases ha
 refine⟨r.ext,r.new,r.ins.trans e,r.keep.trans e,by simp[hl],fun j y h=>?_,fun j B h=>?_,fun j l us ws Z U R=>?_,r.Cr⟩
 .by_cases g:i=j
  .subst g;by_cases hi:i<δ.length
   .rw[List.getElem?_set_self hi]at h;cases h
   .rw[List.getElem?_eq_none (by simp;lia)]at h;cases h
  .rw[List.getElem?_set_ne g]at h;obtain⟨w,T,m2⟩:=r.dat j y h;exact⟨w,by rw[List.getElem?_set_ne g];exact T,m2⟩
 .by_cases g:i=j
  .subst g;by_cases hi:i<δ.length
   .rw[List.getElem?_set_self hi]at h;cases h;exact⟨a,ys,by rw[List.getElem?_set_self AS],hG,h0,AM,d⟩
   .rw[List.getElem?_eq_none (by simp;lia)]at h;cases h
  .have h:=other j B g h;obtain⟨b,us,T,m2,m3,m4,m5⟩:=r.own j B h;exact⟨b,us,by rw[List.getElem?_set_ne g];exact T,m2,m3,e _ _ m4,m5⟩
 .by_cases g:i=j
  .subst g;have Y:i≠l:=Z;have R:=other l ws Y R;by_cases hi:i<δ.length
   .rw[List.getElem?_set_self AS,List.getElem?_set_ne Y];exact fun z=>I l ws R z.symm
   .rw[List.getElem?_eq_none (by simp;lia)]at U;cases U
  .have U:=other j us g U;by_cases hk:i=l
   .subst hk;by_cases hi:i<δ.length
    .rw[List.getElem?_set_self AS,List.getElem?_set_ne g];exact fun z=>I j us U z
    .rw[List.getElem?_eq_none (by simp;lia)]at R;cases R
   .have R:=other l ws hk R;rw[List.getElem?_set_ne g,List.getElem?_set_ne hk];exact r.apart j l us ws Z U R
theorem Rw.Z8{i:Nat}{xs B:Oc}{ys:HO}{a:Addr}(r:IF)(hi:δ[i]? = some (.own xs))(ha:σ[i]? = some (some Jj))(d:JY G a B ys):Rw G0 H0 G (upd H a ys) σ (δ.set i (.own B)) ts:=by
 obtain⟨a',ys0,k1,k2,k3,k4,k5⟩:=r.own i xs hi;rw[ha]at k1;cases k1;have R:i<δ.length:=(aD.mp hi).1;have hl:=r.len;refine⟨r.ext,r.new,fun b o h=>?_,fun b o h=>?_,by simp[hl],fun j y h=>?_,fun j zs h=>?_,fun j l us ws U Z Y=>?_,r.Cr⟩
 .rw[AR (fun z=>by subst z;rw[k2]at h;cases h)];exact r.ins _ _ h
 .rw[AR (fun z=>by subst z;rw[k3]at h;cases h)];exact r.keep _ _ h
 .by_cases g:i=j
  .subst g;rw[List.getElem?_set_self R]at h;cases h
  .rw[List.getElem?_set_ne g]at h;exact r.dat j y h
 .by_cases g:i=j
  .subst g;rw[List.getElem?_set_self R]at h;cases h;exact⟨a,ys,ha,k2,k3,AM,d⟩
  .rw[List.getElem?_set_ne g]at h;obtain⟨b,us,m1,m2,m3,m4,m5⟩:=r.own j zs h;have nb:b≠a:=fun z=>by subst z;exact r.apart i j xs zs g hi h (by rw[ha,m1])
   exact⟨b,us,m1,m2,m3,by rw[AR nb];exact m4,m5⟩
 .have f:∀(j:Nat) (us:Oc),(δ.set i (.own B))[j]? = some (L.own us)->∃I,δ[j]? = some (L.own I):=fun j us h=>by
   by_cases g:i=j
   .subst g;exact⟨xs,hi⟩
   .rw[List.getElem?_set_ne g]at h;exact⟨us,h⟩
  obtain⟨I,Z⟩:=f j us Z;obtain⟨T,Y⟩:=f l ws Y;exact r.apart j l I T U Z Y
end
section
variable{X:Cx}{a b e:Expr}{es:List Expr}{f g h:FB}{fs:Fp}{pos p:Pos}{st:Stmt}{F:DF}
theorem Vj(i:Nat)(B:DS X st F):DS X st (fun δ=>F (Ft i δ)):=by
 obtain⟨t,p,k⟩:=B;refine⟨t,p,fun δ r h G0 H0 G H σ D R q=>?_⟩;obtain⟨T,I⟩:=R.Ft i;exact k _ r h G0 H0 T H σ D I q
theorem Mb{i:Nat}{x:Str}{B T:Pos}(hN:X.N.Nodup)(hi:X.N[i]? = some x)(Y:Loc X.env.scope x)(ha:DA X es fs)(Z:swapsWith (.List es T) (some (.Name x B)) pos.line X.env=pure false:=by rfl)(hf:X.fn x=true\/X.env.scope.names.lookup x=some .local:=by first|exact .inl rfl|exact .inr rfl|assumption) :
  DS X (.Assign [.Name x B] (.List es T) pos) (fun δ=>((fs δ).bind I0).map fun ys=>.nx (δ.set i (.own IS))):=by
 obtain⟨t,p,k⟩:=ha;refine⟨_,BJ hN hi Y (Ff p) Z hf,fun δ r h G0 H0 G H σ D R q=>?_⟩;obtain⟨y,h1,rfl⟩:=aF.mp h;obtain⟨xs,h2,h3⟩:=aC.mp h1;obtain⟨rfl,hl⟩:=SS h3;refine k δ _ h2 G0 H0 G H σ [] _ R fun vs G1 H1 R1 U=>?_;obtain⟨d,R2⟩:=R1.args U;exact⟨HH (by rw[U];exact hl),fun l I=>q _ _ _ (R2.lX ⟨_,rfl,d⟩ I)⟩
def ow(i:Nat)(δ:Dv):Option (List PyData):=match δ[i]? with
 |some (.own (.lst xs))=>some xs
 |_=>none
theorem NR{i:Nat}{δ:Dv}{xs:Ch}(h:ow i δ=some xs):δ[i]? = some (.own (.lst xs)):=by
 unfold ow at h;split at h
 .rename_i y e;cases h;exact e
 .cases h
theorem T2{i:Nat}{x:Str}{np ap cp:Pos}(hv:PE X (.Name x np) (LL i))(he:DE X e f)
 (hP:∀ {Y:TE} {t:TA},PE X (.Name x np) Y->PA X [e] t->PS X (.Expr (.Call (.Attribute (.Name x np) "append" ap) [e] [] cp) pos) (Y2 (oK X.K "list" Yz Y t)))(I:starEach [e] X.env=(false,eval e X.env)::starEach [] X.env:=by rfl) :
  DS X (.Expr (.Call (.Attribute (.Name x np) "append" ap) [e] [] cp) pos) (fun δ=>(f δ).bind fun y=>(ow i δ).bind fun xs=>if xs.length<Ci then some (.nx (δ.set i (.own (.lst (xs++[y]))))) else none):=by
 obtain⟨t,p,k⟩:=he;refine⟨_,hP hv (AF p AV I),fun δ r h G0 H0 G H σ D R q=>?_⟩;obtain⟨y,h1,h2⟩:=aC.mp h;obtain⟨xs,h3,T⟩:=aC.mp h2;split at T
 .rename_i hl;cases T;have hi:=NR h3;obtain⟨a,_,B,k2,k3,k4,⟨ys,rfl,k5⟩⟩:=R.own i _ hi;refine⟨.ref a,B,.inl ⟨rfl,ys,Ax.of k4⟩,?_⟩;refine k δ y h1 G0 H0 G H σ [] _ R fun u G1 H1 U=>?_;obtain⟨a',_,m1,m2,m3,m4,⟨zs,rfl,Z⟩⟩:=U.own i _ hi;rw[B]at m1;cases m1;refine⟨a,zs,u,rfl,rfl,m4,Yd (by rw[Z.len];lia),?_⟩;exact q _ _ _ (U.drop.Z8 hi B ⟨_,rfl,Z.app (.cons (U.Cr _ (.head _)) .nil)⟩)
 .cases T
theorem Lg{i:Nat}{x:Str}{np ap cp:Pos}(hv:PE X (.Name x np) (LL i))(he:DE X e f)
 (hP:∀ {Y:TE} {t:TA},PE X (.Name x np) Y->PA X [e] t->PS X (.Expr (.Call (.Attribute (.Name x np) "extend" ap) [e] [] cp) pos) (Y2 (oK X.K "list" X7 Y t)))(U:starEach [e] X.env=(false,eval e X.env)::starEach [] X.env:=by rfl) :
  DS X (.Expr (.Call (.Attribute (.Name x np) "extend" ap) [e] [] cp) pos) (fun δ=>(f δ).bind fun y=>(ow i δ).bind fun xs=>match y with|.list zs=>(if xs.length+zs.length<=Ci then some (.nx (δ.set i (.own (.lst (xs++zs))))) else none)|_=>none):=by
 obtain⟨t,p,k⟩:=he;refine⟨_,hP hv (AF p AV U),fun δ r h G0 H0 G H σ D R q=>?_⟩;obtain⟨y,h1,h2⟩:=aC.mp h;obtain⟨xs,h3,B⟩:=aC.mp h2;split at B
 .rename_i zs;split at B
  .rename_i hl;cases B;have hi:=NR h3;obtain⟨a,_,T,k2,k3,k4,⟨ys,rfl,k5⟩⟩:=R.own i _ hi;refine⟨.ref a,T,.inl ⟨rfl,ys,Ax.of k4⟩,?_⟩;refine k δ _ h1 G0 H0 G H σ [] _ R fun u G1 H1 I=>?_;obtain⟨a',_,m1,m2,m3,m4,⟨us,rfl,m5⟩⟩:=I.own i _ hi;rw[T]at m1;cases m1;have du:=I.Cr _ (.head _);rw[Du]at du;obtain⟨b,ws,rfl,n1,Z⟩:=du;refine⟨a,b,us,ws,rfl,rfl,m4,I.ins _ _ n1,HH (by rw[m5.len,Z.len];exact hl),?_⟩;exact q _ _ _ (I.drop.Z8 hi T ⟨_,rfl,m5.app Z⟩)
  .cases B
 .cases B
theorem cz{i:Nat}{x:Str}{np:Pos}(hv:PE X (.Name x np) (LL i))(hg:Gl X "len")(hm:X.mg "len" = none)(B:starEach [.Name x np] X.env=(false,eval (.Name x np) X.env)::starEach [] X.env:=by rfl)(I:(backTo pos (starEach [] X.env)).any (·.1)=false:=by rfl) :
  DE X (.Call (.Name "len" p) [.Name x np] [] pos) (fun δ=>(ow i δ).map fun xs=>.int xs.length):=by
 refine⟨_,Bp C2 hg hm aj (AF hv AV B) As As B I,fun δ z Z G0 H0 G H σ ts Q R k=>?_⟩;obtain⟨xs,h1,rfl⟩:=aF.mp Z;obtain⟨a,_,Y,k2,k3,U,⟨ys,rfl,T⟩⟩:=R.own i _ (NR h1);refine⟨.ref a,Y,a,ys,rfl,.inl (Ax.of U),?_⟩;rw[T.len];exact k _ _ _ (R.put (by rw[Du]))
theorem gq{i:Nat}{x:Str}{np:Pos}(hv:PE X (.Name x np) (LL i))(hb:DE X b g)(hs:TC b):DE X (.Subscript (.Name x np) b pos) (fun δ=>(g δ).bind fun y=>(ow i δ).bind fun xs=>(Rx y).bind fun k=>Fu xs k):=by
 obtain⟨tb,Z,kb⟩:=hb;refine⟨_,Bz M8 hv Z hs,fun δ z hz G0 H0 G H σ ts Q Y k=>?_⟩;obtain⟨y,h1,h2⟩:=aC.mp hz;obtain⟨xs,T,h4⟩:=aC.mp h2;obtain⟨j,h5,h6⟩:=aC.mp h4;have:=SU h5;subst this;obtain⟨a,_,R,k2,k3,k4,⟨ys,rfl,k5⟩⟩:=Y.own i _ (NR T);refine⟨.ref a,R,?_⟩;refine kb δ _ h1 G0 H0 G H σ ts _ Y fun v G1 H1 B=>?_;have U:=B.Cr _ (.head _);rw[Du]at U;obtain⟨a',_,I,m2,m3,m4,⟨us,rfl,m5⟩⟩:=B.own i _ (NR T);rw[R]at I;cases I;obtain⟨w,h7,h8⟩:=m5.Fu h6;exact⟨a,us,j,w,rfl,U,Ax.of m4,h7,k _ _ _ (B.drop.put h8)⟩
end
structure MH(J:It)(xs:Ch)(G:Hp):Prop where
 stop:∀H,AN G H->J.stop xs.length H
 go:∀(i:Nat) (d:IR) H,xs[i]? = some d->AN G H->J.go i H
 Fw:∀(i:Nat) (d:IR) H x H',xs[i]? = some d->AN G H->J.Fw i H x H'->∀Gc,AN G Gc->AN Gc H->∃Gc',AN Gc Gc'/\Nw Gc H Gc'/\AN Gc' H'/\AN H H'/\Du Gc' d x
theorem Nw.refl{G H:Hp}:Nw G H G:=fun _ _ h=>.inl h
theorem jj{K:At}{G:Hp}{a:Addr}{ys:Fa}{xs:Ch}(ha:G a=some IS)(d:A4 G xs ys):MH (Xx K a) xs G where
 stop:=fun H e=>⟨ys,Ax.of (e _ _ ha),by rw[d.len];exact aH _⟩
 go:=fun i x H hx e=>by
  obtain⟨v,h1,_⟩:=d.get hx;exact⟨ys,v,Ax.of (e _ _ ha),h1⟩
 Fw:=fun i x H v H' hx e y Gc e1 e2=>by
  obtain⟨rfl,y⟩:=y;have h1:=y ys (Ax.of (e _ _ ha));obtain⟨x',h2,h3⟩:=d.back h1;rw[hx]at h2;cases h2;exact⟨Gc,AN.refl _,Nw.refl,e2,AN.refl _,h3.same e1⟩
theorem pF{K:At}{G:Hp}{a:Addr}{ys:Fa}{xs:Ch}(ha:G a=some (.tup ys))(d:A4 G xs ys):MH (YK K a) xs G where
 stop:=fun H e=>⟨ys,BE.of (e _ _ ha),by rw[d.len];exact aH _⟩
 go:=fun i x H hx e=>by
  obtain⟨v,h1,_⟩:=d.get hx;exact⟨ys,v,BE.of (e _ _ ha),h1⟩
 Fw:=fun i x H v H' hx e y Gc e1 e2=>by
  obtain⟨rfl,y⟩:=y;have h1:=y ys (BE.of (e _ _ ha));obtain⟨x',h2,h3⟩:=d.back h1;rw[hx]at h2;cases h2;exact⟨Gc,AN.refl _,Nw.refl,e2,AN.refl _,h3.same e1⟩
def Ib(lo:Int)(n:Nat):List PyData:=(List.range n).map fun k=>.int (lo+(k:Nat))
theorem eS{G:Hp}{lo:Int}{n:Nat}:MH (T8 lo n) (Ib lo n) G where
 stop:=fun H e=>by show n<=_;simp[Ib]
 go:=fun i x H hx e=>by
  have:=(aD.mp hx).1;show i<n
  simpa[Ib]using this
 Fw:=fun i x H v H' hx e y Gc e1 e2=>by
  obtain⟨rfl,rfl⟩:=y;unfold Ib at hx;rw[(B7)]at hx;obtain⟨k,h1,rfl⟩:=aF.mp hx;have hk:k=i:=by
   have:=(aD.mp h1).1;rw[List.getElem?_range (by simpa using this)]at h1;cases h1;rfl
  subst hk;exact⟨Gc,AN.refl _,Nw.refl,e2,AN.refl _,by rw[Du]⟩
theorem QT{Gc H:Hp}{p:Addr}{d1 d2:IR}{B g:V}(R:AN Gc H)(I:H p=none)(Y:Du Gc d1 B)(U:Du Gc d2 g) :
  ∃Gc',AN Gc Gc'/\Nw Gc H Gc'/\AN Gc' (upd H p (.tup [B,g]))/\AN H (upd H p (.tup [B,g]))/\Du Gc' (.tuple [d1,d2]) (.ref p):=by
 have T:Gc p=none:=by
  cases q:Gc p with
  |none=>rfl
  |some u=>rw[R _ _ q]at I;cases I
 have e:AN Gc (upd Gc p (.tup [B,g])):=Ab T _;refine⟨upd Gc p (.tup [B,g]),e,fun a o h=>?_,fun a o h=>?_,Ab I _,?_⟩
 .by_cases ha:a=p
  .subst ha;exact .inr (.inl I)
  .rw[AR ha]at h;exact .inl h
 .by_cases ha:a=p
  .subst ha;rw[AM]at h ⊢;exact h
  .rw[AR ha]at h ⊢;exact R _ _ h
 .rw[Du];exact⟨p,[B,g],rfl,AM,.cons (Y.same e) (.cons (U.same e) .nil)⟩
def La(xs:Ch):List PyData:=xs.zipIdx.map fun q=>.tuple [.int (q.2:Nat),q.1]
theorem L4{xs:Ch}{i:Nat}{d:IR}(h:(La xs)[i]? = some d):∃x,xs[i]? = some x/\d=.tuple [.int (i:Nat),x]:=by
 unfold La at h;rw[(B7)]at h;obtain⟨q,g,rfl⟩:=aF.mp h;rw[List.getElem?_zipIdx]at g;obtain⟨x,B,rfl⟩:=aF.mp g;exact⟨x,B,by simp⟩
theorem hU{K:At}{G:Hp}{a:Addr}{ys:Fa}{xs:Ch}(ha:G a=some (.tup ys))(d:A4 G xs ys):MH (oM K a) (La xs) G where
 stop:=fun H e=>⟨ys,BE.of (e _ _ ha),by rw[d.len];simp[La]⟩
 go:=fun i x H hx e=>by
  obtain⟨x',h0,rfl⟩:=L4 hx;obtain⟨v,h1,_⟩:=d.get h0;exact⟨ys,v,BE.of (e _ _ ha),h1⟩
 Fw:=fun i x H v H' hx e y Gc e1 e2=>by
  obtain⟨x',h0,rfl⟩:=L4 hx;obtain⟨p,u,rfl,hp,rfl,y⟩:=y;have h1:=y ys (BE.of (e _ _ ha));obtain⟨x2,h2,h3⟩:=d.back h1;rw[h0]at h2;cases h2;exact QT e2 hp (by rw[Du]) (h3.same e1)
theorem fw{K:At}{G:Hp}{a:Addr}{ys:Fa}{xs:Ch}(ha:G a=some IS)(d:A4 G xs ys):MH (Yl K a) (La xs) G where
 stop:=fun H e=>⟨ys,Ax.of (e _ _ ha),by rw[d.len];simp[La]⟩
 go:=fun i x H hx e=>by
  obtain⟨x',h0,rfl⟩:=L4 hx;obtain⟨v,h1,_⟩:=d.get h0;exact⟨ys,v,Ax.of (e _ _ ha),h1⟩
 Fw:=fun i x H v H' hx e y Gc e1 e2=>by
  obtain⟨x',h0,rfl⟩:=L4 hx;obtain⟨p,u,rfl,hp,rfl,y⟩:=y;have h1:=y ys (Ax.of (e _ _ ha));obtain⟨x2,h2,h3⟩:=d.back h1;rw[h0]at h2;cases h2;exact QT e2 hp (by rw[Du]) (h3.same e1)
def IW(xs ys:Ch):List PyData:=(xs.zip ys).map fun q=>.tuple [q.1,q.2]
theorem QW{xs ys:Ch}{i:Nat}{d:IR}(h:(IW xs ys)[i]? = some d):∃x y,xs[i]? = some x/\ys[i]? = some y/\d=.tuple [x,y]:=by
 unfold IW at h;rw[(B7)]at h;obtain⟨q,I,rfl⟩:=aF.mp h;obtain⟨B,g⟩:=List.getElem?_zip_eq_some.mp I;exact⟨q.1,q.2,B,g,rfl⟩
theorem lG{G:Hp}{b1 b2:Bool}{a1 a2:Addr}{us vs:Fa}{xs ys:Ch}(h1:G a1=some (if b1 then .tup us else .lst us))(h2:G a2=some (if b2 then .tup vs else .lst vs))(d1:A4 G xs us)(d2:A4 G ys vs):MH (ox b1 b2 a1 a2) (IW xs ys) G where
 stop:=fun H e=>by
  have k1:=e _ _ h1;have k2:=e _ _ h2;refine⟨us,vs,?_,?_,?_⟩
  .cases b1<;>simpa[Cp]using k1
  .cases b2<;>simpa[Cp]using k2
  .rw[d1.len,d2.len];simp[IW];lia
 go:=fun i x H hx e=>by
  obtain⟨x1,x2,k1,k2,rfl⟩:=QW hx;obtain⟨v1,k3,_⟩:=d1.get k1;obtain⟨v2,k4,_⟩:=d2.get k2;have m1:=e _ _ h1;have m2:=e _ _ h2;refine⟨us,v1,vs,v2,?_,?_,k3,k4⟩
  .cases b1<;>simpa[Cp]using m1
  .cases b2<;>simpa[Cp]using m2
 Fw:=fun i x H v H' hx e y Gc e1 e2=>by
  obtain⟨x1,x2,k1,k2,rfl⟩:=QW hx;obtain⟨p,v1,v2,rfl,hp,rfl,y1,y2⟩:=y;have m1:=e _ _ h1;have m2:=e _ _ h2;have z1:=y1 us (by cases b1<;>simpa[Cp]using m1);have z2:=y2 vs (by cases b2<;>simpa[Cp]using m2);obtain⟨w1,n1,n2⟩:=d1.back z1;obtain⟨w2,n3,n4⟩:=d2.back z2;rw[k1]at n1;cases n1;rw[k2]at n3;cases n3;exact QT e2 hp (n2.same e1) (n4.same e1)
def DI(X:Cx)(tg iter:Expr)(f:Fp):Prop:=∃g,PI X tg iter g/\∀δ xs,f δ=some xs->∀G0 H0 G H σ ts (R:It->Hp->Prop),Rw G0 H0 G H σ δ ts->(∀J B H',Rw G0 H0 B H' σ δ ts->MH J xs B->R J H')->g σ H R
section
variable{X:Cx}{tg a b e:Expr}{f g h:FB}{fs:Fp}{pos p:Pos}{sts:List Stmt}{F:DF}
theorem PI.or{T B:TI}(h:PI X tg e T)(h':PI X tg e B):PI X tg e (fun σ H R=>T σ H R\/B σ H R):=fun pins s σ H R I q=>by
 rcases q with q|q
 .exact h pins s σ H R I q
 .exact h' pins s σ H R I q
def GZ:PyData->Option (List PyData)
 |.list xs=>some xs
 |.tuple xs=>some xs
 |_=>none
theorem DC(he:DE X e f):DI X tg e (fun δ=>(f δ).bind GZ):=by
 obtain⟨t,p,k⟩:=he;refine⟨_,(Es p).or (VF p),fun δ xs h G0 H0 G H σ ts R R0 q=>?_⟩;obtain⟨x,Z,T⟩:=aC.mp h;unfold GZ at T;split at T
 .cases T
  left
  refine k δ _ Z G0 H0 G H σ ts _ R0 fun v G' H' B=>?_;have U:=B.Cr _ (.head _);rw[Du]at U;obtain⟨a,ys,rfl,I,Y⟩:=U;exact⟨a,rfl,⟨ys,Ax.of (B.ins _ _ I)⟩,q _ _ _ B.drop (jj I Y)⟩
 .cases T
  right
  refine k δ _ Z G0 H0 G H σ ts _ R0 fun v G' H' B=>?_;have U:=B.Cr _ (.head _);rw[Du]at U;obtain⟨a,ys,rfl,I,Y⟩:=U;exact⟨a,rfl,⟨ys,BE.of (B.ins _ _ I)⟩,q _ _ _ B.drop (pF I Y)⟩
 .cases T
def NT:List PyData->Option (List PyData)
 |[.int j]=>if -1000000<=j/\j<=1000000 then some (Ib 0 j.toNat) else none
 |_=>none
def b9:List PyData->Option (List PyData)
 |[.int i,.int j]=>if -1000000<=i/\i<=1000000/\-1000000<=j/\j<=1000000 then some (Ib i (j-i).toNat) else none
 |_=>none
theorem UB(Y:Gl X "range")(hm:X.mg "range" = none)(ha:DA X [a] fs)(U:starEach [a] X.env=[(false,eval a X.env)]:=by rfl):DI X tg (.Call (.Name "range" p) [a] [] pos) (fun δ=>(fs δ).bind NT):=by
 obtain⟨t,p,k⟩:=ha;refine⟨_,PH Y hm p U,fun δ xs h G0 H0 G H σ ts R R0 q=>?_⟩;obtain⟨x,Z,B⟩:=aC.mp h;refine k δ _ Z G0 H0 G H σ ts _ R0 fun vs G' H' R' T=>?_;obtain⟨d,R2⟩:=R'.args T;unfold NT at B;split at B
 .split at B
  .cases B;obtain⟨u,rfl,I⟩:=d.Iw;rw[Du]at I;subst I;exact⟨_,rfl,by lia,by lia,q _ _ _ R2 eS⟩
  .cases B
 .cases B
theorem UU(hg:Gl X "range")(hm:X.mg "range" = none)(ha:DA X [a,b] fs)(Z:starEach [a,b] X.env=[(false,eval a X.env),(false,eval b X.env)]:=by rfl)(I:starEach [b] X.env=[(false,eval b X.env)]:=by rfl):DI X tg (.Call (.Name "range" p) [a,b] [] pos) (fun δ=>(fs δ).bind b9):=by
 obtain⟨t,p,k⟩:=ha;refine⟨_,eZ hg hm p Z I,fun δ xs h G0 H0 G H σ ts R R0 q=>?_⟩;obtain⟨x,h1,B⟩:=aC.mp h;refine k δ _ h1 G0 H0 G H σ ts _ R0 fun vs G' H' R' Y=>?_;obtain⟨d,R2⟩:=R'.args Y;unfold b9 at B;split at B
 .split at B
  .cases B;obtain⟨u,v,rfl,U,T⟩:=d.RO;rw[Du]at U T;subst U T;exact⟨_,_,rfl,⟨by lia,by lia,by lia,by lia⟩,q _ _ _ R2 eS⟩
  .cases B
 .cases B
def ZE:List PyData->Option (List PyData)
 |[.list xs]=>some (La xs)
 |[.tuple xs]=>some (La xs)
 |_=>none
theorem jZ{elts:List Expr}{x1}{B:Pos}(hg:Gl X "enumerate")(hm:X.mg "enumerate" = none)(ha:DA X [a] fs)(hs:starEach [a] X.env=[(false,eval a X.env)]:=by rfl):DI X (.Tuple elts x1 B) (.Call (.Name "enumerate" p) [a] [] pos) (fun δ=>(fs δ).bind ZE):=by
 obtain⟨t,p,k⟩:=ha;refine⟨_,(Vm hg hm p hs).or (jM hg hm p hs),fun δ xs h G0 H0 G H σ ts R R0 q=>?_⟩;obtain⟨x,h1,T⟩:=aC.mp h;unfold ZE at T;split at T
 .cases T
  left
  refine k δ _ h1 G0 H0 G H σ ts _ R0 fun vs G' H' R' Z=>?_;obtain⟨d,R2⟩:=R'.args Z;obtain⟨u,rfl,U⟩:=d.Iw;rw[Du]at U;obtain⟨a,ys,rfl,I,Y⟩:=U;exact⟨a,rfl,⟨ys,Ax.of (R2.ins _ _ I)⟩,q _ _ _ R2 (fw I Y)⟩
 .cases T
  right
  refine k δ _ h1 G0 H0 G H σ ts _ R0 fun vs G' H' R' Z=>?_;obtain⟨d,R2⟩:=R'.args Z;obtain⟨u,rfl,U⟩:=d.Iw;rw[Du]at U;obtain⟨a,ys,rfl,I,Y⟩:=U;exact⟨a,rfl,⟨ys,BE.of (R2.ins _ _ I)⟩,q _ _ _ R2 (hU I Y)⟩
 .cases T
def zip2:List PyData->Option (List PyData)
 |[x,y]=>(GZ x).bind fun xs=>(GZ y).map fun ys=>IW xs ys
 |_=>none
theorem LO{G:Hp}{x:IR}{v:V}{xs:Ch}(h:Du G x v)(e:GZ x=some xs):∃(b:Bool) (a:Addr) (ys:Fa),v=.ref a/\G a=some (if b then .tup ys else .lst ys)/\A4 G xs ys:=by
 unfold GZ at e;split at e
 .cases e;rw[Du]at h;obtain⟨a,ys,rfl,I,B⟩:=h;exact⟨false,a,ys,rfl,I,B⟩
 .cases e;rw[Du]at h;obtain⟨a,ys,rfl,I,B⟩:=h;exact⟨true,a,ys,rfl,I,B⟩
 .cases e
theorem SG{elts:List Expr}{x1}{B:Pos}(hg:Gl X "zip")(hm:X.mg "zip" = none)(ha:DA X [a,b] fs)(hs:starEach [a,b] X.env=[(false,eval a X.env),(false,eval b X.env)]:=by rfl)(T:starEach [b] X.env=[(false,eval b X.env)]:=by rfl) :
  DI X (.Tuple elts x1 B) (.Call (.Name "zip" p) [a,b] [] pos) (fun δ=>(fs δ).bind zip2):=by
 obtain⟨t,p,k⟩:=ha;refine⟨_,WE hg hm p hs T,fun δ xs h G0 H0 G H σ ts R R0 q=>?_⟩;obtain⟨x,h1,I⟩:=aC.mp h;refine k δ _ h1 G0 H0 G H σ ts _ R0 fun vs G' H' R' hv=>?_;obtain⟨d,R2⟩:=R'.args hv;unfold zip2 at I;split at I
 .obtain⟨xs1,h3,h4⟩:=aC.mp I;obtain⟨Z,h5,rfl⟩:=aF.mp h4;obtain⟨u,v,rfl,du,dv⟩:=d.RO;obtain⟨b1,a1,us,rfl,U,n2⟩:=LO du h3;obtain⟨b2,a2,ws,rfl,Y,m2⟩:=LO dv h5;have s1:=R2.ins _ _ U;have s2:=R2.ins _ _ Y;exact⟨b1,b2,a1,a2,rfl,⟨us,by cases b1<;>simpa[Cp]using s1⟩,⟨ws,by cases b2<;>simpa[Cp]using s2⟩,q _ _ _ R2 (lG U Y n2 m2)⟩
 .cases I
def DG(X:Cx)(tg:Expr)(set:KM):Prop:=∃g,PG X tg g/\∀δ x I,set x δ=some I->∀G0 H0 G H σ v (Q:St->Hp->Prop),Rw G0 H0 G H σ δ [(x,v)]->(∀B R H',Rw G0 H0 R H' B I []->Q B H')->g v σ H Q
theorem Fq{i:Nat}{x:Str}(h:PG X (.Name x pos) (FU i)):DG X (.Name x pos) (fun y δ=>some (δ.set i (.d y))) :=
 ⟨_,h,fun δ y B e G0 H0 G H σ v Q R k=>by cases e;exact k _ _ _ R.KJ⟩
def Gj(i j:Nat)(y:IR)(δ:Dv):Option Dv:=match y with
 |.tuple [u,v]=>some ((δ.set i (.d u)).set j (.d v))
 |_=>none
theorem LD{x y:Str}{i j:Nat}{U T:Pos}{Y}(h:PG X (.Tuple [.Name x U,.Name y T] Y pos) (cC X.K 2 (L3 (FU i) (L3 (FU j) Zz)))):DG X (.Tuple [.Name x U,.Name y T] Y pos) (Gj i j):=by
 refine⟨_,h,fun δ z δ' e G0 H0 G H σ v Q R k=>?_⟩;unfold Gj at e;split at e
 .cases e;have Z:=R.Cr _ (.head _);rw[Du]at Z;obtain⟨a,ys,rfl,n1,n2⟩:=Z;obtain⟨I,B,rfl,m1,m2⟩:=n2.RO;refine⟨a,[I,B],rfl,BE.of (R.ins _ _ n1),rfl,I,[B],rfl,B,[],rfl,rfl,?_⟩;exact k _ _ _ (((R.drop.put m2).put m1).KJ.KJ)
 .cases e
def De(set:KM)(I:DF):List PyData->Dv->Option Ou
 |[],δ=>some (.nx δ)
 |x::xs,δ=>match (set x δ).bind I with
  |some (.nx B)=>De set I xs B
  |some (.ct B)=>De set I xs B
  |some (.bk B)=>some (.nx B)
  |some (.rt v)=>some (.rt v)
  |some (.rn v)=>some (.rn v)
  |none=>none
theorem D0{set:KM}(hp:PassesOwn Cs X.A X.env X.xe)(hc:X.calm=true)(hi:DI X tg e fs)(hg:DG X tg set)(hb:T3 X sts F)(hs:∀x,foldedSetIterable e X.env x=pure x:=by intro _;rfl) :
  DS X (.For tg e sts [] pos) (fun δ=>(fs δ).bind fun xs=>De set F xs δ):=by
 obtain⟨wi,pi,ki⟩:=hi;obtain⟨g,pg,kg⟩:=hg;obtain⟨tb,pb,kb⟩:=hb;refine⟨_,Gx hp hc pi pg pb hs,fun δ r h G0 H0 G H σ D R q=>?_⟩;obtain⟨xs,h1,h2⟩:=aC.mp h;refine ki δ xs h1 G0 H0 G H σ [] _ R fun J Ga Ha Ra it=>?_;refine⟨fun i m I H'=>m=xs.length-i/\i<=xs.length/\∃B G',De set F (xs.drop i) B=some r/\Rw G0 H0 G' H' I B []/\AN Ga G',⟨xs.length,by simp,Nat.zero_le _,δ,Ga,by simpa using h2,Ra,AN.refl _⟩,?_⟩;rintro i m σ1 H1 ⟨rfl,hi,δ1,G1,f1,R1,s1⟩;have sH:AN Ga H1:=s1.trans R1.ins;by_cases U:i<xs.length
 .right
  have hx:xs[i]? = some xs[i]:=by simp[U]
  refine⟨it.go i _ H1 hx sH,fun I H'=>i+1<=xs.length/\∃B G',De set F (xs.drop (i+1)) B=some r/\Rw G0 H0 G' H' I B []/\AN Ga G',fun I H' n=>⟨xs.length-(i+1),by lia,rfl,n⟩,fun x H' y=>?_⟩;obtain⟨G2,e1,e2,e3,e4,e5⟩:=it.Fw i _ H1 x H' hx sH y G1 s1 R1.ins;have R2:=(R1.lift e1 e2 e3 e4).put e5;have s2:=s1.trans e1;rw[List.drop_eq_getElem_cons U]at f1;unfold De at f1;cases hb2:(set xs[i] δ1).bind F with
  |none=>rw[hb2]at f1;cases f1
  |some o=>
   obtain⟨δ2,k1,k2⟩:=aC.mp hb2;rw[hb2]at f1;have R2b:=R2.base;refine kg δ1 _ δ2 k1 G2 H0 G2 H' σ1 x _ R2b fun σ3 G3 H3 R3=>?_;refine kb δ2 o k2 G2 H0 G3 H3 σ3 _ R3 ?_;cases o with
   |nx T=>exact fun Z Y H4 R4=>⟨U,T,Y,f1,R2.drop.Vr R4,s2.trans R4.ext⟩
   |ct T=>exact fun Z Y H4 R4=>⟨U,T,Y,f1,R2.drop.Vr R4,s2.trans R4.ext⟩
   |bk T=>cases f1;exact fun Z Y H4 R4=>q Z Y H4 (R2.drop.Vr R4)
   |rt v=>cases f1;exact fun w Y H4 h1 h2 h3 h4 h5=>q w Y H4 (R2.ext.trans h1) (R2.new.trans h2) h3 h4 h5
   |rn v=>cases f1;exact fun w ys Y H4 h1 h2=>q w ys Y H4 (R2.ext.trans h1) (R2.new.trans h2)
 .left
  have e:i=xs.length:=by lia
  subst e;refine⟨it.stop H1 sH,?_⟩;rw[List.drop_length]at f1;unfold De at f1;cases f1;exact q _ _ _ R1
end
def tD(f:FB):TE:=fun σ H Q=>∃δ x G0 H0 G ts,f δ=some x/\Rw G0 H0 G H σ δ ts/\∀v g H',Rw G0 H0 g H' σ δ ((x,v)::ts)->Q v H'
def ie(f:Dv->Option Bool):TT:=fun σ H Q=>∃δ x G0 H0 G ts,f δ=some x/\Rw G0 H0 G H σ δ ts/\∀g H',Rw G0 H0 g H' σ δ ts->Q x H'
theorem DE.pe{X:Cx}{e:Expr}{f:FB}(h:DE X e f):PE X e (tD f):=by
 obtain⟨t,p,k⟩:=h;intro pins s σ H Q I q;obtain⟨δ,x,G0,H0,G,ts,R,B,g⟩:=q;exact p pins s σ H Q I (k δ x R G0 H0 G H σ ts Q B g)
theorem DT.pt{X:Cx}{e:Expr}{f:Dv->Option Bool}(h:DT X e f):PT X e (ie f):=by
 obtain⟨t,p,k⟩:=h;intro pins s σ H Q I q;obtain⟨δ,x,G0,H0,G,ts,R,B,g⟩:=q;exact p pins s σ H Q I (k δ x R G0 H0 G H σ ts Q B g)
def Yn(X:Cx)(g:List Expr)(f:Dv->Option Bool):Prop:=OL X g (ie f)
theorem En{X:Cx}:Yn X [] (fun _=>some true):=by
 intro pins s σ H Q I q;obtain⟨δ,x,G0,H0,G,ts,R,B,g⟩:=q;cases R;exact HI pins s σ H Q I (g _ _ B)
theorem jU{X:Cx}{c:Expr}{f:Dv->Option Bool}(h:DT X c f):Yn X [c] f:=j9 h.pt
def EC(fr:Iv)(δ:Dv):Dv:=fr.map fun o=>match o with
 |some j=>(match δ[j]? with|some (.d x)=>.d x|_=>.no)
 |none=>.no
theorem Rw.inner{G0 H0 G H:Hp}{σ:St}{δ:Dv}{ts:List (PyData×V)}(fr:Iv)(r:IF):Rw G H G H (carry fr σ) (EC fr δ) ts:=by
 have key:∀(i:Nat) (l:L),(EC fr δ)[i]? = some l->∃o,fr[i]? = some o/\l=(match o with|some j=>(match δ[j]? with|some (.d x)=>.d x|_=>.no)|none=>.no):=fun i l h=>by
  unfold EC at h;rw[(B7)]at h;obtain⟨o,I,rfl⟩:=aF.mp h;exact⟨o,I,rfl⟩
 have g:∀(i:Nat) (xs:Oc),(EC fr δ)[i]?≠some (L.own xs):=fun i xs h=>by
  obtain⟨o,_,B⟩:=key i _ h;split at B
  .split at B<;>cases B
  .cases B
 refine⟨AN.refl _,Nw.refl,r.ins,AN.refl _,by simp[carry,EC],fun i x h=>?_,fun i xs h=>absurd h (g i xs),fun i j xs ys _ h=>absurd h (g i xs),r.Cr⟩;obtain⟨o,I,B⟩:=key i _ h;split at B
 .rename_i j;split at B
  .rename_i y U;cases B;obtain⟨v,T,R⟩:=r.dat j _ U;refine⟨v,?_,R⟩;unfold carry;rw[(B7),I];simp[T]
  .cases B
 .cases B
theorem Rw.other{G0 H0 G H:Hp}{σ:St}{δ:Dv}{ts:List (PyData×V)}{D:Addr}{o:HO}(r:IF)(Y:G D=none)(h0:H0 D=none)(U:∀(i:Nat) (xs:Oc),δ[i]? = some (L.own xs)->σ[i]?≠some (some (V.ref D))):Rw G0 H0 G (upd H D o) σ δ ts:=by
 refine⟨r.ext,r.new,fun a u h=>?_,fun a u h=>?_,r.len,r.dat,fun i xs h=>?_,r.apart,r.Cr⟩
 .rw[AR (fun z=>by subst z;rw[Y]at h;cases h)];exact r.ins _ _ h
 .rw[AR (fun z=>by subst z;rw[h0]at h;cases h)];exact r.keep _ _ h
 .obtain⟨a,ys,g,T,R,I,B⟩:=r.own i xs h;exact⟨a,ys,g,T,R,by rw[AR (fun z=>by subst z;exact U i xs h g)];exact I,B⟩
theorem Rw.adopt{G0 H0 G H:Hp}{σ:St}{δ:Dv}{ts:List (PyData×V)}{D:Addr}{ys:Fa}(r:IF)(hD:H D=some IS)(hG:G D=none)(h0:H0 D=none)(Z:∀(i:Nat) (xs:Oc),δ[i]? = some (L.own xs)->σ[i]?≠some (some (V.ref D))):Rw G0 H0 (upd G D IS) H σ δ ts:=by
 have e:AN G (upd G D IS):=Ab hG _;refine⟨r.ext.trans e,fun a u h=>?_,fun a u h=>?_,r.keep,r.len,fun i x h=>?_,fun i xs h=>?_,r.apart,fun q Y=>(r.Cr q Y).same e⟩
 .by_cases ha:a=D
  .subst ha;exact .inr (.inl h0)
  .rw[AR ha]at h;exact r.new _ _ h
 .by_cases ha:a=D
  .subst ha;rw[AM]at h;rw[hD];exact h
  .rw[AR ha]at h;exact r.ins _ _ h
 .obtain⟨v,g,B⟩:=r.dat i x h;exact⟨v,g,B.same e⟩
 .obtain⟨a,I,g,B,U,T,R⟩:=r.own i xs h;have ha:a≠D:=fun z=>by subst z;exact Z i xs h g
  exact⟨a,I,g,by rw[AR ha];exact B,U,T,R.same e⟩
def NS(set:KM)(B:Dv->Option Bool)(f:FB)(δ:Dv)(x:IR):Option (Option PyData) :=
 (set x δ).bind fun g=>(B g).bind fun b=>if b=true then(f g).map some else some none
def collect(one:PyData->Option (Option PyData)):List PyData->Option (List PyData)
 |[]=>some []
 |x::xs=>(one x).bind fun o=>(collect one xs).map fun r=>o.toList++r
def FT(set:KM)(g:Dv->Option Bool)(f:FB)(fr:Iv)(fs:Fp)(δ:Dv):Option (List PyData) :=
 (fs δ).bind fun xs=>(collect (NS set g f (EC fr δ)) xs).bind I0
def Dq(set:KM)(g:Dv->Option Bool)(f:FB)(fr:Iv)(fs:Fp)(δ:Dv):Option PyData :=
 (FT set g f fr fs δ).map .list
structure jm(G0 H0 Ga:Hp)(σ:St)(δ:Dv)(ts:List (PyData×V))(one:PyData->Option (Option PyData))(xs full:Ch)(D:Addr)(i:Nat)(ys:Fa)(H:Hp):Prop where
 ex:∃G done rest,Rw G0 H0 G H σ δ ts/\AN Ga G/\G D=none/\collect one (xs.drop i)=some rest/\done++rest=full/\A4 G done ys
 h0:H0 D=none
 ap:∀(j:Nat) (us:Oc),δ[j]? = some (L.own us)->σ[j]?≠some (some (V.ref D))
theorem gw{G0 H0 G H:Hp}{D:Addr}{ys:Fa}(B:G0 D=none)(g:H0 D=some IS)(n:Nw G0 H0 G)(e:AN G H)(k:AN H0 H):G D=none:=by
 cases q:G D with
 |none=>rfl
 |some o=>
  rcases n _ _ q with z|z|⟨us,z⟩
  .rw[B]at z;cases z
  .rw[g]at z;cases z
  .have:=e _ _ q;rw[k _ _ g,z]at this;cases this
section
variable{X:Cx}{elt iter:Expr}{x y:Str}{px pos:Pos}{ifs:List Expr}{scope:Scope}{fs:Fp}{tif:Dv->Option Bool}{f:FB}
def Cg(i:Nat)(y:IR)(δ:Dv):Option Dv:=some (δ.set i (.d y))
theorem NJ{wi:TI}{ix:Nat}{fr:Iv}(ki:∀(δ:Dv) (xs:Ch),fs δ=some xs->∀(G0 H0 G H:Hp) (σ:St) (ts:List (PyData×V)) (R:It->Hp->Prop),Rw G0 H0 G H σ δ ts->(∀J G' H',Rw G0 H0 G' H' σ δ ts->MH J xs G'->R J H')->wi σ H R){δ:Dv}{zs:Ch}(hz:FT (Cg ix) tif f fr fs δ=some zs){G0 H0 G H:Hp}{σ:St}{ts:List (PyData×V)}{Q:VK}(R0:IF)(k:∀D ys G' H',Rw G0 H0 G' H' σ δ ts->H' D=some IS->G' D=none->H0 D=none->(∀(j:Nat) (us:Oc),δ[j]? = some (L.own us)->σ[j]?≠some (some (V.ref D)))->A4 G' zs ys->Q (.ref D) H') :
  Pk wi fr ix (ie tif) (tD f) σ H Q:=by
 unfold FT at hz;obtain⟨xs,m2,m3⟩:=aC.mp hz;obtain⟨full,m4,m5⟩:=aC.mp m3;obtain⟨rfl,hfew⟩:=SS m5;refine ki δ xs m2 G0 H0 G H σ ts _ R0 fun J Ga Ha Ra it D hD=>?_;have hGD:Ga D=none:=by
  cases q:Ga D with
  |none=>rfl
  |some u=>rw[Ra.ins _ _ q]at hD;cases hD
 have B:H0 D=none:=by
  cases q:H0 D with
  |none=>rfl
  |some u=>rw[Ra.keep _ _ q]at hD;cases hD
 have g:∀(j:Nat) (us:Oc),δ[j]? = some (L.own us)->σ[j]?≠some (some (V.ref D)):=fun j us h z=>by
  obtain⟨a,ys,k1,k2,k3,k4,k5⟩:=Ra.own j us h;rw[z]at k1;cases k1;rw[k4]at hD;cases hD
 refine JK (n:=xs.length) (jm G0 H0 Ga σ δ ts (NS (Cg ix) tif f (EC fr δ)) xs full D) ⟨⟨Ga,[],full,Ra.other hGD B g,AN.refl _,hGD,by simpa using m4,rfl,.nil⟩,B,g⟩ ?_ ?_
 .rintro i ys H1 Y ⟨⟨G1,done,rest,R1,s1,g1,c1,e1,d1⟩,_,_⟩ hD1;have hx:xs[i]? = some xs[i]:=by simp[Y]
  have sH:=s1.trans R1.ins;have hyl:ys.length<sizeLine:=Yd (by
   rw[d1.len];have:done.length<=full.length:=by rw[<-e1];simp
   lia)
  refine⟨it.go i _ H1 hx sH,hyl,fun v H' y=>?_⟩;obtain⟨G2,n1,n2,n3,n4,n5⟩:=it.Fw i _ H1 v H' hx sH y G1 s1 R1.ins;have R2:=R1.lift n1 n2 n3 n4;have Z:=n4 _ _ hD1;have g2:G2 D=none:=gw g1 hD1 n2 n3 n4;rw[List.drop_eq_getElem_cons Y]at c1;unfold collect at c1;obtain⟨o,c2,c3⟩:=aC.mp c1;obtain⟨I,c4,rfl⟩:=aF.mp c3;unfold NS Cg at c2;simp only[Option.bind_some]at c2;obtain⟨b,c5,c6⟩:=aC.mp c2;have Ri:=((R2.inner fr).put n5).KJ (i:=ix);have Ri0:Rw G2 H' G2 H' ((carry fr σ).set ix (some v)) ((EC fr δ).set ix (.d xs[i])) []:=Ri.less fun q hq=>by cases hq
  refine⟨_,b,G2,H',G2,[],c5,Ri0,fun G3 H3 U=>?_⟩;have R3o:=R2.lift U.ext U.new U.ins U.keep;have hD3:=U.keep _ _ Z;have g3:G3 D=none:=gw g2 Z U.new U.ins U.keep;dsimp only;split
  .rename_i hb;rw[if_pos hb]at c6;obtain⟨w,c7,rfl⟩:=aF.mp c6;refine⟨_,w,G2,H',G3,[],c7,U,fun u G4 H4 T=>?_⟩;have R4o:=R2.lift T.ext T.new T.ins T.keep;have hD4:=T.keep _ _ Z;have g4:G4 D=none:=gw g2 Z T.new T.ins T.keep;refine⟨hD4,HP Y ⟨⟨G4,done++[w],I,R4o.other g4 B g,s1.trans (n1.trans T.ext),g4,c4,by simpa using e1,(d1.same (n1.trans T.ext)).app (.cons (T.Cr _ (.head _)) .nil)⟩,B,g⟩⟩
  .rename_i hb;rw[if_neg hb]at c6;cases c6;exact jt Y hD3 ⟨⟨G3,done,I,R3o,s1.trans (n1.trans U.ext),g3,c4,by simpa using e1,d1.same (n1.trans U.ext)⟩,B,g⟩
 .rintro ys H1 ⟨⟨G1,done,rest,R1,s1,g1,c1,e1,d1⟩,_,_⟩ hD1;refine⟨it.stop H1 (s1.trans R1.ins),?_⟩;rw[List.drop_length]at c1;cases c1;rw[List.append_nil]at e1;subst e1;exact k _ _ _ _ R1 hD1 g1 B g d1
theorem UI{U:TI}{ix:Nat}{fr:Iv}(ki:∀(δ:Dv) (xs:Ch),fs δ=some xs->∀(G0 H0 G H:Hp) (σ:St) (ts:List (PyData×V)) (R:It->Hp->Prop),Rw G0 H0 G H σ δ ts->(∀J g H',Rw G0 H0 g H' σ δ ts->MH J xs g->R J H')->U σ H R){δ:Dv}{z:IR}(hz:Dq (Cg ix) tif f fr fs δ=some z){G0 H0 G H:Hp}{σ:St}{ts:List (PyData×V)}{Q:VK}(R0:IF)(k:∀v g H',Rw G0 H0 g H' σ δ ((z,v)::ts)->Q v H') :
  Pk U fr ix (ie tif) (tD f) σ H Q:=by
 unfold Dq at hz;obtain⟨full,m1,rfl⟩:=aF.mp hz;refine NJ ki m1 R0 fun D ys Z H1 R1 T Y I B d1=>?_;have e:AN Z (upd Z D IS):=Ab Y _;have R2:=R1.adopt T Y I B;refine k _ _ _ (R2.put ?_);rw[Du];exact⟨D,ys,rfl,AM,d1.same e⟩
theorem HV(N:KP)(ix:Nat)(fr:Iv)(hi:DI X (.Name x px) iter fs)(g:∀cl C s₀ H₀ fp,Yn EQ ifs tif)(T:∀cl C s₀ H₀ fp,DE EQ elt f)
 (h1:DM scope N x ix=true:=by decide +kernel)(h2:X.calm=true:=by rfl)(Z:GQ N X.N scope X.env.scope fr 0=true:=by rfl)(Y:fr.length=N.length:=by rfl)(U:freeOk X.env.scope scope.names=true:=by rfl)
 (R:∀x,foldedSetIterable iter X.env x=pure x:=by intro _;rfl):DE X FS (Dq (Cg ix) tif f fr fs):=by
 obtain⟨wi,pi,B⟩:=hi;exact⟨_,JJ N ix fr pi g (fun cl C s₀ H₀ fp=>(T cl C s₀ H₀ fp).pe) h1 h2 Z Y U R,fun δ z I G0 H0 G H σ ts Q R0 k=>UI B I R0 k⟩
theorem Zv{i:Nat}{z:Str}{Y g:Pos}(N:KP)(ix:Nat)(fr:Iv)(hN:X.N.Nodup)(hy:X.N[i]? = some z)(I:X.env.scope.names.lookup z=some .local)(hi:DI X (.Name x px) iter fs)(T:∀cl C s₀ H₀ fp,Yn EQ ifs tif)(he:∀cl C s₀ H₀ fp,DE EQ elt f)
 (U:DM scope N x ix=true:=by decide +kernel)(h2:X.calm=true:=by rfl)(h3:GQ N X.N scope X.env.scope fr 0=true:=by rfl)(h4:fr.length=N.length:=by rfl)(h5:freeOk X.env.scope scope.names=true:=by rfl)
 (B:swapsWith FS (some (.Name z Y)) g.line X.env=pure true:=by rfl)
 (hs:∀x,foldedSetIterable iter X.env x=pure x:=by intro _;rfl):DS X (.Assign [.Name z Y] FS g) (fun δ=>(Dq (Cg ix) tif f fr fs δ).map fun y=>.nx (δ.set i (.d y))):=by
 obtain⟨wi,pi,Z⟩:=hi;refine⟨_,Jh N ix fr hN hy I pi T (fun cl C s₀ H₀ fp=>(he cl C s₀ H₀ fp).pe) U h2 h3 h4 h5 B hs,fun δ r h G0 H0 G H σ D R q=>?_⟩;obtain⟨y,U,rfl⟩:=aF.mp h;exact UI Z U R fun v G' H' R'=>q _ _ _ R'.KJ
end
section
variable{x y:Str}       
def MP(N:KP)(ds:Ch):Dv:=ds.map .d++List.replicate (N.length-ds.length) .no
def CM(ps N:KP)(F:DF)(ds:Ch):Option PyData:=if ds.length=ps.length then(match F (MP N ds) with
 |some (.rt x)=>some x
 |some (.nx _)=>some .none
 |some (.rn xs)=>some (.list xs)
 |_=>none) else none
theorem Rw.start{N:KP}{ds:Ch}{vs:Fa}{G H:Hp}(d:A4 G ds vs)(e:AN G H):Rw G H G H (start N vs) (MP N ds) []:=by
 have R:=d.len;refine⟨AN.refl _,Nw.refl,e,AN.refl _,by simp[L2.start,MP,R],fun i x h=>?_,fun i xs h=>?_,fun i j xs ys _ h=>?_,fun q I=>by cases I⟩
 .unfold MP at h;by_cases hi:i<ds.length
  .rw[List.getElem?_append_left (by simpa using hi),(B7)]at h;obtain⟨y,B,g⟩:=aF.mp h;cases g;obtain⟨v,U,T⟩:=d.get B;refine⟨v,?_,T⟩;unfold L2.start;rw[List.getElem?_append_left (by simp;lia),(B7),U];rfl
  .rw[List.getElem?_append_right (by simpa using hi),(Qu)]at h;split at h<;>cases h
 .unfold MP at h;by_cases hi:i<ds.length
  .rw[List.getElem?_append_left (by simpa using hi),(B7)]at h;obtain⟨y,B,g⟩:=aF.mp h;cases g
  .rw[List.getElem?_append_right (by simpa using hi),(Qu)]at h;split at h<;>cases h
 .unfold MP at h;by_cases hi:i<ds.length
  .rw[List.getElem?_append_left (by simpa using hi),(B7)]at h;obtain⟨y,B,g⟩:=aF.mp h;cases g
  .rw[List.getElem?_append_right (by simpa using hi),(Qu)]at h;split at h<;>cases h
theorem Nv{G H g H':Hp}{a:Addr}{ys:Fa}{xs:Ch}(m1:AN G g)(Z:Nw G H g)(Y:AN g H')(U:H a=none)(I:g a=none)(T:H' a=some IS)(R:A4 g xs ys) :
  AN G (upd g a IS)/\Nw G H (upd g a IS)/\AN (upd g a IS) H'/\Du (upd g a IS) (.list xs) Jj:=by
 refine⟨m1.trans (Ab I _),fun b o B=>?_,fun b o B=>?_,?_⟩
 .by_cases z:b=a
  .subst z;exact .inr (.inl U)
  .rw[AR z]at B;exact Z _ _ B
 .by_cases z:b=a
  .subst z;rw[AM]at B;rw[T];exact B
  .rw[AR z]at B;exact Y _ _ B
 .rw[Du];exact⟨a,ys,rfl,AM,R.same (Ab I _)⟩
theorem Ee{P:G8}{w:Id}{K:At}{mg:Eu}{base:Heap}{x:Str}{st:Stmt}{I:Addr}{fd:GE}{N ps:KP}{k:Nat}{F:DF}(T:Fn K mg x st ps I fd)(S:Aj N ps (AX st))
 (hb:∀(cdv:KS) (A:Around) (outer:List Env) (s:GJ) (H:Hp) (E:XK),Fb k (A.deeper (envOfC x (AX st) s.heap.objs.size I cdv))->T3 (QY Ad P w K mg base N x (AX st) I cdv A outer s H E).dJ (Fj st) F) :
  AL P w K mg base Ad (k+1) I fd ps (A3 (CM ps N F)):=by
 refine T.F.ok S Jl fun cdv A outer s H vs Q E hr h=>?_
 .obtain⟨ds,y,G,g,B,_⟩:=h;unfold CM at g;split at g
  .rename_i hl;rw[B.len];exact hl
  .cases g
 .obtain⟨ds,y,G,g,B,h3,h4⟩:=h;obtain⟨t,p,kk⟩:=hb cdv A outer s H E hr;refine⟨t,p,?_⟩;unfold CM at g;split at g
  .split at g
   .rename_i z e1;cases g;exact kk _ _ e1 G H G H _ _ (Rw.start B h3) fun v U H' m1 m2 m3 Z Y=>h4 v U H' m1 m2 m3 Z Y
   .rename_i δ e1;cases g;exact kk _ _ e1 G H G H _ _ (Rw.start B h3) fun σ' U H' R=>h4 .CL U H' R.ext R.new R.ins R.keep (by rw[Du])
   .rename_i xs e1;cases g;exact kk _ _ e1 G H G H _ _ (Rw.start B h3) fun a ys U H' m1 m2 m3 Z Y m6 m7 m8=>let⟨n1,n2,n3,n4⟩:=Nv m1 m2 m3 Y m6 m7 m8;h4 _ _ H' n1 n2 n3 Z n4
   .cases g
  .cases g
end
section
variable{X:Cx}{tg a e:Expr}{f g h:FB}{pos p p2:Pos}   
theorem JW{x:Str}{i:Int}{tk:Tok}(B:Gl X x)(hm:X.mg x=some (.int i tk))(hd:(x==("__debug__" : Str))=false:=by decide):DE X (.Name x pos) (fun _=>some (.int i)) :=
 ⟨_,Pf (v:=.int i) B hm ⟨tk,rfl⟩ hd,fun δ x h G0 H0 G H σ ts Q r k=>by cases h;exact k _ _ _ (r.put (by rw[Du]))⟩
theorem eg{set:KM}(he:DE X e f)(hg:DG X tg set)(hs:swapsWithSole [tg] e pos.line X.env=pure false:=by rfl)(Z:swappedStores [tg] e X.env=pure none:=by rfl)
 (h1:(assignEach [tg] X.env).map (·.2)=[assign tg X.env]:=by rfl):DS X (.Assign [tg] e pos) (fun δ=>(f δ).bind fun y=>(set y δ).map .nx):=by
 obtain⟨t,p,k⟩:=he;obtain⟨g,pg,Y⟩:=hg;refine⟨_,M4 p pg hs Z h1,fun δ r h G0 H0 G H σ D R q=>?_⟩;obtain⟨y,U,T⟩:=aC.mp h;obtain⟨B,I,rfl⟩:=aF.mp T;exact k δ y U G0 H0 G H σ [] _ R fun v G' H' R'=>Y δ y B I G0 H0 G' H' σ v _ R' q
def DO(X:Cx)(o:Option Expr)(f:Dv->Option (Option Int)):Prop:=∃t,PO X o t/\∀δ x,f δ=some x->∀G0 H0 G H σ ts (Q:Option Int->Hp->Prop),Rw G0 H0 G H σ δ ts->(∀B H',Rw G0 H0 B H' σ δ ts->Q x H')->t σ H Q
variable{fo fu:Dv->Option (Option Int)}{lo hi:Option Expr}
theorem X8:DO X none (fun _=>some none):=⟨_,TZ,fun δ x h G0 H0 G H σ ts Q r k=>by cases h;exact k _ _ r⟩
theorem YD(R:DE X e f):DO X (some e) (fun δ=>(f δ).bind fun x=>(Rx x).map some):=by
 obtain⟨t,p,k⟩:=R;refine⟨_,S7 p,fun δ z h G0 H0 G H σ ts Q r q=>?_⟩;obtain⟨x,Y,U⟩:=aC.mp h;obtain⟨i,T,rfl⟩:=aF.mp U;have:=SU T;subst this;refine k δ _ Y G0 H0 G H σ ts _ r fun v Z H' I=>?_;have B:=I.Cr _ (.head _);rw[Du]at B;exact⟨i,B,q _ _ I.drop⟩
def cutD(xs:Ch)(lo hi:Option Int):List PyData:=(xs.drop (HT.B0 xs.length 0 lo)).take (HT.B0 xs.length xs.length hi-HT.B0 xs.length 0 lo)
theorem A4.cut{H:Hp}{ds:Ch}{xs:Fa}(h:A4 H ds xs)(lo hi:Option Int):A4 H (cutD ds lo hi) (Ik xs lo hi):=by
 unfold cutD Ik;rw[h.len];exact(h.drop _).take _
def gx(x:IR)(lo hi:Option Int):Option PyData:=match x with
 |.list xs=>some (.list (cutD xs lo hi))
 |.tuple xs=>if ¬(HT.B0 xs.length 0 lo=0/\HT.B0 xs.length xs.length hi=xs.length) then some (.tuple (cutD xs lo hi)) else none
 |_=>none
theorem Vu(he:DE X e f)(hl:DO X lo fo)(hh:DO X hi fu):DE X (.Subscript e (.Slice lo hi none p2) pos) (fun δ=>(f δ).bind fun x=>(fo δ).bind fun l=>(fu δ).bind fun u=>gx x l u):=by
 obtain⟨te,pe,ke⟩:=he;obtain⟨tl,Z,kl⟩:=hl;obtain⟨th,ph,kh⟩:=hh;refine⟨_,Q5 (TJ.or pU) pe Z ph,fun δ z hz G0 H0 G H σ ts Q R0 k=>?_⟩;obtain⟨x,h1,h2⟩:=aC.mp hz;obtain⟨l,h3,h4⟩:=aC.mp h2;obtain⟨u,h5,B⟩:=aC.mp h4;refine ke δ x h1 G0 H0 G H σ ts _ R0 fun v G1 H1 R1=>?_;refine kl δ l h3 G0 H0 G1 H1 σ _ _ R1 fun G2 H2 R2=>?_;refine kh δ u h5 G0 H0 G2 H2 σ _ _ R2 fun G3 H3 I=>?_;have T:=I.Cr _ (.head _);unfold gx at B;split at B
 .cases B;rw[Du]at T;obtain⟨a,ys,rfl,U,R⟩:=T;exact .inl ⟨a,ys,rfl,Ax.of (I.ins _ _ U),fun q Y=>k _ _ _ (I.drop.Sx (R.cut l u) Y)⟩
 .split at B
  .rename_i hc;cases B;rw[Du]at T;obtain⟨a,ys,rfl,U,R⟩:=T;exact .inr ⟨a,ys,rfl,BE.of (I.ins _ _ U),by rw[R.len];exact hc,fun q Y=>k _ _ _ (I.drop.fF (R.cut l u) Y)⟩
  .cases B
 .cases B
def Wj:List PyData->Option (List Int)
 |[]=>some []
 |.int i::r=>(Wj r).map fun l=>i::l
 |_::_=>none
theorem A4.ints{H:Hp}:∀ {ds:Ch} {xs:Fa} {ns:List Int},A4 H ds xs->Wj ds=some ns->xs=ns.map V.int
 |[],xs,ns,h,e=>by cases e;rw[h.nil_eq];rfl
 |.int i::r,xs,ns,h,e=>by
  unfold Wj at e;obtain⟨l,R,rfl⟩:=aF.mp e;obtain⟨x,q,rfl,B,I⟩:=h.un;rw[Du]at B;subst B;rw[(CI),I.ints R]
 |.none::_,_,_,_,e=>by cases e
 |.bool _::_,_,_,_,e=>by cases e
 |.str _::_,_,_,_,e=>by cases e
 |.tuple _::_,_,_,_,e=>by cases e
 |.list _::_,_,_,_,e=>by cases e
 |.dict _::_,_,_,_,e=>by cases e
def Wl:List PyData->Option PyData
 |[.list xs]=>(Wj xs).map fun ns=>.int ns.sum
 |[.tuple xs]=>(Wj xs).map fun ns=>.int ns.sum
 |_=>none
theorem WH(Z:X.calm=true):Ni X (.builtin "sum") Wl:=by
 refine⟨_,(QU Z).or (cK Z),fun xs z B G0 H0 G H σ δ ts us Q R d k=>?_⟩;unfold Wl at B;split at B
 .obtain⟨ns,Y,rfl⟩:=aF.mp B;obtain⟨u,rfl,I⟩:=d.Iw;rw[Du]at I;obtain⟨q,ys,rfl,U,T⟩:=I;refine .inl ⟨q,ns,rfl,by rw[<-T.ints Y];exact Ax.of (R.ins _ _ U),k _ _ _ (R.put (by rw[Du]))⟩
 .obtain⟨ns,Y,rfl⟩:=aF.mp B;obtain⟨u,rfl,I⟩:=d.Iw;rw[Du]at I;obtain⟨q,ys,rfl,U,T⟩:=I;refine .inr ⟨q,ns,rfl,by rw[<-T.ints Y];exact BE.of (R.ins _ _ U),k _ _ _ (R.put (by rw[Du]))⟩
 .cases B
end
open PySem
abbrev fC(x:IR):Dv->Option PyData:=fun _=>some x
abbrev sk(f:FB):Dv->Option PyData:=fun δ=>(f δ).bind fun x=>(Rx x).map fun i=>.int (-i)
abbrev AG:Dv->Option (List PyData):=fun _=>some []
abbrev AA(f:FB)(fs:Fp):Dv->Option (List PyData):=fun δ=>(f δ).bind fun x=>(fs δ).map fun xs=>x::xs
abbrev B9(fs:Fp):Dv->Option PyData:=fun δ=>((fs δ).bind I0).map .tuple
abbrev Nl(fs:Fp):Dv->Option PyData:=fun δ=>((fs δ).bind I0).map .list
abbrev AI(m:AC)(fs:Fp):Dv->Option PyData:=fun δ=>(fs δ).bind m
abbrev Xw(i:Nat):Dv->Option PyData:=fun δ=>(ow i δ).map fun xs=>.int xs.length
abbrev RS(i:Nat)(g:FB):Dv->Option PyData:=fun δ=>(g δ).bind fun y=>(ow i δ).bind fun xs=>(Rx y).bind fun k=>Fu xs k
abbrev iY:Dv->Option (Option Int):=fun _=>some none
abbrev iJ(f:FB):Dv->Option (Option Int):=fun δ=>(f δ).bind fun x=>(Rx x).map some
abbrev lR(f:FB)(B g:Dv->Option (Option Int)):Dv->Option PyData:=fun δ=>(f δ).bind fun x=>(B δ).bind fun l=>(g δ).bind fun u=>gx x l u
abbrev gT(f:FB):Dv->Option Bool:=fun δ=>(f δ).bind Rp
abbrev Bg(o:PyData->PyData->Option PyData)(f g:FB):Dv->Option Bool:=fun δ=>(Ae o f g δ).bind Rp
abbrev ml(f:Dv->Option Bool):Dv->Option Bool:=fun δ=>(f δ).map fun c=>!c
abbrev Tf(f g:Dv->Option Bool):Dv->Option Bool:=fun δ=>(f δ).bind fun c=>if c=true then g δ else some false
abbrev OC(f g:Dv->Option Bool):Dv->Option Bool:=fun δ=>(f δ).bind fun c=>if c=true then some true else g δ
abbrev DK(f:FB):Dv->Option (List PyData):=fun δ=>(f δ).bind GZ
abbrev Cj(m:List PyData->Option (List PyData))(fs:Fp):Dv->Option (List PyData):=fun δ=>(fs δ).bind m
abbrev FL:Dv->Option Bool:=fun _=>some true
abbrev HY(i:Nat):PyData->Dv->Option Dv:=fun y δ=>some (δ.set i (.d y))
abbrev DH:DF:=fun δ=>some (.nx δ)
abbrev CA(f:FB):DF:=fun δ=>(f δ).map .rt
abbrev Jb(f:FB):DF:=fun δ=>(f δ).map fun _=>.nx δ
abbrev Fv(c:Dv->Option Bool)(F G:DF):DF:=fun δ=>(c δ).bind fun c=>if c=true then F δ else G δ
abbrev Ba(i:Nat)(f:FB):DF:=fun δ=>(f δ).map fun y=>.nx (δ.set i (.d y))
abbrev TL(i:Nat)(fs:Fp):DF:=fun δ=>((fs δ).bind I0).map fun ys=>.nx (δ.set i (.own IS))
abbrev Y4(i:Nat)(f:FB):DF:=fun δ=>(f δ).bind fun y=>(ow i δ).bind fun xs=>if xs.length<Ci then some (.nx (δ.set i (.own (.lst (xs++[y]))))) else none
abbrev Qe(i:Nat)(f:FB):DF:=fun δ=>(f δ).bind fun y=>(ow i δ).bind fun xs=>match y with|.list g=>(if xs.length+g.length<=Ci then some (.nx (δ.set i (.own (.lst (xs++g))))) else none)|_=>none
abbrev gI(f:FB)(set:KM):DF:=fun δ=>(f δ).bind fun y=>(set y δ).map .nx
abbrev DR(fs:Fp)(set:KM)(F:DF):DF:=fun δ=>(fs δ).bind fun xs=>De set F xs δ
abbrev fL(i:Nat)(F:DF):DF:=fun δ=>F (Ft i δ)
abbrev K3:DF:=fun _=>none
theorem Gi{P:G8}{w:Id}{K:At}{mg:Eu}{base:Heap}{CX:JC}{k:Nat}{f:Addr}{fd:GE}{ps:KP}{sp:Sp}(h:∀vs H Q E,¬sp vs H Q E):AL P w K mg base CX k f fd ps sp :=
 ⟨fun _ _ _ _ z=>(h _ _ _ _ z).elim,fun _ _ _ _ _ _ _ _ _ _ _ _ _ z=>(h _ _ _ _ z).elim⟩
theorem PV{P:G8}{w:Id}{K:At}{mg:Eu}{base:Heap}{CX:JC}{k:Nat}{f:Addr}{fd:GE}{ps:KP}{sp:Sp}{m:AC}(F:AL P w K mg base CX k f fd ps sp)
 (h:∀ds x,m ds=some x->∀(G H:Hp) (vs:Fa) (Q:VK) (E:XK),A4 G ds vs->AN G H->(∀v g H',AN G g->Nw G H g->AN g H'->AN H H'->Du g x v->Q v H')->sp vs H Q E):AL P w K mg base CX k f fd ps (A3 m) :=
 F.imp fun vs H Q E z=>by
  obtain⟨ds,x,G,T,R,I,B⟩:=z;exact h ds x T G H vs Q E R I B
def Be(G H:Hp):Hp:=fun a=>match H a with
 |some (.tup xs)=>some (.tup xs)
 |_=>G a
theorem gG{G H:Hp}{a:Addr}{xs:Fa}(h:H a=some (.tup xs)):Be G H a=some (.tup xs):=by unfold Be;rw[h]
section
variable{G0 H0 G H:Hp}{σ:St}{δ:Dv}{ts:List (PyData×V)}
theorem Rw.Be(r:IF):Rw G0 H0 (L2.Be G H) H σ δ ts:=by
 have e:AN G (L2.Be G H):=fun a o h=>by
  unfold L2.Be;split
  .rename_i xs g;rw[r.ins _ _ h]at g;exact g.symm ▸ rfl
  .exact h
 refine⟨r.ext.trans e,fun a o h=>?_,fun a o h=>?_,r.keep,r.len,fun i x h=>?_,fun i xs h=>?_,r.apart,fun q Y=>(r.Cr q Y).same e⟩
 .unfold L2.Be at h;split at h
  .cases h;exact .inr (.inr ⟨_,rfl⟩)
  .exact r.new _ _ h
 .unfold L2.Be at h;split at h
  .rename_i xs g;rw[g];exact h
  .exact r.ins _ _ h
 .obtain⟨v,I,B⟩:=r.dat i x h;exact⟨v,I,B.same e⟩
 .obtain⟨a,ys,I,B,U,T,R⟩:=r.own i xs h;refine⟨a,ys,I,?_,U,T,R.same e⟩;unfold L2.Be;rw[T];split
  .rename_i q;cases q;exact R.Td.elim
  .exact B
end
theorem Oi{G:Hp}:∀ {t:Tr} {xs:Fa},A4 G (BB t) xs->Ts G t xs
 |.nil,xs,h=>by rw[BB]at h;rw[Ts];exact h.nil_eq
 |.cons b r,xs,h=>by
  rw[BB]at h;obtain⟨x,q,rfl,g,R⟩:=h.un;rw[Du]at g;obtain⟨a,ys,rfl,I,B⟩:=g;rw[Ts];exact⟨a,ys,q,rfl,I,Oi B,Oi R⟩
theorem Sk{G H:Hp}:∀ {t:Tr} {xs:Fa},Ts H t xs->A4 (Be G H) (BB t) xs
 |.nil,xs,h=>by rw[Ts]at h;rw[BB,h];exact .nil
 |.cons b r,xs,h=>by
  rw[Ts]at h;obtain⟨a,ys,R,rfl,I,B,g⟩:=h;rw[BB];refine .cons ?_ (Sk g);rw[Du];exact⟨a,ys,rfl,gG I,Sk B⟩
mutual
theorem SX:∀ {ds:Ch} {t:Tr},E2 ds=some t->ds=BB t
 |[],t,h=>by rw[E2]at h;cases h;rw[BB]
 |d::ds,t,h=>by
  rw[E2]at h;obtain⟨b,I,B⟩:=aC.mp h;obtain⟨r,g,rfl⟩:=aF.mp B;rw[BB,<-jh I,<-SX g]
theorem jh:∀ {d:IR} {t:Tr},MA d=some t->d=.tuple (BB t)
 |.tuple g,t,h=>by rw[MA]at h;rw[SX h]
 |.none,_,h=>by simp[MA]at h
 |.bool _,_,h=>by simp[MA]at h
 |.int _,_,h=>by simp[MA]at h
 |.str _,_,h=>by simp[MA]at h
 |.list _,_,h=>by simp[MA]at h
 |.dict _,_,h=>by simp[MA]at h
end
def oB(rev:Bool)(t:Tr):Option PyData:=if t.bs.length<64/\t.deep<=60 then some (.list (BB (Tr.of (if rev then Tr.FR t.bs else(Tr.FR t.bs).reverse)))) else none
def Sf(rev:Bool):List PyData->Option PyData
 |[x]=>(GZ x).bind fun g=>(E2 g).bind (oB rev)
 |_=>none
section
variable{X:Cx}{a e:Expr}{f g h:FB}{fs:Fp}{pos p:Pos}
theorem kZ{rev:Bool}{G0 H0 G H:Hp}{σ:St}{δ:Dv}{ts:List (PyData×V)}{x z:IR}{u:V}{Q:VK}(U:IF)(du:Du G x u)(hz:Sf rev [x]=some z)(k:∀w G' H',Rw G0 H0 G' H' σ δ ((z,w)::ts)->Q w H') :
  ∃(p:Addr) (ys:Fa) (t:Tr),[u]=[.ref p]/\(Ax X.K H p ys\/BE X.K H p ys)/\Ts H t ys/\ys.length<64/\t.deep<=60/\∀(l:Addr) (zs:Fa),H l=none->Ts H (Tr.of (if rev then Tr.FR t.bs else(Tr.FR t.bs).reverse)) zs->Q (.ref l) (upd H l (.lst zs)):=by
 unfold Sf at hz;obtain⟨ds,h1,h2⟩:=aC.mp hz;obtain⟨t,h3,B⟩:=aC.mp h2;unfold oB at B;split at B
 .rename_i hc;cases B;have T:=SX h3;obtain⟨bb,a,ys,rfl,n1,Y⟩:=LO du h1;rw[T]at Y;have Z:=(Oi Y).same U.ins;have hl:ys.length=t.bs.length:=by rw[Z.len]
  refine⟨a,ys,t,rfl,?_,Z,by lia,hc.2,fun l zs R I=>?_⟩
  .have:=U.ins _ _ n1;cases bb
   .exact .inl (Ax.of (by simpa using this))
   .exact .inr (BE.of (by simpa using this))
  .have R1:=U.Be;exact k _ _ _ (R1.Sx (Sk I) R)
 .cases B
theorem iD{e:Expr}{p pos kp B:Pos}{j}(hu:X.A.units+64<cLine)(hg:Gl X "sorted")(hm:X.mg "sorted" = none)(ha:DA X [e] fs)
 (Y:∀ {t:TA},PA X [e] t->PE X (.Call (.Name "sorted" p) [e] [⟨some "reverse",.Constant (.bool true) j B,kp⟩] pos) (fun σ H Q=>t σ H fun vs R=>cQ X.K vs R Q)) :
  DE X (.Call (.Name "sorted" p) [e] [⟨some "reverse",.Constant (.bool true) j B,kp⟩] pos) (AI (Sf true) fs):=by
 obtain⟨t,p,k⟩:=ha;refine⟨_,Y p,fun δ z T G0 H0 G H σ ts Q R0 q=>?_⟩;obtain⟨xs,Z,I⟩:=aC.mp T;refine k δ _ Z G0 H0 G H σ ts _ R0 fun vs G1 R R1 U=>?_;obtain⟨d,R2⟩:=R1.args U;cases xs with
 |nil=>cases I
 |cons x r=>
  cases r with
  |cons y q=>cases I
  |nil=>
   obtain⟨u,rfl,du⟩:=d.Iw;exact kZ (rev:=true) R2 du I q
abbrev WB(i:Nat)(f g:FB):DF:=fun δ=>(f δ).bind fun y=>(g δ).bind fun k=>(ow i δ).bind fun xs=>(Rx k).bind fun n=>(LJ xs.length n).map fun j=>.nx (δ.set i (.own (.lst (xs.set j y))))
theorem A4.set{H:Hp}{d:IR}{v:V}(hd:Du H d v):∀ {ds:Ch} {xs:Fa} (j:Nat),A4 H ds xs->A4 H (ds.set j d) (xs.set j v)
 |[],_,_,h=>by rw[h.nil_eq];exact .nil
 |_::_,_,0,h=>by obtain⟨x,r,rfl,_,B⟩:=h.un;exact .cons hd B
 |_::_,_,j+1,h=>by obtain⟨x,r,rfl,I,B⟩:=h.un;exact .cons I (A4.set hd j B)
theorem mn{i:Nat}{x:Str}{np sp:Pos}(hv:PE X (.Name x np) (LL i))(hk:DE X a g)(he:DE X e f)
 (hP:∀ {B T U:TE},PE X e B->PE X (.Name x np) T->PE X a U->PS X (.Assign [.Subscript (.Name x np) a sp] e pos) (Vt B (mU T U iq))):DS X (.Assign [.Subscript (.Name x np) a sp] e pos) (WB i f g):=by
 obtain⟨B,pe,ke⟩:=he;obtain⟨tk,pk,kk⟩:=hk;refine⟨_,hP pe hv pk,fun δ r h G0 H0 G H σ D R q=>?_⟩;obtain⟨y,h1,h2⟩:=aC.mp h;obtain⟨n,h3,h4⟩:=aC.mp h2;obtain⟨xs,h5,h6⟩:=aC.mp h4;obtain⟨m,h7,h8⟩:=aC.mp h6;obtain⟨j,h9,rfl⟩:=aF.mp h8;have:=SU h7;subst this;have hi:=NR h5;refine ke δ y h1 G0 H0 G H σ [] _ R fun u G1 H1 R1=>?_;obtain⟨ad,_,I,k2,k3,k4,⟨ys,rfl,k5⟩⟩:=R1.own i _ hi;refine⟨.ref ad,I,?_⟩;refine kk δ _ h3 G0 H0 G1 H1 σ _ _ R1 fun v G2 H2 R2=>?_;have dv:=R2.Cr (.int m,v) (.head _);rw[Du]at dv;obtain⟨ad',_,Z,m2,m3,m4,⟨zs,rfl,Y⟩⟩:=R2.own i _ hi;rw[I]at Z;cases Z;refine⟨ad,zs,m,j,rfl,dv,m4,by rw[Y.len];exact h9,?_⟩;exact q _ _ _ (R2.drop.drop.Z8 hi I ⟨_,rfl,Y.set (R2.Cr (y,u) (.tail _ (.head _))) j⟩)
end
section
variable{G0 H0 G H:Hp}{σ:St}{δ:Dv}{ts:List (PyData×V)}
theorem Rw.on{H':Hp}(r:IF)(e:AN H H'):Rw G0 H0 G H' σ δ ts:=r.lift (AN.refl _) Nw.refl (r.ins.trans e) e
theorem Rw.jN{i:Nat}{xs:Oc}{ys:HO}{a:Addr}(r:IF)(d:JY G a xs ys)(ha:H a=some ys)(hG:G a=none)(h0:H0 a=none)(B:∀(j:Nat) (zs:Oc),δ[j]? = some (L.own zs)->σ[j]?≠some (some (V.ref a))):Rw G0 H0 G H (σ.set i (some Jj)) (δ.set i (.own xs)) ts:=by
 have hl:=r.len;have other:∀(j:Nat) (zs:Oc),i≠j->(δ.set i (.own xs))[j]? = some (L.own zs)->δ[j]? = some (L.own zs):=fun j zs g h=>by rw[List.getElem?_set_ne g]at h;exact h
 refine⟨r.ext,r.new,r.ins,r.keep,by simp[hl],fun j y h=>?_,fun j zs h=>?_,fun j l us Y U R I=>?_,r.Cr⟩
 .by_cases g:i=j
  .subst g;by_cases hi:i<δ.length
   .rw[List.getElem?_set_self hi]at h;cases h
   .rw[List.getElem?_eq_none (by simp;lia)]at h;cases h
  .rw[List.getElem?_set_ne g]at h;obtain⟨w,m1,Z⟩:=r.dat j y h;exact⟨w,by rw[List.getElem?_set_ne g];exact m1,Z⟩
 .by_cases g:i=j
  .subst g;by_cases hi:i<δ.length
   .rw[List.getElem?_set_self hi]at h;cases h;exact⟨a,ys,by rw[List.getElem?_set_self AS],hG,h0,ha,d⟩
   .rw[List.getElem?_eq_none (by simp;lia)]at h;cases h
  .have h:=other j zs g h;obtain⟨b,us,m1,Z,m3,m4,m5⟩:=r.own j zs h;exact⟨b,us,by rw[List.getElem?_set_ne g];exact m1,Z,m3,m4,m5⟩
 .by_cases g:i=j
  .subst g;have T:i≠l:=U;have I:=other l Y T I;by_cases hi:i<δ.length
   .rw[List.getElem?_set_self AS,List.getElem?_set_ne T];exact fun z=>B l Y I z.symm
   .rw[List.getElem?_eq_none (by simp;lia)]at R;cases R
  .have R:=other j us g R;by_cases hk:i=l
   .subst hk;by_cases hi:i<δ.length
    .rw[List.getElem?_set_self AS,List.getElem?_set_ne g];exact fun z=>B j us R z
    .rw[List.getElem?_eq_none (by simp;lia)]at I;cases I
   .have I:=other l Y hk I;rw[List.getElem?_set_ne g,List.getElem?_set_ne hk];exact r.apart j l us Y U R I
end
section
variable{F F1 F2:DF}{δ δ':Dv}{r:Option Ou}{c:Dv->Option Bool}{f g:FB}{fs:Fp}
theorem Ah(h:F1 δ=some (.nx δ'))(k:F2 δ'=r):Ai F1 F2 δ=r:=by unfold Ai;rw[h];exact k
theorem NC{x:IR}(h:F1 δ=some (.rt x)):Ai F1 F2 δ=some (.rt x):=by unfold Ai;rw[h]
theorem NZ(h:c δ=some true)(k:F1 δ=r):Fv c F1 F2 δ=r:=by show(c δ).bind _=r;rw[h];exact k
theorem GX(h:c δ=some false)(k:F2 δ=r):Fv c F1 F2 δ=r:=by show(c δ).bind _=r;rw[h];exact k
theorem Bu{i:Nat}{y:IR}(h:f δ=some y):Ba i f δ=some (.nx (δ.set i (.d y))):=by show(f δ).map _=_;rw[h];rfl
theorem EE{y:IR}(h:f δ=some y):CA f δ=some (.rt y):=by show(f δ).map _=_;rw[h];rfl
theorem BK{o:PyData->PyData->Option PyData}{x y:IR}{z:Option PyData}(R:f δ=some x)(I:g δ=some y)(B:o x y=z):Ae o f g δ=z:=by unfold Ae;rw[R,I];exact B
theorem AZ{m:AC}{xs:Ch}{z:Option PyData}(I:fs δ=some xs)(B:m xs=z):AI m fs δ=z:=by show(fs δ).bind m=z;rw[I];exact B
theorem Af{x:IR}{xs:Ch}(I:f δ=some x)(B:fs δ=some xs):AA f fs δ=some (x::xs):=by show(f δ).bind _=_;rw[I];show(fs δ).map _=_;rw[B];rfl
theorem Yv{xs:Ch}(h:fs δ=some xs)(B:xs.length<=Ci):Nl fs δ=some (.list xs):=by show((fs δ).bind I0).map _=_;rw[h];show(I0 xs).map _=_;unfold I0;rw[if_pos B];rfl
theorem Kq{xs:Ch}(h:fs δ=some xs)(B:xs.length<=Ci):B9 fs δ=some (.tuple xs):=by show((fs δ).bind I0).map _=_;rw[h];show(I0 xs).map _=_;unfold I0;rw[if_pos B];rfl
theorem C8{o:PyData->PyData->Option PyData}{x y:IR}{b:Bool}(R:f δ=some x)(I:g δ=some y)(B:o x y=some (.bool b)):Bg o f g δ=some b:=by show(Ae o f g δ).bind Rp=_;rw[BK R I B];rfl
theorem Pn{a b:Dv->Option Bool}{q:Option Bool}(h:a δ=some false)(k:b δ=q):OC a b δ=q:=by show(a δ).bind _=q;rw[h];exact k
theorem jD{a b:Dv->Option Bool}(h:a δ=some true):OC a b δ=some true:=by show(a δ).bind _=_;rw[h];rfl
theorem j4{a:Dv->Option Bool}{b:Bool}(h:a δ=some b):ml a δ=some (!b):=by show(a δ).map _=_;rw[h];rfl
theorem jn{b:Bool}(h:f δ=some (.bool b)):gT f δ=some b:=by show(f δ).bind Rp=_;rw[h];rfl
theorem QS{set:KM}(I:Nat->Dv->Prop):∀(xs:Ch) (δ:Dv) (n:Nat),I n δ->(∀(i:Nat) (x:IR) (δ:Dv),xs[i]? = some x->I (n+i) δ->∃δ1 B,set x δ=some δ1/\F δ1=some (.nx B)/\I (n+i+1) B) ->
  ∃δ',De set F xs δ=some (.nx δ')/\I (n+xs.length) δ'
 |[],δ,n,h,_=>⟨δ,rfl,h⟩
 |x::xs,δ,n,h,k=>by
  obtain⟨δ1,B,h1,h2,Z⟩:=k 0 x δ rfl h;obtain⟨δ',Y,U⟩:=QS I xs B (n+1) Z fun i y δ R T=>by
   have:=k (i+1) y δ (by simpa using R) (by rw[show n+(i+1)=n+1+i by lia];exact T);rw[show n+(i+1)+1=n+1+i+1 by lia]at this;exact this
  refine⟨δ',?_,by rw[(JO),show n+(xs.length+1)=n+1+xs.length by lia];exact U⟩;unfold De;rw[h1,(Gq),h2];exact Y
theorem gY{set:KM}{xs:Ch}(I:Nat->Dv->Prop)(R:fs δ=some xs)(h0:I 0 δ)(U:∀(i:Nat) (x:IR) (δ:Dv),xs[i]? = some x->I i δ->∃δ1 B,set x δ=some δ1/\F δ1=some (.nx B)/\I (i+1) B) :
  ∃δ',DR fs set F δ=some (.nx δ')/\I xs.length δ':=by
 obtain⟨δ',Z,Y⟩:=QS (F:=F) (set:=set) I xs δ 0 h0 fun i x δ R T=>by
  have:=U i x δ R (by simpa using T)
  simpa using this
 refine⟨δ',?_,by simpa using Y⟩;show(fs δ).bind _=_;rw[R];exact Z
end
theorem DY{ps N:KP}{F:DF}{ds:Ch}{x:IR}(g:ds.length=ps.length)(h:F (MP N ds)=some (.rt x)):CM ps N F ds=some x:=by unfold CM;rw[if_pos g,h]
theorem YU{lo:Int}{n i:Nat}{x:IR}(h:(Ib lo n)[i]? = some x):x=.int (lo+(i:Nat))/\i<n:=by
 unfold Ib at h;rw[(B7)]at h;obtain⟨j,g,rfl⟩:=aF.mp h;have B:=(aD.mp g).1;rw[List.getElem?_range (by simpa using B)]at g;cases g;exact⟨rfl,by simpa using B⟩
theorem lx{δ:Dv}{f:FB}{j:Int}(h:f δ=some (.int j))(h0:-1000000<=j)(g:j<=1000000):Cj NT (AA f AG) δ=some (Ib 0 j.toNat):=by
 show(AA f AG δ).bind NT=_;rw[Af h (show AG δ=some [] from rfl)];exact if_pos ⟨h0,g⟩
theorem Rq{n:Nat}{i:Int}(h:i.natAbs<2^n):IP n i=true:=bf h
theorem eh{i j:Int}(h:Po i j=true):Ef (.int i) (.int j)=some (.int (i*j)):=by
 show Nz W5 XI (.int i) (.int j)=_;unfold Nz;rw[show W5 (.int i) (.int j)=some (.int (i*j)) from if_pos h]
theorem mul_r{i j:Int}(h:j.natAbs<2^64):Ef (.int i) (.int j)=some (.int (i*j)):=eh (by unfold Po;rw[Rq h];simp)
theorem mod_is{i j:Int}(h:0<j):MC (.int i) (.int j)=some (.int (i % j)):=by
 show(if j≠0 then some (PyData.int (i.fmod j)) else none)=_;rw[if_pos AS,Int.fmod_eq_emod_of_nonneg _ AS]
theorem nt{i:Int}{n:Nat}(hn:n<=1000)(hi:IP 64 i=true):W6 (.int i) (.int (n:Int))=some (.int (i^n)):=by
 show(if 0<=(n:Int)/\(n:Int)<=1000/\IP 64 i=true then some (PyData.int (i^(n:Int).toNat)) else none)=_;rw[if_pos ⟨by lia,by lia,hi⟩,(ML)]
def El(ns:List Int):PyData:=.dict [(.none,.list (ns.map .int))]
theorem ly{H:Hp}{a:Addr}{ns:List Int}(h:Rd H a (.lst (ns.map V.int))):Du H (El ns) Jj:=by unfold El;rw[Du];exact .inr (.inl ⟨a,ns,rfl,rfl,h⟩)
def U7(K:At):Bool:=K.all fun p=>match p.2.cls with|.type n=>n != "list" |_=>true
theorem P9{a:Addr}{o:Obj}:∀ {K:At},K.lookup a=some o->(a,o)∈K
 |[],h=>by cases h
 |(b,u)::K,h=>by
  rw[(Ow)]at h;split at h
  .rename_i e;cases h;rw[show a=b from by simpa using e];exact .head _
  .exact .tail _ (P9 h)
theorem nh{K:At}{H:Hp}{a:Addr}{xs:Fa}(g:U7 K=true)(h:Ax K H a xs):Rd H a (.lst xs):=by
 rcases h with h|⟨o,its,n,I,B,_⟩
 .exact h
 .unfold U7 at g;rw[(Qv)]at g;have:=g _ (P9 I);rw[B]at this;exact absurd this As
abbrev U4(fs:Fp):DF:=fun δ=>(fs δ).map .rn
abbrev RN(i:Nat):DF:=fun δ=>(ow i δ).map .rn
abbrev iZ(i:Nat)(fs:Fp):DF:=fun δ=>(fs δ).map fun ys=>.nx (δ.set i (.own IS))
section
variable{X:Cx}{a:Expr}{h:FB}{pos:Pos}
theorem Pb{i:Nat}{x:Str}{np:Pos}(Y:PE X (.Name x np) (LL i)):DS X (.Return (some (.Name x np)) pos) (RN i):=by
 refine⟨_,Bo Y,fun δ r h G0 H0 G H σ D R q=>?_⟩;obtain⟨xs,Z,rfl⟩:=aF.mp h;obtain⟨a,_,U,T,I,B,⟨ys,rfl,g⟩⟩:=R.own i _ (NR Z);exact⟨.ref a,U,q a ys G H R.ext R.new R.ins R.keep I T B g⟩
end
section
variable{X:Cx}{elt iter:Expr}{x:Str}{px pos spos:Pos}{ifs:List Expr}{scope:Scope}{fs:Fp}{tif:Dv->Option Bool}{f:FB}
theorem YY(N:KP)(ix:Nat)(fr:Iv)(hi:DI X (.Name x px) iter fs)(B:∀cl C s₀ H₀ fp,Yn EQ ifs tif)(he:∀cl C s₀ H₀ fp,DE EQ elt f)
 (h1:DM scope N x ix=true:=by decide +kernel)(h2:X.calm=true:=by rfl)(h3:GQ N X.N scope X.env.scope fr 0=true:=by rfl)(h4:fr.length=N.length:=by rfl)(h5:freeOk X.env.scope scope.names=true:=by rfl)
 (hs:∀x,foldedSetIterable iter X.env x=pure x:=by intro _;rfl):DS X (.Return (some FS) spos) (U4 (FT (Cg ix) tif f fr fs)):=by
 obtain⟨wi,pi,ki⟩:=hi;refine⟨_,Bo (JJ N ix fr pi B (fun cl C s₀ H₀ fp=>(he cl C s₀ H₀ fp).pe) h1 h2 h3 h4 h5 hs),fun δ r h G0 H0 G H σ D R q=>?_⟩;obtain⟨zs,Z,rfl⟩:=aF.mp h;exact NJ ki Z R fun D' ys G' H' g Y U T n4 I=>q _ _ _ _ g.ext g.new g.ins g.keep T U Y I
theorem jW{i:Nat}{z:Str}{T spos:Pos}(N:KP)(ix:Nat)(fr:Iv)(hN:X.N.Nodup)(hy:X.N[i]? = some z)(B:X.env.scope.names.lookup z=some .local)(hi:DI X (.Name x px) iter fs)(I:∀cl C s₀ H₀ fp,Yn EQ ifs tif)(he:∀cl C s₀ H₀ fp,DE EQ elt f)
 (h1:DM scope N x ix=true:=by decide +kernel)(h2:X.calm=true:=by rfl)(h3:GQ N X.N scope X.env.scope fr 0=true:=by rfl)(h4:fr.length=N.length:=by rfl)(h5:freeOk X.env.scope scope.names=true:=by rfl)
 (g:swapsWith FS (some (.Name z T)) spos.line X.env=pure true:=by rfl)
 (hs:∀x,foldedSetIterable iter X.env x=pure x:=by intro _;rfl):DS X (.Assign [.Name z T] FS spos) (iZ i (FT (Cg ix) tif f fr fs)):=by
 obtain⟨wi,pi,ki⟩:=hi;refine⟨_,Jh N ix fr hN hy B pi I (fun cl C s₀ H₀ fp=>(he cl C s₀ H₀ fp).pe) h1 h2 h3 h4 h5 g hs,fun δ r h G0 H0 G H σ D R q=>?_⟩;obtain⟨zs,m1,rfl⟩:=aF.mp h;exact NJ ki m1 R fun D' ys G' H' R' n1 n2 Z Y U=>q _ _ _ (R'.jN ⟨_,rfl,U⟩ n1 n2 Z Y)
end
section
variable{N ps:KP} 
theorem Pg{F:DF}{ds xs:Ch}(g:ds.length=ps.length)(h:F (MP N ds)=some (.rn xs)):CM ps N F ds=some (.list xs):=by unfold CM;rw[if_pos g,h]
end
section
theorem add_l{a b:Ch}(h:a.length+b.length<=Ci):Ct (.list a) (.list b)=some (.list (a++b)):=by
 show Nz gb (Nz TV (Nz VB Y9)) (.list a) (.list b)=_;have:TV (.list a) (.list b)=some (.list (a++b)):=if_pos h;unfold Nz;show(match TV (.list a) (.list b) with|some z=>some z|none=>_)=_;rw[this]
end
section
variable{F F1 F2:DF}{δ δ':Dv}{fs:Fp}{xs:Ch}{set:KM} 
theorem iI{Q:Dv->Prop}(h:F1 δ=some (.nx δ'))(k:∃g,F2 δ'=some (.nx g)/\Q g):∃g,Ai F1 F2 δ=some (.nx g)/\Q g:=let⟨g,a,b⟩:=k;⟨g,Ah h a,b⟩
theorem lF(I:Nat->Dv->Prop)(R:fs δ=some xs)(h0:I 0 δ)(T:∀(i:Nat) (x:IR) (δ:Dv),xs[i]? = some x->I i δ->∃δ1,set x δ=some δ1/\∃B,F δ1=some (.nx B)/\I (i+1) B) :
  ∃δ',DR fs set F δ=some (.nx δ')/\I xs.length δ':=gY I R h0 fun i x δ a b=>let⟨δ1,c,B,e,g⟩:=T i x δ a b;⟨δ1,B,c,e,g⟩
theorem Yj{f:FB}{x:IR}(h:f δ=some x)(k:GZ x=some xs):DK f δ=some xs:=by show(f δ).bind GZ=_;rw[h];exact k
end
end L2
set_option maxHeartbeats 2000000
set_option maxHeartbeats 1000000
set_option maxHeartbeats 4000000
namespace L2
open PySem PySem.Spec PyProof.Rows
def GT(H:Hp)(v:KS)(x:Tr):Prop:=∃a ys,v=.ref a/\H a=some (.tup ys)/\Ts H x ys
def ZS(S:Addr)(ev:Array (Int×Value))(ep:Nat)(t:SetTable):HO:=.ext fun h=>∃o,h.get? S=some o/\o.ExactSet/\o.data=.set ev ep t
abbrev oC(H:Hp)(p:Int×Value)(q:Int×Tr):Prop:=p.1=q.1/\q.2.deep<8/\GT H p.2 q.2
def fP(H:Hp)(S:Addr)(st:TH.ES×SetTable):Prop:=∃ev ep,H S=some (ZS S ev ep st.2)/\PySem.Paired (oC H) ev.toList st.1.toList
theorem GT.same{H H':Hp}{v:KS}{x:Tr}(h:GT H v x)(e:AN H H'):GT H' v x:=let⟨a,ys,e1,B,g⟩:=h;⟨a,ys,e1,e _ _ B,g.same e⟩
structure iW(w:Id)(st:TH.ES×SetTable):Prop where
 fit:st.2.fits st.1.size=true
 plain:st.2.plain=true
 led:st.2.led=!w.params.followText "set-order"
 walk:TH.O5 st.2 st.1.size=true
 small:st.1.size<64
section
variable{X:Cx}{pins:Cy}{σ:St}{H:Hp}{s:GJ}
theorem eY(I:Cl){v:KS}{x:Tr}(g:GT H v x):∃a its,v=.ref a/\s.heap.IsTuple a its.toArray/\TH.Vs s.heap x its:=by
 obtain⟨a,ys,rfl,R,B⟩:=g;obtain⟨its,r,p,_⟩:=I.tuple (BE.of (K:=X.K) R);exact⟨a,its,rfl,p,B.vs I r⟩
theorem Vq(I:Cl):∀ {t:Tr} {ys:Fa} {us:Db},Ts H t ys->Vals ys us->t.deep<=8->TH.Kp (GT H) s.heap us t.bs
 |.nil,ys,us,h,r,_=>by
  rw[Ts]at h;subst h;cases r;exact .nil
 |.cons b q,ys,us,h,r,hd=>by
  rw[Ts]at h;obtain⟨a,B,rest,rfl,Z,Y,U⟩:=h;rw[Tr.deep]at hd;cases r with
  |cons T R=>
   cases T;have g:GT H Jj b:=⟨a,B,rfl,Z,Y⟩;exact .cons ⟨by lia,g,eY I g⟩ (Vq I U R AS)
theorem iB(I:Cl){l:List (Int×Value)}{m:List (Int×Tr)}(h:PySem.Paired (oC H) l m):PySem.Paired (TH.Qp (GT H) s.heap) l m :=
 TH.Paired.imp (fun _ _ ⟨a,b,c⟩=>⟨a,b,c,eY I c⟩) h
theorem lu:∀ {us:Db} {ts:List Tr},PySem.Paired (GT H) us ts->∃zs,Vals zs us/\Ts H (Tr.of ts) zs
 |_,_,.nil=>⟨[],.nil,by rw[Tr.of,Ts]⟩
 |_,_,.cons ⟨a,ys,e,R,I⟩ r=>by
  obtain⟨zs,B,g⟩:=lu r;subst e;exact⟨.ref a::zs,.cons rfl B,by rw[Tr.of,Ts];exact⟨a,ys,zs,rfl,R,I,g⟩⟩
def qt(w:Id)(K:At):List V->Hp->VK->Prop:=fun xs H Q=>∃p ys t st,xs=[.ref p]/\Ax K H p ys/\Ts H t ys/\t.deep<=8/\TH.O1 (TH.Mv (!w.params.followText "set-order")) t.bs=some st /\
 ∀S H',AN H H'->fP H' S st->Q (.ref S) H'
theorem cc(hc:X.calm=true)(hu:X.A.units+64<cLine):FV X (.type "set") (qt X.w X.K):=by
 intro pins s σ H xs us Q I r h;obtain⟨p,ys,t,st,rfl,hq,ht,hd,g,q⟩:=h;obtain⟨u,rfl,U⟩:=r.one;cases U;obtain⟨its,T,pl,hz⟩:=I.list hq;refine TH.Xo (G:=GT H) (I.ok.hd hc) pl.isList (Vq I ht T hd) AS g fun h2 R S2 k2=>?_;obtain⟨o,ev,ep,B,g2,g3,g4⟩:=S2;have hf:=I.BA.fresh (aH s.heap.objs.size);have es:=Ab hf (ZS s.heap.objs.size ev ep st.2);refine⟨.ref s.heap.objs.size,upd H s.heap.objs.size (ZS s.heap.objs.size ev ep st.2),I.laid (t':=R) k2 (aH _) ?_,rfl,q _ _ es ⟨ev,ep,AM,TH.Paired.imp (fun _ _ ⟨a,b,c,_⟩=>⟨a,b,c.same es⟩) g4⟩⟩;exact⟨⟨o,B,g2,g3⟩,⟨o,B⟩,fun h1 h2 ⟨o,Z,Y⟩ k=>⟨o,k _ Z,Y⟩⟩
theorem jX(I:Cl){S:Addr}{st:TH.ES×SetTable}(h:fP H S st)(ok:iW X.w st):∃o ev ep,s.heap.get? S=some o/\TH.GF X.w o ev ep st.2/\TH.EK (GT H) s.heap ev st.1:=by
 obtain⟨ev,ep,T,B⟩:=h;obtain⟨⟨o,Z,Y,U⟩,_,_⟩:=(show Cu X.prog X.w H s.heap S (ZS S ev ep st.2) from I.BA S _ T);have R:=iB I B;have g:ev.size=st.1.size:=TH.EK.size R;exact⟨o,ev,ep,Z,⟨Y,U,by rw[g];exact ok.fit,ok.plain,ok.led,by rw[g];exact ok.walk⟩,R⟩
def oA(w:Id):List V->Hp->VK->Prop:=fun xs H Q=>∃S st,xs=[.ref S]/\fP H S st/\iW w st/\∀(l:Addr) (g:Fa),H l=none->g.length<64->Ts H (Tr.of (Tr.FR (TH.RQ st)).reverse) g->Q (.ref l) (upd H l (.lst g))
theorem bq(hc:X.calm=true)(hu:X.A.units+64<cLine):FV X (.builtin "sorted") (oA X.w):=by
 intro pins s σ H xs us Q I r h;obtain⟨S,st,rfl,hS,ok,q⟩:=h;obtain⟨u,rfl,g⟩:=r.one;cases g;obtain⟨o,ev,ep,g1,W,R⟩:=jX I hS ok;refine TH.ZJ (I.ok.hd hc) W g1 R ok.small AS fun h' D Y e1 us U k1 gD hp hl=>?_;obtain⟨B,g,Z⟩:=lu hp;have T:B.length<64:=by rw[g.length];exact hl
 refine⟨.ref D,upd H D (.lst B),I.laid (t':=Y) k1 U ⟨av (aI T (by rw[sizeLine_eq];decide)),us,e1,g,gD⟩,rfl,q D B (I.BA.fresh U) T Z⟩
end
open PySem PyProof.Rows
end L2
set_option maxHeartbeats 1000000
namespace L2
open PySem PySem.Spec PyProof.Rows
def SH(led:Bool)(l z:List Tr):Bool:=match TH.O1 (TH.Mv led) l with
 |some st=>decide ((Tr.FR (TH.RQ st)).reverse=z)&&st.2.fits st.1.size&&st.2.plain&&decide (st.2.led=led)&&TH.O5 st.2 st.1.size&&decide (st.1.size<64)
 |none=>false
theorem fZ{led:Bool}{l z:List Tr}(h:SH led l z=true):∃st,TH.O1 (TH.Mv led) l=some st/\(Tr.FR (TH.RQ st)).reverse=z/\st.2.fits st.1.size=true/\st.2.plain=true/\st.2.led=led/\TH.O5 st.2 st.1.size=true/\st.1.size<64:=by
 unfold SH at h;split at h
 .rename_i st e;simp only[Bool.and_eq_true,decide_eq_true_eq]at h;obtain⟨⟨⟨⟨⟨U,T⟩,R⟩,I⟩,B⟩,g⟩:=h;exact⟨st,e,U,T,R,I,B,g⟩
 .cases h
def Zw(l:List Tr):List Tr:=match TH.O1 (TH.Mv true) l with
 |some st=>(Tr.FR (TH.RQ st)).reverse
 |none=>[]
def KJ(t:Tr):Option PyData:=if t.deep<=8/\SH true t.bs (Zw t.bs)=true/\SH false t.bs (Zw t.bs)=true then some (.list (BB (Tr.of (Zw t.bs)))) else none
def Ql:PyData->Option PyData
 |.list g=>(E2 g).bind KJ
 |_=>none
section
variable{X:Cx}{e:Expr}{f:FB}{pos p p2 pos2:Pos}
theorem b0(hc:X.calm=true)(hu:X.A.units+64<cLine)(hg:Gl X "sorted")(hm:X.mg "sorted" = none)(hg2:Gl X "set")(hm2:X.mg "set" = none)(ha:DE X e f)
 (R:starEach [e] X.env=(false,eval e X.env)::starEach [] X.env:=by rfl)(I:starEach [.Call (.Name "set" p2) [e] [] pos2] X.env=(false,eval (.Call (.Name "set" p2) [e] [] pos2) X.env)::starEach [] X.env:=by rfl)
 (hq1:(backTo pos2 (starEach [] X.env)).any (·.1)=false:=by rfl)(hq2:(backTo pos (starEach [] X.env)).any (·.1)=false:=by rfl) :
  DE X (.Call (.Name "sorted" p) [.Call (.Name "set" p2) [e] [] pos2] [] pos) (fun δ=>(f δ).bind Ql):=by
 obtain⟨ta,pa,ka⟩:=ha;refine⟨_,Bp (bq hc hu) hg hm PyProof.Rows.boot_sorted (AF (UH (cc hc hu) hg2 hm2 PyProof.Rows.boot_set (AF pa AV R) As As R hq1) AV I) As As I hq2,fun δ z hz G0 H0 G H σ ts Q R0 k=>?_⟩;obtain⟨y,h1,Y⟩:=aC.mp hz;refine ka δ y h1 G0 H0 G H σ ts _ R0 fun u G1 H1 Z=>?_;unfold Ql at Y;split at Y
 .rename_i ds;obtain⟨t,h3,U⟩:=aC.mp Y;unfold KJ at U;split at U
  .rename_i hh;cases U;have hds:=SX h3;have du:=Z.Cr (_,u) (.head _);obtain⟨bb,a,ys,rfl,g,n2⟩:=LO du (show GZ (.list ds)=some ds from rfl);have n1':H1 a=some IS:=by
    have:=Z.ins _ _ g;cases bb
    .simpa using this
    .exact absurd g (by
      have T:=du;intro g;rw[Du]at T;obtain⟨a',ys',e1,e2,_⟩:=T;cases e1;rw[e2]at g;cases g)
   rw[hds]at n2;have ht:=(Oi n2).same Z.ins;have both:∀led,SH led t.bs (Zw t.bs)=true:=fun led=>by cases led;exact hh.2.2;exact hh.2.1
   obtain⟨st,r1,r2,r3,r4,r5,r6,r7⟩:=fZ (both (!X.w.params.followText "set-order"));refine⟨a,ys,t,st,rfl,Ax.of n1',ht,hh.1,r1,fun S H' e1 hS=>⟨S,st,rfl,hS,⟨r3,r4,r5,r6,r7⟩,fun l zs hl hz B=>?_⟩⟩;rw[r2]at B;have R2:=(Z.drop.on e1).Be;exact k _ _ _ (R2.Sx (Sk B) hl)
  .cases U
 .cases Y
end
end L2
set_option maxHeartbeats 4000000
namespace ZT
open PySem PyProof.Rows
abbrev GB(h:Heap)(T:Addr)(a b c:KS):Prop:=h.get? T=some { cls:=.type "tuple",data:=.seq #[a,b,c]}
section
variable{prog:G8}{w:Id}{A:Around}{E:AT}{s:GJ}{z TI TO i1 i2 i3:Addr}{f1 f2 f3:List Addr}{n1 n2 n3 k:Nat}{P1 P2 P3:Nat->Value->Prop}{S1 S2 S3:Nat->Heap->Prop}{a b c:KS}
theorem put3{T:Addr}{x:KS}{k:Nat}{Q:Unit->Shared->Prop}(g:GB s.heap T a b c)
 (h:∀h',h'.get? T=some { cls:=.type "tuple",data:=.seq ((#[a,b,c]:Array Value).setIfInBounds k x)}->Heap.SameBut T s.heap h'->Q () {s with heap:=h'}):wpAny BY A (updateSeq T (·.setIfInBounds k x)) Q E s:=by
 refine wpAny_updateSeq g rfl (h _ ?_ (af ..));rw[Heap.get?_update_self _ g rfl];simp[Obj.mapSeq]
structure Ob(z TI TO i1 i2 i3:Addr)(f1 f2 f3:List Addr):Prop where
 a1:TO≠z/\TO≠i1/\TO≠i2/\TO≠i3
 a2:i1≠z/\i2≠z/\i3≠z
 b1:z ∉ f1/\TO ∉ f1/\i2 ∉ f1/\i3 ∉ f1
 b2:z ∉ f2/\TO ∉ f2/\i1 ∉ f2/\i3 ∉ f2
 b3:z ∉ f3/\TO ∉ f3/\i1 ∉ f3/\i2 ∉ f3
theorem p9{Q:AT}(D1:Draws prog w A i1 f1 n1 P1 S1)(D2:Draws prog w A i2 f2 n2 P2 S2)(D3:Draws prog w A i3 f3 n3 P3 S3)(ap:Ob z TI TO i1 i2 i3 f1 f2 f3)(hz:IsZip s.heap z TI TO .none)(hI:GB s.heap TI (.ref i1) (.ref i2) (.ref i3))(hO:GB s.heap TO a b c)
 (t1:S1 k s.heap)(t2:S2 k s.heap)(t3:S3 k s.heap)(l1:k<n1)(l2:k<n2)(l3:k<n3)
 (q:∀x y u h' tk,P1 k x->P2 k y->P3 k u->IsZip h' z TI TO (rawInt s.heap.objs.size)->GB h' TO x y u->S1 (k+1) h'->S2 (k+1) h'->S3 (k+1) h'->GB h' s.heap.objs.size x y u->h'.objs.size=s.heap.objs.size+1 ->
   (∀c o,c≠z->c≠TO->c≠i1->c≠i2->c≠i3->s.heap.get? c=some o->h'.get? c=some o)->Q GM HU) :
  wpAny BY A (Builtin.«zip.__next__» ⟨[.ref z],[]⟩) (fun fin s'=>∃v,fin=.done (.ret v)/\Q v s') E s:=by
 obtain⟨⟨c5,c6,c7,c7'⟩,⟨c8,c9,c9'⟩,⟨d1,d2,d3,d3'⟩,⟨d4,d5,d6,d6'⟩,e4,e5,e6,e6'⟩:=ap;show wpAny _ _ (field (.ref z) 2>>=_) _ _ _;refine aA (aZ hz rfl (x:=.bool false) rfl ?_);show wpAny _ _ (field (.ref z) 3>>=_) _ _ _;refine aA (aZ hz rfl (x:=.ref TI) rfl (aA (ai hI rfl ?_)));show wpAny _ _ (Builtin.SmallTypes.ownedTupleIsFree (.ref z)>>=_) _ _ _;unfold Builtin.SmallTypes.ownedTupleIsFree;refine aA (aA (aZ hz rfl (x:=.none) rfl (aB ?_)));simp only[if_true];refine aA (bM (aA (aZ hz rfl (x:=.ref TO) rfl (aA (au hz CH fun g1 z1 Z=>aA ?_)))));have Z:Heap.SameBut z s.heap g1:=Z;have z1:IsZip g1 z TI TO .ellipsis:=z1;simp only[List.zipIdx_cons,List.zipIdx_nil,List.forIn_cons,List.forIn_nil];refine aA (aA (wpAny_onRaise ?_));show wpAny _ _ (Builtin.SmallTypes.nextOf (.ref i1)>>=_) _ _ _;refine aA (D1.item k _ _ _ l1 (D1.frame _ _ _ t1 (BS d1 Z)) fun x g2 tk2 p1 u1 Y=>aB ?_);have Y:Heap.SameBut i1 g1 g2:=Y;have o2:GB g2 TO a b c:=(Y.2 _ c6).trans ((Z.2 _ c5).trans hO);refine aA (ai o2 rfl (aA (put3 o2 fun g3 o3 U=>aA (wpAny_letGo (aB ?_)))));have o3:GB g3 TO x b c:=o3;have U:Heap.SameBut TO g2 g3:=U;refine aA (aA (wpAny_onRaise ?_));show wpAny _ _ (Builtin.SmallTypes.nextOf (.ref i2)>>=_) _ _ _;have t2':S2 k g3:=D2.frame _ _ _ (D2.frame _ _ _ (D2.frame _ _ _ t2 (BS d4 Z)) (BS d6 Y)) (BS d5 U);refine aA (D2.item k _ _ _ l2 t2' fun y g4 tk4 p2 u2 T=>aB ?_);have T:Heap.SameBut i2 g3 g4:=T;have o4:GB g4 TO x b c:=(T.2 _ c7).trans o3;refine aA (ai o4 rfl (aA (put3 o4 fun g5 o5 R=>aA (wpAny_letGo (aB ?_)))));have R:Heap.SameBut TO g4 g5:=R;have o5:GB g5 TO x y c:=o5;refine aA (aA (wpAny_onRaise ?_));show wpAny _ _ (Builtin.SmallTypes.nextOf (.ref i3)>>=_) _ _ _;have t3':S3 k g5:=D3.frame _ _ _ (D3.frame _ _ _ (D3.frame _ _ _ (D3.frame _ _ _ (D3.frame _ _ _ t3 (BS e4 Z)) (BS e6 Y)) (BS e5 U)) (BS e6' T)) (BS e5 R);refine aA (D3.item k _ _ _ l3 t3' fun u g6 tk6 p3 u3 I=>aB ?_);have I:Heap.SameBut i3 g5 g6:=I;have o6:GB g6 TO x y c:=(I.2 _ c7').trans o5;refine aA (ai o6 rfl (aA (put3 o6 fun g o7 B=>aA (wpAny_letGo (aB (aB ?_))))));have B:Heap.SameBut TO g6 g:=B;have o7:GB g TO x y u:=o7;refine aA (ai o7 rfl (aA (wpAny_newTuple ?_)));have sz:g.objs.size=s.heap.objs.size:=by rw[B.1,I.1,R.1,T.1,U.1,Y.1,Z.1]
 have z7:IsZip g z TI TO .ellipsis:=(B.2 _ c5.symm).trans ((I.2 _ c9'.symm).trans ((R.2 _ c5.symm).trans ((T.2 _ c9.symm).trans ((U.2 _ c5.symm).trans ((Y.2 _ c8.symm).trans z1)))));have kp:∀c o,c≠z->c≠TO->c≠i1->c≠i2->c≠i3->s.heap.get? c=some o->g.get? c=some o:=fun c o e1 e2 e3 e4 e5 e=>(B.2 _ e2).trans ((I.2 _ e5).trans ((R.2 _ e2).trans ((T.2 _ e4).trans ((U.2 _ e2).trans ((Y.2 _ e3).trans ((Z.2 _ e1).trans e))))));have v1:S1 (k+1) g:=D1.frame _ _ _ (D1.frame _ _ _ (D1.frame _ _ _ (D1.frame _ _ _ (D1.frame _ _ _ u1 (BS d2 U)) (BS d3 T)) (BS d2 R)) (BS d3' I)) (BS d2 B);have v2:S2 (k+1) g:=D2.frame _ _ _ (D2.frame _ _ _ (D2.frame _ _ _ u2 (BS d5 R)) (BS d6' I)) (BS d5 B);have v3:S3 (k+1) g:=D3.frame _ _ _ u3 (BS e5 B);show wpAny _ _ (Builtin.SmallTypes.ownedTupleHandOut (.ref z) (.ref g.objs.size)>>=_) _ _ _;unfold Builtin.SmallTypes.ownedTupleHandOut;have z8:IsZip (g.push { cls:=.type "tuple",data:=.seq #[x,y,u]}) z TI TO .ellipsis:=aE _ z7;refine aA (aA (au z8 CH fun g8 w8 m8=>au (show IsZip g8 z TI TO (rawInt g.objs.size) from w8) CH fun g9 w9 m9=>?_));have w9:IsZip g9 z TI TO (rawInt g.objs.size):=w9;have up:∀c o,c≠z->(g.push { cls:=.type "tuple",data:=.seq #[x,y,u]}).get? c=some o->g9.get? c=some o:=fun c o e1 e=>(m9.2 _ e1).trans ((m8.2 _ e1).trans e);have zl:z<g.objs.size:=aG z7;refine aB ⟨_,rfl,?_⟩;show Q (.ref g.objs.size) _;have fin:=q x y u g9 tk6 p1 p2 p3 (by rw[<-sz];exact w9) (up _ _ c5 (aE _ o7)) (D1.frame _ _ _ v1 fun c hc o e=>up c o (fun y=>d1 (y ▸ hc)) (aE _ e)) (D2.frame _ _ _ v2 fun c hc o e=>up c o (fun y=>d4 (y ▸ hc)) (aE _ e)) (D3.frame _ _ _ v3 fun c hc o e=>up c o (fun y=>e4 (y ▸ hc)) (aE _ e))
  (by rw[<-sz];exact up _ _ (bQ zl) (aL _ rfl)) (by rw[<-sz,m9.1,m8.1,(IU)]) fun c o e1 e2 e3 e4 e5 e=>up c o e1 (aE _ (kp c o e1 e2 e3 e4 e5 e))
 rw[sz];exact fin
theorem lS{Q:Fin->Shared->Prop}(D1:Draws prog w A i1 f1 n1 P1 S1)(D2:Draws prog w A i2 f2 n2 P2 S2)(D3:Draws prog w A i3 f3 n3 P3 S3)(ap:Ob z TI TO i1 i2 i3 f1 f2 f3)(hz:IsZip s.heap z TI TO .none)(hI:GB s.heap TI (.ref i1) (.ref i2) (.ref i3))(hO:GB s.heap TO a b c)
 (t1:S1 k s.heap)(t2:S2 k s.heap)(t3:S3 k s.heap)(he:k=n1)
 (q:∀h' e tk,(∀c o,c≠z->c≠TO->c≠i1->c≠i2->c≠i3->s.heap.get? c=some o->h'.get? c=some o)->(∃o,h'.get? e=some o/\o.cls=.type "StopIteration")->E (.ref e) HU) :
  wpAny BY A (Builtin.«zip.__next__» ⟨[.ref z],[]⟩) Q E s:=by
 obtain⟨⟨c5,c6,c7,c7'⟩,⟨c8,c9,c9'⟩,⟨d1,d2,d3,d3'⟩,⟨d4,d5,d6,d6'⟩,e4,e5,e6,e6'⟩:=ap;show wpAny _ _ (field (.ref z) 2>>=_) _ _ _;refine aA (aZ hz rfl (x:=.bool false) rfl ?_);show wpAny _ _ (field (.ref z) 3>>=_) _ _ _;refine aA (aZ hz rfl (x:=.ref TI) rfl (aA (ai hI rfl ?_)));show wpAny _ _ (Builtin.SmallTypes.ownedTupleIsFree (.ref z)>>=_) _ _ _;unfold Builtin.SmallTypes.ownedTupleIsFree;refine aA (aA (aZ hz rfl (x:=.none) rfl (aB ?_)));simp only[if_true];refine aA (bM (aA (aZ hz rfl (x:=.ref TO) rfl (aA (au hz CH fun g1 R I=>aA ?_)))));have I:Heap.SameBut z s.heap g1:=I;have R:IsZip g1 z TI TO .ellipsis:=R;simp only[List.zipIdx_cons,List.zipIdx_nil,List.forIn_cons,List.forIn_nil];refine aA (aA (wpAny_onRaise ?_));show wpAny _ _ (Builtin.SmallTypes.nextOf (.ref i1)>>=_) _ _ _;have g:=D1.frame _ _ _ t1 (BS d1 I);rw[he]at g;refine aA (D1.done _ _ _ g fun g2 e Y B=>?_);obtain⟨o,B,Z⟩:=B;have T:IsZip g2 z TI TO .ellipsis:=Y _ _ c8.symm R;have ez:e≠z:=fun y=>by subst y;rw[T]at B;cases B;simp at Z
 exact au T CH fun g3 _ U=>q g3 e _ (fun c o e1 e2 e3 e4 e5 y=>(U.2 _ e1).trans (Y _ _ e3 ((I.2 _ e1).trans y))) ⟨o,(U.2 _ ez).trans B,Z⟩
theorem ZA{Q:Option Value->Shared->Prop}(D1:Draws prog w A.in1 i1 f1 n1 P1 S1)(D2:Draws prog w A.in1 i2 f2 n2 P2 S2)(D3:Draws prog w A.in1 i3 f3 n3 P3 S3)(ap:Ob z TI TO i1 i2 i3 f1 f2 f3)(hz:IsZip s.heap z TI TO .none)(hI:GB s.heap TI (.ref i1) (.ref i2) (.ref i3))(hO:GB s.heap TO a b c)
 (t1:S1 k s.heap)(t2:S2 k s.heap)(t3:S3 k s.heap)(l1:k<n1)(l2:k<n2)(l3:k<n3)
 (q:∀x y u h' tk,P1 k x->P2 k y->P3 k u->IsZip h' z TI TO (rawInt s.heap.objs.size)->GB h' TO x y u->S1 (k+1) h'->S2 (k+1) h'->S3 (k+1) h'->GB h' s.heap.objs.size x y u->h'.objs.size=s.heap.objs.size+1 ->
   (∀c o,c≠z->c≠TO->c≠i1->c≠i2->c≠i3->s.heap.get? c=some o->h'.get? c=some o)->Q (some GM) HU) :
  wpAny BY A (pyNext (.ref z)) Q E s:=by
 have I:s.TypeIs (.ref z) "zip" := ⟨_,hz,rfl⟩;unfold pyNext;exact aA (wpAny_attempt (aa (name:=Str.ofString "__next__") I bR
  (aW bR I F.entry_zip_next (p9 D1 D2 D3 ap hz hI hO t1 t2 t3 l1 l2 l3 fun x y u h' tk r1 r2 r3 r4 Z Y U T R B g=>aB (q x y u h' tk r1 r2 r3 r4 Z Y U T R B g)) (F.args_zip_next_1 _))))
theorem cU{Q:Option Value->Shared->Prop}(D1:Draws prog w A.in1 i1 f1 n1 P1 S1)(D2:Draws prog w A.in1 i2 f2 n2 P2 S2)(Z:Draws prog w A.in1 i3 f3 n3 P3 S3)(ap:Ob z TI TO i1 i2 i3 f1 f2 f3)(hz:IsZip s.heap z TI TO .none)(Y:GB s.heap TI (.ref i1) (.ref i2) (.ref i3))(U:GB s.heap TO a b c)
 (t1:S1 k s.heap)(t2:S2 k s.heap)(t3:S3 k s.heap)(I:k=n1)
 (q:∀h' tk,(∀c o,c≠z->c≠TO->c≠i1->c≠i2->c≠i3->s.heap.get? c=some o->h'.get? c=some o)->Q none HU) :
  wpAny BY A (pyNext (.ref z)) Q E s:=by
 have B:s.TypeIs (.ref z) "zip" := ⟨_,hz,rfl⟩;unfold pyNext;refine aA (wpAny_attempt (aa (name:=Str.ofString "__next__") B bR
  (aW bR B F.entry_zip_next (lS D1 D2 Z ap hz Y U t1 t2 t3 I fun h' e tk kp g=>?_) (F.args_zip_next_1 _))))
 obtain⟨o,g,R⟩:=g;exact aA (wpAny_isInstance (T := "StopIteration") (b:=true) ⟨o,g,R⟩ isSubtype_stop (aB (q _ _ kp)))
abbrev Oz(a b c:KS):Obj:={ cls:=.type "tuple",data:=.seq #[a,b,c]}
def nF(b1 b2 b3:Bool)(h:Heap)(g B I:Addr):Heap :=
 (((((h.push (BR b1 g)).push (BR b2 B)).push (BR b3 I)).push (Oz (.ref h.objs.size) (.ref (h.push (BR b1 g)).objs.size) (.ref ((h.push (BR b1 g)).push (BR b2 B)).objs.size))).push (Oz .none .none .none)).push
  { cls:=.type "zip",data:=.fields #[.none,.bool false,.bool false,.ref (((h.push (BR b1 g)).push (BR b2 B)).push (BR b3 I)).objs.size,.ref ((((h.push (BR b1 g)).push (BR b2 B)).push (BR b3 I)).push (Oz (.ref h.objs.size) (.ref (h.push (BR b1 g)).objs.size) (.ref ((h.push (BR b1 g)).push (BR b2 B)).objs.size))).objs.size]}
theorem gj(b1 b2 b3:Bool)(B T Y:Addr)(xs ys zs:Db) :
  Meets (Builtin.«zip.__new__» ⟨[.type "zip",.ref B,.ref T,.ref Y],[]⟩) (fun _ R s=>Sq b1 s.heap B xs/\Sq b2 s.heap T ys/\Sq b3 s.heap Y zs /\
   R (.ok (.ret (.ref (((((s.heap.push (BR b1 B)).push (BR b2 T)).push (BR b3 Y)).push (Oz GM (.ref (s.heap.push (BR b1 B)).objs.size) (.ref ((s.heap.push (BR b1 B)).push (BR b2 T)).objs.size))).push (Oz .none .none .none)).objs.size))) {s with heap:=nF b1 b2 b3 s.heap B T Y}) :=
 .of_wp fun prog w A R s h=>by
  obtain⟨I,g,d,U,os⟩:=s;obtain⟨h1,h2,h3,h⟩:=h;have Z:=sub_zip;have i1:∀(A:Around) (E:AT) (Q:AT),Q (.ref I.objs.size) ⟨I.push (BR b1 B),g,d,U,os⟩->wpAny BY A (pyIter (.ref B)) Q E ⟨I,g,d,U,os⟩:=fun A E Q q=>M7 (s:=⟨I,g,d,U,os⟩) h1 q;have i2:∀(A:Around) (E:AT) (Q:AT),Q (.ref (I.push (BR b1 B)).objs.size) ⟨(I.push (BR b1 B)).push (BR b2 T),g,d,U,os⟩->wpAny BY A (pyIter (.ref T)) Q E ⟨I.push (BR b1 B),g,d,U,os⟩:=fun A E Q q=>M7 (s:=⟨I.push (BR b1 B),g,d,U,os⟩) (h2.push _) q;have i3:∀(A:Around) (E:AT) (Q:AT),Q (.ref ((I.push (BR b1 B)).push (BR b2 T)).objs.size) ⟨((I.push (BR b1 B)).push (BR b2 T)).push (BR b3 Y),g,d,U,os⟩->wpAny BY A (pyIter (.ref Y)) Q E ⟨(I.push (BR b1 B)).push (BR b2 T),g,d,U,os⟩:=fun A E Q q=>M7 (s:=⟨(I.push (BR b1 B)).push (BR b2 T),g,d,U,os⟩) ((h3.push _).push _) q
  wp_walk using i1,i2,i3
  exact⟨_,rfl,h⟩
theorem jT(a b c:KS):checkTypeCall "zip" ⟨[a,b,c],[]⟩=pure ():=by kernel_rfl
theorem je(a b c:KS):checkBuiltinCall "zip.__new__" ⟨[.type "zip",a,b,c],[]⟩=pure ():=by kernel_rfl
theorem jP(a b c d:KS):argsOk "object.__init__" ⟨[a,b,c,d],[]⟩:=by
 unfold argsOk;rw[signature?_of (n:=['_','_','t','i','n','i','_','_']) (o:=['t','c','e','j','b','o']) Jz F.owner_object]
 kernel_rfl
theorem dH{b1 b2 b3:Bool}{R I B:Addr}{xs ys zs:Db}{Q:AT}(h1:Sq b1 s.heap R xs)(h2:Sq b2 s.heap I ys)(h3:Sq b3 s.heap B zs)
 (h:∀h',IsZip h' (s.heap.objs.size+5) (s.heap.objs.size+3) (s.heap.objs.size+4) .none->GB h' (s.heap.objs.size+3) GM (.ref KF) (.ref (s.heap.objs.size+2))->GB h' (s.heap.objs.size+4) .none .none .none ->
   Ky b1 h' s.heap.objs.size R 0->Ky b2 h' KF I 0->Ky b3 h' (s.heap.objs.size+2) B 0->(∀c o,s.heap.get? c=some o->h'.get? c=some o)->Q (.ref (s.heap.objs.size+5)) {s with heap:=h'}) :
  wpAny BY A (call (.type "zip") [.ref R,.ref I,.ref B]) Q E s:=by
 refine callType_new F.called_zip As (jT _ _ _) (je _ _ _) (fun obj=>jP obj _ _ _) F.entry_zip_new (gj b1 b2 b3 R I B xs ys zs) ⟨h1,h2,h3,?_⟩;have up:∀(g:Heap) (o:Obj) (c:Addr) (u:Obj),g.get? c=some u->(g.push o).get? c=some u:=fun g o c u e=>aE _ e;have n1:(s.heap.push (BR b1 R)).objs.size=s.heap.objs.size+1:=Heap.size_push ..;have a0:(s.heap.push (BR b1 R)).get? s.heap.objs.size=some (BR b1 R):=aL _ (by cases b1<;>rfl);generalize hg1:s.heap.push (BR b1 R)=g1 at n1 a0;have k1:∀c o,s.heap.get? c=some o->g1.get? c=some o:=fun c o e=>by rw[<-hg1];exact up _ _ _ _ e
 have n2:(g1.push (BR b2 I)).objs.size=s.heap.objs.size+2:=by rw[(IU),n1]
 have a1:(g1.push (BR b2 I)).get? KF=some (BR b2 I):=by rw[<-n1];exact aL _ (by cases b2<;>rfl)
 generalize hg2:g1.push (BR b2 I)=g2 at n2 a1;have k2:∀c o,g1.get? c=some o->g2.get? c=some o:=fun c o e=>by rw[<-hg2];exact up _ _ _ _ e
 have n3:(g2.push (BR b3 B)).objs.size=s.heap.objs.size+3:=by rw[(IU),n2]
 have a2:(g2.push (BR b3 B)).get? (s.heap.objs.size+2)=some (BR b3 B):=by rw[<-n2];exact aL _ (by cases b3<;>rfl)
 generalize hg3:g2.push (BR b3 B)=g3 at n3 a2;have k3:∀c o,g2.get? c=some o->g3.get? c=some o:=fun c o e=>by rw[<-hg3];exact up _ _ _ _ e
 have n4:(g3.push (Oz GM (.ref KF) (.ref (s.heap.objs.size+2)))).objs.size=s.heap.objs.size+4:=by rw[(IU),n3]
 have a3:GB (g3.push (Oz GM (.ref KF) (.ref (s.heap.objs.size+2)))) (s.heap.objs.size+3) GM (.ref KF) (.ref (s.heap.objs.size+2)):=by rw[<-n3];exact aL _ rfl
 generalize U:g3.push (Oz GM (.ref KF) (.ref (s.heap.objs.size+2)))=g4 at n4 a3;have k4:∀c o,g3.get? c=some o->g4.get? c=some o:=fun c o e=>by rw[<-U];exact up _ _ _ _ e
 have n5:(g4.push (Oz .none .none .none)).objs.size=s.heap.objs.size+5:=by rw[(IU),n4]
 have a4:GB (g4.push (Oz .none .none .none)) (s.heap.objs.size+4) .none .none .none:=by rw[<-n4];exact aL _ rfl
 generalize T:g4.push (Oz .none .none .none)=g5 at n5 a4;have Z:∀c o,g4.get? c=some o->g5.get? c=some o:=fun c o e=>by rw[<-T];exact up _ _ _ _ e
 have ez:nF b1 b2 b3 s.heap R I B=g5.push { cls:=.type "zip",data:=.fields #[.none,.bool false,.bool false,.ref (s.heap.objs.size+3),.ref (s.heap.objs.size+4)]}:=by
  unfold nF;rw[hg1,hg2,hg3,n1,n2,U,T,n3,n4]
 have a5:IsZip (g5.push { cls:=.type "zip",data:=.fields #[.none,.bool false,.bool false,.ref (s.heap.objs.size+3),.ref (s.heap.objs.size+4)]}) (s.heap.objs.size+5) (s.heap.objs.size+3) (s.heap.objs.size+4) .none:=by rw[<-n5];exact aL _ rfl
 rw[n1,n2,U,T,n5,ez];show _/\_;have Y:∀c o,g5.get? c=some o->(g5.push { cls:=.type "zip",data:=.fields #[.none,.bool false,.bool false,.ref (s.heap.objs.size+3),.ref (s.heap.objs.size+4)]}).get? c=some o:=fun c o e=>up _ _ _ _ e;refine⟨⟨_,a5,rfl⟩,h _ a5 (Y _ _ (Z _ _ a3)) (Y _ _ a4) ?_ ?_ ?_ fun c o e=>Y _ _ (Z _ _ (k4 _ _ (k3 _ _ (k2 _ _ (k1 _ _ e)))))⟩
 .have:=Y _ _ (Z _ _ (k4 _ _ (k3 _ _ (k2 _ _ a0))));cases b1 with
  |true=>exact⟨_,this,rfl,rfl⟩
  |false=>exact⟨_,this,rfl,rfl⟩
 .have:=Y _ _ (Z _ _ (k4 _ _ (k3 _ _ a1)));cases b2 with
  |true=>exact⟨_,this,rfl,rfl⟩
  |false=>exact⟨_,this,rfl,rfl⟩
 .have:=Y _ _ (Z _ _ (k4 _ _ a2));cases b3 with
  |true=>exact⟨_,this,rfl,rfl⟩
  |false=>exact⟨_,this,rfl,rfl⟩
end
end ZT
namespace L2
open PySem PySem.Spec PyProof.Rows
def fT(b1 b2 b3:Bool)(a1 a2 a3:Addr):It :=
 ⟨fun i H=>∃xs x ys y g u,Cp b1 H a1 xs/\Cp b2 H a2 ys/\Cp b3 H a3 g/\xs[i]? = some x/\ys[i]? = some y/\g[i]? = some u,
  fun i H v H'=>∃p x y u,v=.ref p/\H p=none/\H'=upd H p (.tup [x,y,u])/\(∀xs,Cp b1 H a1 xs->xs[i]? = some x)/\(∀ys,Cp b2 H a2 ys->ys[i]? = some y)/\∀g,Cp b3 H a3 g->g[i]? = some u,
  fun i H=>∃xs ys g,Cp b1 H a1 xs/\Cp b2 H a2 ys/\Cp b3 H a3 g/\i=xs.length⟩
def sR(b1 b2 b3:Bool)(a1 a2 a3 z TI TO i1 i2 i3:Addr):Nat->Heap->Prop:=fun i h=>IsZip h z TI TO .none/\ZT.GB h TI (.ref i1) (.ref i2) (.ref i3)/\(∃a b c,ZT.GB h TO a b c)/\ZT.Ky b1 h i1 a1 i/\ZT.Ky b2 h i2 a2 i/\ZT.Ky b3 h i3 a3 i
theorem d8{z TI TO i1 i2 i3 a1 a2 a3:Addr}(ne:[z,TI,TO,i1,i2,i3].Nodup)(e1:∀b∈[z,TI,TO,i1,i2,i3],a1≠b)(e2:∀b∈[z,TI,TO,i1,i2,i3],a2≠b)(e3:∀b∈[z,TI,TO,i1,i2,i3],a3≠b):ZT.Ob z TI TO i1 i2 i3 [i1,a1] [i2,a2] [i3,a3]:=by
 simp only[List.nodup_cons,List.mem_cons,List.not_mem_nil,or_false,not_or]at ne;obtain⟨⟨n1,n2,n3,Z,B⟩,⟨n5,n6,n7,n7'⟩,⟨Y,U,g⟩,⟨T,R⟩,I,_⟩:=ne;have x:∀ {a:Addr},(∀b∈[z,TI,TO,i1,i2,i3],a≠b)->z≠a/\TO≠a/\i1≠a/\i2≠a/\i3≠a:=fun h=>⟨Ne.symm (h z CH),Ne.symm (h TO CH),Ne.symm (h i1 CH),Ne.symm (h i2 CH),Ne.symm (h i3 CH)⟩;have m:∀ {b i a:Addr},b≠i->b≠a->b ∉ [i,a]:=fun h1 h2=>by simp[h1,h2]
 obtain⟨x1,x2,x3,x4,x5⟩:=x e1;obtain⟨y1,y2,y3,y4,y5⟩:=x e2;obtain⟨w1,w2,w3,w4,w5⟩:=x e3;exact⟨⟨Ne.symm n2,Y,U,g⟩,⟨Ne.symm n3,Ne.symm Z,Ne.symm B⟩,⟨m n3 x1,m Y x2,m (Ne.symm T) x4,m (Ne.symm R) x5⟩,⟨m Z y1,m U y2,m T y3,m (Ne.symm I) y5⟩,⟨m B w1,m g w2,m R w3,m I w4⟩⟩
theorem er{P:G8}{w:Id}{K:At}{elts:List Expr}{x1}{pos:Pos}{b1 b2 b3:Bool}{a1 a2 a3 z TI TO i1 i2 i3:Addr}(ne:[z,TI,TO,i1,i2,i3].Nodup) :
  Turn P w K (.Tuple elts x1 pos) (fT b1 b2 b3 a1 a2 a3) [z,TI,TO,i1,i2,i3] z (sR b1 b2 b3 a1 a2 a3 z TI TO i1 i2 i3) where
 mem:=by simp
 obj:=fun i h st b hb=>by
  obtain⟨h1,h2,⟨u,v,w,h3⟩,h4,h5,h6⟩:=st;have hb:b=z\/b=TI\/b=TO\/b=i1\/b=i2\/b=i3:=by simpa using hb
  rcases hb with rfl|rfl|rfl|rfl|rfl|rfl
  .exact⟨_,h1,fun v y=>by cases y⟩
  .exact⟨_,h2,fun v y=>by cases y⟩
  .exact⟨_,h3,fun v y=>by cases y⟩
  .exact GN h4
  .exact GN h5
  .exact GN h6
 keep:=fun i h h' st k=>by
  obtain⟨h1,h2,⟨u,v,w,h3⟩,h4,h5,h6⟩:=st;exact⟨k z CH _ h1,k TI CH _ h2,⟨u,v,w,k TO CH _ h3⟩,FO h4 fun o e=>k i1 CH o e,FO h5 fun o e=>k i2 CH o e,FO h6 fun o e=>k i3 CH o e⟩
 item:=by
  intro X hP hw hK hc i pins s σ H E I hf st hg;subst hP hw hK;obtain⟨xs,x,ys,y,zs,t,q1,q2,q3,hx,hy,ht⟩:=hg;obtain⟨us,rv1,p1⟩:=q1.raw I;obtain⟨vs,rv2,p2⟩:=q2.raw I;obtain⟨ws,rv3,p3⟩:=q3.raw I;obtain⟨u,hu,ru⟩:=rv1.get hx;obtain⟨v,hv,rv⟩:=rv2.get hy;obtain⟨o3,hw,rw'⟩:=rv3.get ht;obtain⟨t1,t2,⟨ta,tb,tc,t3⟩,t4,t5,t6⟩:=st;have e1:∀b∈[z,TI,TO,i1,i2,i3],a1≠b:=fun b hb=>q1.none (hf b hb).1;have e2:∀b∈[z,TI,TO,i1,i2,i3],a2≠b:=fun b hb=>q2.none (hf b hb).1;have e3:∀b∈[z,TI,TO,i1,i2,i3],a3≠b:=fun b hb=>q3.none (hf b hb).1;refine ZT.ZA (ZT.FP (prog:=X.prog) (w:=X.w) (A:=X.A.in1) (I.ok.hd hc) b1 i1 a1 us (e1 i1 CH)) (ZT.FP (prog:=X.prog) (w:=X.w) (A:=X.A.in1) (I.ok.hd hc) b2 i2 a2 vs (e2 i2 CH)) (ZT.FP (prog:=X.prog) (w:=X.w) (A:=X.A.in1) (I.ok.hd hc) b3 i3 a3 ws (e3 i3 CH)) (d8 ne e1 e2 e3) t1 t2 t3 ⟨t4,p1⟩ ⟨t5,p2⟩ ⟨t6,p3⟩ (aD.mp hu).1 (aD.mp hv).1 (aD.mp hw).1
   fun u' v' w' h' tk r1 r2 r2' r3 r4 r5 r6 r6' r7 r8 r9=>⟨_,rfl,wpAny_letOwnedTupleGo_zip (s:={s with heap:=h',toks:=tk}) r3 fun h'' z'' sb=>?_⟩
  rw[hu]at r1;rw[hv]at r2;rw[hw]at r2';cases r1;cases r2;cases r2';have ne':=ne;simp only[List.nodup_cons,List.mem_cons,List.not_mem_nil,or_false,not_or]at ne';obtain⟨⟨n1,n2,n3,n4,n4'⟩,⟨n5,n6,n7,n7'⟩,⟨n8,n9,n9'⟩,⟨n10,n11⟩,n12,_⟩:=ne';have keep:∀b o,b ∉ [z,TI,TO,i1,i2,i3]->s.heap.get? b=some o->h''.get? b=some o:=fun b o hb q=>by
   simp only[List.mem_cons,List.not_mem_nil,or_false,not_or]at hb;exact(sb.2 b hb.1).trans (r9 b o hb.1 hb.2.2.1 hb.2.2.2.1 hb.2.2.2.2.1 hb.2.2.2.2.2 q)
  have lt:∀b∈[z,TI,TO,i1,i2,i3],b<s.heap.objs.size:=fun b hb=>by
   have hb:b=z\/b=TI\/b=TO\/b=i1\/b=i2\/b=i3:=by simpa using hb
   rcases hb with rfl|rfl|rfl|rfl|rfl|rfl
   .exact aG t1
   .exact aG t2
   .exact aG t3
   .obtain⟨o,e,_⟩:=GN t4;exact aG e
   .obtain⟨o,e,_⟩:=GN t5;exact aG e
   .obtain⟨o,e,_⟩:=GN t6;exact aG e
  have hTn:H s.heap.objs.size=none:=I.BA.fresh (aH _);have hT'':h''.get? s.heap.objs.size=some { cls:=.type "tuple",data:=.seq #[u,v,o3]}:=(sb.2 _ (bQ (lt z CH))).trans r7;refine⟨.ref s.heap.objs.size,upd H s.heap.objs.size (.tup [x,y,t]),?_,rfl,⟨_,x,y,t,rfl,hTn,rfl,fun zs hz=>by rw[hz.inj q1];exact hx,fun zs hz=>by rw[hz.inj q2];exact hy,fun zs hz=>by rw[hz.inj q3];exact ht⟩,⟨z'',?_,⟨u,v,o3,?_⟩,?_,?_,?_⟩,fun b hb=>?_⟩
  .exact I.Rk hf keep (show 3<=sizeLine by decide) (.cons ru (.cons rv (.cons rw' .nil))) hT''
  .exact(sb.2 _ (Ne.symm n1)).trans (r9 _ _ (Ne.symm n1) n5 n6 n7 n7' t2)
  .exact(sb.2 _ (Ne.symm n2)).trans r4
  .exact FO r5.1 fun o e=>(sb.2 _ (Ne.symm n3)).trans e
  .exact FO r6.1 fun o e=>(sb.2 _ (Ne.symm n4)).trans e
  .exact FO r6'.1 fun o e=>(sb.2 _ (Ne.symm n4')).trans e
  .rw[AR (aO (lt b hb))];exact(hf b hb).1
 done:=by
  intro X hP hw hK hc i pins s σ H E I hf st hg;subst hP hw hK;obtain⟨xs,ys,zs,q1,q2,q3,he⟩:=hg;obtain⟨us,rv1,p1⟩:=q1.raw I;obtain⟨vs,rv2,p2⟩:=q2.raw I;obtain⟨ws,rv3,p3⟩:=q3.raw I;obtain⟨t1,t2,⟨ta,tb,tc,t3⟩,t4,t5,t6⟩:=st;have e1:∀b∈[z,TI,TO,i1,i2,i3],a1≠b:=fun b hb=>q1.none (hf b hb).1;have e2:∀b∈[z,TI,TO,i1,i2,i3],a2≠b:=fun b hb=>q2.none (hf b hb).1;have e3:∀b∈[z,TI,TO,i1,i2,i3],a3≠b:=fun b hb=>q3.none (hf b hb).1;have he':i=us.length:=by rw[<-rv1.length];exact he
  refine ZT.cU (ZT.FP (prog:=X.prog) (w:=X.w) (A:=X.A.in1) (I.ok.hd hc) b1 i1 a1 us (e1 i1 CH)) (ZT.FP (prog:=X.prog) (w:=X.w) (A:=X.A.in1) (I.ok.hd hc) b2 i2 a2 vs (e2 i2 CH)) (ZT.FP (prog:=X.prog) (w:=X.w) (A:=X.A.in1) (I.ok.hd hc) b3 i3 a3 ws (e3 i3 CH)) (d8 ne e1 e2 e3) t1 t2 t3 ⟨t4,p1⟩ ⟨t5,p2⟩ ⟨t6,p3⟩ he' fun h' tk kp=>⟨rfl,?_⟩;have keep:∀b o,b ∉ [z,TI,TO,i1,i2,i3]->s.heap.get? b=some o->h'.get? b=some o:=fun b o hb q=>by
   simp only[List.mem_cons,List.not_mem_nil,or_false,not_or]at hb;exact kp b o hb.1 hb.2.2.1 hb.2.2.2.1 hb.2.2.2.2.1 hb.2.2.2.2.2 q
  exact I.turn hf keep
 self:=fun _ _ _ _ _ st h=>wpAny_pyIter_zip st.1 h
def qZ(I:TA):TI:=fun σ H R=>I σ H fun vs g=>∃(b1 b2 b3:Bool) (a1 a2 a3:Addr),vs=[.ref a1,.ref a2,.ref a3]/\(∃xs,Cp b1 g a1 xs)/\(∃ys,Cp b2 g a2 ys)/\(∃B,Cp b3 g a3 B)/\R (fT b1 b2 b3 a1 a2 a3) g
theorem jE{X:Cx}{elts:List Expr}{x1}{B:Pos}{a b c:Expr}{ta:TA}{p pos:Pos}(hg:Gl X "zip")(hm:X.mg "zip" = none)(ha:PA X [a,b,c] ta)(hs:starEach [a,b,c] X.env=[(false,eval a X.env),(false,eval b X.env),(false,eval c X.env)]:=by rfl)(U:starEach [b,c] X.env=[(false,eval b X.env),(false,eval c X.env)]:=by rfl) :
  PI X (.Tuple elts x1 B) (.Call (.Name "zip" p) [a,b,c] [] pos) (qZ ta):=by
 intro pins s σ H R I h;refine Call_ (Hh I hg hm boot_zip (ax (BQ (ha pos pins s σ H _ I h) fun us s1 ⟨vs,H1,g,r1,q1⟩=>?_) (by rw[hs,U]) (by rw[U];rfl)));obtain⟨b1,b2,b3,l1,l2,l3,e,⟨xs,h1⟩,⟨ys,h2⟩,⟨zs,h3⟩,q⟩:=q1;subst e;cases r1 with
 |cons r T=>
  cases T with
  |cons r' T=>
   cases T with
   |cons Z T=>
    cases T;cases r;cases r';cases Z;obtain⟨us,_,p1⟩:=h1.raw g;obtain⟨vs,_,p2⟩:=h2.raw g;obtain⟨ws,_,p3⟩:=h3.raw g;refine ZT.dH p1 p2 p3 fun h' z1 z2 z3 z4 z5 z6 hk=>wpAny_pyIter_zip z1 ?_;have I2:Inv X pins σ H1 {s1 with heap:=h'}:=g.kept (t':=s1.toks) hk;refine⟨_,[s1.heap.objs.size+5,s1.heap.objs.size+3,s1.heap.objs.size+4,s1.heap.objs.size,s1.heap.objs.size+1,s1.heap.objs.size+2],_,_,H1,rfl,I2,er ?_,⟨z1,z2,⟨_,_,_,z3⟩,z4,z5,z6⟩,fun b hb=>?_,q⟩
    .simp
    have Y:s1.heap.objs.size<=b:=by
     have hb2:b=s1.heap.objs.size+5\/b=s1.heap.objs.size+3\/b=s1.heap.objs.size+4\/b=s1.heap.objs.size\/b=s1.heap.objs.size+1\/b=s1.heap.objs.size+2:=by simpa using hb
     rcases hb2 with h|h|h|h|h|h<;>rw[h]<;>first|exact aH _|exact Nat.le_add_right _ _
    exact g.QQ Y (g.BA.fresh Y)
def Lm(xs ys zs:Ch):List PyData:=(xs.zip (ys.zip zs)).map fun q=>.tuple [q.1,q.2.1,q.2.2]
theorem UT{xs ys zs:Ch}{i:Nat}{d:IR}(h:(Lm xs ys zs)[i]? = some d):∃x y z,xs[i]? = some x/\ys[i]? = some y/\zs[i]? = some z/\d=.tuple [x,y,z]:=by
 unfold Lm at h;rw[(B7)]at h;obtain⟨q,T,rfl⟩:=aF.mp h;obtain⟨R,I⟩:=List.getElem?_zip_eq_some.mp T;obtain⟨B,g⟩:=List.getElem?_zip_eq_some.mp I;exact⟨q.1,q.2.1,q.2.2,R,B,g,rfl⟩
theorem kC{Gc H:Hp}{p:Addr}{x y z:IR}{u v w:V}(I:AN Gc H)(B:H p=none)(d1:Du Gc x u)(d2:Du Gc y v)(T:Du Gc z w):∃Gc',AN Gc Gc'/\Nw Gc H Gc'/\AN Gc' (upd H p (.tup [u,v,w]))/\AN H (upd H p (.tup [u,v,w]))/\Du Gc' (.tuple [x,y,z]) (.ref p):=by
 have R:Gc p=none:=by
  cases q:Gc p with
  |none=>rfl
  |some o=>rw[I _ _ q]at B;cases B
 have e:AN Gc (upd Gc p (.tup [u,v,w])):=Ab R _;refine⟨upd Gc p (.tup [u,v,w]),e,fun b o h=>?_,fun b o h=>?_,Ab B _,?_⟩
 .by_cases g:b=p
  .subst g;exact .inr (.inl B)
  .rw[AR g]at h;exact .inl h
 .by_cases g:b=p
  .subst g;rw[AM]at h ⊢;exact h
  .rw[AR g]at h ⊢;exact I _ _ h
 .rw[Du];exact⟨p,_,rfl,AM,.cons (d1.same e) (.cons (d2.same e) (.cons (T.same e) .nil))⟩
theorem kY{G:Hp}{b1 b2 b3:Bool}{a1 a2 a3:Addr}{us vs ws:Fa}{xs ys zs:Ch}(h1:G a1=some (if b1 then .tup us else .lst us))(h2:G a2=some (if b2 then .tup vs else .lst vs))(h3:G a3=some (if b3 then .tup ws else .lst ws))(d1:A4 G xs us)(d2:A4 G ys vs)(d3:A4 G zs ws)(l2:xs.length<=ys.length)(l3:xs.length<=zs.length):MH (fT b1 b2 b3 a1 a2 a3) (Lm xs ys zs) G where
 stop:=fun H e=>by
  have k1:=e _ _ h1;have k2:=e _ _ h2;have k3:=e _ _ h3;refine⟨us,vs,ws,?_,?_,?_,?_⟩
  .cases b1<;>simpa[Cp]using k1
  .cases b2<;>simpa[Cp]using k2
  .cases b3<;>simpa[Cp]using k3
  .rw[d1.len];simp[Lm];lia
 go:=fun i x H hx e=>by
  obtain⟨x1,x2,x3,k1,k2,k3,rfl⟩:=UT hx;obtain⟨v1,j1,_⟩:=d1.get k1;obtain⟨v2,j2,_⟩:=d2.get k2;obtain⟨v3,j3,_⟩:=d3.get k3;have m1:=e _ _ h1;have m2:=e _ _ h2;have m3:=e _ _ h3;refine⟨us,v1,vs,v2,ws,v3,?_,?_,?_,j1,j2,j3⟩
  .cases b1<;>simpa[Cp]using m1
  .cases b2<;>simpa[Cp]using m2
  .cases b3<;>simpa[Cp]using m3
 Fw:=fun i x H v H' hx e y Gc e1 e2=>by
  obtain⟨x1,x2,x3,k1,k2,k3,rfl⟩:=UT hx;obtain⟨p,v1,v2,v3,rfl,hp,rfl,y1,y2,y3⟩:=y;have m1:=e _ _ h1;have m2:=e _ _ h2;have m3:=e _ _ h3;have z1:=y1 us (by cases b1<;>simpa[Cp]using m1);have z2:=y2 vs (by cases b2<;>simpa[Cp]using m2);have z3:=y3 ws (by cases b3<;>simpa[Cp]using m3);obtain⟨w1,n1,n2⟩:=d1.back z1;obtain⟨w2,n3,n4⟩:=d2.back z2;obtain⟨w3,n5,n6⟩:=d3.back z3;rw[k1]at n1;cases n1;rw[k2]at n3;cases n3;rw[k3]at n5;cases n5;exact kC e2 hp (n2.same e1) (n4.same e1) (n6.same e1)
def TF:List PyData->Option (List PyData)
 |[x,y,z]=>(GZ x).bind fun xs=>(GZ y).bind fun ys=>(GZ z).bind fun g=>if xs.length<=ys.length/\xs.length<=g.length then some (Lm xs ys g) else none
 |_=>none
section
variable{X:Cx}{a b c:Expr}{fs:Fp}{pos p:Pos}
theorem jF{elts:List Expr}{x1}{g:Pos}(hg:Gl X "zip")(hm:X.mg "zip" = none)(ha:DA X [a,b,c] fs)(hs:starEach [a,b,c] X.env=[(false,eval a X.env),(false,eval b X.env),(false,eval c X.env)]:=by rfl)(I:starEach [b,c] X.env=[(false,eval b X.env),(false,eval c X.env)]:=by rfl) :
  DI X (.Tuple elts x1 g) (.Call (.Name "zip" p) [a,b,c] [] pos) (fun δ=>(fs δ).bind TF):=by
 obtain⟨t,p,k⟩:=ha;refine⟨_,jE hg hm p hs I,fun δ xs h G0 H0 G H σ ts R R0 q=>?_⟩;obtain⟨x,h1,B⟩:=aC.mp h;refine k δ _ h1 G0 H0 G H σ ts _ R0 fun vs G' H' R' hv=>?_;obtain⟨d,R2⟩:=R'.args hv;unfold TF at B;split at B
 .obtain⟨xs1,h3,h4⟩:=aC.mp B;obtain⟨ys1,h5,h6⟩:=aC.mp h4;obtain⟨zs1,h7,T⟩:=aC.mp h6;split at T
  rotate_left
  .cases T
  rename_i hh;cases T;obtain⟨v1,r1,rfl,du,d⟩:=d.un;obtain⟨v2,r2,rfl,dv,d⟩:=d.un;obtain⟨w,rfl,dw⟩:=d.Iw;obtain⟨b1,a1,us,rfl,Y,n2⟩:=LO du h3;obtain⟨b2,a2,vs,rfl,Z,m2⟩:=LO dv h5;obtain⟨b3,a3,ws,rfl,U,o2⟩:=LO dw h7;have s1:=R2.ins _ _ Y;have s2:=R2.ins _ _ Z;have s3:=R2.ins _ _ U;exact⟨b1,b2,b3,a1,a2,a3,rfl,⟨us,by cases b1<;>simpa[Cp]using s1⟩,⟨vs,by cases b2<;>simpa[Cp]using s2⟩,⟨ws,by cases b3<;>simpa[Cp]using s3⟩,q _ _ _ R2 (kY Y Z U n2 m2 o2 hh.1 hh.2)⟩
 .cases B
def Wx(i j l:Nat)(y:IR)(δ:Dv):Option Dv:=match y with
 |.tuple [u,v,w]=>some (((δ.set i (.d u)).set j (.d v)).set l (.d w))
 |_=>none
theorem fR{x y z:Str}{i j l:Nat}{Z Y U:Pos}{k1}(h:PG X (.Tuple [.Name x Z,.Name y Y,.Name z U] k1 pos) (cC X.K 3 (L3 (FU i) (L3 (FU j) (L3 (FU l) Zz))))):DG X (.Tuple [.Name x Z,.Name y Y,.Name z U] k1 pos) (Wx i j l):=by
 refine⟨_,h,fun δ z δ' e G0 H0 G H σ v Q R k=>?_⟩;unfold Wx at e;split at e
 .cases e;have du:=R.Cr _ (.head _);rw[Du]at du;obtain⟨a,ys,rfl,n1,g⟩:=du;obtain⟨T,r1,rfl,m1,g⟩:=g.un;obtain⟨I,r2,rfl,m2,g⟩:=g.un;obtain⟨B,rfl,m3⟩:=g.Iw;refine⟨a,[T,I,B],rfl,BE.of (R.ins _ _ n1),rfl,T,[I,B],rfl,I,[B],rfl,B,[],rfl,rfl,?_⟩;exact k _ _ _ ((((R.drop.put m3).put m2).put m1).KJ.KJ.KJ)
 .cases e
end
end L2
set_option maxHeartbeats 1000000
set_option maxHeartbeats 4000000
set_option maxHeartbeats 1000000
set_option maxHeartbeats 4000000
set_option maxHeartbeats 1000000
set_option maxHeartbeats 4000000
set_option maxHeartbeats 1000000
set_option maxHeartbeats 2000000
set_option maxHeartbeats 4000000
set_option maxHeartbeats 1000000
set_option maxHeartbeats 4000000
set_option maxHeartbeats 1000000
set_option maxHeartbeats 4000000
set_option maxHeartbeats 1000000
set_option maxHeartbeats 4000000
namespace L2
open PySem PySem.Spec PyProof.Rows
theorem ZH:∀ {u:KS} {x:V},ZL u=some x->RelV x u
 |.none,_,e=>by cases e;exact rfl
 |.bool _,_,e=>by cases e;exact rfl
 |.int _ _,_,e=>by cases e;exact⟨_,rfl⟩
 |.str _ _,_,e=>by cases e;exact⟨_,rfl⟩
 |.bytes _ _,_,e=>by cases e;exact⟨_,rfl⟩
 |.float _ _,_,e=>by cases e;exact⟨_,rfl⟩
 |.ref _,_,e=>by cases e;exact rfl
 |.type _,_,e=>by cases e;exact rfl
theorem QE:∀ {us:Db} {xs:Fa},us.map ZL=xs.map some->Vals xs us
 |[],[],_=>.nil
 |[],_::_,e=>by simp at e
 |_::_,[],e=>by simp at e
 |_::_,_::_,e=>by
  simp only[List.map_cons,List.cons.injEq]at e;exact .cons (ZH e.1) (QE e.2)
def G6(d:Nat)(od:Obj):Hp:=fun(b:Nat)=>if b=d then some (.Ft od (.dK (PQ d))) else if b<=d then none else((OP d)[b-d-1]?).map .tup
theorem nu{d:Nat}{od:Obj}:G6 d od d=some (.Ft od (.dK (PQ d))):=if_pos rfl
theorem ma{d:Nat}{od:Obj}{j:Nat}{xs:Fa}(e:(OP d)[j]? = some xs):G6 d od (d+1+j)=some (.tup xs):=by
 unfold G6;rw[if_neg AS,if_neg AS,show d+1+j-d-1=j by lia,e];rfl
theorem LN{d b:Nat}{od:Obj}{u:HO}(e:G6 d od b=some u):(b=d/\u=.Ft od (.dK (PQ d)))\/∃j xs,b=d+1+j/\(OP d)[j]? = some xs/\u=.tup xs:=by
 unfold G6 at e;by_cases g:b=d
 .rw[if_pos g]at e;cases e;exact .inl ⟨g,rfl⟩
 .rw[if_neg g]at e;by_cases B:b<=d
  .rw[if_pos B]at e;cases e
  .rw[if_neg B]at e;obtain⟨xs,e1,I⟩:=aF.mp e;exact .inr ⟨b-d-1,xs,by lia,e1,I.symm⟩
structure Sl(P:Params)(d:Nat)(od:Obj)(tv:List (List Value))(Kt:At):Prop where
 sys:(d==sysModules)=false
 obj:∃t1 t2 t3 t4 t5,od=pM P d t1 t2 t3 t4 t5
 V0:Kt.lookup d=some od
 tup:∀j its,tv[j]? = some its->Kt.lookup (d+1+j)=some (ZY its)
 same:tv.map (·.map ZL)=(OP d).map (·.map some)
 I0:(OP d).all (fun xs=>decide (xs.length<=4))=true
theorem Sl.BA{P:G8}{w:Id}{d:Nat}{od:Obj}{tv:List (List Value)}{Kt:At}{h:Heap}(T:Sl w.params d od tv Kt)(K:Kt.In h):Ek P w (G6 d od) h:=fun b u e=>by
 rcases LN e with ⟨rfl,rfl⟩|⟨j,xs,rfl,R,rfl⟩
 .obtain⟨t1,t2,t3,t4,t5,B⟩:=T.obj;refine⟨K _ _ T.V0,(by decide:(5:Nat)<=sizeLine),T.sys,?_⟩;refine⟨[(.inr "plain",.ref (b+5)),(.inr "middle",.ref (b+13)),(.inr "heel",.ref (b+21)),(.inr "third",.ref (b+33)),(.inr "fourth",.ref (b+50))],?_,od,#[eD w.params "plain" t1 (b+5),eD w.params "middle" t2 (b+13),eD w.params "heel" t3 (b+21),eD w.params "third" t4 (b+33),eD w.params "fourth" t5 (b+50)],5,K _ _ T.V0,?_,?_,?_,?_,?_⟩
  .exact .cons ⟨rfl,rfl⟩ (.cons ⟨rfl,rfl⟩ (.cons ⟨rfl,rfl⟩ (.cons ⟨rfl,rfl⟩ (.cons ⟨rfl,rfl⟩ .nil))))
  .rw[B];exact⟨rfl,rfl,rfl⟩
  .rw[B]
  .intro e I;simp only[List.mem_toArray,List.mem_cons,List.not_mem_nil,or_false]at I;rcases I with rfl|rfl|rfl|rfl|rfl
   .exact⟨.inr "plain",Dy _ t1,rfl⟩
   .exact⟨.inr "middle",Dy _ t2,rfl⟩
   .exact⟨.inr "heel",Dy _ t3,rfl⟩
   .exact⟨.inr "third",Dy _ t4,rfl⟩
   .exact⟨.inr "fourth",Dy _ t5,rfl⟩
  .exact .cons (Dy _ t1) rfl (.cons (Dy _ t2) rfl (.cons (Dy _ t3) rfl (.cons (Dy _ t4) rfl (.cons (Dy _ t5) rfl .nil))))
  .show([.inr "plain",.inr "middle",.inr "heel",.inr "third",.inr "fourth"]:List Key).Nodup
   decide
 .have g:=ay (fun l=>l[j]?) T.same;simp only[List.getElem?_map,R,Option.map_some]at g;obtain⟨its,e1,U⟩:=aF.mp g;refine⟨?_,its,QE U,_,K _ _ (T.tup j its e1),rfl,0,rfl⟩;have:=az.mp T.I0 xs (aT R);exact aR (ah this) As
theorem VP:∀(tv:List (List Value)) (n j:Nat) (its:Db),tv[j]? = some its->(NH n tv).lookup (n+j)=some (ZY its)
 |[],_,_,_,e=>by simp at e
 |x::r,n,0,its,e=>by simp at e;subst e;simp[NH]
 |x::r,n,j+1,its,e=>by
  have h:=VP r (n+1) j its (by simpa using e);rw[NH,(Ow),beq_eq_false_iff_ne.mpr (show n+(j+1)≠n by lia),show n+(j+1)=n+1+j by lia];exact h
theorem fe{d:Nat}{od:Obj}{tv:List (List Value)}{j:Nat}{its:Db}(e:tv[j]? = some its):List.lookup (d+1+j) ((d,od)::NH (d+1) tv)=some (ZY its):=by
 show List.lookup (d+1+j) ((d,od)::NH (d+1) tv)=_;rw[(Ow),beq_eq_false_iff_ne.mpr (show d+1+j≠d by lia)];exact VP tv (d+1) j its e
theorem VI:∀ {l:At} {b:Nat} {o:Obj},l.lookup b=some o->((b,o):Addr×Obj)∈l
 |[],_,_,e=>by cases e
 |(c,p)::l,b,o,e=>by
  rw[(Ow)]at e;by_cases h:b=c
  .subst h;simp at e;subst e;exact .head _
  .rw[beq_eq_false_iff_ne.mpr h]at e;exact .tail _ (VI e)
theorem cv{P:G8}{w:Id}{K Kt:At}{mg mb:Eu}{CX:JC}{k:Nat}{fa a:Addr}{fd:GE}{x:Str}{sp:Sp}{g:GJ}{vs:Db}{ns:List Int}{d:Nat}{od:Obj}{tv:List (List Value)}
 (KX:K.In g.heap)(KTX:Kt.In g.heap)(T:Sl w.params d od tv Kt)(U:cStatics<d/\mainGlobals<d/\builtinsNs<d)(hTK:∀b u,G6 d od b=some u->K.lookup b=none)(hmg:mg "NAMED_TABLES" = some (.ref d))
 (hns:g.heap.Ns mainGlobals mg)(Y:g.heap.Ns builtinsNs mb)(hbb:∀x:Str,x ≠ "__name__" -> mb x=bootBuiltins x)(hlim:g.heap.NoLimit)(hg:g.gens=#[])
 (ha:g.heap.get? a=some { cls:=.type "list",data:=.seq vs.toArray})(hi:IntsAre vs ns)(hl:ns.length<=sizeLine)(hr:Fb k callerA)
 (F:∀base:Heap,K.In base->base.Ns mainGlobals mg->AL P w K mg base CX k fa fd [x] sp)(Z:∀(s:GJ) (u:KS),BindsTo s fd ⟨[u],[]⟩ [(x,u)])
 (hsp:∀H:Hp,Ax K H a (ns.map V.int)->sp [.ref a] H (fun v _=>v=.bl true) fun _ _ _=>False)
 (hCX:∀H e s',CX [] H g (fun _ _ _=>False) e s'->False) :
  codeAny (model P w) callerA (.call (.ref fa) ⟨[.ref a],[]⟩) (fun r s'=>r=.ok (.ret (.bool true))/\OldK g.heap s'.heap/\s'.os=g.os/\AllBare s'.gens) g:=by
 have rv:=UW hi;have lenV:=hi.length;have tok:=T.BA (P:=P) KTX;have Ta:G6 d od a=none:=by
  cases q:G6 d od a with
  |none=>rfl
  |some u=>
   rcases LN q with ⟨rfl,rfl⟩|⟨j,xs,rfl,h1,rfl⟩
   .obtain⟨t1,t2,t3,t4,t5,ho⟩:=T.obj;have:=KTX _ _ T.V0;rw[ha,ho]at this;have z:=ay Obj.cls (ag this);simp at z
   .obtain⟨_,its,_,o,e1,e2,_⟩:=tok _ _ q;rw[ha]at e1;cases e1;simp at e2
 have core:∀H:Hp,(∀b,b≠a->H b=G6 d od b)->(H a=none\/∃o xs,H a=some (.Ft o (.lst xs)))->Ax K H a (ns.map V.int)->Ek P w H g.heap->(H a≠none->K.lookup a=none) ->
   codeAny (model P w) callerA (.call (.ref fa) ⟨[.ref a],[]⟩) (fun r s'=>r=.ok (.ret (.bool true))/\OldK g.heap s'.heap/\s'.os=g.os/\AllBare s'.gens) g:=by
  intro H hO hA hS BA hK;have hT:∀b u,G6 d od b=some u->H b=some u:=fun b u e=>by
   rw[hO b (fun z=>by rw[z,Ta]at e;cases e)];exact e
  have dicA:∀ {m:Eu},g.heap.Ns a m->False:=fun {m} ⟨o,es,ep,e,q,_⟩=>by
   rw[ha]at e;cases e;have q':Data.seq vs.toArray _=Data.dict es ep:=q;cases q'
  have I:∀ {b:Nat} {m:Eu},b<d->g.heap.Ns b m->(Oy g.heap H).Ns b m:=fun {b m} hlt N=>by
   have hn:H b=none:=by
    have B:b≠a:=fun z=>dicA (z ▸ N);rw[hO b B];cases q:G6 d od b with
    |none=>rfl
    |some u=>rcases LN q with ⟨rfl,_⟩|⟨j,xs,rfl,_⟩<;>lia
   obtain⟨o,es,ep,e,r⟩:=N;exact⟨o,es,ep,W9 e hn,r⟩
  have hKb:K.In (Oy g.heap H):=fun b o e=>W9 (KX b o e) (by
   by_cases B:b=a
   .subst B;cases q:H b with
    |none=>rfl
    |some u=>rw[hK (by rw[q];simp)]at e;cases e
   .rw[hO b B];cases q:G6 d od b with
    |none=>rfl
    |some u=>rw[hTK b u q]at e;cases e)
  have hM:Mod K mg (Oy g.heap H):=⟨hKb,I U.2.1 hns,⟨mb,I U.2.2 Y,hbb⟩,let⟨mc,h1,h2⟩:=hlim;⟨mc,I U.1 h1,h2⟩⟩;have kt:KTb mg H:=fun d' e=>by
   rw[hmg]at e;cases e;exact⟨⟨od,hT _ _ nu⟩,fun j xs q=>hT _ _ (ma q)⟩
  have e0:Zm P w K mg (Oy g.heap H) callerA [] g H:=⟨rfl,hM,fun b o e=>jo e,Nat.le_of_eq (dk _ _),trivial,fun b Y=>absurd (show b∈([]:List Addr) from Y) CH,BA,.of_eq hg,kt⟩;refine codeAny_mono ((F _ hKb (I U.2.1 hns)).run callerA [] g H ⟨[.ref a],[]⟩ [.ref a] [.ref a] _ _ hr e0 (Z g Jj) (.cons rfl .nil) (hsp H hS)) fun r s' h=>?_;cases r with
  |error e=>exact(hCX H e s' h).elim
  |ok fl=>
   cases fl with
   |next=>exact False.elim h
   |brk=>exact False.elim h
   |cont=>exact False.elim h
   |ret u=>
    obtain⟨v,H',os,bare,un,hok',r',q⟩:=h;have q':v=.bl true:=q;subst q';obtain rfl:u=Value.bool true:=r';have kf:∀b o ob u,g.heap.get? b=some o->H b=some (.Ft ob u)->s'.heap.get? b=some o:=fun b o ob u e z=>by
     obtain⟨e1,_⟩:=BA b _ z;obtain⟨e2,_⟩:=hok' b _ (un.Ku b ob _ z);rw[e]at e1;cases e1;exact e2
    refine⟨rfl,OldK.of_keep fun b o e=>?_,os,bare⟩;by_cases B:b=a
    .subst B;rcases hA with z|⟨ob,xs,z⟩
     .exact un.keep b o e z (by intro z;exact absurd (show b∈([]:List Addr) from z) CH) CH
     .exact kf b o ob _ e z
    .have R:=hO b B;cases q:G6 d od b with
     |none=>exact un.keep b o e (R.trans q) (by intro z;exact absurd (show b∈([]:List Addr) from z) CH) CH
     |some u=>
      rw[q]at R;rcases LN q with ⟨_,rfl⟩|⟨j,xs,_,_,rfl⟩
      .exact kf b o _ _ e R
      .exact un.MQ b xs o R e CH
 cases hk:K.lookup a with
 |some o=>
  have e:=KX a o hk;rw[ha]at e;cases e;refine core (G6 d od) Da (.inl Ta) (.inr ⟨_,vs.toArray,_,hk,rfl,rfl,rfl,by rw[(D8),lenV];exact hl,by simpa using rv⟩) tok fun z=>absurd Ta z
 |none=>
  refine core (upd (G6 d od) a (.Ft { cls:=.type "list",data:=.seq vs.toArray} (.lst (ns.map V.int)))) (fun b Y=>AR Y) (.inr ⟨_,_,AM⟩) (.inl (.inr ⟨{ cls:=.type "list",data:=.seq vs.toArray},AM⟩)) (fun b u z=>?_) fun _=>hk;by_cases Y:b=a
  .subst Y;rw[AM]at z;cases z;exact⟨ha,by rw[(BW)];exact hl,vs,_,rv,ha⟩
  .rw[AR Y]at z;exact(tok b u z).Nx (fun _ _ _ q=>q) (fun c q=>by rw[AR (Aq q Ta)];exact q) fun c xs q=>by rw[AR (Aq q Ta)];exact q
theorem gJ{l:PySem.W.OpenLaw}{n k:Nat}{q:G8}{loose:KP}{XP:(Str->Option Value)->Heap->Prop}{YP:World->Heap->Prop}{d:DefRec}{K Kt:Params->PySem.W.Frag}{CX:World->JC}{sp:World->Sp}{x:Str}{da:Nat}{od:Params->Obj}{tv:List (List Value)}
 (hn:l.most=some n)(hn2:n<=sizeLine)(hdf:d.params.defaults=[])(hr:Fb k callerA)
 (hY:∀(w:Id) (h:Heap),YP w h->(K w.params++Kt w.params).In h)
 (T:∀P,Sl P da (od P) tv (Kt P))(hTN:cStatics<da/\mainGlobals<da/\builtinsNs<da)(Z:∀P,(K P).all (fun p=>decide ((p.1:Nat)<da)||decide (da+50<(p.1:Nat)))=true/\(Kt P).all (fun p=>decide (da<=(p.1:Nat))&&decide ((p.1:Nat)<=da+50))=true)
 (hmg:∀(w:Id) (mg:Eu) (h:Heap),(K w.params).In h->h.Ns mainGlobals mg->mg "NAMED_TABLES" = some (.ref da))
 (F:∀(w:Id) (mg:Eu) (fa:Addr) (h:Heap),(K w.params).In h->h.Ns mainGlobals mg->mg d.name=some (.ref fa) ->
   ∃fd:FuncData,(∀(s:GJ) (u:KS),BindsTo s fd ⟨[u],[]⟩ [(x,u)]) /\
    ∀base:Heap,(K w.params).In base->base.Ns mainGlobals mg->AL l.prog w (K w.params) mg base (CX w) k fa fd [x] (sp w))
 (hsp:∀(w:Id) (H:Hp) (a:Addr) (ns:List Int),ns.length<=n->Ax (K w.params) H a (ns.map V.int)->sp w [.ref a] H (fun v _=>v=.bl true) fun _ _ _=>False)
 (hCX:∀(w:Id) (H:Hp) (s:GJ) (e:KS) (s':GJ),CX w [] H s (fun _ _ _=>False) e s'->False) :
  PySem.W.WalkO q loose XP YP l.row.toRowW d [] (fun f vs=>PySem.call f vs):=by
 refine Att.Xn hn hdf fun w s₀ B mg mb fa o pm cd doc a vs ns G Y ho hd hcd U R hints I hg=>?_;have KK:=hY w _ Y;have lk:∀b,(K w.params++Kt w.params).lookup b=((K w.params).lookup b).or ((Kt w.params).lookup b):=fun b=>List.lookup_append;have away:∀(b:Nat) o,(K w.params).lookup b=some o->b<da\/da+50<b:=fun b o e=>by
  have:=az.mp (Z w.params).1 (b,o) (VI e)
  simpa using this
 have len50:(OP da).length=50:=rfl;have ktx:∀(b:Nat) u,G6 da (od w.params) b=some u->(K w.params).lookup b=none:=fun b u e=>by
  cases q:(K w.params).lookup b with
  |none=>rfl
  |some o=>
   have h1:=away b o q;rcases LN e with ⟨h2,_⟩|⟨j,xs,h2,h3,_⟩
   .lia
   .have:=(aD.mp h3).1
    lia
 have KX:(K w.params).In B.heap:=fun b o e=>KK b o (by rw[lk,e];rfl);have KTX:(Kt w.params).In B.heap:=fun(b:Nat) o e=>KK b o (by
  rw[lk];have h1:=az.mp (Z w.params).2 (b,o) (VI e);have h1:da<=b/\b<=da+50:=by simpa using h1
  cases q:(K w.params).lookup b with
  |none=>exact e
  |some o'=>have:=away b o' q;lia)
 obtain⟨fd,hb,hF⟩:=F w mg fa _ KX G.T.g U;exact cv KX KTX (T w.params) hTN ktx (hmg w mg _ KX G.T.g) G.T.g G.T.b G.T.builtins G.T.nolimit hg R hints (aR I hn2) hr hF hb (fun H hS=>hsp w H a ns I hS) fun H e s'=>hCX w H B e s'
end L2
set_option maxHeartbeats 1000000
namespace L2
open PySem PySem.Spec PyProof.Rows
abbrev Gn(a b:Int):PyData:=.tuple [.int a,.int b]
def OY(x:Str):Option PyData :=
 if x = "plain" then some (.tuple [.tuple [.tuple []],.tuple [Gn 1 1]])
 else if x = "middle" then some (.tuple [.tuple [.tuple [],.tuple [Gn 1 2]],.tuple [Gn 0 1,Gn 1 1]])
 else if x = "heel" then some (.tuple [.tuple [.tuple [],.tuple [Gn 1 1]],.tuple [Gn 1 2,Gn 1 2]])
 else if x = "third" then some (.tuple [.tuple [.tuple [],.tuple [Gn 1 3],.tuple [Gn 0 1,Gn 2 3]],.tuple [Gn 1 4,Gn 0 1,Gn 3 4]])
 else if x = "fourth" then some (.tuple [.tuple [.tuple [],.tuple [Gn 1 2],.tuple [Gn 0 1,Gn 1 2],.tuple [Gn 0 1,Gn 0 1,Gn 1 1]],.tuple [Gn 1 6,Gn 1 3,Gn 1 3,Gn 1 6]])
 else none
def W0:PyData->Option PyData
 |.str x=>OY x
 |_=>none
def Zh(neg:Bool):PyData->Option PyData
 |.str x=>some (.bool (if neg then !(OY x).isSome else(OY x).isSome))
 |_=>none
def Lk(G:Hp)(d:Nat):Hp:=fun(b:Nat)=>match G b with
 |some o=>some o
 |none=>if b<=d then none else((OP d)[b-d-1]?).map .tup
theorem Lx{G:Hp}{d:Nat}:AN G (Lk G d):=fun b o e=>by unfold Lk;rw[e]
theorem O8{G:Hp}{d b:Nat}{o:HO}(e:Lk G d b=some o):G b=some o\/∃j xs,b=d+1+j/\(OP d)[j]? = some xs/\o=.tup xs:=by
 unfold Lk at e;split at e
 .rename_i q;cases e;exact .inl q
 .split at e
  .cases e
  .obtain⟨xs,e1,g⟩:=aF.mp e;exact .inr ⟨b-d-1,xs,by lia,e1,g.symm⟩
theorem gk{G0 H0 G H:Hp}{σ:St}{δ:Dv}{ts:List (PyData×V)}{d:Nat}(R:IF)(hT:∀j xs,(OP d)[j]? = some xs->H (d+1+j)=some (.tup xs)):Rw G0 H0 (Lk G d) H σ δ ts where
 ext:=fun b o e=>Lx b o (R.ext b o e)
 new:=fun b o e=>by
  rcases O8 e with h|⟨j,xs,_,_,rfl⟩
  .exact R.new b o h
  .exact .inr (.inr ⟨xs,rfl⟩)
 ins:=fun b o e=>by
  rcases O8 e with h|⟨j,xs,rfl,h,rfl⟩
  .exact R.ins b o h
  .exact hT j xs h
 keep:=R.keep
 len:=R.len
 dat:=fun i x h=>by
  obtain⟨v,h1,h2⟩:=R.dat i x h;exact⟨v,h1,h2.same Lx⟩
 own:=fun i xs h=>by
  obtain⟨a,ys,h1,h2,h3,h4,h5⟩:=R.own i xs h;refine⟨a,ys,h1,?_,h3,h4,h5.same Lx⟩;cases q:Lk G d a with
  |none=>rfl
  |some o=>
   rcases O8 q with z|⟨j,zs,rfl,z,rfl⟩
   .rw[h2]at z;cases z
   .have:=hT j zs z;rw[h4]at this;cases this;exact h5.Td.elim
 apart:=R.apart
 Cr:=fun p hp=>(R.Cr p hp).same Lx
def atT(d:Nat)(T:Hp):Prop:=∀j xs,(OP d)[j]? = some xs->T (d+1+j)=some (.tup xs)
theorem gf{G H:Hp}{d:Nat}(B:AN G H)(g:atT d H):atT d (Lk G d):=fun j xs e=>by
 unfold Lk;split
 .rename_i o q;have:=B _ _ q;rw[g j xs e]at this;cases this;rfl
 .rw[if_neg AS,show d+1+j-d-1=j by lia,e];rfl
def rE:List (List (Sum Int Nat)):=[[],[.inr 1],[.inl 1,.inl 1],[.inr 3],[.inr 2,.inr 4],[],[.inl 1,.inl 2],[.inr 7],[.inr 6,.inr 8],[.inl 0,.inl 1],[.inl 1,.inl 1],[.inr 10,.inr 11],[.inr 9,.inr 12],[],[.inl 1,.inl 1],[.inr 15],[.inr 14,.inr 16],[.inl 1,.inl 2],[.inl 1,.inl 2],[.inr 18,.inr 19],[.inr 17,.inr 20],[],[.inl 1,.inl 3],[.inr 23],[.inl 0,.inl 1],[.inl 2,.inl 3],[.inr 25,.inr 26],[.inr 22,.inr 24,.inr 27],[.inl 1,.inl 4],[.inl 0,.inl 1],[.inl 3,.inl 4],[.inr 29,.inr 30,.inr 31],[.inr 28,.inr 32],[],[.inl 1,.inl 2],[.inr 35],[.inl 0,.inl 1],[.inl 1,.inl 2],[.inr 37,.inr 38],[.inl 0,.inl 1],[.inl 0,.inl 1],[.inl 1,.inl 1],[.inr 40,.inr 41,.inr 42],[.inr 34,.inr 36,.inr 39,.inr 43],[.inl 1,.inl 6],[.inl 1,.inl 3],[.inl 1,.inl 3],[.inl 1,.inl 6],[.inr 45,.inr 46,.inr 47,.inr 48],[.inr 44,.inr 49]]
def ZC(d:Nat):Sum Int Nat->V
 |.inl i=>.int i
 |.inr k=>.ref (d+k)
theorem qO(d:Nat):OP d=rE.map (List.map (ZC d)):=rfl
def GW:Nat->PyData->Sum Int Nat->Bool
 |_,.int i,.inl k=>i==k
 |n+1,.tuple g,.inr (a+1)=>match rE[a]? with
  |some xs=>(g.length==xs.length)&&(g.zip xs).all fun q=>GW n q.1 q.2
  |none=>false
 |_,_,_=>false
theorem Wo{d:Nat}{T:Hp}(I:atT d T):∀(n:Nat) (x:IR) (v:Sum Int Nat),GW n x v=true->Du T x (ZC d v)
 |n,.int i,.inl k,e=>by
  have:i=k:=by cases n<;>simpa[GW]using e
  subst this;rw[Du];rfl
 |n+1,.tuple Z,.inr (a+1),e=>by
  rw[GW]at e;split at e
  .rename_i xs q;simp only[Bool.and_eq_true,beq_iff_eq,List.all_eq_true]at e;obtain⟨B,R⟩:=e;rw[Du];refine⟨d+(a+1),xs.map (ZC d),rfl,?_,?_⟩
   .have:=I a (xs.map (ZC d)) (by rw[qO,(B7),q];rfl)
    rwa [show d+1+a=d+(a+1) by lia]at this
   .have U:=Wo I n;clear q
    induction Z generalizing xs with
    |nil=>cases xs with
     |nil=>exact .nil
     |cons _ _=>simp at B
    |cons y ys g=>cases xs with
     |nil=>simp at B
     |cons u us=>exact .cons (U y u (R (y,u) CH)) (g us (by simpa using B) fun q Y=>R q (by simp[Y]))
  .cases e
 |0,.tuple _,v,e=>by cases v<;>simp[GW]at e
 |_,.none,v,e=>by cases v<;>simp[GW]at e
 |_,.bool _,v,e=>by cases v<;>simp[GW]at e
 |_,.str _,v,e=>by cases v<;>simp[GW]at e
 |_,.list _,v,e=>by cases v<;>simp[GW]at e
 |_,.dict _,v,e=>by cases v<;>simp[GW]at e
 |n+1,.tuple _,.inl _,e=>by simp[GW]at e
 |n+1,.tuple _,.inr 0,e=>by simp[GW]at e
 |n,.int _,.inr _,e=>by cases n<;>simp[GW]at e
theorem pG{d:Nat}{T:Hp}{x:Str}{y:IR}(g:atT d T)(e:OY x=some y):∃k:Nat,Ii (PQ d) (.inr x)=some (.ref (d+k))/\Du T y (.ref (d+k)):=by
 unfold OY at e;have go:∀(k:Nat) (z:IR),GW 4 z (.inr k)=true->Du T z (.ref (d+k)):=fun k z h=>Wo g 4 z (.inr k) h;split at e
 .rename_i q;subst q;cases e;exact⟨5,rfl,go _ _ (by decide +kernel)⟩
 split at e
 .rename_i q;subst q;cases e;exact⟨13,rfl,go _ _ (by decide +kernel)⟩
 split at e
 .rename_i q;subst q;cases e;exact⟨21,rfl,go _ _ (by decide +kernel)⟩
 split at e
 .rename_i q;subst q;cases e;exact⟨33,rfl,go _ _ (by decide +kernel)⟩
 split at e
 .rename_i q;subst q;cases e;exact⟨50,rfl,go _ _ (by decide +kernel)⟩
 .cases e
theorem gE(d:Nat)(x:Str):(Ii (PQ d) (.inr x)).isSome=(OY x).isSome:=by
 by_cases T:x = "plain"
 .subst T;rfl
 by_cases R:x = "middle"
 .subst R;rfl
 by_cases I:x = "heel"
 .subst I;rfl
 by_cases B:x = "third"
 .subst B;rfl
 by_cases g:x = "fourth"
 .subst g;rfl
 have e1:OY x=none:=by unfold OY;rw[if_neg T,if_neg R,if_neg I,if_neg B,if_neg g]
 have U:Ii (PQ d) (.inr x)=none:=by
  unfold Ii PQ;simp[Sum.inr.injEq,eq_comm,T,R,I,B,g]
 rw[e1,U];rfl
section
variable{X:Cx}{d:Nat}{x:Str}{i:Nat}{np xp pos:Pos}
theorem PE.kt{e:Expr}{t:TE}(h:PE X e t):PE X e (fun σ H Q=>KTb X.mg H->t σ H Q):=fun pins s σ H Q I k=>h pins s σ H Q I (k I.kt)
theorem PT.kt{e:Expr}{t:TT}(h:PT X e t):PT X e (fun σ H Q=>KTb X.mg H->t σ H Q):=fun pins s σ H Q I k=>h pins s σ H Q I (k I.kt)
theorem mV(Y:X.A.units+64<cLine)(hg:Gl X "NAMED_TABLES")(hm:X.mg "NAMED_TABLES" = some (.ref d))(U:PE X (.Name x xp) (LL i))(Z:ZI (.Name x xp)) :
  DE X (.Subscript (.Name "NAMED_TABLES" np) (.Name x xp) pos) (fun δ=>(nm i δ).bind W0):=by
 refine⟨_,(kx (aP AS Y) (Pf (v:=.ref d) hg hm rfl) U Z).kt,fun δ z T G0 H0 G H σ ts Q R k kt=>?_⟩;obtain⟨y,h1,g⟩:=aC.mp T;obtain⟨v,h3,B⟩:=R.dat _ _ (Zu h1);obtain⟨⟨o,I⟩,kT⟩:=kt d hm;cases y<;>simp only[W0]at g<;>try cases g
 rename_i n;rw[Du]at B;subst B;have R':=gk R kT;obtain⟨q,e1,e2⟩:=pG (gf R.ins kT) g;exact⟨.str n,h3,d,.ref (d+q),rfl,.inl ⟨PQ d,.inr n,.inr ⟨o,I⟩,rfl,e1.symm⟩,k _ _ _ (R'.put e2)⟩
theorem dF(Y:X.A.units+64<cLine)(Z:Gl X "NAMED_TABLES")(hm:X.mg "NAMED_TABLES" = some (.ref d))(U:PE X (.Name x xp) (LL i)) :
  DT X (.Compare (.Name x xp) [.NotIn] [.Name "NAMED_TABLES" np] pos) (fun δ=>((nm i δ).bind (Zh true)).bind Rp):=by
 refine⟨_,(pj (cf (aP AS Y) U (Pf (v:=.ref d) Z hm rfl)) (by rfl)).kt,fun δ z T G0 H0 G H σ ts Q R k kt=>?_⟩;obtain⟨q,h0,h9⟩:=aC.mp T;have:=VD h9;subst this;obtain⟨y,h1,B⟩:=aC.mp h0;obtain⟨v,h3,g⟩:=R.dat _ _ (Zu h1);obtain⟨⟨o,I⟩,kT⟩:=kt d hm;cases y<;>simp only[Zh]at B<;>try cases B
 rename_i n;rw[Du]at g;subst g;refine⟨.str n,h3,d,Ii (PQ d) (.inr n),rfl,.inl ⟨PQ d,.inr n,.inr ⟨o,I⟩,rfl,rfl⟩,_,rfl,?_⟩;rw[gE];exact k _ _ R
end
end L2
set_option maxHeartbeats 4000000
namespace L2
open PySem PySem.Spec PyProof.Rows
section
variable{X:Cx}
def fE:PyData->PyData->Option PyData:=fun x y=>match x,y with|.int i,.int j=>(if 0<=j/\j<=1000/\IP 64 i=true then some (.int (i*2^j.toNat)) else none)|_,_=>none
theorem kQ:FI X (binaryOp .LShift) fE:=Mm (o:=fun i j=>if 0<=j/\j<=1000/\IP 64 i=true then some (.int (i*2^j.toNat)) else none) nG fun i j z h=>by
 split at h
 .rename_i q;cases h;exact⟨⟨q.1,by lia,of_decide_eq_true q.2.2⟩,fun _=>by rw[Du]⟩
 .cases h
end
end L2
namespace Q96
open PySem L2
abbrev GC:Stmt:=top 8
abbrev LH:Stmt:=top 9
abbrev J8:Stmt:=top 10
abbrev Gg:Stmt:=top 11
abbrev NF:Stmt:=top 12
abbrev EB:Stmt:=top 13
abbrev Ie:Stmt:=top 14
abbrev Ke:Stmt:=top 15
abbrev Nk:Stmt:=top 19
abbrev NK:Stmt:=top 20
abbrev Cb:Stmt:=top 21
abbrev Na:Stmt:=top 22
abbrev HF:Stmt:=top 25
abbrev HM:Stmt:=top 26
abbrev KA:Stmt:=top 27
abbrev HZ:Stmt:=top 28
abbrev Dr:Stmt:=top 29
abbrev Nr:Stmt:=top 30
abbrev Ki:Stmt:=top 33
abbrev IK:Stmt:=top 34
abbrev G7:Stmt:=top 35
abbrev EZ:Stmt:=top 36
abbrev Hn:Stmt:=top 37
abbrev Gh:Stmt:=top 38
abbrev MR:Stmt:=top 40
abbrev JV:Stmt:=top 41
abbrev Hw:Stmt:=top 43
abbrev Il:Stmt:=top 44
abbrev HL:Stmt:=top 45
abbrev Gd:Stmt:=top 46
abbrev Nd:Stmt:=top 47
abbrev Om:Stmt:=top 48
abbrev J6:Stmt:=top 51
abbrev JT:Stmt:=top 52
abbrev JH:Stmt:=top 54
abbrev K6:Stmt:=top 55
abbrev MD:Stmt:=top 56
abbrev Eg:Stmt:=top 57
abbrev EO:Stmt:=top 58
abbrev G5:Stmt:=top 59
abbrev LA:Stmt:=top 60
abbrev LF:Stmt:=top 61
abbrev KG:Stmt:=top 62
abbrev IZ:Stmt:=top 63
abbrev JN:Stmt:=top 64
abbrev NQ:Stmt:=top 65
abbrev KC:Stmt:=top 66
abbrev iw:Stmt:=top 67
theorem X5{n:String}:WA (.ty n)≠.none:=fun z=>nomatch z
def Z4:Sp:=fun vs H Q _=>∃a b,vs=[.int a,.int b]/\Q (.int (FM.gi a b)) H
def RE:Sp:=fun vs H Q _=>∃t b m,vs=[.int t,.int b]/\b≠0/\m<=9000/\b.natAbs<2^m/\∀l H',AN H H'->H' l=some (.tup (BZ (Rat.divInt t b)))->Q (.ref l) H'
def gr(K:At)(op:Rat->Rat->Rat)(ok:Rat->Prop):Sp:=fun vs H Q _=>∃v w p q n,vs=[v,w]/\Rt K H p v/\Rt K H q w/\FM.Fits p n/\FM.Fits q n/\n<=4000/\ok q /\
 ∀l H',AN H H'->H' l=some (.tup (BZ (op p q)))->Q (.ref l) H'
section
variable{P:G8}{w:Id}{K:At}{mg:Eu}{base:Heap}{f g:Addr}{fd gd:GE}
theorem OT:Aj ["one","other","greater","lesser","rest"] Iy (AX EB):=⟨rfl,rfl,rfl,by decide +kernel,rfl,by decide +kernel,by decide +kernel⟩
def rP(σ:St):Nat:=match σ[3]? with|some (some (V.int l))=>l.natAbs|_=>0
theorem OU(F:Fn K mg "greatest_divisor" EB Iy f fd)(T:mg "abs" = none):AL P w K mg base Ad 1 f fd Iy Z4:=by
 have sc:=OT;refine F.F.ok (k:=0) sc Jl (fun cdv A outer s H vs Q E Z h=>?_)
 .obtain⟨a,b,rfl,_⟩:=h
  rfl
 obtain⟨a,b,rfl,q⟩:=h;refine⟨_,(Aa (BJ (i:=2) sc.nd rfl By (Bp Ks rfl T bo (AF (pv 0) AV)))
 (Aa (BJ (i:=3) sc.nd rfl By (Bp Ks rfl T bo (AF (pv 1) AV)))
 (Aa (Q2 aN (Cw U6 (pv 3) AQ (A6 _))
  (Aa (BJ (i:=4) sc.nd rfl By (A9 Ph (pv 2) (pv 3)))
  (Aa (BJ (i:=2) sc.nd rfl By (pv 3))
  (Ar (BJ (i:=3) sc.nd rfl By (pv 4))))))
 (Ar (Bo (pv 2)))))),?_⟩
 refine⟨_,rfl,_,rfl,_,rfl,_,rfl,?_⟩;refine Qt (fun σ H'=>∃g l r,σ=[some (.int a),some (.int b),some (.int g),some (.int l),r]/\H=H'/\Int.gcd g l=Int.gcd a b/\0<=g/\0<=l) (fun σ _=>rP σ) ?_ ?_ ?_
 .exact⟨_,_,_,rfl,rfl,FM.Yi a b,FM.abs_nonneg a,FM.abs_nonneg b⟩
 .rintro σ H' ⟨g,l,r,rfl,rfl,I,h0,R⟩;refine⟨_,rfl,rfl,_,rfl,ER (fun c=>?_) (fun c=>?_)⟩
  .have B:l≠0:=fun z=>by subst z;simp at c
   refine⟨_,rfl,_,rfl,_,_,rfl,rfl,B,_,rfl,_,rfl,⟨_,_,_,rfl,rfl,?_,R,FM.fmod_nonneg B R⟩,?_⟩
   .rw[FM.XA];exact I
   .exact FM.T7 g l B
  .have B:l=0:=by simpa using c
   subst B;refine⟨_,rfl,?_⟩;rw[FM.di I h0];exact q
 .exact fun σ H Q Q' U ⟨v,e,s,k,Y,q⟩=>⟨v,e,s,k,Y,U _ _ q⟩
theorem S0:Aj ["top","bottom","shared"] ["top","bottom"] (AX GC):=⟨rfl,rfl,rfl,by decide +kernel,rfl,by decide +kernel,by decide +kernel⟩
theorem Sr(F:Fn K mg "fraction_of" GC ["top","bottom"] f fd)(Bj:Fn K mg "greatest_divisor" EB Iy g gd)
 (D7:AL P w K mg base Ad 1 g gd Iy Z4):AL P w K mg base Ad 2 f fd ["top","bottom"] RE:=by
 have sc:=S0;refine F.F.ok (k:=1) sc Jl (fun cdv A outer s H vs Q E Y h=>?_)
 .obtain⟨t,b,m,rfl,_⟩:=h
  rfl
 obtain⟨t,b,m,rfl,I,hm,U,q⟩:=h;refine⟨_,(Aa (FD (Cw Rl (pv 1) AQ (A6 _))
  (Ar V2)
  DB)
 (Aa (BJ (i:=2) sc.nd rfl By (CQ Bj D7 Y rfl (AF (pv 0) (AF (pv 1) AV))))
 (Aa (FD (Cw Rg (pv 1) AQ (A6 _))
  (Ar (BJ (i:=2) sc.nd rfl By (L6 J2 (pv 2))))
  DB)
 (Ar (Bo (FA (AF (A9 GA (pv 0) (pv 2)) (AF (A9 GA (pv 1) (pv 2)) AV)))))))),?_⟩
 refine⟨_,rfl,rfl,_,rfl,ER (fun c=>absurd c (by simpa using I)) (fun _=>?_)⟩;refine⟨_,rfl,_,rfl,t,b,rfl,?_⟩
 try dsimp only[FU]
 refine Qq (fun B H'=>B=[some (.int t),some (.int b),some (.int (FM.gs t b))]/\H=H') (fun nx hn=>?_) ?_
 .refine⟨_,rfl,_,_,rfl,rfl,_,rfl,ER (fun c=>?_) (fun c=>?_)⟩
  .have R:b<0:=ah c;refine⟨_,rfl,_,rfl,hn _ _ ⟨?_,rfl⟩⟩;unfold FM.gs;rw[if_pos R]
   rfl
  .have R:¬b<0:=bJ (ar.mpr c);refine hn _ _ ⟨?_,rfl⟩;unfold FM.gs;rw[if_neg R]
   rfl
 .rintro B H' ⟨rfl,rfl⟩;have h0:FM.gs t b≠0:=FM.Zg I;have T:(FM.gs t b).natAbs<2^m:=aP (FM.ij I) U;refine⟨_,rfl,_,rfl,_,_,rfl,rfl,⟨h0,m,hm,T⟩,_,rfl,_,rfl,_,_,rfl,rfl,⟨h0,m,hm,T⟩,Ry,fun p Z=>?_⟩;refine q p _ (Ab Z _) ?_;rw[AM];show some (HO.tup [V.int (t.fdiv (FM.gs t b)),V.int (b.fdiv (FM.gs t b))])=_;rw[FM.XB I,FM.RP I]
  rfl
end
theorem Qn{c b:Int}(T:1<=c)(U:1<=b):1<=c.fdiv (FM.gi c b)*b/\c ∣ c.fdiv (FM.gi c b)*b/\b ∣ c.fdiv (FM.gi c b)*b/\(c.fdiv (FM.gi c b)).natAbs<=c.natAbs:=by
 have R:0<FM.gi c b:=FM.MZ AS;obtain⟨q,I⟩:=FM.L7 c b;obtain⟨r,g⟩:=FM.IV c b;have e:=FM.F3 (Int.ne_of_gt R) I;refine⟨?_,?_,Int.dvd_mul_left _ _,FM.E1 _ _⟩
 .rw[e];have B:0<q:=by
   rcases Int.lt_or_le 0 q with h|h
   .exact h
   .have:=Int.mul_nonpos_of_nonneg_of_nonpos (Int.le_of_lt R) h
    lia
  exact Int.mul_pos B AS
 .rw[e];refine⟨r,?_⟩;rw[g]
  conv=>rhs;rw[I]
  rw[<-g,Int.mul_comm (FM.gi c b) q,Int.mul_assoc,Int.mul_comm (FM.gi c b) r]
  conv=>lhs;rw[g]
  rw[Int.mul_comm (FM.gi c b) r]
def Y8:Sp:=fun vs H Q _=>∃(b:Int) (p k:Nat),vs=[.int b,.int p]/\b.natAbs<2^k/\k*p<=4000/\Q (.int (b^p)) H
theorem Sh{b:Int}{k e p:Nat}(I:b.natAbs<2^k)(B:e<=p):(b^e).natAbs<2^(k*p+1):=by
 rw[Int.natAbs_pow];have g:b.natAbs^e<=(2^k)^e:=Nat.pow_le_pow_left (av I) e;rw[<-Nat.pow_mul]at g;exact aP g (Nat.pow_lt_pow_right As (Nat.lt_succ_of_le (bZ k B)))
def t7(σ:St):Nat:=match σ[4]? with|some (some (V.int l))=>l.natAbs|_=>0
section
variable{P:G8}{w:Id}{K:At}{mg:Eu}{base:Heap}{f:Addr}{fd:GE}
theorem Qa:Aj ["bottoms","common","bottom"] ["bottoms"] (AX Ie):=⟨rfl,rfl,rfl,by decide +kernel,rfl,by decide +kernel,by decide +kernel⟩
theorem XO:Aj ["base","power","product","square","left"] ["base","power"] (AX Ke):=⟨rfl,rfl,rfl,by decide +kernel,rfl,by decide +kernel,by decide +kernel⟩
theorem XR(F:Fn K mg "power_of" Ke ["base","power"] f fd):AL P w K mg base Ad 1 f fd ["base","power"] Y8:=by
 have sc:=XO;refine F.F.ok (k:=0) sc Jl Hf
 .obtain⟨b,p,k,rfl,_⟩:=h
  rfl
 obtain⟨b,p,k,rfl,Y,hk,q⟩:=h;refine⟨_,(Aa (BJ (i:=2) sc.nd rfl By AQ)
 (Aa (BJ (i:=3) sc.nd rfl By (pv 0))
 (Aa (BJ (i:=4) sc.nd rfl By (pv 1))
 (Aa (Q2 aN (Cw Pa (pv 4) AQ (A6 _))
  (Aa (FD (Cw Rl (A9 IM (pv 4) AQ) AQ (A6 _))
   (Ar (BJ (i:=2) sc.nd rfl By (A9 Ea (pv 2) (pv 3))))
   DB)
  (Aa (BJ (i:=4) sc.nd rfl By (A9 JG (pv 4) AQ))
  (Ar (FD (Cw Pa (pv 4) AQ (A6 _))
   (Ar (BJ (i:=3) sc.nd rfl By (A9 Ea (pv 3) (pv 3))))
   DB)))))
 (Ar (Bo (pv 2))))))),?_⟩
 refine⟨_,rfl,_,rfl,?_⟩;refine Qt (fun σ H'=>∃e f l:Nat,σ=[some (.int b),some (.int p),some (.int (b^e)),some (.int (b^f)),some (.int l)]/\H=H'/\e+f*l=p) (fun σ _=>t7 σ) ?_ ?_ ?_
 .refine⟨0,1,p,?_,rfl,by lia⟩;rw[Int.pow_zero,Int.pow_succ,Int.pow_zero,Int.one_mul]
  rfl
 .rintro σ H' ⟨e,f,l,rfl,rfl,U⟩;refine⟨_,rfl,_,_,rfl,rfl,_,rfl,ER (fun c=>?_) (fun c=>?_)⟩
  .have Z:0<l:=by have:=ah c;lia
   have g:f<=p:=by
    have:f*1<=f*l:=bZ f Z
    lia
   try dsimp only[FU]
   refine Qq (fun R H'=>∃I:Nat,R=[some (.int b),some (.int p),some (.int (b^I)),some (.int (b^f)),some (.int l)]/\H=H'/\I+f*(2*(l / 2))=p) (fun nx T=>?_) ?_
   .refine⟨_,rfl,_,_,rfl,rfl,(by show(0:Int)<2;decide),rfl,_,rfl,ER (fun c=>?_) (fun c=>?_)⟩
    .have hodd:l % 2=1:=by
      have:((l:Int) % 2)=1:=by simpa using c
      lia
     refine⟨_,rfl,_,rfl,_,_,rfl,rfl,Qo (Sh Y (show e<=p by lia)) (Sh Y g) AS,T _ _ ⟨e+f,?_,rfl,?_⟩⟩
     .show [some (V.int b),some (V.int p),some (V.int (b^e*b^f)),some (V.int (b^f)),some (V.int l)]=_;rw[<-Int.pow_add]
     .have:l=2*(l / 2)+1:=by lia
      rw[<-U]
      conv=>rhs;rw[this,Nat.mul_add,Nat.mul_one]
      lia
    .have hev:l % 2=0:=by
      have:¬((l:Int) % 2)=1:=by simpa using c
      lia
     refine T _ _ ⟨e,rfl,rfl,?_⟩;rw[show 2*(l / 2)=l by lia];exact U
   .rintro R _ ⟨I,rfl,rfl,B⟩;refine⟨_,rfl,_,_,rfl,rfl,⟨by decide,by decide⟩,?_⟩;have el:((l:Int) / 2)=((l / 2:Nat):Int):=by lia
    refine⟨_,rfl,_,_,rfl,rfl,_,rfl,ER (fun c=>?_) (fun c=>?_)⟩
    .refine⟨_,rfl,_,rfl,_,_,rfl,rfl,Qo (Sh Y g) (Sh Y g) AS,⟨I,f+f,l / 2,?_,rfl,?_⟩,?_⟩
     .show [some (V.int b),some (V.int p),some (V.int (b^I)),some (V.int (b^f*b^f)),some (V.int ((l:Int) / 2))]=_;rw[el,<-Int.pow_add]
     .rw[<-B,<-Nat.two_mul,Nat.mul_assoc,Nat.mul_left_comm]
     .show((l:Int) / 2).natAbs<((l:Nat):Int).natAbs
      lia
    .refine⟨⟨I,f,l / 2,?_,rfl,?_⟩,?_⟩
     .show [some (V.int b),some (V.int p),some (V.int (b^I)),some (V.int (b^f)),some (V.int ((l:Int) / 2))]=_;rw[el]
     .have:l / 2=0:=by have:=bJ (ar.mpr c);lia
      rw[this]at B ⊢
      simpa using B
     .show((l:Int) / 2).natAbs<((l:Nat):Int).natAbs
      lia
  .have Z:l=0:=by have:=bJ (ar.mpr c);lia
   subst Z;rw[Nat.mul_zero,Nat.add_zero]at U;subst U;exact⟨_,rfl,q⟩
 .exact fun σ H Q Q' hq ⟨v,e,s,k,e2,e3,e4,q1,q2⟩=>⟨v,e,s,k,e2,e3,e4,q1,hq _ _ q2⟩
end
mutual
theorem fD{l p:Addr}{H:Hp}(B:H p=none):∀ {d:IR} {v:V},Dt l H d v->Dt p H d v
 |.none,_,h=>by rw[Dt]at h ⊢;exact h
 |.bool _,_,h=>by rw[Dt]at h ⊢;exact h
 |.int _,_,h=>by rw[Dt]at h ⊢;exact h
 |.str _,_,h=>by rw[Dt]at h ⊢;exact h
 |.tuple _,_,h=>by
  rw[Dt]at h ⊢;obtain⟨a,xs,e1,n,g,I⟩:=h;exact⟨a,xs,e1,Aq g B,g,JZ B I⟩
 |.list _,_,h=>by
  rw[Dt]at h ⊢;obtain⟨a,xs,e1,n,g,I⟩:=h;exact⟨a,xs,e1,Aq g B,g,JZ B I⟩
 |.dict _,_,h=>by rw[Dt]at h;exact h.elim
theorem JZ{l p:Addr}{H:Hp}(g:H p=none):∀ {ds:Ch} {xs:Fa},Ap l H ds xs->Ap p H ds xs
 |[],_,h=>by rw[Ap]at h ⊢;exact h
 |_::_,_,h=>by
  rw[Ap]at h ⊢;obtain⟨x,r,e1,I,B⟩:=h;exact⟨x,r,e1,fD g I,JZ g B⟩
end
def DU(H:Hp)(d:IR)(v:V):Prop:=∃N:Nat,∀l,N<=l->Dt l H d v
def Bv(H:Hp)(ds:Ch)(xs:Fa):Prop:=∃N:Nat,∀l,N<=l->Ap l H ds xs
theorem DU.same{H H':Hp}{d:IR}{v:V}(h:DU H d v)(e:AN H H'):DU H' d v:=let⟨N,k⟩:=h;⟨N,fun l g=>(k l g).same e⟩
theorem Bv.same{H H':Hp}{d:Ch}{v:Fa}(h:Bv H d v)(e:AN H H'):Bv H' d v:=let⟨N,k⟩:=h;⟨N,fun l g=>(k l g).same e⟩
theorem DU.int{H:Hp}{i:Int}:DU H (.int i) (.int i):=⟨0,fun _ _=>.int⟩
theorem DU.bool{H:Hp}{i:Bool}:DU H (.bool i) (.bl i):=⟨0,fun _ _=>.bool⟩
theorem DU.CL{H:Hp}:DU H .none .CL:=⟨0,fun _ _=>.CL⟩
theorem DU.str{H:Hp}{x:Str}:DU H (.str x) (.str x):=⟨0,fun _ _=>.str⟩
theorem Bv.nil{H:Hp}:Bv H [] []:=⟨0,fun _ _=>.nil⟩
theorem Bv.cons{H:Hp}{d:IR}{ds:Ch}{x:V}{xs:Fa}(h:DU H d x)(k:Bv H ds xs):Bv H (d::ds) (x::xs) :=
 let⟨N,a⟩:=h;let⟨M,b⟩:=k;⟨max N M,fun l g=>.cons (a l AS) (b l AS)⟩
theorem Bv.app{H:Hp}{ds es:Ch}{xs ys:Fa}(h:Bv H ds xs)(k:Bv H es ys):Bv H (ds++es) (xs++ys) :=
 let⟨N,a⟩:=h;let⟨M,b⟩:=k;⟨max N M,fun l g=>(a l AS).app (b l AS)⟩
theorem Bv.len{H:Hp}{ds:Ch}{xs:Fa}(h:Bv H ds xs):xs.length=ds.length:=let⟨N,a⟩:=h;(a N (aH _)).len
theorem Bv.get{H:Hp}{ds:Ch}{xs:Fa}{i:Nat}{d:IR}(h:Bv H ds xs)(e:ds[i]? = some d):∃v,xs[i]? = some v/\DU H d v:=by
 have g:=h.len;have hi:i<xs.length:=by rw[g];exact(aD.mp e).1
 have B:xs[i]? = some xs[i]:=by simp[hi]
 obtain⟨N,a⟩:=h;refine⟨xs[i],B,N,fun l g=>?_⟩;obtain⟨T,I,R⟩:=(a l g).get B;rw[e]at I;cases I;exact R
theorem DU.lst{H:Hp}{a:Addr}{ds:Ch}{xs:Fa}(h:H a=some (.lst xs))(k:Bv H ds xs):DU H (.list ds) Jj :=
 let⟨N,b⟩:=k;⟨max N (a+1),fun l g=>.lst (aO (show a<l from aI (bc a) (aR (Nat.le_max_right _ _) g))) h (b l AS)⟩
theorem DU.tup{H:Hp}{a:Addr}{ds:Ch}{xs:Fa}(h:H a=some (.tup xs))(k:Bv H ds xs):DU H (.tuple ds) Jj :=
 let⟨N,b⟩:=k;⟨max N (a+1),fun l g=>.tup (aO (show a<l from aI (bc a) (aR (Nat.le_max_right _ _) g))) h (b l AS)⟩
theorem DU.iz{H:Hp}{ds:Ch}{v:V}(h:DU H (.list ds) v):∃a xs,v=.ref a/\H a=some (.lst xs)/\Bv H ds xs:=by
 obtain⟨N,b⟩:=h;have h0:=b N (aH _);rw[Dt]at h0;obtain⟨a,xs,rfl,_,ha,_⟩:=h0;refine⟨a,xs,rfl,ha,N,fun l T=>?_⟩;have I:=b l T;rw[Dt]at I;obtain⟨U,R,e,_,g,B⟩:=I;cases e;rw[ha]at g;cases g;exact B
theorem DU.rV{H:Hp}{ds:Ch}{v:V}(h:DU H (.tuple ds) v):∃a xs,v=.ref a/\H a=some (.tup xs)/\Bv H ds xs:=by
 obtain⟨N,b⟩:=h;have h0:=b N (aH _);rw[Dt]at h0;obtain⟨a,xs,rfl,_,ha,_⟩:=h0;refine⟨a,xs,rfl,ha,N,fun l T=>?_⟩;have I:=b l T;rw[Dt]at I;obtain⟨U,R,e,_,g,B⟩:=I;cases e;rw[ha]at g;cases g;exact B
theorem Bv.RO{H:Hp}{d e:IR}{xs:Fa}(h:Bv H [d,e] xs):∃x y,xs=[x,y]/\DU H d x/\DU H e y:=by
 obtain⟨x,B,R⟩:=h.get (i:=0) rfl;obtain⟨y,g,I⟩:=h.get (i:=1) rfl;have:=h.len
 match xs,this with
 |[a,b],_=>
  simp at B g;subst B g;exact⟨a,b,rfl,R,I⟩
mutual
theorem qN{c:Addr}{H:Hp}:∀ {d:IR} {v:V},Dt c H d v->DU H d v
 |.none,_,h=>by rw[Dt]at h;subst h;exact .CL
 |.bool _,_,h=>by rw[Dt]at h;subst h;exact .bool
 |.int _,_,h=>by rw[Dt]at h;subst h;exact .int
 |.str _,_,h=>by rw[Dt]at h;subst h;exact .str
 |.tuple _,_,h=>by
  rw[Dt]at h;obtain⟨a,xs,rfl,n,B,g⟩:=h;exact .tup B (K9 g)
 |.list _,_,h=>by
  rw[Dt]at h;obtain⟨a,xs,rfl,n,B,g⟩:=h;exact .lst B (K9 g)
 |.dict _,_,h=>by rw[Dt]at h;exact h.elim
theorem K9{c:Addr}{H:Hp}:∀ {ds:Ch} {xs:Fa},Ap c H ds xs->Bv H ds xs
 |[],_,h=>by rw[Ap]at h;subst h;exact .nil
 |_::_,_,h=>by
  rw[Ap]at h;obtain⟨x,r,rfl,B,g⟩:=h;exact .cons (qN B) (K9 g)
end
theorem DU.ints{H:Hp}{ps:List Int}{v:V}(h:DU H (.tuple (ps.map .int)) v):∃a,v=.ref a/\H a=some (.tup (ps.map V.int)):=by
 obtain⟨a,xs,rfl,ha,I⟩:=h.rV;refine⟨a,rfl,?_⟩;rw[ha]
 congr 2
 obtain⟨N,b⟩:=I;have:=b N (aH _);clear b ha h
 induction ps generalizing xs with
 |nil=>rw[List.map_nil,Ap]at this;exact this
 |cons p ps B=>
  rw[(CI),Ap]at this;obtain⟨x,r,rfl,g,R⟩:=this;rw[Dt]at g;subst g;rw[(CI),B r R]
def Gb:PyData->Bool
 |.tuple [.int a,.int b]=>decide (1<=b)&&(FM.gi a b==1)
 |_=>false
theorem Q7{ds:Ch}(h:ds.length≠2\/∃g d1,ds=[g,d1]/\((LI g && !JF g)=false\/(LI d1 && !JF d1)=false)):Gb (.tuple ds)=false:=by
 rcases h with h|⟨g,d1,rfl,h⟩
 .match ds,h with
  |[],_=>rfl
  |[a],_=>cases a<;>rfl
  |[_,_],h=>exact absurd rfl h
  |a::b::_::_,_=>cases a<;>first|rfl|(cases b<;>rfl)
 .cases g<;>first|rfl|(cases d1<;>first|rfl|(exfalso;rcases h with h|h<;>exact absurd h (by simp[LI,JF])))
def cM:Sp:=fun vs H Q _=>∃l d v,vs=[v]/\Dt l H d v/\Q (.bl (LI d && !JF d)) H
def ed:Sp:=fun vs H Q _=>∃l d v,vs=[v]/\Dt l H d v/\Q (.bl (Gb d)) H
theorem UR{d:IR}(h:(LI d && !JF d)=true):∃i,d=.int i:=by
 cases d<;>first|exact⟨_,rfl⟩|(exact absurd h (by simp[LI,JF]))|(rename_i b;cases b<;>exact absurd h As)
section
variable{P:G8}{w:Id}{K:At}{mg:Eu}{base:Heap}{f g1 g2:Addr}{fd gd1 gd2:GE}
theorem Xg:Aj Is Is (AX NF):=⟨rfl,rfl,rfl,by decide +kernel,rfl,by decide +kernel,by decide +kernel⟩
theorem Xd(F:Fn K mg "is_whole" NF Is f fd)(g:mg "isinstance" = none)(B:mg "int" = none)(I:mg "bool" = none):AL P w K mg base Ad 1 f fd Is cM:=by
 have sc:=Xg;refine F.F.ok (k:=0) sc Jl (fun cdv A outer s H vs Q E R h=>?_)
 .obtain⟨l,d,v,rfl,_⟩:=h
  rfl
 obtain⟨l,d,v,rfl,hd,q⟩:=h;refine⟨_,(Ar (Bo (R7 (Bp JP rfl g bF (AF (pv 0) (AF (Kr (v:=.ty "int") rfl B PyProof.Rows.boot_int rfl) AV))) (VT (la (Bp JP rfl g bF (AF (pv 0) (AF (Kr (v:=.ty "bool") rfl I PyProof.Rows.boot_bool rfl) AV)))))))),?_⟩;refine⟨_,rfl,_,_,_,_,rfl,X5,hd.ty,fk K d hd.nodict,_,rfl,ER (fun c=>⟨_,rfl,_,_,_,_,rfl,X5,hd.ty,eE K d hd.nodict,_,rfl,?_⟩) (fun c=>?_)⟩
 .rw[c,(MO)]at q;exact q
 .rw[Bool.eq_false_iff.mpr c,(NG)]at q;exact q
theorem Su:Aj Is Is (AX J8):=⟨rfl,rfl,rfl,by decide +kernel,rfl,by decide +kernel,by decide +kernel⟩
theorem S4(F:Fn K mg "is_fraction" J8 Is f fd)(Iu:Fn K mg "is_whole" NF Is g1 gd1)(Bj:Fn K mg "greatest_divisor" EB Iy g2 gd2)
 (Sa:AL P w K mg base Ad 1 g1 gd1 Is cM)(D7:AL P w K mg base Ad 1 g2 gd2 Iy Z4)(Bf:mg "isinstance" = none)(HA:mg "tuple" = none)(Bs:mg "len" = none):AL P w K mg base Ad 2 f fd Is ed:=by
 have sc:=Su;refine F.F.ok (k:=1) sc Jl Hf
 .obtain⟨l,d,v,rfl,_⟩:=h
  rfl
 obtain⟨l,d,v,rfl,hd,q⟩:=h;refine⟨_,(Aa (FD (PW.pt (NN (IT (Ig (Bp JP rfl Bf bF (AF (pv 0) (AF (Kr (v:=.ty "tuple") rfl HA PyProof.Rows.boot_tuple rfl) AV))))) (Mu (Cw U6 (Bp C2 rfl Bs aj (AF (pv 0) AV)) AQ (A6 _)))))
  (Ar (Bo Jc))
  DB)
 (Aa (FD (PW.pt (NN (IT (Ig (CQ Iu Sa hr rfl (AF (Bz B5 (pv 0) AQ Da) AV)))) (Mu (IT (Ig (CQ Iu Sa hr rfl (AF (Bz B5 (pv 0) AQ Da) AV)))))))
  (Ar (Bo Jc))
  DB)
 (Ar (Bo (R7 (Pr iQ (Bz B5 (pv 0) AQ Da) AQ (A6 _)) (VT (Pr Rl (CQ Bj D7 hr rfl (AF (Bz B5 (pv 0) AQ Da) (AF (Bz B5 (pv 0) AQ Da) AV))) AQ (A6 _)))))))),?_⟩
 refine⟨_,rfl,_,_,_,_,rfl,X5,hd.ty,Vg K d hd.nodict,_,rfl,?_⟩;have no:Gs d=false->Gb d=false:=fun z=>by cases d<;>first|rfl|exact absurd z (by simp[Gs])
 by_cases Y:Gs d=true
 .rw[Y];obtain⟨R,rfl⟩:∃R,d=.tuple R:=by cases d<;>first|exact⟨_,rfl⟩|exact absurd Y (by simp[Gs])
  rw[Dt]at hd;obtain⟨a,xs,rfl,na,ha,g⟩:=hd;have U:=g.len;have s1:BE K H a xs:=BE.of ha;refine Vn ⟨_,rfl,a,xs,rfl,.inr s1,rfl,_,rfl,ER (fun c=>?_) (fun c=>?_)⟩
  .have:R.length≠2:=by
    rw[<-U];intro z;rw[z]at c;exact absurd c As
   rw[Q7 (.inl this)]at q;exact q
  .have h2:xs.length=2:=by
    by_cases z:xs.length=2
    .exact z
    .exfalso
     refine c ?_;have:¬(V.int (xs.length:Nat)=V.int 2):=by simp;lia
     rw[decide_eq_false this];rfl
   obtain⟨T,d1,rfl⟩:∃T d1,R=[T,d1]:=by
    match R,(show R.length=2 by lia) with
    |[x,y],_=>exact⟨x,y,rfl⟩
   rw[Ap]at g;obtain⟨x0,r,rfl,I,g⟩:=g;rw[Ap]at g;obtain⟨x1,r,rfl,B,g⟩:=g;rw[Ap]at g;subst g;refine⟨_,rfl,_,_,_,_,rfl,rfl,s1,rfl,l,T,x0,rfl,I,_,rfl,ER (fun c0=>?_) (fun c0=>?_)⟩
   .rw[Q7 (.inr ⟨T,d1,rfl,.inl (by simp at c0;rcases c0 with c|c<;>simp[c])⟩)]at q;exact q
   refine⟨_,rfl,_,_,_,_,rfl,rfl,s1,rfl,l,d1,x1,rfl,B,_,rfl,ER (fun Z=>?_) (fun Z=>?_)⟩
   .rw[Q7 (.inr ⟨T,d1,rfl,.inr (by simp at Z;rcases Z with c|c<;>simp[c])⟩)]at q;exact q
   obtain⟨i,rfl⟩:=UR (d:=T) (by simpa using c0);obtain⟨j,rfl⟩:=UR (d:=d1) (by simpa using Z);rw[Dt]at I B;subst I B;refine⟨_,rfl,_,_,_,_,rfl,rfl,s1,rfl,_,_,rfl,rfl,_,rfl,ER (fun c=>?_) (fun c=>?_)⟩
   .refine⟨_,rfl,_,_,_,_,rfl,rfl,s1,rfl,_,rfl,_,_,_,_,rfl,rfl,s1,rfl,i,j,rfl,rfl,?_⟩;have hj:1<=j:=by have:=ah c;lia
    have e:Gb (.tuple [.int i,.int j])=decide (V.int (FM.gi i j)=V.int 1):=by
     rw[Gb,decide_eq_true hj,(MO),Bool.eq_iff_iff];simp
    rw[e]at q;exact q
   .have hj:¬1<=j:=fun z=>c (bf AS);have e:Gb (.tuple [.int i,.int j])=false:=by rw[Gb,decide_eq_false hj,(NG)]
    rw[e]at q;exact q
 .rw[Bool.eq_false_iff.mpr Y];rw[no (ar.mpr Y)]at q;exact GR (GR q)
end
def Ed:PyData->Bool
 |.list g=>g.all Gb
 |_=>false
def GU:PyData->Nat
 |.list g=>g.length
 |_=>0
def rowAt(ds:Ch)(i:Nat):Bool:=match ds[i]? with
 |some d=>Ed d&&decide (GU d=i)
 |none=>true
def M5(ds:Ch):Bool:=(List.range ds.length).all (rowAt ds)
def EG:PyData->Bool
 |.list g=>decide (1<=g.length)&&(decide (g.length<=40)&&M5 g)
 |_=>false
def Hi:PyData->Bool
 |.tuple [r,l]=>EG r&&(Ed l&&decide (GU l=GU r))
 |_=>false
theorem ef{d:IR}(h:FX d=false):Ed d=false:=by cases d<;>first|rfl|exact absurd h (by simp[FX])
theorem Xj{d:IR}(h:FX d=false):EG d=false:=by cases d<;>first|rfl|exact absurd h (by simp[FX])
theorem cT{d:IR}(h:Gs d=false):Hi d=false:=by cases d<;>first|rfl|exact absurd h (by simp[Gs])
theorem Zc{ds:Ch}(h:ds.length≠2):Hi (.tuple ds)=false:=by
 match ds,h with
 |[],_=>rfl
 |[_],_=>rfl
 |[_,_],h=>exact absurd rfl h
 |_::_::_::_,_=>rfl
theorem Kx{d:IR}(h:FX d=true):∃ds,d=.list ds:=by cases d<;>first|exact⟨_,rfl⟩|exact absurd h (by simp[FX])
theorem gn{d:IR}(h:Gs d=true):∃ds,d=.tuple ds:=by cases d<;>first|exact⟨_,rfl⟩|exact absurd h (by simp[Gs])
theorem RK{d:IR}(h:Ed d=true):FX d=true:=by cases d<;>first|rfl|exact absurd h (by simp[Ed])
theorem V9{d:IR}(h:EG d=true):FX d=true:=by cases d<;>first|rfl|exact absurd h (by simp[EG])
theorem Ud{ds:Ch}(h:∀j,j<ds.length->rowAt ds j=true):M5 ds=true:=by
 unfold M5;rw[(Qv)];intro j g;exact h j (bD.mp g)
theorem UE{ds:Ch}{i:Nat}(hi:i<ds.length)(h:rowAt ds i=false):M5 ds=false:=by
 refine ar.mpr fun z=>?_;unfold M5 at z;rw[(Qv)]at z;rw[z i (bD.mpr hi)]at h;cases h
theorem NI{ds:Ch}{i:Nat}{d:IR}(h:ds[i]? = some d):rowAt ds i=(Ed d&&decide (GU d=i)):=by unfold rowAt;rw[h]
def TY:Sp:=fun vs H Q _=>∃l d v,vs=[v]/\Dt l H d v/\Q (.bl (Ed d)) H
def cF:Sp:=fun vs H Q _=>∃l d v,vs=[v]/\Dt l H d v/\∀H',AN H H'->Q (.bl (EG d)) H'
def jL:Sp:=fun vs H Q _=>∃l d v,vs=[v]/\Dt l H d v/\∀H',AN H H'->Q (.bl (Hi d)) H'
section
variable{P:G8}{w:Id}{K:At}{mg:Eu}{base:Heap}{f g1 g2:Addr}{fd gd1 gd2:GE}
theorem Q3:Aj ["thing","part"] Is (AX Gg):=⟨rfl,rfl,rfl,by decide +kernel,rfl,by decide +kernel,by decide +kernel⟩
theorem Q0(F:Fn K mg "are_fractions" Gg Is f fd)(Hk:Fn K mg "is_fraction" J8 Is g1 gd1)
 (Ur:AL P w K mg base Ad 2 g1 gd1 Is ed)(Bf:mg "isinstance" = none)(Fm:mg "list" = none):AL P w K mg base Ad 3 f fd Is TY:=by
 have sc:=Q3;refine F.F.ok (k:=2) sc Jl Hf
 .obtain⟨l,d,v,rfl,_⟩:=h
  rfl
 obtain⟨l,d,v,rfl,hd,q⟩:=h;refine⟨_,(Aa (FD (IT (Ig (Bp JP rfl Bf bF (AF (pv 0) (AF (Kr (v:=.ty "list") rfl Fm bg rfl) AV)))))
  (Ar (Bo Jc))
  DB)
 (Aa (Gx aN rfl (Es (pv 0)) (Ay (i:=1) sc.nd rfl By)
  (Ar (FD (IT (Ig (CQ Hk Ur hr rfl (AF (pv 1) AV))))
   (Ar (Bo Jc))
   DB)))
 (Ar (Bo Jc)))),?_⟩
 refine⟨_,rfl,_,_,_,_,rfl,X5,hd.ty,Vl K d hd.nodict,_,rfl,?_⟩;by_cases g:FX d=false
 .rw[g];rw[ef g]at q;exact GR q
 have g:FX d=true:=by simpa using g
 rw[g];refine Vn ?_;obtain⟨ds,rfl⟩:=Kx g;rw[Dt]at hd;obtain⟨a,xs,rfl,na,ha,ht⟩:=hd;have B:=ht.len;refine⟨_,rfl,a,rfl,⟨_,Ax.of ha⟩,JX (xs:=xs) (fun i σ H'=>∃I,σ=[some Jj,I]/\H=H'/\∀j c,j<i->ds[j]? = some c->Gb c=true) ?_ ?_ ?_ ?_⟩
 .exact⟨_,rfl,rfl,fun j c h=>absurd h (ak _)⟩
 .rintro i σ H' _ ⟨I,rfl,rfl,_⟩;exact Ax.of ha
 .rintro i x σ H' hx ⟨I,rfl,rfl,Y⟩;obtain⟨c,R,tc⟩:=ht.get hx;refine⟨_,rfl,l,c,x,rfl,tc,_,rfl,ER (fun b=>?_) (fun b=>?_)⟩
  .have T:Gb c=false:=by simpa using b
   have e:Ed (.list ds)=false:=ar.mpr fun z=>by
    rw[Ed,(Qv)]at z;rw[z c (aT R)]at T;cases T
   rw[e]at q;exact q
  .have T:Gb c=true:=by simpa using b
   refine⟨_,rfl,rfl,fun j e U Z=>?_⟩;by_cases z:j=i
   .subst z;rw[R]at Z;cases Z;exact T
   .exact Y j e AS Z
 .rintro σ H' ⟨I,rfl,rfl,Y⟩;have e:Ed (.list ds)=true:=by
   rw[Ed,(Qv)];intro c R;obtain⟨j,U⟩:=List.getElem?_of_mem R;exact Y j c (by rw[B];exact(aD.mp U).1) U
  rw[e]at q;exact q
theorem XX:Aj ["thing","k","row"] Is (AX Na):=⟨rfl,rfl,rfl,by decide +kernel,rfl,by decide +kernel,by decide +kernel⟩
theorem Xe{tk:Tok}(F:Fn K mg "are_rows" Na Is f fd)(DV:Fn K mg "are_fractions" Gg Is g1 gd1)
 (Ih:AL P w K mg base Ad 3 g1 gd1 Is TY)(GO:mg "MOST_ROWS" = some (.int 40 tk))(Bf:mg "isinstance" = none)(Fm:mg "list" = none)(Bs:mg "len" = none)(FN:mg "enumerate" = none):AL P w K mg base Ad 4 f fd Is cF:=by
 have sc:=XX;refine F.F.ok (k:=3) sc Jl Hf
 .obtain⟨l,d,v,rfl,_⟩:=h
  rfl
 obtain⟨l,d,v,rfl,hd,q⟩:=h;refine⟨_,(Aa (FD (PW.pt (NN (IT (Ig (Bp JP rfl Bf bF (AF (pv 0) (AF (Kr (v:=.ty "list") rfl Fm bg rfl) AV))))) (NN (Cw Rg (Bp C2 rfl Bs aj (AF (pv 0) AV)) AQ (A6 _)) (Mu (Cw Pa (Bp C2 rfl Bs aj (AF (pv 0) AV)) (Pf (v:=.int 40) rfl GO ⟨_,rfl⟩) (A6 _))))))
  (Ar (Bo Jc))
  DB)
 (Aa (Gx aN rfl (Vm rfl FN (AF (pv 0) AV)) (Gp rfl (Bq (Ay (i:=1) sc.nd rfl By) (Bq (Ay (i:=2) sc.nd rfl By) FY)))
  (Ar (FD (PW.pt (NN (IT (Ig (CQ DV Ih hr rfl (AF (pv 2) AV)))) (Mu (Cw U6 (Bp C2 rfl Bs aj (AF (pv 2) AV)) (pv 1) (A6 _)))))
   (Ar (Bo Jc))
   DB)))
 (Ar (Bo Jc)))),?_⟩
 refine⟨_,rfl,_,_,_,_,rfl,X5,hd.ty,Vl K d hd.nodict,_,rfl,?_⟩;by_cases R:FX d=false
 .rw[R];have:=q H (.refl H);rw[Xj R]at this;exact GR (GR this)
 have R:FX d=true:=by simpa using R
 rw[R];refine Vn ?_;obtain⟨B,rfl⟩:=Kx R;rw[Dt]at hd;obtain⟨a,xs,rfl,na,ha,ht⟩:=hd;have g:=ht.len;refine⟨_,rfl,a,xs,rfl,.inl (Ax.of ha),_,_,rfl,rfl,_,rfl,ER (fun c=>?_) (fun c=>?_)⟩
 .have e:EG (.list B)=false:=by
   have:¬1<=B.length:=by rw[<-g];have:=ah c;lia
   rw[EG,decide_eq_false this,(NG)]
  have:=q H (.refl H);rw[e]at this;exact GR this
 have h1:1<=B.length:=by rw[<-g];have:=bJ (ar.mpr c);lia
 refine⟨_,rfl,a,xs,rfl,.inl (Ax.of ha),_,_,rfl,rfl,_,rfl,ER (fun c=>?_) (fun c=>?_)⟩
 .have e:EG (.list B)=false:=by
   have:¬B.length<=40:=by rw[<-g];have:=ah c;lia
   rw[EG,decide_eq_false this,(NG),Bool.and_false]
  have:=q H (.refl H);rw[e]at this;exact this
 have h2:B.length<=40:=by rw[<-g];have:=bJ (ar.mpr c);lia
 have e:EG (.list B)=M5 B:=by rw[EG,decide_eq_true h1,decide_eq_true h2,(MO),(MO)]
 rw[e]at q;refine⟨_,rfl,a,rfl,⟨_,Ax.of ha⟩,cI (xs:=xs) (fun i σ H'=>∃r1 r2,σ=[some Jj,r1,r2]/\AN H H'/\∀j,j<i->rowAt B j=true) ?_ ?_ ?_ ?_⟩
 .exact⟨_,_,rfl,.refl _,fun j h=>absurd h (ak _)⟩
 .rintro i σ H' _ ⟨r1,r2,rfl,e,_⟩;exact Ax.of (e _ _ ha)
 .rintro i x σ H0 hx ⟨r1,r2,rfl,e0,hf⟩ p hp;obtain⟨c,hc,U⟩:=ht.get hx;have hi:i<B.length:=(aD.mp hc).1;have s1:=Ab hp (.tup [.int (i:Nat),x]);have e1:=e0.trans s1;have Y:(upd H0 p (.tup [.int (i:Nat),x])) p=some (.tup [.int (i:Nat),x]):=AM;generalize upd H0 p (.tup [.int (i:Nat),x])=H1 at s1 e1 Y;have U:=U.same e1;refine⟨p,_,rfl,BE.of Y,rfl,_,_,rfl,_,_,rfl,rfl,?_⟩;refine⟨_,rfl,l,c,x,rfl,U,_,rfl,ER (fun b=>?_) (fun b=>?_)⟩
  .have Z:Ed c=false:=by simpa using b
   have:=q H1 e1;rw[UE hi (by rw[NI hc,Z,(NG)])]at this;exact GR this
  have Z:Ed c=true:=by simpa using b
  obtain⟨cs,rfl⟩:=Kx (RK Z);rw[Dt]at U;obtain⟨b,ys,rfl,nb,hb',hy⟩:=U;refine⟨_,rfl,b,ys,rfl,.inl (Ax.of hb'),_,rfl,rfl,_,rfl,ER (fun z=>?_) (fun z=>?_)⟩
  .have I:¬GU (.list cs)=i:=by
    rw[GU,<-hy.len];intro T;rw[T]at z;simp at z
   have:=q H1 e1;rw[UE hi (by rw[NI hc,Z,decide_eq_false I,Bool.and_false])]at this;exact this
  .have I:GU (.list cs)=i:=by
    rw[GU,<-hy.len];by_cases T:ys.length=i
    .exact T
    .exfalso
     refine z ?_;have:¬(V.int (ys.length:Nat)=V.int (i:Nat)):=by simp;lia
     rw[decide_eq_false this];rfl
   refine⟨_,_,rfl,e1,fun j hj=>?_⟩;by_cases T:j=i
   .subst T;rw[NI hc,Z,decide_eq_true I,Bool.and_self]
   .exact hf j AS
 .rintro σ H' ⟨r1,r2,rfl,e1,hf⟩;have:=q H' e1;rw[Ud fun j hj=>hf j (by rw[g];exact hj)]at this;exact this
theorem XJ:Aj Is Is (AX Nk):=⟨rfl,rfl,rfl,by decide +kernel,rfl,by decide +kernel,by decide +kernel⟩
theorem Xl(F:Fn K mg "is_table" Nk Is f fd)(Kd:Fn K mg "are_rows" Na Is g1 gd1)(DV:Fn K mg "are_fractions" Gg Is g2 gd2)
 (ZZ:AL P w K mg base Ad 4 g1 gd1 Is cF)(Ih:AL P w K mg base Ad 4 g2 gd2 Is TY)(Bf:mg "isinstance" = none)(HA:mg "tuple" = none)(Bs:mg "len" = none):AL P w K mg base Ad 5 f fd Is jL:=by
 have sc:=XJ;refine F.F.ok (k:=4) sc Jl Hf
 .obtain⟨l,d,v,rfl,_⟩:=h
  rfl
 obtain⟨l,d,v,rfl,hd,q⟩:=h;refine⟨_,(Aa (FD (PW.pt (NN (IT (Ig (Bp JP rfl Bf bF (AF (pv 0) (AF (Kr (v:=.ty "tuple") rfl HA PyProof.Rows.boot_tuple rfl) AV))))) (Mu (Cw U6 (Bp C2 rfl Bs aj (AF (pv 0) AV)) AQ (A6 _)))))
  (Ar (Bo Jc))
  DB)
 (Ar (Bo (R7 (CQ Kd ZZ hr rfl (AF (Bz B5 (pv 0) AQ Da) AV)) (R7 (CQ DV Ih hr rfl (AF (Bz B5 (pv 0) AQ Da) AV)) (VT (Pr Rl (Bp C2 rfl Bs aj (AF (Bz B5 (pv 0) AQ Da) AV)) (Bp C2 rfl Bs aj (AF (Bz B5 (pv 0) AQ Da) AV)) (A6 _)))))))),?_⟩
 refine⟨_,rfl,_,_,_,_,rfl,X5,hd.ty,Vg K d hd.nodict,_,rfl,?_⟩;by_cases R:Gs d=false
 .rw[R];have:=q H (.refl H);rw[cT R]at this;exact GR (GR this)
 have R:Gs d=true:=by simpa using R
 rw[R];refine Vn ?_;obtain⟨U,rfl⟩:=gn R;rw[Dt]at hd;obtain⟨a,xs,rfl,na,ha,I⟩:=hd;have T:=I.len;have s1:BE K H a xs:=BE.of ha;refine⟨_,rfl,a,xs,rfl,.inr s1,rfl,_,rfl,ER (fun c=>?_) (fun c=>?_)⟩
 .have:U.length≠2:=by
   rw[<-T];intro z;rw[z]at c;exact absurd c As
  have q:=q H (.refl H);rw[Zc this]at q;exact q
 have h2:xs.length=2:=by
  by_cases z:xs.length=2
  .exact z
  .exfalso
   refine c ?_;have:¬(V.int (xs.length:Nat)=V.int 2):=by simp;lia
   rw[decide_eq_false this];rfl
 obtain⟨d0,d1,rfl⟩:∃d0 d1,U=[d0,d1]:=by
  match U,(show U.length=2 by lia) with
  |[x,y],_=>exact⟨x,y,rfl⟩
 rw[Ap]at I;obtain⟨x0,r,rfl,B,I⟩:=I;rw[Ap]at I;obtain⟨x1,r,rfl,g,I⟩:=I;rw[Ap]at I;subst I;rw[Hi]at q;refine⟨_,rfl,_,_,_,_,rfl,rfl,s1,rfl,l,d0,x0,rfl,B,fun H1 e1=>⟨_,rfl,ER (fun Z=>?_) (fun Z=>?_)⟩⟩
 .rw[Z]at q;refine⟨_,rfl,_,_,_,_,rfl,rfl,e1.tup s1,rfl,l,d1,x1,rfl,g.same e1,_,rfl,ER (fun Y=>?_) (fun Y=>?_)⟩
  .rw[Y]at q;obtain⟨r0,rfl⟩:=Kx (V9 Z);obtain⟨r1,rfl⟩:=Kx (RK Y);have B:=B.same e1;have g:=g.same e1;rw[Dt]at B g;obtain⟨a0,y0,rfl,_,ha0,hy0⟩:=B;obtain⟨a1,y1,rfl,_,ha1,hy1⟩:=g;refine⟨_,rfl,_,_,_,_,rfl,rfl,e1.tup s1,rfl,a1,y1,rfl,.inl (Ax.of ha1),_,rfl,_,_,_,_,rfl,rfl,e1.tup s1,rfl,a0,y0,rfl,.inl (Ax.of ha0),rfl,?_⟩;have:=q H1 e1;rw[(MO),(MO),GU,GU,<-hy0.len,<-hy1.len]at this;have e:decide (V.int (y1.length:Nat)=V.int (y0.length:Nat))=decide (y1.length=y0.length):=by
    rw[Bool.eq_iff_iff];simp;lia
   rw[<-e]at this;exact this
  .rw[Bool.eq_false_iff.mpr Y,(NG),Bool.and_false]at q;exact q H1 e1
 .rw[Bool.eq_false_iff.mpr Z,(NG)]at q;exact q H1 e1
end
theorem oG(r:Rat):Gb (AK r)=true:=by
 have h:=r.den_nz;have k:=r.reduced;rw[AK,Gb,decide_eq_true (show(1:Int)<=(r.den:Int) by lia),(MO)];rw[beq_iff_eq];unfold FM.gi;unfold Nat.Coprime at k;rw[show r.num.gcd (r.den:Int)=1 from k]
 rfl
theorem S5{i n:Nat}(h:i<n)(hn:n<=60):i<sizeLine:=aI (show i<60 by lia) (by rw[sizeLine_eq];decide)
theorem HK{n:Nat}(hn:n<=60):n<=sizeLine:=aR hn (by rw[sizeLine_eq];decide)
structure Tb where
 rs:List (List Rat)
 ls:List Rat
def Ag(r:List Rat):List PyData:=r.map AK
def BB(r:List Rat):PyData:=.list (Ag r)
def A2(rs:List (List Rat)):List PyData:=rs.map BB
def AY(t:Tb):PyData:=.tuple [.list (A2 t.rs),.list (Ag t.ls)]
structure Tb.Ok(m:Nat)(t:Tb):Prop where
 one:1<=t.rs.length
 most:t.rs.length<=m
 last:t.ls.length=t.rs.length
 row:∀(i:Nat) r,t.rs[i]? = some r->r.length=i
theorem WN(r:List Rat):∀e∈Ag r,Gb e=true:=fun e g=>by
 obtain⟨q,_,rfl⟩:=aK.mp g;exact oG q
theorem Bt(r:List Rat):(Ag r).length=r.length:=bL _
theorem Dj(r:List (List Rat)):(A2 r).length=r.length:=bL _
theorem Tb.Ok.gB{m:Nat}{t:Tb}(h:t.Ok m):∀r∈t.rs,r.length<t.rs.length:=fun r g=>by
 obtain⟨i,hi⟩:=List.getElem?_of_mem g;rw[h.row i r hi];exact(aD.mp hi).1
theorem Tb.Ok.is{m:Nat}(hm:m<=40){t:Tb}(h:t.Ok m):Hi (AY t)=true:=by
 have I:=h.one;have R:=h.most;rw[AY,Hi,EG,GU,GU,Dj,Bt,decide_eq_true I,decide_eq_true (show t.rs.length<=40 by lia),decide_eq_true h.last,Ed,(MO),(MO),Bool.and_true,List.all_eq_true.mpr (WN _),Bool.and_true];refine Ud fun j B=>?_;rw[Dj]at B;have g:t.rs[j]? = some t.rs[j]:=by simp[B]
 rw[NI (d:=BB t.rs[j]) (by rw[A2,(B7),g];rfl),BB,GU,Bt,decide_eq_true (h.row j _ g),Ed,Bool.and_true,List.all_eq_true.mpr (WN _)]
mutual
theorem jx{l c:Addr}{H H':Hp}(e:SameBut c H H'):∀ {d:IR} {v:V},Dt l H d v->Dt c H d v->Dt l H' d v
 |.none,_,h,_=>by rw[Dt]at h ⊢;exact h
 |.bool _,_,h,_=>by rw[Dt]at h ⊢;exact h
 |.int _,_,h,_=>by rw[Dt]at h ⊢;exact h
 |.str _,_,h,_=>by rw[Dt]at h ⊢;exact h
 |.tuple _,_,h,k=>by
  rw[Dt]at h k ⊢;obtain⟨a,xs,e1,n,R,Y⟩:=h;obtain⟨Z,T,I,U,g,B⟩:=k;subst e1;cases I;rw[R]at g;cases g;exact⟨a,xs,rfl,n,e _ _ U R,IX e Y B⟩
 |.list _,_,h,k=>by
  rw[Dt]at h k ⊢;obtain⟨a,xs,e1,n,R,Y⟩:=h;obtain⟨Z,T,I,U,g,B⟩:=k;subst e1;cases I;rw[R]at g;cases g;exact⟨a,xs,rfl,n,e _ _ U R,IX e Y B⟩
 |.dict _,_,h,_=>by rw[Dt]at h;exact h.elim
theorem IX{l c:Addr}{H H':Hp}(e:SameBut c H H'):∀ {ds:Ch} {xs:Fa},Ap l H ds xs->Ap c H ds xs->Ap l H' ds xs
 |[],_,h,_=>by rw[Ap]at h ⊢;exact h
 |_::_,_,h,k=>by
  rw[Ap]at h k ⊢;obtain⟨x,r,e1,T,R⟩:=h;obtain⟨U,Y,I,B,g⟩:=k;subst e1;cases I;exact⟨x,r,rfl,jx e T B,IX e R g⟩
end
theorem Bv.iR{H:Hp}{d:IR}{ds:Ch}{xs:Fa}(h:Bv H (d::ds) xs):∃x r,xs=x::r/\DU H d x/\Bv H ds r:=by
 obtain⟨N,b⟩:=h;have h0:=b N (aH _);rw[Ap]at h0;obtain⟨x,r,rfl,_,_⟩:=h0;refine⟨x,r,rfl,⟨N,fun l g=>?_⟩,⟨N,fun l g=>?_⟩⟩
 .have:=b l g;rw[Ap]at this;obtain⟨_,_,e,B,_⟩:=this;cases e;exact B
 .have:=b l g;rw[Ap]at this;obtain⟨_,_,e,_,B⟩:=this;cases e;exact B
theorem DU.rat{H:Hp}{q:Rat}{v:V}(h:DU H (AK q) v):∃p,v=.ref p/\H p=some (.tup (BZ q)):=h.ints (ps:=[q.num,(q.den:Int)])
theorem K4{H:Hp}{q:Rat}{p:Addr}(h:H p=some (.tup (BZ q))):DU H (AK q) (.ref p):=.tup h (.cons .int (.cons .int .nil))
theorem RA{c:Addr}{zs:Fa}{H:Hp}(B:H c=some (.lst zs)):∀ {g:List Rat} {xs:Fa},Bv H (Ag g) xs->Ap c H (Ag g) xs
 |[],xs,h=>by
  have:=h.len;rw[show Ag []=[] from rfl,List.length_nil]at this;rw[List.eq_nil_of_length_eq_zero this];exact .nil
 |q::g,xs,h=>by
  obtain⟨x,r,rfl,T,R⟩:=Bv.iR h;obtain⟨p,rfl,I⟩:=T.rat;exact .cons (.tup (fun z=>by subst z;rw[I]at B;cases B) I (.cons .int (.cons .int .nil))) (RA B R)
theorem Jq{c:Addr}{zs:Fa}{H H':Hp}(B:H c=some (.lst zs))(e:SameBut c H H'){g:List Rat}{xs:Fa}(h:Bv H (Ag g) xs):Bv H' (Ag g) xs:=K9 (.but e (RA B h))
theorem lB{c a:Addr}{zs xs:Fa}{H:Hp}{g:List Rat}(B:H c=some (.lst zs))(n:a≠c)(ha:H a=some (.lst xs))(h:Bv H (Ag g) xs):Dt c H (BB g) Jj:=.lst n ha (RA B h)
theorem Bv.set{H:Hp}{d:IR}{v:V}(g:DU H d v):∀ {ds:Ch} {xs:Fa} {j:Nat},Bv H ds xs->Bv H (ds.set j d) (xs.set j v)
 |[],xs,j,h=>by
  have:=h.len;rw[List.length_nil]at this;rw[List.eq_nil_of_length_eq_zero this];exact .nil
 |e::es,xs,j,h=>by
  obtain⟨x,r,rfl,I,B⟩:=h.iR;cases j with
  |zero=>exact .cons g B
  |succ j=>exact .cons I (Bv.set (j:=j) g B)
theorem DU.tab{H:Hp}{t:Tb}{v:V}(h:DU H (AY t) v):∃p R L xs ys,v=.ref p/\H p=some (.tup [.ref R,.ref L])/\H R=some (.lst xs)/\Bv H (A2 t.rs) xs/\H L=some IS/\Bv H (Ag t.ls) ys:=by
 obtain⟨p,zs,rfl,g,h1⟩:=h.rV;obtain⟨x,y,rfl,Z,Y⟩:=h1.RO;obtain⟨R,xs,rfl,B,U⟩:=Z.iz;obtain⟨L,ys,rfl,I,T⟩:=Y.iz;exact⟨p,R,L,xs,ys,rfl,g,B,U,I,T⟩
theorem eW{H:Hp}{t:Tb}{p R L:Addr}{xs ys:Fa}(g:H p=some (.tup [.ref R,.ref L]))(B:H R=some (.lst xs))(U:Bv H (A2 t.rs) xs)(I:H L=some IS)(T:Bv H (Ag t.ls) ys):DU H (AY t) (.ref p) :=
 .tup g (.cons (.lst B U) (.cons (.lst I T) .nil))
theorem WZ{H:Hp}{rs:List (List Rat)}{xs:Fa}{i:Nat}{r:List Rat}(h:Bv H (A2 rs) xs)(g:rs[i]? = some r):∃a ys,xs[i]? = some Jj/\H a=some IS/\Bv H (Ag r) ys:=by
 obtain⟨v,T,R⟩:=h.get (i:=i) (d:=BB r) (by rw[A2,(B7),g];rfl);obtain⟨a,ys,rfl,I,B⟩:=R.iz;exact⟨a,ys,T,I,B⟩
theorem Jk(a b:List Rat):Ag (a++b)=Ag a++Ag b:=List.map_append
def Em(c b:Int):Int:=c.fdiv (FM.gi c b)*b
def Ho(bs:List Int):Int:=bs.foldl Em 1
theorem Vh{k:Nat}:∀(bs:List Int) (c:Int) (n:Nat),1<=c->c.natAbs<2^n->(∀b∈bs,1<=b/\b.natAbs<2^k) ->
  1<=bs.foldl Em c/\(bs.foldl Em c).natAbs<2^(n+k*bs.length)/\c ∣ bs.foldl Em c/\∀b∈bs,b ∣ bs.foldl Em c
 |[],c,n,I,B,_=>⟨I,by simpa using B,Int.dvd_refl _,fun _ z=>(List.not_mem_nil z).elim⟩
 |b::bs,c,n,I,B,h=>by
  obtain⟨b1,b2⟩:=h b aX;obtain⟨s1,s2,U,T⟩:=Qn I b1;have n1:(Em c b).natAbs<2^(n+k):=FM.II (aP T B) b2;obtain⟨r1,Z,R,Y⟩:=Vh bs (Em c b) (n+k) s1 n1 fun y g=>h y (aV _ g);refine⟨r1,?_,Int.dvd_trans s2 R,fun y g=>?_⟩
  .rw[(JO),Nat.mul_succ,show n+(k*bs.length+k)=n+k+k*bs.length by lia];exact Z
  .rcases aQ.mp g with rfl|g
   .exact Int.dvd_trans U R
   .exact Y y g
theorem kN{k:Nat}{bs:List Int}(h:∀b∈bs,1<=b/\b.natAbs<2^k):1<=Ho bs/\(Ho bs).natAbs<2^(1+k*bs.length)/\∀b∈bs,b ∣ Ho bs:=by
 obtain⟨a,b,_,d⟩:=Vh bs 1 1 As As h;exact⟨a,b,d⟩
theorem dZ(bs:List Int)(b:Int):Ho (bs++[b])=Em (Ho bs) b:=by
 unfold Ho;rw[List.foldl_append]
 rfl
def GY(rs:List Rat)(B:Int):List Int:=rs.map fun r=>r.num*B.fdiv (r.den:Int)
def eB:Sp:=fun vs H Q _=>∃(a:Addr) (xs:Fa) (rs:List Rat) (B:Int) (n m:Nat),vs=[.ref a,.int B]/\H a=some (.lst xs)/\Bv H (Ag rs) xs/\rs.length<=50/\(∀r∈rs,FM.Fits r n)/\B.natAbs<2^m/\n+m<=4000 /\
 ∀D H',AN H H'->H D=none->H' D=some (.lst ((GY rs B).map V.int))->Q (.ref D) H'
theorem Kl{H:Hp}{g:List Rat}{xs:Fa}{i:Nat}{q:Rat}(h:Bv H (Ag g) xs)(B:g[i]? = some q):∃p,xs[i]? = some (.ref p)/\H p=some (.tup (BZ q)):=by
 obtain⟨v,T,R⟩:=h.get (i:=i) (d:=AK q) (by rw[Ag,(B7),B];rfl);obtain⟨p,rfl,I⟩:=R.rat;exact⟨p,T,I⟩
theorem Yk{rs:List Rat}{n:Nat}(h:∀r∈rs,FM.Fits r n):∀b∈rs.map (fun r=>(r.den:Int)),1<=b/\b.natAbs<2^n:=fun b B=>by
 obtain⟨r,g,rfl⟩:=aK.mp B;have:=r.den_nz;exact⟨by lia,(h r g).d⟩
section
variable{P:G8}{w:Id}{K:At}{mg:Eu}{base:Heap}{f:Addr}{fd:GE}
theorem VU:Aj ["some","bottom"] ["some","bottom"] (AX MR):=⟨rfl,rfl,rfl,by decide +kernel,rfl,by decide +kernel,by decide +kernel⟩
theorem Wi(F:Fn K mg "tops_over" MR ["some","bottom"] f fd):AL P w K mg base Ad 1 f fd ["some","bottom"] eB:=by
 have sc:=VU;refine F.F.ok (k:=0) sc Jl (fun cdv A outer s H vs Q E R h=>?_)
 .obtain⟨a,xs,rs,B,n,m,rfl,_⟩:=h
  rfl
 obtain⟨a,xs,rs,B,n,m,rfl,ha,dx,hl,hf,hB,hnm,q⟩:=h;have U:xs.length=rs.length:=by rw[dx.len,Bt]
 refine⟨_,(Ar (Bo (JJ [".0","part","bottom"] 1 [none,none,some 1] (Es (pv 0)) (fun _ _ _ _ _=>HI) (fun _ _ _ _ _=>(A9 Ea (Bz Pd (pv 1) AQ Da) (A9 GA (pv 2) (Bz Pd (pv 1) AQ Da))))))),?_⟩;refine⟨_,rfl,a,rfl,⟨_,Ax.of ha⟩,fun D Y=>JK (n:=xs.length) (fun i ys H'=>AN H H'/\ys=(GY (rs.take i) B).map V.int) ⟨Ab Y _,rfl⟩ ?_ ?_⟩
 .rintro i ys H1 hi ⟨e1,rfl⟩ g;have R:rs[i]? = some (rs[i]' AS):=aM _;obtain⟨p,T,I⟩:=Kl dx R;have Z:=hf _ (aT R);generalize rs[i]' AS=r at R I Z;have hd:=r.den_nz;refine⟨⟨xs,.ref p,Ax.of (e1 _ _ ha),T⟩,S5 (n:=60) (by unfold GY;simp;lia) As,fun x H' y=>?_⟩;obtain⟨rfl,y⟩:=y;have hx:=y xs (Ax.of (e1 _ _ ha));rw[T]at hx;cases hx;unfold Kn;have n2:(B.fdiv (r.den:Int)).natAbs<2^m:=aP (FM.E1 _ _) hB;refine GR ⟨_,rfl,_,_,_,_,rfl,rfl,BE.of (e1 _ _ I),rfl,_,rfl,_,rfl,_,_,_,_,rfl,rfl,BE.of (e1 _ _ I),rfl,_,_,rfl,rfl,⟨by lia,n,by lia,Z.d⟩,_,_,rfl,rfl,Qo Z.1 n2 AS,g,HP hi ⟨fun b o z=>?_,?_⟩⟩
  .rw[AR (Aq z Y)];exact e1 _ _ z
  .rw[(ME),R,GY,GY,(Fo),(Fo)]
   rfl
 .rintro ys H1 ⟨e1,rfl⟩ g;rw[U,(NP)]at g;exact⟨⟨xs,Ax.of (e1 _ _ ha),Nat.le_refl _⟩,q D H1 e1 Y g⟩
end
theorem XM{c b D:Int}(Z:1<=c)(hb:1<=b)(R:c ∣ D)(I:b ∣ D):Em c b ∣ D:=by
 obtain⟨q,g⟩:=FM.L7 c b;have Y:0<FM.gi c b:=FM.MZ AS;have U:c.fdiv (FM.gi c b)=q:=by
  have:c.fdiv (FM.gi c b)=(FM.gi c b*q).fdiv (FM.gi c b):=ay (fun z=>Int.fdiv z (FM.gi c b)) g;rw[this];exact Int.mul_fdiv_cancel_left q AS
 have e1:FM.gi c b*(Int.lcm c b:Int)=c*b:=by
  have:=Int.gcd_mul_lcm c b;have h:((Int.gcd c b*Int.lcm c b:Nat):Int)=((c*b).natAbs:Int):=by rw[this,(Q6)]
  rw[Int.natCast_mul]at h;refine h.trans (Int.natAbs_of_nonneg (Int.mul_nonneg AS AS))
 have T:(Int.lcm c b:Int)=q*b:=by
  refine Int.eq_of_mul_eq_mul_left (a:=FM.gi c b) AS ?_;rw[e1,<-Int.mul_assoc,<-g]
 unfold Em;rw[U,<-T];have B:(Int.lcm c b:Nat) ∣ D.natAbs:=Nat.lcm_dvd (bN.mpr R) (bN.mpr I);exact bN.mp (by simpa using B)
theorem QX{D:Int}:∀ {bs:List Int} {c:Int},1<=c->c ∣ D->(∀b∈bs,1<=b/\b ∣ D)->1<=bs.foldl Em c/\bs.foldl Em c ∣ D
 |[],c,g,B,_=>⟨g,B⟩
 |b::bs,c,g,B,h=>by
  obtain⟨b1,b2⟩:=h b (.head _);exact QX (bs:=bs) (Qn g b1).1 (XM g b1 B b2) fun y I=>h y (.tail _ I)
def dP:Sp:=fun vs H Q _=>∃(a:Addr) (bs:List Int) (D:Int) (k:Nat),vs=[.ref a]/\H a=some (.lst (bs.map V.int))/\(∀b∈bs,1<=b/\b ∣ D)/\1<=D/\D.natAbs<2^k/\k<=2000/\Q (.int (Ho bs)) H
section
variable{P:G8}{w:Id}{K:At}{mg:Eu}{base:Heap}{f g:Addr}{fd gd:GE}
theorem Py(F:Fn K mg "common_bottom" Ie ["bottoms"] f fd)(Bj:Fn K mg "greatest_divisor" EB Iy g gd)
 (D7:AL P w K mg base Ad 1 g gd Iy Z4):AL P w K mg base Ad 2 f fd ["bottoms"] dP:=by
 have sc:=Qa;refine F.F.ok (k:=1) sc Jl Hf
 .obtain⟨a,bs,D,k,rfl,_⟩:=h
  rfl
 obtain⟨a,bs,D,k,rfl,ha,T,hD,I,hk,q⟩:=h;have small:∀ {x:Int},x ∣ D->x.natAbs<2^k:=fun {x} B=>aP (Nat.le_of_dvd AS (bN.mpr B)) I;refine⟨_,(Aa (BJ (i:=1) sc.nd rfl By AQ)
 (Aa (Gx aN rfl (Es (pv 0)) (Ay (i:=2) sc.nd rfl By)
  (Ar (BJ (i:=1) sc.nd rfl By (A9 Ea (A9 GA (pv 1) (CQ Bj D7 hr rfl (AF (pv 1) (AF (pv 2) AV)))) (pv 2)))))
 (Ar (Bo (pv 1))))),?_⟩
 refine⟨_,rfl,a,rfl,⟨_,Ax.of ha⟩,JX (xs:=bs.map V.int) (fun i σ H'=>∃(r:Option V),σ=[some Jj,some (.int (Ho (bs.take i))),r]/\H=H') ?_ ?_ ?_ ?_⟩
 .exact⟨_,rfl,rfl⟩
 .rintro i σ H' _ ⟨r,rfl,rfl⟩;exact Ax.of ha
 .rintro i x σ H' B ⟨r,rfl,rfl⟩;have hi:i<bs.length:=by have:=(aD.mp B).1;simpa using this
  rw[(B7),List.getElem?_eq_getElem hi]at B;cases B;obtain⟨b1,b2⟩:=T _ (List.getElem_mem hi);obtain⟨R,c2⟩:=QX (bs:=bs.take i) (c:=1) As (Int.one_dvd D) fun y Z=>T y (List.mem_of_mem_take Z);have R:1<=Ho (bs.take i):=R;obtain⟨s1,s2,s3,U⟩:=Qn R b1;have hg:FM.gi (Ho (bs.take i)) bs[i]≠0:=Int.ne_of_gt (FM.MZ AS);have Y:((Ho (bs.take i)).fdiv (FM.gi (Ho (bs.take i)) bs[i])).natAbs<2^k:=aP U (small c2);refine⟨_,rfl,_,rfl,_,rfl,Ho (bs.take i),bs[i],rfl,_,_,rfl,rfl,⟨hg,k,by lia,Nat.lt_of_le_of_lt (FM.ip AS) (small b2)⟩,_,rfl,_,_,rfl,rfl,Qo Y (small b2) AS,some (.int bs[i]),?_,rfl⟩;rw[(ME),List.getElem?_eq_getElem hi];show _=[some (V.ref a),some (V.int (Ho (bs.take i++[bs[i]]))),some (V.int bs[i])];rw[dZ]
  rfl
 .rintro σ H' ⟨r,rfl,rfl⟩;rw[(BW),(NP)];exact⟨_,rfl,q⟩
end
def C5(a b:List Int):List Int:=List.zipWith (· * ·) a b
def Ng(a b:List Int):Int:=(C5 a b).sum
def Cv(n:Nat):List Int:=List.replicate n 1
def Ju(rows:List (List Int)):Tr->List Int->List Int
 |.nil,g=>g
 |.cons b r,g=>Ju rows r (C5 g (rows.map fun row=>Ng row (Ju rows b (Cv rows.length))))
def Dz(rows:List (List Int))(t:Tr):List Int:=rows.map fun row=>Ng row (Ju rows t (Cv rows.length))
theorem Se(rows:List (List Int)):∀(t:Tr) (g:List Int),Ju rows t g=t.bs.foldl (fun a b=>C5 a (Dz rows b)) g
 |.nil,g=>rfl
 |.cons b r,g=>by
  rw[Ju,Tr.bs,List.foldl_cons,Se rows r]
  rfl
theorem IB(rows:List (List Int))(t:Tr):(Dz rows t).length=rows.length:=bL _
theorem Vo{a b:List Int}(h:a.length=b.length):(C5 a b).length=a.length:=by unfold C5;rw[List.length_zipWith,h,Nat.min_self]
def Dw(n:Nat)(xs:List Int):Prop:=∀x∈xs,x.natAbs<=n
theorem Dw.mul{m n:Nat}:∀ {a b:List Int},Dw m a->Dw n b->Dw (m*n) (C5 a b)
 |[],_,_,_=>fun x h=>by cases h
 |_::_,[],_,_=>fun x h=>by cases h
 |x::a,y::b,ha,g=>fun z h=>by
  have h:z∈x*y::C5 a b:=h;rcases aQ.mp h with rfl|h
  .rw[(Q6)];exact Nat.mul_le_mul (ha x (.head _)) (g y (.head _))
  .exact Dw.mul (fun x h=>ha x (.tail _ h)) (fun x h=>g x (.tail _ h)) z h
theorem cq{n:Nat}:∀ {a:List Int},Dw n a->a.sum.natAbs<=a.length*n
 |[],_=>bH _
 |x::a,h=>by
  have B:=h x (.head _);have g:=cq (a:=a) fun x h'=>h x (.tail _ h');rw[List.sum_cons,(JO),Nat.succ_mul];have:=Int.natAbs_add_le x a.sum
  lia
theorem pE{m n:Nat}{a b:List Int}(ha:Dw m a)(B:Dw n b):(Ng a b).natAbs<=a.length*m*n:=by
 have h:=cq (ha.mul B);have g:(C5 a b).length<=a.length:=by unfold C5;rw[List.length_zipWith];exact Nat.min_le_left _ _
 refine aR h ?_;rw[Nat.mul_assoc];exact Nat.mul_le_mul_right _ g
structure LQ(rows:List (List Int))(c:Nat):Prop where
 len:rows.length<=1000
 one:∀row∈rows,row.length<=rows.length
 big:∃M,(∀row∈rows,Dw M row)/\M<=2^c/\∀row∈rows,row.length*M<=2^c
theorem Dw.mono{m n:Nat}{xs:List Int}(h:Dw m xs)(e:m<=n:=by decide):Dw n xs:=fun x g=>aR (h x g) e
theorem TX(n k:Nat):Dw (2^k) (Cv n):=fun x h=>by
 unfold Cv at h;rw[List.eq_of_mem_replicate h];exact Nat.one_le_two_pow
theorem i0{rows:List (List Int)}{c:Nat}(h:LQ rows c){t:Tr}{k:Nat}(I:Dw (2^(c*k)) (Ju rows t (Cv rows.length))):Dw (2^(c*(k+1))) (Dz rows t):=fun x g=>by
 unfold Dz at g;obtain⟨row,B,rfl⟩:=aK.mp g;obtain⟨M,T,_,R⟩:=h.big;have:=pE (T row B) I;refine aR this ?_;rw[Nat.mul_add,Nat.mul_one,Nat.add_comm,Nat.pow_add];exact Nat.mul_le_mul_right _ (R row B)
theorem Sn{rows:List (List Int)}{c:Nat}(h:LQ rows c):∀(t:Tr) (g:List Int) (j:Nat),g.length=rows.length->Dw (2^(c*j)) g->(Ju rows t g).length=rows.length/\Dw (2^(c*(j+(t.AE-1)))) (Ju rows t g)
 |.nil,g,j,B,ha=>⟨B,ha⟩
 |.cons b r,g,j,B,ha=>by
  have I:=Sn h b (Cv rows.length) 0 (List.length_replicate ..) (TX _ _);have Z:1<=b.AE:=Tr.D9 b;have Y:1<=r.AE:=Tr.D9 r;rw[Nat.zero_add]at I;have U:=i0 h I.2;rw[show b.AE-1+1=b.AE by lia]at U;have T:=ha.mul U;rw[<-Nat.pow_add,<-Nat.mul_add]at T;have R:=Sn h r (C5 g (Dz rows b)) (j+b.AE) (by rw[Vo (by rw[B,IB])];exact B) T;rw[Ju,Tr.AE];refine⟨R.1,?_⟩;rw[show j+(b.AE+r.AE-1)=j+b.AE+(r.AE-1) by lia];exact R.2
theorem jY{rows:List (List Int)}{c:Nat}(h:LQ rows c)(t:Tr):Dw (2^(c*t.AE)) (Dz rows t):=by
 have B:=(Sn h t (Cv rows.length) 0 (List.length_replicate ..) (TX _ _)).2;have I:1<=t.AE:=Tr.D9 t;rw[Nat.zero_add]at B;have g:=i0 h B;rw[show t.AE-1+1=t.AE by lia]at g;exact g
theorem Xq{m:Nat}(hm:m+1<=1000000){x y:Int}(B:x.natAbs<=2^m)(g:y.natAbs<=2^m):Ti x y\/PZ x y:=by
 have:2^m<2^(m+1):=Nat.pow_lt_pow_of_lt As (bc m);exact .inr ⟨m+1,hm,Nat.lt_of_le_of_lt B this,Nat.lt_of_le_of_lt g this⟩
theorem LV{n:Nat}(h:n<=1000):n<sizeLine:=aP h (by rw[sizeLine_eq];decide)
theorem Je{H H':Hp}{p:Addr}(e:AN H H')(h:H' p=none):H p=none:=by
 cases z:H p with
 |none=>rfl
 |some o=>rw[e _ _ z]at h;cases h
theorem ints_get{ps:List Int}{i:Nat}{x:Int}(h:ps[i]? = some x):(ps.map V.int)[i]? = some (.int x):=by rw[(B7),h];rfl
theorem UY{xs ys:List Int}{i:Nat}{x y:Int}(B:xs[i]? = some x)(g:ys[i]? = some y):(C5 xs ys).take (i+1)=(C5 xs ys).take i++[x*y]:=by
 have h:(C5 xs ys)[i]? = some (x*y):=by unfold C5;rw[List.getElem?_zipWith,B,g]
 rw[(ME),h];rfl
def mx:Sp:=fun vs H Q _=>∃a b xs ys m,vs=[.ref a,.ref b]/\H a=some (.lst (xs.map V.int))/\H b=some (.lst (ys.map V.int))/\xs.length<=ys.length/\xs.length<=1000/\m+1<=1000000/\Dw (2^m) xs/\Dw (2^m) ys/\∀H',AN H H'->Q (.int (Ng xs ys)) H'
section
variable{P:G8}{w:Id}{K:At}{mg:Eu}{base:Heap}{f:Addr}{fd:GE}
theorem a9:Aj ["row","shares"] ["row","shares"] (AX Om):=⟨rfl,rfl,rfl,by decide +kernel,rfl,by decide +kernel,by decide +kernel⟩
theorem Y3(F:Fn K mg "read_by" Om ["row","shares"] f fd)(Ej:mg "sum" = none)(DX:mg "zip" = none):AL P w K mg base Ad 1 f fd ["row","shares"] mx:=by
 have sc:=a9;refine F.F.ok (k:=0) sc Jl Hf
 .obtain⟨a,b,ps,U,m,rfl,_⟩:=h
  rfl
 obtain⟨a,b,ps,U,m,rfl,ha,hb,hl,h60,hm,sx,sy,q⟩:=h;refine⟨_,(Ar (Bo (Bp (QU rfl) rfl Ej bp (AF (UM [".0","part","share"] 1 2 [none,none,none] (WE rfl DX (AF (pv 0) (AF (pv 1) AV))) (fun _ _ _ _ _=>HI) (fun _ _ _ _ _=>(A9 Ea (pv 1) (pv 2)))) AV)))),?_⟩;refine⟨_,rfl,_,rfl,false,false,a,b,rfl,⟨_,ha⟩,⟨_,hb⟩,fun D hD=>WQ (n:=ps.length) (fun i us H'=>AN H H'/\us=((C5 ps U).take i).map V.int) ?_ ?_ ?_⟩
 .exact⟨Ab hD _,by rw[List.take_zero];rfl⟩
 .rintro i us H1 hi ⟨e1,rfl⟩ g;have Z:=aM hi;have Y:=aM (l:=U) (i:=i) AS;have T:=e1 _ _ ha;have R:=e1 _ _ hb;refine⟨⟨_,_,_,_,T,R,ints_get Z,ints_get Y⟩,LV (by rw[(BW),(MI)];lia),fun v H' y=>?_⟩;obtain⟨p,x,z,rfl,np,rfl,k1,k2⟩:=y;have I:=k1 _ T;have B:=k2 _ R;rw[ints_get Z]at I;rw[ints_get Y]at B;cases I;cases B;have sp:=Ab np (.tup [.int ps[i],.int U[i]]);refine⟨p,_,_,rfl,BE.of AM,?_⟩;unfold Kn;refine GR ⟨_,rfl,_,rfl,_,_,rfl,rfl,Xq hm (sx _ (List.getElem_mem _)) (sy _ (List.getElem_mem _)),sp _ _ g,HP hi ⟨fun c o z=>?_,?_⟩⟩
  .rw[AR (Aq z hD)];exact sp _ _ (e1 _ _ z)
  .rw[UY Z Y,(Fo)]
   rfl
 .rintro us H1 ⟨e1,rfl⟩ g;refine⟨⟨_,_,e1 _ _ ha,e1 _ _ hb,.inl (by rw[(BW)])⟩,D,_,rfl,Ax.of g,?_⟩;rw[List.take_of_length_le (by unfold C5;rw[List.length_zipWith];lia)];exact q _ e1
end
def KO(d:Addr)(H H':Hp):Prop:=∀a o,a≠d->H a=some o->H' a=some o
theorem KO.of{d:Addr}{H H':Hp}(e:AN H H'):KO d H H':=fun a o _ h=>e a o h
theorem KO.trans{d:Addr}{H B g:Hp}(e:KO d H B)(I:KO d B g):KO d H g:=fun a o n h=>I a o n (e a o n h)
theorem lj{d:Addr}{r:List KR}{xs:Fa}:dN d r≠.lst xs:=by unfold dN;intro z;cases z
theorem mN{d:Addr}{r:List KR}{xs:Fa}:dN d r≠.tup xs:=by unfold dN;intro z;cases z
theorem KO.lst{d:Addr}{H H':Hp}(e:KO d H H'){r:List KR}(hd:H d=some (dN d r)){l:Addr}{xs:Fa}(h:H l=some (.lst xs)):H' l=some (.lst xs):=e l _ (Z3 h hd fun z=>lj z.symm) h
theorem KO.Be{d:Addr}{H H':Hp}(e:KO d H H'){r:List KR}(hd:H d=some (dN d r)):MS H H':=fun b xs h=>e b _ (Z3 h hd fun z=>mN z.symm) h
def UJ(H:Hp)(vs:Fa)(rows:List (List Int)):Prop:=vs.length=rows.length/\∀(i:Nat) (row:List Int),rows[i]? = some row->∃a:Addr,vs[i]? = some Jj/\H a=some (.lst (row.map V.int))
theorem UJ.same{H H':Hp}{vs:Fa}{rows:List (List Int)}(h:UJ H vs rows)(e:AN H H'):UJ H' vs rows:=⟨h.1,fun i row hi=>let⟨a,B,g⟩:=h.2 i row hi;⟨a,B,e _ _ g⟩⟩
theorem UJ.but{d:Addr}{H H':Hp}{vs:Fa}{rows:List (List Int)}(h:UJ H vs rows)(e:KO d H H'){r:List KR}(hd:H d=some (dN d r)):UJ H' vs rows:=⟨h.1,fun i row hi=>let⟨a,B,g⟩:=h.2 i row hi;⟨a,B,e.lst hd g⟩⟩
structure Y0(Dm:List Tr)(c:Nat):Prop where
 len:Dm.length<=1000
 inj:∀a∈Dm,∀b∈Dm,TH.CK (some a)=TH.CK (some b)->a=b
 bs:∀t∈Dm,∀b∈t.bs,b∈Dm
 deep:∀t∈Dm,t.deep<8
 size:∀t∈Dm,c*t.AE+1<=1000000
structure Memo(Dm:List Tr)(rows:List (List Int))(W:Addr)(H:Hp)(d:Addr)(r:List KR):Prop where
 at_:H d=some (dN d r)
 nd:(r.map (·.1)).Nodup
 all:∀q∈r,∃(t:Tr) (l:Addr),q.1=some t/\t∈Dm/\Tv H t q.2.1/\q.2.2=.ref l/\H l=some (.lst ((Dz rows t).map V.int))/\l≠W
theorem Memo.same{Dm:List Tr}{rows:List (List Int)}{W:Addr}{H H':Hp}{d:Addr}{r:List KR}(h:Memo Dm rows W H d r)(e:AN H H'):Memo Dm rows W H' d r:=⟨e _ _ h.at_,h.nd,fun q g=>let⟨t,l,Y,U,T,R,I,B⟩:=h.all q g;⟨t,l,Y,U,T.same e,R,e _ _ I,B⟩⟩
theorem Memo.ok{Dm:List Tr}{c:Nat}{rows:List (List Int)}{W:Addr}{H:Hp}{d:Addr}{r:List KR}(h:Memo Dm rows W H d r)(D:Y0 Dm c){t:Tr}(T:t∈Dm):W8 H d r (some t):=by
 refine⟨h.at_,fun q g=>?_,h.nd,fun q g R=>?_⟩
 .obtain⟨u,l,I,B,U,_⟩:=h.all q g;rw[I];exact⟨D.deep u B,U⟩
 .obtain⟨u,l,I,B,_⟩:=h.all q g;rw[I]at R ⊢;rw[D.inj u B t T R]
theorem UZ{α:Type}[DecidableEq α]:∀ {a b:List α},a.Nodup->(∀x∈a,x∈b)->a.length<=b.length
 |[],_,_,_=>bH _
 |x::a,b,hn,h=>by
  have B:=h x (.head _);obtain⟨R,I⟩:=List.nodup_cons.mp hn;have:=UZ (a:=a) (b:=b.erase x) I fun y g=>(List.mem_erase_of_ne (show y≠x from fun e=>R (by rw[<-e];exact g))).mpr (h y (.tail _ g));rw[List.length_erase_of_mem B]at this;have:=List.length_pos_of_mem B;rw[(JO)]
  lia
theorem Memo.len{Dm:List Tr}{rows:List (List Int)}{W:Addr}{H:Hp}{d:Addr}{r:List KR}(h:Memo Dm rows W H d r):r.length<=Dm.length:=by
 have:=UZ (b:=Dm.map some) h.nd fun x g=>by
  obtain⟨q,B,rfl⟩:=aK.mp g;obtain⟨u,l,R,I,_⟩:=h.all q B;rw[R];exact List.mem_map_of_mem I
 simpa using this
theorem Memo.put{Dm:List Tr}{rows:List (List Int)}{W:Addr}{H H':Hp}{d:Addr}{r:List KR}(h:Memo Dm rows W H d r){t:Tr}{v:V}{l:Addr}(ht:t∈Dm)(tv:Tv H t v)(hl:H l=some (.lst ((Dz rows t).map V.int)))(hlW:l≠W)
 (e:H'=upd H d (dN d (Gv r (some t) v (.ref l)))):KO d H H'/\Memo Dm rows W H' d (Gv r (some t) v (.ref l))/\H' l=some (.lst ((Dz rows t).map V.int)):=by
 subst e;have hb:KO d H (upd H d (dN d (Gv r (some t) v (.ref l)))):=fun a o n h=>by rw[AR n];exact h
 have T:=hb.lst h.at_ hl;have old:∀q∈r,∃(t':Tr) (Y:Addr),q.1=some t'/\t'∈Dm/\Tv (upd H d (dN d (Gv r (some t) v (.ref l)))) t' q.2.1/\q.2.2=.ref Y/\upd H d (dN d (Gv r (some t) v (.ref l))) Y=some (.lst ((Dz rows t').map V.int))/\Y≠W:=fun q g=>by
  obtain⟨u,Y,Z,B,h3,h4,h5,h6⟩:=h.all q g;exact⟨u,Y,Z,B,h3.Be (hb.Be h.at_),h4,hb.lst h.at_ h5,h6⟩
 refine⟨hb,⟨AM,?_,fun q g=>?_⟩,T⟩
 .unfold Gv;split
  .rw[(Hc)];rw[show((fun x:KR=>x.1) ∘ fun q:KR=>if q.1=some t then(q.1,q.2.1,V.ref l) else q)=fun x=>x.1 from funext fun q=>by
    show(if q.1=some t then(q.1,q.2.1,V.ref l) else q).1=q.1;split<;>rfl]
   exact h.nd
  .rename_i hn;rw[(Fo)];refine List.nodup_append.mpr ⟨h.nd,by simp,fun a ha b U=>?_⟩;obtain⟨q,g,rfl⟩:=aK.mp ha;have U:b=some t:=by simpa using U
   subst U;have hn:r.find? (fun q=>decide (q.1=some t))=none:=by
    cases z:r.find? (fun q=>decide (q.1=some t)) with
    |none=>rfl
    |some x=>rw[z]at hn;exact absurd rfl hn
   have:=List.find?_eq_none.mp hn q g
   simpa using this
 .have R:q∈r\/(∃I∈r,I.1=some t/\q=(I.1,I.2.1,.ref l))\/q=(some t,v,.ref l):=by
   unfold Gv at g;split at g
   .obtain⟨I,Z,B⟩:=aK.mp g;split at B
    .rename_i z;exact .inr (.inl ⟨I,Z,z,B.symm⟩)
    .subst B;exact .inl Z
   .rcases aU.mp g with g|g
    .exact .inl g
    .exact .inr (.inr (by simpa using g))
  rcases R with R|⟨I,Z,B,rfl⟩|rfl
  .exact old q R
  .obtain⟨u,Y,k1,k2,k3,_⟩:=old I Z;rw[B]at k1;cases k1;exact⟨t,l,B,k2,k3,rfl,T,hlW⟩
  .exact⟨t,l,rfl,ht,tv.Be (hb.Be h.at_),rfl,T,hlW⟩
theorem L0:∀ {t b:Tr},b∈t.bs->b.AE<=t.AE
 |.nil,b,h=>by cases h
 |.cons c r,b,h=>by
  rw[Tr.bs]at h;rw[Tr.AE];rcases aQ.mp h with rfl|h
  .exact Nat.le_add_right _ _
  .exact aR (L0 h) (Nat.le_add_left _ _)
theorem gX(r:List KR)(k:Option Tr)(B v:V):∃q,(Gv r k B v).find? (fun q=>decide (q.1=k))=some q:=by
 have:∃q∈Gv r k B v,q.1=k:=by
  unfold Gv;split
  .rename_i h;obtain⟨q,T⟩:=Option.isSome_iff_exists.mp h;obtain⟨I,g⟩:=find_key T;exact⟨_,List.mem_map_of_mem I,by rw[if_pos g];exact g⟩
  .exact⟨_,List.mem_append_right _ (.head _),rfl⟩
 obtain⟨q,I,g⟩:=this;cases z:(Gv r k B v).find? (fun q=>decide (q.1=k)) with
 |some R=>exact⟨R,rfl⟩
 |none=>exact absurd g (by simpa using List.find?_eq_none.mp z q I)
theorem Rr:∀(t:Tr) (i:Nat),(Tr.of (t.bs.take i)).AE<=t.AE
 |.nil,i=>by rw[Tr.bs,List.take_nil];exact aH _
 |.cons b r,0=>by
  have:=Tr.D9 (.cons b r);exact this
 |.cons b r,i+1=>by
  rw[Tr.bs,List.take_succ_cons,Tr.of,Tr.AE,Tr.AE];exact Nat.add_le_add_left (Rr r i) _
def eP(Dm:List Tr)(c n:Nat):Sp:=fun vs H Q _=>∃R g rows v t d r W,vs=[.ref R,v,.ref d]/\H R=some (.lst g)/\UJ H g rows/\LQ rows c/\Tv H t v/\t∈Dm/\t.deep<n/\(∃o,H W=some o)/\Memo Dm rows W H d r/\∀H' B l,KO d H H'->Memo Dm rows W H' d B->H' l=some (.lst ((Dz rows t).map V.int))->Q (.ref l) H'
section
variable{P:G8}{w:Id}{K:At}{mg:Eu}{base:Heap}{f g1:Addr}{fd gd1:GE}
theorem XS:Aj ["rows","tree","known","shares","bough"] ["rows","tree","known"] (AX Nd):=⟨rfl,rfl,rfl,by decide +kernel,rfl,by decide +kernel,by decide +kernel⟩
theorem QI{Dm:List Tr}{c:Nat}(DO:Y0 Dm c)(FH:Fn K mg "readings" Nd ["rows","tree","known"] f fd)(J1:Fn K mg "read_by" Om ["row","shares"] g1 gd1)(Rj:AL P w K mg base Ad 1 g1 gd1 ["row","shares"] mx)(Bs:mg "len" = none)(DX:mg "zip" = none) :
  ∀n,AL P w K mg base Ad (n+1) f fd ["rows","tree","known"] (eP Dm c n)
 |0=>Gi fun _ _ _ _ ⟨_,_,_,_,_,_,_,_,_,_,_,_,_,_,h,_⟩=>absurd h (ak _)
 |n+1=>by
  have sc:=XS;have Nf:=QI DO FH J1 Rj Bs DX n;have dM:=Rj.mono (show 1<=n+1 by lia);refine FH.F.ok (k:=n+1) sc Jl Hf
  .obtain⟨R,rvs,rows,v,t,d,r,W,rfl,_⟩:=h
   rfl
  obtain⟨R,rvs,rows,v,t,d,r,W,rfl,hR,I,ro,tv,ht,hdp,⟨oW,hW⟩,T,q⟩:=h;have hWs:∀ {H':Hp} {Z:List KR},KO d H H'->Memo Dm rows W H' d Z->∃o,H' W=some o:=fun {H' Z} e m=>by
   by_cases z:W=d
   .exact⟨_,by rw[z];exact m.at_⟩
   .exact⟨_,e _ _ z hW⟩
  refine⟨_,(Aa (FD (Cw (lQ (by have:=hr.units;exact this) true) (pv 1) (pv 2) rfl)
  (Aa (BJ (i:=3) sc.nd rfl (Or.inr rfl) (A9 eC (Ff (AF AQ AV)) (Bp C2 rfl Bs aj (AF (pv 0) AV))))
  (Aa (Gx aN rfl (VF (pv 1)) (Ay (i:=4) sc.nd rfl By)
   (Ar (BJ (i:=3) sc.nd rfl (Or.inr rfl) (UM [".0","share","read"] 1 2 [none,none,none] (WE rfl DX (AF (pv 3) (AF (CQ FH Nf hr rfl (AF (pv 0) (AF (pv 4) (AF (pv 2) AV)))) AV))) (fun _ _ _ _ _=>HI) (fun _ _ _ _ _=>(A9 Ea (pv 1) (pv 2)))))))
  (Ar (M4 (JJ [".0","row","shares"] 1 [none,none,some 3] (Es (pv 0)) (fun _ _ _ _ _=>HI) (fun _ _ _ _ _=>(CQ J1 dM hr rfl (AF (pv 1) (AF (pv 2) AV))))) (R5 (pv 2) (pv 1) (lY (by have:=hr.units;exact this)))))))
  DB)
 (Ar (Bo (nI (by have:=hr.units;exact this) (pv 2) (pv 1) Da)))),?_⟩
  have key:KN H (some t) v:=⟨DO.deep t ht,tv⟩;cases hz:r.find? (fun q=>decide (q.1=some t)) with
  |some q'=>
   refine⟨_,rfl,_,rfl,d,r,some t,rfl,key,T.ok DO ht,false,by rw[hz];rfl,Vn ?_⟩;obtain⟨hm,hk⟩:=find_key hz;obtain⟨u,l,h1,h2,h3,h4,h5,_⟩:=T.all q' hm;rw[hk]at h1;cases h1;refine⟨_,rfl,_,rfl,d,r,some t,q',rfl,key,T.ok DO ht,hz,?_⟩;rw[h4];exact q H r l (fun a o _ h=>h) T h5
  |none=>
   refine⟨_,rfl,_,rfl,d,r,some t,rfl,key,T.ok DO ht,true,by rw[hz];rfl,GR ?_⟩;refine⟨by show 1<=sizeLine;decide,fun p hp=>⟨_,rfl,_,_,rfl,.inl (Ax.of (Ab hp _ _ _ hR)),p,_,_,rfl,rfl,AM,by lia,?_,?_,fun S hS=>?_⟩⟩
   .have:=I.1;have:=ro.len;lia
   .have:=I.1;have:=ro.len;refine av (LV ?_);simp
    lia
   rw[List.flatten_replicate_singleton,show((rvs.length:Nat):Int).toNat=rows.length by rw[I.1];rfl];have e0:AN H (upd (upd H p (.lst [V.int 1])) S (.lst (List.replicate rows.length (V.int 1)))):=(Ab hp _).trans (Ab hS _);have hS0:upd (upd H p (.lst [V.int 1])) S (.lst (List.replicate rows.length (V.int 1))) S=some (.lst (((t.bs.take 0).foldl (fun a b=>C5 a (Dz rows b)) (Cv rows.length)).map V.int)):=by
    rw[AM,List.take_zero,List.foldl_nil];unfold Cv;rw[List.map_replicate]
   generalize upd (upd H p (.lst [V.int 1])) S (.lst (List.replicate rows.length (V.int 1)))=H0 at e0 hS0;obtain⟨a,ys,rfl,ha,hts⟩:=tv;have hyl:=hts.len;have sizes:∀i,((t.bs.take i).foldl (fun a b=>C5 a (Dz rows b)) (Cv rows.length)).length=rows.length/\Dw (2^(c*t.AE)) ((t.bs.take i).foldl (fun a b=>C5 a (Dz rows b)) (Cv rows.length)):=fun i=>by
    have h:=Sn ro (Tr.of (t.bs.take i)) (Cv rows.length) 0 (List.length_replicate ..) (TX _ _);rw[Se,Tr.Rf]at h;refine⟨h.1,h.2.mono (aS As (bZ _ ?_))⟩;have:=Rr t i
    lia
   refine⟨_,rfl,a,rfl,⟨_,BE.of (e0 _ _ ha)⟩,kK (xs:=ys) (fun i σ H'=>∃(r4:Option V) (S:Addr) (Z:List KR),σ=[some (.ref R),some Jj,some (.ref d),some (.ref S),r4]/\KO d H H'/\Memo Dm rows W H' d Z/\H' S=some (.lst (((t.bs.take i).foldl (fun a b=>C5 a (Dz rows b)) (Cv rows.length)).map V.int))) ?_ ?_ ?_ ?_⟩
   .exact⟨_,S,r,rfl,.of e0,T.same e0,hS0⟩
   .rintro i σ H' _ ⟨r4,S',Z,rfl,e,_⟩;exact BE.of (e.Be T.at_ _ _ ha)
   .rintro i x σ H1 hx ⟨r4,S1,Z,rfl,e1,Y,hS1⟩;obtain⟨b,hb,tb⟩:=hts.get hx;have hbm:b∈t.bs:=aT hb;have hbd:=Tr.Ws hbm;refine⟨_,rfl,_,rfl,_,rfl,_,rfl,R,rvs,rows,x,b,d,Z,W,rfl,e1.lst T.at_ hR,I.but e1 T.at_,ro,tb.Be (e1.Be T.at_),DO.bs t ht b hbm,by lia,hWs e1 Y,Y,fun H2 r2 l e2 me2 hl2=>?_⟩;have hS2:=e2.lst Y.at_ hS1;have e02:=e1.trans e2;obtain⟨sl,sb⟩:=sizes i;generalize hsh:(t.bs.take i).foldl (fun a b=>C5 a (Dz rows b)) (Cv rows.length)=sh at sl sb hS2;have hnext:(t.bs.take (i+1)).foldl (fun a b=>C5 a (Dz rows b)) (Cv rows.length)=C5 sh (Dz rows b):=by
     rw[(ME),hb,List.foldl_append,hsh];rfl
    have rl:=IB rows b;have rb:=jY ro b;have kb:b.AE<=t.AE:=L0 hbm;have rb':=rb.mono (aS As (bZ c kb));refine⟨false,false,S1,l,rfl,⟨_,hS2⟩,⟨_,hl2⟩,fun D hD=>WQ (n:=sh.length) (fun j us H'=>AN H2 H'/\us=((C5 sh (Dz rows b)).take j).map V.int) ?_ ?_ ?_⟩
    .exact⟨Ab hD _,by rw[List.take_zero];rfl⟩
    .rintro j us H3 hj ⟨g,rfl⟩ B;have hx:=aM hj;have hy:=aM (l:=Dz rows b) (i:=j) AS;have e3a:=g _ _ hS2;have e3b:=g _ _ hl2;refine⟨⟨_,_,_,_,e3a,e3b,ints_get hx,ints_get hy⟩,LV (by have:=ro.len;rw[(BW),(MI)];lia),fun v H' y=>?_⟩;obtain⟨p,x,z,rfl,np,rfl,k1,k2⟩:=y;have hx':=k1 _ e3a;have hy':=k2 _ e3b;rw[ints_get hx]at hx';rw[ints_get hy]at hy';cases hx';cases hy';have sp:=Ab np (.tup [.int sh[j],.int (Dz rows b)[j]]);refine⟨p,_,_,rfl,BE.of AM,?_⟩;unfold Kn;refine GR ⟨_,rfl,_,rfl,_,_,rfl,rfl,Xq (DO.size t ht) (sb _ (List.getElem_mem _)) (rb' _ (List.getElem_mem _)),sp _ _ B,HP hj ⟨fun c o z=>?_,?_⟩⟩
     .rw[AR (Aq z hD)];exact sp _ _ (g _ _ z)
     .rw[UY hx hy,(Fo)]
      rfl
    .rintro us H3 ⟨g,rfl⟩ B;refine⟨⟨_,_,g _ _ hS2,g _ _ hl2,.inl (by rw[(BW)])⟩,?_⟩;refine⟨_,D,r2,rfl,e02.trans (.of g),me2.same g,?_⟩;rw[B,hnext,List.take_of_length_le (by unfold C5;rw[List.length_zipWith];lia)]
   .rintro σ H1 ⟨r4,S1,Z,rfl,e1,Y,hS1⟩;rw[hyl,(NP),<-Se]at hS1;obtain⟨sl,sb⟩:=sizes t.bs.length;rw[(NP),<-Se]at sl sb;have hR1:=e1.lst T.at_ hR;have hrw1:=I.but e1 T.at_;refine⟨_,rfl,R,rfl,⟨_,Ax.of hR1⟩,fun D hD=>JK (n:=rvs.length) (fun j us H'=>AN H1 H'/\us=((Dz rows t).take j).map V.int) ?_ ?_ ?_⟩
    .exact⟨Ab hD _,by rw[List.take_zero];rfl⟩
    .rintro j us H3 hj ⟨g,rfl⟩ B;have hj':j<rows.length:=by rw[<-I.1];exact hj
     have U:=aM hj';generalize rows[j]=row at U;have hrm:=aT U;obtain⟨pr,g1,g2⟩:=hrw1.2 j row U;have hR3:=g _ _ hR1;refine⟨⟨_,_,Ax.of hR3,g1⟩,LV (by have:=ro.len;rw[(BW),(MI),IB];lia),fun x H' y=>?_⟩;obtain⟨rfl,y⟩:=y;have hx:=y _ (Ax.of hR3);rw[g1]at hx;cases hx;unfold Kn;obtain⟨M,b1,b2,_⟩:=ro.big;refine GR ⟨_,rfl,_,rfl,pr,S1,row,_,c*t.AE,rfl,g _ _ g2,g _ _ hS1,?_,?_,DO.size t ht,?_,sb,fun H4 e4=>?_⟩
     .rw[sl];exact ro.one row hrm
     .have:=ro.one row hrm;have:=ro.len;lia
     .refine(b1 row hrm).mono (aR b2 (aS As ?_));have:=Tr.D9 t;exact Nat.le_mul_of_pos_right c this
     .refine⟨e4 _ _ B,HP hj ⟨fun c o z=>?_,?_⟩⟩
      .rw[AR (Aq z hD)];exact e4 _ _ (g _ _ z)
      .have:(Dz rows t)[j]? = some (Ng row (Ju rows t (Cv rows.length))):=by unfold Dz;rw[(B7),U];rfl
       rw[(ME),this,(Fo)]
       rfl
    .rintro us H3 ⟨g,rfl⟩ B;rw[List.take_of_length_le (by rw[IB,I.1];exact aH _)]at B;have me3:=Y.same g;have hDW:D≠W:=fun z=>by
      obtain⟨o,hw⟩:=hWs e1 Y;rw[<-z,hD]at hw;cases hw
     have tv3:Tv H3 t Jj:=⟨a,ys,rfl,g _ _ (e1.Be T.at_ _ _ ha),(hts.Be (e1.Be T.at_)).same g⟩;refine⟨⟨_,Ax.of (g _ _ hR1),Nat.le_refl _⟩,_,rfl,_,rfl,d,Z,some t,rfl,⟨DO.deep t ht,tv3⟩,me3.ok DO ht,Nat.le_trans me3.len DO.len,?_⟩;generalize h4:upd H3 d (dN d (Gv Z (some t) Jj (.ref D)))=H4;obtain⟨b4,me4,l4⟩:=me3.put ht tv3 B hDW h4.symm;have tv4:=tv3.Be (b4.Be me3.at_);have key4:KN H4 (some t) Jj:=⟨DO.deep t ht,tv4⟩;obtain⟨q',hq',hv⟩:∃q',(Gv Z (some t) (.ref a) (.ref D)).find? (fun q=>decide (q.1=some t))=some q'/\∃l,q'.2.2=.ref l/\H4 l=some (.lst ((Dz rows t).map V.int)):=by
      obtain⟨q',hq'⟩:=gX Z (some t) Jj (.ref D);obtain⟨hm,hk⟩:=find_key hq';obtain⟨u,l,h1,h2,h3,h4,h5,_⟩:=me4.all q' hm;rw[hk]at h1;cases h1;exact⟨q',hq',l,h4,h5⟩
     obtain⟨l,hv,hl⟩:=hv;refine⟨_,rfl,_,rfl,d,_,some t,q',rfl,key4,me4.ok DO ht,hq',?_⟩;rw[hv];exact q H4 _ l ((e1.trans (.of g)).trans b4) me4 hl
end
def Fy(r:List Rat):List Int:=r.map fun q=>(q.den:Int)
def Fx(t:Tb)(i:Nat):List Int:=Fy t.ls++((t.rs.take i).map Fy).flatten
def Cd(t:Tb):Int:=Ho (Fx t t.rs.length)
def Tb.Fits(t:Tb)(n:Nat):Prop:=(∀r∈t.rs,∀q∈r,FM.Fits q n)/\∀q∈t.ls,FM.Fits q n
theorem Rb{t:Tb}{i:Nat}{r:List Rat}(h:t.rs[i]? = some r):Fx t (i+1)=Fx t i++Fy r:=by
 unfold Fx;rw[(ME),h,(Fo),List.flatten_append,List.append_assoc];simp
theorem PM{t:Tb}{m:Nat}(o:t.Ok m):∀i,i<=t.rs.length->(Fx t i).length<=t.rs.length+t.rs.length*i
 |0,_=>by unfold Fx Fy;simp[o.last]
 |i+1,h=>by
  have g:=aM (l:=t.rs) (i:=i) AS;have:=PM o i AS;rw[Rb g,(Dk),show(Fy t.rs[i]).length=t.rs[i].length from bL _,o.row i _ g,Nat.mul_succ]
  lia
theorem OX{t:Tb}{n:Nat}(h:t.Fits n)(i:Nat):∀b∈Fx t i,1<=b/\b.natAbs<2^n:=fun b g=>by
 unfold Fx at g;rcases aU.mp g with g|g
 .exact Yk h.2 b g
 .obtain⟨l,I,g⟩:=List.mem_flatten.mp g;obtain⟨r,B,rfl⟩:=aK.mp I;exact Yk (h.1 r (List.mem_of_mem_take B)) b g
def oE(t:Tb):Prop:=∃(D:Int) (k:Nat),(∀b∈Fx t t.rs.length,b ∣ D)/\1<=D/\D.natAbs<2^k/\k<=2000
def oS:Sp:=fun vs H Q _=>∃(v:V) (t:Tb) (m n:Nat),vs=[v]/\DU H (AY t) v/\t.Ok m/\m<=40/\t.Fits n/\oE t/\∀H',AN H H'->Q (.int (Cd t)) H'
section
variable{P:G8}{w:Id}{K:At}{mg:Eu}{base:Heap}{f g1 g2:Addr}{fd gd1:GE}
theorem Rn:Aj ["table","bottoms","row"] ["table"] (AX JV):=⟨rfl,rfl,rfl,by decide +kernel,rfl,by decide +kernel,by decide +kernel⟩
theorem RL(F:Fn K mg "table_bottom" JV ["table"] f fd)(Gf:Fn K mg "common_bottom" Ie ["bottoms"] g1 gd1)
 (SJ:AL P w K mg base Ad 2 g1 gd1 ["bottoms"] dP):AL P w K mg base Ad 3 f fd ["table"] oS:=by
 have sc:=Rn;refine F.F.ok (k:=2) sc Jl (fun cdv A outer s H vs Q E g h=>?_)
 .obtain⟨v,t,m,n,rfl,_⟩:=h
  rfl
 obtain⟨v,t,m,n,rfl,dt,ot,hm,ft,⟨Dd,kd,dv1,dv2,dv3,dv4⟩,q⟩:=h;obtain⟨p,R,L,xs,ys,rfl,hp,hR,dR,hL,dL⟩:=dt.tab;have hyl:ys.length=t.ls.length:=by rw[dL.len,Bt]
 have hxl:xs.length=t.rs.length:=by rw[dR.len,Dj]
 have h1:=ot.most;have h2:=ot.last;refine⟨_,(Aa (Jh (i:=1) [".0","part"] 1 [none,none] sc.nd rfl rfl (Es (Bz B5 (pv 0) AQ Da)) (fun _ _ _ _ _=>HI) (fun _ _ _ _ _=>(Bz Pd (pv 1) AQ Da)))
 (Aa (Gx aN rfl (Es (Bz B5 (pv 0) AQ Da)) (Ay (i:=2) sc.nd rfl By)
  (Ar (Fc (Ja ab bS bT Jr (pv 1) (AF (JJ [".0","part"] 1 [none,none] (Es (pv 2)) (fun _ _ _ _ _=>HI) (fun _ _ _ _ _=>(Bz Pd (pv 1) AQ Da))) AV)))))
 (Ar (Bo (CQ Gf SJ g rfl (AF (pv 1) AV)))))),?_⟩
 refine⟨_,rfl,_,_,_,_,rfl,rfl,BE.of hp,rfl,L,rfl,⟨_,Ax.of hL⟩,fun Z hZ=>JK (n:=ys.length) (fun i us H'=>AN H H'/\us=(Fy (t.ls.take i)).map V.int) ⟨Ab hZ _,rfl⟩ ?_ ?_⟩
 .rintro i us H1 hi ⟨e1,rfl⟩ hD1;have g:t.ls[i]? = some (t.ls[i]' AS):=aM _;obtain⟨p,I,B⟩:=Kl dL g;generalize t.ls[i]' AS=r at g B;refine⟨⟨ys,.ref p,Ax.of (e1 _ _ hL),I⟩,S5 (n:=60) (by unfold Fy;simp;lia) As,fun x H' y=>?_⟩;obtain⟨rfl,y⟩:=y;have Y:=y ys (Ax.of (e1 _ _ hL));rw[I]at Y;cases Y;unfold Kn;refine GR ⟨_,rfl,_,_,_,_,rfl,rfl,BE.of (e1 _ _ B),rfl,hD1,HP hi ⟨fun b o z=>?_,?_⟩⟩
  .rw[AR (Aq z hZ)];exact e1 _ _ z
  .rw[(ME),g,Fy,Fy,(Fo),(Fo)]
   rfl
 rintro us H1 ⟨e1,rfl⟩ hZ1;rw[hyl,(NP)]at hZ1;refine⟨⟨ys,Ax.of (e1 _ _ hL),Nat.le_refl _⟩,?_⟩;refine⟨_,rfl,_,_,_,_,rfl,rfl,BE.of (e1 _ _ hp),rfl,R,rfl,⟨_,Ax.of (e1 _ _ hR)⟩,JX (xs:=xs) (fun i σ H'=>∃r2,σ=[some (.ref p),some (.ref Z),r2]/\AN H H'/\H' Z=some (.lst ((Fx t i).map V.int))) ?_ ?_ ?_ ?_⟩
 .exact⟨_,rfl,e1,by rw[hZ1];unfold Fx;simp⟩
 .rintro i σ H' _ ⟨r2,rfl,e,_⟩;exact Ax.of (e _ _ hR)
 .rintro i x σ H2 Y ⟨r2,rfl,e2,T⟩;have hi:i<t.rs.length:=by rw[<-hxl];exact(aD.mp Y).1
  have g:t.rs[i]? = some t.rs[i]:=aM hi;have hrl:=ot.row _ _ g;obtain⟨a,zs,g1,g2,dz⟩:=WZ dR g;generalize t.rs[i]=row at g dz hrl;rw[Y]at g1;cases g1;have hzl:zs.length=row.length:=by rw[dz.len,Bt]
  refine⟨_,rfl,.inl ⟨rfl,_,Ax.of T⟩,_,rfl,a,rfl,⟨_,Ax.of (e2 _ _ g2)⟩,fun D hD=>JK (n:=zs.length) (fun j ys H'=>AN H2 H'/\ys=(Fy (row.take j)).map V.int) ⟨Ab hD _,rfl⟩ ?_ ?_⟩
  .rintro j us H3 hj ⟨e3,rfl⟩ U;have E3:=e2.trans e3;have g:row[j]? = some (row[j]' AS):=aM _;obtain⟨p,I,B⟩:=Kl dz g;generalize row[j]' AS=r at g B;refine⟨⟨zs,.ref p,Ax.of (E3 _ _ g2),I⟩,S5 (n:=60) (by unfold Fy;simp;lia) As,fun x H' y=>?_⟩;obtain⟨rfl,y⟩:=y;have Y:=y zs (Ax.of (E3 _ _ g2));rw[I]at Y;cases Y;unfold Kn;refine GR ⟨_,rfl,_,_,_,_,rfl,rfl,BE.of (E3 _ _ B),rfl,U,HP hj ⟨fun b o z=>?_,?_⟩⟩
   .rw[AR (Aq z hD)];exact e3 _ _ z
   .rw[(ME),g,Fy,Fy,(Fo),(Fo)]
    rfl
  .rintro us H3 ⟨e3,rfl⟩ U;have E3:=e2.trans e3;rw[hzl,(NP)]at U;refine⟨⟨zs,Ax.of (E3 _ _ g2),Nat.le_refl _⟩,Z,D,_,_,rfl,rfl,e3 _ _ T,U,?_,_,rfl,fun b o z=>?_,?_⟩
   .have:=PM ot i AS;rw[(BW),(BW),show(Fy row).length=row.length from bL _];have h40:t.rs.length*i<=40*40:=Nat.mul_le_mul AS AS;exact aR (show _<=2000 by lia) (by rw[sizeLine_eq];decide)
   .rw[AR (Aq z hZ)];exact e3 _ _ (e2 _ _ z)
   .rw[AM,Rb g,(Fo)]
 .rintro σ H2 ⟨r2,rfl,e2,T⟩;rw[hxl]at T;exact⟨_,rfl,Z,_,Dd,kd,rfl,T,fun b hb=>⟨(OX ft _ b hb).1,dv1 b hb⟩,dv2,dv3,dv4,q H2 e2⟩
end
def BI(t:Tb):List (List Int):=(t.rs++[t.ls]).map fun r=>GY r (Cd t)
def Hm(t:Tb)(u:Tr):Rat:=Rat.divInt ((Dz (BI t) u).getLast?.getD 0) (Cd t^u.AE)
def pd:Sp:=fun vs H Q _=>∃v u,vs=[v]/\Tv H u v/\u.deep<8/\u.AE<=8/\∀H',AN H H'->Q (.int (u.AE:Nat)) H'
def ny(Dm:List Tr)(c:Nat):Sp:=fun vs H Q _=>∃(v:V) (t:Tb) (L:Addr) (g:Fa) (ts:List Tr) (m n k:Nat),vs=[v,.ref L]/\DU H (AY t) v/\t.Ok m/\m<=40/\t.Fits n/\oE t/\LQ (BI t) c/\(Cd t).natAbs<2^k/\n+k<=4000/\1<=Cd t /\
 H L=some (.lst g)/\g.length=ts.length/\ts.length<=1000/\(∀(i:Nat) (x:V),g[i]? = some x->∃u,ts[i]? = some u/\Tv H u x/\u∈Dm/\u.AE<=8/\k*u.AE<=4000) /\
 ∀D H' B,AN H H'->H D=none->H' D=some (.lst B)->Bv H' (Ag (ts.map (Hm t))) B->Q (.ref D) H'
def P8(H:Hp)(zs:Fa)(g:List Rat):Prop:=zs.length=g.length/\∀(i:Nat) (q:Rat),g[i]? = some q->∃p:Addr,zs[i]? = some (.ref p)/\H p=some (.tup (BZ q))
theorem P8.Be{H H':Hp}{zs:Fa}{g:List Rat}(h:P8 H zs g)(e:MS H H'):P8 H' zs g:=⟨h.1,fun i q hi=>let⟨p,I,B⟩:=h.2 i q hi;⟨p,I,e _ _ B⟩⟩
theorem P8.snoc{H:Hp}{zs:Fa}{g:List Rat}(h:P8 H zs g){p:Addr}{q:Rat}(B:H p=some (.tup (BZ q))):P8 H (zs++[.ref p]) (g++[q]):=by
 refine⟨by rw[(Dk),(Dk),h.1];rfl,fun i r hi=>?_⟩;by_cases z:i<g.length
 .rw[List.getElem?_append_left z]at hi;rw[List.getElem?_append_left (by rw[h.1];exact z)];exact h.2 i r hi
 .rw[List.getElem?_append_right AS]at hi;rw[List.getElem?_append_right (by rw[h.1];lia),h.1];have:i-g.length=0:=by
   have:=(aD.mp hi).1;simp at this
   lia
  rw[this]at hi ⊢;cases hi;exact⟨p,rfl,B⟩
theorem P8.rL{H:Hp}:∀ {g:List Rat} {zs:Fa},P8 H zs g->Bv H (Ag g) zs
 |[],[],_=>.nil
 |[],_::_,h=>by cases h.1
 |_::_,[],h=>by cases h.1
 |q::g,z::zs,h=>by
  obtain⟨p,I,B⟩:=h.2 0 q rfl;cases I;refine .cons (K4 B) (P8.rL ⟨by simpa using h.1,fun i r hi=>?_⟩);exact h.2 (i+1) r hi
theorem jl{xs:List Int}(h:1<=xs.length):Fu (xs.map V.int) (-1)=some (V.int (xs.getLast?.getD 0)):=by
 have g:xs≠[]:=fun z=>by rw[z]at h;exact absurd h As
 have e:=List.dropLast_concat_getLast g;rw[<-e,(Fo),List.getLast?_append];exact fI _ _
theorem oe{b:Int}(h:1<=b)(k:Nat):b^k≠0:=Int.ne_of_gt (Int.pow_pos h)
theorem fJ{b:Int}{k p:Nat}(h:b.natAbs<2^k)(g:k*p<=4000):∃m,m<=9000/\(b^p).natAbs<2^m:=by
 refine⟨k*p+1,by lia,?_⟩;rw[Int.natAbs_pow];refine aP (Nat.pow_le_pow_left (av h) p) ?_;rw[<-Nat.pow_mul];exact Nat.pow_lt_pow_of_lt As AS
section
variable{P:G8}{w:Id}{K:At}{mg:Eu}{base:Heap}{f g1 g2 g3 g4 g5 g6:Addr}{fd gd1 gd2 gd3 gd4 gd5 gd6:GE}
theorem RC:Aj ["table","trees","bottom","rows","known","weights","tree"] ["table","trees"] (AX Gd):=⟨rfl,rfl,rfl,by decide +kernel,rfl,by decide +kernel,by decide +kernel⟩
theorem Qh{Dm:List Tr}{c:Nat}(DO:Y0 Dm c)(F:Fn K mg "weights_under" Gd ["table","trees"] f fd)(HC:Fn K mg "table_bottom" JV ["table"] g1 gd1)(Ji:Fn K mg "tops_over" MR ["some","bottom"] g2 gd2)
 (FH:Fn K mg "readings" Nd ["rows","tree","known"] g3 gd3)(Fz:Fn K mg "power_of" Ke ["base","power"] g4 gd4)(BG:Fn K mg "knots_within" EZ ["tree"] g5 gd5)(CV:Fn K mg "fraction_of" GC ["top","bottom"] g6 gd6)
 (Ss:AL P w K mg base Ad 11 g1 gd1 ["table"] oS)(XW:AL P w K mg base Ad 11 g2 gd2 ["some","bottom"] eB)(Nf:AL P w K mg base Ad 11 g3 gd3 ["rows","tree","known"] (eP Dm c 8))(Ia:AL P w K mg base Ad 11 g4 gd4 ["base","power"] Y8)
 (B3:AL P w K mg base Ad 11 g5 gd5 ["tree"] pd)(C4:AL P w K mg base Ad 11 g6 gd6 ["top","bottom"] RE):AL P w K mg base Ad 12 f fd ["table","trees"] (ny Dm c):=by
 have sc:=RC;refine F.F.ok (k:=11) sc Jl Hf
 .obtain⟨v,t,L,tvs,ts,m,n,k,rfl,_⟩:=h
  rfl
 obtain⟨v,t,L,tvs,ts,m,n,k,rfl,dt,ot,hm,ft,hnm,ro,hB,hnk,hB1,hL,htl,hts,hall,q⟩:=h;have o1:=ot.most;have o2:=ot.last;have o3:=ot.one;refine⟨_,(Aa (BJ (i:=2) sc.nd rfl (Or.inr rfl) (CQ HC Ss hr rfl (AF (pv 0) AV)))
 (Aa (Jh (i:=3) [".0","row","bottom"] 1 [none,none,some 2] sc.nd rfl rfl (Es (A9 de (Bz B5 (pv 0) AQ Da) (Ff (AF (Bz B5 (pv 0) AQ Da) AV)))) (fun _ _ _ _ _=>HI) (fun _ _ _ _ _=>(CQ Ji XW hr rfl (AF (pv 1) (AF (pv 2) AV)))))
 (Aa (BJ (i:=4) sc.nd rfl By gZ)
 (Aa (BJ (i:=5) sc.nd rfl By (Ff AV))
 (Aa (Gx aN rfl (Es (pv 1)) (Ay (i:=6) sc.nd rfl By)
  (Ar (Fc (Ja ab bU bV IE (pv 5) (AF (CQ CV C4 hr rfl (AF (Bz M8 (CQ FH Nf hr rfl (AF (pv 3) (AF (pv 6) (AF (pv 4) AV)))) (L6 J2 AQ) Da) (AF (CQ Fz Ia hr rfl (AF (pv 2) (AF (CQ BG B3 hr rfl (AF (pv 6) AV)) AV))) AV))) AV)))))
 (Ar (Bo (pv 5)))))))),?_⟩
 refine⟨_,rfl,v,t,m,n,rfl,dt,ot,hm,ft,hnm,fun H1 e1=>?_⟩;obtain⟨p,R,I,xs,ys,rfl,hp,hR,dR,hL',dL⟩:=(dt.same e1).tab;have hxl:xs.length=t.rs.length:=by rw[dR.len,Dj]
 refine⟨_,rfl,_,_,_,_,rfl,rfl,BE.of hp,rfl,_,rfl,_,_,_,_,rfl,rfl,BE.of hp,rfl,(by show 1<=sizeLine;decide),fun q1 hq1=>?_⟩;have e2:=Ab hq1 (.lst [V.ref I]);have h2:upd H1 q1 (.lst [V.ref I]) q1=some (.lst [V.ref I]):=AM;generalize upd H1 q1 (.lst [V.ref I])=H2 at e2 h2;refine⟨R,q1,_,_,rfl,rfl,e2 _ _ hR,h2,HK (by simp;lia),fun C0 hC0=>?_⟩;have e3:=Ab hC0 (.lst (xs++[V.ref I]));have h3:upd H2 C0 (.lst (xs++[V.ref I])) C0=some (.lst (xs++[V.ref I])):=AM;generalize upd H2 C0 (.lst (xs++[V.ref I]))=H3 at e3 h3;have E3:=(e1.trans e2).trans e3;have E13:=e2.trans e3;have get:∀(i:Nat) (row:List Rat),(t.rs++[t.ls])[i]? = some row->∃(a:Addr) (B:Fa),(xs++[V.ref I])[i]? = some Jj/\H3 a=some (.lst B)/\Bv H3 (Ag row) B/\row.length<=50/\∀q∈row,FM.Fits q n:=fun i row hi=>by
  by_cases z:i<t.rs.length
  .rw[List.getElem?_append_left z]at hi;rw[List.getElem?_append_left AS];obtain⟨a,B,g1,g2,g3⟩:=WZ dR hi;exact⟨a,B,g1,E13 _ _ g2,g3.same E13,by rw[ot.row i row hi];lia,ft.1 row (aT hi)⟩
  .rw[List.getElem?_append_right AS]at hi;have:i-t.rs.length=0:=by
    have:=(aD.mp hi).1;simp at this
    lia
   rw[this]at hi;cases hi;rw[List.getElem?_append_right AS,hxl,this];exact⟨I,ys,rfl,E13 _ _ hL',dL.same E13,by lia,ft.2⟩
 have hal:(t.rs++[t.ls]).length=(xs++[V.ref I]).length:=by rw[(Dk),(Dk),hxl];rfl
 have hal60:(xs++[V.ref I]).length<60:=by rw[(Dk),hxl];simp;lia
 refine⟨C0,rfl,⟨_,Ax.of h3⟩,fun D hD=>JK (n:=(xs++[V.ref I]).length) (fun i us H'=>AN H3 H'/\us.length=i/\∀(j:Nat) (row:List Rat),j<i->(t.rs++[t.ls])[j]? = some row->∃a:Addr,us[j]? = some Jj/\H' a=some (.lst ((GY row (Cd t)).map V.int))/\a≠D) ?_ ?_ ?_⟩
 .exact⟨Ab hD _,rfl,fun j row hj=>absurd hj (ak _)⟩
 .rintro i us H4 hi ⟨e4,hul,hus⟩ hD4;have hr:(t.rs++[t.ls])[i]? = some ((t.rs++[t.ls])[i]' AS):=aM _;generalize (t.rs++[t.ls])[i]' AS=row at hr;obtain⟨a,B,g1,g2,g3,g4,g5⟩:=get i row hr;refine⟨⟨_,.ref a,Ax.of (e4 _ _ h3),g1⟩,S5 (n:=60) AS As,fun x H' y=>?_⟩;obtain⟨rfl,y⟩:=y;have hx:=y _ (Ax.of (e4 _ _ h3));rw[g1]at hx;cases hx;unfold Kn;refine GR ⟨_,rfl,_,rfl,a,B,row,Cd t,n,k,rfl,e4 _ _ g2,g3.same e4,g4,g5,hB,hnk,fun D5 H5 e5 n5 h5=>⟨e5 _ _ hD4,HP hi ⟨fun b o z=>?_,by simp[hul],fun j T hj hr'=>?_⟩⟩⟩
  .rw[AR (Aq z hD)];exact e5 _ _ (e4 _ _ z)
  .by_cases z:j<i
   .obtain⟨b,k1,k2,k3⟩:=hus j T z hr';exact⟨b,by rw[List.getElem?_append_left AS];exact k1,by rw[AR k3];exact e5 _ _ k2,k3⟩
   .have:j=i:=by lia
    subst this;rw[hr]at hr';cases hr';have nD:D5≠D:=fun z=>by rw[z,hD4]at n5;cases n5
    exact⟨D5,by rw[List.getElem?_append_right AS,hul,Nat.sub_self];rfl,by rw[AR nD];exact h5,nD⟩
 rintro rvs H4 ⟨e4,hul,hus⟩ hD4;refine⟨⟨_,Ax.of (e4 _ _ h3),Nat.le_refl _⟩,?_⟩;have E4:=E3.trans e4;have hrw:UJ H4 rvs (BI t):=by
  refine⟨by rw[hul,<-hal];exact(bL _).symm,fun j row hj=>?_⟩;unfold BI at hj;rw[(B7)]at hj;cases hj':(t.rs++[t.ls])[j]? with
  |none=>rw[hj']at hj;cases hj
  |some T=>
   rw[hj']at hj;cases hj;obtain⟨a,k1,k2,_⟩:=hus j T (by rw[<-hal];exact(aD.mp hj').1) hj';exact⟨a,k1,k2⟩
 have hDn:H D=none:=Je E3 hD;refine fun d hd=>?_;have e5:=Ab hd (dN d []);have h5:upd H4 d (dN d []) d=some (dN d []):=AM;generalize upd H4 d (dN d [])=H5 at e5 h5;refine⟨(by show 0<=sizeLine;decide),fun W hW=>?_⟩;have e6:=Ab hW (.lst []);have h6:upd H5 W (.lst []) W=some (.lst []):=AM;generalize upd H5 W (.lst [])=H6 at e6 h6;have hdn:=Je E4 hd;have E5:=E4.trans e5;have hWn:=Je E5 hW;have E6:=E5.trans e6;have hdW:d≠W:=fun z=>by rw[<-z,h5]at hW;cases hW
 have W4:H4 W=none:=Je e5 hW;refine⟨_,rfl,L,rfl,⟨_,Ax.of (E6 _ _ hL)⟩,JX (xs:=tvs) (fun i σ H'=>∃(r6:Option V) (ρ:List KR) (B:Fa),σ=[some (.ref p),some (.ref L),some (.int (Cd t)),some (.ref D),some (.ref d),some (.ref W),r6]/\AN H4 H'/\Memo Dm (BI t) W H' d ρ/\H' W=some (.lst B)/\P8 H' B ((ts.take i).map (Hm t))) ?_ ?_ ?_ ?_⟩
 .refine⟨_,[],[],rfl,e5.trans e6,⟨e6 _ _ h5,.nil,fun q hq=>by cases hq⟩,h6,rfl,fun i q hi=>by cases hi⟩
 .rintro i σ H' _ ⟨r6,ρ,B,rfl,e,_⟩;exact Ax.of (e _ _ (E4 _ _ hL))
 .rintro i x σ H7 hx ⟨r6,ρ,B,rfl,e7,U,Y,Z⟩;obtain⟨u,hu,tu,hD,h8,hk⟩:=hall i x hx;have E7:=E4.trans e7;refine⟨_,rfl,.inl ⟨rfl,_,Ax.of Y⟩,_,rfl,_,rfl,_,rfl,D,rvs,BI t,x,u,d,ρ,W,rfl,e7 _ _ hD4,hrw.same e7,ro,tu.same E7,hD,DO.deep u hD,⟨_,Y⟩,U,fun H8 ρ8 l e8 me8 hl8=>?_⟩;have tu8:=(tu.same E7).Be (e8.Be U.at_);have hW8:=e8.lst U.at_ Y;have fl8:=Z.Be (e8.Be U.at_);have hne:(Dz (BI t) u).length=(t.rs++[t.ls]).length:=(IB _ _).trans (bL _);have hE8:AN H4 H8:=fun b o z=>e8 _ _ (fun y=>by rw[y,hd]at z;cases z) (e7 _ _ z);refine⟨_,rfl,_,_,_,_,rfl,rfl,Ax.of hl8,jl (by rw[hne,(Dk)];simp),?_⟩;refine⟨_,rfl,_,rfl,x,u,rfl,tu8,DO.deep u hD,h8,fun H9 e9=>?_⟩;refine⟨Cd t,u.AE,k,rfl,hB,hk,?_⟩;obtain⟨mb,hmb,hpb⟩:=fJ hB hk;refine⟨_,_,mb,rfl,oe hB1 _,hmb,hpb,fun l' H10 e10 hl10=>?_⟩;have g:=e9.trans e10;refine⟨W,B,.ref l',rfl,rfl,g _ _ hW8,LV ?_,?_⟩
  .rw[Z.1,(BW),(MI)];lia
  .refine⟨_,ρ8,_,rfl,fun b o z=>?_,⟨?_,me8.nd,fun q' hq'=>?_⟩,AM,?_⟩
   .rw[AR (Aq z W4)];exact g _ _ (hE8 _ _ z)
   .rw[AR hdW];exact g _ _ me8.at_
   .obtain⟨u',l2,k1,k2,k3,k4,k5,k6⟩:=me8.all q' hq';exact⟨u',l2,k1,k2,(k3.same g).Be (MS.upd (g _ _ hW8)),k4,by rw[AR k6];exact g _ _ k5,k6⟩
   .rw[(ME),hu,(Fo)];refine((fl8.Be (.of g)).snoc (q:=Hm t u) hl10).Be (MS.upd (g _ _ hW8))
 .rintro σ H7 ⟨r6,ρ,B,rfl,e7,U,Y,Z⟩;rw[htl,(NP)]at Z;exact⟨_,rfl,q W H7 B (E4.trans e7) hWn Y Z.rL⟩
end
section
variable{P:G8}{w:Id}{K:At}{mg:Eu}{base:Heap}{f g:Addr}{fd gd:GE}
theorem Uz:Aj ["_law_top","_law_bottom","_law_one","_law_other"] ["_law_top","_law_bottom"] (AX Eg):=⟨rfl,rfl,rfl,by decide +kernel,rfl,by decide +kernel,by decide +kernel⟩
theorem Uw(F:Fn K mg "_law_ratio" Eg ["_law_top","_law_bottom"] f fd)(IJ:mg "abs" = none):AL P w K mg base Ad 1 f fd ["_law_top","_law_bottom"] RE:=by
 have sc:=Uz;refine F.F.ok (k:=0) sc Jl Hf
 .obtain⟨t,b,m,rfl,_⟩:=h
  rfl
 obtain⟨t,b,m,rfl,T,hm,hs,q⟩:=h;refine⟨_,(Aa (BJ (i:=2) sc.nd rfl By (Bp Ks rfl IJ bo (AF (pv 0) AV)))
 (Aa (BJ (i:=3) sc.nd rfl By (Bp Ks rfl IJ bo (AF (pv 1) AV)))
 (Aa (Q2 aN (Cw Pa (pv 3) AQ (A6 _))
  (Ar (lV (i:=2) (j:=3) rfl sc.nd rfl rfl As rfl rfl (AF (pv 3) (AF (A9 Ph (pv 2) (pv 3)) AV)) rfl)))
 (Aa (FD (Cw Rg (pv 1) AQ (A6 _))
  (Ar (BJ (i:=2) sc.nd rfl By (A9 MU AQ (pv 2))))
  DB)
 (Ar (Bo (FA (AF (A9 GA (pv 0) (pv 2)) (AF (A9 GA (pv 1) (pv 2)) AV))))))))),?_⟩
 refine⟨_,rfl,_,rfl,_,rfl,_,rfl,?_⟩;refine Qt (fun σ H'=>∃g l,σ=[some (.int t),some (.int b),some (.int g),some (.int l)]/\H=H'/\Int.gcd g l=Int.gcd t b/\0<=g/\0<=l) (fun σ _=>rP σ) ?_ ?_ ?_
 .exact⟨_,_,rfl,rfl,FM.Yi t b,FM.abs_nonneg t,FM.abs_nonneg b⟩
 .rintro σ H' ⟨g,l,rfl,rfl,Z,h0,R⟩;refine⟨_,rfl,_,_,rfl,rfl,_,rfl,ER (fun c=>?_) (fun c=>?_)⟩
  .have U:0<l:=ah c;have I:l≠0:=by lia
   refine⟨_,rfl,_,rfl,_,rfl,_,_,rfl,rfl,I,_,_,rfl,⟨_,_,rfl,rfl,?_,R,FM.fmod_nonneg I R⟩,?_⟩
   .rw[FM.XA];exact Z
   .exact FM.T7 g l I
  .have U:¬0<l:=bJ (ar.mpr c);have I:l=0:=by lia
   subst I;rw[FM.di Z h0]
   try dsimp only[FU]
   refine Qq (fun B H'=>B=[some (.int t),some (.int b),some (.int (FM.gs t b)),some (.int 0)]/\H=H') (fun nx hn=>?_) ?_
   .refine⟨_,rfl,_,_,rfl,rfl,_,rfl,ER (fun c=>?_) (fun c=>?_)⟩
    .have Y:b<0:=ah c;refine⟨_,rfl,_,_,rfl,rfl,hn _ _ ⟨?_,rfl⟩⟩;show [some (V.int t),some (V.int b),some (V.int (0-FM.gi t b)),some (V.int 0)]=_;unfold FM.gs;rw[if_pos Y,Int.zero_sub]
    .have Y:¬b<0:=bJ (ar.mpr c);refine hn _ _ ⟨?_,rfl⟩;unfold FM.gs;rw[if_neg Y]
   .rintro B H' ⟨rfl,rfl⟩;have h0:FM.gs t b≠0:=FM.Zg T;have R:(FM.gs t b).natAbs<2^m:=aP (FM.ij T) hs;refine⟨_,rfl,_,rfl,_,_,rfl,rfl,⟨h0,m,hm,R⟩,_,rfl,_,rfl,_,_,rfl,rfl,⟨h0,m,hm,R⟩,Ry,fun p hp=>?_⟩;refine q p _ (Ab hp _) ?_;rw[AM];show some (HO.tup [V.int (t.fdiv (FM.gs t b)),V.int (b.fdiv (FM.gs t b))])=_;rw[FM.XB T,FM.RP T]
    rfl
 .exact fun σ H Q Q' hq ⟨v,e,i,j,e1,e2,k,e3,q⟩=>⟨v,e,i,j,e1,e2,k,e3,hq _ _ q⟩
theorem Xc:Aj Ev Ev (AX EO):=⟨rfl,rfl,rfl,by decide +kernel,rfl,by decide +kernel,by decide +kernel⟩
theorem XY(F:Fn K mg "_law_sum" EO Ev f fd)(Z:Fn K mg "_law_ratio" Eg ["_law_top","_law_bottom"] g gd)
 (Y:AL P w K mg base Ad 2 g gd ["_law_top","_law_bottom"] RE):AL P w K mg base Ad 3 f fd Ev (gr K (fun p q=>p+q) (fun _=>True)):=by
 have sc:=Xc;refine F.F.ok (k:=2) sc Jl (fun cdv A outer s H vs Q E U h=>?_)
 .obtain⟨v,w,p,q,n,rfl,_⟩:=h
  rfl
 obtain⟨v,w,p,q,n,rfl,⟨a,rfl,sp⟩,⟨b,rfl,R⟩,I,B,hn,BA,k⟩:=h;refine⟨_,(Ar (Bo (CQ Z Y U rfl (AF (A9 Jn (A9 Ea (Bz B5 (pv 0) AQ Da) (Bz B5 (pv 1) AQ Da)) (A9 Ea (Bz B5 (pv 1) AQ Da) (Bz B5 (pv 0) AQ Da))) (AF (A9 Ea (Bz B5 (pv 0) AQ Da) (Bz B5 (pv 1) AQ Da)) AV))))),?_⟩;refine⟨_,rfl,_,_,_,_,rfl,rfl,sp,rfl,_,rfl,_,_,_,_,rfl,rfl,R,rfl,_,_,rfl,rfl,Qo I.1 B.d AS,_,rfl,_,_,_,_,rfl,rfl,R,rfl,_,rfl,_,_,_,_,rfl,rfl,sp,rfl,_,_,rfl,rfl,Qo B.1 I.d AS,_,_,rfl,rfl,_,rfl,_,_,_,_,rfl,rfl,sp,rfl,_,rfl,_,_,_,_,rfl,rfl,R,rfl,_,_,rfl,rfl,Qo I.d B.d AS,_,_,n+n,rfl,FM.HD p q,by lia,FM.dd I B,fun l H' e1 T=>?_⟩;exact k l H' e1 (by rw[FM.We p q]at T;exact T)
end
section
variable{P:G8}{w:Id}{K:At}{mg:Eu}{base:Heap}{f:Addr}{fd:GE}
theorem R8:Aj ["tree"] ["tree"] (AX EZ):=⟨rfl,rfl,rfl,by decide +kernel,rfl,by decide +kernel,by decide +kernel⟩
def NA(BC:AC):DF :=
 (CA (Ae Ct Do (AI Wl (AA (Dq (Cg 1) FL (AI BC IO) [none,none] (DK JB)) AG))))
def BC:Nat->List PyData->Option PyData
 |0=>fun _=>none
 |n+1=>CM ["tree"] ["tree"] (NA (BC n))
theorem Lh{k:Nat}(g:Fn K mg "knots_within" EZ ["tree"] f fd)(B:mg "sum" = none):∀n,
  AL P w K mg base Ad (k+n+1) f fd ["tree"] (A3 (BC n))
 |0=>Gi fun _ _ _ _ ⟨_,_,_,h,_⟩=>by cases h
 |n+1=>by
  have sc:=R8;have R:=Lh (k:=k) g B n;refine Ee (k:=k+n+1) (F:=NA (BC n)) g sc fun cdv A outer s H E I=>?_;exact(Ac (Bk (BD Cq AO (EH (WH rfl) rfl B bp (AB (HV [".0","bough"] 1 [none,none] (DC GH) (fun _ _ _ _ _=>En) (fun _ _ _ _ _=>(AW g R I rfl (AB Gm AH)))) AH)))))
theorem Px:Aj ["tree","density","bough"] ["tree"] (AX Hn):=⟨rfl,rfl,rfl,by decide +kernel,rfl,by decide +kernel,by decide +kernel⟩
def LC(BC:AC)(BU:AC):DF :=
 (Ai (Ba 1 (AI BC (AA JB AG)))
 (Ai (DR (DK JB) (HY 2)
  (Ba 1 (Ae Ef (nm 1) (AI BU (AA (nm 2) AG)))))
 (CA (nm 1))))
def BU(BC:AC):Nat->List PyData->Option PyData
 |0=>fun _=>none
 |n+1=>CM ["tree"] ["tree","density","bough"] (LC BC (BU BC n))
theorem KQ{k:Nat}{BC:AC}(B:Fn K mg "density_within" Hn ["tree"] f fd)
 {R:Addr}{T:GE}(U:Fn K mg "knots_within" EZ ["tree"] R T)(g:AL P w K mg base Ad k R T ["tree"] (A3 BC)):∀n,
  AL P w K mg base Ad (k+n+1) f fd ["tree"] (A3 (BU BC n))
 |0=>Gi fun _ _ _ _ ⟨_,_,_,h,_⟩=>by cases h
 |n+1=>by
  have sc:=Px;have Y:=KQ (k:=k) (BC:=BC) B U g n;have g:=g.mono (show k<=k+n+1 by lia);refine Ee (k:=k+n+1) (F:=LC BC (BU BC n)) B sc fun cdv A outer s H E I=>?_;exact(AU (Bx (i:=1) sc.nd rfl By (AW U g I rfl (AB GH AH)))
 (AU (D0 aN rfl (DC GH) (Fq (Ay (i:=2) sc.nd rfl By))
  (Ac (Bx (i:=1) sc.nd rfl By (BD D6 Gm (AW B Y I rfl (AB Ix AH))))))
 (Ac (Bk Gm))))
theorem JA:Aj ["boughs"] ["boughs"] (AX G7):=⟨rfl,rfl,rfl,by decide +kernel,rfl,by decide +kernel,by decide +kernel⟩
def O4:DF :=
 (CA (AI Qy (AA (AI (Sf true) (AA JB AG)) AG)))
def A7:List PyData->Option PyData:=CM ["boughs"] ["boughs"] (O4)
theorem OV{k:Nat}(F:Fn K mg "in_falling_order" G7 ["boughs"] f fd)(B:mg "sorted" = none)(I:mg "tuple" = none) :
  AL P w K mg base Ad (k+1) f fd ["boughs"] (A3 (A7)):=Ee F JA fun cdv A outer s H E g=>by
 have sc:=JA;exact(Ac (Bk (Ld fG rfl I PyProof.Rows.boot_tuple (AB (iD (by have:=g.units;exact this) rfl B (AB GH AH) (fun h=>iE (by have:=g.units;exact this) rfl B h)) AH))))
theorem OW:Aj ["tree","larger","k","bough","grown"] ["tree"] (AX Gh):=⟨rfl,rfl,rfl,by decide +kernel,rfl,by decide +kernel,by decide +kernel⟩
def J3(A7:AC)(BH:AC):DF :=
 (Ai (TL 1 (AA (AI A7 (AA (Ae Ct JB (B9 (AA (B9 AG) AG))) AG)) AG))
 (Ai (DR (Cj ZE (AA JB AG)) (Gj 2 3)
  (DR (DK (AI BH (AA (nm 3) AG))) (HY 4)
   (Y4 1 (AI A7 (AA (Ae Ct (Ae Ct (lR JB iY (iJ (nm 2))) (B9 (AA (nm 4) AG))) (lR JB (iJ (Ae Ct (nm 2) Do)) iY)) AG)))))
 (RN 1)))
def BH(A7:AC):Nat->List PyData->Option PyData
 |0=>fun _=>none
 |n+1=>CM ["tree"] ["tree","larger","k","bough","grown"] (J3 A7 (BH A7 n))
theorem JD{k:Nat}{A7:AC}(R:Fn K mg "trees_one_larger" Gh ["tree"] f fd)
 {T:Addr}{U:GE}(I:Fn K mg "in_falling_order" G7 ["boughs"] T U)(g:AL P w K mg base Ad k T U ["boughs"] (A3 A7))(Y:mg "enumerate" = none):∀n,
  AL P w K mg base Ad (k+n+1) f fd ["tree"] (A3 (BH A7 n))
 |0=>Gi fun _ _ _ _ ⟨_,_,_,h,_⟩=>by cases h
 |n+1=>by
  have sc:=OW;have D4:=JD (k:=k) (A7:=A7) R I g Y n;have g:=g.mono (show k<=k+n+1 by lia);refine Ee (k:=k+n+1) (F:=J3 A7 (BH A7 n)) R sc fun cdv A outer s H E B=>?_;exact(AU (Mb (i:=1) sc.nd rfl By (AB (AW I g B rfl (AB (BD Cq GH (Cf (AB (Cf AH) AH))) AH)) AH))
 (AU (D0 aN rfl (jZ rfl Y (AB GH AH)) (LD (Gp rfl (Bq (Ay (i:=2) sc.nd rfl By) (Bq (Ay (i:=3) sc.nd rfl By) FY))))
  (Ac (D0 aN rfl (DC (AW R D4 B rfl (AB (AD (pv 3)) AH))) (Fq (Ay (i:=4) sc.nd rfl By))
   (Ac (T2 (pv 1) (AW I g B rfl (AB (BD Cq (BD Cq (Vu GH X8 (YD Ix)) (Cf (AB (AD (pv 4)) AH))) (Vu GH (YD (BD Cq Ix AO)) X8)) AH)) (fun Z ha=>Fc (Ja ab bU bV IE Z ha)))))))
 (Ac (Pb (pv 1)))))
theorem QO:Aj ["many","trees","knots","larger","tree"] ["many"] (AX Ki):=⟨rfl,rfl,rfl,by decide +kernel,rfl,by decide +kernel,by decide +kernel⟩
def Z5(BH:AC):DF :=
 (Ai (Fv (OC (Bg IN JB Do) (Bg (Cz fun i j=>decide (j<i)) JB (fC (.int 7))))
  K3
  DH)
 (Ai (Ba 1 (Nl (AA (B9 AG) AG)))
 (Ai (DR (Cj b9 (AA Do (AA JB AG))) (HY 2)
  (Ai (TL 3 AG)
  (Ai (DR (DK (nm 1)) (HY 4)
   (Qe 3 (AI BH (AA (nm 4) AG))))
  (fL 3 (Ba 1 (fun δ=>((nm 3) δ).bind Ql))))))
 (CA (nm 1)))))
def CD(BH:AC):List PyData->Option PyData:=CM ["many"] ["many","trees","knots","larger","tree"] (Z5 BH)
theorem Xk{k:Nat}{BH:AC}(F:Fn K mg "trees_of" Ki ["many"] f fd)
 {I:Addr}{R:GE}(CN:Fn K mg "trees_one_larger" Gh ["tree"] I R)(D4:AL P w K mg base Ad k I R ["tree"] (A3 BH))(C9:mg "range" = none)(U:mg "set" = none)(Y:mg "sorted" = none){g:Tok}(Z:mg "MOST_KNOTS" = some (.int 7 g)) :
  AL P w K mg base Ad (k+1) f fd ["many"] (A3 (CD BH)):=Ee F QO fun cdv A outer s H E B=>by
 have sc:=QO;exact(AU (FE (DW.dt (Nb (CO Jd GH AO (A6 _)) (LS (CO Pl GH (JW rfl Z) (A6 _)))))
  (Ac Hu)
  C7)
 (AU (Bx (i:=1) sc.nd rfl By (Ms (AB (Cf AH) AH)))
 (AU (D0 aN rfl (UU rfl C9 (AB AO (AB GH AH))) (Fq (Ay (i:=2) sc.nd rfl By))
  (AU (Mb (i:=3) sc.nd rfl By AH)
  (AU (D0 aN rfl (DC Gm) (Fq (Ay (i:=4) sc.nd rfl By))
   (Ac (Lg (pv 3) (AW CN D4 B rfl (AB (AD (pv 4)) AH)) (fun T ha=>Fc (Ja ab bS bT Jr T ha)))))
  (Ac (Vj 3 (Bx (i:=1) sc.nd rfl By (b0 rfl (by have:=B.units;exact this) rfl Y rfl U (AD (pv 3)))))))))
 (Ac (Bk Gm)))))
theorem QH:Aj ["most","trees","many"] ["most"] (AX IK):=⟨rfl,rfl,rfl,by decide +kernel,rfl,by decide +kernel,by decide +kernel⟩
def Zp(CD:AC):DF :=
 (Ai (Fv (OC (Bg IN JB Go) (Bg (Cz fun i j=>decide (j<i)) JB (fC (.int 7))))
  K3
  DH)
 (Ai (TL 1 AG)
 (Ai (DR (Cj b9 (AA Do (AA (Ae Ct JB Do) AG))) (HY 2)
  (Qe 1 (AI CD (AA (nm 2) AG))))
 (RN 1))))
def BL(CD:AC):List PyData->Option PyData:=CM ["most"] ["most","trees","many"] (Zp CD)
theorem Xm{k:Nat}{CD:AC}(F:Fn K mg "trees_to" IK ["most"] f fd)
 {B:Addr}{I:GE}(Z:Fn K mg "trees_of" Ki ["many"] B I)(U:AL P w K mg base Ad k B I ["many"] (A3 CD))(C9:mg "range" = none){g:Tok}(Y:mg "MOST_KNOTS" = some (.int 7 g)) :
  AL P w K mg base Ad (k+1) f fd ["most"] (A3 (BL CD)):=Ee F QH fun cdv A outer s H E R=>by
 have sc:=QH;exact(AU (FE (DW.dt (Nb (CO Jd GH AO (A6 _)) (LS (CO Pl GH (JW rfl Y) (A6 _)))))
  (Ac Hu)
  C7)
 (AU (Mb (i:=1) sc.nd rfl By AH)
 (AU (D0 aN rfl (UU rfl C9 (AB AO (AB (BD Cq GH AO) AH))) (Fq (Ay (i:=2) sc.nd rfl By))
  (Ac (Lg (pv 1) (AW Z U R rfl (AB Ix AH)) (fun T ha=>Fc (Ja ab bS bT Jr T ha)))))
 (Ac (Pb (pv 1))))))
theorem Lf:Aj ["trees"] ["trees"] (AX HL):=⟨rfl,rfl,rfl,by decide +kernel,rfl,by decide +kernel,by decide +kernel⟩
def M1(BU:AC):DF :=
 (U4 (FT (Cg 1) FL (B9 (AA Do (AA (AI BU IO) AG))) [none,none] (DK JB)))
def BM(BU:AC):List PyData->Option PyData:=CM ["trees"] ["trees"] (M1 BU)
theorem RF{k:Nat}{BU:AC}(F:Fn K mg "true_weights" HL ["trees"] f fd)
 {g:Addr}{B:GE}(T:Fn K mg "density_within" Hn ["tree"] g B)(R:AL P w K mg base Ad k g B ["tree"] (A3 BU)) :
  AL P w K mg base Ad (k+1) f fd ["trees"] (A3 (BM BU)):=Ee F Lf fun cdv A outer s H E I=>by
 have sc:=Lf;exact(Ac (YY [".0","tree"] 1 [none,none] (DC GH) (fun _ _ _ _ _=>En) (fun _ _ _ _ _=>(Cf (AB AO (AB (AW T R I rfl (AB Gm AH)) AH))))))
theorem K8:Aj ["most"] ["most"] (AX Il):=⟨rfl,rfl,rfl,by decide +kernel,rfl,by decide +kernel,by decide +kernel⟩
def Lq(BL:AC)(BM:AC):DF :=
 (CA (AI BM (AA (AI BL (AA JB AG)) AG)))
def Ce(BL:AC)(BM:AC):List PyData->Option PyData:=CM ["most"] ["most"] (Lq BL BM)
theorem RD{k:Nat}{BL:AC}{BM:AC}(F:Fn K mg "true_weighing" Il ["most"] f fd)
 {R:Addr}{T:GE}(Z:Fn K mg "trees_to" IK ["most"] R T)(Y:AL P w K mg base Ad k R T ["most"] (A3 BL))
 {B:Addr}{I:GE}(Dh:Fn K mg "true_weights" HL ["trees"] B I)(U:AL P w K mg base Ad k B I ["trees"] (A3 BM)) :
  AL P w K mg base Ad (k+1) f fd ["most"] (A3 (Ce BL BM)):=Ee F K8 fun cdv A outer s H E g=>by
 have sc:=K8;exact(Ac (Bk (AW Dh U g rfl (AB (AW Z Y g rfl (AB GH AH)) AH))))
theorem Lc:Aj ["trees","one","other","tree","weight","due"] ["trees","one","other"] (AX JT):=⟨rfl,rfl,rfl,by decide +kernel,rfl,by decide +kernel,by decide +kernel⟩
def NB:DF :=
 (Ai (DR (Cj TF (AA JB (AA (nm 1) (AA (nm 2) AG)))) (Wx 3 4 5)
  (Fv (Bg (Ez true) (nm 4) (nm 5))
   (CA (nm 3))
   DH))
 (CA (fC .none)))
def B4:List PyData->Option PyData:=CM ["trees","one","other"] ["trees","one","other","tree","weight","due"] (NB)
theorem Rz{k:Nat}(F:Fn K mg "first_unlike" JT ["trees","one","other"] f fd)(B:mg "zip" = none) :
  AL P w K mg base Ad (k+1) f fd ["trees","one","other"] (A3 (B4)):=Ee F Lc fun cdv A outer s H E g=>by
 have sc:=Lc;exact(AU (D0 aN rfl (jF rfl B (AB GH (AB Gm (AB Ix AH)))) (fR (Gp rfl (Bq (Ay (i:=3) sc.nd rfl By) (Bq (Ay (i:=4) sc.nd rfl By) (Bq (Ay (i:=5) sc.nd rfl By) FY)))))
  (Ac (FE (CO (Nn (by have:=g.units;exact this)) (AD (pv 4)) (AD (pv 5)) (A6 _))
   (Ac (Bk (AD (pv 3))))
   C7)))
 (Ac (Bk Ro)))
theorem QN:Aj ["name","named"] ["name"] (AX NK):=⟨rfl,rfl,rfl,by decide +kernel,rfl,by decide +kernel,by decide +kernel⟩
def Y5:DF :=
 (Ai (Fv (gT fun δ=>(nm 0 δ).bind (Zh true))
  K3
  DH)
 (Ai (Ba 1 (fun δ=>(nm 0 δ).bind W0))
 (CA (B9 (AA (Dq (Cg 1) FL (AI Ma IO) [none,none] (DK (Ae CC (nm 1) Go))) (AA (AI Ma (AA (Ae CC (nm 1) Do) AG)) AG))))))
def Ka:List PyData->Option PyData:=CM ["name"] ["name","named"] (Y5)
theorem XU{k:Nat}(F:Fn K mg "table_of" NK ["name"] f fd)(R:mg "list" = none){g:Nat}(I:mg "NAMED_TABLES" = some (.ref g)) :
  AL P w K mg base Ad (k+1) f fd ["name"] (A3 (Ka)):=Ee F QN fun cdv A outer s H E B=>by
 have sc:=QN;exact(AU (FE (dF (by have:=B.units;exact this) rfl I (pv 0))
  (Ac Hu)
  C7)
 (AU (Bx (i:=1) sc.nd rfl By (mV (by have:=B.units;exact this) rfl I (pv 0) Da))
 (Ac (Bk (Cf (AB (HV [".0","row"] 1 [none,none] (DC (B8 Gm AO Da)) (fun _ _ _ _ _=>En) (fun _ _ _ _ _=>(Ld Tg rfl R bg (AB Gm AH)))) (AB (Ld Tg rfl R bg (AB (B8 Gm AO Da) AH)) AH)))))))
theorem J0:Aj Is Is (AX Cb):=⟨rfl,rfl,rfl,by decide +kernel,rfl,by decide +kernel,by decide +kernel⟩
def HX(g:AC):DF :=
 (Fv (ml (gT (AI g (AA JB AG))))
  K3
  DH)
def AJ(g:AC):List PyData->Option PyData:=CM Is Is (HX g)
theorem Oj{k:Nat}{I:AC}(F:Fn K mg "refuse_no_table" Cb Is f fd)
 {g:Addr}{B:GE}(U:Fn K mg "is_table" Nk Is g B)(T:AL P w K mg base Ad k g B Is (A3 I)) :
  AL P w K mg base Ad (k+1) f fd Is (A3 (AJ I)):=Ee F J0 fun cdv A outer s H E R=>by
 have sc:=J0;exact(Ac (FE (oy (lT (AW U T R rfl (AB GH AH))))
  (Ac Hu)
  C7))
theorem MX:Aj ["table","order","trees","tree"] ["table"] (AX J6):=⟨rfl,rfl,rfl,by decide +kernel,rfl,by decide +kernel,by decide +kernel⟩
def N7(B4:AC)(AJ:AC)(CD:AC)(BM:AC)(g:AC):DF :=
 (Ai (Jb (AI AJ (AA JB AG)))
 (Ai (DR (Cj NT (AA (fC (.int 6)) AG)) (HY 1)
  (Ai (Ba 2 (AI CD (AA (Ae Ct (nm 1) Do) AG)))
  (Ai (Ba 3 (AI B4 (AA (nm 2) (AA (AI g (AA JB (AA (nm 2) AG))) (AA (AI BM (AA (nm 2) AG)) AG)))))
  (Fv (Bg (iL true) (nm 3) (fC .none))
   (CA (B9 (AA (nm 1) (AA (nm 3) AG))))
   DH))))
 (CA (B9 (AA (fC (.int 6)) (AA (fC .none) AG))))))
def CY(B4:AC)(AJ:AC)(CD:AC)(BM:AC)(g:AC):List PyData->Option PyData:=CM ["table"] ["table","order","trees","tree"] (N7 B4 AJ CD BM g)
theorem TU{k:Nat}{B4:AC}{AJ:AC}{CD:AC}{BM:AC}{Bb:AC}(F:Fn K mg "table_order" J6 ["table"] f fd)
 {I:Addr}{R:GE}(HQ:Fn K mg "first_unlike" JT ["trees","one","other"] I R)(JR:AL P w K mg base Ad k I R ["trees","one","other"] (A3 B4))
 {A1:Addr}{Aw:GE}(Ao:Fn K mg "refuse_no_table" Cb Is A1 Aw)(Au:AL P w K mg base Ad k A1 Aw Is (A3 AJ))
 {U:Addr}{Y:GE}(F9:Fn K mg "trees_of" Ki ["many"] U Y)(HE:AL P w K mg base Ad k U Y ["many"] (A3 CD))
 {Z:Addr}{FC:GE}(Dh:Fn K mg "true_weights" HL ["trees"] Z FC)(Ec:AL P w K mg base Ad k Z FC ["trees"] (A3 BM))
 {FK:Addr}{Ei:GE}(DP:Fn K mg "weights_under" Gd ["table","trees"] FK Ei)(EF:AL P w K mg base Ad k FK Ei ["table","trees"] (A3 Bb))(C9:mg "range" = none){g:Tok}(T:mg "MOST_ORDER" = some (.int 6 g)) :
  AL P w K mg base Ad (k+1) f fd ["table"] (A3 (CY B4 AJ CD BM Bb)):=Ee F MX fun cdv A outer s H E B=>by
 have sc:=MX;exact(AU (HR (AW Ao Au B rfl (AB GH AH)))
 (AU (D0 aN rfl (UB rfl C9 (AB (JW rfl T) AH)) (Fq (Ay (i:=1) sc.nd rfl By))
  (AU (Bx (i:=2) sc.nd rfl By (AW F9 HE B rfl (AB (BD Cq Gm AO) AH)))
  (AU (Bx (i:=3) sc.nd rfl By (AW HQ JR B rfl (AB Ix (AB (AW DP EF B rfl (AB GH (AB Ix AH))) (AB (AW Dh Ec B rfl (AB Ix AH)) AH)))))
  (Ac (FE (CO gh (AD (pv 3)) Ro (A6 _))
   (Ac (Bk (Cf (AB Gm (AB (AD (pv 3)) AH)))))
   C7)))))
 (Ac (Bk (Cf (AB (JW rfl T) (AB Ro AH)))))))
theorem KW:Aj ["table","most"] ["table","most"] (AX Hw):=⟨rfl,rfl,rfl,by decide +kernel,rfl,by decide +kernel,by decide +kernel⟩
def Kz(AJ:AC)(BL:AC)(g:AC):DF :=
 (Ai (Jb (AI AJ (AA JB AG)))
 (CA (AI g (AA JB (AA (AI BL IO) AG)))))
def CP(AJ:AC)(BL:AC)(g:AC):List PyData->Option PyData:=CM ["table","most"] ["table","most"] (Kz AJ BL g)
theorem Pw{k:Nat}{AJ:AC}{BL:AC}{U:AC}(F:Fn K mg "table_weighing" Hw ["table","most"] f fd)
 {Z:Addr}{Y:GE}(Ao:Fn K mg "refuse_no_table" Cb Is Z Y)(Au:AL P w K mg base Ad k Z Y Is (A3 AJ))
 {I:Addr}{T:GE}(Dx:Fn K mg "trees_to" IK ["most"] I T)(EN:AL P w K mg base Ad k I T ["most"] (A3 BL))
 {B:Addr}{R:GE}(DP:Fn K mg "weights_under" Gd ["table","trees"] B R)(EF:AL P w K mg base Ad k B R ["table","trees"] (A3 U)) :
  AL P w K mg base Ad (k+1) f fd ["table","most"] (A3 (CP AJ BL U)):=Ee F KW fun cdv A outer s H E g=>by
 have sc:=KW;exact(AU (HR (AW Ao Au g rfl (AB GH AH)))
 (Ac (Bk (AW DP EF g rfl (AB GH (AB (AW Dx EN g rfl (AB Gm AH)) AH))))))
theorem HW:Aj ["tables"] ["tables"] (AX Dr):=⟨rfl,rfl,rfl,by decide +kernel,rfl,by decide +kernel,by decide +kernel⟩
def He:DF :=
 (Fv (Bg (Cz fun i j=>decide (j<i)) (AI Wl (AA (Dq (Cg 1) FL (AI Gy (AA (Ae CC (nm 1) Go) AG)) [none,none] (DK JB)) AG)) (fC (.int 40)))
  K3
  DH)
def Am:List PyData->Option PyData:=CM ["tables"] ["tables"] (He)
theorem LW{k:Nat}(F:Fn K mg "refuse_too_many_rows" Dr ["tables"] f fd)(R:mg "len" = none)(I:mg "sum" = none){g:Tok}(B:mg "MOST_ROWS" = some (.int 40 g)) :
  AL P w K mg base Ad (k+1) f fd ["tables"] (A3 (Am)):=Ee F HW fun cdv A outer s H E T=>by
 have sc:=HW;exact(Ac (FE (CO Pl (EH (WH rfl) rfl I bp (AB (HV [".0","table"] 1 [none,none] (DC GH) (fun _ _ _ _ _=>En) (fun _ _ _ _ _=>(EH Jp rfl R aj (AB (B8 Gm AO Da) AH)))) AH)) (JW rfl B) (A6 _))
  (Ac Hu)
  C7))
theorem Lo:Aj ["one","other","rows"] Iy (AX HF):=⟨rfl,rfl,rfl,by decide +kernel,rfl,by decide +kernel,by decide +kernel⟩
def M3(AJ:AC)(Am:AC):DF :=
 (Ai (Jb (AI AJ (AA JB AG)))
 (Ai (Jb (AI AJ IO))
 (Ai (Jb (AI Am (AA (Nl (AA JB IO)) AG)))
 (Ai (Ba 2 (Ae Ct (Dq (Cg 1) FL (AI Ma IO) [none,none] (DK (Ae CC JB Go))) (Dq (Cg 1) FL (Ae Ct (Ae CC (nm 2) Do) (nm 1)) [none,none,some 0] (DK (Ae CC (nm 1) Go)))))
 (CA (B9 (AA (nm 2) (AA (Ae Ct (Ae CC JB Do) (Ae CC (nm 1) Do)) AG))))))))
def BO(AJ:AC)(Am:AC):List PyData->Option PyData:=CM Iy ["one","other","rows"] (M3 AJ Am)
theorem Sg{k:Nat}{AJ:AC}{Am:AC}(F:Fn K mg "table_behind" HF Iy f fd)
 {Y:Addr}{R:GE}(U:Fn K mg "refuse_no_table" Cb Is Y R)(T:AL P w K mg base Ad k Y R Is (A3 AJ))
 {B:Addr}{I:GE}(CB:Fn K mg "refuse_too_many_rows" Dr ["tables"] B I)(Ca:AL P w K mg base Ad k B I ["tables"] (A3 Am))(Z:mg "list" = none) :
  AL P w K mg base Ad (k+1) f fd Iy (A3 (BO AJ Am)):=Ee F Lo fun cdv A outer s H E g=>by
 have sc:=Lo;exact(AU (HR (AW U T g rfl (AB GH AH)))
 (AU (HR (AW U T g rfl (AB Gm AH)))
 (AU (HR (AW CB Ca g rfl (AB (Ms (AB GH (AB Gm AH))) AH)))
 (AU (Bx (i:=2) sc.nd rfl By (BD Cq (HV [".0","row"] 1 [none,none] (DC (B8 GH AO Da)) (fun _ _ _ _ _=>En) (fun _ _ _ _ _=>(Ld Tg rfl Z bg (AB Gm AH)))) (HV [".0","row","one"] 1 [none,none,some 0] (DC (B8 Gm AO Da)) (fun _ _ _ _ _=>En) (fun _ _ _ _ _=>(BD Cq (B8 Ix AO Da) Gm)))))
 (Ac (Bk (Cf (AB Ix (AB (BD Cq (B8 GH AO Da) (B8 Gm AO Da)) AH)))))))))
theorem OI:Aj Iy Iy (AX LH):=⟨rfl,rfl,rfl,by decide +kernel,rfl,by decide +kernel,by decide +kernel⟩
def Ox(g:AC):DF :=
 (CA (AI g (AA (Ae Ef (Ae CC JB Go) (Ae CC (nm 1) Go)) (AA (Ae Ef (Ae CC JB Do) (Ae CC (nm 1) Do)) AG))))
def DQ(g:AC):List PyData->Option PyData:=CM Iy Iy (Ox g)
theorem Uo{k:Nat}{I:AC}(F:Fn K mg "frac_times" LH Iy f fd)
 {g:Addr}{B:GE}(T:Fn K mg "fraction_of" GC ["top","bottom"] g B)(U:AL P w K mg base Ad k g B ["top","bottom"] (A3 I)) :
  AL P w K mg base Ad (k+1) f fd Iy (A3 (DQ I)):=Ee F OI fun cdv A outer s H E R=>by
 have sc:=OI;exact(Ac (Bk (AW T U R rfl (AB (BD D6 (B8 GH AO Da) (B8 Gm AO Da)) (AB (BD D6 (B8 GH AO Da) (B8 Gm AO Da)) AH)))))
theorem UG:Aj ["row","part"] ["row","part"] (AX Nr):=⟨rfl,rfl,rfl,by decide +kernel,rfl,by decide +kernel,by decide +kernel⟩
def Wm(DQ:AC):DF :=
 (U4 (FT (Cg 1) FL (AI DQ (AA (nm 1) (AA (nm 2) AG))) [none,none,some 1] (DK JB)))
def Cm(DQ:AC):List PyData->Option PyData:=CM ["row","part"] ["row","part"] (Wm DQ)
theorem dc{k:Nat}{DQ:AC}(F:Fn K mg "scaled" Nr ["row","part"] f fd)
 {g:Addr}{B:GE}(T:Fn K mg "frac_times" LH Iy g B)(R:AL P w K mg base Ad k g B Iy (A3 DQ)) :
  AL P w K mg base Ad (k+1) f fd ["row","part"] (A3 (Cm DQ)):=Ee F UG fun cdv A outer s H E I=>by
 have sc:=UG;exact(Ac (YY [".0","one","part"] 1 [none,none,some 1] (DC GH) (fun _ _ _ _ _=>En) (fun _ _ _ _ _=>(AW T R I rfl (AB Gm (AB Ix AH))))))
theorem LY:Aj ["table","part"] ["table","part"] (AX HM):=⟨rfl,rfl,rfl,by decide +kernel,rfl,by decide +kernel,by decide +kernel⟩
def MY(AJ:AC)(Cm:AC):DF :=
 (Ai (Jb (AI AJ (AA JB AG)))
 (CA (B9 (AA (Dq (Cg 1) FL (AI Cm (AA (nm 1) (AA (nm 2) AG))) [none,none,some 1] (DK (Ae CC JB Go))) (AA (AI Cm (AA (Ae CC JB Do) IO)) AG)))))
def BN(AJ:AC)(Cm:AC):List PyData->Option PyData:=CM ["table","part"] ["table","part"] (MY AJ Cm)
theorem Sd{k:Nat}{AJ:AC}{Cm:AC}(F:Fn K mg "table_shrunk" HM ["table","part"] f fd)
 {Y:Addr}{U:GE}(Ao:Fn K mg "refuse_no_table" Cb Is Y U)(Z:AL P w K mg base Ad k Y U Is (A3 AJ))
 {B:Addr}{I:GE}(T:Fn K mg "scaled" Nr ["row","part"] B I)(R:AL P w K mg base Ad k B I ["row","part"] (A3 Cm)) :
  AL P w K mg base Ad (k+1) f fd ["table","part"] (A3 (BN AJ Cm)):=Ee F LY fun cdv A outer s H E g=>by
 have sc:=LY;exact(AU (HR (AW Ao Z g rfl (AB GH AH)))
 (Ac (Bk (Cf (AB (HV [".0","row","part"] 1 [none,none,some 1] (DC (B8 GH AO Da)) (fun _ _ _ _ _=>En) (fun _ _ _ _ _=>(AW T R g rfl (AB Gm (AB Ix AH))))) (AB (AW T R g rfl (AB (B8 GH AO Da) (AB Gm AH))) AH))))))
theorem MW:Aj ["tables","parts","table","rows","last","part","unread"] ["tables","parts"] (AX KA):=⟨rfl,rfl,rfl,by decide +kernel,rfl,by decide +kernel,by decide +kernel⟩
def Ny(AJ:AC)(Am:AC)(Cm:AC):DF :=
 (Ai (DR (DK JB) (HY 2)
  (Jb (AI AJ (AA (nm 2) AG))))
 (Ai (Fv (OC (Bg (Ez false) (AI Gy (AA JB AG)) Go) (Bg (Ez true) (AI Gy (AA JB AG)) (AI Gy IO)))
  K3
  DH)
 (Ai (Jb (AI Am (AA JB AG)))
 (Ai (TL 3 AG)
 (Ai (TL 4 AG)
 (Ai (DR (Cj zip2 (AA JB IO)) (Gj 2 5)
  (Ai (Ba 6 (Ae Ef (Nl (AA (B9 (AA Go (AA Do AG))) AG)) (Xw 4)))
  (Ai (Qe 3 (Dq (Cg 1) FL (Ae Ct (nm 2) (nm 1)) [none,none,some 6] (DK (Ae CC (nm 2) Go))))
  (Qe 4 (AI Cm (AA (Ae CC (nm 2) Do) (AA (nm 5) AG)))))))
 (fL 4 (fL 3 (CA (B9 (AA (nm 3) (AA (nm 4) AG))))))))))))
def C3(AJ:AC)(Am:AC)(Cm:AC):List PyData->Option PyData:=CM ["tables","parts"] ["tables","parts","table","rows","last","part","unread"] (Ny AJ Am Cm)
theorem So{k:Nat}{AJ:AC}{Am:AC}{Cm:AC}(F:Fn K mg "table_mixed" KA ["tables","parts"] f fd)
 {A1:Addr}{Z:GE}(Ao:Fn K mg "refuse_no_table" Cb Is A1 Z)(Au:AL P w K mg base Ad k A1 Z Is (A3 AJ))
 {U:Addr}{Y:GE}(CB:Fn K mg "refuse_too_many_rows" Dr ["tables"] U Y)(Ca:AL P w K mg base Ad k U Y ["tables"] (A3 Am))
 {R:Addr}{T:GE}(Gz:Fn K mg "scaled" Nr ["row","part"] R T)(Hv:AL P w K mg base Ad k R T ["row","part"] (A3 Cm))(B:mg "len" = none)(DX:mg "zip" = none) :
  AL P w K mg base Ad (k+1) f fd ["tables","parts"] (A3 (C3 AJ Am Cm)):=Ee F MW fun cdv A outer s H E g=>by
 have sc:=MW;exact(AU (D0 aN rfl (DC GH) (Fq (Ay (i:=2) sc.nd rfl By))
  (Ac (HR (AW Ao Au g rfl (AB Ix AH)))))
 (AU (FE (DW.dt (Nb (CO (Z2 (by have:=g.units;exact this)) (EH Jp rfl B aj (AB GH AH)) AO (A6 _)) (LS (CO (Nn (by have:=g.units;exact this)) (EH Jp rfl B aj (AB GH AH)) (EH Jp rfl B aj (AB Gm AH)) (A6 _)))))
  (Ac Hu)
  C7)
 (AU (HR (AW CB Ca g rfl (AB GH AH)))
 (AU (Mb (i:=3) sc.nd rfl By AH)
 (AU (Mb (i:=4) sc.nd rfl By AH)
 (AU (D0 aN rfl (SG rfl DX (AB GH (AB Gm AH))) (LD (Gp rfl (Bq (Ay (i:=2) sc.nd rfl By) (Bq (Ay (i:=5) sc.nd rfl By) FY))))
  (AU (Bx (i:=6) sc.nd rfl (Or.inr rfl) (BD D6 (Ms (AB (Cf (AB AO (AB AO AH))) AH)) (cz (pv 4) rfl B)))
  (AU (Lg (pv 3) (HV [".0","row","unread"] 1 [none,none,some 6] (DC (B8 Ix AO Da)) (fun _ _ _ _ _=>En) (fun _ _ _ _ _=>(BD Cq Ix Gm))) (fun I ha=>Fc (Ja ab bS bT Jr I ha)))
  (Ac (Lg (pv 4) (AW Gz Hv g rfl (AB (B8 Ix AO Da) (AB (AD (pv 5)) AH))) (fun I ha=>Fc (Ja ab bS bT Jr I ha)))))))
 (Ac (Vj 4 (Vj 3 (Bk (Cf (AB (AD (pv 3)) (AB (AD (pv 4)) AH)))))))))))))
theorem Jo:Aj ["table","order","halved","power","parts"] ["table","order"] (AX HZ):=⟨rfl,rfl,rfl,by decide +kernel,rfl,by decide +kernel,by decide +kernel⟩
def KY(g:AC)(B:AC)(AJ:AC)(BO:AC)(C3:AC)(BN:AC):DF :=
 (Ai (Jb (AI AJ (AA JB AG)))
 (Ai (Fv (OC (Bg IN (nm 1) Do) (Bg (Cz fun i j=>decide (j<i)) (nm 1) (fC (.int 6))))
  K3
  DH)
 (Ai (Ba 2 (AI BN (AA JB (AA (B9 (AA Do (AA (fC (.int 2)) AG))) AG))))
 (Ai (Ba 3 (AI B (AA (fC (.int 2)) IO)))
 (Ai (Ba 4 (Nl (AA (AI g (AA (nm 3) (AA (Ae Ot (nm 3) Do) AG))) (AA (AI g (AA (sk Do) (AA (Ae Ot (nm 3) Do) AG))) AG))))
 (CA (AI C3 (AA (Nl (AA (AI BO (AA (nm 2) (AA (nm 2) AG))) (AA JB AG))) (AA (nm 4) AG)))))))))
def Bw(B:AC)(g:AC)(AJ:AC)(BO:AC)(C3:AC)(BN:AC):List PyData->Option PyData:=CM ["table","order"] ["table","order","halved","power","parts"] (KY B g AJ BO C3 BN)
theorem O6{k:Nat}{Bm:AC}{Y:AC}{AJ:AC}{BO:AC}{C3:AC}{BN:AC}(F:Fn K mg "table_sharpened" HZ ["table","order"] f fd)
 {Z:Addr}{FZ:GE}(CV:Fn K mg "fraction_of" GC ["top","bottom"] Z FZ)(C4:AL P w K mg base Ad k Z FZ ["top","bottom"] (A3 Bm))
 {I:Addr}{R:GE}(Fz:Fn K mg "power_of" Ke ["base","power"] I R)(Ia:AL P w K mg base Ad k I R ["base","power"] (A3 Y))
 {A1:Addr}{Aw:GE}(Ao:Fn K mg "refuse_no_table" Cb Is A1 Aw)(Au:AL P w K mg base Ad k A1 Aw Is (A3 AJ))
 {Fh:Addr}{Ey:GE}(Di:Fn K mg "table_behind" HF Iy Fh Ey)(Eb:AL P w K mg base Ad k Fh Ey Iy (A3 BO))
 {T:Addr}{U:GE}(Hj:Fn K mg "table_mixed" KA ["tables","parts"] T U)(KL:AL P w K mg base Ad k T U ["tables","parts"] (A3 C3))
 {Fi:Addr}{Ew:GE}(Dl:Fn K mg "table_shrunk" HM ["table","part"] Fi Ew)(EY:AL P w K mg base Ad k Fi Ew ["table","part"] (A3 BN)){g:Tok}(Hz:mg "MOST_SHARPENED" = some (.int 6 g)) :
  AL P w K mg base Ad (k+1) f fd ["table","order"] (A3 (Bw Bm Y AJ BO C3 BN)):=Ee F Jo fun cdv A outer s H E B=>by
 have sc:=Jo;exact(AU (HR (AW Ao Au B rfl (AB GH AH)))
 (AU (FE (DW.dt (Nb (CO Jd Gm AO (A6 _)) (LS (CO Pl Gm (JW rfl Hz) (A6 _)))))
  (Ac Hu)
  C7)
 (AU (Bx (i:=2) sc.nd rfl By (AW Dl EY B rfl (AB GH (AB (Cf (AB AO (AB AO AH))) AH))))
 (AU (Bx (i:=3) sc.nd rfl By (AW Fz Ia B rfl (AB AO (AB Gm AH))))
 (AU (Bx (i:=4) sc.nd rfl By (Ms (AB (AW CV C4 B rfl (AB (AD (pv 3)) (AB (BD Pj (AD (pv 3)) AO) AH))) (AB (AW CV C4 B rfl (AB (o9 AO) (AB (BD Pj (AD (pv 3)) AO) AH))) AH))))
 (Ac (Bk (AW Hj KL B rfl (AB (Ms (AB (AW Di Eb B rfl (AB Ix (AB Ix AH))) (AB GH AH))) (AB (AD (pv 4)) AH))))))))))
theorem Lv:Aj KB KB (AX JH):=⟨rfl,rfl,rfl,by decide +kernel,rfl,by decide +kernel,by decide +kernel⟩
def JQ:DF :=
 (Ai (Fv (Bg IN (nm 1) (AI Gy (AA JB AG)))
  (CA (Ae CC JB (nm 1)))
  DH)
 (CA Go))
def B1:List PyData->Option PyData:=CM KB KB (JQ)
theorem SV{k:Nat}(F:Fn K mg "_law_cell_at" JH KB f fd)(g:mg "len" = none) :
  AL P w K mg base Ad (k+1) f fd KB (A3 (B1)):=Ee F Lv fun cdv A outer s H E B=>by
 have sc:=Lv;exact(AU (FE (CO Jd Gm (EH Jp rfl g aj (AB GH AH)) (A6 _))
  (Ac (Bk (B8 GH Gm Da)))
  C7)
 (Ac (Bk AO)))
theorem OM:Aj ["_law_cell","_law_k","_law_number"] ["_law_cell","_law_k"] (AX K6):=⟨rfl,rfl,rfl,by decide +kernel,rfl,by decide +kernel,by decide +kernel⟩
def K1:DF :=
 (Ai (Ba 2 (Ae MC (Ae Ct (Ae Ct (Ae Ef (Ae MC JB (fC (.int 2147483647))) (fC (.int 48271))) (Ae Ef (nm 1) (fC (.int 69621)))) (fC (.int 11))) (fC (.int 2147483647))))
 (Ai (Ba 2 (Ae MC (Ae Ef (nm 2) (nm 2)) (fC (.int 2147483629))))
 (CA (Ae MC (Ae Ef (nm 2) (nm 2)) (fC (.int 2147483587))))))
def CJ:List PyData->Option PyData:=CM ["_law_cell","_law_k"] ["_law_cell","_law_k","_law_number"] (K1)
theorem Uu{k:Nat}(F:Fn K mg "_law_mixed" K6 ["_law_cell","_law_k"] f fd) :
  AL P w K mg base Ad (k+1) f fd ["_law_cell","_law_k"] (A3 (CJ)):=Ee F OM fun cdv A outer s H E g=>by
 have sc:=OM;exact(AU (Bx (i:=2) sc.nd rfl By (BD Mf (BD Cq (BD Cq (BD D6 (BD Mf GH AO) AO) (BD D6 Gm AO)) AO) AO))
 (AU (Bx (i:=2) sc.nd rfl By (BD Mf (BD D6 Ix Ix) AO))
 (Ac (Bk (BD Mf (BD D6 Ix Ix) AO)))))
theorem PJ:Aj ["_law_script","_law_k","_law_cell","_law_big"] KB (AX MD):=⟨rfl,rfl,rfl,by decide +kernel,rfl,by decide +kernel,by decide +kernel⟩
def MB(B1:AC)(CJ:AC):DF :=
 (Ai (Ba 2 (AI B1 (AA JB IO)))
 (Ai (Fv (Bg (Cz fun i j=>decide (j<=i)) (AI Vy (AA (nm 2) AG)) (Ae W6 (fC (.int 10)) (fC (.int 18))))
  (CA (nm 2))
  DH)
 (Ai (Ba 3 (Ae Ct (AI CJ (AA (nm 2) IO)) (Ae Ef (AI CJ (AA (nm 2) (AA (Ae Ct (nm 1) (fC (.int 500))) AG))) (fC (.int 2147483587)))))
 (CA (Ae Ct (nm 3) (Ae Ef (Ae Ef (AI CJ (AA (nm 2) (AA (Ae Ct (nm 1) (fC (.int 900))) AG))) (fC (.int 2147483587))) (fC (.int 2147483587))))))))
def DN(B1:AC)(CJ:AC):List PyData->Option PyData:=CM KB ["_law_script","_law_k","_law_cell","_law_big"] (MB B1 CJ)
theorem WU{k:Nat}{B1:AC}{CJ:AC}(F:Fn K mg "_law_rest" MD KB f fd)
 {U:Addr}{Y:GE}(HN:Fn K mg "_law_cell_at" JH KB U Y)(Z:AL P w K mg base Ad k U Y KB (A3 B1))
 {R:Addr}{T:GE}(I:Fn K mg "_law_mixed" K6 ["_law_cell","_law_k"] R T)(B:AL P w K mg base Ad k R T ["_law_cell","_law_k"] (A3 CJ))(IJ:mg "abs" = none) :
  AL P w K mg base Ad (k+1) f fd KB (A3 (DN B1 CJ)):=Ee F PJ fun cdv A outer s H E g=>by
 have sc:=PJ;exact(AU (Bx (i:=2) sc.nd rfl By (AW HN Z g rfl (AB GH (AB Gm AH))))
 (AU (FE (CO qr (EH pW rfl IJ bo (AB Ix AH)) (BD kq AO AO) (A6 _))
  (Ac (Bk Ix))
  C7)
 (AU (Bx (i:=3) sc.nd rfl By (BD Cq (AW I B g rfl (AB Ix (AB Gm AH))) (BD D6 (AW I B g rfl (AB Ix (AB (BD Cq Gm AO) AH))) AO)))
 (Ac (Bk (BD Cq (AD (pv 3)) (BD D6 (BD D6 (AW I B g rfl (AB Ix (AB (BD Cq Gm AO) AH))) AO) AO)))))))
theorem QM:Aj Ev Ev (AX EO):=⟨rfl,rfl,rfl,by decide +kernel,rfl,by decide +kernel,by decide +kernel⟩
def SI(g:AC):DF :=
 (CA (AI g (AA (Ae Ct (Ae Ef (Ae CC JB Go) (Ae CC (nm 1) Do)) (Ae Ef (Ae CC (nm 1) Go) (Ae CC JB Do))) (AA (Ae Ef (Ae CC JB Do) (Ae CC (nm 1) Do)) AG))))
def A5(g:AC):List PyData->Option PyData:=CM Ev Ev (SI g)
theorem XZ{k:Nat}{I:AC}(F:Fn K mg "_law_sum" EO Ev f fd)
 {g:Addr}{B:GE}(U:Fn K mg "_law_ratio" Eg ["_law_top","_law_bottom"] g B)(T:AL P w K mg base Ad k g B ["_law_top","_law_bottom"] (A3 I)) :
  AL P w K mg base Ad (k+1) f fd Ev (A3 (A5 I)):=Ee F QM fun cdv A outer s H E R=>by
 have sc:=QM;exact(Ac (Bk (AW U T R rfl (AB (BD Cq (BD D6 (B8 GH AO Da) (B8 Gm AO Da)) (BD D6 (B8 Gm AO Da) (B8 GH AO Da))) (AB (BD D6 (B8 GH AO Da) (B8 Gm AO Da)) AH)))))
theorem OA:Aj Ev Ev (AX G5):=⟨rfl,rfl,rfl,by decide +kernel,rfl,by decide +kernel,by decide +kernel⟩
def Og(g:AC):DF :=
 (CA (AI g (AA (Ae Ef (Ae CC JB Go) (Ae CC (nm 1) Go)) (AA (Ae Ef (Ae CC JB Do) (Ae CC (nm 1) Do)) AG))))
def An(g:AC):List PyData->Option PyData:=CM Ev Ev (Og g)
theorem Ut{k:Nat}{I:AC}(F:Fn K mg "_law_times" G5 Ev f fd)
 {g:Addr}{B:GE}(U:Fn K mg "_law_ratio" Eg ["_law_top","_law_bottom"] g B)(T:AL P w K mg base Ad k g B ["_law_top","_law_bottom"] (A3 I)) :
  AL P w K mg base Ad (k+1) f fd Ev (A3 (An I)):=Ee F OA fun cdv A outer s H E R=>by
 have sc:=OA;exact(Ac (Bk (AW U T R rfl (AB (BD D6 (B8 GH AO Da) (B8 Gm AO Da)) (AB (BD D6 (B8 GH AO Da) (B8 Gm AO Da)) AH)))))
theorem TM:Aj ["_law_rows","_law_tree","_law_found","_law_bough","_law_below","_law_k","_law_total","_law_one","_law_other"] ["_law_rows","_law_tree"] (AX KG):=⟨rfl,rfl,rfl,by decide +kernel,rfl,by decide +kernel,by decide +kernel⟩
def KD(A5:AC)(An:AC)(B2:AC):DF :=
 (Ai (iZ 2 (FT (Cg 1) FL (B9 (AA Do (AA Do AG))) [none,none] (DK JB)))
 (Ai (DR (DK (nm 1)) (HY 3)
  (Ai (Ba 4 (AI B2 (AA JB (AA (nm 3) AG))))
  (DR (Cj NT (AA (AI Gy (AA JB AG)) AG)) (HY 5)
   (Ai (Ba 6 (B9 (AA Go (AA Do AG))))
   (Ai (DR (Cj zip2 (AA (Ae CC JB (nm 5)) (AA (nm 4) AG))) (Gj 7 8)
    (Ba 6 (AI A5 (AA (nm 6) (AA (AI An (AA (nm 7) (AA (nm 8) AG))) AG)))))
   (WB 2 (AI An (AA (RS 2 (nm 5)) (AA (nm 6) AG))) (nm 5)))))))
 (RN 2)))
def B2(A5:AC)(An:AC):Nat->List PyData->Option PyData
 |0=>fun _=>none
 |n+1=>CM ["_law_rows","_law_tree"] ["_law_rows","_law_tree","_law_found","_law_bough","_law_below","_law_k","_law_total","_law_one","_law_other"] (KD A5 An (B2 A5 An n))
theorem Mx{k:Nat}{A5:AC}{An:AC}(R:Fn K mg "_law_worths" KG ["_law_rows","_law_tree"] f fd)
 {U:Addr}{Y:GE}(BV:Fn K mg "_law_sum" EO Ev U Y)(I:AL P w K mg base Ad k U Y Ev (A3 A5))
 {Z:Addr}{DZ:GE}(T:Fn K mg "_law_times" G5 Ev Z DZ)(g:AL P w K mg base Ad k Z DZ Ev (A3 An))(Bs:mg "len" = none)(C9:mg "range" = none)(DX:mg "zip" = none):∀n,
  AL P w K mg base Ad (k+n+1) f fd ["_law_rows","_law_tree"] (A3 (B2 A5 An n))
 |0=>Gi fun _ _ _ _ ⟨_,_,_,h,_⟩=>by cases h
 |n+1=>by
  have sc:=TM;have GL:=Mx (k:=k) (A5:=A5) (An:=An) R BV I T g Bs C9 DX n;have I:=I.mono (show k<=k+n+1 by lia);have g:=g.mono (show k<=k+n+1 by lia);refine Ee (k:=k+n+1) (F:=KD A5 An (B2 A5 An n)) R sc fun cdv A outer s H E B=>?_;exact(AU (jW (i:=2) [".0","_law_row"] 1 [none,none] sc.nd rfl rfl (DC GH) (fun _ _ _ _ _=>En) (fun _ _ _ _ _=>(Cf (AB AO (AB AO AH)))))
 (AU (D0 aN rfl (DC Gm) (Fq (Ay (i:=3) sc.nd rfl By))
  (AU (Bx (i:=4) sc.nd rfl By (AW R GL B rfl (AB GH (AB (AD (pv 3)) AH))))
  (Ac (D0 aN rfl (UB rfl C9 (AB (EH Jp rfl Bs aj (AB GH AH)) AH)) (Fq (Ay (i:=5) sc.nd rfl By))
   (AU (Bx (i:=6) sc.nd rfl By (Cf (AB AO (AB AO AH))))
   (AU (D0 aN rfl (SG rfl DX (AB (B8 GH (AD (pv 5)) Da) (AB (AD (pv 4)) AH))) (LD (Gp rfl (Bq (Ay (i:=7) sc.nd rfl By) (Bq (Ay (i:=8) sc.nd rfl By) FY))))
    (Ac (Bx (i:=6) sc.nd rfl By (AW BV I B rfl (AB (AD (pv 6)) (AB (AW T g B rfl (AB (AD (pv 7)) (AB (AD (pv 8)) AH))) AH))))))
   (Ac (mn (pv 2) (AD (pv 5)) (AW T g B rfl (AB (gq (pv 2) (AD (pv 5)) Da) (AB (AD (pv 6)) AH))) (fun h1 h2 h3=>M4 h1 (R5 h2 h3 set_list))))))))))
 (Ac (Pb (pv 2)))))
theorem Uy:Aj ["_law_tree"] ["_law_tree"] (AX IZ):=⟨rfl,rfl,rfl,by decide +kernel,rfl,by decide +kernel,by decide +kernel⟩
def O7(Az:AC):DF :=
 (CA (Ae Ct Do (AI Wl (AA (Dq (Cg 1) FL (AI Az IO) [none,none] (DK JB)) AG))))
def Az:Nat->List PyData->Option PyData
 |0=>fun _=>none
 |n+1=>CM ["_law_tree"] ["_law_tree"] (O7 (Az n))
theorem OS{k:Nat}(g:Fn K mg "_law_knots" IZ ["_law_tree"] f fd)(B:mg "sum" = none):∀n,
  AL P w K mg base Ad (k+n+1) f fd ["_law_tree"] (A3 (Az n))
 |0=>Gi fun _ _ _ _ ⟨_,_,_,h,_⟩=>by cases h
 |n+1=>by
  have sc:=Uy;have R:=OS (k:=k) g B n;refine Ee (k:=k+n+1) (F:=O7 (Az n)) g sc fun cdv A outer s H E I=>?_;exact(Ac (Bk (BD Cq AO (EH (WH rfl) rfl B bp (AB (HV [".0","_law_bough"] 1 [none,none] (DC GH) (fun _ _ _ _ _=>En) (fun _ _ _ _ _=>(AW g R I rfl (AB Gm AH)))) AH)))))
theorem SW:Aj ["_law_tree","_law_found","_law_bough"] ["_law_tree"] (AX JN):=⟨rfl,rfl,rfl,by decide +kernel,rfl,by decide +kernel,by decide +kernel⟩
def Mc(Az:AC)(Bl:AC):DF :=
 (Ai (Ba 1 (AI Az (AA JB AG)))
 (Ai (DR (DK JB) (HY 2)
  (Ba 1 (Ae Ef (nm 1) (AI Bl (AA (nm 2) AG)))))
 (CA (nm 1))))
def Bl(Az:AC):Nat->List PyData->Option PyData
 |0=>fun _=>none
 |n+1=>CM ["_law_tree"] ["_law_tree","_law_found","_law_bough"] (Mc Az (Bl Az n))
theorem Lb{k:Nat}{Az:AC}(B:Fn K mg "_law_density" JN ["_law_tree"] f fd)
 {T:Addr}{R:GE}(U:Fn K mg "_law_knots" IZ ["_law_tree"] T R)(g:AL P w K mg base Ad k T R ["_law_tree"] (A3 Az)):∀n,
  AL P w K mg base Ad (k+n+1) f fd ["_law_tree"] (A3 (Bl Az n))
 |0=>Gi fun _ _ _ _ ⟨_,_,_,h,_⟩=>by cases h
 |n+1=>by
  have sc:=SW;have Y:=Lb (k:=k) (Az:=Az) B U g n;have g:=g.mono (show k<=k+n+1 by lia);refine Ee (k:=k+n+1) (F:=Mc Az (Bl Az n)) B sc fun cdv A outer s H E I=>?_;exact(AU (Bx (i:=1) sc.nd rfl By (AW U g I rfl (AB GH AH)))
 (AU (D0 aN rfl (DC GH) (Fq (Ay (i:=2) sc.nd rfl By))
  (Ac (Bx (i:=1) sc.nd rfl By (BD D6 Gm (AW B Y I rfl (AB Ix AH))))))
 (Ac (Bk Gm))))
theorem QB:Aj ["_law_table_here","_law_tree","_law_weight","_law_one","_law_other"] ["_law_table_here"] (AX NQ):=⟨rfl,rfl,rfl,by decide +kernel,rfl,by decide +kernel,by decide +kernel⟩
def RY(Bl:AC)(Az:AC)(A5:AC)(An:AC)(B2:AC)(BL:AC):DF :=
 (Ai (DR (DK (AI BL (AA (fC (.int 6)) AG))) (HY 1)
  (Ai (Ba 2 (B9 (AA Go (AA Do AG))))
  (Ai (DR (Cj zip2 (AA (Ae CC JB Do) (AA (AI B2 (AA (Ae CC JB Go) IO)) AG))) (Gj 3 4)
   (Ba 2 (AI A5 (AA (nm 2) (AA (AI An (AA (nm 3) (AA (nm 4) AG))) AG)))))
  (Fv (Bg (Ez true) (nm 2) (B9 (AA Do (AA (AI Bl IO) AG))))
   (CA (B9 (AA (Ae Ot (AI Az IO) Do) IO)))
   DH))))
 (CA (B9 (AA (fC (.int 6)) (AA (fC .none) AG)))))
def Dp(Bl:AC)(Az:AC)(A5:AC)(An:AC)(B2:AC)(BL:AC):List PyData->Option PyData:=CM ["_law_table_here"] ["_law_table_here","_law_tree","_law_weight","_law_one","_law_other"] (RY Bl Az A5 An B2 BL)
theorem Xa{k:Nat}{Bl:AC}{Az:AC}{A5:AC}{An:AC}{B2:AC}{BL:AC}(F:Fn K mg "_law_due" NQ ["_law_table_here"] f fd)
 {R:Addr}{T:GE}(C6:Fn K mg "_law_density" JN ["_law_tree"] R T)(Fs:AL P w K mg base Ad k R T ["_law_tree"] (A3 Bl))
 {Y:Addr}{U:GE}(CU:Fn K mg "_law_knots" IZ ["_law_tree"] Y U)(Co:AL P w K mg base Ad k Y U ["_law_tree"] (A3 Az))
 {Et:Addr}{EU:GE}(BV:Fn K mg "_law_sum" EO Ev Et EU)(Bi:AL P w K mg base Ad k Et EU Ev (A3 A5))
 {EA:Addr}{DZ:GE}(CT:Fn K mg "_law_times" G5 Ev EA DZ)(CF:AL P w K mg base Ad k EA DZ Ev (A3 An))
 {B:Addr}{I:GE}(Dc:Fn K mg "_law_worths" KG ["_law_rows","_law_tree"] B I)(GL:AL P w K mg base Ad k B I ["_law_rows","_law_tree"] (A3 B2))
 {Z:Addr}{EW:GE}(Dx:Fn K mg "trees_to" IK ["most"] Z EW)(EN:AL P w K mg base Ad k Z EW ["most"] (A3 BL))(DX:mg "zip" = none) :
  AL P w K mg base Ad (k+1) f fd ["_law_table_here"] (A3 (Dp Bl Az A5 An B2 BL)):=Ee F QB fun cdv A outer s H E g=>by
 have sc:=QB;exact(AU (D0 aN rfl (DC (AW Dx EN g rfl (AB AO AH))) (Fq (Ay (i:=1) sc.nd rfl By))
  (AU (Bx (i:=2) sc.nd rfl By (Cf (AB AO (AB AO AH))))
  (AU (D0 aN rfl (SG rfl DX (AB (B8 GH AO Da) (AB (AW Dc GL g rfl (AB (B8 GH AO Da) (AB Gm AH))) AH))) (LD (Gp rfl (Bq (Ay (i:=3) sc.nd rfl By) (Bq (Ay (i:=4) sc.nd rfl By) FY))))
   (Ac (Bx (i:=2) sc.nd rfl By (AW BV Bi g rfl (AB Ix (AB (AW CT CF g rfl (AB (AD (pv 3)) (AB (AD (pv 4)) AH))) AH))))))
  (Ac (FE (CO (Nn (by have:=g.units;exact this)) Ix (Cf (AB AO (AB (AW C6 Fs g rfl (AB Gm AH)) AH))) (A6 _))
   (Ac (Bk (Cf (AB (BD Pj (AW CU Co g rfl (AB Gm AH)) AO) (AB Gm AH)))))
   C7)))))
 (Ac (Bk (Cf (AB AO (AB Ro AH))))))
theorem Mn:Aj ["_law_table_here","_law_many","_law_found","_law_one","_law_other"] ["_law_table_here","_law_many"] (AX KC):=⟨rfl,rfl,rfl,by decide +kernel,rfl,by decide +kernel,by decide +kernel⟩
def OG(A5:AC)(CP:AC)(Ce:AC):DF :=
 (Ai (TL 2 AG)
 (Ai (DR (Cj zip2 (AA (AI CP (AA JB IO)) (AA (AI Ce IO) AG))) (Gj 3 4)
  (Y4 2 (AI A5 (AA (nm 3) (AA (B9 (AA (Ae Ot Go (Ae CC (nm 4) Go)) (AA (Ae CC (nm 4) Do) AG))) AG)))))
 (RN 2)))
def CZ(A5:AC)(CP:AC)(Ce:AC):List PyData->Option PyData:=CM ["_law_table_here","_law_many"] ["_law_table_here","_law_many","_law_found","_law_one","_law_other"] (OG A5 CP Ce)
theorem TB{k:Nat}{A5:AC}{CP:AC}{Ce:AC}(F:Fn K mg "_law_wrongs" KC ["_law_table_here","_law_many"] f fd)
 {U:Addr}{Y:GE}(BV:Fn K mg "_law_sum" EO Ev U Y)(Bi:AL P w K mg base Ad k U Y Ev (A3 A5))
 {I:Addr}{R:GE}(F7:Fn K mg "table_weighing" Hw ["table","most"] I R)(Hs:AL P w K mg base Ad k I R ["table","most"] (A3 CP))
 {B:Addr}{T:GE}(GV:Fn K mg "true_weighing" Il ["most"] B T)(Ip:AL P w K mg base Ad k B T ["most"] (A3 Ce))(DX:mg "zip" = none) :
  AL P w K mg base Ad (k+1) f fd ["_law_table_here","_law_many"] (A3 (CZ A5 CP Ce)):=Ee F Mn fun cdv A outer s H E g=>by
 have sc:=Mn;exact(AU (Mb (i:=2) sc.nd rfl By AH)
 (AU (D0 aN rfl (SG rfl DX (AB (AW F7 Hs g rfl (AB GH (AB Gm AH))) (AB (AW GV Ip g rfl (AB Gm AH)) AH))) (LD (Gp rfl (Bq (Ay (i:=3) sc.nd rfl By) (Bq (Ay (i:=4) sc.nd rfl By) FY))))
  (Ac (T2 (pv 2) (AW BV Bi g rfl (AB (AD (pv 3)) (AB (Cf (AB (BD Pj AO (B8 (AD (pv 4)) AO Da)) (AB (B8 (AD (pv 4)) AO Da) AH))) AH))) (fun Z ha=>Fc (Ja ab bU bV IE Z ha)))))
 (Ac (Pb (pv 2)))))
theorem cD:Aj ["_law_script","_law_rest_here","_law_table_here","_law_many","_law_tree","_law_sharp","_law_found","_law_half","_law_wrongs_here","_law_due_here"] ["_law_script"] (AX iw):=⟨rfl,rfl,rfl,by decide +kernel,rfl,by decide +kernel,by decide +kernel⟩
def iu(g:AC)(Dp:AC)(DN:AC)(An:AC)(CZ:AC)(BO:AC)(CY:AC)(Bw:AC)(BN:AC):DF :=
 (Ai (Ba 1 (AI DN (AA JB (AA Go AG))))
 (Ai (Ba 2 (AI g (AA (Ae gL (nm 1) (fC (.int 3))) (AA (AI DN (AA JB (AA Do AG))) AG))))
 (Ai (gI (AI CY (AA (nm 2) AG)) (Gj 3 4))
 (Ai (Fv (Bg (Ez true) (B9 (AA (nm 3) (AA (nm 4) AG))) (AI Dp (AA (nm 2) AG)))
  (CA (fC (.bool false)))
  DH)
 (Ai (Fv (Tf (Bg (Ez false) (Ae MC (nm 1) (fC (.int 3))) Go) (Tf (Bg IN Go (nm 3)) (Tf (Bg IN (nm 3) (fC (.int 5))) (Bg IN (AI Gy (AA (Ae CC (nm 2) Go) AG)) (fC (.int 4))))))
  (Ai (Ba 2 (AI Bw (AA (nm 2) (AA (nm 3) AG))))
  (gI (AI CY (AA (nm 2) AG)) (Gj 3 4)))
  DH)
 (Ai (Fv (OC (Bg IN (nm 3) Do) (OC (Bg (Cz fun i j=>decide (j<i)) (nm 3) (fC (.int 5))) (Bg (Cz fun i j=>decide (j<i)) (AI Gy (AA (Ae CC (nm 2) Go) AG)) (fC (.int 9)))))
  (CA (Ae IN (nm 3) (fC (.int 7))))
  DH)
 (Ai (Ba 5 (AI Bw (AA (nm 2) (AA (nm 3) AG))))
 (Ai (Ba 6 (AI CY (AA (nm 5) AG)))
 (Ai (Fv (OC (Bg (Ez true) (nm 6) (AI Dp (AA (nm 5) AG))) (Bg IN (Ae CC (nm 6) Go) (Ae Ct (nm 3) Do)))
  (CA (fC (.bool false)))
  DH)
 (Ai (Fv (Bg (Ez true) (Dq (Cg 1) (Bg (Ez true) (nm 1) (B9 (AA Go (AA Do AG)))) (nm 1) [none,none] (DK (AI CZ (AA (nm 5) (AA (Ae Ct (nm 3) Do) AG))))) (Nl AG))
  (CA (fC (.bool false)))
  DH)
 (Ai (Ba 7 (AI BN (AA (nm 2) (AA (B9 (AA Do (AA (fC (.int 2)) AG))) AG))))
 (Ai (Ba 8 (AI CZ (AA (nm 2) (AA (Ae Ct (nm 3) Do) AG))))
 (Ai (Ba 9 (Dq (Cg 1) FL (AI An (AA (nm 1) (AA (B9 (AA Do (AA (Ae fE Do (nm 2)) AG))) AG))) [none,none,some 3] (DK (nm 8))))
 (CA (Ae (Ez false) (AI CZ (AA (AI BO (AA (nm 7) (AA (nm 7) AG))) (AA (Ae Ct (nm 3) Do) AG))) (nm 9))))))))))))))))
def Z1(g:AC)(Dp:AC)(DN:AC)(An:AC)(CZ:AC)(BO:AC)(CY:AC)(Bw:AC)(BN:AC):List PyData->Option PyData:=CM ["_law_script"] ["_law_script","_law_rest_here","_law_table_here","_law_many","_law_tree","_law_sharp","_law_found","_law_half","_law_wrongs_here","_law_due_here"] (iu g Dp DN An CZ BO CY Bw BN)
theorem lH{k:Nat}{Fg:AC}{Dp:AC}{DN:AC}{An:AC}{CZ:AC}{BO:AC}{CY:AC}{Bw:AC}{BN:AC}(F:Fn K mg "law" iw ["_law_script"] f fd)
 {O0:Addr}{OJ:GE}(Ic:Fn K mg "_law_drawn" LF ["_law_rest_here","_law_other"] O0 OJ)(LK:AL P w K mg base Ad k O0 OJ ["_law_rest_here","_law_other"] (A3 Fg))
 {U:Addr}{Y:GE}(IH:Fn K mg "_law_due" NQ ["_law_table_here"] U Y)(Kb:AL P w K mg base Ad k U Y ["_law_table_here"] (A3 Dp))
 {Z:Addr}{Oh:GE}(Hg:Fn K mg "_law_rest" MD KB Z Oh)(Jg:AL P w K mg base Ad k Z Oh KB (A3 DN))
 {EA:Addr}{DZ:GE}(CT:Fn K mg "_law_times" G5 Ev EA DZ)(CF:AL P w K mg base Ad k EA DZ Ev (A3 An))
 {N9:Addr}{ND:GE}(T:Fn K mg "_law_wrongs" KC ["_law_table_here","_law_many"] N9 ND)(I:AL P w K mg base Ad k N9 ND ["_law_table_here","_law_many"] (A3 CZ))
 {Fh:Addr}{Ey:GE}(Di:Fn K mg "table_behind" HF Iy Fh Ey)(Eb:AL P w K mg base Ad k Fh Ey Iy (A3 BO))
 {OH:Addr}{My:GE}(R:Fn K mg "table_order" J6 ["table"] OH My)(B:AL P w K mg base Ad k OH My ["table"] (A3 CY))
 {KU:Addr}{Js:GE}(EI:Fn K mg "table_sharpened" HZ ["table","order"] KU Js)(FW:AL P w K mg base Ad k KU Js ["table","order"] (A3 Bw))
 {Fi:Addr}{Ew:GE}(Dl:Fn K mg "table_shrunk" HM ["table","part"] Fi Ew)(EY:AL P w K mg base Ad k Fi Ew ["table","part"] (A3 BN))(Bs:mg "len" = none) :
  AL P w K mg base Ad (k+1) f fd ["_law_script"] (A3 (Z1 Fg Dp DN An CZ BO CY Bw BN)):=Ee F cD fun cdv A outer s H E g=>by
 have sc:=cD;exact(AU (Bx (i:=1) sc.nd rfl By (AW Hg Jg g rfl (AB GH (AB AO AH))))
 (AU (Bx (i:=2) sc.nd rfl By (AW Ic LK g rfl (AB (BD km Gm AO) (AB (AW Hg Jg g rfl (AB GH (AB AO AH))) AH))))
 (AU (eg (AW R B g rfl (AB Ix AH)) (LD (Gp rfl (Bq (Ay (i:=3) sc.nd rfl (Or.inr rfl)) (Bq (Ay (i:=4) sc.nd rfl By) FY)))))
 (AU (FE (CO (Nn (by have:=g.units;exact this)) (Cf (AB (AD (pv 3)) (AB (AD (pv 4)) AH))) (AW IH Kb g rfl (AB Ix AH)) (A6 _))
  (Ac (Bk Zi))
  C7)
 (AU (FE (DW.dt (Wf (CO (Z2 (by have:=g.units;exact this)) (BD Mf Gm AO) AO (A6 _)) (Wf (CO Jd AO (AD (pv 3)) (A6 _)) (Wf (CO Jd (AD (pv 3)) AO (A6 _)) (LS (CO Jd (EH Jp rfl Bs aj (AB (B8 Ix AO Da) AH)) AO (A6 _)))))))
  (AU (Bx (i:=2) sc.nd rfl By (AW EI FW g rfl (AB Ix (AB (AD (pv 3)) AH))))
  (Ac (eg (AW R B g rfl (AB Ix AH)) (LD (Gp rfl (Bq (Ay (i:=3) sc.nd rfl (Or.inr rfl)) (Bq (Ay (i:=4) sc.nd rfl By) FY)))))))
  C7)
 (AU (FE (DW.dt (Nb (CO Jd (AD (pv 3)) AO (A6 _)) (Nb (CO Pl (AD (pv 3)) AO (A6 _)) (LS (CO Pl (EH Jp rfl Bs aj (AB (B8 Ix AO Da) AH)) AO (A6 _))))))
  (Ac (Bk (cP Jd (AD (pv 3)) AO (A6 _))))
  C7)
 (AU (Bx (i:=5) sc.nd rfl By (AW EI FW g rfl (AB Ix (AB (AD (pv 3)) AH))))
 (AU (Bx (i:=6) sc.nd rfl By (AW R B g rfl (AB (AD (pv 5)) AH)))
 (AU (FE (DW.dt (Nb (CO (Nn (by have:=g.units;exact this)) (AD (pv 6)) (AW IH Kb g rfl (AB (AD (pv 5)) AH)) (A6 _)) (LS (CO Jd (B8 (AD (pv 6)) AO Da) (BD Cq (AD (pv 3)) AO) (A6 _)))))
  (Ac (Bk Zi))
  C7)
 (AU (FE (CO (Nn (by have:=g.units;exact this)) (HV [".0","_law_one"] 1 [none,none] (DC (AW T I g rfl (AB (AD (pv 5)) (AB (BD Cq (AD (pv 3)) AO) AH)))) (fun _ _ _ _ _=>(jU (CO (Nn (by have:=g.units;exact this)) Gm (Cf (AB AO (AB AO AH))) (A6 _)))) (fun _ _ _ _ _=>(AD (pv 1)))) (Ms AH) (A6 _))
  (Ac (Bk Zi))
  C7)
 (AU (Bx (i:=7) sc.nd rfl By (AW Dl EY g rfl (AB Ix (AB (Cf (AB AO (AB AO AH))) AH))))
 (AU (Bx (i:=8) sc.nd rfl By (AW T I g rfl (AB Ix (AB (BD Cq (AD (pv 3)) AO) AH))))
 (AU (Zv (i:=9) [".0","_law_one","_law_many"] 1 [none,none,some 3] sc.nd rfl rfl (DC (AD (pv 8))) (fun _ _ _ _ _=>En) (fun _ _ _ _ _=>(AW CT CF g rfl (AB Gm (AB (Cf (AB AO (AB (BD kQ AO Ix) AH))) AH)))))
 (Ac (Bk (cP (Z2 (by have:=g.units;exact this)) (AW T I g rfl (AB (AW Di Eb g rfl (AB (AD (pv 7)) (AB (AD (pv 7)) AH))) (AB (BD Cq (AD (pv 3)) AO) AH))) (AD (pv 9)) (A6 _)))))))))))))))))
end
mutual
theorem Zl{H:Hp}:∀ {d:IR} {v:V},d.canLay0=true->Du H d v->DU H d v
 |.none,_,_,h=>by rw[Du]at h;subst h;exact .CL
 |.bool _,_,_,h=>by rw[Du]at h;subst h;exact .bool
 |.int _,_,_,h=>by rw[Du]at h;subst h;exact .int
 |.str _,_,_,h=>by rw[Du]at h;subst h;exact .str
 |.tuple _,_,c,h=>by
  rw[Du]at h;obtain⟨a,xs,rfl,B,g⟩:=h;exact .tup B (Tn (by simpa only[PyData.canLay0]using c) g)
 |.list _,_,c,h=>by
  rw[Du]at h;obtain⟨a,xs,rfl,B,g⟩:=h;exact .lst B (Tn (by simpa only[PyData.canLay0]using c) g)
 |.dict _,_,c,h=>by simp[PyData.canLay0]at c
theorem Tn{H:Hp}:∀ {ds:Ch} {xs:Fa},PyData.canLayAll0 ds=true->A4 H ds xs->Bv H ds xs
 |[],_,_,h=>by rw[h.nil_eq];exact .nil
 |_::_,_,c,h=>by
  obtain⟨x,r,rfl,B,g⟩:=h.un;simp only[PyData.canLayAll0,Bool.and_eq_true]at c;exact .cons (Zl c.1 B) (Tn c.2 g)
end
theorem qh{G H H':Hp}{l:Addr}{vs:Fa}{ds:Ch}(I:AN G H)(e:AN H H')(B:H' l=some (.tup vs))(d:A4 G ds vs):∃g,AN G g/\Nw G H g/\AN g H'/\Du g (.tuple ds) (.ref l):=by
 have e1:AN G (upd G l (.tup vs)):=fun a o h=>by
  by_cases ha:a=l
  .subst ha;have:=e _ _ (I _ _ h);rw[B]at this;rw[AM];exact this
  .rw[AR ha];exact h
 refine⟨upd G l (.tup vs),e1,fun a u h=>?_,fun a u h=>?_,?_⟩
 .by_cases ha:a=l
  .subst ha;rw[AM]at h;cases h;exact .inr (.inr ⟨_,rfl⟩)
  .rw[AR ha]at h;exact .inl h
 .by_cases ha:a=l
  .subst ha;rw[AM]at h;rw[B];exact h
  .rw[AR ha]at h;exact e _ _ (I _ _ h)
 .rw[Du];exact⟨l,vs,rfl,AM,d.same e1⟩
theorem Qg{G:Hp}:∀ps:List Int,A4 G (ps.map .int) (ps.map V.int)
 |[]=>.nil
 |p::ps=>.cons (by rw[Du]) (Qg ps)
section
variable{P:G8}{w:Id}{K:At}{mg:Eu}{base:Heap}{CX:JC}{k:Nat}{f:Addr}{fd:GE}{ps:KP}
def mB(q:PyData->Bool):List PyData->Option PyData
 |[d]=>if d.canLay0=true then some (.bool (q d)) else none
 |_=>none
theorem qU{q:PyData->Bool}{d:IR}(h:d.canLay0=true):mB q [d]=some (.bool (q d)):=if_pos h
theorem tG{q:PyData->Bool}{d:IR}{b:Bool}(h:d.canLay0=true)(e:q d=b):mB q [d]=some (.bool b):=(qU h).trans (by rw[e])
theorem uE{sp:Sp}{q:PyData->Bool}(F:AL P w K mg base CX k f fd ps sp)(h:∀(l:Addr) d v H Q E,Dt l H d v->(∀H',AN H H'->Q (.bl (q d)) H')->sp [v] H Q E):AL P w K mg base CX k f fd ps (A3 (mB q)) :=
 PV F fun R x hm G H vs Q E d e B=>by
  unfold mB at hm;split at hm
  .split at hm
   .rename_i dd I;cases hm;obtain⟨v,rfl,d1⟩:=d.Iw;obtain⟨N,b⟩:=Zl I (d1.same e);exact h N _ v H Q E (b N (aH _)) fun H' g=>B _ G H' (.refl _) Nw.refl (e.trans g) g (by rw[Du])
   .cases hm
  .cases hm
end
theorem V3:∀ps:List Int,PyData.canLayAll0 (ps.map .int)=true
 |[]=>by simp[PyData.canLayAll0]
 |p::ps=>by rw[(CI)];simp only[PyData.canLayAll0,PyData.canLay0];rw[V3 ps];rfl
def ZF:PyData->Rat
 |.tuple [.int a,.int b]=>Rat.divInt a b
 |_=>0
theorem gR(r:Rat):ZF (AK r)=r:=FM.EV r
theorem ja(r:Rat):(AK r).canLay0=true:=by unfold AK;simp only[PyData.canLay0];exact V3 [r.num,(r.den:Int)]
section
variable{P:G8}{w:Id}{K:At}{mg:Eu}{base:Heap}{CX:JC}{k:Nat}{f:Addr}{fd:GE}{ps:KP}
def Wh(ds:Ch):Option PyData:=match ds with
 |[.int t,.int b]=>if b≠0/\b.natAbs<2^400 then some (AK (Rat.divInt t b)) else none
 |_=>none
theorem mL(F:AL P w K mg base CX k f fd ps RE):AL P w K mg base CX k f fd ps (A3 Wh) :=
 PV F fun ds x hm G H vs Q E d e Z=>by
  unfold Wh at hm;split at hm
  .split at hm
   .rename_i B;cases hm;obtain⟨v1,v2,rfl,d1,d2⟩:=d.RO;rw[Du]at d1 d2;subst d1 d2;refine⟨_,_,400,rfl,B.1,by decide,B.2,fun l H' I g=>?_⟩;obtain⟨G',Y,U,T,R⟩:=qh e I g (Qg [(Rat.divInt _ _).num,((Rat.divInt _ _).den:Int)]);exact Z _ G' H' Y U T I R
   .cases hm
  .cases hm
end
theorem Vk{n:Nat}{ds:Ch}(h:∀d∈ds,Ok n d):bx n ds:=by
 induction ds with
 |nil=>exact⟨by simp[PyData.canLayAll0],by simp[PyData.depthAll]⟩
 |cons d ds g=>
  obtain⟨a,b⟩:=h d (.head _);obtain⟨I,R⟩:=g fun e B=>h e (.tail _ B);exact⟨by simp only[PyData.canLayAll0];rw[a,I];rfl,by simp only[PyData.depthAll];lia⟩
theorem lO{n:Nat}{ds:Ch}(h:∀d∈ds,Ok n d):Ok (n+1) (.list ds):=.lst (Vk h)
theorem tJ{n:Nat}{ds:Ch}(h:∀d∈ds,Ok n d):Ok (n+1) (.tuple ds):=.tup (Vk h)
theorem WS(r:Rat):Ok 1 (AK r):=tJ (n:=0) fun d hd=>by
 rcases aQ.mp hd with rfl|hd
 .exact .int
 .rw[List.mem_singleton.mp hd];exact .int
theorem ne_self{x:IR}{n:Nat}(h:Ok n x)(hn:n<=64):Ez true x x=some (.bool false):=by
 refine(if_pos ⟨h.shaped hn,h.shaped hn⟩).trans ?_;rw[Nj x h.1];rfl
theorem iG{x:IR}{n:Nat}(h:Ok n x)(hn:n<=64):Ez false x x=some (.bool true):=by
 refine(if_pos ⟨h.shaped hn,h.shaped hn⟩).trans ?_;rw[Nj x h.1];rfl
theorem YX(x y:Int):Ez false (.int x) (.int y)=some (.bool (decide (x=y))):=by
 have h:SeqAt.shaped (.int x)=true/\SeqAt.shaped (.int y)=true:=⟨(Ok.int (n:=0)).shaped As,(Ok.int (n:=0)).shaped As⟩;refine(if_pos h).trans ?_;simp[PyData.eqv];exact Bool.eq_iff_iff.mpr CH
theorem oO{i:Nat}{f g:FB}{δ:Dv}{y:IR}{p:Nat}{xs:Ch}(h:f δ=some y)(k:g δ=some (.int (p:Nat)))(o:ow i δ=some xs)(B:p<xs.length):WB i f g δ=some (.nx (δ.set i (.own (.lst (xs.set p y))))):=by
 show(f δ).bind _=_;rw[h];show(g δ).bind _=_;rw[k];show(ow i δ).bind _=_;rw[o];show(LJ xs.length (p:Int)).map _=_;have:LJ xs.length (p:Int)=some p:=by
  unfold LJ;rw[if_pos AS]
  first|rfl|(rw[if_pos AS];simp)|simp[B]
 rw[this];rfl
theorem Qf{i j:Int}{n:Nat}(B:i.natAbs<2^n)(g:j.natAbs<2^n)(hn:n<=9000):Ef (.int i) (.int j)=some (.int (i*j)):=eh (by
 unfold Po;rw[Rq (n:=9000) (aI B (aS As hn)),Rq (n:=9000) (aI g (aS As hn))];simp)
theorem div_is{i j:Int}(h:0<j)(g:j.natAbs<2^64):gL (.int i) (.int j)=some (.int (i / j)):=by
 refine(if_pos ⟨by lia,Rq (aI g (aS As As))⟩).trans ?_;rw[Int.fdiv_eq_ediv_of_nonneg _ AS]
theorem Ov{t b:Int}(h:b≠0)(g:b.natAbs<2^400):Wh [.int t,.int b]=some (AK (Rat.divInt t b)):=if_pos ⟨h,g⟩
theorem Mh:∀ts:List Tr,L2.BB (Tr.of ts)=ts.map fun t=>.tuple (L2.BB t)
 |[]=>rfl
 |t::ts=>by rw[(CI),<-Mh ts];rfl
abbrev tD(t:Tr):PyData:=.tuple (L2.BB t)
theorem kX{ix:Nat}{f:FB}{g:Dv->Option Bool}{fs:Fp}{fr:Iv}{xs:Ch}{δ:Dv}(R:fs δ=some xs)(h:∀x∈xs,g ((EC fr δ).set ix (.d x))=some false):Dq (Cg ix) g f fr fs δ=some (.list []):=by
 unfold Dq FT;rw[R,(Gq)];have:∀xs:List PyData,(∀x∈xs,g ((EC fr δ).set ix (.d x))=some false)->L2.collect (NS (Cg ix) g f (EC fr δ)) xs=some []:=fun xs=>by
  induction xs with
  |nil=>intro _;rfl
  |cons x xs B=>
   intro h;unfold L2.collect;rw[B fun y I=>h y (.tail _ I)];have e:NS (Cg ix) g f (EC fr δ) x=some none:=by
    unfold NS Cg;rw[(Gq)];show(g _).bind _=_;rw[h x (.head _),(Gq),if_neg As]
   rw[e];rfl
 rw[this xs h,(Gq)]
 rfl
def Av:Nat->List Tr
 |0=>[]
 |n+1=>Av n++TH.tz n
theorem fx(p q:Rat):PyData.eqv (AK p) (AK q)=decide (p=q):=by
 by_cases h:p=q
 .subst h;rw[decide_eq_true rfl];exact Nj _ (ja p)
 .rw[decide_eq_false h];refine ar.mpr fun z=>h ?_;unfold AK at z;simp[PyData.eqv,PyData.eqvAll]at z;exact FM.ky z.1 AS
theorem Pp(p q:Rat):Ez true (AK p) (AK q)=some (.bool (!decide (p=q))):=by
 refine(if_pos ⟨(WS p).shaped As,(WS q).shaped As⟩).trans ?_;rw[fx];rfl
theorem Yb(t:Tb):(AY t).canLay0=true:=by
 have f:∀r:List Rat,PyData.canLayAll0 (Ag r)=true:=fun r=>by
  induction r with
  |nil=>rfl
  |cons q r B=>show PyData.canLayAll0 (AK q::Ag r)=true;simp[PyData.canLayAll0,B,AK,PyData.canLay0]
 have g:∀rs:List (List Rat),PyData.canLayAll0 (A2 rs)=true:=fun rs=>by
  induction rs with
  |nil=>rfl
  |cons r rs B=>show PyData.canLayAll0 (BB r::A2 rs)=true;simp[PyData.canLayAll0,B,BB,PyData.canLay0,f]
 simp[AY,PyData.canLay0,PyData.canLayAll0,f,g]
def JS(G H H':Hp):Hp:=fun b=>match H' b with
 |some (.tup xs)=>some (.tup xs)
 |some o=>if H b=none then some o else G b
 |none=>none
theorem eK{G H H':Hp}{a:Addr}{xs:Fa}(h:H' a=some (.tup xs)):JS G H H' a=some (.tup xs):=by unfold JS;rw[h]
theorem RU{G H H':Hp}{a:Addr}{xs:Fa}(h:H' a=some (.lst xs))(h0:H a=none):JS G H H' a=some (.lst xs):=by unfold JS;rw[h];exact if_pos h0
theorem TN{G H H':Hp}(B:AN G H)(e:AN H H'):AN G (JS G H H')/\Nw G H (JS G H H')/\AN (JS G H H') H':=by
 refine⟨fun a o h=>?_,fun a o h=>?_,fun a o h=>?_⟩
 .have g:=B _ _ h;have I:=e _ _ g;unfold JS;rw[I];cases o with
  |tup xs=>rfl
  |_=>simp only[g];exact h
 .unfold JS at h;split at h
  .cases h;exact .inr (.inr ⟨_,rfl⟩)
  .split at h
   .rename_i z;exact .inr (.inl z)
   .exact .inl h
  .cases h
 .unfold JS at h;cases z:H' a with
  |none=>rw[z]at h;cases h
  |some u=>
   rw[z]at h;cases u with
   |tup xs=>exact h
   |_=>
    simp only at h;split at h
    .exact h
    .rw[<-z];exact e _ _ (B _ _ h)
theorem Kh{G H H':Hp}:∀ {g:List Rat} {xs:Fa},Bv H' (Ag g) xs->A4 (JS G H H') (Ag g) xs
 |[],xs,h=>by
  have:=h.len;have e:xs=[]:=bY (by simpa[Ag]using this);rw[e];exact .nil
 |q::g,xs,h=>by
  obtain⟨x,r,rfl,R,I⟩:=Bv.iR (d:=AK q) (ds:=Ag g) h;obtain⟨p,rfl,B⟩:=R.rat;refine .cons ?_ (Kh I);unfold AK;rw[Du];exact⟨p,_,rfl,eK B,Qg [q.num,(q.den:Int)]⟩
def EL(t:Tb):List (List Rat):=t.rs++[t.ls]
theorem SK(t:Tb):(EL t)[t.rs.length]? = some t.ls:=by
 unfold EL;rw[List.getElem?_append_right (aH _),Nat.sub_self];rfl
theorem UC{t:Tb}{m:Nat}(h:t.Ok m){i:Nat}{row:List Rat}(e:(EL t)[i]? = some row):row.length=i/\i<=t.rs.length:=by
 by_cases z:i<t.rs.length
 .unfold EL at e;rw[List.getElem?_append_left z]at e;exact⟨h.row i row e,by lia⟩
 .have g:=(aD.mp e).1;unfold EL at g;rw[(Dk),List.length_singleton]at g;have:i=t.rs.length:=by lia
  subst this;rw[SK]at e;cases e;exact⟨h.last,Nat.le_refl _⟩
theorem YQ{t:Tb}{n:Nat}(h:t.Fits n){m:Nat}(o:t.Ok m):1<=Cd t/\(Cd t).natAbs<2^(1+n*(m+m*m))/\∀r∈EL t,∀q∈r,(q.den:Int) ∣ Cd t:=by
 obtain⟨U,T,R⟩:=kN (OX h t.rs.length);have I:=PM o t.rs.length (aH _);have hm:=o.most;refine⟨U,Nat.lt_of_lt_of_le T (aS As ?_),fun r g q B=>R _ ?_⟩
 .have:t.rs.length+t.rs.length*t.rs.length<=m+m*m:=Nat.add_le_add hm (Nat.mul_le_mul hm hm);have:=bZ n (aR I this)
  lia
 .unfold Fx;rw[(NP)];rcases aU.mp g with g|g
  .exact ae _ (List.mem_flatten.mpr ⟨Fy r,List.mem_map.mpr ⟨r,g,rfl⟩,List.mem_map.mpr ⟨q,B,rfl⟩⟩)
  .rw[List.mem_singleton.mp g]at B;exact List.mem_append_left _ (aK.mpr ⟨q,B,rfl⟩)
def U9:Option Tr->PyData
 |none=>.none
 |some t=>tD t
def SY:List Tr->List Rat->List Rat->Option Tr
 |t::ts,w::g,v::vs=>if w=v then SY ts g vs else some t
 |_,_,_=>none
abbrev Mk:DF:=Fv (Bg (Ez true) (nm 4) (nm 5)) (CA (nm 3)) DH
abbrev X0(ts:List Tr)(g vs:List Rat)(δ:Dv):Option Ou:=De (Wx 3 4 5) Mk (Lm (ts.map tD) (g.map AK) (vs.map AK)) δ
theorem WX{t:Tr}{ts:List Tr}{w v:Rat}{B vs:List Rat}(a b c d e f:L)(h:w=v):X0 (t::ts) (w::B) (v::vs) [a,b,c,d,e,f]=X0 ts B vs [a,b,c,.d (tD t),.d (AK w),.d (AK v)]:=by
 have e1:Mk [a,b,c,.d (tD t),.d (AK w),.d (AK v)]=some (.nx [a,b,c,.d (tD t),.d (AK w),.d (AK v)]):=GX (C8 (x:=AK w) (y:=AK v) rfl rfl ((Pp w v).trans (by rw[decide_eq_true h];rfl))) rfl;show(match Mk [a,b,c,.d (tD t),.d (AK w),.d (AK v)]with|some (.nx g)=>_|some (.ct g)=>_|some (.bk g)=>_|some (.rt x)=>_|some (.rn x)=>_|none=>_)=_;rw[e1];rfl
theorem dQ{t:Tr}{ts:List Tr}{w v:Rat}{B vs:List Rat}(a b c d e f:L)(h:w≠v):X0 (t::ts) (w::B) (v::vs) [a,b,c,d,e,f]=some (.rt (tD t)):=by
 have e1:Mk [a,b,c,.d (tD t),.d (AK w),.d (AK v)]=some (.rt (tD t)):=NZ (C8 (x:=AK w) (y:=AK v) rfl rfl ((Pp w v).trans (by rw[decide_eq_false h];rfl))) rfl;show(match Mk [a,b,c,.d (tD t),.d (AK w),.d (AK v)]with|some (.nx g)=>_|some (.ct g)=>_|some (.bk g)=>_|some (.rt x)=>_|some (.rn x)=>_|none=>_)=_;rw[e1]
theorem Yo:∀ {ts:List Tr} {g vs:List Rat} {t:Tr} (a b c d e f:L),SY ts g vs=some t->X0 ts g vs [a,b,c,d,e,f]=some (.rt (tD t))
 |[],_,_,_,_,_,_,_,_,_,h=>by cases h
 |_::_,[],[],_,_,_,_,_,_,_,h=>by cases h
 |_::_,[],_::_,_,_,_,_,_,_,_,h=>by cases h
 |_::_,_::_,[],_,_,_,_,_,_,_,h=>by cases h
 |s::ts,w::g,v::vs,t,a,b,c,d,e,f,h=>by
  unfold SY at h;split at h
  .rename_i z;rw[WX a b c d e f z];exact Yo a b c _ _ _ h
  .rename_i z;cases h;exact dQ a b c d e f z
theorem YR:∀ {ts:List Tr} {g vs:List Rat} (a b c d e f:L),SY ts g vs=none->∃δ',X0 ts g vs [a,b,c,d,e,f]=some (.nx δ')
 |[],_,_,_,_,_,_,_,_,_=>⟨_,rfl⟩
 |_::_,[],[],_,_,_,_,_,_,_=>⟨_,rfl⟩
 |_::_,[],_::_,_,_,_,_,_,_,_=>⟨_,rfl⟩
 |_::_,_::_,[],_,_,_,_,_,_,_=>⟨_,rfl⟩
 |s::ts,w::g,v::vs,a,b,c,d,e,f,h=>by
  unfold SY at h;split at h
  .rename_i z;rw[WX a b c d e f z];exact YR a b c _ _ _ h
  .cases h
abbrev ID(g:List Rat):PyData:=.list (g.map AK)
abbrev Hd(ts:List Tr):PyData:=.list (L2.BB (Tr.of ts))
theorem first_is(ts:List Tr)(g vs:List Rat)(U:ts.length<=g.length)(T:ts.length<=vs.length):B4 [Hd ts,ID g,ID vs]=some (U9 (SY ts g vs)):=by
 refine DY rfl ?_;unfold NB;have R:Cj TF (AA JB (AA (nm 1) (AA (nm 2) AG))) [.d (Hd ts),.d (ID g),.d (ID vs),.no,.no,.no]=some (Lm (ts.map tD) (g.map AK) (vs.map AK)):=by
  show(if(L2.BB (Tr.of ts)).length<=(g.map AK).length/\(L2.BB (Tr.of ts)).length<=(vs.map AK).length then some (Lm (L2.BB (Tr.of ts)) (g.map AK) (vs.map AK)) else none)=_;rw[Mh,if_pos ⟨by rw[(BW),(BW)];exact U,by rw[(BW),(BW)];exact T⟩]
 have B:DR (Cj TF (AA JB (AA (nm 1) (AA (nm 2) AG)))) (Wx 3 4 5) Mk [.d (Hd ts),.d (ID g),.d (ID vs),.no,.no,.no]=X0 ts g vs [.d (Hd ts),.d (ID g),.d (ID vs),.no,.no,.no]:=by
  show(Cj TF _ _).bind _=_;rw[R];rfl
 cases h:SY ts g vs with
 |some t=>exact NC (B.trans (Yo _ _ _ _ _ _ h))
 |none=>
  obtain⟨I,k⟩:=YR (.d (Hd ts)) (.d (ID g)) (.d (ID vs)) .no .no .no h;exact Ah (B.trans k) rfl
theorem LZ{α:Type}{i:Nat}{f:FB}{fs:Fp}{δ:Dv}{fr:Iv}{zs:List α}{a g:α->PyData}(R:fs δ=some (zs.map a))(T:zs.length<=Ci)
 (h:∀z∈zs,f ((EC fr δ).set i (.d (a z)))=some (g z)):FT (Cg i) FL f fr fs δ=some (zs.map g):=by
 unfold FT;rw[R,(Gq)];have:∀zs:List α,(∀z∈zs,f ((EC fr δ).set i (.d (a z)))=some (g z))->L2.collect (NS (Cg i) FL f (EC fr δ)) (zs.map a)=some (zs.map g):=fun zs=>by
  induction zs with
  |nil=>intro _;rfl
  |cons z zs B=>
   intro h;rw[(CI),(CI)];unfold L2.collect;rw[B fun y I=>h y (.tail _ I)];have e:NS (Cg i) FL f (EC fr δ) (a z)=some (some (g z)):=by
    unfold NS Cg;rw[(Gq)];show(some true).bind _=_;rw[(Gq),if_pos rfl,h z (.head _)]
    rfl
   rw[e];rfl
 rw[this zs h,(Gq),I0,if_pos (by rw[(BW)];exact T)]
theorem Tq{set:KM}{F:DF}(I:Dv->Prop)(g:PyData->Option PyData):∀(xs:Ch) (δ:Dv),I δ->(∀x∈xs,∀δ,I δ->∃δ1,set x δ=some δ1/\((∃r,g x=some r/\F δ1=some (.rt r))\/(g x=none/\∃B,F δ1=some (.nx B)/\I B))) ->
  (∃r,xs.findSome? g=some r/\De set F xs δ=some (.rt r))\/(xs.findSome? g=none/\∃δ',De set F xs δ=some (.nx δ')/\I δ')
 |[],δ,h,_=>.inr ⟨rfl,δ,rfl,h⟩
 |x::xs,δ,h,k=>by
  obtain⟨δ1,U,h2⟩:=k x (.head _) δ h;rcases h2 with ⟨r,T,R⟩|⟨T,B,R,Z⟩
  .refine .inl ⟨r,by rw[List.findSome?_cons,T],?_⟩;unfold De;rw[U,(Gq),R]
  .have e:(x::xs).findSome? g=xs.findSome? g:=by rw[List.findSome?_cons,T]
   have e2:De set F (x::xs) δ=De set F xs B:=by
    rw[De,U,(Gq),R]
   rw[e,e2];exact Tq I g xs B Z fun y Y=>k y (.tail _ Y)
theorem UX{set:KM}{F F2:DF}{fs:Fp}{δ:Dv}{xs:Ch}{z:IR}(I:Dv->Prop)(g:PyData->Option PyData)(U:fs δ=some xs)(h0:I δ)(Y:∀x∈xs,∀δ,I δ->∃δ1,set x δ=some δ1/\((∃r,g x=some r/\F δ1=some (.rt r))\/(g x=none/\∃B,F δ1=some (.nx B)/\I B)))
 (k:∀δ',I δ'->F2 δ'=some (.rt z)):Ai (DR fs set F) F2 δ=some (.rt ((xs.findSome? g).getD z)):=by
 have e:DR fs set F δ=De set F xs δ:=by show(fs δ).bind _=_;rw[U];rfl
 rcases Tq (F:=F) I g xs δ h0 Y with ⟨r,T,R⟩|⟨T,δ',R,Z⟩
 .rw[T];exact NC (e.trans R)
 .rw[T];exact Ah (e.trans R) (k δ' Z)
theorem PX:∀t:Tr,E2 (L2.BB t)=some t
 |.nil=>by rw[L2.BB,E2]
 |.cons b r=>by rw[L2.BB,E2,MA,PX b,PX r];rfl
def JE:PyData->List Rat
 |.list xs=>xs.map ZF
 |_=>[]
theorem RZ(r:List Rat):JE (.list (Ag r))=r:=by
 unfold JE Ag;show List.map ZF (r.map AK)=r;rw[(Hc)];exact List.map_id'' (fun q=>gR q) r
def tabOf:PyData->Tb
 |.tuple [.list rs,d]=>⟨rs.map JE,JE d⟩
 |_=>⟨[],[]⟩
theorem Qw(t:Tb):tabOf (AY t)=t:=by
 unfold AY tabOf;have e:(A2 t.rs).map JE=t.rs:=by
  unfold A2;rw[(Hc)];exact List.map_id'' (fun r=>RZ r) t.rs
 show Tb.mk ((A2 t.rs).map JE) (JE (.list (Ag t.ls)))=t;rw[e,RZ]
theorem dB:((Av 6).all fun t=>(Av 6).all fun u=>decide (TH.CK (some u)≠TH.CK (some t))||decide (u=t))=true:=by decide +kernel
theorem UQ:∀u∈Av 6,u.gV=true/\u.deep<8/\u.AE<=6/\∀b∈u.bs,b∈Av 6:=by decide +kernel
theorem rS:Y0 (Av 6) 1000:=⟨by decide +kernel,fun a ha b B e=>by
 have:=az.mp (az.mp dB b B) a ha;rw[Bool.or_eq_true]at this;rcases this with h|h
 .exact absurd e (ah h)
 .exact ah h,fun t g=>(UQ t g).2.2.2,fun t g=>(UQ t g).2.1,fun t g=>by have:=(UQ t g).2.2.1;lia⟩
def Tb.Wu(t:Tb):Prop:=∃m n k:Nat,t.Ok m/\m<=40/\t.Fits n/\oE t/\LQ (BI t) 1000/\(Cd t).natAbs<2^k/\n+k<=4000/\1<=Cd t/\k*6<=4000
theorem fU{t:Tb}{m n k:Nat}(o:t.Ok m)(hm:m<=40)(h:t.Fits n)(b1:1<=Cd t)(b2:(Cd t).natAbs<2^k)(b3:∀r∈EL t,∀q∈r,(q.den:Int) ∣ Cd t)(T:n+k+6<=1000):LQ (BI t) 1000:=by
 have Z:=o.most;have Y:(BI t).length=t.rs.length+1:=by unfold BI;rw[(BW),(Dk)];rfl
 have one:∀row∈BI t,row.length<=40/\row.length<=t.rs.length:=fun row g=>by
  unfold BI at g;obtain⟨r,B,rfl⟩:=aK.mp g;have e:(GY r (Cd t)).length=r.length:=bL _;rw[e];obtain⟨i,hi⟩:=List.getElem?_of_mem B;have:=UC o (show(EL t)[i]? = some r from hi)
  lia
 refine⟨by lia,fun row g=>by have:=one row g;lia,2^(n+k),fun row g x U=>?_,Nat.pow_le_pow_right As AS,fun row g=>aR (Nat.mul_le_mul_right _ (aR (one row g).1 (show 40<=2^6 by decide))) ?_⟩
 .unfold BI at g;obtain⟨r,B,rfl⟩:=aK.mp g;unfold GY at U;obtain⟨q,I,rfl⟩:=aK.mp U;have f:FM.Fits q n:=by
   rcases aU.mp B with g|g
   .exact h.1 r g q I
   .rw[List.mem_singleton.mp g]at I;exact h.2 q I
  obtain⟨c,T⟩:=b3 r B q I;have hd:(q.den:Int)≠0:=by have:=q.den_nz;lia
  have e:(Cd t).fdiv (q.den:Int)=c:=by rw[T,Int.mul_fdiv_cancel_left _ hd]
  have R:c.natAbs<=(Cd t).natAbs:=by
   rw[T,(Q6)];exact Nat.le_mul_of_pos_left _ (by have:=q.den_nz;lia)
  rw[e,(Q6),Nat.pow_add];exact Nat.mul_le_mul (av f.1) (aR R (av b2))
 .rw[<-Nat.pow_add];exact aS As AS
theorem sj{t:Tb}{m n k:Nat}(o:t.Ok m)(hm:m<=40)(h:t.Fits n){D:Int}(hd:∀b∈Fx t t.rs.length,b ∣ D)(I:1<=D)(g:D.natAbs<2^k)(hn:n+k<=600):t.Wu:=by
 obtain⟨b1,b2⟩:=QX (D:=D) (bs:=Fx t t.rs.length) (c:=1) As (Int.one_dvd D) fun b B=>⟨(OX h t.rs.length b B).1,hd b B⟩;have b1:1<=Cd t:=b1;have b3:(Cd t).natAbs<2^k:=aP (Nat.le_of_dvd AS (bN.mpr b2)) g;exact⟨m,n,k,o,hm,h,⟨D,k,hd,I,g,by lia⟩,fU o hm h b1 b3 (YQ h o).2.2 AS,b3,by lia,b1,by lia⟩
open Classical in
noncomputable def US(ds:Ch):Option PyData:=match ds with
 |[x,.list ys]=>if x=AY (tabOf x)/\(tabOf x).Wu/\ys=L2.BB ((E2 ys).getD .nil)/\(∀u∈((E2 ys).getD .nil).bs,u∈Av 6)/\ys.length<=1000 then some (ID (((E2 ys).getD .nil).bs.map (Hm (tabOf x)))) else none
 |_=>none
theorem ee{t:Tb}(h:t.Wu){ts:List Tr}(B:∀u∈ts,u∈Av 6)(I:ts.length<=1000):US [AY t,Hd ts]=some (ID (ts.map (Hm t))):=by
 unfold US;have e:(E2 (L2.BB (Tr.of ts))).getD .nil=Tr.of ts:=by rw[PX];rfl
 refine(if_pos ⟨by rw[Qw],by rw[Qw];exact h,by rw[e],fun u g=>B u (by rw[e,Tr.Rf]at g;exact g),by rw[Mh,(BW)];exact I⟩).trans ?_;rw[Qw,e,Tr.Rf]
theorem tX{P:G8}{w:Id}{K:At}{mg:Eu}{base:Heap}{f:Addr}{fd:GE}{k:Nat}{ps:KP}(F:AL P w K mg base Ad k f fd ps (ny (Av 6) 1000)):AL P w K mg base Ad k f fd ps (A3 US) :=
 PV F fun ds x hm G H vs Q E d e R=>by
  unfold US at hm;split at hm
  .rename_i tx ys;split at hm
   .rename_i hc;obtain⟨c1,⟨m,n,kb,w1,w2,w3,w4,w5,w6,w7,Z,w9⟩,c3,c4,c5⟩:=hc;cases hm;generalize tabOf tx=t at c1 w1 w3 w4 w5 w6 Z R;subst c1;generalize (E2 ys).getD .nil=T at c3 c4 R;subst c3;obtain⟨v1,v2,rfl,d1,d2⟩:=d.RO;rw[Du]at d2;obtain⟨L,B,rfl,hL,I⟩:=d2;have ts:=(Oi I).same e;have g:B.length=T.bs.length:=ts.len;have U:T.bs.length<=1000:=by
     rw[<-g,I.len];exact c5
    refine⟨v1,t,L,B,T.bs,m,n,kb,rfl,Zl (Yb t) (d1.same e),w1,w2,w3,w4,w5,w6,w7,Z,e _ _ hL,g,U,fun i x hx=>?_,fun D H' zs e' hD Y dz=>?_⟩
    .obtain⟨u,hu,tu⟩:=ts.get hx;have hm:=c4 u (aT hu);have h6:=(UQ u hm).2.2.1;exact⟨u,hu,tu,hm,by lia,Nat.le_trans (bZ _ h6) w9⟩
    .obtain⟨n1,n2,n3⟩:=TN e e';refine R (.ref D) _ H' n1 n2 n3 e' ?_;rw[Du];exact⟨D,zs,rfl,RU Y hD,Kh dz⟩
   .cases hm
  .cases hm
abbrev rp:List PyData->Option PyData:=BH A7 9
abbrev YG:List PyData->Option PyData:=CD rp
theorem Si:(List.range 6).map (fun k=>YG [.int ((k+1:Nat):Int)])=(List.range 6).map fun k=>some (Hd (TH.tz k)):=by kernel_rfl
theorem of_is{k:Nat}(h:k<6):YG [.int ((k+1:Nat):Int)]=some (Hd (TH.tz k)):=bK.mp Si k (bD.mpr h)
def lK:Tr->Nat
 |.nil=>1
 |.cons b r=>b.AE*lK b*lK r
def Uh(u:Tr):Nat:=u.AE*lK u
abbrev SQ:List PyData->Option PyData:=BU (BC 9) 9
theorem hJ:(Av 6).map (fun u=>SQ [tD u])=(Av 6).map fun u=>some (.int ((Uh u:Nat):Int)):=by kernel_rfl
theorem kW{u:Tr}(h:u∈Av 6):SQ [tD u]=some (.int ((Uh u:Nat):Int)):=bK.mp hJ u h
def GK(u:Tr):Rat:=Rat.divInt 1 (Uh u:Nat)
theorem kj:(Av 6).map (fun u=>AK (GK u))=(Av 6).map fun u=>PyData.tuple [.int 1,.int ((Uh u:Nat):Int)]:=by kernel_rfl
theorem il{u:Tr}(h:u∈Av 6):AK (GK u)=.tuple [.int 1,.int ((Uh u:Nat):Int)]:=bK.mp kj u h
abbrev SR:List PyData->Option PyData:=BM SQ
theorem YJ{ts:List Tr}(I:∀u∈ts,u∈Av 6)(R:ts.length<=1000):SR [Hd ts]=some (ID (ts.map GK)):=by
 refine Pg rfl ?_;unfold M1;have e:FT (Cg 1) FL (B9 (AA Do (AA (AI SQ IO) AG))) [none,none] (DK JB) [.d (Hd ts)]=some (ts.map fun u=>AK (GK u)):=by
  refine LZ (zs:=ts) (a:=tD) (g:=fun u=>AK (GK u)) ?_ (aR R (by unfold Ci;lia)) fun u B=>?_
  .show some (L2.BB (Tr.of ts))=_;rw[Mh]
  .rw[il (I u B)];exact Kq (xs:=[.int 1,.int ((Uh u:Nat):Int)]) (Af rfl (Af (AZ (xs:=[tD u]) rfl (kW (I u B))) rfl)) (by show(2:Nat)<=Ci;decide)
 have:U4 (FT (Cg 1) FL (B9 (AA Do (AA (AI SQ IO) AG))) [none,none] (DK JB)) [.d (Hd ts)]=some (.rn (ts.map fun u=>AK (GK u))):=by
  show(FT _ _ _ _ _ _).map _=_;rw[e];rfl
 rw[show(ts.map GK).map AK=ts.map fun u=>AK (GK u) by rw[(Hc)];rfl];exact this
def Df(t:Tb)(u:Tr):Bool:=!decide (Hm t u=GK u)
theorem WJ(f g:Tr->Rat):∀ts:List Tr,SY ts (ts.map f) (ts.map g)=ts.find? fun u=>!decide (f u=g u)
 |[]=>rfl
 |u::ts=>by
  show(if f u=g u then SY ts (ts.map f) (ts.map g) else some u)=_;rw[List.find?_cons,WJ f g ts];by_cases h:f u=g u
  .rw[if_pos h,decide_eq_true h];rfl
  .rw[if_neg h,decide_eq_false h];rfl
def N0(u:Tr):PyData:=.tuple [.int ((u.AE-1:Nat):Int),tD u]
def Hx(t:Tb):PyData:=(((Av 6).find? (Df t)).map N0).getD (.tuple [.int 6,.none])
abbrev SF:List PyData->Option PyData:=AJ (mB Hi)
noncomputable abbrev ZM:List PyData->Option PyData:=CY B4 SF YG SR US
theorem Ys{ps N:KP}{F:DF}{ds:Ch}{δ:Dv}(g:ds.length=ps.length)(h:F (MP N ds)=some (.nx δ)):CM ps N F ds=some .none:=by unfold CM;rw[if_pos g,h]
theorem Jw{t:Tb}{m:Nat}(o:t.Ok m)(hm:m<=40):SF [AY t]=some .none:=by
 have e:mB Hi [AY t]=some (.bool true):=tG (Yb t) (o.is hm);have f:HX (mB Hi) (MP Is [AY t])=some (.nx [.d (AY t)]):=by
  unfold HX;exact GX (j4 (jn (AZ (xs:=[AY t]) rfl e))) rfl
 exact Ys rfl f
def KH(t:Tb)(k:Nat):Option PyData:=((TH.tz k).find? (Df t)).map fun u=>.tuple [.int (k:Nat),tD u]
theorem eX:∀k,k<6->(TH.tz k).length<=100/\∀u∈TH.tz k,u∈Av 6/\u.AE=k+1:=by decide +kernel
theorem j6{k:Nat}(B:k<6)(t:Tb):KH t k=((TH.tz k).find? (Df t)).map N0:=by
 unfold KH;cases h:(TH.tz k).find? (Df t) with
 |none=>rfl
 |some u=>
  have g:=bI h;have:=((eX k B).2 u g).2;show some (PyData.tuple [.int (k:Nat),tD u])=some (N0 u);unfold N0;rw[show u.AE-1=k by lia]
theorem Vc(t:Tb):∀n,n<=6->(List.range n).findSome? (KH t)=((Av n).find? (Df t)).map N0
 |0,_=>rfl
 |n+1,h=>by
  rw[List.range_succ,List.findSome?_append,Vc t n AS,Av,List.find?_append];rw[show([n]:List Nat).findSome? (KH t)=KH t n by rw[List.findSome?_cons];cases KH t n<;>rfl,j6 AS];cases (Av n).find? (Df t)<;>rfl
theorem Qi{t:Tb}(h:t.Wu):ZM [AY t]=some (Hx t):=by
 obtain⟨m,n,k,o,hm,_⟩:=id h;refine DY rfl ?_;unfold N7;refine Ah (δ':=[.d (AY t),.no,.no,.no]) ?_ ?_
 .show(AI SF (AA JB AG) _).map _=_;rw[AZ (xs:=[AY t]) rfl (Jw o hm)];rfl
 have e:=UX (F2:=CA (B9 (AA (fC (.int 6)) (AA (fC .none) AG)))) (set:=HY 1) (F:=(Ai (Ba 2 (AI YG (AA (Ae Ct (nm 1) Do) AG)))
  (Ai (Ba 3 (AI B4 (AA (nm 2) (AA (AI US (AA JB (AA (nm 2) AG))) (AA (AI SR (AA (nm 2) AG)) AG)))))
  (Fv (Bg (iL true) (nm 3) (fC .none))
   (CA (B9 (AA (nm 1) (AA (nm 3) AG))))
   DH)))) (fs:=Cj NT (AA (fC (.int 6)) AG)) (δ:=[.d (AY t),.no,.no,.no]) (xs:=Ib 0 6) (z:=.tuple [.int 6,.none]) (fun δ=>∃R I g:L,δ=[.d (AY t),R,I,g]) (fun x=>match x with|.int i=>KH t i.toNat|_=>none) rfl ⟨_,_,_,rfl⟩ ?_ ?_
 .refine e.trans ?_;have e2:(Ib 0 6).findSome? (fun x=>match x with|.int i=>KH t i.toNat|_=>none)=(List.range 6).findSome? (KH t):=rfl;rw[e2,Vc t 6 (aH _)]
  rfl
 .rintro x Z δ ⟨R,I,g,rfl⟩;obtain⟨i,hi⟩:=List.getElem?_of_mem Z;obtain⟨rfl,B⟩:=YU hi;rw[Int.zero_add];obtain⟨tl,ts⟩:=eX i B;refine⟨_,rfl,?_⟩;have b1:AI YG (AA (Ae Ct (nm 1) Do) AG) [.d (AY t),.d (.int (i:Nat)),I,g]=some (Hd (TH.tz i)):=AZ (xs:=[.int ((i+1:Nat):Int)]) rfl (of_is B);have b2:AI B4 (AA (nm 2) (AA (AI US (AA JB (AA (nm 2) AG))) (AA (AI SR (AA (nm 2) AG)) AG))) [.d (AY t),.d (.int (i:Nat)),.d (Hd (TH.tz i)),g]=some (U9 ((TH.tz i).find? (Df t))):=by
   refine AZ (xs:=[Hd (TH.tz i),ID ((TH.tz i).map (Hm t)),ID ((TH.tz i).map GK)]) (Af rfl (Af (AZ (xs:=[AY t,Hd (TH.tz i)]) rfl (ee h (fun u T=>(ts u T).1) AS)) (Af (AZ (xs:=[Hd (TH.tz i)]) rfl (YJ (fun u T=>(ts u T).1) AS)) rfl))) ?_;rw[first_is _ _ _ (by rw[(BW)];exact aH _) (by rw[(BW)];exact aH _),WJ]
   rfl
  show(∃r,KH t i=some r/\_)\/(KH t i=none/\_);unfold KH;cases U:(TH.tz i).find? (Df t) with
  |some u=>
   rw[U]at b2;refine .inl ⟨_,rfl,Ah (Bu b1) (Ah (Bu b2) (NZ ?_ rfl))⟩
   rfl
  |none=>
   rw[U]at b2;refine .inr ⟨rfl,_,Ah (Bu b1) (Ah (Bu b2) (GX ?_ rfl)),_,_,_,rfl⟩
   rfl
 .rintro δ ⟨R,I,g,rfl⟩
  rfl
def Ak:Nat->(Nat->Rat)->Rat
 |0,_=>0
 |n+1,f=>Ak n f+f n
theorem A8:∀ {n:Nat} {f g:Nat->Rat},(∀j,j<n->f j=g j)->Ak n f=Ak n g
 |0,_,_,_=>rfl
 |n+1,f,g,h=>by rw[Ak,Ak,A8 fun j B=>h j AS,h n AS]
theorem Hy(c:Rat):∀(n:Nat) (f:Nat->Rat),Ak n (fun j=>f j*c)=Ak n f*c
 |0,_=>by rw[Ak,Ak,(L9)]
 |n+1,f=>by rw[Ak,Ak,Hy c n f,Rat.add_mul]
theorem Gu(n:Nat)(f:Nat->Rat):∀m:Nat,Ak (n+m) f=Ak n f+Ak m (fun j=>f (n+j))
 |0=>by rw[Nat.add_zero,Ak,Rat.add_zero]
 |m+1=>by rw[<-Nat.add_assoc,Ak,Ak,Gu n f m,Rat.add_assoc]
theorem Lj:∀(n:Nat),Ak n (fun _=>0)=0
 |0=>rfl
 |n+1=>by rw[Ak,Lj n,Rat.add_zero]
def Al(A:Nat->Nat->Rat)(n:Nat):Tr->Nat->Rat
 |.nil,_=>1
 |.cons b r,k=>Ak n (fun j=>A k j*Al A n b j)*Al A n r k
def wt(A:Nat->Nat->Rat)(n:Nat)(l:Nat->Rat)(t:Tr):Rat:=Ak n fun j=>l j*Al A n t j
def F0(A:Nat->Nat->Rat)(n:Nat)(l:Nat->Rat)(B:Nat->Nat->Rat):Nat->Nat->Rat:=fun k j=>if k<n then(if j<n then A k j else 0) else if j<n then l j else B (k-n) (j-n)
def MF(n:Nat)(l m:Nat->Rat):Nat->Rat:=fun j=>if j<n then l j else m (j-n)
section
variable(A B:Nat->Nat->Rat)(n m:Nat)(l lb:Nat->Rat)
theorem Mt:∀(t:Tr) (k:Nat),k<n->Al (F0 A n l B) (n+m) t k=Al A n t k
 |.nil,k,_=>rfl
 |.cons b r,k,g=>by
  rw[Al,Al,Mt r k g,Gu];have e1:Ak n (fun j=>F0 A n l B k j*Al (F0 A n l B) (n+m) b j)=Ak n (fun j=>A k j*Al A n b j):=A8 fun j I=>by
   rw[Mt b j I];unfold F0;rw[if_pos g,if_pos I]
  have R:Ak m (fun j=>F0 A n l B k (n+j)*Al (F0 A n l B) (n+m) b (n+j))=0:=(A8 fun j _=>by
   unfold F0;rw[if_pos g,if_neg AS,(L9)]).trans (Lj m)
  rw[e1,R,Rat.add_zero]
def QA:Tr->Nat->Rat
 |.nil,_=>1
 |.cons b r,k=>(wt A n l b+Ak m (fun j=>B k j*QA b j))*QA r k
theorem Nh:∀(t:Tr) (k:Nat),Al (F0 A n l B) (n+m) t (n+k)=QA A B n m l t k
 |.nil,k=>rfl
 |.cons b r,k=>by
  rw[Al,QA,Nh r k,Gu]
  congr 2
  .exact A8 fun j g=>by
    rw[Mt A B n m l b j g];unfold F0;rw[if_neg AS,if_pos g]
  .exact A8 fun j _=>by
    rw[Nh b j];unfold F0;rw[if_neg AS,if_neg AS,Nat.add_sub_cancel_left,Nat.add_sub_cancel_left]
theorem nO(t:Tr):wt (F0 A n l B) (n+m) (MF n l lb) t=wt A n l t+Ak m (fun j=>lb j*QA A B n m l t j):=by
 unfold wt;rw[Gu]
 congr 1
 .exact A8 fun j g=>by
   rw[Mt A B n m l t j g];unfold MF;rw[if_pos g]
 .exact A8 fun j _=>by
   rw[Nh A B n m l t j];unfold MF;rw[if_neg AS,Nat.add_sub_cancel_left]
end
def Hb:Tr->List (Tr×List Tr)
 |.nil=>[(.nil,[])]
 |.cons b r=>(Hb r).flatMap fun q=>(q.1,b::q.2)::(Hb b).map fun p=>(.cons p.1 q.1,p.2++q.2)
def B6(f:Tr->Rat):List Tr->Rat
 |[]=>1
 |t::ts=>f t*B6 f ts
theorem Ue(f:Tr->Rat):∀a b:List Tr,B6 f (a++b)=B6 f a*B6 f b
 |[],b=>by rw[List.nil_append,B6,Rat.one_mul]
 |t::a,b=>by rw[List.cons_append,B6,B6,Ue f a b,(MM)]
def Bh{α:Type}(f:α->Rat):List α->Rat
 |[]=>0
 |x::xs=>f x+Bh f xs
theorem VM{α:Type}(f:α->Rat):∀a b:List α,Bh f (a++b)=Bh f a+Bh f b
 |[],b=>by rw[List.nil_append,Bh,Rat.zero_add]
 |x::a,b=>by rw[List.cons_append,Bh,Bh,VM f a b,Rat.add_assoc]
theorem Tx{α B:Type}(f:B->Rat)(g:α->List B):∀l:List α,Bh f (l.flatMap g)=Bh (fun x=>Bh f (g x)) l
 |[]=>rfl
 |x::l=>by rw[List.flatMap_cons,VM,Bh,Tx f g l]
theorem Ve{α B:Type}(f:B->Rat)(g:α->B):∀l:List α,Bh f (l.map g)=Bh (fun x=>f (g x)) l
 |[]=>rfl
 |x::l=>by rw[(CI),Bh,Bh,Ve f g l]
theorem FG{α:Type}{f g:α->Rat}:∀ {l:List α},(∀x∈l,f x=g x)->Bh f l=Bh g l
 |[],_=>rfl
 |x::l,h=>by rw[Bh,Bh,h x (.head _),FG fun y B=>h y (.tail _ B)]
theorem JL{α:Type}(f:α->Rat)(c:Rat):∀l:List α,Bh (fun x=>f x*c) l=Bh f l*c
 |[]=>by rw[Bh,Bh,(L9)]
 |x::l=>by rw[Bh,Bh,JL f c l,Rat.add_mul]
theorem Wa{α:Type}(f g:α->Rat):∀l:List α,Bh (fun x=>f x+g x) l=Bh f l+Bh g l
 |[]=>by rw[Bh,Bh,Bh,Rat.add_zero]
 |x::l=>by rw[Bh,Bh,Bh,Wa f g l];grind
theorem Vd{α:Type}(f:Nat->α->Rat)(l:List α):∀n:Nat,Ak n (fun j=>Bh (f j) l)=Bh (fun x=>Ak n fun j=>f j x) l
 |0=>by
  show(0:Rat)=_
  induction l with
  |nil=>rfl
  |cons x l g=>rw[Bh,<-g];show(0:Rat)=0+0;rw[Rat.add_zero]
 |n+1=>by rw[Ak,Vd f l n,<-Wa];rfl
theorem Qs(A B:Nat->Nat->Rat)(n m:Nat)(l:Nat->Rat):∀(t:Tr) (k:Nat),QA A B n m l t k=Bh (fun q=>B6 (wt A n l) q.2*Al B m q.1 k) (Hb t)
 |.nil,k=>by
  show(1:Rat)=1*1+0
  grind
 |.cons b r,k=>by
  rw[QA,Qs A B n m l r k,Hb,Tx,Rat.mul_comm,<-JL];refine FG fun q _=>?_;rw[Bh,Ve];have e:Ak m (fun j=>B k j*QA A B n m l b j)=Bh (fun p=>B6 (wt A n l) p.2*Ak m (fun j=>B k j*Al B m p.1 j)) (Hb b):=by
   rw[A8 (g:=fun j=>Bh (fun p=>B k j*(B6 (wt A n l) p.2*Al B m p.1 j)) (Hb b)) fun j _=>by
    rw[Qs A B n m l b j,Rat.mul_comm,<-JL];exact FG fun p _=>by rw[Rat.mul_comm],Vd]
   refine FG fun p _=>?_;rw[Rat.mul_comm (B6 _ _),<-Hy];exact A8 fun j _=>by grind
  rw[e,Rat.mul_comm,Rat.add_mul,<-JL]
  congr 1
  .show wt A n l b*(B6 (wt A n l) q.2*Al B m q.1 k)=wt A n l b*B6 (wt A n l) q.2*Al B m q.1 k
   grind
  .refine FG fun p _=>?_;show B6 (wt A n l) p.2*Ak m (fun j=>B k j*Al B m p.1 j)*(B6 (wt A n l) q.2*Al B m q.1 k)=B6 (wt A n l) (p.2++q.2)*(Ak m (fun j=>B k j*Al B m p.1 j)*Al B m q.1 k);rw[Ue];generalize Ak m _=x
   grind
theorem kI(A B:Nat->Nat->Rat)(n m:Nat)(l I:Nat->Rat)(t:Tr):wt (F0 A n l B) (n+m) (MF n l I) t=wt A n l t+Bh (fun q=>B6 (wt A n l) q.2*wt B m I q.1) (Hb t):=by
 rw[nO]
 congr 1
 rw[A8 (g:=fun j=>Bh (fun q=>I j*(B6 (wt A n l) q.2*Al B m q.1 j)) (Hb t)) fun j _=>by
  rw[Qs A B n m l t j,Rat.mul_comm,<-JL];exact FG fun p _=>by rw[Rat.mul_comm],Vd]
 refine FG fun q _=>?_;unfold wt;rw[Rat.mul_comm (B6 _ _),<-Hy];exact A8 fun j _=>by grind
theorem LB(c:Rat)(a:Nat):∀b:Nat,c^(a+b)=c^a*c^b
 |0=>by rw[Nat.add_zero,Rat.pow_zero,Rat.mul_one]
 |b+1=>by rw[<-Nat.add_assoc,Rat.pow_succ,Rat.pow_succ,LB c a b,(MM)]
theorem PR(A:Nat->Nat->Rat)(n:Nat)(c:Rat):∀(t:Tr) (k:Nat),Al (fun k j=>A k j*c) n t k*c=Al A n t k*c^t.AE
 |.nil,k=>by
  show(1:Rat)*c=1*c^1;rw[Rat.pow_succ,Rat.pow_zero,Rat.one_mul,Rat.one_mul]
 |.cons b r,k=>by
  have B:Ak n (fun j=>A k j*c*Al (fun k j=>A k j*c) n b j)=Ak n (fun j=>A k j*Al A n b j)*c^b.AE:=by
   rw[<-Hy];exact A8 fun j _=>by
    have:=PR A n c b j;rw[(MM),Rat.mul_comm c,this,(MM)]
  have g:=PR A n c r k;show Ak n (fun j=>A k j*c*Al (fun k j=>A k j*c) n b j)*Al (fun k j=>A k j*c) n r k*c=Ak n (fun j=>A k j*Al A n b j)*Al A n r k*c^(b.AE+r.AE);rw[B,(MM),g,LB];generalize Ak n _=x
  grind
theorem gW(A:Nat->Nat->Rat)(n:Nat)(l:Nat->Rat)(c:Rat)(t:Tr):wt (fun k j=>A k j*c) n (fun j=>l j*c) t=wt A n l t*c^t.AE:=by
 unfold wt;rw[<-Hy];exact A8 fun j _=>by
  have:=PR A n c t j;rw[(MM),Rat.mul_comm c,this,(MM)]
theorem Qb(A B:Nat->Nat->Rat)(n m:Nat):∀(t:Tr) (k:Nat),QA A B n m (fun _=>0) t k=Al B m t k
 |.nil,k=>rfl
 |.cons b r,k=>by
  have z:wt A n (fun _=>0) b=0:=(A8 fun j _=>by rw[(L9)]).trans (Lj n);rw[QA,Al,Qb A B n m r k,z,Rat.zero_add]
  congr 1
  exact A8 fun j _=>by rw[Qb A B n m b j]
theorem ni(A B:Nat->Nat->Rat)(n m:Nat)(l g:Nat->Rat)(c d:Rat)(t:Tr):wt (F0 A n (fun _=>0) B) (n+m) (MF n (fun j=>l j*c) (fun j=>g j*d)) t=wt A n l t*c+wt B m g t*d:=by
 unfold wt;rw[Gu,<-Hy,<-Hy]
 congr 1
 .exact A8 fun j I=>by
   rw[Mt A B n m _ t j I];unfold MF;rw[if_pos I];grind
 .exact A8 fun j _=>by
   rw[Nh A B n m _ t j,Qb];unfold MF;rw[if_neg AS,Nat.add_sub_cancel_left];grind
def Nv:Tr->List Tr
 |.nil=>[]
 |.cons b r=>Tr.ins (Tr.of (Nv b)) (Nv r)
def Ex(t:Tr):Tr:=Tr.of (Nv t)
theorem YN(A:Nat->Nat->Rat)(n:Nat)(x:Tr)(k:Nat):∀l:List Tr,Al A n (Tr.of (Tr.ins x l)) k=Ak n (fun j=>A k j*Al A n x j)*Al A n (Tr.of l) k
 |[]=>rfl
 |y::l=>by
  unfold Tr.ins;split
  .have g:=YN A n x k l;show Ak n (fun j=>A k j*Al A n y j)*Al A n (Tr.of (Tr.ins x l)) k=Ak n (fun j=>A k j*Al A n x j)*(Ak n (fun j=>A k j*Al A n y j)*Al A n (Tr.of l) k);rw[g];generalize Ak n _=a;generalize Ak n _=b
   grind
  .rfl
theorem RB(A:Nat->Nat->Rat)(n:Nat):∀(t:Tr) (k:Nat),Al A n (Ex t) k=Al A n t k
 |.nil,k=>rfl
 |.cons b r,k=>by
  show Al A n (Tr.of (Tr.ins (Ex b) (Nv r))) k=_;rw[YN,Al];have g:=RB A n r k;unfold Ex at g;rw[g]
  congr 1
  exact A8 fun j _=>by rw[RB A n b j]
theorem kL(A:Nat->Nat->Rat)(n:Nat)(l:Nat->Rat)(t:Tr):wt A n l (Ex t)=wt A n l t:=A8 fun j _=>by rw[RB]
def eT(t:Tr):Rat:=Rat.divInt 1 (t.QV:Int)
def Lz:List Tr->Nat
 |[]=>0
 |t::ts=>t.AE+Lz ts
theorem YO:∀a b:List Tr,Lz (a++b)=Lz a+Lz b
 |[],b=>by rw[List.nil_append,Lz,Nat.zero_add]
 |t::a,b=>by rw[List.cons_append,Lz,Lz,YO a b,Nat.add_assoc]
theorem Oq:∀(t:Tr) (q:Tr×List Tr),q∈Hb t->q.1.AE+Lz q.2=t.AE
 |.nil,q,h=>by
  rw[Hb,List.mem_singleton]at h;subst h;rfl
 |.cons b r,q,h=>by
  rw[Hb,List.mem_flatMap]at h;obtain⟨g,R,B⟩:=h;have i1:=Oq r g R;rcases aQ.mp B with rfl|B
  .show g.1.AE+(b.AE+Lz g.2)=b.AE+r.AE
   lia
  .obtain⟨p,I,rfl⟩:=aK.mp B;have i2:=Oq b p I;show p.1.AE+g.1.AE+Lz (p.2++g.2)=b.AE+r.AE;rw[YO];lia
theorem P4(w:Tr->Rat)(c:Rat):∀l:List Tr,B6 (fun t=>w t*c^t.AE) l=B6 w l*c^Lz l
 |[]=>by rw[B6,B6,Lz,Rat.pow_zero,Rat.mul_one]
 |t::l=>by
  rw[B6,B6,Lz,P4 w c l,LB]
  grind
def dbl(w:Tr->Rat)(t:Tr):Rat:=w t+Bh (fun q=>B6 w q.2*w q.1) (Hb t)
def fX(t:Tr):Nat:=((Hb t).filter fun q=>q.2.isEmpty).length
theorem fH{w e:Tr->Rat}{t:Tr}(h:∀q∈Hb t,(q.2=[]/\q.1=t)\/(q.2≠[]/\w q.1=e q.1/\∀p∈q.2,w p=e p)):dbl w t=dbl e t+(1+(fX t:Rat))*(w t-e t):=by
 have pr:∀l:List Tr,(∀p∈l,w p=e p)->B6 w l=B6 e l:=fun l=>by
  induction l with
  |nil=>intro _;rfl
  |cons p l I=>intro h;rw[B6,B6,h p (.head _),I fun q g=>h q (.tail _ g)]
 have gen:∀l:List (Tr×List Tr),(∀q∈l,(q.2=[]/\q.1=t)\/(q.2≠[]/\w q.1=e q.1/\∀p∈q.2,w p=e p))->Bh (fun q=>B6 w q.2*w q.1) l=Bh (fun q=>B6 e q.2*e q.1) l+((l.filter fun q=>q.2.isEmpty).length:Rat)*(w t-e t):=fun l=>by
  induction l with
  |nil=>intro _;show(0:Rat)=0+((0:Nat):Rat)*(w t-e t);grind
  |cons q l I=>
   intro h;have i:=I fun q g=>h q (.tail _ g);rw[Bh,Bh,i];rcases h q (.head _) with ⟨B,R⟩|⟨B,R,T⟩
   .rw[List.filter_cons,if_pos (by rw[B];rfl),(JO),B,R];show 1*w t+_=1*e t+_+_;rw[show(((l.filter fun q=>q.2.isEmpty).length+1:Nat):Rat)=((l.filter fun q=>q.2.isEmpty).length:Rat)+1 by simp]
    grind
   .rw[List.filter_cons,if_neg (by cases g:q.2 with|nil=>exact absurd g B|cons _ _=>simp),pr _ T,R,Rat.add_assoc]
 unfold dbl fX;rw[gen _ h]
 grind
def iX(ts:List Tr)(t:Tr)(q:Tr×List Tr):Bool:=(q.2.isEmpty&&decide (q.1=t))||(!q.2.isEmpty&&(q.1::q.2).all fun u=>decide (u.AE<t.AE)&&(ts.contains (Ex u))&&decide (u.QV=(Ex u).QV))
theorem gz:((Av 6).all fun t=>decide (fX t=1)&&(Hb t).all (iX (Av 6) t))=true:=by decide +kernel
theorem ff:((Av 6).all fun t=>decide (dbl eT t=eT t*2^t.AE))=true:=by decide +kernel
theorem kn{u:Tr}(h:u.QV=(Ex u).QV):eT u=eT (Ex u):=by unfold eT;rw[h]
theorem cL(x:Tr):∀l:List Tr,(Tr.of (Tr.ins x l)).AE=x.AE+(Tr.of l).AE
 |[]=>rfl
 |y::l=>by
  unfold Tr.ins;split
  .show y.AE+(Tr.of (Tr.ins x l)).AE=x.AE+(y.AE+(Tr.of l).AE);rw[cL x l];lia
  .rfl
theorem S9:∀t:Tr,(Ex t).AE=t.AE
 |.nil=>rfl
 |.cons b r=>by
  have g:=S9 r;unfold Ex at g;show(Tr.of (Tr.ins (Ex b) (Nv r))).AE=b.AE+r.AE;rw[cL,S9 b,g]
theorem V8:∀n:Nat,(2:Rat)^n*GD^n=1
 |0=>by rw[Rat.pow_zero,Rat.pow_zero,Rat.mul_one]
 |n+1=>by
  have g:=V8 n;have h:(2:Rat)*Rat.divInt 1 2=1:=by decide +kernel
  rw[Rat.pow_succ,Rat.pow_succ];generalize (2:Rat)^n=a at g;generalize GD^n=b at g;generalize Rat.divInt 1 2=c at h
  grind
theorem Um{w:Tr->Rat}(Z:∀u,w (Ex u)=w u){t:Tr}(R:t∈(Av 6))(h:∀u∈(Av 6),u.AE<t.AE->w u=eT u):dbl w t*GD^t.AE=eT t+(w t-eT t)*(2*GD^t.AE):=by
 have T:=az.mp gz t R;rw[(MN),decide_eq_true_eq,(Qv)]at T;obtain⟨c1,c2⟩:=T;have h2:=ah (az.mp ff t R);have near:∀u:Tr,(decide (u.AE<t.AE)&&((Av 6).contains (Ex u))&&decide (u.QV=(Ex u).QV))=true->w u=eT u:=fun u z=>by
  simp only[Bool.and_eq_true,decide_eq_true_eq]at z;have m:Ex u∈(Av 6):=by simpa using z.1.2
  rw[<-Z u,h _ m (by rw[S9];exact z.1.1),kn z.2]
 have e:=fH (w:=w) (e:=eT) (t:=t) fun q U=>by
  have g:=c2 q U;unfold iX at g;rw[Bool.or_eq_true,(MN),(MN),decide_eq_true_eq,(Qv)]at g;rcases g with ⟨I,B⟩|⟨I,B⟩
  .exact .inl ⟨List.isEmpty_iff.mp I,B⟩
  .refine .inr ⟨fun z=>by (rw[z]at I;exact absurd I CH),near _ (B _ (.head _)),fun p Y=>near _ (B _ (.tail _ Y))⟩
 rw[e,h2,c1,Rat.add_mul,(MM),V8,Rat.mul_one]
 congr 1
 generalize GD^t.AE=b;show(1+((1:Nat):Rat))*(w t-eT t)*b=_;rw[show((1:Nat):Rat)=1 from rfl]
 grind
theorem Zd{w:Tr->Rat}(R:∀u,w (Ex u)=w u){t:Tr}(g:t∈(Av 6)){p:Nat}(U:1<=p)(h:∀u∈(Av 6),u.AE<=p->w u=eT u)(hn:t.AE<=p+1){c d:Rat}(B:c+d=1)(hd:c*(2*GD^(p+1))+d=0) :
  dbl w t*GD^t.AE*c+w t*d=eT t:=by
 rw[Um R g fun u I Y=>h u I AS];by_cases z:t.AE<=p
 .rw[h t g z];have:eT t-eT t=0:=by grind
  rw[this,(L9),Rat.add_zero,<-Rat.mul_add,B,Rat.mul_one]
 .rw[show t.AE=p+1 by lia];generalize GD^(p+1)=b at hd;generalize eT t=e;generalize w t=x;have T:(e+(x-e)*(2*b))*c+x*d=e*(c+d)+(x-e)*(c*(2*b)+d):=by grind
  rw[T,B,hd,Rat.mul_one,Rat.mul_zero,Rat.add_zero]
abbrev BP(l:List Rat)(j:Nat):Rat:=l.getD j 0
def A0(t:Tb):Nat->Nat->Rat:=fun k j=>BP ((EL t).getD k []) j
theorem dD(n:Nat)(f:Nat->Rat):Ak (n+1) f=f 0+Ak n (fun j=>f (j+1)):=by
 have h:=Gu 1 f n;rw[Nat.add_comm 1 n]at h;rw[h]
 congr 1
 .show(0:Rat)+f 0=f 0;rw[Rat.zero_add]
 .exact A8 fun j _=>by rw[Nat.add_comm]
theorem Wd{n m:Nat}(h:n<=m){f:Nat->Rat}(hz:∀j,n<=j->f j=0):Ak m f=Ak n f:=by
 obtain⟨d,rfl⟩:∃d,m=n+d:=⟨m-n,by lia⟩;rw[Gu,A8 (g:=fun _=>0) fun j _=>hz (n+j) AS,Lj,Rat.add_zero]
theorem RX{B:Int}(g:B≠0)(t:Int):(t:Rat)=(B:Rat)*Rat.divInt t B:=by
 have h:(B:Rat)≠0:=by simpa using g
 rw[Rat.divInt_eq_div]
 grind
theorem RM{S:Int}{r:Rat}(h:(r.den:Int) ∣ S):((r.num*S.fdiv (r.den:Int):Int):Rat)=(S:Rat)*r:=by
 obtain⟨c,rfl⟩:=h;have hd:(r.den:Int)≠0:=by have:=r.den_nz;lia
 rw[FM.F3 hd rfl,(Qd),(Qd)];have e:(r.num:Rat)=((r.den:Int):Rat)*r:=by
  have:=RX hd r.num;rw[FM.EV]at this;exact this
 rw[e]
 grind
theorem Gr:∀t:Tr,1<=t.AE
 |.nil=>aH 1
 |.cons b r=>aR (Gr r) (Nat.le_add_left _ _)
theorem cS{T:Int}{c:Rat}:∀ {r:List Rat} {v:List Int} {f:Nat->Rat},(∀q∈r,(q.den:Int) ∣ T)->r.length<=v.length->(∀j,j<v.length->((v.getD j 0:Int):Rat)=c*f j) ->
  ((Ng (GY r T) v:Int):Rat)=(T:Rat)*c*Ak r.length (fun j=>BP r j*f j)
 |[],v,f,_,_,_=>by
  unfold Ng C5 GY;show(((([]:List Int).zipWith (· * ·) v).sum:Int):Rat)=_*Ak 0 _;simp[Ak]
 |q::r,[],f,_,h,_=>by simp at h
 |q::r,x::v,f,I,U,B=>by
  have g:=cS (T:=T) (c:=c) (r:=r) (v:=v) (f:=fun j=>f (j+1)) (fun p R=>I p (.tail _ R)) (by simpa using U) fun j Y=>by
   have:=B (j+1) (by simpa using Y)
   simpa using this
  have h0:=B 0 CH;have h0:(x:Rat)=c*f 0:=by simpa using h0
  unfold Ng C5 GY at g ⊢;rw[(CI),List.zipWith_cons_cons,List.sum_cons,Rat.intCast_add,g,(Qd),RM (I q (.head _)),h0,(JO),dD];show _=(T:Rat)*c*(q*f 0+Ak r.length (fun j=>BP r j*f (j+1)));generalize Ak r.length _=S
  grind
theorem YI:∀ {a b:List Int} {k:Nat},k<a.length->k<b.length->(C5 a b).getD k 0=a.getD k 0*b.getD k 0
 |[],_,k,h,_=>by simp at h
 |_::_,[],k,_,h=>by simp at h
 |x::a,y::b,0,_,_=>rfl
 |x::a,y::b,k+1,B,g=>by
  have:=YI (a:=a) (b:=b) (k:=k) (by simpa using B) (by simpa using g);unfold C5 at this ⊢
  simpa using this
section
variable{t:Tb}{m:Nat}(o:t.Ok m)(hT:∀r∈EL t,∀q∈r,(q.den:Int) ∣ Cd t)
include o hT
theorem fY{k:Nat}{r:List Rat}(h:(EL t)[k]? = some r):(BI t)[k]? = some (GY r (Cd t)):=by
 unfold BI;rw[(B7)];show((EL t)[k]?).map _=_;rw[h];rfl
theorem iP{b:Tr}(I:(Ju (BI t) b (Cv (BI t).length)).length=(BI t).length)(h:∀k,k<(BI t).length->(((Ju (BI t) b (Cv (BI t).length)).getD k 0:Int):Rat)=((Cd t:Int):Rat)^(b.AE-1)*Al (A0 t) t.rs.length b k){k:Nat}(hk:k<(BI t).length) :
  (((Dz (BI t) b).getD k 0:Int):Rat)=((Cd t:Int):Rat)^b.AE*Ak t.rs.length Fk:=by
 have hN:(BI t).length=t.rs.length+1:=by unfold BI;rw[(BW),(Dk)];rfl
 obtain⟨r,B⟩:∃r,(EL t)[k]? = some r:=⟨_,List.getElem?_eq_getElem (show k<(EL t).length by unfold EL;rw[(Dk)];show k<t.rs.length+1;lia)⟩;obtain⟨rl,rk⟩:=UC o B;have e:=cS (T:=Cd t) (c:=((Cd t:Int):Rat)^(b.AE-1)) (r:=r) (v:=Ju (BI t) b (Cv (BI t).length)) (f:=Al (A0 t) t.rs.length b) (hT r (aT B)) (by rw[I];lia) fun j R=>h j (by rw[<-I];exact R);have e2:(Dz (BI t) b).getD k 0=Ng (GY r (Cd t)) (Ju (BI t) b (Cv (BI t).length)):=by
  unfold Dz;rw[(DJ),(B7),fY o hT B];rfl
 have Z:Ak t.rs.length Fk=Ak r.length (fun j=>BP r j*Al (A0 t) t.rs.length b j):=by
  have Y:(EL t).getD k []=r:=by rw[(DJ),B];rfl
  rw[A8 (g:=fun j=>BP r j*Al (A0 t) t.rs.length b j) fun j _=>by unfold A0;rw[Y]];exact Wd AS fun j R=>by
   rw[show BP r j=0 by unfold BP;rw[(DJ),List.getElem?_eq_none AS];rfl,(L9)]
 have U:b.AE=b.AE-1+1:=by have:=Gr b;lia
 rw[e2,e,Z]
 conv=>rhs;rw[U,Rat.pow_succ]
 grind
theorem Vi:∀(u:Tr) (B:List Int) (g:Nat->Rat),B.length=(BI t).length->(∀k,k<(BI t).length->((B.getD k 0:Int):Rat)=g k)->(Ju (BI t) u B).length=(BI t).length/\∀k,k<(BI t).length->(((Ju (BI t) u B).getD k 0:Int):Rat)=g k*((Cd t:Int):Rat)^(u.AE-1)*Al (A0 t) t.rs.length u k
 |.nil,B,g,R,h=>⟨R,fun k I=>by
   rw[Ju,h k I];show g k=g k*(_:Rat)^0*1;rw[Rat.pow_zero,Rat.mul_one,Rat.mul_one]⟩
 |.cons b r,B,g,R,h=>by
  obtain⟨b1,b2⟩:=Vi b (Cv (BI t).length) (fun _=>1) (by unfold Cv;rw[(W2)]) fun k I=>by
   unfold Cv;rw[(DJ),(Qu),if_pos I];rfl
  have T:=fun {k:Nat} (I:k<(BI t).length)=>iP o hT b1 (fun k I=>by rw[b2 k I,Rat.one_mul]) I;have hz:(C5 B (Dz (BI t) b)).length=(BI t).length:=by rw[Vo (by rw[IB,R]),R]
  obtain⟨Y,U⟩:=Vi r (C5 B (Dz (BI t) b)) (fun k=>g k*(((Cd t:Int):Rat)^b.AE*Ak t.rs.length Fk)) hz fun k I=>by
   rw[YI AS (by rw[IB];exact I),(Qd),h k I,T I]
  refine⟨Y,fun k I=>(U k I).trans ?_⟩;have Z:(Tr.cons b r).AE-1=b.AE+(r.AE-1):=by
   have:=Gr r;show b.AE+r.AE-1=_
   lia
  rw[Z,LB,Al];generalize Ak t.rs.length _=S
  grind
theorem my(b1:1<=Cd t)(u:Tr):Hm t u=wt (A0 t) t.rs.length (BP t.ls) u:=by
 have Y:(BI t).length=t.rs.length+1:=by unfold BI;rw[(BW),(Dk)];rfl
 obtain⟨s1,s2⟩:=Vi o hT u (Cv (BI t).length) (fun _=>1) (by unfold Cv;rw[(W2)]) fun k B=>by
  unfold Cv;rw[(DJ),(Qu),if_pos B];rfl
 have R:=iP o hT s1 (fun k B=>by rw[s2 k B,Rat.one_mul]) (k:=t.rs.length) AS;have el:(EL t).getD t.rs.length []=t.ls:=by rw[(DJ),SK];rfl
 have eL:(Dz (BI t) u).getLast?.getD 0=(Dz (BI t) u).getD t.rs.length 0:=by
  rw[List.getLast?_eq_getElem?,IB,Y,(DJ)];rfl
 have I:Cd t^u.AE≠0:=Int.pow_ne_zero AS;have g:=RX I ((Dz (BI t) u).getD t.rs.length 0);have Z:Ak t.rs.length (fun j=>A0 t t.rs.length j*Al (A0 t) t.rs.length u j)=wt (A0 t) t.rs.length (BP t.ls) u:=A8 fun j _=>by unfold A0;rw[el]
 have cp:((Cd t^u.AE:Int):Rat)=((Cd t:Int):Rat)^u.AE:=by
  generalize u.AE=n
  induction n with
  |zero=>rfl
  |succ n U=>rw[Int.pow_succ,(Qd),U,Rat.pow_succ]
 have T:((Cd t^u.AE:Int):Rat)≠0:=fun z=>I (Rat.intCast_inj.mp (z.trans Rat.intCast_zero.symm));unfold Hm;rw[eL];rw[R,Z,<-cp]at g;generalize ((Cd t^u.AE:Int):Rat)=x at g T;generalize Rat.divInt _ _=y at g ⊢;generalize wt _ _ _ _=z at g ⊢
 grind
end
theorem PN{A B:Nat->Nat->Rat}{n:Nat}(h:∀k j,k<n->j<n->A k j=B k j):∀(t:Tr) (k:Nat),k<n->Al A n t k=Al B n t k
 |.nil,_,_=>rfl
 |.cons b r,k,g=>by
  rw[Al,Al,PN h r k g]
  congr 1
  exact A8 fun j I=>by rw[h k j g I,PN h b j I]
theorem Q8{A B:Nat->Nat->Rat}{n:Nat}{l l':Nat->Rat}(h:∀k j,k<n->j<n->A k j=B k j)(I:∀j,j<n->l j=l' j)(t:Tr):wt A n l t=wt B n l' t:=A8 fun j g=>by rw[I j g,PN h t j g]
noncomputable abbrev wT(t:Tb)(u:Tr):Rat:=wt (A0 t) t.rs.length (BP t.ls) u
def FQ(a b:Tb):Tb:=⟨a.rs++b.rs.map (a.ls ++ ·),a.ls++b.ls⟩
def C1(t:Tb)(c:Rat):Tb:=⟨t.rs.map fun r=>r.map fun q=>q*c,t.ls.map fun q=>q*c⟩
def JU(a:Tb)(c:Rat)(b:Tb)(d:Rat):Tb:=⟨a.rs++b.rs.map (List.replicate a.rs.length 0 ++ ·),(a.ls.map fun q=>q*c)++b.ls.map fun q=>q*d⟩
theorem Pc(a b:List Rat)(j:Nat):BP (a++b) j=if j<a.length then BP a j else BP b (j-a.length):=by
 unfold BP;rw[(DJ),(DJ),(DJ)];by_cases h:j<a.length
 .rw[if_pos h,List.getElem?_append_left h]
 .rw[if_neg h,List.getElem?_append_right AS]
theorem Pe(a:List Rat)(c:Rat)(j:Nat):BP (a.map fun q=>q*c) j=BP a j*c:=by
 unfold BP;rw[(DJ),(DJ),(B7)];cases a[j]? with
 |none=>show(0:Rat)=0*c;rw[(L9)]
 |some q=>rfl
theorem Pt{a:List Rat}{j:Nat}(h:a.length<=j):BP a j=0:=by
 unfold BP;rw[(DJ),List.getElem?_eq_none h];rfl
theorem EX{t:Tb}{k:Nat}{r:List Rat}(h:t.rs[k]? = some r)(j:Nat):A0 t k j=BP r j:=by
 unfold A0 EL;rw[(DJ),List.getElem?_append_left (aD.mp h).1,h];rfl
section
variable{a b:Tb}{m n:Nat}(oa:a.Ok m)(ob:b.Ok n)
include oa ob
theorem Yp:(FQ a b).rs.length=a.rs.length+b.rs.length:=by unfold FQ;rw[(Dk),(BW)]
theorem mq(u:Tr):wT (FQ a b) u=wT a u+Bh (fun q=>B6 (wT a) q.2*wT b q.1) (Hb u):=by
 unfold wT;rw[Yp oa ob];refine(Q8 (B:=F0 (A0 a) a.rs.length (BP a.ls) (A0 b)) (l':=MF a.rs.length (BP a.ls) (BP b.ls)) (fun k j hk Y=>?_) (fun j Y=>?_) u).trans (kI _ _ _ _ _ _ u)
 .by_cases I:k<a.rs.length
  .have R:a.rs[k]? = some a.rs[k]:=aM I;have U:(FQ a b).rs[k]? = some a.rs[k]:=by unfold FQ;rw[List.getElem?_append_left I,R]
   have hl:=oa.row k _ R;rw[EX U];unfold F0;rw[if_pos I];by_cases g:j<a.rs.length
   .rw[if_pos g,EX R]
   .rw[if_neg g,Pt AS]
  .have T:k-a.rs.length<b.rs.length:=by lia
   have R:b.rs[k-a.rs.length]? = some b.rs[k-a.rs.length]:=aM T;have U:(FQ a b).rs[k]? = some (a.ls++b.rs[k-a.rs.length]):=by
    unfold FQ;rw[List.getElem?_append_right AS,(B7),R];rfl
   rw[EX U,Pc,oa.last];unfold F0;rw[if_neg I];by_cases g:j<a.rs.length
   .rw[if_pos g,if_pos g]
   .rw[if_neg g,if_neg g,EX R]
 .show BP (a.ls++b.ls) j=_;rw[Pc,oa.last];rfl
theorem pR(c d:Rat)(u:Tr):wT (JU a c b d) u=wT a u*c+wT b u*d:=by
 have Y:(JU a c b d).rs.length=a.rs.length+b.rs.length:=by unfold JU;rw[(Dk),(BW)]
 unfold wT;rw[Y];refine(Q8 (B:=F0 (A0 a) a.rs.length (fun _=>0) (A0 b)) (l':=MF a.rs.length (fun j=>BP a.ls j*c) (fun j=>BP b.ls j*d)) (fun k j hk Z=>?_) (fun j Z=>?_) u).trans (ni _ _ _ _ _ _ c d u)
 .by_cases I:k<a.rs.length
  .have R:a.rs[k]? = some a.rs[k]:=aM I;have U:(JU a c b d).rs[k]? = some a.rs[k]:=by unfold JU;rw[List.getElem?_append_left I,R]
   have Y:=oa.row k _ R;rw[EX U];unfold F0;rw[if_pos I];by_cases g:j<a.rs.length
   .rw[if_pos g,EX R]
   .rw[if_neg g,Pt AS]
  .have T:k-a.rs.length<b.rs.length:=by lia
   have R:b.rs[k-a.rs.length]? = some b.rs[k-a.rs.length]:=aM T;have U:(JU a c b d).rs[k]? = some (List.replicate a.rs.length 0++b.rs[k-a.rs.length]):=by
    unfold JU;rw[List.getElem?_append_right AS,(B7),R];rfl
   rw[EX U,Pc,(W2)];unfold F0;rw[if_neg I];by_cases g:j<a.rs.length
   .rw[if_pos g,if_pos g];unfold BP;rw[(DJ),(Qu),if_pos g];rfl
   .rw[if_neg g,if_neg g,EX R]
 .show BP ((a.ls.map fun q=>q*c)++b.ls.map fun q=>q*d) j=_;rw[Pc,(BW),oa.last];unfold MF;by_cases g:j<a.rs.length
  .rw[if_pos g,if_pos g,Pe]
  .rw[if_neg g,if_neg g,Pe]
end
theorem V1(t:Tb)(c:Rat)(u:Tr):wT (C1 t c) u=wT t u*c^u.AE:=by
 have B:(C1 t c).rs.length=t.rs.length:=by unfold C1;rw[(BW)]
 unfold wT;rw[B,<-gW];refine Q8 (fun k j I R=>?_) (fun j R=>Pe _ _ _) u;have g:t.rs[k]? = some t.rs[k]:=aM I;have T:(C1 t c).rs[k]? = some (t.rs[k].map fun q=>q*c):=by unfold C1;rw[(B7),g];rfl
 rw[EX T,EX g,Pe]
theorem Yw(t:Tb)(u:Tr):wT t (Ex u)=wT t u:=kL _ _ _ u
theorem M9{t:Tb}{m:Nat}(o:t.Ok m)(c:Rat):(C1 t c).Ok m:=by
 refine⟨by show 1<=(t.rs.map _).length;rw[(BW)];exact o.one,by show(t.rs.map _).length<=m;rw[(BW)];exact o.most,by show(t.ls.map _).length=(t.rs.map _).length;rw[(BW),(BW)];exact o.last,fun i r g=>?_⟩;have g:(t.rs.map fun r=>r.map fun q=>q*c)[i]? = some r:=g;rw[(B7)]at g;obtain⟨B,I,rfl⟩:=aF.mp g;rw[(BW)];exact o.row i B I
theorem eG{rs:List (List Rat)}{ls p:List Rat}{b:Tb}{m n:Nat}(Y:1<=rs.length)(g:∀(i:Nat) r,rs[i]? = some r->r.length=i)(hm:rs.length<=m)(B:p.length=rs.length)(ob:b.Ok n)(I:ls.length=rs.length+b.rs.length):(Tb.mk (rs++b.rs.map (p ++ ·)) ls).Ok (m+n):=by
 have U:=ob.most;refine⟨by show 1<=(_++_:List _).length;rw[(Dk)];lia,by show(_++_:List _).length<=m+n;rw[(Dk),(BW)];lia,by show ls.length=(_++_:List _).length;rw[(Dk),(BW)];exact I,fun i r h=>?_⟩;have h:(rs++b.rs.map (p ++ ·))[i]? = some r:=h;by_cases z:i<rs.length
 .rw[List.getElem?_append_left z]at h;exact g i r h
 .rw[List.getElem?_append_right AS,(B7)]at h;obtain⟨T,R,rfl⟩:=aF.mp h;rw[(Dk),B,ob.row _ _ R];lia
theorem VG{a b:Tb}{m n:Nat}(g:a.Ok m)(ob:b.Ok n):(FQ a b).Ok (m+n):=eG g.one g.row g.most g.last ob (by rw[(Dk),g.last,ob.last])
theorem pN{a b:Tb}{m n:Nat}(g:a.Ok m)(ob:b.Ok n)(c d:Rat):(JU a c b d).Ok (m+n):=eG g.one g.row g.most List.length_replicate ob (by rw[(Dk),(BW),(BW),g.last,ob.last])
def Te(t:Tb)(c d:Rat):Tb:=JU (FQ (C1 t GD) (C1 t GD)) c t d
theorem cH{t:Tb}{m:Nat}(o:t.Ok m)(u:Tr):wT (FQ (C1 t GD) (C1 t GD)) u=dbl (wT t) u*GD^u.AE:=by
 rw[mq (M9 o _) (M9 o _),V1,dbl,Rat.add_mul,<-JL]
 congr 1
 refine FG fun q g=>?_;have e:B6 (wT (C1 t GD)) q.2=B6 (wT t) q.2*GD^Lz q.2:=by
  rw[<-P4]
  congr 1
  funext u
  exact V1 t _ u
 rw[e,V1,<-Oq u q g,LB]
 grind
theorem gM{t:Tb}{m:Nat}(o:t.Ok m){p:Nat}(B:1<=p)(h:∀u∈Av 6,u.AE<=p->wT t u=eT u){u:Tr}(g:u∈Av 6)(hn:u.AE<=p+1){c d:Rat}(I:c+d=1)(hd:c*(2*GD^(p+1))+d=0):wT (Te t c d) u=eT u:=by
 unfold Te;rw[pR (VG (M9 o _) (M9 o _)) o,cH o];exact Zd (Yw t) g B h hn I hd
theorem dU{t:Tb}{m:Nat}(o:t.Ok m){u:Tr}(g:u∈Av 6)(h:∀v∈Av 6,v.AE<u.AE->wT t v=eT v):wT (FQ (C1 t GD) (C1 t GD)) u=eT u+(wT t u-eT u)*(2*GD^u.AE):=by
 rw[cH o];exact Um (Yw t) g h
section
variable{P:G8}{w:Id}{K:At}{mg:Eu}{base:Heap}{CX:JC}{k:Nat}{f:Addr}{fd:GE}{ps:KP}
def pJ(ds:Ch):Option PyData:=match ds with
 |[.int b,.int p]=>if b.natAbs<2^10/\0<=p/\p<=400 then some (.int (b^p.toNat)) else none
 |_=>none
theorem sM(F:AL P w K mg base CX k f fd ps Y8):AL P w K mg base CX k f fd ps (A3 pJ) :=
 PV F fun T x hm G H vs Q E d e g=>by
  unfold pJ at hm;split at hm
  .split at hm
   .rename_i B;cases hm;obtain⟨R,I,rfl,d1,d2⟩:=d.RO;rw[Du]at d1 d2;subst d1 d2;rename_i b p;refine⟨b,p.toNat,10,?_,B.1,by lia,g _ G H (.refl _) Nw.refl e (.refl _) (by rw[Du])⟩;rw[show((p.toNat:Nat):Int)=p by lia]
   .cases hm
  .cases hm
end
section
variable{a b t:Tb}{m n:Nat}{p:Rat}
abbrev mT:List PyData->Option PyData:=DQ Wh
theorem qV{p q:Rat}(B:FM.Fits p 190)(g:FM.Fits q 190):mT [AK p,AK q]=some (AK (p*q)):=by
 refine DY rfl ?_;unfold Ox;refine EE (AZ (xs:=[.int (p.num*q.num),.int ((p.den:Int)*q.den)]) (Af (BK (x:=.int p.num) (y:=.int q.num) rfl rfl (Qf B.1 g.1 As)) (Af (BK (x:=.int (p.den:Int)) (y:=.int (q.den:Int)) rfl rfl (Qf B.d g.d As)) rfl)) ?_);refine(Ov (FM.HD p q) (aI (FM.dd B g) (aS As As))).trans ?_;rw[FM.NY]
abbrev ir:List PyData->Option PyData:=Cm mT
theorem Vb{r:List Rat}(U:r.length<=60)(B:∀q∈r,FM.Fits q 190)(R:FM.Fits p 190):ir [BB r,AK p]=some (BB (r.map fun q=>q*p)):=by
 have:=LZ (i:=1) (δ:=[.d (BB r),.d (AK p)]) (fs:=DK JB) (f:=AI mT (AA (nm 1) (AA (nm 2) AG))) (fr:=[none,none,some 1]) (zs:=r) (a:=AK) (g:=fun q=>AK (q*p)) rfl (by unfold Ci;lia) fun q I=>AZ (xs:=[AK q,AK p]) rfl (qV (B q I) R);refine Pg (xs:=Ag (r.map fun q=>q*p)) rfl ?_;unfold Wm;show(FT (Cg 1) FL (AI mT (AA (nm 1) (AA (nm 2) AG))) [none,none,some 1] (DK JB) [.d (BB r),.d (AK p)]).map Ou.rn=_;rw[this];show some (Ou.rn (r.map fun q=>AK (q*p)))=_;rw[Ag,(Hc)];rfl
theorem J4{α:Type}{i:Nat}{f:FB}{fs:Fp}{δ:Dv}{fr:Iv}{zs:List α}{a g:α->PyData}(B:fs δ=some (zs.map a))(I:zs.length<=Ci)
 (h:∀z∈zs,f ((EC fr δ).set i (.d (a z)))=some (g z)):Dq (Cg i) FL f fr fs δ=some (.list (zs.map g)):=by
 unfold Dq;rw[LZ B I h];rfl
abbrev Va:List PyData->Option PyData:=BN SF ir
theorem eN(o:t.Ok m)(hm:m<=40)(R:t.Fits 190)(I:FM.Fits p 190):Va [AY t,AK p]=some (AY (C1 t p)):=by
 have Z:=o.last;have Y:=o.most;refine DY rfl ?_;unfold MY;refine Ah (δ':=[.d (AY t),.d (AK p)]) (by show(AI SF _ _).map _=_;rw[AZ (xs:=[AY t]) rfl (Jw o hm)];rfl) (EE (Kq (Af (x:=.list (A2 (C1 t p).rs)) ?_ (Af (AZ (xs:=[BB t.ls,AK p]) rfl (Vb AS R.2 I)) rfl)) (show 2<=1000 by decide)));refine(J4 (zs:=t.rs) (a:=BB) (g:=fun r=>BB (r.map fun q=>q*p)) rfl (by unfold Ci;lia) fun r B=>?_).trans ?_
 .have:=o.gB r B;exact AZ (xs:=[BB r,AK p]) rfl (Vb AS (R.1 r B) I)
 .rw[A2,C1,(Hc)];rfl
abbrev lL:List PyData->Option PyData:=Am
theorem iT(h:a.rs.length+b.rs.length<=40):lL [.list [AY a,AY b]]=some .none:=by
 refine Ys (δ:=[.d (.list [AY a,AY b])]) rfl ?_;unfold He;refine GX (C8 (x:=.int [((A2 a.rs).length:Int),((A2 b.rs).length:Int)].sum) (y:=.int 40) rfl rfl ?_) rfl;show some (PyData.bool (decide ((40:Int) < [((A2 a.rs).length:Int),((A2 b.rs).length:Int)].sum)))=_;rw[Dj,Dj,decide_eq_false (by simp;lia)]
theorem Jy{δ:Dv}{f:AC}{g:Fp}{ds:Ch}{x:IR}(h:g δ=some ds)(k:f ds=some x):Jb (AI f g) δ=some (.nx δ):=by
 show(AI f g δ).map _=_;rw[AZ h k];rfl
abbrev cX:List PyData->Option PyData:=BO SF lL
theorem i5(ha:a.Ok m)(hm:m<=40)(B:b.Ok n)(hn:n<=40)(h:a.rs.length+b.rs.length<=40):cX [AY a,AY b]=some (AY (FQ a b)):=by
 have Y:=ha.last;have U:=B.last;refine DY rfl ?_;unfold M3;refine Ah (Jy (ds:=[AY a]) rfl (Jw ha hm)) (Ah (Jy (ds:=[AY b]) rfl (Jw B hn)) (Ah (Jy (ds:=[.list [AY a,AY b]]) rfl (iT h)) ?_));refine Ah (Bu (y:=.list (A2 (FQ a b).rs)) ?_) (EE (Kq (Af rfl (Af (x:=.list (Ag (FQ a b).ls)) (BK (x:=.list (Ag a.ls)) (y:=.list (Ag b.ls)) rfl rfl ?_) rfl)) (show 2<=1000 by decide)))
 .refine(BK (J4 (zs:=a.rs) (a:=BB) (g:=BB) rfl (by unfold Ci;lia) fun r _=>AZ (xs:=[BB r]) rfl rfl) (J4 (zs:=b.rs) (a:=BB) (g:=fun r=>BB (a.ls++r)) rfl (by unfold Ci;lia) fun r T=>?_) (add_l (by rw[(BW),(BW)];unfold Ci;lia))).trans ?_
  .have:=B.gB r T;refine BK (x:=.list (Ag a.ls)) (y:=BB r) rfl rfl ((add_l (by rw[Bt,Bt];unfold Ci;lia)).trans ?_);rw[BB,Jk]
  .rw[FQ,A2,(Fo),(Hc)];rfl
 .refine(add_l (by rw[Bt,Bt];unfold Ci;lia)).trans ?_;rw[FQ,Jk]
theorem lZ(x:IR)(n:Nat)(h:n<=500):Ef (.list [x]) (.int (n:Nat))=some (.list (List.replicate n x)):=by
 have g:(List.replicate n [x]).flatten=List.replicate n x:=by
  clear h
  induction n with
  |zero=>rfl
  |succ n B=>rw[(PD),(Qx),B];rfl
 show(match W5 (.list [x]) (.int (n:Nat)) with|some z=>some z|none=>XI (.list [x]) (.int (n:Nat)))=_;refine(if_pos ⟨by unfold Ci;simp;lia,by lia,by lia⟩).trans ?_;rw[(ML),g]
theorem eI{i:Nat}{f:FB}{δ:Dv}{xs zs:Ch}(h:f δ=some (.list zs))(k:ow i δ=some xs)(g:xs.length+zs.length<=Ci):Qe i f δ=some (.nx (δ.set i (.own (.lst (xs++zs))))):=by
 show(f δ).bind _=_;rw[h];show(ow i δ).bind _=_;rw[k];exact if_pos g
theorem PY:AK 0=.tuple [.int 0,.int 1]:=by kernel_rfl
abbrev tW:DF:=Ai (Ba 6 (Ae Ef (Nl (AA (B9 (AA Go (AA Do AG))) AG)) (Xw 4)))
  (Ai (Qe 3 (Dq (Cg 1) FL (Ae Ct (nm 2) (nm 1)) [none,none,some 6] (DK (Ae CC (nm 2) Go))))
  (Qe 4 (AI ir (AA (Ae CC (nm 2) Do) (AA (nm 5) AG)))))
theorem Vv{x0 x1:L}{R:List (List Rat)}{Ls:List Rat}{l6:L}(B:t.Ok m)(hm:m<=40)(Z:t.Fits 190)(U:FM.Fits p 190)(hR:R.length<=80)(hL:Ls.length<=80) :
  ∃g,tW [x0,x1,.d (AY t),.own (.lst (A2 R)),.own (.lst (Ag Ls)),.d (AK p),l6]=some (.nx [x0,x1,.d (AY t),.own (.lst (A2 (R++t.rs.map (List.replicate Ls.length 0 ++ ·)))),.own (.lst (Ag (Ls++t.ls.map fun q=>q*p))),.d (AK p),g]):=by
 have hl:=B.last;have Y:=B.most;refine⟨.d (.list (Ag (List.replicate Ls.length 0))),Ah (Bu (y:=.list (Ag (List.replicate Ls.length 0))) (BK (x:=.list [AK 0]) (y:=.int (Ls.length:Nat)) (by rw[PY];rfl) (by show some (PyData.int ((Ag Ls).length:Nat))=_;rw[Bt]) ((lZ _ _ AS).trans ?_))) ?_⟩
 .rw[Ag,List.map_replicate]
 refine Ah (eI (zs:=t.rs.map fun r=>BB (List.replicate Ls.length 0++r)) (xs:=A2 R) (J4 (zs:=t.rs) (a:=BB) rfl (by unfold Ci;lia) fun r T=>?_) rfl (by rw[(BW),Dj];unfold Ci;lia)) ?_
 .have:=B.gB r T;refine BK (x:=.list (Ag (List.replicate Ls.length 0))) (y:=BB r) rfl rfl ((add_l (by rw[Bt,Bt,(W2)];unfold Ci;lia)).trans ?_);rw[BB,Jk]
 .refine(eI (zs:=Ag (t.ls.map fun q=>q*p)) (xs:=Ag Ls) (AZ (xs:=[BB t.ls,AK p]) rfl (Vb AS Z.2 U)) rfl (by rw[Bt,Bt,(BW)];unfold Ci;lia)).trans ?_;have e:A2 (R++t.rs.map (List.replicate Ls.length 0 ++ ·))=A2 R++t.rs.map fun r=>BB (List.replicate Ls.length 0++r):=by rw[A2,(Fo),(Hc)];rfl
  rw[e,Jk];rfl
theorem i9{fs:Fp}{set:KM}{F:DF}{δ δ1 g I B:Dv}{x y:IR}(h:fs δ=some [x,y])(Y:set x δ=some δ1)(U:F δ1=some (.nx g))(T:set y g=some I)(R:F I=some (.nx B)):DR fs set F δ=some (.nx B):=by
 show(fs δ).bind _=_;rw[h];show De set F [x,y] δ=_;unfold De;rw[Y,(Gq),U];show De set F [y] g=_;unfold De;rw[T,(Gq),R]
 rfl
abbrev rM:List PyData->Option PyData:=C3 SF lL ir
theorem rB{p q:Rat}(ha:a.Ok m)(hm:m<=40)(g:b.Ok n)(hn:n<=40)(fa:a.Fits 190)(fb:b.Fits 190)(hp:FM.Fits p 190)(Z:FM.Fits q 190)(h:a.rs.length+b.rs.length<=40):rM [.list [AY a,AY b],.list [AK p,AK q]]=some (AY (JU a p b q)):=by
 have ea:=ha.last;have eb:=g.last;have h1:=ha.most;refine DY rfl ?_;unfold Ny;refine Ah (i9 (x:=AY a) (y:=AY b) rfl rfl (Jy (ds:=[AY a]) rfl (Jw ha hm)) rfl (Jy (ds:=[AY b]) rfl (Jw g hn))) ?_;refine Ah (GX (Pn (C8 (x:=.int 2) (y:=.int 0) rfl rfl (YX _ _)) (C8 (x:=.int 2) (y:=.int 2) rfl rfl (ne_self (n:=0) .int As))) rfl) ?_;refine Ah (Jy (ds:=[.list [AY a,AY b]]) rfl (iT h)) (Ah rfl (Ah rfl ?_));obtain⟨Y,e1⟩:=Vv (t:=a) (p:=p) (x0:=.d (.list [AY a,AY b])) (x1:=.d (.list [AK p,AK q])) (R:=[]) (Ls:=[]) (l6:=.no) ha hm fa hp As As;obtain⟨l2,e2⟩:=Vv (t:=b) (p:=q) (x0:=.d (.list [AY a,AY b])) (x1:=.d (.list [AK p,AK q])) (R:=[]++a.rs.map (List.replicate ([]:List Rat).length 0 ++ ·)) (Ls:=[]++a.ls.map fun q=>q*p) (l6:=Y) g hn fb Z (by simp;lia) (by simp;lia);refine Ah (i9 (x:=.tuple [AY a,AK p]) (y:=.tuple [AY b,AK q]) rfl rfl e1 rfl e2) ?_;show some (Ou.rt (.tuple [.list (A2 _),.list (Ag _)]))=some (Ou.rt (AY (JU a p b q)))
 congr 2
 rw[AY,JU];simp[ea]
theorem WG(T:t.Fits m)(R:FM.Fits p n):(C1 t p).Fits (m+n):=by
 refine⟨fun r Y q B=>?_,fun q B=>?_⟩
 .obtain⟨U,Z,rfl⟩:=aK.mp Y;obtain⟨g,I,rfl⟩:=aK.mp B;exact(T.1 U Z g I).times R
 .obtain⟨g,I,rfl⟩:=aK.mp B;exact(T.2 g I).times R
theorem WL(ha:a.Fits n)(I:b.Fits n):(FQ a b).Fits n:=by
 refine⟨fun r g q B=>?_,fun q B=>(aU.mp B).elim (ha.2 q) (I.2 q)⟩;rcases aU.mp g with g|g
 .exact ha.1 r g q B
 .obtain⟨R,T,rfl⟩:=aK.mp g;exact(aU.mp B).elim (ha.2 q) (I.1 R T q)
abbrev ig:List PyData->Option PyData:=Bw Wh pJ SF cX rM Va
theorem Yu:AK GD=.tuple [.int 1,.int 2]:=by kernel_rfl
theorem Lr:FM.Fits GD 2:=⟨by decide +kernel,by decide +kernel⟩
def O3(p:Nat):Rat:=Rat.divInt (2^p) (2^p-1)
def OZ(p:Nat):Rat:=Rat.divInt (-1) (2^p-1)
theorem X9:∀p,p<7->FM.Fits (O3 p) 7/\FM.Fits (OZ p) 7:=by unfold FM.Fits;decide +kernel
theorem oQ:∀p,p<7->1<=p->O3 p+OZ p=1/\O3 p*(2*GD^(p+1))+OZ p=0:=by decide +kernel
theorem i6{p:Nat}(o:t.Ok m)(hm:3*m<=40)(I:t.Fits 180)(Y:1<=p)(h6:p<=6):ig [AY t,.int (p:Nat)]=some (AY (Te t (O3 p) (OZ p))):=by
 have f2:t.Fits 190:=⟨fun r B q g=>(I.1 r B q g).mono,fun q g=>(I.2 q g).mono⟩;have f3:=WG I Lr;have T:(C1 t GD).Fits 190:=⟨fun r B q g=>(f3.1 r B q g).mono,fun q g=>(f3.2 q g).mono⟩;have Z:=o.most;have e0:(C1 t GD).rs.length=t.rs.length:=bL _;have os:=M9 o GD;have ob:=VG os os;have e2:=Yp os os;have k:=X9 p AS;refine DY rfl ?_;unfold KY;refine Ah (Jy (ds:=[AY t]) rfl (Jw o AS)) (Ah (GX (Pn (C8 (x:=.int (p:Nat)) (y:=.int 1) (b:=false) rfl rfl ?_) (C8 (x:=.int (p:Nat)) (y:=.int 6) rfl rfl ?_)) rfl) ?_)
 .show some (PyData.bool (decide _))=_;rw[decide_eq_false AS]
 .show some (PyData.bool (decide _))=_;rw[decide_eq_false AS]
 refine Ah (Bu (y:=AY (C1 t GD)) (AZ (xs:=[AY t,AK GD]) (by rw[Yu];rfl) (eN o AS f2 (Lr.mono)))) ?_;refine Ah (Bu (y:=.int ((2:Int)^p)) (AZ (xs:=[.int 2,.int (p:Nat)]) rfl ((if_pos ⟨by decide,by lia,by lia⟩).trans (by rw[(ML)])))) ?_;have U:2<=(2:Int)^p/\(2:Int)^p<=64:=by
  have:∀p,p<7->1<=p->2<=(2:Int)^p/\(2:Int)^p<=64:=by decide
  exact this p AS Y
 have R:((2:Int)^p-1).natAbs<2^400:=aI (show _<2^7 by lia) (aS As As);refine Ah (Bu (y:=.list [AK (O3 p),AK (OZ p)]) (Yv (Af (AZ (xs:=[.int ((2:Int)^p),.int ((2:Int)^p-1)]) rfl (Ov AS R)) (Af (AZ (xs:=[.int (-1),.int ((2:Int)^p-1)]) rfl (Ov AS R)) rfl)) (show 2<=1000 by decide))) ?_;refine EE (AZ (xs:=[.list [AY (FQ (C1 t GD) (C1 t GD)),AY t],.list [AK (O3 p),AK (OZ p)]]) (Af (Yv (Af (AZ (xs:=[AY (C1 t GD),AY (C1 t GD)]) rfl (i5 os AS os AS AS)) (Af rfl rfl)) (show 2<=1000 by decide)) (Af rfl rfl)) (rB ob AS o AS (WL T T) f2 (k.1.mono) (k.2.mono) AS))
end
abbrev Yh:List PyData->Option PyData:=BL YG
theorem mD:(List.range 7).map (fun n=>Yh [.int (n:Nat)])=(List.range 7).map fun n=>some (Hd (Av n)):=by kernel_rfl
theorem ZW{n:Nat}(hn:n<=6):Yh [.int (n:Nat)]=some (Hd (Av n)):=bK.mp mD n (bD.mpr AS)
theorem SD:∀n,n<7->(Av n).length<=100/\∀u∈Av n,u∈Av 6/\u.AE<=n:=by decide +kernel
abbrev ou:List PyData->Option PyData:=Ce Yh SR
theorem qu{n:Nat}(hn:n<=6):ou [.int (n:Nat)]=some (ID ((Av n).map GK)):=by
 have h:=SD n AS;refine DY rfl ?_;unfold Lq;exact EE (AZ (xs:=[Hd (Av n)]) (Af (AZ (xs:=[.int (n:Nat)]) rfl (ZW hn)) rfl) (YJ (fun u g=>(h.2 u g).1) AS))
noncomputable abbrev mv:List PyData->Option PyData:=CP SF Yh US
theorem qd{t:Tb}(h:t.Wu){n:Nat}(hn:n<=6):mv [AY t,.int (n:Nat)]=some (ID ((Av n).map (Hm t))):=by
 have k:=SD n AS;have⟨m,_,_,o,hm,_⟩:=h;refine DY rfl ?_;unfold Kz;exact Ah (Jy (ds:=[AY t]) rfl (Jw o hm)) (EE (AZ (xs:=[AY t,Hd (Av n)]) (Af rfl (Af (AZ (xs:=[.int (n:Nat)]) rfl (ZW hn)) rfl)) (ee h (fun u g=>(k.2 u g).1) AS)))
theorem Wg:∀u∈Av 6,GK u=eT u:=by decide +kernel
theorem VR{t:Tb}(h:t.Wu)(u:Tr):Hm t u=wT t u:=by
 obtain⟨m,n,k,o,_,f,_⟩:=h;have b:=YQ f o;exact my o b.2.2 b.1 u
theorem qp:(Av 6).Pairwise fun u v=>u.AE<=v.AE:=by decide +kernel
theorem V5{α:Type}{p:α->Bool}{k:α->Nat}:∀ {l:List α} {x:α},l.Pairwise (fun u v=>k u<=k v)->l.find? p=some x->∀y∈l,k y<k x->p y=false
 |[],_,_,h,_,_,_=>by cases h
 |a::l,x,B,h,y,g,I=>by
  obtain⟨T,R⟩:=bj.mp B;cases e:p a with
  |true=>
   rw[List.find?_cons,e]at h;cases h;rcases aQ.mp g with rfl|g
   .lia
   .have:=T y g;lia
  |false=>
   rw[List.find?_cons,e]at h;rcases aQ.mp g with rfl|g
   .exact e
   .exact V5 R h y g I
def Cc(t:Tb):Nat:=match (Av 6).find? (Df t) with
 |some u=>u.AE-1
 |none=>6
theorem Wc{t:Tb}(h:t.Wu){u:Tr}(g:u∈Av 6):Df t u=!decide (wT t u=eT u):=by unfold Df;rw[VR h,Wg u g]
theorem jz{t:Tb}(h:t.Wu){v:Tr}(g:v∈Av 6)(B:v.AE<=Cc t):wT t v=eT v:=by
 have e:Df t v=false:=by
  unfold Cc at B;cases z:(Av 6).find? (Df t) with
  |none=>simpa using List.find?_eq_none.mp z v g
  |some u=>
   rw[z]at B;have:=Gr u;exact V5 qp z v g (by simp only at B;lia)
 rw[Wc h g]at e
 simpa using e
theorem nZ{t:Tb}(h:t.Wu){p:Nat}(I:p<=6)(k:∀v∈Av 6,v.AE<=p->wT t v=eT v):p<=Cc t:=by
 unfold Cc;cases z:(Av 6).find? (Df t) with
 |none=>exact I
 |some u=>
  have B:=bI z;have g:=List.find?_some z;rw[Wc h B]at g;by_cases q:u.AE<=p
  .rw[k u B q]at g;simp at g
  .show p<=u.AE-1;lia
theorem VA(t:Tb):Hx t=.tuple [.int (Cc t:Nat),U9 ((Av 6).find? (Df t))]:=by
 unfold Hx Cc;cases (Av 6).find? (Df t)<;>rfl
def Iz(D:Int)(N:Nat)(r:Rat):Prop:=∃t:Int,r*(D:Rat)=(t:Rat)/\t.natAbs<=2^N
def Sz(r:Rat):Prop:=r.num.natAbs<2^4000/\r.den<2^190
theorem Iz.sz{D:Int}{N:Nat}{r:Rat}(h:Iz D N r)(T:1<=D)(g:D.natAbs<2^190)(B:N<4000):Sz r:=by
 obtain⟨t,U,I⟩:=h;have h0:D≠0:=by lia
 have e:=RX h0 t;have R:(D:Rat)≠0:=fun z=>h0 (Rat.intCast_inj.mp (z.trans Rat.intCast_zero.symm));have:r=Rat.divInt t D:=by
  generalize Rat.divInt t D=q at e
  grind
 rw[this];exact⟨aP (FM.RH h0) (aP I (Nat.pow_lt_pow_right As B)),Nat.lt_of_le_of_lt (FM.SE h0) g⟩
theorem Iz.mul{R I:Int}{B g:Nat}{r q:Rat}(h:Iz R B r)(k:Iz I g q):Iz (R*I) (B+g) (r*q):=by
 obtain⟨t,Z,Y⟩:=h;obtain⟨u,U,T⟩:=k;refine⟨t*u,?_,?_⟩
 .rw[(Qd),(Qd),<-Z,<-U];grind
 .rw[(Q6),Nat.pow_add];exact Nat.mul_le_mul Y T
theorem Iz.mono{D:Int}{M N:Nat}{r:Rat}(h:Iz D M r)(g:M<=N):Iz D N r:=let⟨t,I,B⟩:=h;⟨t,I,Nat.le_trans B (aS As g)⟩
theorem Iz.Ak{D:Int}{N:Nat}{f:Nat->Rat}:∀ {n:Nat},(∀j,j<n->Iz D N (f j))->∃t:Int,Ak n f*(D:Rat)=(t:Rat)/\t.natAbs<=n*2^N
 |0,_=>⟨0,by rw[Q96.Ak,(L9)];rfl,by simp⟩
 |n+1,h=>by
  obtain⟨t,B,T⟩:=Iz.Ak (n:=n) fun j R=>h j AS;obtain⟨u,g,I⟩:=h n AS;refine⟨t+u,by rw[Q96.Ak,Rat.add_mul,B,g,Rat.intCast_add],?_⟩;have:=Int.natAbs_add_le t u;rw[Nat.add_mul,Nat.one_mul]
  lia
theorem Iz.mY{D:Int}{N n:Nat}{f:Nat->Rat}(h:∀j,j<n->Iz D N (f j))(hn:n<=32):Iz D (N+5) (Q96.Ak n f):=by
 obtain⟨t,B,g⟩:=Iz.Ak h;refine⟨t,B,Nat.le_trans g ?_⟩;rw[Nat.pow_add,Nat.mul_comm (2^N)];exact Nat.mul_le_mul_right _ hn
structure Zt(D:Int)(t:Tb):Prop where
 d1:1<=D
 d2:D.natAbs<2^30
 n:t.rs.length<=32
 A:∀k j,Iz D 60 (A0 t k j)
 L:∀j,Iz D 60 (BP t.ls j)
section
variable{D:Int}{t:Tb}(z:Zt D t)
include z
theorem Zt.pow(e:Nat):1<=D^e:=Int.pow_pos z.d1
theorem Zt.gU{e:Nat}(h:e<=6):(D^e).natAbs<2^190:=by
 rw[Int.natAbs_pow];exact aP (Nat.pow_le_pow_left (av z.d2) e) (by rw[<-Nat.pow_mul];exact Nat.pow_lt_pow_right As AS)
theorem Zt.below{b:Tr}{k m:Nat}(h:∀j,Iz (D^(b.AE-1)) (65*(b.AE-1)) (Al (A0 t) t.rs.length b j))(hm:m<=32):Iz (D^b.AE) (65*b.AE) (Ak m Fk):=by
 have:=Gr b;have e:D^b.AE=D*D^(b.AE-1):=by rw[Int.mul_comm,<-Int.pow_succ];congr 1;lia
 have:=Iz.mY (n:=m) (fun j _=>(z.A k j).mul (h j)) hm;rw[<-e]at this;exact this.mono AS
theorem Zt.Al:∀(u:Tr) (k:Nat),Iz (D^(u.AE-1)) (65*(u.AE-1)) (Al (A0 t) t.rs.length u k)
 |.nil,k=>⟨1,by show(1:Rat)*((D^0:Int):Rat)=_;rw[Int.pow_zero,Rat.one_mul],Nat.one_le_two_pow⟩
 |.cons b r,k=>by
  have B:=z.below (k:=k) (Zt.Al b) z.n;have g:=Zt.Al r k;have:=Gr r;have e:(Tr.cons b r).AE=b.AE+r.AE:=rfl;have:=B.mul g;rw[<-Int.pow_add]at this;rw[e,show b.AE+r.AE-1=b.AE+(r.AE-1) by lia];exact this.mono AS
theorem Zt.wt(u:Tr){m:Nat}(hm:m<=32):Iz (D^u.AE) (65*u.AE) (Ak m fun j=>BP t.ls j*Q96.Al (A0 t) t.rs.length u j):=by
 have:=Gr u;have e:D^u.AE=D*D^(u.AE-1):=by rw[Int.mul_comm,<-Int.pow_succ];congr 1;lia
 have:=Iz.mY (n:=m) (fun j _=>(z.L j).mul (z.Al u j)) hm;rw[<-e]at this;exact this.mono AS
end
abbrev OB:List PyData->Option PyData:=A5 Wh
abbrev J5:List PyData->Option PyData:=An Wh
theorem Sz.d{p:Rat}(h:Sz p):((p.den:Int)).natAbs<2^4000:=aI (show(p.den:Int).natAbs<2^190 by simpa using h.2) (aS As As)
theorem iU{p q:Rat}(B:Sz p)(g:Sz q):((p.den:Int)*q.den).natAbs<2^400:=aI (FM.II (m:=190) (n:=190) (by simpa using B.2) (by simpa using g.2)) (aS As As)
theorem U5{p q:Rat}(B:Sz p)(g:Sz q):J5 [AK p,AK q]=some (AK (p*q)):=by
 refine DY rfl ?_;unfold Og;refine EE (AZ (xs:=[.int (p.num*q.num),.int ((p.den:Int)*q.den)]) (Af (BK (x:=.int p.num) (y:=.int q.num) rfl rfl (Qf B.1 g.1 As)) (Af (BK (x:=.int (p.den:Int)) (y:=.int (q.den:Int)) rfl rfl (Qf B.d g.d As)) rfl)) ?_);refine(Ov (FM.HD p q) (iU B g)).trans ?_;rw[FM.NY]
theorem Zs{p q:Rat}(B:Sz p)(g:Sz q):OB [AK p,AK q]=some (AK (p+q)):=by
 refine DY rfl ?_;unfold SI;refine EE (AZ (xs:=[.int (p.num*q.den+q.num*p.den),.int ((p.den:Int)*q.den)]) (Af (BK (x:=.int (p.num*q.den)) (y:=.int (q.num*p.den)) (BK (x:=.int p.num) (y:=.int (q.den:Int)) rfl rfl (Qf B.1 g.d As)) (BK (x:=.int q.num) (y:=.int (p.den:Int)) rfl rfl (Qf g.1 B.d As)) rfl) (Af (BK (x:=.int (p.den:Int)) (y:=.int (q.den:Int)) rfl rfl (Qf B.d g.d As)) rfl)) ?_);refine(Ov (FM.HD p q) (iU B g)).trans ?_;rw[FM.We]
theorem qR{xs:Ch}{i:Nat}{y:IR}(h:xs[i]? = some y):CC (.list xs) (.int (i:Nat))=some y:=Th h
theorem fh{i p:Nat}{g:FB}{δ:Dv}{y:IR}{xs:Ch}(h:g δ=some (.int (p:Nat)))(o:ow i δ=some xs)(k:xs[p]? = some y):RS i g δ=some y:=by
 show(g δ).bind _=_;rw[h];show(ow i δ).bind _=_;rw[o];exact Th k
theorem UO{set:KM}{F:DF}{x:IR}{xs:Ch}{δ δ1 g:Dv}(I:set x δ=some δ1)(B:F δ1=some (.nx g)):De set F (x::xs) δ=De set F xs g:=by rw[De,I,(Gq),B]
def DL(n:Nat)(g:Nat->Rat):List PyData:=(List.range n).map fun k=>AK (g k)
theorem Mr(n:Nat)(g:Nat->Rat):(DL n g).length=n:=by unfold DL;rw[(BW),(Qm)]
theorem Mz{n k:Nat}(g:Nat->Rat)(h:k<n):(DL n g)[k]? = some (AK (g k)):=by unfold DL;rw[(B7),List.getElem?_range h];rfl
theorem j7{n i:Nat}(g:Nat->Rat)(v:Rat):(DL n g).set i (AK v)=DL n (fun k=>if k=i then v else g k):=by
 apply List.ext_getElem?;intro k;rw[List.getElem?_set,Mr];by_cases B:k<n
 .by_cases e:i=k
  .subst e;rw[if_pos rfl,if_pos B,Mz _ B,if_pos rfl]
  .rw[if_neg e,Mz _ B,Mz _ B,if_neg (fun q=>e q.symm)]
 .rw[List.getElem?_eq_none (l:=DL n _) (by rw[Mr];lia),List.getElem?_eq_none (l:=DL n _) (by rw[Mr];lia)];split
  .rw[if_neg AS]
  .rfl
theorem gp{r:List Rat}{j:Nat}(h:j<r.length):(Ag r)[j]? = some (AK (BP r j)):=by
 unfold Ag BP;rw[(B7),List.getElem?_eq_getElem h];simp[h]
theorem WK{r:List Rat}{φ:Nat->Rat}{n:Nat}{F:DF}{S:KM}{mk:PyData->L->L->Dv}(hn:r.length<=n)(Y:∀x y s a b,S (.tuple [x,y]) (mk s a b)=some (mk s (.d x) (.d y)))
 (Z:∀j,j<r.length->F (mk (AK (Ak j fun j=>BP r j*φ j)) (.d (AK (BP r j))) (.d (AK (φ j))))=some (.nx (mk (AK (Ak (j+1) fun j=>BP r j*φ j)) (.d (AK (BP r j))) (.d (AK (φ j))))))(a b:L) :
  ∃I B,De S F (IW (Ag r) (DL n φ)) (mk (AK 0) a b)=some (.nx (mk (AK (Ak r.length fun j=>BP r j*φ j)) I B)):=by
 obtain⟨T,g,I,B,rfl⟩:=QS (F:=F) (set:=S) (fun i δ=>∃a b,δ=mk (AK (Ak i fun j=>BP r j*φ j)) a b) (IW (Ag r) (DL n φ)) (mk (AK 0) a b) 0 ⟨a,b,rfl⟩ (by
  rintro i x δ U ⟨a,b,rfl⟩;obtain⟨u,v,g,R,rfl⟩:=QW U;have hi:i<r.length:=by
   have:=(aD.mp g).1
   rwa [Bt]at this
  rw[gp hi]at g;rw[Mz _ AS]at R;cases g;cases R;rw[Nat.zero_add];exact⟨_,_,Y _ _ _ _ _,Z i hi,_,_,rfl⟩)
 refine⟨I,B,g.trans ?_⟩;have:(IW (Ag r) (DL n φ)).length=r.length:=by unfold IW;rw[(BW),List.length_zip,Bt,Mr];lia
 rw[this,Nat.zero_add]
abbrev XH(n:Nat):List PyData->Option PyData:=B2 OB J5 n
section
variable{D:Int}{t:Tb}{m:Nat}(z:Zt D t)(o:t.Ok m)
include z o
theorem NO{e:Nat}{r:Rat}(h:Iz (D^e) (65*e) r)(g:e<=6):Sz r:=h.sz (z.pow e) (z.gU g) AS
theorem mJ(k j:Nat):Sz (A0 t k j):=(z.A k j).sz z.d1 (aI z.d2 (aS As As)) As
theorem jd{k:Nat}{r:List Rat}(h:t.rs[k]? = some r)(b:Tr):Ak r.length (fun j=>BP r j*Al (A0 t) t.rs.length b j)=Ak t.rs.length Fk:=by
 have I:=o.row k r h;have B:=(aD.mp h).1;rw[Wd (n:=r.length) (m:=t.rs.length) AS (f:=fun j=>A0 t k j*Al (A0 t) t.rs.length b j) fun j g=>by rw[EX h,Pt g,(L9)]];exact A8 fun j _=>by rw[EX h]
abbrev rG(w:AC):DF:=(DR (Cj NT (AA (AI Gy (AA JB AG)) AG)) (HY 5)
   (Ai (Ba 6 (B9 (AA Go (AA Do AG))))
   (Ai (DR (Cj zip2 (AA (Ae CC JB (nm 5)) (AA (nm 4) AG))) (Gj 7 8)
    (Ba 6 (AI OB (AA (nm 6) (AA (AI J5 (AA (nm 7) (AA (nm 8) AG))) AG)))))
   (WB 2 (AI J5 (AA (RS 2 (nm 5)) (AA (nm 6) AG))) (nm 5)))))
theorem qF{b:Tr}{e:Nat}{g:Nat->Rat}(hg:∀k,Iz (D^e) (65*e) (g k))(he:e+b.AE<=5)(T R l5 l6 I B:L) :
  ∃l5' Z Y U,rG J5 [.d (.list (A2 t.rs)),T,.own (.lst (DL t.rs.length g)),R,.d HS,l5,l6,I,B]=some (.nx [.d (.list (A2 t.rs)),T,.own (.lst (DL t.rs.length fun k=>g k*Ak t.rs.length Fk)),R,.d HS,l5',Z,Y,U]):=by
 have hn:=z.n;have kb:=Gr b;obtain⟨δ',h1,l5',Z,Y,U,rfl⟩:=lF (set:=HY 5) (F:=(Ai (Ba 6 (B9 (AA Go (AA Do AG))))
   (Ai (DR (Cj zip2 (AA (Ae CC JB (nm 5)) (AA (nm 4) AG))) (Gj 7 8)
    (Ba 6 (AI OB (AA (nm 6) (AA (AI J5 (AA (nm 7) (AA (nm 8) AG))) AG)))))
   (WB 2 (AI J5 (AA (RS 2 (nm 5)) (AA (nm 6) AG))) (nm 5))))) (fs:=Cj NT (AA (AI Gy (AA JB AG)) AG)) (xs:=Ib 0 t.rs.length) (δ:=[.d (.list (A2 t.rs)),T,.own (.lst (DL t.rs.length g)),R,.d HS,l5,l6,I,B])
  (fun i δ=>∃l5 l6 I B,δ=[.d (.list (A2 t.rs)),T,.own (.lst (DL t.rs.length fun k=>if k<i then g k*Ak t.rs.length Fk else g k)),R,.d HS,l5,l6,I,B]) (by
   refine(lx (j:=((A2 t.rs).length:Nat)) rfl AS (by rw[Dj];lia)).trans ?_;rw[Dj,(ML)]) ⟨_,_,_,_,rfl⟩ (by
   rintro i x δ hx ⟨l5,l6,I,B,rfl⟩;obtain⟨rfl,hi⟩:=YU hx;rw[Int.zero_add];have hr:t.rs[i]? = some t.rs[i]:=aM hi;generalize t.rs[i]=r at hr;have hk:=o.row i r hr;refine⟨_,rfl,iI (Bu (y:=AK 0) (by rw[PY];rfl)) ?_⟩;have tb:=EX hr;have pz:∀j,j<=r.length->Iz (D^b.AE) (65*b.AE) (Ak j fun j=>BP r j*Al (A0 t) t.rs.length b j):=fun j hj=>by
    have:=z.below (k:=i) (z.Al b) (m:=j) AS
    rwa [A8 (g:=fun j=>BP r j*Al (A0 t) t.rs.length b j) fun j _=>by rw[tb]]at this
   have ez:∀j,Sz (BP r j):=fun j=>tb j ▸ mJ z o i j
   have fz:∀j,Sz (Al (A0 t) t.rs.length b j):=fun j=>NO z o (z.Al b j) AS;have dz:∀j,Sz (BP r j*Al (A0 t) t.rs.length b j):=fun j=>by
    have:=(z.A i j).mul (z.Al b j);rw[tb,Int.mul_comm,<-Int.pow_succ]at this;exact(this.mono (N:=65*(b.AE-1+1)) AS).sz (z.pow _) (z.gU AS) AS
   obtain⟨a',b',h2⟩:=WK (r:=r) (φ:=Al (A0 t) t.rs.length b) (n:=t.rs.length) (S:=Gj 7 8) (F:=(Ba 6 (AI OB (AA (nm 6) (AA (AI J5 (AA (nm 7) (AA (nm 8) AG))) AG)))))
    (mk:=fun s a b'=>[.d (.list (A2 t.rs)),T,.own (.lst (DL t.rs.length fun k=>if k<i then g k*Ak t.rs.length Fk else g k)),R,.d HS,.d (.int (i:Nat)),.d s,a,b']) AS (fun _ _ _ _ _=>rfl) (fun j hj=>Bu (AZ (xs:=[AK (Ak j fun j=>BP r j*Al (A0 t) t.rs.length b j),AK (BP r j*Al (A0 t) t.rs.length b j)]) (Af rfl (Af (AZ (xs:=[AK (BP r j),AK (Al (A0 t) t.rs.length b j)]) rfl (U5 (ez j) (fz j))) rfl)) (Zs (NO z o (pz j AS) AS) (dz j)))) I B
   have h3:DR (Cj zip2 (AA (Ae CC JB (nm 5)) (AA (nm 4) AG))) (Gj 7 8) (Ba 6 (AI OB (AA (nm 6) (AA (AI J5 (AA (nm 7) (AA (nm 8) AG))) AG)))) [.d (.list (A2 t.rs)),T,.own (.lst (DL t.rs.length fun k=>if k<i then g k*Ak t.rs.length Fk else g k)),R,.d HS,.d (.int (i:Nat)),.d (AK 0),I,B]=some (.nx [.d (.list (A2 t.rs)),T,.own (.lst (DL t.rs.length fun k=>if k<i then g k*Ak t.rs.length Fk else g k)),R,.d HS,.d (.int (i:Nat)),.d (AK (Ak r.length fun j=>BP r j*Al (A0 t) t.rs.length b j)),a',b']):=by
    refine Eq.trans ?_ h2;show(Cj zip2 _ _).bind _=_;have:Cj zip2 (AA (Ae CC JB (nm 5)) (AA (nm 4) AG)) [.d (.list (A2 t.rs)),T,.own (.lst (DL t.rs.length fun k=>if k<i then g k*Ak t.rs.length Fk else g k)),R,.d HS,.d (.int (i:Nat)),.d (AK 0),I,B]=some (IW (Ag r) (DL t.rs.length (Al (A0 t) t.rs.length b))):=by
     show(AA _ _ _).bind zip2=_;rw[Af (x:=BB r) (BK (x:=.list (A2 t.rs)) (y:=.int (i:Nat)) rfl rfl (qR (by rw[A2,(B7),hr];rfl))) (Af rfl rfl)]
     rfl
    rw[this];rfl
   refine iI h3 ⟨_,oO (y:=AK (g i*Ak t.rs.length (fun j=>A0 t i j*Al (A0 t) t.rs.length b j))) (AZ (xs:=[AK (g i),AK (Ak r.length fun j=>BP r j*Al (A0 t) t.rs.length b j)]) (Af (fh rfl rfl ((Mz _ hi).trans (by rw[if_neg (Nat.lt_irrefl i)]))) (Af rfl rfl)) ((U5 (NO z o (hg i) AS) (NO z o (pz _ (aH _)) AS)).trans (by rw[jd z o hr]))) rfl rfl (by rw[Mr];exact hi),.d (.int (i:Nat)),.d (AK (Ak r.length fun j=>BP r j*Al (A0 t) t.rs.length b j)),a',b',?_⟩;rw[j7];have:(fun k=>if k=i then g i*Ak t.rs.length (fun j=>A0 t i j*Al (A0 t) t.rs.length b j) else if k<i then g k*Ak t.rs.length Fk else g k)=fun k=>if k<i+1 then g k*Ak t.rs.length Fk else g k:=funext fun k=>by
    by_cases e1:k=i
    .subst e1;rw[if_pos rfl,if_pos AS]
    .rw[if_neg e1];by_cases e2:k<i
     .rw[if_pos e2,if_pos AS]
     .rw[if_neg e2,if_neg AS]
   rw[this]
   rfl)
 refine⟨l5',Z,Y,U,h1.trans ?_⟩;have:DL t.rs.length (fun k=>if k<(Ib 0 t.rs.length).length then g k*Ak t.rs.length Fk else g k)=DL t.rs.length (fun k=>g k*Ak t.rs.length Fk):=List.map_congr_left fun k hk=>by
  refine ay AK (if_pos ?_);unfold Ib;simpa using bD.mp hk
 rw[this]
theorem X6{n:Nat}(ih:∀b:Tr,b.deep<n->b.AE<=6->XH n [.list (A2 t.rs),tD b]=some HS) :
  ∀(r:Tr) (e:Nat) (g:Nat->Rat) (B Y U T l6 R I:L),r.deep<=n->(∀k,Iz (D^e) (65*e) (g k))->e+r.AE<=6 ->
   ∃l3' l4' l5' l6' l7' Z,De (HY 3) (Ai (Ba 4 (AI (XH n) (AA JB (AA (nm 3) AG)))) (rG J5)) (L2.BB r) [.d (.list (A2 t.rs)),B,.own (.lst (DL t.rs.length g)),Y,U,T,l6,R,I]=some (.nx [.d (.list (A2 t.rs)),B,.own (.lst (DL t.rs.length fun k=>g k*Al (A0 t) t.rs.length r k)),l3',l4',l5',l6',l7',Z])
 |.nil,e,g,B,Y,U,T,l6,R,I,_,_,_=>⟨Y,U,T,l6,R,I,by
  have:(fun k=>g k*Al (A0 t) t.rs.length .nil k)=g:=funext fun k=>Rat.mul_one _;rw[this];rfl⟩
 |.cons b r,e,g,B,Y,U,T,l6,R,I,hd,hg,he=>by
  have hd':max (b.deep+1) r.deep<=n:=hd;have ek:(Tr.cons b r).AE=b.AE+r.AE:=rfl;have kr:=Gr r;obtain⟨a5,a6,a7,a8,h1⟩:=qF z o (b:=b) hg AS B (.d (tD b)) T l6 R I;obtain⟨b3,b4,b5,b6,b7,b8,h2⟩:=X6 ih r (e+b.AE) (fun k=>g k*Ak t.rs.length Fk) B (.d (tD b)) (.d HS) a5 a6 a7 a8 AS (fun k=>by
   have:=(hg k).mul (z.below (k:=k) (z.Al b) z.n);rw[<-Int.pow_add]at this;exact this.mono AS) AS
  refine⟨b3,b4,b5,b6,b7,b8,?_⟩;have e2:(fun k=>g k*Al (A0 t) t.rs.length (.cons b r) k)=fun k=>g k*Ak t.rs.length Fk*Al (A0 t) t.rs.length r k:=funext fun k=>by rw[Al,(MM)]
  rw[e2,<-h2];exact UO (x:=tD b) (xs:=L2.BB r) rfl (Ah (Bu (AZ (xs:=[.list (A2 t.rs),tD b]) rfl (ih b AS AS))) h1)
theorem jA:∀(n:Nat) (u:Tr),u.deep<n->u.AE<=6->XH n [.list (A2 t.rs),tD u]=some (.list (DL t.rs.length (Al (A0 t) t.rs.length u)))
 |0,_,h,_=>absurd h (ak _)
 |n+1,u,h,Z=>by
  have hn:=z.n;obtain⟨b3,b4,b5,b6,b7,b8,B⟩:=X6 z o (jA n) u 0 (fun _=>1) (.d (tD u)) .no .no .no .no .no .no AS (fun k=>⟨1,by rw[Int.pow_zero,Rat.one_mul],Nat.one_le_two_pow⟩) AS;have one:AK 1=.tuple [.int 1,.int 1]:=by kernel_rfl
  have e1:=LZ (i:=1) (δ:=[.d (.list (A2 t.rs)),.d (tD u),.no,.no,.no,.no,.no,.no,.no]) (fs:=DK JB) (f:=B9 (AA Do (AA Do AG))) (fr:=[none,none]) (zs:=t.rs) (a:=BB) (g:=fun _=>AK 1) rfl (by unfold Ci;lia) fun q Y=>by rw[one];rfl
  refine Pg (xs:=DL t.rs.length (Al (A0 t) t.rs.length u)) rfl ?_;unfold KD;have T:t.rs.map (fun _=>AK 1)=DL t.rs.length fun _=>1:=by
   unfold DL;rw[List.map_const',List.map_const',(Qm)]
  have R:(fun k=>1*Al (A0 t) t.rs.length u k)=Al (A0 t) t.rs.length u:=funext fun k=>Rat.one_mul _;rw[R]at B;refine Ah (δ':=[.d (.list (A2 t.rs)),.d (tD u),.own (.lst (DL t.rs.length fun _=>1)),.no,.no,.no,.no,.no,.no]) ?_ (Ah B rfl);show(FT _ _ _ _ _ _).map _=_;rw[<-T];exact(ay (Option.map _) e1).trans rfl
end
abbrev YM:List PyData->Option PyData:=Az 9
abbrev X3:List PyData->Option PyData:=Bl YM 9
theorem mM:(Av 6).map (fun u=>YM [tD u])=(Av 6).map fun u=>some (.int ((u.AE:Nat):Int)):=by kernel_rfl
theorem qL{u:Tr}(h:u∈Av 6):YM [tD u]=some (.int ((u.AE:Nat):Int)):=bK.mp mM u h
theorem pZ:(Av 6).map (fun u=>X3 [tD u])=(Av 6).map fun u=>some (.int ((Uh u:Nat):Int)):=by kernel_rfl
theorem qG{u:Tr}(h:u∈Av 6):X3 [tD u]=some (.int ((Uh u:Nat):Int)):=bK.mp pZ u h
abbrev ZK:List PyData->Option PyData:=Dp X3 YM OB J5 (XH 9) Yh
def fy(t:Tb):PyData->Option PyData
 |.tuple xs=>(E2 xs).bind fun u=>if Df t u then some (N0 u) else none
 |_=>none
theorem YE(t:Tb)(u:Tr):fy t (tD u)=if Df t u then some (N0 u) else none:=by
 show(E2 (L2.BB u)).bind _=_;rw[PX];rfl
theorem Wt(t:Tb):∀us:List Tr,(us.map tD).findSome? (fy t)=(us.find? (Df t)).map N0
 |[]=>rfl
 |u::us=>by
  rw[(CI),List.findSome?_cons,YE,List.find?_cons];cases Df t u with
  |true=>rfl
  |false=>exact Wt t us
section
variable{D:Int}{t:Tb}{m:Nat}(z:Zt D t)(o:t.Ok m)
include z o
theorem ko(j:Nat):Sz (BP t.ls j):=(z.L j).sz z.d1 (aI z.d2 (aS As As)) As
theorem qc{u:Tr}(h:u∈Av 6):Sz (wT t u):=NO z o (z.wt u z.n) (UQ u h).2.2.1
abbrev ZN:DF:=(Ai (Ba 2 (B9 (AA Go (AA Do AG))))
  (Ai (DR (Cj zip2 (AA (Ae CC JB Do) (AA (AI (XH 9) (AA (Ae CC JB Go) IO)) AG))) (Gj 3 4)
   (Ba 2 (AI OB (AA (nm 2) (AA (AI J5 (AA (nm 3) (AA (nm 4) AG))) AG)))))
  (Fv (Bg (Ez true) (nm 2) (B9 (AA Do (AA (AI X3 IO) AG))))
   (CA (B9 (AA (Ae Ot (AI YM IO) Do) IO)))
   DH)))
theorem kG{u:Tr}(Y:u∈Av 6)(R B:L):∃I g,DR (Cj zip2 (AA (Ae CC JB Do) (AA (AI (XH 9) (AA (Ae CC JB Go) IO)) AG))) (Gj 3 4)
   (Ba 2 (AI OB (AA (nm 2) (AA (AI J5 (AA (nm 3) (AA (nm 4) AG))) AG)))) [.d (AY t),.d (tD u),.d (AK 0),R,B]=some (.nx [.d (AY t),.d (tD u),.d (AK (wT t u)),I,g]):=by
 obtain⟨_,hd,hk,_⟩:=UQ u Y;have Z:=o.last;have hn:=z.n;have ku:=Gr u;have fz:∀j,Sz (Al (A0 t) t.rs.length u j):=fun j=>NO z o (z.Al u j) AS;have dz:∀j,Sz (BP t.ls j*Al (A0 t) t.rs.length u j):=fun j=>by
  have:=(z.L j).mul (z.Al u j);rw[Int.mul_comm,<-Int.pow_succ]at this;exact(this.mono (N:=65*(u.AE-1+1)) AS).sz (z.pow _) (z.gU AS) AS
 obtain⟨a',T,U⟩:=WK (r:=t.ls) (φ:=Al (A0 t) t.rs.length u) (n:=t.rs.length) (S:=Gj 3 4) (F:=(Ba 2 (AI OB (AA (nm 2) (AA (AI J5 (AA (nm 3) (AA (nm 4) AG))) AG)))))
  (mk:=fun s a T=>[.d (AY t),.d (tD u),.d s,a,T]) AS (fun _ _ _ _ _=>rfl) (fun j hj=>Bu (AZ (xs:=[AK (Ak j fun j=>BP t.ls j*Al (A0 t) t.rs.length u j),AK (BP t.ls j*Al (A0 t) t.rs.length u j)]) (Af rfl (Af (AZ (xs:=[AK (BP t.ls j),AK (Al (A0 t) t.rs.length u j)]) rfl (U5 (ko z o j) (fz j))) rfl)) (Zs (NO z o (z.wt u AS) AS) (dz j)))) R B
 rw[Z]at U;refine⟨a',T,Eq.trans ?_ U⟩;show(Cj zip2 _ _).bind _=_;have:Cj zip2 (AA (Ae CC JB Do) (AA (AI (XH 9) (AA (Ae CC JB Go) IO)) AG)) [.d (AY t),.d (tD u),.d (AK 0),R,B]=some (IW (Ag t.ls) (DL t.rs.length (Al (A0 t) t.rs.length u))):=by
  show(AA _ _ _).bind zip2=_;rw[Af (x:=BB t.ls) rfl (Af (AZ (xs:=[.list (A2 t.rs),tD u]) rfl (jA z o 9 u AS hk)) rfl)]
  rfl
 rw[this];rfl
theorem gH(h:t.Wu){u:Tr}(g:u∈Av 6)(Y I B:L):(Df t u=true/\ZN [.d (AY t),.d (tD u),Y,I,B]=some (.rt (N0 u)))\/(Df t u=false/\∃U T R,ZN [.d (AY t),.d (tD u),Y,I,B]=some (.nx [.d (AY t),.d (tD u),U,T,R])):=by
 obtain⟨a,b,h1⟩:=kG z o g I B;have e0:∀r,(∀c:Bool,Df t u=c->Fv (Bg (Ez true) (nm 2) (B9 (AA Do (AA (AI X3 IO) AG))))
   (CA (B9 (AA (Ae Ot (AI YM IO) Do) IO)))
   DH [.d (AY t),.d (tD u),.d (AK (wT t u)),a,b]=r)->ZN [.d (AY t),.d (tD u),Y,I,B]=r:=fun r hr=>Ah (Bu (y:=AK 0) (by rw[PY];rfl)) (Ah h1 (hr _ rfl))
 have c:Bg (Ez true) (nm 2) (B9 (AA Do (AA (AI X3 IO) AG))) [.d (AY t),.d (tD u),.d (AK (wT t u)),a,b]=some (Df t u):=by
  refine C8 (x:=AK (wT t u)) (y:=AK (GK u)) rfl ?_ ((Pp _ _).trans ?_)
  .rw[il g];exact Kq (Af rfl (Af (AZ (xs:=[tD u]) rfl (qG g)) rfl)) (show 2<=1000 by decide)
  .rw[Wc h g,Wg u g]
 cases Z:Df t u with
 |true=>
  rw[Z]at c;refine .inl ⟨rfl,e0 _ fun _ _=>NZ c (EE (Kq (Af (x:=.int ((u.AE-1:Nat):Int)) (BK (x:=.int ((u.AE:Nat):Int)) (y:=.int 1) (AZ (xs:=[tD u]) rfl (qL g)) rfl ?_) (Af rfl rfl)) (show 2<=1000 by decide)))⟩;have:=Gr u;show some (PyData.int ((u.AE:Int)-1))=_;rw[show((u.AE-1:Nat):Int)=(u.AE:Int)-1 by lia]
 |false=>
  rw[Z]at c;exact .inr ⟨rfl,_,_,_,e0 _ fun _ _=>GX c rfl⟩
theorem cE(h:t.Wu):ZK [AY t]=some (Hx t):=by
 refine DY rfl ?_;unfold RY;have e:=UX (F2:=CA (B9 (AA (fC (.int 6)) (AA (fC .none) AG)))) (set:=HY 1) (F:=ZN) (fs:=DK (AI Yh (AA (fC (.int 6)) AG))) (δ:=[.d (AY t),.no,.no,.no,.no]) (xs:=(Av 6).map tD) (z:=.tuple [.int 6,.none]) (fun δ=>∃R I B g:L,δ=[.d (AY t),R,I,B,g]) (fy t) ?_ ⟨_,_,_,_,rfl⟩ ?_ ?_
 .refine e.trans ?_;rw[Wt];rfl
 .refine Yj (x:=Hd (Av 6)) (AZ (xs:=[.int (6:Nat)]) rfl (ZW (aH 6))) ?_;show some (L2.BB (Tr.of (Av 6)))=_;rw[Mh]
 .rintro x Z δ ⟨R,I,B,g,rfl⟩;obtain⟨u,hu,rfl⟩:=aK.mp Z;refine⟨_,rfl,?_⟩;rw[YE];rcases gH z o h hu I B g with ⟨b,e⟩|⟨b,Y,U,T,e⟩
  .rw[b];exact .inl ⟨_,rfl,e⟩
  .rw[b];exact .inr ⟨rfl,_,e,_,_,_,_,rfl⟩
 .rintro δ ⟨R,I,B,g,rfl⟩
  rfl
end
theorem qB(q:Rat):AK (-q)=.tuple [.int (0-q.num),.int (q.den:Int)]:=by
 unfold AK;rw[Rat.neg_num,Rat.neg_den,Int.zero_sub]
theorem VV{α:Type}(a b:α->PyData):∀us:List α,IW (us.map a) (us.map b)=us.map fun u=>.tuple [a u,b u]
 |[]=>rfl
 |u::us=>by
  have:=VV a b us;unfold IW at this ⊢;rw[(CI),(CI),List.zip_cons_cons,(CI),this];rfl
theorem nP{i:Nat}{f:FB}{δ:Dv}{y:IR}{xs:Ch}(h:f δ=some y)(o:ow i δ=some xs)(g:xs.length<Ci):Y4 i f δ=some (.nx (δ.set i (.own (.lst (xs++[y]))))):=by
 show(f δ).bind _=_;rw[h];show(ow i δ).bind _=_;rw[o];exact if_pos g
theorem mh:∀u∈Av 6,Sz (-GK u):=by unfold Sz;decide +kernel
noncomputable abbrev YL:List PyData->Option PyData:=CZ OB mv ou
theorem Xz{w:Tr->Rat}{x0 x1:L}:∀(us:List Tr) (g:Ch) (I B:L),(∀u∈us,Sz (w u)/\Sz (-GK u))->g.length+us.length<=1000 ->
  ∃T R,De (Gj 3 4) (Y4 2 (AI OB (AA (nm 3) (AA (B9 (AA (Ae Ot Go (Ae CC (nm 4) Go)) (AA (Ae CC (nm 4) Do) AG))) AG)))) (us.map fun u=>.tuple [AK (w u),AK (GK u)]) [x0,x1,.own (.lst g),I,B]=some (.nx [x0,x1,.own (.lst (g++us.map fun u=>AK (w u-GK u))),T,R])
 |[],g,I,B,_,_=>⟨I,B,by rw[List.map_nil,List.map_nil,List.append_nil];rfl⟩
 |u::us,g,I,B,h,Z=>by
  rw[(JO)]at Z;obtain⟨a,b,e⟩:=Xz (x0:=x0) (x1:=x1) us (g++[AK (w u-GK u)]) (.d (AK (w u))) (.d (AK (GK u))) (fun v Y=>h v (.tail _ Y)) (by rw[(Dk)];simp;lia);refine⟨a,b,?_⟩;obtain⟨s1,s2⟩:=h u (.head _);rw[List.append_assoc]at e;rw[(CI),(CI)];refine(UO (δ1:=[x0,x1,.own (.lst g),.d (AK (w u)),.d (AK (GK u))]) rfl (nP (y:=AK (w u-GK u)) (xs:=g) (AZ (xs:=[AK (w u),AK (-GK u)]) (Af rfl (Af (by rw[qB];rfl) rfl)) ((Zs s1 s2).trans ?_)) rfl (show g.length<1000 by lia))).trans e;rw[Rat.sub_eq_add_neg]
theorem ZP{D:Int}{t:Tb}{m:Nat}(z:Zt D t)(o:t.Ok m)(h:t.Wu){n:Nat}(hn:n<=6):YL [AY t,.int (n:Nat)]=some (ID ((Av n).map fun u=>wT t u-eT u)):=by
 have k:=SD n AS;obtain⟨a,b,e⟩:=Xz (w:=Hm t) (x0:=.d (AY t)) (x1:=.d (.int (n:Nat))) (Av n) [] .no .no (fun u g=>⟨by rw[VR h];exact qc z o (k.2 u g).1,mh u (k.2 u g).1⟩) (by simp;lia);refine Pg (xs:=((Av n).map fun u=>wT t u-eT u).map AK) rfl ?_;unfold OG;have I:((Av n).map fun u=>wT t u-eT u).map AK=[]++(Av n).map fun u=>AK (Hm t u-GK u):=by
  rw[(Hc),List.nil_append];exact List.map_congr_left fun u g=>by show AK (wT t u-eT u)=_;rw[VR h,Wg u (k.2 u g).1]
 rw[I];refine Ah (δ':=[.d (AY t),.d (.int (n:Nat)),.own (.lst []),.no,.no]) rfl (Ah (δ':=[.d (AY t),.d (.int (n:Nat)),.own (.lst ([]++(Av n).map fun u=>AK (Hm t u-GK u))),a,b]) ?_ rfl);refine Eq.trans ?_ e;show(Cj zip2 _ _).bind _=_;have:Cj zip2 (AA (AI mv (AA JB IO)) (AA (AI ou IO) AG)) [.d (AY t),.d (.int (n:Nat)),.own (.lst []),.no,.no]=some ((Av n).map fun u=>.tuple [AK (Hm t u),AK (GK u)]):=by
  show(AA _ _ _).bind zip2=_;rw[Af (AZ (xs:=[AY t,.int (n:Nat)]) rfl (qd h hn)) (Af (AZ (xs:=[.int (n:Nat)]) rfl (qu hn)) rfl)];show some (IW _ _)=_;rw[(Hc),(Hc),VV];rfl
 rw[this];rfl
structure Bd(E:Int)(n m:Nat)(t:Tb):Prop where
 e1:1<=E
 ok:t.Ok m
 fit:t.Fits n
 dr:∀r∈t.rs,∀q∈r,(q.den:Int) ∣ E
 dl:∀q∈t.ls,(q.den:Int) ∣ E
section
variable{E F:Int}{n m:Nat}{t:Tb}
theorem Xy{a b:Int}(B:b≠0):((Rat.divInt a b).den:Int) ∣ b:=by
 rw[<-FM.RP B];have h:FM.gs a b ∣ b:=by
  unfold FM.gs;split
  .exact Int.neg_dvd.mpr (FM.IV a b)
  .exact FM.IV a b
 obtain⟨k,g⟩:=h;rw[FM.F3 (FM.Zg B) g];exact⟨FM.gs a b,by rw[Int.mul_comm];exact g⟩
theorem den_mul{p q:Rat}(B:(p.den:Int) ∣ E)(g:(q.den:Int) ∣ F):((p*q).den:Int) ∣ E*F:=by
 refine Int.dvd_trans ?_ (Int.mul_dvd_mul B g);rw[<-FM.NY];exact Xy (FM.HD p q)
theorem Bd.up(b:Bd E n m t){n' B:Nat}(hn:n<=n')(hm:m<=B):Bd E n' B t:=⟨b.e1,⟨b.ok.one,Nat.le_trans b.ok.most hm,b.ok.last,b.ok.row⟩,⟨fun r I q g=>(b.fit.1 r I q g).mono hn,fun q g=>(b.fit.2 q g).mono hn⟩,b.dr,b.dl⟩
theorem Bd.rR(b:Bd E n m t):Bd (E*2) (n+2) m (C1 t GD):=by
 have R:((Rat.divInt 1 2).den:Int) ∣ 2:=by decide +kernel
 have:=b.e1;refine⟨by lia,M9 b.ok _,WG b.fit Lr,fun r U q I=>?_,fun q I=>?_⟩
 .obtain⟨T,Y,rfl⟩:=aK.mp U;obtain⟨g,B,rfl⟩:=aK.mp I;exact den_mul (b.dr T Y g B) R
 .obtain⟨g,B,rfl⟩:=aK.mp I;exact den_mul (b.dl g B) R
theorem Bd.rK(b:Bd E n m t):Bd E n (m+m) (FQ t t):=by
 refine⟨b.e1,VG b.ok b.ok,WL b.fit b.fit,fun r g q B=>?_,fun q B=>(aU.mp B).elim (b.dl q) (b.dl q)⟩;rcases aU.mp g with g|g
 .exact b.dr r g q B
 .obtain⟨I,R,rfl⟩:=aK.mp g;exact(aU.mp B).elim (b.dl q) (b.dr I R q)
theorem Bd.dvd(b:Bd E n m t)(h:E ∣ F)(I:1<=F):Bd F n m t:=⟨I,b.ok,b.fit,fun r B q g=>Int.dvd_trans (b.dr r B q g) h,fun q g=>Int.dvd_trans (b.dl q g) h⟩
theorem VS:FM.Fits 0 (n+1):=by
 have:1<2^(n+1):=Nat.one_lt_two_pow AS;exact⟨by show 0<_;lia,this⟩
theorem Bd.mix{a b:Tb}{k:Nat}{c d:Rat}(T:Bd E n k a)(U:Bd E n m b)(Z:FM.Fits c 7)(hd:FM.Fits d 7)(gc:(c.den:Int) ∣ F)(gd:(d.den:Int) ∣ F)(hF:1<=F):Bd (E*F) (n+7) (k+m) (JU a c b d):=by
 have e1:=T.e1;have eF:1<=E*F:=Int.mul_pos e1 hF;have up:∀ {x:Int},x ∣ E->x ∣ E*F:=fun h=>Int.dvd_trans h (Int.dvd_mul_right E F);have sn:∀q:Rat,FM.Fits q n->FM.Fits q (n+7):=fun q h=>h.mono AS;refine⟨eF,pN T.ok U.ok c d,⟨fun r B q g=>?_,fun q g=>?_⟩,fun r B q g=>?_,fun q g=>?_⟩
 .rcases aU.mp B with B|B
  .exact sn q (T.fit.1 r B q g)
  .obtain⟨Y,I,rfl⟩:=aK.mp B;rcases aU.mp g with g|g
   .rw[(List.mem_replicate.mp g).2];exact VS (n:=n+6)
   .exact sn q (U.fit.1 Y I q g)
 .rcases aU.mp g with g|g
  .obtain⟨R,I,rfl⟩:=aK.mp g;exact(T.fit.2 R I).times Z
  .obtain⟨R,I,rfl⟩:=aK.mp g;exact(U.fit.2 R I).times hd
 .rcases aU.mp B with B|B
  .exact up (T.dr r B q g)
  .obtain⟨Y,I,rfl⟩:=aK.mp B;rcases aU.mp g with g|g
   .rw[(List.mem_replicate.mp g).2];exact Int.one_dvd _
   .exact up (U.dr Y I q g)
 .rcases aU.mp g with g|g
  .obtain⟨R,I,rfl⟩:=aK.mp g;exact den_mul (T.dl R I) gc
  .obtain⟨R,I,rfl⟩:=aK.mp g;exact den_mul (U.dl R I) gd
theorem cW:∀p,p<7->1<=p->((O3 p).den:Int) ∣ 2^p-1/\((OZ p).den:Int) ∣ 2^p-1/\1<=(2:Int)^p-1/\(2:Int)^p-1<=63:=by decide +kernel
theorem Bd.rJ(b:Bd E n m t){p:Nat}(g:1<=p)(U:p<=6):Bd (E*2*(2^p-1)) (n+9) (m+m+m) (Te t (O3 p) (OZ p)):=by
 obtain⟨R,I,B,_⟩:=cW p AS g;obtain⟨f1,f2⟩:=X9 p AS;have e:=b.e1;have k:=Bd.mix (k:=m+m) (c:=O3 p) (d:=OZ p) b.rR.rK ((b.dvd (F:=E*2) (Int.dvd_mul_right E 2) AS).up (n':=n+2) AS (aH m)) f1 f2 R I B;exact k
theorem Bd.wu(b:Bd E n m t)(hm:m<=40)(I:E.natAbs<2^30)(hn:n<=30):t.Wu:=by
 refine sj b.ok hm b.fit (D:=E) (fun x g=>?_) b.e1 I AS;unfold Fx at g;rcases aU.mp g with g|g
 .obtain⟨q,B,rfl⟩:=aK.mp g;exact b.dl q B
 .obtain⟨l,B,U⟩:=List.mem_flatten.mp g;obtain⟨r,T,rfl⟩:=aK.mp B;obtain⟨q,R,rfl⟩:=aK.mp U;exact b.dr r (List.mem_of_mem_take T) q R
theorem qP{q:Rat}(h:(q.den:Int) ∣ E)(g:FM.Fits q 30)(I:1<=E)(B:E.natAbs<2^30):Iz E 60 q:=by
 refine⟨q.num*E.fdiv (q.den:Int),?_,?_⟩
 .rw[RM h,Rat.mul_comm]
 .have a:=g.1;have c:=av (aP (FM.E1 E (q.den:Int)) B);rw[(Q6),show(2:Nat)^60=2^30*2^30 from rfl];exact Nat.mul_le_mul (av a) c
theorem Bd.zt(b:Bd E n m t)(hm:m<=32)(T:E.natAbs<2^30)(hn:n<=30):Zt E t:=by
 have one:=b.e1;have U:Iz E 60 0:=⟨0,by rw[(L9)];rfl,by simp⟩;have lk:∀(r:List Rat),(∀q∈r,(q.den:Int) ∣ E/\FM.Fits q 30)->∀j,Iz E 60 (BP r j):=fun r h j=>by
  by_cases R:j<r.length
  .have:BP r j∈r:=by
    unfold BP;rw[(DJ),List.getElem?_eq_getElem R];exact List.getElem_mem R
   exact qP (h _ this).1 (h _ this).2 one T
  .rw[Pt AS];exact U
 refine⟨one,T,Nat.le_trans b.ok.most hm,fun k j=>?_,lk _ fun q g=>⟨b.dl q g,(b.fit.2 q g).mono hn⟩⟩;unfold A0;refine lk _ (fun q g=>?_) j;rw[(DJ)]at g;cases I:(EL t)[k]? with
 |none=>rw[I]at g;cases g
 |some r=>
  rw[I]at g;have B:=aT I;rcases aU.mp B with B|B
  .exact⟨b.dr r B q g,(b.fit.1 r B q g).mono hn⟩
  .rw[List.mem_singleton.mp B]at g;exact⟨b.dl q g,(b.fit.2 q g).mono hn⟩
end
theorem oD:((Av 6).all fun u=>SeqAt.shaped (N0 u)&&PyData.eqv (N0 u) (N0 u))=true:=by decide +kernel
theorem mH:(SeqAt.shaped (.tuple [.int 6,.none])&&PyData.eqv (.tuple [.int 6,.none]) (.tuple [.int 6,.none]))=true:=by decide +kernel
theorem cJ(t:Tb):Ez true (Hx t) (Hx t)=some (.bool false):=by
 have h:SeqAt.shaped (Hx t)=true/\PyData.eqv (Hx t) (Hx t)=true:=by
  unfold Hx;cases z:(Av 6).find? (Df t) with
  |none=>exact Bool.and_eq_true_iff.mp mH
  |some u=>exact Bool.and_eq_true_iff.mp (az.mp oD u (bI z))
 refine(if_pos ⟨h.1,h.1⟩).trans ?_;rw[h.2];rfl
theorem kJ:(List.range 6).map (fun p=>AK (Rat.divInt 1 (2^p)))=(List.range 6).map fun p=>PyData.tuple [.int 1,.int (1*2^p)]:=by kernel_rfl
theorem qW{p:Nat}(h:p<=5):AK (Rat.divInt 1 (2^p))=.tuple [.int 1,.int (1*2^p)]:=bK.mp kJ p (bD.mpr AS)
theorem nQ:∀p,p<6->Sz (Rat.divInt 1 (2^p))/\2*GD^(p+1)=Rat.divInt 1 (2^p):=by unfold Sz;decide +kernel
theorem Iz.den{D:Int}{N:Nat}{r:Rat}(h:Iz D N r)(I:1<=D):r.num.natAbs<=2^N/\r.den<=D.natAbs:=by
 obtain⟨t,R,g⟩:=h;have h0:D≠0:=by lia
 have e:=RX h0 t;have B:(D:Rat)≠0:=fun z=>h0 (Rat.intCast_inj.mp (z.trans Rat.intCast_zero.symm));have:r=Rat.divInt t D:=by
  generalize Rat.divInt t D=q at e
  grind
 rw[this];exact⟨aR (FM.RH h0) g,FM.SE h0⟩
theorem jI{p q:Rat}(R:p.num.natAbs<2^400)(B:p.den<2^110)(g:FM.Fits q 14):Sz (p-q):=by
 have I:FM.Fits p 400:=⟨R,Nat.lt_of_lt_of_le B (aS As As)⟩;rw[<-FM.jV];refine⟨aP (FM.RH (FM.HD p q)) (aI (FM.hV I g) (aS As As)),Nat.lt_of_le_of_lt (FM.SE (FM.HD p q)) (aI (FM.II (m:=110) (n:=14) (by simpa using B) (by simpa using g.2)) (aS As As))⟩
theorem jq:∀u∈Av 6,FM.Fits (eT u) 14:=by unfold FM.Fits;decide +kernel
noncomputable abbrev sJ:DF :=
 (Ai (Fv (OC (Bg IN (nm 3) Do) (OC (Bg (Cz fun i j=>decide (j<i)) (nm 3) (fC (.int 5))) (Bg (Cz fun i j=>decide (j<i)) (AI Gy (AA (Ae CC (nm 2) Go) AG)) (fC (.int 9)))))
  (CA (Ae IN (nm 3) (fC (.int 7))))
  DH)
 (Ai (Ba 5 (AI ig (AA (nm 2) (AA (nm 3) AG))))
 (Ai (Ba 6 (AI ZM (AA (nm 5) AG)))
 (Ai (Fv (OC (Bg (Ez true) (nm 6) (AI ZK (AA (nm 5) AG))) (Bg IN (Ae CC (nm 6) Go) (Ae Ct (nm 3) Do)))
  (CA (fC (.bool false)))
  DH)
 (Ai (Fv (Bg (Ez true) (Dq (Cg 1) (Bg (Ez true) (nm 1) (B9 (AA Go (AA Do AG)))) (nm 1) [none,none] (DK (AI YL (AA (nm 5) (AA (Ae Ct (nm 3) Do) AG))))) (Nl AG))
  (CA (fC (.bool false)))
  DH)
 (Ai (Ba 7 (AI Va (AA (nm 2) (AA (B9 (AA Do (AA (fC (.int 2)) AG))) AG))))
 (Ai (Ba 8 (AI YL (AA (nm 2) (AA (Ae Ct (nm 3) Do) AG))))
 (Ai (Ba 9 (Dq (Cg 1) FL (AI J5 (AA (nm 1) (AA (B9 (AA Do (AA (Ae fE Do (nm 2)) AG))) AG))) [none,none,some 3] (DK (nm 8))))
 (CA (Ae (Ez false) (AI YL (AA (AI cX (AA (nm 7) (AA (nm 7) AG))) (AA (Ae Ct (nm 3) Do) AG))) (nm 9)))))))))))
theorem q8(g:List Rat):Ok 2 (ID g):=lO fun d hd=>by obtain⟨r,_,rfl⟩:=aK.mp hd;exact WS r
theorem second{E:Int}{t:Tb}(b:Bd E 21 9 t)(hE:E<=151200)(l0 l1 l4:L):sJ [l0,l1,.d (AY t),.d (.int (Cc t:Nat)),l4,.no,.no,.no,.no,.no]=some (.rt (.bool true)):=by
 have e1:=b.e1;have tw:=b.wu As AS As;have tz:=b.zt As AS As;have hl:=b.ok.most;have GU:AI Gy (AA (Ae CC (nm 2) Go) AG) [l0,l1,.d (AY t),.d (.int (Cc t:Nat)),l4,.no,.no,.no,.no,.no]=some (.int ((A2 t.rs).length:Nat)):=rfl;have o6:Cc t<=6:=by
  unfold Cc;cases z:(Av 6).find? (Df t) with
  |none=>exact aH 6
  |some u=>
   have:=(UQ u (bI z)).2.2.1;show u.AE-1<=6;lia
 have low:=fun v hv T=>jz tw (v:=v) hv T;generalize hp:Cc t=p at o6 low GU ⊢;have B:∀ {f g:FB} {δ:Dv} {i j:Int} {r:Int->Int->Bool},f δ=some (.int i)->g δ=some (.int j)->Bg (Cz r) f g δ=some (r i j):=fun U h2=>C8 U h2 rfl;by_cases hc:p<1\/5<p
 .refine NC (NZ ?_ (EE (BK (x:=.int (p:Nat)) (y:=.int 7) rfl rfl ?_)))
  .by_cases U:p<1
   .exact jD ((B (i:=(p:Nat)) (j:=1) rfl rfl).trans (by rw[decide_eq_true AS]))
   .exact Pn ((B (i:=(p:Nat)) (j:=1) rfl rfl).trans (by rw[decide_eq_false AS])) (jD ((B (i:=(p:Nat)) (j:=5) rfl rfl).trans (by rw[decide_eq_true AS])))
  .show some (PyData.bool (decide _))=_;rw[decide_eq_true AS]
 have c1:1<=p:=by lia
 have c5:p<=5:=by lia
 refine Ah (GX (Pn ((B (i:=(p:Nat)) (j:=1) rfl rfl).trans (by rw[decide_eq_false AS])) (Pn ((B (i:=(p:Nat)) (j:=5) rfl rfl).trans (by rw[decide_eq_false AS])) ((B (j:=9) GU rfl).trans (by rw[Dj,decide_eq_false AS])))) rfl) ?_;obtain⟨s1,s2⟩:=oQ p AS c1;obtain⟨_,_,g1,g2⟩:=cW p AS c1;have g31:(2:Int)^p-1<=31:=by
  have:∀p,p<6->(2:Int)^p-1<=31:=by decide
  exact this p AS
 have Z:t.Fits 180:=⟨fun r hr q I=>(b.fit.1 r hr q I).mono,fun q I=>(b.fit.2 q I).mono⟩;have Y:t.Fits 190:=⟨fun r hr q I=>(b.fit.1 r hr q I).mono,fun q I=>(b.fit.2 q I).mono⟩;have bs:=b.rJ c1 (by lia:p<=6);have bE:(E*2*(2^p-1)).natAbs<2^30:=by
  have U:0<=E*2*(2^p-1):=Int.mul_nonneg AS AS;have h2:E*2*(2^p-1)<=(151200*2)*31:=Int.mul_le_mul AS g31 AS AS
  lia
 have sw:=bs.wu As bE As;have sz:=bs.zt As bE As;generalize hS:Te t (O3 p) (OZ p)=S at bs sw sz;have sT:∀u∈Av 6,u.AE<=p+1->wT S u=eT u:=fun u R T=>by rw[<-hS];exact gM b.ok c1 low R T s1 s2
 have so:p+1<=Cc S:=nZ sw AS sT;refine Ah (Bu (y:=AY S) (AZ (xs:=[AY t,.int (p:Nat)]) rfl ((i6 b.ok As Z c1 AS).trans (by rw[hS])))) ?_;refine Ah (Bu (AZ (xs:=[AY S]) rfl (Qi sw))) ?_;refine Ah (GX (Pn (C8 (x:=Hx S) (y:=Hx S) rfl (AZ (xs:=[AY S]) rfl (cE sz bs.ok sw)) (cJ S)) ((B (i:=(Cc S:Nat)) (j:=(p:Int)+1) (BK (x:=Hx S) (y:=.int 0) rfl rfl (by rw[VA];rfl)) rfl).trans (by rw[decide_eq_false AS]))) rfl) ?_;have nx:∀ {l5 l6 l7 l8 l9:L},Ae Ct (nm 3) Do [l0,l1,.d (AY t),.d (.int (p:Nat)),l4,l5,l6,l7,l8,l9]=some (.int ((p+1:Nat):Int)):=rfl;have sub:=SD (p+1) AS;refine Ah (GX (C8 (x:=.list []) (y:=.list []) (kX (xs:=((Av (p+1)).map fun u=>wT S u-eT u).map AK) (Yj (AZ (xs:=[AY S,.int ((p+1:Nat):Int)]) rfl (ZP sz bs.ok sw AS)) rfl) fun x hx=>?_) rfl (ne_self (n:=1) (lO (n:=0) fun d hd=>by cases hd) As)) rfl) ?_
 .obtain⟨q,I,rfl⟩:=aK.mp hx;obtain⟨u,R,rfl⟩:=aK.mp I;refine C8 (x:=AK (wT S u-eT u)) (y:=AK 0) rfl (by rw[PY];rfl) ((Pp _ _).trans ?_);rw[sT u (sub.2 u R).1 (sub.2 u R).2,Rat.sub_self];rfl
 have bh:=b.rR;have bb:=bh.rK;have bw:=bb.wu As AS As;have bz:=bb.zt As AS As;refine Ah (Bu (y:=AY (C1 t GD)) (AZ (xs:=[AY t,AK GD]) (by rw[Yu];rfl) (eN b.ok As Y (Lr.mono)))) ?_;refine Ah (Bu (AZ (xs:=[AY t,.int ((p+1:Nat):Int)]) rfl (ZP tz b.ok tw AS))) ?_;obtain⟨z1,z2⟩:=nQ p AS;have wz:∀u∈Av (p+1),wT (FQ (C1 t GD) (C1 t GD)) u-eT u=(wT t u-eT u)*Rat.divInt 1 (2^p):=fun u R=>by
  obtain⟨U,h2⟩:=sub.2 u R;have h:=dU b.ok U fun v hv T=>low v hv AS;rw[h];by_cases T:u.AE=p+1
  .rw[T,z2];grind
  .rw[low u U AS];grind
 have dz:∀u∈Av (p+1),Sz (wT t u-eT u):=fun u R=>by
  have h6:=(sub.2 u R).1;have k6:=(UQ u h6).2.2.1;obtain⟨i1,i2⟩:=(tz.wt u tz.n).den (tz.pow _);have dp:(E^u.AE).natAbs<2^110:=by
   rw[Int.natAbs_pow];exact aP (Nat.pow_le_pow_left (show E.natAbs<=2^18 by lia) _) (by rw[<-Nat.pow_mul];exact Nat.pow_lt_pow_right As AS)
  exact jI (aP i1 (Nat.pow_lt_pow_right As AS)) (aP i2 dp) (jq u h6)
 refine Ah (Bu (y:=ID ((Av (p+1)).map fun u=>(wT t u-eT u)*Rat.divInt 1 (2^p))) ((J4 (zs:=(Av (p+1)).map fun u=>wT t u-eT u) (a:=AK) (g:=fun q=>AK (q*Rat.divInt 1 (2^p))) rfl (by rw[(BW)];unfold Ci;lia) fun q I=>?_).trans ?_)) ?_
 .obtain⟨u,R,rfl⟩:=aK.mp I;refine AZ (xs:=[AK (wT t u-eT u),AK (Rat.divInt 1 (2^p))]) (Af rfl (Af ?_ rfl)) (U5 (dz u R) z1);rw[qW c5];refine Kq (Af rfl (Af (BK (x:=.int 1) (y:=.int (p:Nat)) rfl rfl ?_) rfl)) (show 2<=1000 by decide);exact(if_pos ⟨by lia,by lia,by decide⟩).trans (by rw[(ML)])
 .show some (PyData.list _)=some (PyData.list _);rw[(Hc),(Hc)];rfl
 .refine EE (BK (AZ (xs:=[AY (FQ (C1 t GD) (C1 t GD)),.int ((p+1:Nat):Int)]) (Af (AZ (xs:=[AY (C1 t GD),AY (C1 t GD)]) rfl (i5 bh.ok As bh.ok As (by have:=bh.ok.most;lia))) (Af rfl rfl)) (ZP bz bb.ok bw AS)) rfl ?_);rw[List.map_congr_left wz];exact iG (q8 _) As
theorem Qk(c k:Int):∃v,CJ [.int c,.int k]=some (.int v):=by
 suffices T:∃v,K1 [.d (.int c),.d (.int k),.no]=some (.rt (.int v)) by
  obtain⟨v,h⟩:=T;exact⟨v,DY rfl h⟩
 have hn:∀(a m:Int),0<m->m<2^60->(a % m).natAbs<2^64:=fun a m h0 U=>by
  have:=Int.emod_nonneg a (by lia:m≠0);have:=Int.emod_lt_of_pos a h0
  lia
 unfold K1;generalize g:(c % 2147483647*48271+k*69621+11) % 2147483647=v;have I:v.natAbs<2^64:=by rw[<-g];exact hn _ _ As As
 generalize B:v*v % 2147483629=u;have R:u.natAbs<2^64:=by rw[<-B];exact hn _ _ As As
 refine⟨_,Ah (Bu (y:=.int v) ?_) (Ah (Bu (y:=.int u) ?_) (EE (BK (x:=.int (u*u)) (y:=.int 2147483587) (BK (x:=.int u) (y:=.int u) rfl rfl (mul_r R)) rfl (mod_is As))))⟩
 .refine BK (x:=.int (c % 2147483647*48271+k*69621+11)) (y:=.int 2147483647) (BK (x:=.int (c % 2147483647*48271+k*69621)) (y:=.int 11) (BK (x:=.int (c % 2147483647*48271)) (y:=.int (k*69621)) (BK (x:=.int (c % 2147483647)) (y:=.int 48271) (BK (x:=.int c) (y:=.int 2147483647) rfl rfl (mod_is As)) rfl (mul_r As)) (BK (x:=.int k) (y:=.int 69621) rfl rfl (mul_r As)) rfl) rfl rfl) rfl ((mod_is As).trans ?_);rw[g]
 .refine BK (x:=.int (v*v)) (y:=.int 2147483629) (BK (x:=.int v) (y:=.int v) rfl rfl (mul_r I)) rfl ((mod_is As).trans ?_);rw[B]
theorem jc(xs:List Int)(k:Nat):∃c,B1 [El xs,.int (k:Nat)]=some (.int c):=by
 suffices g:∃c,JQ [.d (El xs),.d (.int (k:Nat))]=some (.rt (.int c)) by
  obtain⟨c,h⟩:=g;exact⟨c,DY rfl h⟩
 unfold JQ;have t:Bg IN (nm 1) (AI Gy (AA JB AG)) [.d (El xs),.d (.int (k:Nat))]=some (decide ((k:Int)<((xs.map PyData.int).length:Nat))):=C8 (x:=.int (k:Nat)) (y:=.int ((xs.map PyData.int).length:Nat)) rfl rfl rfl;rw[(BW)]at t;by_cases z:k<xs.length
 .rw[decide_eq_true (show(k:Int)<(xs.length:Nat) by lia)]at t;exact⟨xs[k],NC (NZ t (EE (BK (x:=El xs) (y:=.int (k:Nat)) rfl rfl (Th (by rw[(B7),List.getElem?_eq_getElem z];rfl)))))⟩
 .rw[decide_eq_false (show ¬(k:Int)<(xs.length:Nat) by lia)]at t;exact⟨0,Ah (GX t rfl) rfl⟩
abbrev Zx:List PyData->Option PyData:=DN B1 CJ
theorem Xu(xs:List Int)(k:Nat):∃r,Zx [El xs,.int (k:Nat)]=some (.int r):=by
 suffices R:∃r,MB B1 CJ [.d (El xs),.d (.int (k:Nat)),.no,.no]=some (.rt (.int r)) by
  obtain⟨r,h⟩:=R;exact⟨r,DY rfl h⟩
 obtain⟨c,T⟩:=jc xs k;obtain⟨a,ha⟩:=Qk c (k:Nat);obtain⟨b,U⟩:=Qk c ((k:Int)+500);obtain⟨d,hd⟩:=Qk c ((k:Int)+900);unfold MB;have g:∀δ:Dv,Ae W6 (fC (.int 10)) (fC (.int 18)) δ=some (.int ((10:Int)^18)):=fun δ=>BK (x:=.int 10) (y:=.int 18) rfl rfl (nt (n:=18) As As);have s1:(Ba 2 (AI B1 (AA JB IO))) [.d (El xs),.d (.int (k:Nat)),.no,.no]=some (.nx [.d (El xs),.d (.int (k:Nat)),.d (.int c),.no]):=Bu (AZ (xs:=[El xs,.int (k:Nat)]) rfl T);have B:∃y:Int,AI Vy (AA (nm 2) AG) [.d (El xs),.d (.int (k:Nat)),.d (.int c),.no]=some (.int y):=⟨_,rfl⟩;obtain⟨y,I⟩:=B;have t:Bg (Cz fun i j=>decide (j<=i)) (AI Vy (AA (nm 2) AG)) (Ae W6 (fC (.int 10)) (fC (.int 18))) [.d (El xs),.d (.int (k:Nat)),.d (.int c),.no]=some (decide ((10:Int)^18<=y)):=C8 (x:=.int y) (y:=.int ((10:Int)^18)) I (g _) rfl;by_cases z:(10:Int)^18<=y
 .rw[decide_eq_true z]at t;exact⟨c,Ah s1 (NC (NZ t rfl))⟩
 .rw[decide_eq_false z]at t;refine⟨_,Ah s1 (Ah (GX t rfl) (Ah (Bu (BK (x:=.int a) (y:=.int (b*2147483587)) (AZ (xs:=[.int c,.int (k:Nat)]) rfl ha) (BK (x:=.int b) (y:=.int 2147483587) (AZ (xs:=[.int c,.int ((k:Int)+500)]) rfl U) rfl (mul_r As)) rfl)) (EE (BK (x:=.int (a+b*2147483587)) (y:=.int (d*2147483587*2147483587)) rfl (BK (x:=.int (d*2147483587)) (y:=.int 2147483587) (BK (x:=.int d) (y:=.int 2147483587) (AZ (xs:=[.int c,.int ((k:Int)+900)]) rfl hd) rfl (mul_r As)) rfl (mul_r As)) rfl))))⟩
theorem dg{f:FB}{set:KM}{δ δ':Dv}{x:IR}(h:f δ=some x)(k:set x δ=some δ'):gI f set δ=some (.nx δ'):=by
 show(f δ).bind _=_;rw[h];show(set x δ).map _=_;rw[k];rfl
section
variable{Tp:AC}(hD:∀a b:Int,∃t,Tp [.int a,.int b]=some (AY t)/\Bd 5040 12 4 t)
include hD
theorem nE(ns:List Int):Z1 Tp ZK Zx J5 YL cX ZM ig Va [El ns]=some (.bool true):=by
 obtain⟨c,R⟩:=Xu ns 0;obtain⟨d,hd⟩:=Xu ns 1;obtain⟨t,ht,b⟩:=hD (c / 3) d;have tw:=b.wu As As As;have tz:=b.zt As As As;have hl:=b.ok.most;have B:∀ {f g:FB} {δ:Dv} {i j:Int} {r:Int->Int->Bool},f δ=some (.int i)->g δ=some (.int j)->Bg (Cz r) f g δ=some (r i j):=fun h1 h2=>C8 h1 h2 rfl;refine DY rfl ?_;unfold iu;refine Ah (Bu (AZ (xs:=[El ns,.int (0:Nat)]) rfl R)) ?_;refine Ah (Bu (AZ (xs:=[.int (c / 3),.int d]) (Af (BK (x:=.int c) (y:=.int 3) rfl rfl (div_is As As)) (Af (AZ (xs:=[El ns,.int (1:Nat)]) rfl hd) rfl)) ht)) ?_;refine Ah (dg (AZ (xs:=[AY t]) rfl ((Qi tw).trans (by rw[VA]))) rfl) ?_;refine Ah (GX (C8 (x:=Hx t) (y:=Hx t) (by rw[VA];rfl) (AZ (xs:=[AY t]) rfl (cE tz b.ok tw)) (cJ t)) rfl) ?_;have GU:∀l4:L,AI Gy (AA (Ae CC (nm 2) Go) AG) [.d (El ns),.d (.int c),.d (AY t),.d (.int (Cc t:Nat)),l4,.no,.no,.no,.no,.no]=some (.int ((A2 t.rs).length:Nat)):=fun _=>rfl;have md:∀δ:Dv,nm 1 δ=some (.int c)->Ae MC (nm 1) (fC (.int 3)) δ=some (.int (c % 3)):=fun δ h=>BK h rfl (mod_is As);generalize U9 ((Av 6).find? (Df t))=I;have Y:Tf (Bg (Ez false) (Ae MC (nm 1) (fC (.int 3))) Go) (Tf (Bg IN Go (nm 3)) (Tf (Bg IN (nm 3) (fC (.int 5))) (Bg IN (AI Gy (AA (Ae CC (nm 2) Go) AG)) (fC (.int 4))))) [.d (El ns),.d (.int c),.d (AY t),.d (.int (Cc t:Nat)),.d I,.no,.no,.no,.no,.no]=some (decide (c % 3=0/\0<Cc t/\Cc t<5/\t.rs.length<4)):=by
  have h1:=C8 (o:=Ez false) (f:=Ae MC (nm 1) (fC (.int 3))) (g:=fC (.int 0)) (δ:=[.d (El ns),.d (.int c),.d (AY t),.d (.int (Cc t:Nat)),.d I,.no,.no,.no,.no,.no]) (md _ rfl) rfl (YX (c % 3) 0);have h2:=B (r:=fun i j=>decide (i<j)) (f:=fC (.int 0)) (g:=nm 3) (δ:=[.d (El ns),.d (.int c),.d (AY t),.d (.int (Cc t:Nat)),.d I,.no,.no,.no,.no,.no]) (i:=0) (j:=(Cc t:Nat)) rfl rfl;have h3:=B (r:=fun i j=>decide (i<j)) (f:=nm 3) (g:=fC (.int 5)) (δ:=[.d (El ns),.d (.int c),.d (AY t),.d (.int (Cc t:Nat)),.d I,.no,.no,.no,.no,.no]) (i:=(Cc t:Nat)) (j:=5) rfl rfl;have h4:=B (r:=fun i j=>decide (i<j)) (g:=fC (.int 4)) (j:=4) (GU (.d I)) rfl;rw[Dj]at h4;show(Bg _ _ _ _).bind _=_;rw[h1,(Gq)];by_cases U:c % 3=0
  .rw[decide_eq_true U,if_pos rfl];show(Bg _ _ _ _).bind _=_;rw[h2,(Gq)];by_cases q2:0<Cc t
   .rw[decide_eq_true (show(0:Int)<(Cc t:Nat) by lia),if_pos rfl];show(Bg _ _ _ _).bind _=_;rw[h3,(Gq)];by_cases q3:Cc t<5
    .rw[decide_eq_true (show((Cc t:Nat):Int)<5 by lia),if_pos rfl];refine h4.trans ?_;by_cases q4:t.rs.length<4
     .rw[decide_eq_true (show((t.rs.length:Nat):Int)<4 by lia),decide_eq_true ⟨U,q2,q3,q4⟩]
     .rw[decide_eq_false (show ¬((t.rs.length:Nat):Int)<4 by lia),decide_eq_false (fun z=>q4 z.2.2.2)]
    .rw[decide_eq_false (show ¬((Cc t:Nat):Int)<5 by lia),decide_eq_false (fun z=>q3 z.2.2.1)];rfl
   .rw[decide_eq_false (show ¬(0:Int)<(Cc t:Nat) by lia),decide_eq_false (fun z=>q2 z.2.1)];rfl
  .rw[decide_eq_false U,decide_eq_false (fun z=>U z.1)];rfl
 by_cases R:c % 3=0/\0<Cc t/\Cc t<5/\t.rs.length<4
 .rw[decide_eq_true R]at Y;obtain⟨_,Z,p5,r4⟩:=R;have b3:Bd 5040 12 3 t:=⟨b.e1,⟨b.ok.one,by lia,b.ok.last,b.ok.row⟩,b.fit,b.dr,b.dl⟩;have bs:=b3.rJ (p:=Cc t) Z AS;have T:t.Fits 180:=⟨fun r hr q hq=>(b.fit.1 r hr q hq).mono,fun q hq=>(b.fit.2 q hq).mono⟩;have hs:=i6 b3.ok As T Z (show Cc t<=6 by lia);have hE:(5040:Int)*2*(2^Cc t-1)<=151200/\1<=(5040:Int)*2*(2^Cc t-1):=by
   have:∀p,p<5->0<p->(5040:Int)*2*(2^p-1)<=151200/\1<=(5040:Int)*2*(2^p-1):=by decide
   exact this _ p5 Z
  have sw:=bs.wu As AS As;refine Ah (NZ Y (Ah (Bu (AZ (xs:=[AY t,.int (Cc t:Nat)]) rfl hs)) (dg (AZ (xs:=[AY (Te t (O3 (Cc t)) (OZ (Cc t)))]) rfl ((Qi sw).trans (by rw[VA]))) rfl))) ?_;exact second bs hE.1 _ _ _
 .rw[decide_eq_false R]at Y;refine Ah (GX Y rfl) ?_;exact second (b.up As As) As _ _ _
end
theorem ec{H:Hp}{g:List Rat}{xs:Fa}{i:Nat}{x:V}(h:Bv H (Ag g) xs)(B:xs[i]? = some x):∃q p,x=.ref p/\g[i]? = some q/\H p=some (.tup (BZ q)):=by
 have R:=h.len;rw[Bt]at R;have hi:i<g.length:=by rw[<-R];exact(aD.mp B).1
 have I:g[i]? = some g[i]:=by simp[hi]
 obtain⟨v,T,Y⟩:=h.get (i:=i) (d:=AK g[i]) (by rw[Ag,(B7),I];rfl);rw[B]at T;cases T;obtain⟨p,rfl,U⟩:=Y.rat;exact⟨_,p,rfl,I,U⟩
theorem mulC{i j:Int}(B:-18446744073709551616<j)(g:j<18446744073709551616):Ti i j\/PZ i j:=.inl (.inr ⟨B,g⟩)
def Vx(y:Int):Rat:=Rat.divInt (y % 13-6) (1+y / 13 % 6)
def Mq(x:Int)(c:Nat):Int:=x / 78^c
theorem gm(x:Int)(c:Nat):Mq x c / 78=Mq x (c+1):=by
 unfold Mq;rw[Int.ediv_ediv_of_nonneg (Int.le_of_lt (Int.pow_pos As)),<-Int.pow_succ]
def Le:Nat->Nat
 |0=>0
 |k+1=>Le k+k
def ED(x:Int)(i j:Nat):List Rat:=(List.range j).map fun j=>Vx (Mq x (Le i+j))
theorem JI(x:Int)(i j:Nat):(ED x i j).length=j:=by unfold ED;rw[(BW),(Qm)]
theorem fm(x:Int)(i j:Nat):ED x i (j+1)=ED x i j++[Vx (Mq x (Le i+j))]:=by unfold ED;rw[List.range_succ,(Fo)];rfl
theorem Wr(y:Int):FM.Fits (Vx y) 3:=.Rm AS AS AS
theorem gA{x:Int}{i j:Nat}:∀q∈ED x i j,FM.Fits q 3:=fun q g=>by
 obtain⟨_,_,rfl⟩:=aK.mp g;exact Wr _
def Ir(x:Int)(n:Nat):List (List Rat):=(List.range n).map fun k=>ED x k k
theorem Md(x:Int)(n:Nat):(Ir x n).length=n:=by unfold Ir;rw[(BW),(Qm)]
theorem gQ(x:Int)(n:Nat):Ir x (n+1)=Ir x n++[ED x n n]:=by unfold Ir;rw[List.range_succ,(Fo)];rfl
def Hl(x:Int):Nat:=(1+x % 3).toNat
def Xs:Sp:=fun vs H Q _=>∃x:Int,vs=[.int x,.int 3]/\∀(p R A:Addr) (H':Hp) (g ys:Fa) (z:Rat),AN H H'->H' p=some (.tup [.ref R,.ref A])->H' R=some (.lst g)->R≠A->H R=none->H A=none->H' A=some IS->Bv H' (Ag ((ED (x / 12) (Hl x) (Hl x)).set (Hl x-1) z)) ys->Ap A H' (A2 (Ir (x / 12) (Hl x))) g->(∀y∈g,∃r,y=V.ref r/\H r=none)->Q (.ref p) H'
def Rows(x:Int)(H0:Hp)(R:Addr)(H:Hp)(i:Nat):Prop:=∃xs,H R=some (.lst xs)/\Ap R H (A2 (Ir x i)) xs/\(∀x∈xs,∃r,x=V.ref r/\H0 r=none) /\
 (i≠0->∃g ys A,xs=g++[.ref A]/\H0 A=none/\A≠R/\H A=some IS/\Bv H (Ag (ED x (i-1) (i-1))) ys/\Ap R H (A2 (Ir x (i-1))) g/\Ap A H (A2 (Ir x (i-1))) g)
theorem mj{x:Int}{H0:Hp}{R:Addr}{H:Hp}(h:H R=some (.lst [])):Rows x H0 R H 0:=⟨[],h,.nil,fun r z=>(List.not_mem_nil z).elim,fun z=>absurd rfl z⟩
theorem cw{x:Int}{R A:Addr}{H0 Y H':Hp}{xs ys:Fa}{i:Nat}(hR:Y R=some (.lst xs))(d:Ap R Y (A2 (Ir x i)) xs)(B:∀x∈xs,∃r,x=V.ref r/\H0 r=none)(T:H0 A=none)(hA:Y A=none)(e:AN Y H')(U:H' A=some IS)(dy:Bv H' (Ag (ED x i i)) ys) :
  Rows x H0 R (upd H' R (.lst (xs++[.ref A]))) (i+1):=by
 have Z:A≠R:=fun z=>by subst z;rw[hR]at hA;cases hA
 have I:=e _ _ hR;have dR:=d.same e;have dA:=(JZ hA d).same e;have u:SameBut R H' (upd H' R (.lst (xs++[.ref A]))):=.upd;refine⟨xs++[.ref A],AM,?_,fun x g=>?_,fun _=>⟨xs,ys,A,rfl,T,Z,by rw[AR Z];exact U,Jq I u dy,dR.but u,IX u dA dR⟩⟩
 .rw[gQ,A2,(Fo)];exact .but u (dR.app (.cons (lB I Z U dy) .nil))
 .rcases aU.mp g with g|g
  .exact B x g
  .rw[List.mem_singleton.mp g];exact⟨A,rfl,T⟩
theorem kR{xs:Fa}{lo hi:Option Int}{x:V}(h:x∈Ik xs lo hi):x∈xs:=List.mem_of_mem_drop (List.mem_of_mem_take h)
theorem NL{p:Rat}{n:Nat}(h:FM.Fits p n):FM.Fits (-p) n:=by
 refine⟨?_,?_⟩
 .rw[Rat.neg_num,Int.natAbs_neg];exact h.1
 .rw[Rat.neg_den];exact h.2
theorem Sy(p:Rat):[V.int (0-p.num),V.int (p.den:Int)]=BZ (-p):=by
 rw[BZ,Rat.neg_num,Rat.neg_den,Int.zero_sub]
theorem iV:[V.int 0,V.int 1]=BZ 0:=rfl
theorem ZV:[V.int 1,V.int 1]=BZ 1:=rfl
theorem Rh:FM.Fits 1 4:=⟨by decide,by decide⟩
section
variable{P:G8}{w:Id}{K:At}{mg:Eu}{base:Heap}{f g1 g2:Addr}{fd gd1 gd2:GE}
theorem Uq:Aj ["_law_rest_here","_law_most","_law_many","_law_mode","_law_rows","_law_k","_law_row","_law_j","_law_last","_law_total","_law_part"] ["_law_rest_here","_law_most"] (AX LA):=⟨rfl,rfl,rfl,by decide +kernel,rfl,by decide +kernel,by decide +kernel⟩
theorem U2(F:Fn K mg "_law_table" LA ["_law_rest_here","_law_most"] f fd)(BX:Fn K mg "_law_ratio" Eg ["_law_top","_law_bottom"] g1 gd1)(BV:Fn K mg "_law_sum" EO Ev g2 gd2)
 (CG:AL P w K mg base Ad 3 g1 gd1 ["_law_top","_law_bottom"] RE)(Bi:AL P w K mg base Ad 3 g2 gd2 Ev (gr K (fun p q=>p+q) (fun _=>True)))(C9:mg "range" = none):AL P w K mg base Ad 4 f fd ["_law_rest_here","_law_most"] Xs:=by
 have sc:=Uq;refine F.F.ok (k:=3) sc Jl Hf
 .obtain⟨x,rfl,_⟩:=h
  rfl
 obtain⟨x,rfl,q⟩:=h;obtain⟨most,T⟩:∃most:Nat,most=3:=⟨_,rfl⟩;rw[show(V.int 3)=V.int ((most:Nat):Int) by rw[T];rfl];refine⟨_,(Aa (BJ (i:=2) sc.nd rfl By (A9 Jn AQ (A9 Ph (pv 0) (pv 1))))
 (Aa (BJ (i:=3) sc.nd rfl By (A9 IM (A9 GA (pv 0) (pv 1)) AQ))
 (Aa (BJ (i:=0) sc.nd rfl By (A9 GA (pv 0) (A9 Ea AQ (pv 1))))
 (Aa (BJ (i:=4) sc.nd rfl By (Ff AV))
 (Aa (Gx aN rfl (PH rfl C9 (AF (A9 Jn (pv 2) AQ) AV)) (Ay (i:=5) sc.nd rfl By)
  (Aa (BJ (i:=6) sc.nd rfl By (Ff AV))
  (Aa (Gx aN rfl (PH rfl C9 (AF (pv 5) AV)) (Ay (i:=7) sc.nd rfl By)
   (Aa (Fc (Ja ab bU bV IE (pv 6) (AF (CQ BX CG hr rfl (AF (A9 MU (A9 IM (pv 0) AQ) AQ) (AF (A9 Jn AQ (A9 IM (A9 JG (pv 0) AQ) AQ)) AV))) AV)))
   (Ar (BJ (i:=0) sc.nd rfl By (A9 JG (pv 0) AQ)))))
  (Ar (Fc (Ja ab bU bV IE (pv 4) (AF (pv 6) AV)))))))
 (Aa (BJ (i:=8) sc.nd rfl By (mz ab PySem.F.slot_list_pop PySem.F.type_list_pop nU (pv 4)))
 (Aa (FD (Cw Pa (pv 3) AQ (A6 _))
  (Aa (BJ (i:=9) sc.nd rfl By (FA (AF AQ (AF AQ AV))))
  (Aa (Gx aN rfl (Es (Q5 TJ (pv 8) TZ (S7 (L6 J2 AQ)))) (Ay (i:=10) sc.nd rfl By)
   (Ar (BJ (i:=9) sc.nd rfl By (CQ BV Bi hr rfl (AF (pv 9) (AF (pv 10) AV))))))
  (Ar (M4 (CQ BV Bi hr rfl (AF (FA (AF AQ (AF AQ AV))) (AF (FA (AF (A9 MU AQ (Bz B5 (pv 9) AQ Da)) (AF (Bz B5 (pv 9) AQ Da) AV))) AV))) (R5 (pv 8) (L6 J2 AQ) set_list)))))
  DB)
 (Ar (Bo (FA (AF (pv 4) (AF (pv 8) AV)))))))))))),?_⟩
 have m0:(most:Int)≠0:=by lia
 refine⟨_,rfl,_,rfl,_,_,rfl,rfl,m0,_,_,rfl,rfl,?_⟩;obtain⟨many,hn1,hn5,em,hmy⟩:∃many:Nat,1<=many/\many<=most/\1+x.fmod most=(many:Int)/\many=Hl x:=by
  have e:=Int.fmod_eq_emod_of_nonneg x (show(0:Int)<=(most:Int) by lia);have a:=Int.emod_nonneg x m0;have b:=Int.emod_lt_of_pos x (show(0:Int)<(most:Int) by lia);exact⟨(1+x.fmod most).toNat,by lia,by lia,by lia,by unfold Hl;rw[e,T];rfl⟩
 rw[<-hmy]at q;rw[show((fun i j:Int=>V.int (i+j)) 1 (x.fmod most))=V.int (many:Int) from ay V.int em];refine⟨_,rfl,_,rfl,_,_,rfl,rfl,⟨m0,8,by decide,by lia⟩,_,_,rfl,rfl,(by show(0:Int)<4;decide),?_⟩;obtain⟨md,hmd⟩:∃md,md=x.fdiv most % 4:=⟨_,rfl⟩;refine⟨_,rfl,_,rfl,_,_,rfl,rfl,mulC AS AS,_,_,rfl,rfl,⟨by lia,8,by decide,by lia⟩,?_⟩;refine⟨HK (show 0<=60 by decide),fun R hR=>?_⟩;have e1:=Ab hR (.lst []);have hR1:upd H R (.lst []) R=some (.lst []):=AM;generalize upd H R (.lst [])=H1 at e1 hR1;refine⟨_,rfl,_,_,rfl,rfl,(many:Int)+1,rfl,by lia,by lia,Tz (n:=((many:Int)+1).toNat) (fun i σ H'=>∃(r5 r6 r7:Option V),σ=[some (.int (Mq (x / 12) (Le i))),some (.int most),some (.int many),some (.int md),some (.ref R),r5,r6,r7,none,none,none]/\AN H H'/\Rows (x / 12) H R H' i) ?_ ?_ ?_⟩
 .subst hmd;refine⟨none,none,none,?_,e1,mj hR1⟩;have ex:x.fdiv (4*(most:Int))=Mq (x / 12) (Le 0):=by
   rw[T,Int.fdiv_eq_ediv_of_nonneg _ As];show _=x / 12 / 78^0;rw[Int.pow_zero,Int.ediv_one];rfl
  rw[<-ex];rfl
 .rintro i σ H2 hi ⟨r5,r6,r7,rfl,e2,xs,U,dx,I,_⟩;refine⟨HK (show 0<=60 by decide),fun A hA=>?_⟩;have e3:=Ab hA (.lst []);have Y:upd H2 A (.lst []) A=some (.lst []):=AM;generalize upd H2 A (.lst [])=H3 at e3 Y;refine⟨_,rfl,0+(i:Int),rfl,by lia,by lia,Tz (n:=(0+(i:Int)).toNat) (fun j σ H'=>∃(r7:Option V),σ=[some (.int (Mq (x / 12) (Le i+j))),some (.int most),some (.int many),some (.int md),some (.ref R),some (.int (0+(i:Int))),some (.ref A),r7,none,none,none]/\AN H2 H'/\∃ys,H' A=some IS/\Bv H' (Ag (ED (x / 12) i j)) ys) ?_ ?_ ?_⟩
  .exact⟨_,rfl,e3,[],Y,.nil⟩
  .rintro j σ H4 hj ⟨r7,rfl,e4,ys,hA4,Z⟩;have hyl:ys.length=j:=by rw[Z.len,Bt,JI]
   have hy1:=gm (x / 12) (Le i+j);have hp1:=fm (x / 12) i j;generalize Mq (x / 12) (Le i+j)=y at hy1 hp1;refine⟨_,rfl,.inl ⟨rfl,_,Ax.of hA4⟩,_,rfl,_,_,rfl,rfl,(by show(0:Int)<13;decide),_,_,rfl,rfl,_,rfl,_,_,rfl,rfl,⟨by decide,by decide⟩,_,_,rfl,rfl,(by show(0:Int)<6;decide),_,_,rfl,rfl,?_⟩;refine⟨y % 13-6,1+y / 13 % 6,3,rfl,by lia,by decide,by lia,fun l H5 e5 hl=>?_⟩;have hA5:=e5 _ _ hA4;refine⟨A,ys,_,rfl,rfl,hA5,S5 (n:=60) AS As,?_⟩;refine⟨_,rfl,_,_,rfl,rfl,⟨by decide,by decide⟩,some (.int (0+(j:Int))),?_,fun b o zz=>?_,ys++[.ref l],AM,?_⟩
   .rw[show Le i+(j+1)=Le i+j+1 from rfl,<-hy1];rfl
   .rw[AR (Aq zz hA)];exact e5 _ _ (e4 _ _ zz)
   .have dn:Bv H5 (Ag (ED (x / 12) i (j+1))) (ys++[.ref l]):=by
     rw[hp1,Jk];exact(Z.same e5).app (.cons (K4 hl) .nil)
    exact Jq hA5 .upd dn
  .rintro σ H4 ⟨r7,rfl,e4,ys,hA4,Z⟩;have hxl:xs.length=i:=by rw[dx.len,Dj,Md]
   rw[show(0+(i:Int)).toNat=i by lia]at Z ⊢;have hR4:=e4 _ _ U;refine⟨_,rfl,.inl ⟨rfl,_,Ax.of hR4⟩,_,rfl,R,xs,_,rfl,rfl,hR4,S5 (n:=60) AS As,?_⟩;refine⟨_,_,_,rfl,fun b o zz=>?_,cw U dx I (Je e2 hA) hA e4 hA4 Z⟩;rw[AR (Aq zz hR)];exact e4 _ _ (e2 _ _ zz)
 rintro σ H2 ⟨r5,r6,r7,rfl,e2,xs,U,dx,I,hlast⟩;obtain⟨g,ys,A,rfl,hAn,nA,hA2,Z,d0,dA⟩:=hlast AS;rw[show((many:Int)+1).toNat-1=many by lia]at Z d0 dA;have hx0:g.length=many:=by rw[d0.len,Dj,Md]
 have hyl:ys.length=many:=by rw[Z.len,Bt,JI]
 generalize Mq (x / 12) (Le ((many:Int)+1).toNat)=y;refine⟨_,rfl,.inl ⟨rfl,_,Ax.of U⟩,R,g++[.ref A],.ref A,rfl,rfl,U,by simp,?_⟩;rw[List.dropLast_concat];have u:SameBut R H2 (upd H2 R (.lst g)):=.upd;have hR3:upd H2 R (.lst g) R=some (.lst g):=AM;have e3:AN H (upd H2 R (.lst g)):=fun b o zz=>by rw[AR (Aq zz hR)];exact e2 _ _ zz
 have Y:upd H2 R (.lst g) A=some IS:=by rw[AR nA];exact hA2
 have Z:=Jq U u Z;have dA:=IX u dA d0;have I:∀x∈g,∃r,x=V.ref r/\H r=none:=fun x hx=>I x (List.mem_append_left _ hx);have d0:=d0.but u;clear dx U hA2 e2 u;generalize upd H2 R (.lst g)=H3 at hR3 e3 Y Z dA d0;refine⟨_,rfl,_,_,rfl,rfl,_,rfl,ER (fun c=>?_) (fun c=>?_)⟩
 .refine⟨HK (show 2<=60 by decide),fun p hp=>?_⟩;rw[iV];have e4:=Ab hp (.tup (BZ 0));have hp4:upd H3 p (.tup (BZ 0)) p=some (.tup (BZ 0)):=AM;generalize upd H3 p (.tup (BZ 0))=H4 at e4 hp4;refine⟨_,rfl,_,rfl,_,rfl,A,ys,rfl,Ax.of (e4 _ _ Y),fun C hC=>?_⟩;have hcl:(Ik ys none (some (-1))).length<=5:=aR (MK _ _ _) AS;have hcm:∀x∈Ik ys none (some (-1)),x∈ys:=fun x hx=>kR hx;generalize Ik ys none (some (-1))=cs at hcl hcm;have e5:=Ab hC (.lst cs);have hC5:upd H4 C (.lst cs) C=some (.lst cs):=AM;generalize upd H4 C (.lst cs)=H5 at e5 hC5;refine⟨C,rfl,⟨_,Ax.of hC5⟩,JX (xs:=cs) (fun i σ H'=>∃(l:Addr) (t:Rat) (r10:Option V),σ=[some (.int y),some (.int most),some (.int many),some (.int md),some (.ref R),r5,r6,r7,some (.ref A),some (.ref l),r10]/\AN H5 H'/\H' l=some (.tup (BZ t))/\FM.Fits t (4+5*i)) ?_ ?_ ?_ ?_⟩
  .exact⟨p,0,_,rfl,.refl _,e5 _ _ hp4,VS (n:=3)⟩
  .rintro i σ H6 _ ⟨l,t,r10,rfl,e6,_⟩;exact Ax.of (e6 _ _ hC5)
  .rintro i v σ H6 hx ⟨l,t,r10,rfl,e6,hl,ft⟩;have hi:i<cs.length:=(aD.mp hx).1;obtain⟨j,hj⟩:=List.getElem?_of_mem (hcm v (aT hx));obtain⟨q',pq,rfl,hq',hpq⟩:=ec Z hj;have E6:=e4.trans (e5.trans e6);have f':=gA q' (aT hq');refine⟨_,rfl,_,rfl,_,_,t,q',40,rfl,Rt.of hl,Rt.of (E6 _ _ hpq),ft.mono AS,f'.mono,by decide,trivial,fun l2 H7 e7 hl2=>?_⟩;exact⟨l2,_,_,rfl,e6.trans e7,hl2,(ft.sum f').mono AS⟩
  .rintro σ H6 ⟨l,t,r10,rfl,e6,hl,ft⟩;have E6:=e4.trans (e5.trans e6);refine⟨HK (show 2<=60 by decide),fun p1 hp1=>?_⟩;rw[ZV];have e7:=Ab hp1 (.tup (BZ 1));have h7:upd H6 p1 (.tup (BZ 1)) p1=some (.tup (BZ 1)):=AM;generalize upd H6 p1 (.tup (BZ 1))=H7 at e7 h7;refine⟨_,rfl,_,_,_,_,rfl,rfl,BE.of (e7 _ _ hl),rfl,_,_,rfl,rfl,_,rfl,_,_,_,_,rfl,rfl,BE.of (e7 _ _ hl),rfl,HK (show 2<=60 by decide),fun p2 hp2=>?_⟩;have hw:([V.int (0-t.num),V.int (t.den:Int)]:List V)=BZ (-t):=Sy t
   first
    |rw[hw]
    |skip
   have e8:=Ab hp2 (.tup (BZ (-t)));have h8:upd H7 p2 (.tup (BZ (-t))) p2=some (.tup (BZ (-t))):=AM;generalize upd H7 p2 (.tup (BZ (-t)))=H8 at e8 h8;have ft:FM.Fits t 40:=ft.mono AS;refine⟨_,_,1,-t,40,rfl,Rt.of (e8 _ _ h7),Rt.of h8,Rh.mono,NL ft,by decide,trivial,fun l2 H9 e9 hl2=>?_⟩;have E9:=E6.trans (e7.trans (e8.trans e9));have hA9:=E9 _ _ Y;have ft2:FM.Fits (1 + -t) 60:=(Rh.sum (NL ft)).mono;refine⟨_,rfl,_,rfl,A,ys,-1,many-1,rfl,rfl,hA9,?_,?_⟩
   .unfold LJ;rw[if_neg As,if_pos AS]
    congr 1
    lia
   have u:SameBut A H9 (upd H9 A (.lst (ys.set (many-1) (.ref l2)))):=.upd;have hA10:upd H9 A (.lst (ys.set (many-1) (.ref l2))) A=some (.lst (ys.set (many-1) (.ref l2))):=AM;have hR10:upd H9 A (.lst (ys.set (many-1) (.ref l2))) R=some (.lst g):=by rw[AR nA.symm];exact E9 _ _ hR3
   have d10:Ap A (upd H9 A (.lst (ys.set (many-1) (.ref l2)))) (A2 (Ir (x / 12) many)) g:=(dA.same E9).but u;have dn:Bv H9 (Ag ((ED (x / 12) many many).set (many-1) (1 + -t))) (ys.set (many-1) (.ref l2)):=by
    rw[Ag,List.map_set];exact Bv.set (K4 hl2) (Z.same E9)
   have dn:=Jq hA9 u dn;have e10:AN H (upd H9 A (.lst (ys.set (many-1) (.ref l2)))):=fun b o zz=>by rw[AR (Aq zz hAn)];exact E9 _ _ (e3 _ _ zz)
   generalize upd H9 A (.lst (ys.set (many-1) (.ref l2)))=H10 at hA10 hR10 d10 dn e10;refine⟨_,rfl,_,rfl,HK (show 2<=60 by decide),fun t0 ht=>?_⟩;have B:=Ab ht (.tup [V.ref R,V.ref A]);have h11:upd H10 t0 (.tup [V.ref R,V.ref A]) t0=some (.tup [V.ref R,V.ref A]):=AM;generalize upd H10 t0 (.tup [V.ref R,V.ref A])=H11 at B h11;exact q t0 R A H11 g _ _ (e10.trans B) h11 (B _ _ hR10) nA.symm hR hAn (B _ _ hA10) (dn.same B) (d10.same B) I
 .refine⟨_,rfl,_,rfl,HK (show 2<=60 by decide),fun t0 ht=>?_⟩;have B:=Ab ht (.tup [V.ref R,V.ref A]);have h11:upd H3 t0 (.tup [V.ref R,V.ref A]) t0=some (.tup [V.ref R,V.ref A]):=AM;generalize upd H3 t0 (.tup [V.ref R,V.ref A])=H11 at B h11;have hz:(ED (x / 12) many many).set (many-1) (ED (x / 12) many many)[many-1]! = ED (x / 12) many many:=by
   refine List.ext_getElem? fun k=>?_;rw[List.getElem?_set];split
   .rename_i hk;subst hk;rw[if_pos (by rw[JI];lia),List.getElem!_eq_getElem?_getD,List.getElem?_eq_getElem (by rw[JI];lia)];rfl
   .rfl
  exact q t0 R A H11 g ys _ (e3.trans B) h11 (B _ _ hR3) nA.symm hR hAn (B _ _ Y) (by rw[hz];exact Z.same B) (dA.same B) I
end
def lU(m n:Nat)(t:Tb):Bool:=decide (1<=t.rs.length)&&decide (t.rs.length<=m)&&decide (t.ls.length=t.rs.length)&&(List.range m).all (fun i=>match t.rs[i]? with|some r=>decide (r.length=i)|none=>true)&&t.rs.all (fun r=>r.all fun q=>decide (q.num.natAbs<2^n/\q.den<2^n))&&t.ls.all fun q=>decide (q.num.natAbs<2^n/\q.den<2^n)
theorem nJ{m n:Nat}{t:Tb}(h:lU m n t=true):t.Ok m/\t.Fits n:=by
 unfold lU at h;simp only[Bool.and_eq_true,decide_eq_true_eq,List.all_eq_true,List.mem_range]at h;obtain⟨⟨⟨⟨⟨Z,Y⟩,U⟩,T⟩,R⟩,I⟩:=h;refine⟨⟨Z,Y,U,fun i r g=>?_⟩,fun r g q B=>R r g q B,fun q B=>I q B⟩;have:=T i (by have:=(aD.mp g).1;lia);rw[g]at this
 simpa using this
def dY:Nat->Tb
 |0=>⟨[[]],[1]⟩
 |1=>⟨[[],[Rat.divInt 1 2]],[0,1]⟩
 |2=>⟨[[],[1]],[Rat.divInt 1 2,Rat.divInt 1 2]⟩
 |3=>⟨[[],[Rat.divInt 1 3],[0,Rat.divInt 2 3]],[Rat.divInt 1 4,0,Rat.divInt 3 4]⟩
 |_=>⟨[[],[Rat.divInt 1 2],[0,Rat.divInt 1 2],[0,0,1]],[Rat.divInt 1 6,Rat.divInt 1 3,Rat.divInt 1 3,Rat.divInt 1 6]⟩
def eU:Nat->Str
 |0 => "plain" |1 => "middle" |2 => "heel" |3 => "third" |_ => "fourth"
theorem kA:(List.range 5).map (fun i=>Ka [.str (eU i)])=(List.range 5).map fun i=>some (AY (dY i)):=by kernel_rfl
theorem nS{i:Nat}(h:i<5):Ka [.str (eU i)]=some (AY (dY i)):=bK.mp kA i (bD.mpr h)
def pS(H H':Hp)(v:V):Prop:=∃(p R L:Addr) (xs:Fa),v=.ref p/\H' p=some (.tup [.ref R,.ref L])/\H' R=some (.lst xs)/\H R=none/\H L=none/\∀b,V.ref b∈xs->H b=none
theorem UK{G H H':Hp}:∀ {rs:List (List Rat)} {xs:Fa},Bv H' (A2 rs) xs->(∀b,V.ref b∈xs->H b=none)->A4 (JS G H H') (A2 rs) xs
 |[],xs,h,_=>by
  have:=h.len;have e:xs=[]:=bY (by simpa[A2]using this);rw[e];exact .nil
 |q::B,xs,h,k=>by
  obtain⟨x,r,rfl,U,T⟩:=Bv.iR (d:=BB q) (ds:=A2 B) h;obtain⟨a,g,rfl,ha,I⟩:=DU.iz (ds:=Ag q) U;refine .cons ?_ (UK T fun b R=>k b (.tail _ R));unfold BB;rw[Du];exact⟨a,g,rfl,RU ha (k a (.head _)),Kh I⟩
theorem XG{G H H':Hp}{t:Tb}{v:V}(h:DU H' (AY t) v)(n:pS H H' v):Du (JS G H H') (AY t) v:=by
 obtain⟨p,R,L,xs,rfl,T,I,h3,h4,h5⟩:=n;obtain⟨p',R',L',U,ys,e,B,g,k3,Z,Y⟩:=h.tab;cases e;rw[T]at B;cases B;rw[I]at g;cases g;unfold AY;rw[Du];refine⟨p,_,rfl,eK T,.cons ?_ (.cons ?_ .nil)⟩
 .rw[Du];exact⟨R,xs,rfl,RU I h3,UK k3 h5⟩
 .rw[Du];exact⟨L,ys,rfl,RU Z h4,Kh Y⟩
def i7(t:Tb):Bool:=lU 4 12 t&&t.rs.all (fun r=>r.all fun q=>decide (5040 % q.den=0))&&t.ls.all fun q=>decide (5040 % q.den=0)
theorem cY{t:Tb}(h:i7 t=true):Bd 5040 12 4 t:=by
 unfold i7 at h;simp only[Bool.and_eq_true,decide_eq_true_eq,List.all_eq_true]at h;obtain⟨o,f⟩:=nJ h.1.1;have B:∀q:Rat,5040 % q.den=0->(q.den:Int) ∣ 5040:=fun q g=>by
  have:=Int.natCast_dvd_natCast.mpr (Nat.dvd_of_mod_eq_zero g);exact this
 exact⟨by decide,o,f,fun r I q g=>B q (h.1.2 r I q g),fun q g=>B q (h.2 q g)⟩
theorem mO{i:Nat}(h:i<5):Bd 5040 12 4 (dY i):=cY (by
 have:∀i,i<5->i7 (dY i)=true:=by decide +kernel
 exact this i h)
def YC:Nat->Int
 |0=>1
 |_=>-1
def Uj(k i j:Nat):Rat:=Rat.divInt (YC k*(1+(i:Int))) (1+(j:Int))
def UA(p:Rat):Rat:=Rat.divInt p.den (2*p.num)
def t3(p:Rat):Tb:=⟨[[],[p]],[1 + -UA p,UA p]⟩
theorem cn:∀k,k<2->∀i,i<9->∀j,j<5->(Uj k i j).num≠0/\(Uj k i j).num.natAbs<2^10/\(UA (Uj k i j)).num.natAbs<2^10/\(UA (Uj k i j)).den<2^10/\i7 (t3 (Uj k i j))=true:=by decide +kernel
def Yy(y:Int)(n:Nat):Rat:=1 + -((ED y n n).take (n-1)).foldl (fun p q=>p+q) 0
def t2(y:Int)(n:Nat):Tb:=⟨Ir y n,(ED y n n).set (n-1) (Yy y n)⟩
def IC(M:Nat)(r:Rat):Prop:=∃t:Int,r*((60:Int):Rat)=(t:Rat)/\t.natAbs<=M
theorem IC.add{M N:Nat}{p q:Rat}(h:IC M p)(k:IC N q):IC (M+N) (p+q):=by
 obtain⟨s,B,R⟩:=h;obtain⟨t,g,I⟩:=k;exact⟨s+t,by rw[Rat.add_mul,B,g,Rat.intCast_add],by lia⟩
theorem IC.neg{M:Nat}{p:Rat}(h:IC M p):IC M (-p):=by
 obtain⟨s,g,B⟩:=h;exact⟨-s,by rw[Rat.neg_mul,g,Rat.intCast_neg],by lia⟩
theorem IC.div{M:Nat}{p:Rat}(h:IC M p):∃t:Int,p=Rat.divInt t 60/\t.natAbs<=M:=by
 obtain⟨s,B,g⟩:=h;refine⟨s,?_,g⟩;rw[Rat.divInt_eq_div,<-B];have:((60:Int):Rat)≠0:=by decide +kernel
 rw[Rat.div_def,(MM),Rat.mul_inv_cancel _ this,Rat.mul_one]
theorem IC.ok{M:Nat}{p:Rat}(h:IC M p)(g:M<4096):FM.Fits p 12/\(p.den:Int) ∣ 5040:=by
 obtain⟨t,rfl,B⟩:=h.div;exact⟨.Rm As (by show t.natAbs<4096;lia) As,Int.dvd_trans (Xy As) ⟨84,rfl⟩⟩
theorem RG(y:Int):IC 360 (Vx y):=by
 have all:∀u,u<13->∀v,v<6->Rat.divInt ((u:Nat)-6:Int) (1+(v:Nat))*((60:Int):Rat)=((((u:Nat)-6:Int)*(60 / (1+(v:Nat))):Int):Rat)/\(((u:Nat)-6:Int)*(60 / (1+(v:Nat)))).natAbs<=360:=by decide +kernel
 obtain⟨u,B⟩:∃u:Nat,y % 13=u:=⟨(y % 13).toNat,by lia⟩;obtain⟨v,g⟩:∃v:Nat,y / 13 % 6=v:=⟨(y / 13 % 6).toNat,by lia⟩;unfold Vx;rw[B,g];exact⟨_,(all u AS v AS).1,(all u AS v AS).2⟩
theorem WO:IC 60 1:=⟨60,by decide +kernel,by decide⟩
theorem TK:IC 0 0:=⟨0,by decide +kernel,by decide⟩
theorem nT{y:Int}{n:Nat}(B:1<=n)(g:n<=3):IC 1000 (Yy y n):=by
 have up:∀ {M:Nat} {p:Rat},M<=1000->IC M p->IC 1000 p:=fun h ⟨t,a,b⟩=>⟨t,a,by lia⟩
 match n,B,g with
 |1,_,_=>exact up As (WO.add TK.neg)
 |2,_,_=>exact up As (WO.add (TK.add (RG _)).neg)
 |3,_,_=>exact up As (WO.add ((TK.add (RG _)).add (RG _)).neg)
theorem eO{y:Int}{i j:Nat}{q:Rat}(h:q∈ED y i j):IC 360 q:=by
 obtain⟨_,_,rfl⟩:=aK.mp h;exact RG _
theorem qC{y:Int}{n:Nat}(R:1<=n)(T:n<=3):Bd 5040 12 4 (t2 y n):=by
 have I:∀r∈Ir y n,∀q∈r,IC 360 q:=fun r g q B=>by
  obtain⟨_,_,rfl⟩:=aK.mp g;exact eO B
 have ls:∀q∈(ED y n n).set (n-1) (Yy y n),IC 1000 q:=fun q B=>by
  rcases List.mem_or_eq_of_mem_set B with h|rfl
  .obtain⟨t,a,b⟩:=eO h;exact⟨t,a,by lia⟩
  .exact nT R T
 refine⟨by decide,⟨by show 1<=(Ir y n).length;rw[Md];exact R,by show(Ir y n).length<=4;rw[Md];lia,?_,fun i r g=>?_⟩,⟨fun r g q B=>((I r g q B).ok As).1,fun q B=>((ls q B).ok As).1⟩,fun r g q B=>((I r g q B).ok As).2,fun q B=>((ls q B).ok As).2⟩
 .show((ED y n n).set (n-1) (Yy y n)).length=(Ir y n).length;rw[List.length_set,JI,Md]
 .have g:(Ir y n)[i]? = some r:=g;unfold Ir at g;rw[(B7)]at g;by_cases hi:i<n
  .rw[List.getElem?_range hi]at g;cases g;exact JI y i i
  .rw[List.getElem?_eq_none (by rw[(Qm)];lia)]at g;cases g
def NW(a b:Int):Tb :=
 if a % 4<2 then dY (a / 4 % 5).toNat else if a % 4=2 then t2 (b / 12) (Hl b) else t3 (Uj (a / 4 % 2).toNat (a / 8 % 9).toNat (a / 72 % 5).toNat)
theorem kU(a b:Int):Bd 5040 12 4 (NW a b):=by
 unfold NW;split
 .exact mO AS
 .split
  .exact qC (by unfold Hl;lia) (by unfold Hl;lia)
  .exact cY (cn _ AS _ AS _ AS).2.2.2.2
def Tp:List PyData->Option PyData
 |[.int a,.int b]=>some (AY (NW a b))
 |_=>none
theorem pO(a b:Int):∃t,Tp [.int a,.int b]=some (AY t)/\Bd 5040 12 4 t:=⟨_,rfl,kU a b⟩
section
variable{P:G8}{w:Id}{K:At}{mg:Eu}{base:Heap}{f g1 g2 g3 g4:Addr}{fd gd1 gd2 gd3 gd4:GE}
theorem U1:Aj ["_law_rest_here","_law_other","_law_mode","_law_rows","_law_last","_law_total","_law_part","_law_second"] ["_law_rest_here","_law_other"] (AX LF):=⟨rfl,rfl,rfl,by decide +kernel,rfl,by decide +kernel,by decide +kernel⟩
theorem U3(F:Fn K mg "_law_drawn" LF ["_law_rest_here","_law_other"] f fd)(BX:Fn K mg "_law_ratio" Eg ["_law_top","_law_bottom"] g1 gd1)(BV:Fn K mg "_law_sum" EO Ev g2 gd2)(Iq:Fn K mg "_law_table" LA ["_law_rest_here","_law_most"] g3 gd3)(Kj:Fn K mg "table_of" NK ["name"] g4 gd4)
 (CG:AL P w K mg base Ad 5 g1 gd1 ["_law_top","_law_bottom"] RE)(Bi:AL P w K mg base Ad 5 g2 gd2 Ev (gr K (fun p q=>p+q) (fun _=>True)))(VZ:AL P w K mg base Ad 5 g3 gd3 ["_law_rest_here","_law_most"] Xs)(Nu:AL P w K mg base Ad 5 g4 gd4 ["name"] (A3 Ka)):AL P w K mg base Ad 6 f fd ["_law_rest_here","_law_other"] (A3 Tp):=by
 have sc:=U1;have nw:∀ {G H H1 G':Hp},Nw G H1 G'->AN H H1->Nw G H G':=fun n e x o hx=>(n x o hx).imp id fun z=>z.imp (Je e) id;have key:∀vs H Q E,A3 Tp vs H Q E->∃(a b:Int) (G:Hp),vs=[.int a,.int b]/\AN G H/\∀v G' H',AN G G'->Nw G H G'->AN G' H'->AN H H'->Du G' (AY (NW a b)) v->Q v H':=fun vs H Q E h=>by
  obtain⟨ds,x,G,hm,d,e,B⟩:=h;unfold Tp at hm;split at hm
  .cases hm;obtain⟨v1,v2,rfl,d1,d2⟩:=d.RO;rw[Du]at d1 d2;subst d1 d2;exact⟨_,_,G,rfl,e,B⟩
  .cases hm
 refine F.F.ok (k:=5) sc Jl Hf
 .obtain⟨a,b,G,rfl,_⟩:=key _ _ _ _ h
  rfl
 obtain⟨a,b,G,rfl,e0,B⟩:=key _ _ _ _ h;clear h key;refine⟨_,(Aa (BJ (i:=2) sc.nd rfl By (A9 IM (pv 0) AQ))
 (Aa (FD (Cw Rg (pv 2) AQ (A6 _))
  (Ar (Bo (CQ Kj Nu hr rfl (AF (Bz M8 (Ff (AF Oa (AF Oa (AF Oa (AF Oa (AF Oa AV)))))) (A9 IM (A9 JG (pv 0) AQ) AQ) Da) AV))))
  DB)
 (Aa (FD (Cw Rl (pv 2) AQ (A6 _))
  (Aa (M4 (CQ Iq VZ hr rfl (AF (pv 1) (AF AQ AV))) (Gp rfl (Bq (Ay (i:=3) sc.nd rfl By) (Bq (Ay (i:=4) sc.nd rfl By) FY))))
  (Aa (BJ (i:=5) sc.nd rfl By (FA (AF AQ (AF AQ AV))))
  (Aa (Gx aN rfl (Es (Q5 TJ (pv 4) TZ (S7 (L6 J2 AQ)))) (Ay (i:=6) sc.nd rfl By)
   (Ar (BJ (i:=5) sc.nd rfl By (CQ BV Bi hr rfl (AF (pv 5) (AF (pv 6) AV))))))
  (Aa (M4 (CQ BV Bi hr rfl (AF (FA (AF AQ (AF AQ AV))) (AF (FA (AF (A9 MU AQ (Bz B5 (pv 5) AQ Da)) (AF (Bz B5 (pv 5) AQ Da) AV))) AV))) (R5 (pv 4) (L6 J2 AQ) set_list))
  (Ar (Bo (FA (AF (pv 3) (AF (pv 4) AV)))))))))
  DB)
 (Aa (BJ (i:=6) sc.nd rfl By (CQ BX CG hr rfl (AF (A9 Ea (Bz M8 (Ff (AF AQ (AF (L6 J2 AQ) AV))) (A9 IM (A9 JG (pv 0) AQ) AQ) Da) (A9 Jn AQ (A9 IM (A9 JG (pv 0) AQ) AQ))) (AF (A9 Jn AQ (A9 IM (A9 JG (pv 0) AQ) AQ)) AV))))
 (Aa (BJ (i:=7) sc.nd rfl By (CQ BX CG hr rfl (AF (Bz B5 (pv 6) AQ Da) (AF (A9 Ea AQ (Bz B5 (pv 6) AQ Da)) AV))))
 (Ar (Bo (FA (AF (Ff (AF (Ff AV) (AF (Ff (AF (pv 6) AV)) AV))) (AF (Ff (AF (CQ BV Bi hr rfl (AF (FA (AF AQ (AF AQ AV))) (AF (FA (AF (A9 MU AQ (Bz B5 (pv 7) AQ Da)) (AF (Bz B5 (pv 7) AQ Da) AV))) AV))) (AF (pv 7) AV))) AV)))))))))),?_⟩
 refine⟨_,rfl,_,_,rfl,rfl,(by show(0:Int)<4;decide),?_⟩;refine⟨_,rfl,_,_,rfl,rfl,_,rfl,ER (fun c=>?_) (fun c=>?_)⟩
 .have c':a % 4<2:=ah c;unfold NW at B;rw[if_pos c']at B;refine⟨(by show 5<=sizeLine;decide),fun p hp=>?_⟩;have e1:=Ab hp (.lst [V.str "plain",V.str "middle",V.str "heel",V.str "third",V.str "fourth"]);have h1:upd H p (.lst [V.str "plain",V.str "middle",V.str "heel",V.str "third",V.str "fourth"]) p=some (.lst [V.str "plain",V.str "middle",V.str "heel",V.str "third",V.str "fourth"]):=AM;generalize upd H p (.lst [V.str "plain",V.str "middle",V.str "heel",V.str "third",V.str "fourth"])=H1 at e1 h1;obtain⟨n,hn,en⟩:∃n:Nat,n<5/\a / 4 % 5=(n:Int):=⟨(a / 4 % 5).toNat,by lia,by lia⟩;rw[en,(ML)]at B;refine⟨_,rfl,_,_,rfl,rfl,⟨by decide,by decide⟩,_,_,rfl,rfl,(by show(0:Int)<5;decide),_,_,(n:Int),V.str (eU n),rfl,?_,Ax.of h1,?_,?_⟩
  .exact ay V.int en
  .have all:∀n,n<5->Fu [V.str "plain",V.str "middle",V.str "heel",V.str "third",V.str "fourth"] ((n:Nat):Int)=some (V.str (eU n)):=by decide
   exact all n hn
  .refine⟨[.str (eU n)],_,G,nS hn,.cons (by rw[Du]) .nil,e0.trans e1,fun v G' H' a1 a2 a3 a4 a5=>?_⟩;exact B v G' H' a1 (nw a2 e1) a3 (e1.trans a4) a5
 refine⟨_,rfl,rfl,_,rfl,ER (fun c2=>?_) (fun c2=>?_)⟩
 .have c':¬a % 4<2:=fun z=>c (bf z);have c2':a % 4=2:=by simpa using c2
  unfold NW at B;rw[if_neg c',if_pos c2']at B;refine⟨_,rfl,b,rfl,fun p R L H1 xs0 ys z e1 hp hR nRL hRn hLn hL dL dR hnew=>?_⟩;obtain⟨many,hmy,hm1,hm3⟩:∃many:Nat,Hl b=many/\1<=many/\many<=3:=⟨_,rfl,by unfold Hl;lia,by unfold Hl;lia⟩;rw[hmy]at dL dR B;generalize b / 12=y at dL dR B;have hyl:ys.length=many:=by rw[dL.len,Bt,List.length_set,JI]
  refine⟨p,_,rfl,BE.of hp,rfl,_,_,rfl,_,_,rfl,rfl,?_⟩;refine⟨HK (show 2<=60 by decide),fun T Y=>?_⟩;rw[iV];have e2:=Ab Y (.tup (BZ 0));have h2:upd H1 T (.tup (BZ 0)) T=some (.tup (BZ 0)):=AM;generalize upd H1 T (.tup (BZ 0))=H2 at e2 h2;refine⟨_,rfl,_,rfl,_,rfl,L,ys,rfl,Ax.of (e2 _ _ hL),fun C hC=>?_⟩;have hct:Ik ys none (some (-1))=ys.take (many-1):=by
   unfold Ik;rw[HT.gP,List.drop_zero,Nat.sub_zero];rw[show HT.B0 ys.length ys.length (some (-1))=(-1+(ys.length:Int)).toNat by unfold HT.B0;exact if_pos As,hyl,show(-1+(many:Int)).toNat=many-1 by lia]
  rw[hct];have e3:=Ab hC (.lst (ys.take (many-1)));have h3:upd H2 C (.lst (ys.take (many-1))) C=some (.lst (ys.take (many-1))):=AM;generalize upd H2 C (.lst (ys.take (many-1)))=H3 at e3 h3;refine⟨C,rfl,⟨_,Ax.of h3⟩,JX (xs:=ys.take (many-1)) (fun i σ H'=>∃(l:Addr) (r6:Option V),σ=[some (.int a),some (.int b),some (.int (a % 4)),some (.ref R),some (.ref L),some (.ref l),r6,none]/\AN H3 H'/\H' l=some (.tup (BZ (((ED y many many).take i).foldl (fun p q=>p+q) 0)))/\FM.Fits (((ED y many many).take i).foldl (fun p q=>p+q) 0) (4+5*i)) ?_ ?_ ?_ ?_⟩
  .exact⟨T,_,rfl,.refl _,e3 _ _ h2,VS (n:=3)⟩
  .rintro i σ H6 _ ⟨l,r6,rfl,e6,_⟩;exact Ax.of (e6 _ _ h3)
  .rintro i v σ H6 hx ⟨l,r6,rfl,e6,hl,Z⟩;have hi:i<many-1:=by
    have:=(aD.mp hx).1;rw[(MI)]at this;lia
   rw[List.getElem?_take_of_lt hi]at hx;have hq:((ED y many many).set (many-1) z)[i]? = some (Vx (Mq y (Le many+i))):=by
    rw[List.getElem?_set_ne AS];unfold ED;rw[(B7),List.getElem?_range AS];rfl
   obtain⟨pq,hpq,hq'⟩:=Kl dL hq;rw[hx]at hpq;cases hpq;have E6:=e2.trans (e3.trans e6);have f':=Wr (Mq y (Le many+i));have tk:(ED y many many).take (i+1)=(ED y many many).take i++[Vx (Mq y (Le many+i))]:=by
    rw[(ME)]
    congr 1
    unfold ED;rw[(B7),List.getElem?_range AS];rfl
   rw[tk,List.foldl_append];generalize ((ED y many many).take i).foldl (fun p q=>p+q) 0=t at hl Z ⊢;refine⟨_,rfl,_,rfl,_,_,t,_,40,rfl,Rt.of hl,Rt.of (E6 _ _ hq'),Z.mono AS,f'.mono,by decide,trivial,fun U H7 e7 g=>?_⟩;exact⟨U,_,rfl,e6.trans e7,g,(Z.sum f').mono AS⟩
  .rintro σ H6 ⟨l,r6,rfl,e6,hl,Z⟩;have E6:=e2.trans (e3.trans e6);have tl:(ys.take (many-1)).length=many-1:=by rw[(MI)];lia
   rw[tl]at hl Z;have ht:1 + -((ED y many many).take (many-1)).foldl (fun p q=>p+q) 0=Yy y many:=rfl;have Z:FM.Fits (((ED y many many).take (many-1)).foldl (fun p q=>p+q) 0) 40:=Z.mono AS;generalize ((ED y many many).take (many-1)).foldl (fun p q=>p+q) 0=t at hl Z ht;refine⟨HK (show 2<=60 by decide),fun T Y=>?_⟩;rw[ZV];have e7:=Ab Y (.tup (BZ 1));have h7:upd H6 T (.tup (BZ 1)) T=some (.tup (BZ 1)):=AM;generalize upd H6 T (.tup (BZ 1))=H7 at e7 h7;refine⟨_,rfl,_,_,_,_,rfl,rfl,BE.of (e7 _ _ hl),rfl,_,_,rfl,rfl,_,rfl,_,_,_,_,rfl,rfl,BE.of (e7 _ _ hl),rfl,HK (show 2<=60 by decide),fun p2 hp2=>?_⟩;have hw:([V.int (0-t.num),V.int (t.den:Int)]:List V)=BZ (-t):=Sy t
   first
    |rw[hw]
    |skip
   have e8:=Ab hp2 (.tup (BZ (-t)));have h8:upd H7 p2 (.tup (BZ (-t))) p2=some (.tup (BZ (-t))):=AM;generalize upd H7 p2 (.tup (BZ (-t)))=H8 at e8 h8;refine⟨_,_,1,-t,40,rfl,Rt.of (e8 _ _ h7),Rt.of h8,Rh.mono,NL Z,by decide,trivial,fun U H9 e9 g=>?_⟩;have g:H9 U=some (.tup (BZ (1 + -t))):=g;rw[ht]at g;have E9:=E6.trans (e7.trans (e8.trans e9));have hA9:=E9 _ _ hL;refine⟨_,rfl,_,rfl,L,ys,-1,many-1,rfl,rfl,hA9,?_,?_⟩
   .unfold LJ;rw[if_neg As,if_pos AS]
    congr 1
    lia
   have u:SameBut L H9 (upd H9 L (.lst (ys.set (many-1) (.ref U)))):=.upd;have hL10:upd H9 L (.lst (ys.set (many-1) (.ref U))) L=some (.lst (ys.set (many-1) (.ref U))):=AM;have hR10:upd H9 L (.lst (ys.set (many-1) (.ref U))) R=some (.lst xs0):=by rw[AR nRL];exact E9 _ _ hR
   have d10:Bv (upd H9 L (.lst (ys.set (many-1) (.ref U)))) (A2 (Ir y many)) xs0:=K9 ((dR.same E9).but u);have dn:Bv H9 (Ag ((ED y many many).set (many-1) (Yy y many))) (ys.set (many-1) (.ref U)):=by
    have:=Bv.set (j:=many-1) (K4 g) (dL.same E9);rw[Ag,List.map_set,List.set_set]at this;rw[Ag,List.map_set];exact this
   have dn:=Jq hA9 u dn;have e10:AN H (upd H9 L (.lst (ys.set (many-1) (.ref U)))):=fun b o zz=>by rw[AR (Aq zz hLn)];exact E9 _ _ (e1 _ _ zz)
   generalize upd H9 L (.lst (ys.set (many-1) (.ref U)))=H10 at hL10 hR10 d10 dn e10;refine⟨_,rfl,_,rfl,HK (show 2<=60 by decide),fun t0 ht=>?_⟩;have I:=Ab ht (.tup [V.ref R,V.ref L]);have h11:upd H10 t0 (.tup [V.ref R,V.ref L]) t0=some (.tup [V.ref R,V.ref L]):=AM;generalize upd H10 t0 (.tup [V.ref R,V.ref L])=H11 at I h11;obtain⟨n1,n2,n3⟩:=TN e0 (e10.trans I);exact B _ _ H11 n1 n2 n3 (e10.trans I) (XG (t:=t2 y many) (eW h11 (I _ _ hR10) (d10.same I) (I _ _ hL10) (dn.same I)) ⟨t0,R,L,xs0,rfl,h11,I _ _ hR10,hRn,hLn,fun b hb=>by
    obtain⟨r,hr,h⟩:=hnew _ hb;cases hr;exact h⟩)
 have c':¬a % 4<2:=fun z=>c (bf z);have c2':¬a % 4=2:=fun z=>c2 (by simpa using z);unfold NW at B;rw[if_neg c',if_neg c2']at B;obtain⟨n,hn,en⟩:∃n:Nat,n<2/\a / 4 % 2=(n:Int):=⟨(a / 4 % 2).toNat,by lia,by lia⟩;obtain⟨i,hi,ei⟩:∃n:Nat,n<9/\a / 8 % 9=(n:Int):=⟨(a / 8 % 9).toNat,by lia,by lia⟩;obtain⟨j,hj,ej⟩:∃n:Nat,n<5/\a / 72 % 5=(n:Int):=⟨(a / 72 % 5).toNat,by lia,by lia⟩;rw[en,ei,ej,(ML),(ML),(ML)]at B;obtain⟨q1,q2,q3,q4,_⟩:=cn n hn i hi j hj;have hp3:Rat.divInt (YC n*(1+(i:Int))) (1+(j:Int))=Uj n i j:=rfl;generalize Uj n i j=r at B q1 q2 q3 q4 hp3;refine⟨_,rfl,(by show 2<=sizeLine;decide),fun p hp=>?_⟩;have e1:=Ab hp (.lst [V.int 1,V.int (-1)]);have h1:upd H p (.lst [V.int 1,V.int (-1)]) p=some (.lst [V.int 1,V.int (-1)]):=AM;generalize hH1:upd H p (.lst [V.int 1,V.int (-1)])=H1 at e1 h1;have hH1':upd H p (.lst [V.int 1,(fun i=>V.int (-i)) 1])=H1:=hH1;refine⟨_,rfl,_,_,rfl,rfl,⟨by decide,by decide⟩,_,_,rfl,rfl,(by show(0:Int)<2;decide),p,[V.int 1,V.int (-1)],(n:Int),V.int (YC n),rfl,congrArg V.int en,?_,?_,?_⟩
 .first|exact Ax.of h1|(rw[hH1];exact Ax.of h1)|(rw[hH1'];exact Ax.of h1)
 .have all:∀n,n<2->Fu [V.int 1,V.int (-1)] ((n:Nat):Int)=some (V.int (YC n)):=by decide
  exact all n hn
 first|rw[hH1]|rw[hH1']|skip
 refine⟨_,rfl,_,_,rfl,rfl,⟨by decide,by decide⟩,_,_,rfl,rfl,(by show(0:Int)<9;decide),_,_,rfl,rfl,_,_,rfl,rfl,mulC (by show _<1+a / 8 % 9;lia) (by show 1+a / 8 % 9<_;lia),_,rfl,_,_,rfl,rfl,⟨by decide,by decide⟩,_,_,rfl,rfl,(by show(0:Int)<5;decide),_,_,rfl,rfl,?_⟩;refine⟨YC n*(1+(i:Int)),1+(j:Int),4,?_,by lia,by decide,by lia,fun l H2 e2 hl=>?_⟩
 .show [V.int (YC n*(1+a / 8 % 9)),V.int (1+a / 72 % 5)]=_;rw[ei,ej]
 rw[hp3]at hl;have hs3:Rat.divInt (r.den:Int) (2*r.num)=UA r:=rfl;refine⟨_,rfl,_,_,_,_,rfl,rfl,BE.of hl,rfl,_,rfl,_,_,_,_,rfl,rfl,BE.of hl,rfl,_,_,rfl,rfl,mulC AS AS,(r.den:Int),2*r.num,12,rfl,by lia,by decide,by lia,fun U H3 e3 g=>?_⟩;rw[hs3]at g;refine⟨(by show 0<=sizeLine;decide),fun T Y=>?_⟩;have f1:=Ab Y (.lst []);have g1:upd H3 T (.lst []) T=some (.lst []):=AM;generalize upd H3 T (.lst [])=I1 at f1 g1;refine⟨_,rfl,(by show 1<=sizeLine;decide),fun p2 hp2=>?_⟩;have f2:=Ab hp2 (.lst [V.ref l]);have g2:upd I1 p2 (.lst [V.ref l]) p2=some (.lst [V.ref l]):=AM;generalize upd I1 p2 (.lst [V.ref l])=I2 at f2 g2;refine⟨Ry,fun p3 hp3=>?_⟩;have f3:=Ab hp3 (.lst [V.ref T,V.ref p2]);have g3:upd I2 p3 (.lst [V.ref T,V.ref p2]) p3=some (.lst [V.ref T,V.ref p2]):=AM;generalize upd I2 p3 (.lst [V.ref T,V.ref p2])=I3 at f3 g3;refine⟨Ry,fun p4 hp4=>?_⟩;rw[ZV];have f4:=Ab hp4 (.tup (BZ 1));have g4:upd I3 p4 (.tup (BZ 1)) p4=some (.tup (BZ 1)):=AM;generalize upd I3 p4 (.tup (BZ 1))=I4 at f4 g4;have F4:=f1.trans (f2.trans (f3.trans f4));have B:=fun v G' H' h1 h2 h3 h4 (h5:Du G' (AY ⟨[[],[r]],[1 + -UA r,UA r]⟩) v)=>B v G' H' h1 h2 h3 h4 h5;generalize UA r=t at g q3 q4 B;refine⟨_,rfl,_,_,_,_,rfl,rfl,BE.of (F4 _ _ g),rfl,_,_,rfl,rfl,_,rfl,_,_,_,_,rfl,rfl,BE.of (F4 _ _ g),rfl,HK (show 2<=60 by decide),fun p5 hp5=>?_⟩;have hw:([V.int (0-t.num),V.int (t.den:Int)]:List V)=BZ (-t):=Sy t
 first
  |rw[hw]
  |skip
 have f5:=Ab hp5 (.tup (BZ (-t)));have g5:upd I4 p5 (.tup (BZ (-t))) p5=some (.tup (BZ (-t))):=AM;generalize upd I4 p5 (.tup (BZ (-t)))=I5 at f5 g5;have Z:FM.Fits t 10:=⟨q3,q4⟩;have Z:FM.Fits t 40:=Z.mono;refine⟨_,_,1,-t,40,rfl,Rt.of (f5 _ _ g4),Rt.of g5,Rh.mono,NL Z,by decide,trivial,fun l3 I6 f6 hl3=>?_⟩;have hl3:I6 l3=some (.tup (BZ (1 + -t))):=hl3;refine⟨_,rfl,Ry,fun p6 hp6=>?_⟩;have f7:=Ab hp6 (.lst [V.ref l3,V.ref U]);have g7:upd I6 p6 (.lst [V.ref l3,V.ref U]) p6=some (.lst [V.ref l3,V.ref U]):=AM;generalize upd I6 p6 (.lst [V.ref l3,V.ref U])=I7 at f7 g7;refine⟨Ry,fun p7 hp7=>?_⟩;have f8:=Ab hp7 (.tup [V.ref p3,V.ref p6]);have g8:upd I7 p7 (.tup [V.ref p3,V.ref p6]) p7=some (.tup [V.ref p3,V.ref p6]):=AM;generalize upd I7 p7 (.tup [V.ref p3,V.ref p6])=I8 at f8 g8;have F8:=f7.trans f8;have F6:=f6.trans F8;have F5:=f4.trans (f5.trans F6);have E3:=e1.trans (e2.trans e3);have E8:=E3.trans (f1.trans (f2.trans (f3.trans F5)));have hl':=(e3.trans (f1.trans (f2.trans (f3.trans F5)))) _ _ hl;have hl2':=(f1.trans (f2.trans (f3.trans F5))) _ _ g;obtain⟨n1,n2,n3⟩:=TN e0 E8;refine B _ _ I8 n1 n2 n3 E8 (XG (t:=⟨[[],[r]],[1 + -t,t]⟩) (eW g8 (F5 _ _ g3) (.cons (.lst ((f2.trans (f3.trans F5)) _ _ g1) .nil) (.cons (.lst ((f3.trans F5) _ _ g2) (.cons (K4 hl') .nil)) .nil)) (f8 _ _ g7) (.cons (K4 (F8 _ _ hl3)) (.cons (K4 hl2') .nil))) ⟨p7,p3,p6,_,rfl,g8,F5 _ _ g3,Je (E3.trans (f1.trans f2)) hp3,Je ((E3.trans (f1.trans (f2.trans f3))).trans (f4.trans (f5.trans f6))) hp6,fun b hb=>?_⟩);rcases aQ.mp hb with hb|hb
 .cases hb;exact Je E3 Y
 .rw[List.mem_singleton]at hb;cases hb;exact Je (E3.trans f1) hp2
end
noncomputable abbrev sS:List PyData->Option PyData:=Z1 Tp ZK Zx J5 YL cX ZM ig Va
def Za(K:At):Sp:=fun vs H Q _=>∃(a:Addr) (ns:List Int),vs=[.ref a]/\Ax K H a (ns.map V.int)/\ns.length<=63/\∀H',Q (.bl true) H'
theorem nM{P:G8}{w:Id}{K:At}{mg:Eu}{base:Heap}{f:Addr}{fd:GE}{k:Nat}(I:U7 K=true)(F:AL P w K mg base Ad k f fd ["_law_script"] (A3 sS)):AL P w K mg base Ad k f fd ["_law_script"] (Za K) :=
 F.imp fun vs H Q E z=>by
  obtain⟨a,ns,rfl,B,_,q⟩:=z;refine⟨[El ns],.bool true,H,nE pO ns,.cons (ly (nh I B)) .nil,.refl _,fun v R H' _ _ _ _ g=>?_⟩;rw[Du]at g;subst g;exact q H'
def eH(n:Nat)(g:Tr->Nat):Sp:=fun vs H Q _=>∃v t,vs=[v]/\Tv H t v/\t.deep<n/\n<=60/\t.AE<=8/\∀H',AN H H'->Q (.int (g t)) H'
theorem fM{P:G8}{w:Id}{K:At}{mg:Eu}{base:Heap}{CX:JC}{k:Nat}{f:Addr}{fd:GE}{ps:KP}{sp:Sp}(h:∀vs H Q E,¬sp vs H Q E):AL P w K mg base CX k f fd ps sp :=
 ⟨fun _ _ _ _ z=>(h _ _ _ _ z).elim,fun _ _ _ _ _ _ _ _ _ _ _ _ _ z=>(h _ _ _ _ z).elim⟩
section
variable{P:G8}{w:Id}{K:At}{mg:Eu}{base:Heap}{f:Addr}{fd:GE}
theorem SA:Aj ["tree"] ["tree"] (AX EZ):=⟨rfl,rfl,rfl,by decide +kernel,rfl,by decide +kernel,by decide +kernel⟩
theorem Ll(U:Fn K mg "knots_within" EZ ["tree"] f fd)(Ej:mg "sum" = none):∀n,AL P w K mg base Ad n f fd ["tree"] (eH n Tr.AE)
 |0=>fM fun _ _ _ _ ⟨_,_,_,_,h,_⟩=>absurd h (ak _)
 |n+1=>by
  have sc:=SA;have B3:=Ll U Ej n;refine U.F.ok (k:=n) sc Jl Hf
  .obtain⟨v,t,rfl,_⟩:=h
   rfl
  obtain⟨v,t,rfl,⟨a,xs,rfl,ha,Y⟩,hd,hn,hk,q⟩:=h;refine⟨_,(Ar (Bo (A9 Jn AQ (Bp (QU rfl) rfl Ej bp (AF (JJ [".0","bough"] 1 [none,none] (VF (pv 0)) (fun _ _ _ _ _=>HI) (fun _ _ _ _ _=>(CQ U B3 hr rfl (AF (pv 1) AV)))) AV))))),?_⟩;have g:=Y.len;have T:xs.length<8:=by rw[g];have:=Tr.PK t;lia
  refine⟨_,rfl,a,rfl,⟨_,BE.of ha⟩,fun D hD=>JK (n:=xs.length) (fun i ys H'=>AN H H'/\ys=(t.bs.take i).map fun c=>V.int (c.AE:Nat)) ?_ ?_ ?_⟩
  .exact⟨Ab hD _,by simp⟩
  .rintro i ys H0 hi ⟨I,rfl⟩ B;have hi':i<t.bs.length:=by lia
   refine⟨⟨xs,xs[i],BE.of (I _ _ ha),by simp[hi]⟩,?_,fun x H' y=>?_⟩
   .rw[(BW),(MI)];exact aP (Nat.min_le_left _ _) (aI (Nat.lt_trans hi T) (by rw[sizeLine_eq];decide))
   .obtain⟨rfl,y⟩:=y;have hx:=y xs (BE.of (I _ _ ha));obtain⟨c,Z,tc⟩:=Y.get hx;have R:c∈t.bs:=aT Z;have hcd:=Tr.Ws R;have hck:=Tr.L0 R;unfold Kn;refine GR ⟨_,rfl,x,c,rfl,tc.same I,by lia,by lia,by lia,fun H2 e2=>⟨e2 _ _ B,HP hi ⟨?_,?_⟩⟩⟩
    .exact fun b o z=>by
      rw[AR (Aq z hD)];exact e2 _ _ (I _ _ z)
    .rw[List.take_succ,Z];simp
  .rintro ys H0 ⟨I,rfl⟩ B;refine⟨⟨xs,BE.of (I _ _ ha),Nat.le_refl _⟩,?_⟩;refine⟨D,t.bs.map fun c=>(c.AE:Int),rfl,Ax.of ?_,_,_,rfl,rfl,?_⟩
   .rw[B,g,(NP),(Hc)]
    rfl
   .show Q (.int (1+(t.bs.map fun c=>(c.AE:Int)).sum)) H0;rw[Tr.UN];exact q H0 I
end
theorem qA{P:G8}{w:Id}{K:At}{mg:Eu}{base:Heap}{f:Addr}{fd:GE}{k:Nat}{ps:KP}(F:AL P w K mg base Ad k f fd ps (eH 8 Tr.AE)):AL P w K mg base Ad k f fd ps pd :=
 F.imp fun vs H Q E z=>by
  obtain⟨v,u,rfl,tv,hd,g,q⟩:=z;exact⟨v,u,rfl,tv,hd,by decide,g,q⟩
theorem tR(P:Params):Sl P 144 (mS P) mC (kT P):=⟨by kernel_rfl,⟨363,366,373,380,393,rfl⟩,by kernel_rfl,fun _ _ e=>fe e,by kernel_rfl,by kernel_rfl⟩
section
open PySem.W
theorem fnX{w:Id}{mg:Eu}{h:Heap}(X:(kH w.params).In h)(G:h.Ns mainGlobals mg)(n:String)(i:Nat)(m:String)(t c f:Nat)(ps:KP)
 (ha:nsIn (kH w.params) mainGlobals (Str.ofString n)=some (some (.ref f)):=by kernel_rfl)(g:(kH w.params).lookup f=some (fO n i m t c):=by kernel_rfl)(I:codeIn (kH w.params) (.ref c) (Str.ofString n)=true:=by kernel_rfl)(B:keepIn (kH w.params) (.ref f)=true:=by kernel_rfl)
 (R:∀(kV doc pm:KS) (an:Option Addr) (cdv ct:KS) (us:Db),us.length=ps.length->bindArgs (fnOf (Str.ofString n) (Str.ofString n) (HJ (top i)) (Fj (top i)) (AX (top i)) .none kV doc pm an cdv ct) ⟨us,[]⟩=pure (ps.zip us):=by first|(exact fun _ _ _ _ _ _ us g=>match us,g with|[_],_=>rfl)|(exact fun _ _ _ _ _ _ us g=>match us,g with|[_,_],_=>rfl)|(exact fun _ _ _ _ _ _ us g=>match us,g with|[_,_,_],_=>rfl)|(exact fun _ _ _ _ _ _ us g=>match us,g with|[_,_,_,_],_=>rfl)|(exact fun _ _ _ _ _ _ us g=>match us,g with|[_,_,_,_,_],_=>rfl)|(exact fun _ _ _ _ _ _ us g=>match us,g with|[],_=>rfl)) :
  Fn (kH w.params) mg (Str.ofString n) (top i) ps f (fnOf (Str.ofString n) (Str.ofString n) (HJ (top i)) (Fj (top i)) (AX (top i)) .none .none .none (.str (Str.ofString m) t) none (.ref c) .none) :=
 ⟨d9 g I B,(d9 (st:=top i) g I B).binds R,mg_of X G ha⟩
set_option maxHeartbeats 4000000 in
theorem rq(w:Id)(mg:Eu)(fa:Addr)(h:Heap)(X:(kH w.params).In h)(G:h.Ns mainGlobals mg)(hfa:mg "law" = some (.ref fa)) :
  ∃fd:FuncData,(∀(s:GJ) (v:KS),BindsTo s fd ⟨[v],[]⟩ [("_law_script",v)])/\∀base:Heap,(kH w.params).In base->base.Ns mainGlobals mg->AL CS.prog w (kH w.params) mg base Ad 24 fa fd ["_law_script"] (Za (kH w.params)):=by
 have e:=hfa.symm.trans (mg_of X G (v:=.ref 442) Jz);cases e;have CV:=fnX X G "fraction_of" 8 "stepgrove.fracs" 287 93 94 ["top","bottom"];have Ij:=fnX X G "frac_times" 9 "stepgrove.fracs" 287 100 101 Iy;have Hk:=fnX X G "is_fraction" 10 "stepgrove.fracs" 287 107 108 Is;have DV:=fnX X G "are_fractions" 11 "stepgrove.fracs" 287 114 115 Is;have Iu:=fnX X G "is_whole" 12 "stepgrove.fracs" 287 121 122 Is;have Bj:=fnX X G "greatest_divisor" 13 "stepgrove.fracs" 287 128 129 Iy;have Gf:=fnX X G "common_bottom" 14 "stepgrove.fracs" 287 135 136 ["bottoms"];have Fz:=fnX X G "power_of" 15 "stepgrove.fracs" 287 142 143 ["base","power"];have Kk:=fnX X G "is_table" 19 "stepgrove.tables" 359 200 201 Is;have Kj:=fnX X G "table_of" 20 "stepgrove.tables" 359 205 206 ["name"];have R:=fnX X G "refuse_no_table" 21 "stepgrove.tables" 359 212 213 Is;have Kd:=fnX X G "are_rows" 22 "stepgrove.tables" 359 219 220 Is;have Di:=fnX X G "table_behind" 25 "stepgrove.joins" 449 224 225 Iy;have Dl:=fnX X G "table_shrunk" 26 "stepgrove.joins" 449 229 230 ["table","part"];have Hj:=fnX X G "table_mixed" 27 "stepgrove.joins" 449 234 235 ["tables","parts"];have EI:=fnX X G "table_sharpened" 28 "stepgrove.joins" 449 241 242 ["table","order"];have CB:=fnX X G "refuse_too_many_rows" 29 "stepgrove.joins" 449 246 247 ["tables"];have Gz:=fnX X G "scaled" 30 "stepgrove.joins" 449 251 252 ["row","part"];have F9:=fnX X G "trees_of" 33 "stepgrove.trees" 494 258 259 ["many"];have Dx:=fnX X G "trees_to" 34 "stepgrove.trees" 494 265 266 ["most"];have DD:=fnX X G "in_falling_order" 35 "stepgrove.trees" 494 272 273 ["boughs"];have BG:=fnX X G "knots_within" 36 "stepgrove.trees" 494 277 278 ["tree"];have Cn:=fnX X G "density_within" 37 "stepgrove.trees" 494 284 285 ["tree"];have CN:=fnX X G "trees_one_larger" 38 "stepgrove.trees" 494 291 292 ["tree"];have Ji:=fnX X G "tops_over" 40 "stepgrove.wholes" 551 296 297 ["some","bottom"];have HC:=fnX X G "table_bottom" 41 "stepgrove.wholes" 551 301 302 ["table"];have F7:=fnX X G "table_weighing" 43 "stepgrove.weights" 565 308 309 ["table","most"];have GV:=fnX X G "true_weighing" 44 "stepgrove.weights" 565 315 316 ["most"];have Dh:=fnX X G "true_weights" 45 "stepgrove.weights" 565 320 321 ["trees"];have DP:=fnX X G "weights_under" 46 "stepgrove.weights" 565 325 326 ["table","trees"];have FH:=fnX X G "readings" 47 "stepgrove.weights" 565 330 331 ["rows","tree","known"];have J1:=fnX X G "read_by" 48 "stepgrove.weights" 565 335 336 ["row","shares"];have Er:=fnX X G "table_order" 51 "stepgrove.orders" 606 342 343 ["table"];have HQ:=fnX X G "first_unlike" 52 "stepgrove.orders" 606 349 350 ["trees","one","other"];have HN:=fnX X G "_law_cell_at" 54 "law_stepgrove_k96_whole_sharpened_tables" 632 356 357 KB;have Fe:=fnX X G "_law_mixed" 55 "law_stepgrove_k96_whole_sharpened_tables" 632 363 364 ["_law_cell","_law_k"];have Hg:=fnX X G "_law_rest" 56 "law_stepgrove_k96_whole_sharpened_tables" 632 370 371 KB
 have T:=fnX X G "_law_ratio" 57 "law_stepgrove_k96_whole_sharpened_tables" 632 377 378 ["_law_top","_law_bottom"];have I:=fnX X G "_law_sum" 58 "law_stepgrove_k96_whole_sharpened_tables" 632 384 385 Ev;have CT:=fnX X G "_law_times" 59 "law_stepgrove_k96_whole_sharpened_tables" 632 391 392 Ev;have Iq:=fnX X G "_law_table" 60 "law_stepgrove_k96_whole_sharpened_tables" 632 398 399 ["_law_rest_here","_law_most"];have Ic:=fnX X G "_law_drawn" 61 "law_stepgrove_k96_whole_sharpened_tables" 632 405 406 ["_law_rest_here","_law_other"];have Dc:=fnX X G "_law_worths" 62 "law_stepgrove_k96_whole_sharpened_tables" 632 410 411 ["_law_rows","_law_tree"];have CU:=fnX X G "_law_knots" 63 "law_stepgrove_k96_whole_sharpened_tables" 632 415 416 ["_law_tree"];have C6:=fnX X G "_law_density" 64 "law_stepgrove_k96_whole_sharpened_tables" 632 422 423 ["_law_tree"];have IH:=fnX X G "_law_due" 65 "law_stepgrove_k96_whole_sharpened_tables" 632 429 430 ["_law_table_here"];have Eo:=fnX X G "_law_wrongs" 66 "law_stepgrove_k96_whole_sharpened_tables" 632 436 437 ["_law_table_here","_law_many"];have qD:=fnX X G "law" 67 "law_stepgrove_k96_whole_sharpened_tables" 632 441 442 ["_law_script"];have g:mg "len" = none:=mg_none_of X G Jz;have C9:mg "range" = none:=mg_none_of X G Jz;have IJ:mg "abs" = none:=mg_none_of X G Jz;have Bf:mg "isinstance" = none:=mg_none_of X G Jz;have Ze:mg "int" = none:=mg_none_of X G Jz;have Wn:mg "bool" = none:=mg_none_of X G Jz;have HA:mg "tuple" = none:=mg_none_of X G Jz;have Fm:mg "list" = none:=mg_none_of X G Jz;have FN:mg "enumerate" = none:=mg_none_of X G Jz;have Ej:mg "sum" = none:=mg_none_of X G Jz;have B:mg "zip" = none:=mg_none_of X G Jz;have Ht:mg "sorted" = none:=mg_none_of X G Jz;have Y6:mg "set" = none:=mg_none_of X G Jz;have uA:mg "dict" = none:=mg_none_of X G Jz;have Y:nsIn (kH w.params) mainGlobals "NAMED_TABLES" = some (some (.ref 144)):=by kernel_rfl
 have a_MR:nsIn (kH w.params) mainGlobals "MOST_ROWS" = some (some (.int 40 361)):=by kernel_rfl
 have a_MK:nsIn (kH w.params) mainGlobals "MOST_KNOTS" = some (some (.int 7 496)):=by kernel_rfl
 have a_MO:nsIn (kH w.params) mainGlobals "MOST_ORDER" = some (some (.int 6 608)):=by kernel_rfl
 have Z:nsIn (kH w.params) mainGlobals "MOST_SHARPENED" = some (some (.int 6 451)):=by kernel_rfl
 have hK:U7 (kH w.params)=true:=by kernel_rfl
 refine⟨fnOf (Str.ofString "law") (Str.ofString "law") (HJ (top 67)) (Fj (top 67)) (AX (top 67)) .none .none .none (.str (Str.ofString "law_stepgrove_k96_whole_sharpened_tables") 632) none (.ref 441) .none,fun s v=>.of_eq rfl,fun base _ _=>?_⟩;have GO:=PySem.W.mg_of X G a_MR;have Fd:=PySem.W.mg_of X G a_MK;have IQ:=PySem.W.mg_of X G a_MO;have HG:=PySem.W.mg_of X G Y;have Hz:=PySem.W.mg_of X G Z;have fW:=OU (P:=CS.prog) (w:=w) (base:=base) Bj IJ;have mG:=Sr CV Bj fW;have tF:=Py Gf Bj fW;have sO:=RL HC Gf tF;have sZ:=Wi (P:=CS.prog) (w:=w) (base:=base) Ji;have lz:=XR (P:=CS.prog) (w:=w) (base:=base) Fz;have sW:=Y3 (P:=CS.prog) (w:=w) (base:=base) J1 Ej B;have sF:=QI rS FH J1 sW g B 8;have sg:=qA (Ll (P:=CS.prog) (w:=w) (base:=base) BG Ej 8);have tN:=Qh rS DP HC Ji FH Fz BG CV (sO.mono) (sZ.mono) (sF.mono) (lz.mono) (sg.mono) (mG.mono);have EF:=tX tN;have sY:=Xd (P:=CS.prog) (w:=w) (base:=base) Iu Bf Ze Wn;have mR:=S4 Hk Iu Bj sY fW Bf HA g;have k9:=Q0 DV Hk mR Bf Fm;have rX:=Xe Kd DV k9 GO Bf Fm g FN;have se:=Xl Kk Kd DV rX (k9.mono) Bf HA g;have NM:=uE (q:=Hi) se (fun l d v H Q E hd hq=>⟨l,d,v,rfl,hd,hq⟩);have C4:=mL mG;have Ia:=sM lz;have ZR:=Uw (P:=CS.prog) (w:=w) (base:=base) T IJ;have CG:=mL ZR;have oq:=XY I T (ZR.mono);have U:=Oj (P:=CS.prog) (w:=w) (base:=base) (k:=5) R Kk (NM.mono);have Ca:=LW (P:=CS.prog) (w:=w) (base:=base) (k:=0) CB g Ej GO;have Eb:=Sg (P:=CS.prog) (w:=w) (base:=base) (k:=6) Di R (U.mono) CB (Ca.mono) Fm;have B3:=Lh (P:=CS.prog) (w:=w) (base:=base) (k:=0) BG Ej 9;have Eh:=KQ (P:=CS.prog) (w:=w) (base:=base) (k:=10) Cn BG (B3.mono) 9;have Ck:=OV (P:=CS.prog) (w:=w) (base:=base) (k:=0) DD Ht HA;have D4:=JD (P:=CS.prog) (w:=w) (base:=base) (k:=1) CN DD (Ck.mono) FN 9;have HE:=Xk (P:=CS.prog) (w:=w) (base:=base) (k:=11) F9 CN (D4.mono) C9 Y6 Ht Fd;have EN:=Xm (P:=CS.prog) (w:=w) (base:=base) (k:=12) Dx F9 (HE.mono) C9 Fd;have Ec:=RF (P:=CS.prog) (w:=w) (base:=base) (k:=20) Dh Cn (Eh.mono);have Ip:=RD (P:=CS.prog) (w:=w) (base:=base) (k:=21) GV Dx (EN.mono) Dh (Ec.mono);have JR:=Rz (P:=CS.prog) (w:=w) (base:=base) (k:=0) HQ B;have GI:=TU (P:=CS.prog) (w:=w) (base:=base) (k:=21) Er HQ (JR.mono) R (U.mono) F9 (HE.mono) Dh (Ec.mono) DP (EF.mono) C9 IQ;have Hs:=Pw (P:=CS.prog) (w:=w) (base:=base) (k:=21) F7 R (U.mono) Dx (EN.mono) DP (EF.mono);have Kv:=Uo (P:=CS.prog) (w:=w) (base:=base) (k:=2) Ij CV (C4.mono);have Hv:=dc (P:=CS.prog) (w:=w) (base:=base) (k:=3) Gz Ij (Kv.mono);have EY:=Sd (P:=CS.prog) (w:=w) (base:=base) (k:=8) Dl R (U.mono) Gz (Hv.mono);have KL:=So (P:=CS.prog) (w:=w) (base:=base) (k:=8) Hj R (U.mono) CB (Ca.mono) Gz (Hv.mono) g B;have FW:=O6 (P:=CS.prog) (w:=w) (base:=base) (k:=9) EI CV (C4.mono) Fz (Ia.mono) R (U.mono) Di (Eb.mono) Hj (KL.mono) Dl (EY.mono) Hz;have Nu:=XU (P:=CS.prog) (w:=w) (base:=base) (k:=0) Kj Fm HG;have JM:=SV (P:=CS.prog) (w:=w) (base:=base) (k:=0) HN g;have Gk:=Uu (P:=CS.prog) (w:=w) (base:=base) (k:=0) Fe;have Jg:=WU (P:=CS.prog) (w:=w) (base:=base) (k:=1) Hg HN (JM.mono) Fe (Gk.mono) IJ
 have Bi:=XZ (P:=CS.prog) (w:=w) (base:=base) (k:=1) I T (CG.mono);have CF:=Ut (P:=CS.prog) (w:=w) (base:=base) (k:=1) CT T (CG.mono);have GL:=Mx (P:=CS.prog) (w:=w) (base:=base) (k:=2) Dc I (Bi.mono) CT (CF.mono) g C9 B 9;have Co:=OS (P:=CS.prog) (w:=w) (base:=base) (k:=0) CU Ej 9;have Fs:=Lb (P:=CS.prog) (w:=w) (base:=base) (k:=10) C6 CU (Co.mono) 9;have Kb:=Xa (P:=CS.prog) (w:=w) (base:=base) (k:=20) IH C6 (Fs.mono) CU (Co.mono) I (Bi.mono) CT (CF.mono) Dc (GL.mono) Dx (EN.mono) B;have GG:=TB (P:=CS.prog) (w:=w) (base:=base) (k:=22) Eo I (Bi.mono) F7 (Hs.mono) GV (Ip.mono) B;have sQ:=U2 Iq T I (ZR.mono) (oq.mono) C9;have LK:=U3 Ic T I Iq Kj (ZR.mono) (oq.mono) (sQ.mono) (Nu.mono);have qw:=lH (P:=CS.prog) (w:=w) (base:=base) (k:=23) qD Ic (LK.mono) IH (Kb.mono) Hg (Jg.mono) CT (CF.mono) Eo (GG.mono) Di (Eb.mono) Er (GI.mono) EI (FW.mono) Dl (EY.mono) g;exact nM hK qw
theorem walkX:WalkO qX ["NAMED_TABLES"] (XL qX []) hX.says CS.row.toRowW dX [] (fun f vs=>PySem.call f vs) :=
 L2.gJ (l:=CS) (n:=63) (k:=24) (x := "_law_script") (CX:=fun _=>Ad) (K:=kH) (Kt:=kT) (da:=144) (od:=mS) (tv:=mC) (sp:=fun w=>Za (kH w.params)) rfl As rfl ⟨rfl,by decide,by decide⟩ (fun w h Y=>kIn_of Y) tR As (fun P=>⟨by kernel_rfl,by kernel_rfl⟩) (fun w mg h X G=>mg_of X G (v:=.ref 144) Jz) rq (fun _ _ a ns g B=>⟨a,ns,rfl,B,g,fun _=>rfl⟩) fun _ _ _ _ _ z=>z
end
end Q96
open PySem PySem.W PyProof.Rows
set_option maxRecDepth 100000 in
theorem PySem.Challenge.cw_stepgrove_k96_whole_sharpened_tables_holds : PySem.Challenge.rw_stepgrove_k96_whole_sharpened_tables.Holds := by
  refine Q96.openX ?hw Q96.walkX
  w_witness2
#print axioms PySem.Challenge.cw_stepgrove_k96_whole_sharpened_tables_holds
