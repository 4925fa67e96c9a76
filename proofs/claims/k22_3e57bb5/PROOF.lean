import PyProof.Rows.All
import Wide.All
import OpenK.AllK
import Wide.FinOn
import Lean
import PyProof.EqAt
import PyProof.EqKinds
import PyProof.TupleCall
import PySem.Challenge.RW_stepgrove_k22_refused_bending
set_option Elab.async false
set_option linter.all false
set_option compiler.extract_closed false
set_option maxRecDepth 100000
abbrev Af:=@List.length_map
abbrev BP:=@List.getElem?_map
abbrev BA:=@List.map_cons
abbrev CN:=@List.map_append
abbrev De:=@List.length_append
abbrev Dd:=@List.size_toArray
abbrev CZ:=@List.map_map
abbrev Fc:=@List.length_take
abbrev FT:=@List.take_length
abbrev Fz:=@Option.bind_some
abbrev Ky:=@List.getD_eq_getElem?_getD
abbrev GU:=@List.length_cons
abbrev HS:=@List.take_add_one
abbrev GX:=@List.sum_cons
abbrev Jr:=@Bool.and_eq_true
abbrev J6:=@List.all_eq_true
abbrev J5:=@List.append_nil
abbrev JA:=@Bool.true_and
abbrev LH:=@Bool.false_and
abbrev QM:=@List.length_singleton
abbrev Nr:=@List.zip_cons_cons
abbrev L8:=@PySem.Heap.size_push
abbrev MB:=@List.take_zero
abbrev N3:=@Int.toNat_natCast
abbrev Pp:=@List.replicate_succ
abbrev OZ:=@Bool.eq_iff_iff
abbrev P7:=@List.flatten_cons
abbrev Rz:=@List.filterMap_cons
abbrev Mw:=@List.map_nil
abbrev Y4:=@Array.getD_eq_getD_getElem?
abbrev V1:=@Array.getElem?_toList
abbrev Ro:=@List.length_drop
abbrev VR:=@Array.length_toList
abbrev MD:=List PySem.PyData->Option PySem.PyData
abbrev Fg:=PySem.W.Frag
abbrev Wb:=@PySem.wpAny_bind
abbrev PD:=PySem.PyData
abbrev SD:=PySem.Shared
abbrev VL:=PySem.Value
abbrev AD:=PySem.Addr
abbrev aA:=@PySem.wpAny_pure
abbrev aB:=@List.getElem?_eq_some_iff
abbrev aC:=@Option.map_eq_some_iff
abbrev aD:=@Option.bind_eq_some_iff
abbrev aE:=@PySem.Heap.lt_size
abbrev aF:=@PySem.Heap.get?_push_of_some
abbrev aG:=@Nat.le_refl
abbrev aH:=@Nat.lt_of_lt_of_le
abbrev aI:=@List.mem_map
abbrev aJ:=@Bool.false_ne_true
abbrev aK:=@List.mem_cons_of_mem
abbrev aL:=@List.mem_of_getElem?
abbrev aM:=@Nat.ne_of_lt
abbrev aN:=@List.mem_cons
abbrev aO:=@List.mem_cons_self
abbrev aP:=@PySem.PassesOwn.never
abbrev aQ:=@Nat.lt_of_le_of_lt
abbrev aR:=@Nat.mul_le_mul_left
abbrev aS:=@Nat.pow_le_pow_right
abbrev aT:=@Nat.le_trans
abbrev aU:=@PySem.Heap.get?_push_size
abbrev aV:=@List.getElem?_eq_getElem
abbrev aW:=@List.mem_append
abbrev aX:=@PySem.wpAny_callSpecial?_slot
abbrev aY:=@PySem.wpAny_mono
abbrev aZ:=@PySem.wpAny_newObj_type
abbrev aa:=@PySem.wpAny_call_entry
abbrev ae:=@PySem.wpAny_holding
abbrev af:=@PyProof.Rows.boot_isinstance
abbrev ag:=@List.mem_append_right
abbrev ah:=@of_decide_eq_true
abbrev ai:=@congrArg
abbrev aj:=@Bool.eq_false_iff
abbrev ak:=@Option.some.inj
abbrev ao:=@PySem.wpAny_setField_rec
abbrev aq:=@PySem.wpAny_field
abbrev ar:=@PySem.Heap.SameBut.update
abbrev au:=@decide_eq_false
abbrev av:=@Nat.not_lt_zero
abbrev ax:=@Nat.ne_of_gt
abbrev ay:=@List.not_mem_nil
abbrev az:=@List.map_congr_left
abbrev bA:=@PyProof.Rows.boot_tuple
abbrev bC:=@PySem.W.kia_one
abbrev bE:=@of_decide_eq_false
abbrev bF:=@PySem.wpAny_typeNameOfWhole_itemiter
abbrev bG:=@List.getElem?_of_mem
abbrev bH:=@PySem.wpAny_isOneOf_itemiter
abbrev bI:=@PySem.F.slot_dict_itemiterator_next
abbrev bJ:=@PySem.wpAny_dictEntries
abbrev bK:=@PySem.W.mg_of
abbrev bL:=@decide_eq_true
abbrev bM:=@PySem.boot_len
abbrev bN:=@PySem.wpAny_dictEpoch
abbrev bO:=@PySem.wpAny_rule
abbrev bP:=@Nat.zero_le
abbrev bQ:=@PySem.wpAny_typeNameOf_itemiter
abbrev bR:=@PySem.F.plainAttrs_list
abbrev bS:=@PyProof.Rows.callWith_type1
abbrev bT:=@PySem.wpAny_Call_Name_kw
abbrev bV:=@PySem.wpAny_seqItems
abbrev bW:=@Classical.choose_spec
abbrev bX:=@PySem.F.plain_extend_loop
abbrev bY:=@PyProof.Rows.slot_tuple_getitem
abbrev bZ:=@PyProof.Rows.KeyOrd.kle_refl
abbrev bf:=@PySem.F.slot_list_append
abbrev bg:=@PySem.F.type_list_append
abbrev bh:=@PySem.wpAny_attempt
abbrev bj:=@PySem.wpAny_fieldsOf
abbrev bo:=@List.nodup_cons
set_option maxHeartbeats 0
abbrev sx:=List PD
abbrev sy:=List VL
abbrev tE:=VL->SD->Prop
abbrev tF:=PySem.Str->Option VL
abbrev tG:=Option PD
abbrev tI:=Array Nat
abbrev tJ:=List Int
abbrev tK:=List PySem.Str
abbrev tL:=List PySem.Expr
abbrev tN:=Option Int
abbrev tQ:=List Rat
abbrev tT:=List AD
abbrev tU:=List PySem.Stmt
abbrev tV:=List PySem.Env
abbrev tW:=List (Option Nat)
abbrev F0a:=PySem.FuncData
abbrev F0b:=PySem.Program
abbrev F0c:=PySem.World
abbrev F0d:=PySem.Around
set_option hygiene false
local macro_rules
|`(AC)=>`(by lia)
|`(AS)=>`(by decide)
|`(AT)=>`(Or.inl rfl)
|`(As)=>`(model prog w)
|`(At)=>`(Inv X pins σ H s)
|`(BY)=>`(by simp)
|`(By)=>`(model X.prog X.w)
|`(CG)=>`(List (AD×Obj))
|`(Ch)=>`(A1 X scope cl N C s₀ H₀ fp)
|`(Cl)=>`(kH w.params)
|`(DP)=>`(fun cdv A outer s H vs Q E hr h=>?_)
|`(Da)=>`(fun _ _=>rfl)
|`(Do)=>`(fun vs H Q E h=>?_)
|`(EQ)=>`({ s with heap:=((s.heap.update a (Obj.mapSeq fun _ => #[])).push (seqObj "tuple" us.toArray 0)).push (seqObj "list" #[] 0) })
|`(Ev)=>`(.type "tuple")
|`(E3)=>`(AD->Option Bool)
|`(FB)=>`(List (List AW))
|`(FI)=>`(["one","other"])
|`(FS)=>`(x==("__debug__" : Str))
|`(Fa)=>`(pv 0)
|`(Fh)=>`(["thing","unknowns"])
|`(Fi)=>`(.Call (.Name x p) (e::es) [] pos)
|`(Fk)=>`(∀(D C:AD) (s':SD) (H':Hp) m,s'.heap.Ns C m->Q (.ref D) H'->(∀h',Heap.SameBut C s'.heap h'->Inv X pins σ H' { s' with heap:=h'})->C≠D->(∀b o,s2.heap.get? b=some o->b≠C)->H' C=none->s2.heap.objs.size<=C->RR (.ref D) C (.ok .next) s')
|`(Ft)=>`(.ListComp elt [⟨.Tuple [.Name x px,.Name y py] tk tp,iter,ifs,0⟩] scope pos)
|`(Fy)=>`(pv 1)
|`(GE)=>`(fun z=>nomatch z)
namespace Opn
open PySem PySem.W PyProof.Rows PySem.Calls
noncomputable def q0:Pos:=⟨0,0,0,0⟩
noncomputable def qM:Obj:={ cls:=.type "tuple",data:=.seq #[]}
noncomputable def qH:Obj:={ cls:=.none,data:=.fields #[]}
noncomputable def qO:Obj:={ cls:=.type "code",data:=.fields #[.str (Str.ofString "<module>") 182,.str (Str.ofString "<module>") 183,.str (Str.ofString "/claim/cut.py") 184,.int 1 0,.int 0 0,.int 0 0,.int 0 0,.int 0 0,.ref 11,.bool false,.int 181 0,.ref 12,.none,.none,.none,.none,.int 185 0,.int 1 0,.str (Str.ofString "/claim/cut.py") 186]}
noncomputable def qK:Obj:={ cls:=.type "frame",slots:=#[some (.ref 13),some (.ref 3),some (.ref 3),none,some (.str (Str.ofString "__main__") 164),none,some (.ref 0)]}
noncomputable def oP(P:Params):List Obj:=(boot_heap P).objs.toList++[qM,qH,qO,qK]
noncomputable def nN(P:Params)(o:Params->Obj)(l r:BT):BT:=.node (o P) l r
noncomputable def lN(P:Params)(o:Params->Obj):BT:=.node (o P) .nil .nil
noncomputable def oM(P:Params):BT :=
 nN P boot_o_0 (nN P boot_o_1 (nN P boot_o_3 (lN P boot_o_7) (.node qM .nil .nil)) (nN P boot_o_5 (lN P boot_o_9) (.node qO .nil .nil)))
  (nN P boot_o_2 (nN P boot_o_4 (lN P boot_o_8) (.node qH .nil .nil)) (nN P boot_o_6 (lN P boot_o_10) (.node qK .nil .nil)))
noncomputable def iE:Life:=Life.mk [] [] [] 0 [] [] false #[] [] 0 false false false 0 [2000,10,10] false 0 true [] [] 0 false
noncomputable def sA(w:F0c)(os:OsState):SD:=⟨⟨⟨oP w.params⟩,iE⟩,#[],boot_drawn,187,os⟩
noncomputable def sB(w:F0c)(os:OsState):SharedT:=⟨oM w.params,15,iE,#[],boot_drawn,187,os⟩
noncomputable def QU(p:F0b):Env:={ scope:=p.main.scope,locals:=mainNs,globals:=mainNs,cells:=[],code:=.ref 13,frame:=some 14}
noncomputable def cB(p:F0b):Code:=.body (behindTheImports p) (QU p)
noncomputable abbrev Jo:Option VL:=some (.ref 6)
noncomputable abbrev bB:List Frame:=[topFrame q0]
noncomputable def YR(p:F0b)(M:Nat)(w:F0c)(os:OsState):Option (Flow×SharedT×Code×Pos) :=
 PySem.W.Fast.tw10110043849684766642 PySem.W.Fast.tw14364793385576792824 p w 11 Jo 1 M (sB w os) (piecesOf (behindTheImports p) (QU p) (cB p) q0 bB)
noncomputable def YY(p:F0b)(M:Nat)(w:F0c)(os:OsState):SharedT:=match YR p M w os with|some (_,s,_)=>s|none=>sB w os
def jo{p:F0b}{M:Nat}{w:F0c}{os:OsState}{r:Option (Flow×SharedT×Code×Pos)}(h:YR p M w os=r):segRunT treeTable p w 11 Jo 1 M (sB w os) (piecesOf (behindTheImports p) (QU p) (cB p) q0 bB)=r:=by
 have e:segRunT treeTable=PySem.W.Fast.tw10110043849684766642 PySem.W.Fast.tw14364793385576792824:=congr PySem.W.Fast.te10110043849684766642 PySem.W.Fast.te14364793385576792824;rw[e];exact h
def nT{p:F0b}{M R:Nat}{g:Pos}{w:F0c}{os:OsState} (pre:topGo treeTable p w 11 Jo 12 ⟨boot_heap w.params,#[],boot_drawn,boot_toks,os⟩ (topStub p)=some (sA w os,⟨denote treeTable (cB p),cB p,q0,bB⟩)) (I:segRun treeTable p w 11 Jo 1 1 (sA w os) (blockOf (behindTheImports p) (QU p) (cB p) q0 bB)=some (.next,(sB w os).abs,cB p,q0)) (seg:YR p M w os=some (.next,YY p M w os,cB p,g)) (fin:∀s,topRun treeTable p w 11 Jo 2 s (restOf [] (QU p) (cB p) g bB)=some s)(T:R=12+(1+(M+2))):topRun treeTable p w 11 Jo R ⟨boot_heap w.params,#[],boot_drawn,boot_toks,os⟩ (topStub p)=some (YY p M w os).abs:=by
 subst T;refine go_top pre (piece_block I ?_);have h:=piece_app (rest:=[]) (segRun_of (jo seg)) (fin _);rw[(J5)]at h;exact h
def iu{p q:F0b}{loose:tK}{Xt:SD->Bool}{α:Type}{Yf:SD->α}{Ya:F0c->α}{N M:Nat}{S:F0c->OsState->SD} (g:∀w:F0c,(fencedOpening treeTable p w N).map (fun s=>(s.heap,s.gens,s.drawn,s.toks))=some (boot_heap w.params,#[],boot_drawn,boot_toks)) (size:∀w:F0c,((boot_heap w.params).isNs mainGlobals&&(#[]:Array GenState).size==0,(boot_heap w.params).objs.size,(boot_heap w.params).nsMap mainGlobals "__annotations__")=(true,11,Jo)) (run:∀w os,topRun treeTable p w 11 Jo M ⟨boot_heap w.params,#[],boot_drawn,boot_toks,os⟩ (topStub p)=some (S w os))(le:Nat.ble M N=true) (ok:∀w os,(staticsOk (importedModules p.main.body) (boot_heap w.params) (S w os).heap&&namesBound p (S w os).heap&&gensDone (S w os)&&laidKept (boot_heap w.params) (S w os).heap)=true) (seen:∀w os,openSeen q loose (importedModules p.main.body) Xt true (S w os)=openGood q loose) (Y:∀w os,Yf (S w os)=Ya w):LeftO p q loose Xt Yf Ya N:=fun w=>by
 obtain⟨⟨h,gs,d,k,os⟩,e,Z⟩:=aC.mp (g w);obtain⟨rfl,rfl,rfl,rfl⟩:h=boot_heap w.params/\gs=#[]/\d=boot_drawn/\k=boot_toks:=by simpa using Z
 obtain⟨T,R,I⟩:_/\_/\_:=by simpa only[Prod.mk.injEq]using size w
 have U:=ok w os;have r:=topRun_mono (N-M) _ _ _ _ (run w os);rw[show M+(N-M)=N by have:=Nat.le_of_ble_eq_true le;lia]at r;have t:topFrom treeTable p w N ⟨boot_heap w.params,#[],boot_drawn,boot_toks,os⟩=some (S w os):=by
  unfold topFrom;dsimp only;rw[T,R,I,r];show(match staticsOk (importedModules p.main.body) (boot_heap w.params) (S w os).heap&&namesBound p (S w os).heap&&gensDone (S w os)&&laidKept (boot_heap w.params) (S w os).heap with|true=>_|false=>_)=_;rw[U]
 unfold openEnds;rw[e];show(topFrom treeTable p w N _).map _=_;rw[t];exact ai some (Prod.ext (seen w os) (Y w os))
def pW(w:F0c):((boot_heap w.params).isNs mainGlobals&&(#[]:Array GenState).size==0,(boot_heap w.params).objs.size,(boot_heap w.params).nsMap mainGlobals "__annotations__")=(true,11,Jo):=by kernel_rfl
end Opn
namespace Q22
open PySem
def top(i:Nat):Stmt:=PySem.Challenge.pw_stepgrove_k22_refused_bending.main.body.getD i (.Pass ⟨0,0,0,0⟩)
end Q22
namespace L2
open PySem
def Gh(s:Stmt):Arguments:=match s with
 |.FunctionDef _ a _ _ _ _ _ _ _ _=>a
 |_=>{ posonlyargs:=[],args:=[],vararg:=none,kwonlyargs:=[],kw_defaults:=[],kwarg:=none,defaults:=[]}
def DY(s:Stmt):tU:=match s with
 |.FunctionDef _ _ b _ _ _ _ _ _ _=>b
 |_=>[]
def AO(s:Stmt):Scope:=match s with
 |.FunctionDef _ _ _ _ _ _ sc _ _ _=>sc
 |_=>{ kind:=.function,names:=[],isGenerator:=false,isCoroutine:=false}
end L2
namespace Q22
open PySem L2
section
open PySem.W PyProof.Rows PySem.Calls
abbrev En:F0b:=PySem.Challenge.pw_stepgrove_k22_refused_bending
abbrev CQ:OpenLaw:=PySem.Challenge.rw_stepgrove_k22_refused_bending
noncomputable abbrev dE(P:Params)(x:String)(t:Nat)(v:VL):DictEntry:=⟨PyData.keyHash P (Str.ofString x),.str (Str.ofString x) t,v⟩
noncomputable abbrev sV(x:String)(t:Nat):VL:=.str (Str.ofString x) t
noncomputable abbrev fO(n:String)(i:Nat)(m:String)(t c:Nat):Obj:=⟨.type "function",none,.func (fnOf n n (Gh (top i)) (DY (top i)) (AO (top i)) .none .none .none (.str (Str.ofString m) t) none (.ref c) .none),#[]⟩
noncomputable abbrev cO(n:String)(t l a k r:Nat)(b:Bool)(T:Nat)(R M I v4:VL)(g:Nat):Obj:=⟨.type "code",none,.fields #[sV n t,sV n (t+1),sV "/claim/cut.py" (t+2),.int l 0,.int a 0,.int 0 0,.int 0 0,.int k 0,.ref r,.bool b,.int 181 0,.ref T,R,M,I,v4,.int g 0,.int l 0,sV "/claim/cut.py" (g+1)],#[]⟩
noncomputable def kH:Params->Frag:=fun P=>
 (nat_lit 2,⟨.none,none,(.dict #[] 0),#[]⟩) ::
 (nat_lit 3,⟨(.type "dict"),none,(.dict #[dE P "__name__" 165 (sV "law_stepgrove_k22_refused_bending" 751),dE P "__doc__" 166 .none,dE P "__package__" 167 .none,dE P "__loader__" 168 (.builtin "__main__.__loader__#opaque"),dE P "__spec__" 169 .none,dE P "__annotations__" 170 (.ref 6),dE P "__builtins__" 171 (.ref 4),dE P "__file__" 173 (sV "/claim/cut.py" 172),dE P "__cached__" 174 .none,dE P "GroveError" 206 (.ref 24),dE P "NoBottom" 222 (.ref 37),dE P "NoTree" 238 (.ref 49),dE P "NoChange" 254 (.ref 61),dE P "NoStart" 270 (.ref 73),dE P "NoTable" 286 (.ref 85),dE P "NoName" 302 (.ref 97),dE P "NoWeighing" 318 (.ref 109),dE P "NotAlike" 334 (.ref 121),dE P "NoParts" 350 (.ref 133),dE P "TooMany" 366 (.ref 145),dE P "NoText" 382 (.ref 157),dE P "NoLine" 398 (.ref 169),dE P "fraction_of" 409 (.ref 178),dE P "frac_times" 417 (.ref 185),dE P "is_fraction" 424 (.ref 192),dE P "are_fractions" 432 (.ref 199),dE P "is_whole" 439 (.ref 206),dE P "greatest_divisor" 450 (.ref 213),dE P "common_bottom" 459 (.ref 220),dE P "frac_total" 465 (.ref 225),dE P "power_of" 476 (.ref 232),dE P "poly_sum" 486 (.ref 239),dE P "poly_times" 499 (.ref 246),dE P "poly_scaled" 505 (.ref 251),dE P "poly_slope" 511 (.ref 256),dE P "is_poly" 521 (.ref 263),dE P "is_term" 529 (.ref 270),dE P "are_powers" 538 (.ref 277),dE P "refuse_no_start" 546 (.ref 284),dE P "refuse_start" 552 (.ref 291),dE P "one_less" 560 (.ref 298),dE P "powers_joined" 566 (.ref 303),dE P "gathered" 578 (.ref 310),dE P "worth_at" 584 (.ref 315),dE P "term_worth" 597 (.ref 322),dE P "is_tree" 608 (.ref 329),dE P "refuse_no_tree" 615 (.ref 336),dE P "knots_within" 621 (.ref 341),dE P "grain_of" 629 (.ref 346),dE P "pace_of" 637 (.ref 353),dE P "whole_start" 643 (.ref 358),dE P "tops_over" 649 (.ref 363),dE P "whole_change" 655 (.ref 368),dE P "whole_poly" 669 (.ref 375),dE P "speeds_bottom" 675 (.ref 380),dE P "greatest_power" 686 (.ref 387),dE P "is_change" 696 (.ref 394),dE P "bent_change" 702 (.ref 399),dE P "bent_at" 708 (.ref 404),dE P "refuse_no_change" 715 (.ref 411),dE P "bent_polys" 721 (.ref 416),dE P "along_boughs" 733 (.ref 423),dE P "bent_worths" 739 (.ref 428),dE P "pushed_by" 750 (.ref 435),dE P "_law_cell" 764 (.ref 442),dE P "_law_take" 773 (.ref 449),dE P "_law_shared" 781 (.ref 456),dE P "_law_frac" 790 (.ref 463),dE P "_law_plus" 798 (.ref 470),dE P "_law_by" 806 (.ref 477),dE P "_law_part" 814 (.ref 484),dE P "_law_poly" 831 (.ref 491),dE P "_law_change" 837 (.ref 496),dE P "_law_start" 843 (.ref 501),dE P "_law_called" 849 (.ref 506),dE P "_law_flags" 859 (.ref 513),dE P "_law_flags_at" 870 (.ref 520),dE P "law" 886 (.ref 527)] 78),#[]⟩) ::
 (nat_lit 15,⟨Ev,none,(.seq #[(.type "ValueError")] 0),#[]⟩) ::
 (nat_lit 22,⟨Ev,none,(.seq #[] 0),#[]⟩) ::
 (nat_lit 23,⟨(.type "dict"),none,(.dict #[dE P "__module__" 196 (sV "stepgrove.errors" 187),dE P "__firstlineno__" 200 (.int 2 199),dE P "__static_attributes__" 201 (.ref 22),dE P "__weakref__" 203 (.ref 25),dE P "__doc__" 204 .none] 3),#[]⟩) ::
 (nat_lit 24,⟨(.type "type"),none,(.cls ⟨Str.ofString "GroveError",[(.type "ValueError")],[(.ref 24),(.type "ValueError"),(.type "Exception"),(.type "BaseException"),(.type "object")],23,Str.ofString "GroveError",true,[],[(.ref 37),(.ref 49),(.ref 61),(.ref 73),(.ref 85),(.ref 97),(.ref 109),(.ref 121),(.ref 133),(.ref 145),(.ref 157),(.ref 169)],false,none,false⟩),#[some (.ref 15),none,some (sV "GroveError" 189),some (sV "GroveError" 197),some (.builtin "ValueError.__new__"),some (.bool true)]⟩) ::
 (nat_lit 25,⟨(.type "getset_descriptor"),none,(.fields #[(sV "__weakref__" 202),(.ref 24),(.builtin "ExceptionGroup.__weakref__"),.none]),#[]⟩) ::
 (nat_lit 28,⟨Ev,none,(.seq #[(.ref 24)] 0),#[]⟩) ::
 (nat_lit 35,⟨Ev,none,(.seq #[] 0),#[]⟩) ::
 (nat_lit 36,⟨(.type "dict"),none,(.dict #[dE P "__module__" 214 (sV "stepgrove.errors" 187),dE P "__firstlineno__" 218 (.int 4 217),dE P "__static_attributes__" 219 (.ref 35),dE P "__doc__" 220 .none] 2),#[]⟩) ::
 (nat_lit 37,⟨(.type "type"),none,(.cls ⟨Str.ofString "NoBottom",[(.ref 24)],[(.ref 37),(.ref 24),(.type "ValueError"),(.type "Exception"),(.type "BaseException"),(.type "object")],36,Str.ofString "NoBottom",true,[],[],false,none,false⟩),#[some (.ref 28),none,some (sV "NoBottom" 207),some (sV "NoBottom" 215),some (.builtin "ValueError.__new__"),some (.bool true)]⟩) ::
 (nat_lit 40,⟨Ev,none,(.seq #[(.ref 24)] 0),#[]⟩) ::
 (nat_lit 47,⟨Ev,none,(.seq #[] 0),#[]⟩) ::
 (nat_lit 48,⟨(.type "dict"),none,(.dict #[dE P "__module__" 230 (sV "stepgrove.errors" 187),dE P "__firstlineno__" 234 (.int 6 233),dE P "__static_attributes__" 235 (.ref 47),dE P "__doc__" 236 .none] 2),#[]⟩) ::
 (nat_lit 49,⟨(.type "type"),none,(.cls ⟨Str.ofString "NoTree",[(.ref 24)],[(.ref 49),(.ref 24),(.type "ValueError"),(.type "Exception"),(.type "BaseException"),(.type "object")],48,Str.ofString "NoTree",true,[],[],false,none,false⟩),#[some (.ref 40),none,some (sV "NoTree" 223),some (sV "NoTree" 231),some (.builtin "ValueError.__new__"),some (.bool true)]⟩) ::
 (nat_lit 52,⟨Ev,none,(.seq #[(.ref 24)] 0),#[]⟩) ::
 (nat_lit 59,⟨Ev,none,(.seq #[] 0),#[]⟩) ::
 (nat_lit 60,⟨(.type "dict"),none,(.dict #[dE P "__module__" 246 (sV "stepgrove.errors" 187),dE P "__firstlineno__" 250 (.int 8 249),dE P "__static_attributes__" 251 (.ref 59),dE P "__doc__" 252 .none] 2),#[]⟩) ::
 (nat_lit 61,⟨(.type "type"),none,(.cls ⟨Str.ofString "NoChange",[(.ref 24)],[(.ref 61),(.ref 24),(.type "ValueError"),(.type "Exception"),(.type "BaseException"),(.type "object")],60,Str.ofString "NoChange",true,[],[],false,none,false⟩),#[some (.ref 52),none,some (sV "NoChange" 239),some (sV "NoChange" 247),some (.builtin "ValueError.__new__"),some (.bool true)]⟩) ::
 (nat_lit 64,⟨Ev,none,(.seq #[(.ref 24)] 0),#[]⟩) ::
 (nat_lit 71,⟨Ev,none,(.seq #[] 0),#[]⟩) ::
 (nat_lit 72,⟨(.type "dict"),none,(.dict #[dE P "__module__" 262 (sV "stepgrove.errors" 187),dE P "__firstlineno__" 266 (.int 10 265),dE P "__static_attributes__" 267 (.ref 71),dE P "__doc__" 268 .none] 2),#[]⟩) ::
 (nat_lit 73,⟨(.type "type"),none,(.cls ⟨Str.ofString "NoStart",[(.ref 24)],[(.ref 73),(.ref 24),(.type "ValueError"),(.type "Exception"),(.type "BaseException"),(.type "object")],72,Str.ofString "NoStart",true,[],[],false,none,false⟩),#[some (.ref 64),none,some (sV "NoStart" 255),some (sV "NoStart" 263),some (.builtin "ValueError.__new__"),some (.bool true)]⟩) ::
 (nat_lit 76,⟨Ev,none,(.seq #[(.ref 24)] 0),#[]⟩) ::
 (nat_lit 83,⟨Ev,none,(.seq #[] 0),#[]⟩) ::
 (nat_lit 84,⟨(.type "dict"),none,(.dict #[dE P "__module__" 278 (sV "stepgrove.errors" 187),dE P "__firstlineno__" 282 (.int 12 281),dE P "__static_attributes__" 283 (.ref 83),dE P "__doc__" 284 .none] 2),#[]⟩) ::
 (nat_lit 85,⟨(.type "type"),none,(.cls ⟨Str.ofString "NoTable",[(.ref 24)],[(.ref 85),(.ref 24),(.type "ValueError"),(.type "Exception"),(.type "BaseException"),(.type "object")],84,Str.ofString "NoTable",true,[],[],false,none,false⟩),#[some (.ref 76),none,some (sV "NoTable" 271),some (sV "NoTable" 279),some (.builtin "ValueError.__new__"),some (.bool true)]⟩) ::
 (nat_lit 88,⟨Ev,none,(.seq #[(.ref 24)] 0),#[]⟩) ::
 (nat_lit 95,⟨Ev,none,(.seq #[] 0),#[]⟩) ::
 (nat_lit 96,⟨(.type "dict"),none,(.dict #[dE P "__module__" 294 (sV "stepgrove.errors" 187),dE P "__firstlineno__" 298 (.int 14 297),dE P "__static_attributes__" 299 (.ref 95),dE P "__doc__" 300 .none] 2),#[]⟩) ::
 (nat_lit 97,⟨(.type "type"),none,(.cls ⟨Str.ofString "NoName",[(.ref 24)],[(.ref 97),(.ref 24),(.type "ValueError"),(.type "Exception"),(.type "BaseException"),(.type "object")],96,Str.ofString "NoName",true,[],[],false,none,false⟩),#[some (.ref 88),none,some (sV "NoName" 287),some (sV "NoName" 295),some (.builtin "ValueError.__new__"),some (.bool true)]⟩) ::
 (nat_lit 100,⟨Ev,none,(.seq #[(.ref 24)] 0),#[]⟩) ::
 (nat_lit 107,⟨Ev,none,(.seq #[] 0),#[]⟩) ::
 (nat_lit 108,⟨(.type "dict"),none,(.dict #[dE P "__module__" 310 (sV "stepgrove.errors" 187),dE P "__firstlineno__" 314 (.int 16 313),dE P "__static_attributes__" 315 (.ref 107),dE P "__doc__" 316 .none] 2),#[]⟩) ::
 (nat_lit 109,⟨(.type "type"),none,(.cls ⟨Str.ofString "NoWeighing",[(.ref 24)],[(.ref 109),(.ref 24),(.type "ValueError"),(.type "Exception"),(.type "BaseException"),(.type "object")],108,Str.ofString "NoWeighing",true,[],[],false,none,false⟩),#[some (.ref 100),none,some (sV "NoWeighing" 303),some (sV "NoWeighing" 311),some (.builtin "ValueError.__new__"),some (.bool true)]⟩) ::
 (nat_lit 112,⟨Ev,none,(.seq #[(.ref 24)] 0),#[]⟩) ::
 (nat_lit 119,⟨Ev,none,(.seq #[] 0),#[]⟩) ::
 (nat_lit 120,⟨(.type "dict"),none,(.dict #[dE P "__module__" 326 (sV "stepgrove.errors" 187),dE P "__firstlineno__" 330 (.int 18 329),dE P "__static_attributes__" 331 (.ref 119),dE P "__doc__" 332 .none] 2),#[]⟩) ::
 (nat_lit 121,⟨(.type "type"),none,(.cls ⟨Str.ofString "NotAlike",[(.ref 24)],[(.ref 121),(.ref 24),(.type "ValueError"),(.type "Exception"),(.type "BaseException"),(.type "object")],120,Str.ofString "NotAlike",true,[],[],false,none,false⟩),#[some (.ref 112),none,some (sV "NotAlike" 319),some (sV "NotAlike" 327),some (.builtin "ValueError.__new__"),some (.bool true)]⟩) ::
 (nat_lit 124,⟨Ev,none,(.seq #[(.ref 24)] 0),#[]⟩) ::
 (nat_lit 131,⟨Ev,none,(.seq #[] 0),#[]⟩) ::
 (nat_lit 132,⟨(.type "dict"),none,(.dict #[dE P "__module__" 342 (sV "stepgrove.errors" 187),dE P "__firstlineno__" 346 (.int 20 345),dE P "__static_attributes__" 347 (.ref 131),dE P "__doc__" 348 .none] 2),#[]⟩) ::
 (nat_lit 133,⟨(.type "type"),none,(.cls ⟨Str.ofString "NoParts",[(.ref 24)],[(.ref 133),(.ref 24),(.type "ValueError"),(.type "Exception"),(.type "BaseException"),(.type "object")],132,Str.ofString "NoParts",true,[],[],false,none,false⟩),#[some (.ref 124),none,some (sV "NoParts" 335),some (sV "NoParts" 343),some (.builtin "ValueError.__new__"),some (.bool true)]⟩) ::
 (nat_lit 136,⟨Ev,none,(.seq #[(.ref 24)] 0),#[]⟩) ::
 (nat_lit 143,⟨Ev,none,(.seq #[] 0),#[]⟩) ::
 (nat_lit 144,⟨(.type "dict"),none,(.dict #[dE P "__module__" 358 (sV "stepgrove.errors" 187),dE P "__firstlineno__" 362 (.int 22 361),dE P "__static_attributes__" 363 (.ref 143),dE P "__doc__" 364 .none] 2),#[]⟩) ::
 (nat_lit 145,⟨(.type "type"),none,(.cls ⟨Str.ofString "TooMany",[(.ref 24)],[(.ref 145),(.ref 24),(.type "ValueError"),(.type "Exception"),(.type "BaseException"),(.type "object")],144,Str.ofString "TooMany",true,[],[],false,none,false⟩),#[some (.ref 136),none,some (sV "TooMany" 351),some (sV "TooMany" 359),some (.builtin "ValueError.__new__"),some (.bool true)]⟩) ::
 (nat_lit 148,⟨Ev,none,(.seq #[(.ref 24)] 0),#[]⟩) ::
 (nat_lit 155,⟨Ev,none,(.seq #[] 0),#[]⟩) ::
 (nat_lit 156,⟨(.type "dict"),none,(.dict #[dE P "__module__" 374 (sV "stepgrove.errors" 187),dE P "__firstlineno__" 378 (.int 24 377),dE P "__static_attributes__" 379 (.ref 155),dE P "__doc__" 380 .none] 2),#[]⟩) ::
 (nat_lit 157,⟨(.type "type"),none,(.cls ⟨Str.ofString "NoText",[(.ref 24)],[(.ref 157),(.ref 24),(.type "ValueError"),(.type "Exception"),(.type "BaseException"),(.type "object")],156,Str.ofString "NoText",true,[],[],false,none,false⟩),#[some (.ref 148),none,some (sV "NoText" 367),some (sV "NoText" 375),some (.builtin "ValueError.__new__"),some (.bool true)]⟩) ::
 (nat_lit 160,⟨Ev,none,(.seq #[(.ref 24)] 0),#[]⟩) ::
 (nat_lit 167,⟨Ev,none,(.seq #[] 0),#[]⟩) ::
 (nat_lit 168,⟨(.type "dict"),none,(.dict #[dE P "__module__" 390 (sV "stepgrove.errors" 187),dE P "__firstlineno__" 394 (.int 26 393),dE P "__static_attributes__" 395 (.ref 167),dE P "__doc__" 396 .none] 2),#[]⟩) ::
 (nat_lit 169,⟨(.type "type"),none,(.cls ⟨Str.ofString "NoLine",[(.ref 24)],[(.ref 169),(.ref 24),(.type "ValueError"),(.type "Exception"),(.type "BaseException"),(.type "object")],168,Str.ofString "NoLine",true,[],[],false,none,false⟩),#[some (.ref 160),none,some (sV "NoLine" 383),some (sV "NoLine" 391),some (.builtin "ValueError.__new__"),some (.bool true)]⟩) ::
 (nat_lit 177,cO "fraction_of" 401 29 2 3 172 true 173 .none (.ref 174) (.ref 175) (.ref 176) 407) ::
 (nat_lit 178,fO "fraction_of" 15 "stepgrove.fracs" 399 177) ::
 (nat_lit 184,cO "frac_times" 410 36 2 3 179 true 180 .none (.ref 181) (.ref 182) (.ref 183) 415) ::
 (nat_lit 185,fO "frac_times" 16 "stepgrove.fracs" 399 184) ::
 (nat_lit 191,cO "is_fraction" 418 38 1 3 186 true 187 .none (.ref 188) (.ref 189) (.ref 190) 422) ::
 (nat_lit 192,fO "is_fraction" 17 "stepgrove.fracs" 399 191) ::
 (nat_lit 198,cO "are_fractions" 425 44 1 3 193 true 194 .none (.ref 195) (.ref 196) (.ref 197) 430) ::
 (nat_lit 199,fO "are_fractions" 18 "stepgrove.fracs" 399 198) ::
 (nat_lit 205,cO "is_whole" 433 51 1 3 200 true 201 .none (.ref 202) (.ref 203) (.ref 204) 437) ::
 (nat_lit 206,fO "is_whole" 19 "stepgrove.fracs" 399 205) ::
 (nat_lit 212,cO "greatest_divisor" 440 53 2 3 207 true 208 .none (.ref 209) (.ref 210) (.ref 211) 448) ::
 (nat_lit 213,fO "greatest_divisor" 20 "stepgrove.fracs" 399 212) ::
 (nat_lit 219,cO "common_bottom" 451 61 1 3 214 true 215 .none (.ref 216) (.ref 217) (.ref 218) 457) ::
 (nat_lit 220,fO "common_bottom" 21 "stepgrove.fracs" 399 219) ::
 (nat_lit 224,cO "frac_total" 460 66 1 3 221 true 222 .none .none .none (.ref 223) 463) ::
 (nat_lit 225,fO "frac_total" 22 "stepgrove.fracs" 399 224) ::
 (nat_lit 231,cO "power_of" 466 69 2 3 226 true 227 .none (.ref 228) (.ref 229) (.ref 230) 474) ::
 (nat_lit 232,fO "power_of" 23 "stepgrove.fracs" 399 231) ::
 (nat_lit 238,cO "poly_sum" 479 81 2 3 233 true 234 .none (.ref 235) (.ref 236) (.ref 237) 484) ::
 (nat_lit 239,fO "poly_sum" 25 "stepgrove.polys" 477 238) ::
 (nat_lit 245,cO "poly_times" 487 83 2 3 240 true 241 .none (.ref 242) (.ref 243) (.ref 244) 497) ::
 (nat_lit 246,fO "poly_times" 26 "stepgrove.polys" 477 245) ::
 (nat_lit 250,cO "poly_scaled" 500 89 2 3 247 true 248 .none .none .none (.ref 249) 503) ::
 (nat_lit 251,fO "poly_scaled" 27 "stepgrove.polys" 477 250) ::
 (nat_lit 255,cO "poly_slope" 506 93 2 3 252 true 253 .none .none .none (.ref 254) 509) ::
 (nat_lit 256,fO "poly_slope" 28 "stepgrove.polys" 477 255) ::
 (nat_lit 262,cO "is_poly" 512 95 2 3 257 true 258 .none (.ref 259) (.ref 260) (.ref 261) 519) ::
 (nat_lit 263,fO "is_poly" 29 "stepgrove.polys" 477 262) ::
 (nat_lit 269,cO "is_term" 522 102 2 3 264 true 265 .none (.ref 266) (.ref 267) (.ref 268) 527) ::
 (nat_lit 270,fO "is_term" 30 "stepgrove.polys" 477 269) ::
 (nat_lit 276,cO "are_powers" 530 106 2 3 271 true 272 .none (.ref 273) (.ref 274) (.ref 275) 536) ::
 (nat_lit 277,fO "are_powers" 31 "stepgrove.polys" 477 276) ::
 (nat_lit 283,cO "refuse_no_start" 539 113 2 3 278 true 279 .none (.ref 280) (.ref 281) (.ref 282) 544) ::
 (nat_lit 284,fO "refuse_no_start" 32 "stepgrove.polys" 477 283) ::
 (nat_lit 290,cO "refuse_start" 547 116 0 3 285 true 286 .none (.ref 287) (.ref 288) (.ref 289) 550) ::
 (nat_lit 291,fO "refuse_start" 33 "stepgrove.polys" 477 290) ::
 (nat_lit 297,cO "one_less" 553 118 2 3 292 true 293 .none (.ref 294) (.ref 295) (.ref 296) 558) ::
 (nat_lit 298,fO "one_less" 34 "stepgrove.polys" 477 297) ::
 (nat_lit 302,cO "powers_joined" 561 120 2 3 299 true 300 .none .none .none (.ref 301) 564) ::
 (nat_lit 303,fO "powers_joined" 35 "stepgrove.polys" 477 302) ::
 (nat_lit 309,cO "gathered" 567 122 1 3 304 true 305 .none (.ref 306) (.ref 307) (.ref 308) 576) ::
 (nat_lit 310,fO "gathered" 36 "stepgrove.polys" 477 309) ::
 (nat_lit 314,cO "worth_at" 579 132 2 3 311 true 312 .none .none .none (.ref 313) 582) ::
 (nat_lit 315,fO "worth_at" 37 "stepgrove.polys" 477 314) ::
 (nat_lit 321,cO "term_worth" 585 134 3 3 316 true 317 .none (.ref 318) (.ref 319) (.ref 320) 595) ::
 (nat_lit 322,fO "term_worth" 38 "stepgrove.polys" 477 321) ::
 (nat_lit 328,cO "is_tree" 600 142 1 3 323 true 324 .none (.ref 325) (.ref 326) (.ref 327) 606) ::
 (nat_lit 329,fO "is_tree" 40 "stepgrove.trees" 598 328) ::
 (nat_lit 335,cO "refuse_no_tree" 609 151 1 3 330 true 331 .none (.ref 332) (.ref 333) (.ref 334) 613) ::
 (nat_lit 336,fO "refuse_no_tree" 41 "stepgrove.trees" 598 335) ::
 (nat_lit 340,cO "knots_within" 616 154 1 3 337 true 338 .none .none .none (.ref 339) 619) ::
 (nat_lit 341,fO "knots_within" 42 "stepgrove.trees" 598 340) ::
 (nat_lit 345,cO "grain_of" 624 157 1 3 342 true 343 .none .none .none (.ref 344) 627) ::
 (nat_lit 346,fO "grain_of" 44 "stepgrove.wholes" 622 345) ::
 (nat_lit 352,cO "pace_of" 630 159 2 3 347 true 348 .none (.ref 349) (.ref 350) (.ref 351) 635) ::
 (nat_lit 353,fO "pace_of" 45 "stepgrove.wholes" 622 352) ::
 (nat_lit 357,cO "whole_start" 638 161 2 3 354 true 355 .none .none .none (.ref 356) 641) ::
 (nat_lit 358,fO "whole_start" 46 "stepgrove.wholes" 622 357) ::
 (nat_lit 362,cO "tops_over" 644 163 2 3 359 true 360 .none .none .none (.ref 361) 647) ::
 (nat_lit 363,fO "tops_over" 47 "stepgrove.wholes" 622 362) ::
 (nat_lit 367,cO "whole_change" 650 165 2 3 364 true 365 .none .none .none (.ref 366) 653) ::
 (nat_lit 368,fO "whole_change" 48 "stepgrove.wholes" 622 367) ::
 (nat_lit 374,cO "whole_poly" 656 169 4 3 369 true 370 .none (.ref 371) (.ref 372) (.ref 373) 667) ::
 (nat_lit 375,fO "whole_poly" 49 "stepgrove.wholes" 622 374) ::
 (nat_lit 379,cO "speeds_bottom" 670 175 1 3 376 true 377 .none .none .none (.ref 378) 673) ::
 (nat_lit 380,fO "speeds_bottom" 50 "stepgrove.wholes" 622 379) ::
 (nat_lit 386,cO "greatest_power" 676 180 1 3 381 true 382 .none (.ref 383) (.ref 384) (.ref 385) 684) ::
 (nat_lit 387,fO "greatest_power" 51 "stepgrove.wholes" 622 386) ::
 (nat_lit 393,cO "is_change" 689 187 1 3 388 true 389 .none (.ref 390) (.ref 391) (.ref 392) 694) ::
 (nat_lit 394,fO "is_change" 53 "stepgrove.changes" 687 393) ::
 (nat_lit 398,cO "bent_change" 697 194 2 3 395 true 396 .none .none .none (.ref 397) 700) ::
 (nat_lit 399,fO "bent_change" 54 "stepgrove.changes" 687 398) ::
 (nat_lit 403,cO "bent_at" 703 199 3 3 400 true 401 .none .none .none (.ref 402) 706) ::
 (nat_lit 404,fO "bent_at" 55 "stepgrove.changes" 687 403) ::
 (nat_lit 410,cO "refuse_no_change" 709 207 1 3 405 true 406 .none (.ref 407) (.ref 408) (.ref 409) 713) ::
 (nat_lit 411,fO "refuse_no_change" 56 "stepgrove.changes" 687 410) ::
 (nat_lit 415,cO "bent_polys" 716 210 3 3 412 true 413 .none .none .none (.ref 414) 719) ::
 (nat_lit 416,fO "bent_polys" 57 "stepgrove.changes" 687 415) ::
 (nat_lit 422,cO "along_boughs" 722 215 2 3 417 true 418 .none (.ref 419) (.ref 420) (.ref 421) 731) ::
 (nat_lit 423,fO "along_boughs" 58 "stepgrove.changes" 687 422) ::
 (nat_lit 427,cO "bent_worths" 734 224 4 3 424 true 425 .none .none .none (.ref 426) 737) ::
 (nat_lit 428,fO "bent_worths" 59 "stepgrove.changes" 687 427) ::
 (nat_lit 434,cO "pushed_by" 740 233 2 3 429 true 430 .none (.ref 431) (.ref 432) (.ref 433) 748) ::
 (nat_lit 435,fO "pushed_by" 60 "stepgrove.changes" 687 434) ::
 (nat_lit 441,cO "_law_cell" 753 239 2 3 436 true 437 .none (.ref 438) (.ref 439) (.ref 440) 762) ::
 (nat_lit 442,fO "_law_cell" 62 "law_stepgrove_k22_refused_bending" 751 441) ::
 (nat_lit 448,cO "_law_take" 765 251 2 3 443 true 444 .none (.ref 445) (.ref 446) (.ref 447) 771) ::
 (nat_lit 449,fO "_law_take" 63 "law_stepgrove_k22_refused_bending" 751 448) ::
 (nat_lit 455,cO "_law_shared" 774 255 2 3 450 true 451 .none (.ref 452) (.ref 453) (.ref 454) 779) ::
 (nat_lit 456,fO "_law_shared" 64 "law_stepgrove_k22_refused_bending" 751 455) ::
 (nat_lit 462,cO "_law_frac" 782 259 2 3 457 true 458 .none (.ref 459) (.ref 460) (.ref 461) 788) ::
 (nat_lit 463,fO "_law_frac" 65 "law_stepgrove_k22_refused_bending" 751 462) ::
 (nat_lit 483,cO "_law_part" 807 268 1 3 478 true 479 .none (.ref 480) (.ref 481) (.ref 482) 812) ::
 (nat_lit 484,fO "_law_part" 68 "law_stepgrove_k22_refused_bending" 751 483) ::
 (nat_lit 490,cO "_law_poly" 815 271 3 3 485 true 486 .none (.ref 487) (.ref 488) (.ref 489) 829) ::
 (nat_lit 491,fO "_law_poly" 69 "law_stepgrove_k22_refused_bending" 751 490) ::
 (nat_lit 495,cO "_law_change" 832 287 4 3 492 true 493 .none .none .none (.ref 494) 835) ::
 (nat_lit 496,fO "_law_change" 70 "law_stepgrove_k22_refused_bending" 751 495) ::
 (nat_lit 500,cO "_law_start" 838 289 2 3 497 true 498 .none .none .none (.ref 499) 841) ::
 (nat_lit 501,fO "_law_start" 71 "law_stepgrove_k22_refused_bending" 751 500) ::
 (nat_lit 505,cO "_law_called" 844 292 1 3 502 true 503 .none .none .none (.ref 504) 847) ::
 (nat_lit 506,fO "_law_called" 72 "law_stepgrove_k22_refused_bending" 751 505) ::
 (nat_lit 512,cO "_law_flags" 850 304 2 3 507 true 508 .none (.ref 509) (.ref 510) (.ref 511) 857) ::
 (nat_lit 513,fO "_law_flags" 73 "law_stepgrove_k22_refused_bending" 751 512) ::
 (nat_lit 519,cO "_law_flags_at" 860 311 3 3 514 true 515 .none (.ref 516) (.ref 517) (.ref 518) 868) ::
 (nat_lit 520,fO "_law_flags_at" 74 "law_stepgrove_k22_refused_bending" 751 519) ::
 (nat_lit 526,cO "law" 871 318 1 3 521 true 522 .none (.ref 523) (.ref 524) (.ref 525) 884) ::
 (nat_lit 527,fO "law" 75 "law_stepgrove_k22_refused_bending" 751 526)::[]
abbrev qX:F0b:=view En [1,2,3,4,5,6,7,8,9,10,11,12,13,15,16,17,18,19,20,21,22,23,25,26,27,28,29,30,31,32,33,34,35,36,37,38,40,41,42,44,45,46,47,48,49,50,51,53,54,55,56,57,58,59,60,62,63,64,65,66,67,68,69,70,71,72,73,74,75]
noncomputable abbrev hX:Hook:=kHook kH [nat_lit 2,nat_lit 3,nat_lit 15,nat_lit 22,nat_lit 23,nat_lit 24,nat_lit 25,nat_lit 28,nat_lit 35,nat_lit 36,nat_lit 37,nat_lit 40,nat_lit 47,nat_lit 48,nat_lit 49,nat_lit 52,nat_lit 59,nat_lit 60,nat_lit 61,nat_lit 64,nat_lit 71,nat_lit 72,nat_lit 73,nat_lit 76,nat_lit 83,nat_lit 84,nat_lit 85,nat_lit 88,nat_lit 95,nat_lit 96,nat_lit 97,nat_lit 100,nat_lit 107,nat_lit 108,nat_lit 109,nat_lit 112,nat_lit 119,nat_lit 120,nat_lit 121,nat_lit 124,nat_lit 131,nat_lit 132,nat_lit 133,nat_lit 136,nat_lit 143,nat_lit 144,nat_lit 145,nat_lit 148,nat_lit 155,nat_lit 156,nat_lit 157,nat_lit 160,nat_lit 167,nat_lit 168,nat_lit 169,nat_lit 177,nat_lit 178,nat_lit 184,nat_lit 185,nat_lit 191,nat_lit 192,nat_lit 198,nat_lit 199,nat_lit 205,nat_lit 206,nat_lit 212,nat_lit 213,nat_lit 219,nat_lit 220,nat_lit 224,nat_lit 225,nat_lit 231,nat_lit 232,nat_lit 238,nat_lit 239,nat_lit 245,nat_lit 246,nat_lit 250,nat_lit 251,nat_lit 255,nat_lit 256,nat_lit 262,nat_lit 263,nat_lit 269,nat_lit 270,nat_lit 276,nat_lit 277,nat_lit 283,nat_lit 284,nat_lit 290,nat_lit 291,nat_lit 297,nat_lit 298,nat_lit 302,nat_lit 303,nat_lit 309,nat_lit 310,nat_lit 314,nat_lit 315,nat_lit 321,nat_lit 322,nat_lit 328,nat_lit 329,nat_lit 335,nat_lit 336,nat_lit 340,nat_lit 341,nat_lit 345,nat_lit 346,nat_lit 352,nat_lit 353,nat_lit 357,nat_lit 358,nat_lit 362,nat_lit 363,nat_lit 367,nat_lit 368,nat_lit 374,nat_lit 375,nat_lit 379,nat_lit 380,nat_lit 386,nat_lit 387,nat_lit 393,nat_lit 394,nat_lit 398,nat_lit 399,nat_lit 403,nat_lit 404,nat_lit 410,nat_lit 411,nat_lit 415,nat_lit 416,nat_lit 422,nat_lit 423,nat_lit 427,nat_lit 428,nat_lit 434,nat_lit 435,nat_lit 441,nat_lit 442,nat_lit 448,nat_lit 449,nat_lit 455,nat_lit 456,nat_lit 462,nat_lit 463,nat_lit 483,nat_lit 484,nat_lit 490,nat_lit 491,nat_lit 495,nat_lit 496,nat_lit 500,nat_lit 501,nat_lit 505,nat_lit 506,nat_lit 512,nat_lit 513,nat_lit 519,nat_lit 520,nat_lit 526,nat_lit 527] (fun _=>by kernel_rfl)
noncomputable def dX:DefRec:=⟨Str.ofString "law",Gh (top 75),DY (top 75),AO (top 75),⟨318,0,338,126⟩⟩
def oy:CQ.wellSaid=true:=(congrFun PySem.W.Fast.te9446332074065402090 _).trans (by kernel_rfl)
def qz(w:F0c)(os:OsState):topGo treeTable En w 11 Opn.Jo 12 ⟨boot_heap w.params,#[],boot_drawn,boot_toks,os⟩ (topStub En)=some (Opn.sA w os,⟨denote treeTable (Opn.cB En),Opn.cB En,Opn.q0,Opn.bB⟩):=by kernel_rfl
def qS(w:F0c)(os:OsState):segRun treeTable En w 11 Opn.Jo 1 1 (Opn.sA w os) (blockOf (behindTheImports En) (Opn.QU En) (Opn.cB En) Opn.q0 Opn.bB)=some (.next,(Opn.sB w os).abs,Opn.cB En,Opn.q0):=by kernel_rfl
def rR(w:F0c)(s:SD):topRun treeTable En w 11 Opn.Jo 2 s (restOf [] (Opn.QU En) (Opn.cB En) ⟨318,0,338,126⟩ Opn.bB)=some s:=by kernel_rfl
def qY(w:F0c)(os:OsState):Opn.YR En 4478 w os=some (.next,Opn.YY En 4478 w os,Opn.cB En,⟨318,0,338,126⟩):=by kernel_rfl
noncomputable abbrev sX(w:F0c)(os:OsState):SD:=(Opn.YY En 4478 w os).abs
def rK(w:F0c)(os:OsState):(staticsOk (importedModules En.main.body) (boot_heap w.params) (sX w os).heap&&namesBound En (sX w os).heap&&gensDone (sX w os)&&laidKept (boot_heap w.params) (sX w os).heap)=true:=by kernel_rfl
def pZ(w:F0c)(os:OsState):hX.obs (sX w os)=hX.val w:=by kernel_rfl
noncomputable abbrev Xy:SD->Bool:=fun s=>xlAt qX [] s&&recOk (RowW.records CQ.row.toRowW) s
def pX(w:F0c)(os:OsState):(openSeen qX [] (importedModules En.main.body) Xy true (sX w os)).1=(openGood qX []).1:=by kernel_rfl
def oO(w:F0c)(os:OsState):(openSeen qX [] (importedModules En.main.body) Xy true (sX w os)).2.1=(openGood qX []).2.1:=by kernel_rfl
def pR(w:F0c)(os:OsState):(openSeen qX [] (importedModules En.main.body) Xy true (sX w os)).2.2=(openGood qX []).2.2:=by kernel_rfl
def pU(w:F0c)(os:OsState):openSeen qX [] (importedModules En.main.body) Xy true (sX w os)=openGood qX []:=Prod.ext (pX w os) (Prod.ext (oO w os) (pR w os))
def pj(w:F0c):(fencedOpening treeTable En w 9080).map (fun s=>(s.heap,s.gens,s.drawn,s.toks))=some (boot_heap w.params,#[],boot_drawn,boot_toks):=boot_open (p:=En) (N:=9080) (by kernel_rfl) (by kernel_rfl) (fun _=>by kernel_rfl) w
def oQ:LeftO En qX [] Xy hX.obs hX.val 9080:=Opn.iu (M:=4493) (S:=sX) pj Opn.pW (fun w os=>Opn.nT (qz w os) (qS w os) (qY w os) (rR w) (by kernel_rfl)) (by kernel_rfl) rK pU pZ
def qw:defOf qX CQ.row.name=some (dX,[]):=by kernel_rfl
def qZ:En.theDef CQ.row.name=some (dX.params,dX.body,dX.scope):=by kernel_rfl
def se:kwWritten? dX.params.kwonlyargs dX.params.kw_defaults=some []:=by kernel_rfl
def qm:(chainsOk qX&&opensWell CQ.row.prog&&(frees CQ.row.toRowW&&CQ.row.within.isEmpty))=true:=by kernel_rfl
def pS:En.bare:=⟨rfl,rfl,rfl,rfl,rfl,by decide +kernel⟩
def openX(R:CQ.row.toRowW.promised)(T:WalkO qX [] (XL qX []) hX.says CQ.row.toRowW dX [] (fun f vs=>PySem.call f vs)):CQ.Holds :=
 holds_law oy fun g=>holds_open (r:=CQ.row) (q:=qX) (loose:=[]) (Xt:=Xy) (XP:=XL qX []) (Yf:=hX.obs) (Ya:=hX.val) (YP:=hX.says) (d:=dX) (kwd:=[]) (N:=9080) oQ hX.of hX.keeps (fun s e=>xl_of s (Bool.and_eq_true_iff.mp e).1) XL.keeps qw qZ se (fun s e=>recFacts_of (Bool.and_eq_true_iff.mp e).2) rfl g qm pS R T
end
end Q22
namespace L2
open PySem PySem.Spec PyProof.Rows
abbrev Key:=Sum Int Str
def Oh:Key->VL->Bool
 |.inl k,v=>Value.isInt k v
 |.inr x,v=>Value.isStrOf x v
def rX(w:F0c):Key->Int
 |.inl k=>hashInt k
 |.inr x=>hashStr w x
def DD:∀ {k:Key} {v:VL},Oh k v=true->(∃i t,k=Sum.inl i/\v=Value.int i t)\/(∃x t,k=Sum.inr x/\v=Value.str x t)
 |.inl i,v,h=>by
  obtain⟨t,e⟩:=Value.isInt_shape (k:=i) (v:=v) h;exact .inl ⟨i,t,rfl,e⟩
 |.inr x,v,h=>by
  obtain⟨t,e⟩:=Value.isStrOf_shape (x:=x) (v:=v) h;exact .inr ⟨x,t,rfl,e⟩
def Zk(i:Int)(t:Tok):Oh (.inl i) (.int i t)=true:=by simp[Oh,Value.isInt]
def a6(x:Str)(t:Tok):Oh (.inr x) (.str x t)=true:=by simp[Oh,Value.isStrOf]
def lP(a b:Int):decide ((Sum.inl a:Key)=Sum.inl b)=(a==b):=by
 by_cases e:a=b
 .subst e;simp
 .have h:¬(Sum.inl a:Key)=Sum.inl b:=fun q=>e (Sum.inl.inj q);rw[decide_eq_false h];exact(beq_eq_false_iff_ne.mpr e).symm
def kI(a b:Str):decide ((Sum.inr a:Key)=Sum.inr b)=decide (a=b):=by
 by_cases e:a=b
 .subst e;simp
 .have h:¬(Sum.inr a:Key)=Sum.inr b:=fun q=>e (Sum.inr.inj q);rw[decide_eq_false h,decide_eq_false e]
def k6(a:Int)(b:Str):decide ((Sum.inl a:Key)=Sum.inr b)=false:=au (fun q=>nomatch q)
def mq(a:Str)(b:Int):decide ((Sum.inr a:Key)=Sum.inl b)=false:=au (fun q=>nomatch q)
def DR(prog:F0b)(w:F0c):PySem.KeyKind prog w Key where
 is:=Oh
 hash:=rX w
 inj:=fun v a b ha hb=>by
  rcases DD ha with ⟨i,t,rfl,rfl⟩|⟨x,t,rfl,rfl⟩
  .rcases DD hb with ⟨j,u,rfl,e⟩|⟨y,u,rfl,e⟩
   .injection e with e1 _;rw[e1]
   .exact nomatch e
  .rcases DD hb with ⟨j,u,rfl,e⟩|⟨y,u,rfl,e⟩
   .exact nomatch e
   .injection e with e1 _;rw[e1]
 byValue:=fun k v h=>by
  rcases DD h with ⟨i,t,rfl,rfl⟩|⟨x,t,rfl,rfl⟩<;>rfl
 pyHash:=fun hv h=>by
  rcases DD hv with ⟨i,t,rfl,rfl⟩|⟨x,t,rfl,rfl⟩
  .exact wpAny_pyHash_int h
  .exact wpAny_pyHash_str h
 eqBool:=fun hu hv h=>by
  rcases DD hu with ⟨i,t,rfl,rfl⟩|⟨x,t,rfl,rfl⟩
  .rcases DD hv with ⟨j,u,rfl,rfl⟩|⟨y,u,rfl,rfl⟩
   .rw[lP]at h;exact wpAny_eqBool_int h
   .rw[k6]at h;exact SeqAt.EqAt.int_str i t y u _ _ _ _ h
  .rcases DD hv with ⟨j,u,rfl,rfl⟩|⟨y,u,rfl,rfl⟩
   .rw[mq]at h;exact SeqAt.EqAt.str_int x t j u _ _ _ _ h
   .rw[kI]at h;exact wpAny_eqBool_str h
 «strs»:=fun k x t v h=>by
  rcases DD h with ⟨i,u,rfl,e⟩|⟨y,u,rfl,e⟩
  .exact nomatch e
  .injection e with e1 _
   subst e1;cases v<;>rfl
def Wq(prog:F0b)(w:F0c)(i:Int)(t:Tok):(DR prog w).is (.inl i) (.int i t)=true:=Zk i t
def W7(prog:F0b)(w:F0c)(x:Str)(t:Tok):(DR prog w).is (.inr x) (.str x t)=true:=a6 x t
inductive V where
 |Bf|bl (b:Bool)|int (i:Int)|str (x:Str)|N1 (b:Array UInt8)|YO (b:UInt64)|ref (a:Addr)|ty (n:String)
 deriving DecidableEq
abbrev tR:=List V
def RelV:V->VL->Prop
 |.Bf,u=>u=Value.none
 |.bl b,u=>u=Value.bool b
 |.int i,u=>∃t,u=Value.int i t
 |.str x,u=>∃t,u=Value.str x t
 |.N1 b,u=>∃t,u=Value.bytes b t
 |.YO b,u=>∃t,u=Value.float b t
 |.ref a,u=>u=Value.ref a
 |.ty n,u=>u=Value.type n
abbrev Vals:List V->List VL->Prop:=Paired RelV
def Vals.length{xs:tR}{us:sy}(r:Vals xs us):xs.length=us.length:=Paired.length r
theorem Vals.get:∀ {xs:List V} {us:List VL} {i:Nat} {x:V},Vals xs us->xs[i]? = some x->∃u,us[i]? = some u/\RelV x u
 |_,_,_,_,.nil,e=>by simp at e
 |_,_,0,_,.cons r _,e=>by simp at e;subst e;exact⟨_,rfl,r⟩
 |_,_,i+1,x,.cons _ t,e=>by
  obtain⟨u,I,g⟩:=Vals.get (i:=i) (x:=x) t (by simpa using e);exact⟨u,by simpa using I,g⟩
theorem Vals.set{x:V}{u:VL}(r:RelV x u):∀ {xs:List V} {us:List VL} (i:Nat),Vals xs us->Vals (xs.set i x) (us.set i u)
 |_,_,_,.nil=>.nil
 |_,_,0,.cons _ t=>.cons r t
 |_,_,i+1,.cons q t=>.cons q (Vals.set r i t)
theorem Vals.append:∀ {xs ys:List V} {us g:List VL},Vals xs us->Vals ys g->Vals (xs++ys) (us++g)
 |_,_,_,_,.nil,s=>s
 |_,_,_,_,.cons r t,s=>.cons r (Vals.append t s)
theorem Vals.take:∀ {xs:List V} {us:List VL} (n:Nat),Vals xs us->Vals (xs.take n) (us.take n)
 |_,_,0,_=>.nil
 |_,_,_+1,.nil=>.nil
 |_,_,n+1,.cons r t=>.cons r (Vals.take n t)
theorem Vals.drop:∀ {xs:List V} {us:List VL} (n:Nat),Vals xs us->Vals (xs.drop n) (us.drop n)
 |_,_,0,r=>r
 |_,_,_+1,.nil=>.nil
 |_,_,n+1,.cons _ t=>Vals.drop n t
def K6:Option V->Option VL->Prop
 |some v,some u=>RelV v u
 |none,none=>True
 |_,_=>False
def KV{κ:Type}:List (κ×V)->List (κ×VL)->Prop:=Paired fun(p:κ×V) (q:κ×VL)=>p.1=q.1/\RelV p.2 q.2
def kV:Key->V
 |.inl i=>.int i
 |.inr x=>.str x
inductive HO where
 |lst (xs:List V)
 |tup (xs:List V)
 |dK (kvs:List (Key×V))|dT (kvs:List (List Key×V))
 |set (S:Int->Bool) (n:Nat)
 |ins (C dx:Addr) (fs:List (Str×V))
 |own (x:Addr)
 |xd (fs:List (Str×V))
 |met (f x:Addr)
 |gx (lo hi:Int)
 |Fe (o:Obj) (u:HO)
 |Pc (ps:Array Value)
 |ext (φ:Heap->Prop)
abbrev Hp:=AD->Option HO
def upd(H:Hp)(a:AD)(o:HO):Hp:=fun b=>if b=a then some o else H b
def AN{H:Hp}{a:AD}{o:HO}:upd H a o a=some o:=by unfold upd;rw[if_pos rfl]
def AK{H:Hp}{a b:AD}{o:HO}(h:b≠a):upd H a o b=H b:=by unfold upd;rw[if_neg h]
def gq{H:Hp}{a b:AD}{o u:HO}(h:H a=some o)(h':H b=some u)(d:o≠u):a≠b:=by
 intro e;subst e;rw[h]at h';exact d (ak h')
def AV{H:Hp}{a b:AD}{o:HO}(h:H a=some o)(h':H b=none):a≠b:=by
 intro e;subst e;rw[h]at h';cases h'
section
variable(P:F0b)(w:F0c)
def Bx(H:Hp)(h:Heap)(a:AD):HO->Prop
 |.lst xs=>xs.length<=sizeLine/\∃(g:List VL) (n:Nat),Vals xs g/\h.get? a=some { cls:=.type "list",data:=.seq g.toArray n}
 |.tup xs=>xs.length<=sizeLine/\∃g:List VL,Vals xs g/\IsTup h a g.toArray
 |.dK kvs=>kvs.length<=sizeLine/\(a==sysModules)=false/\∃vs,KV kvs vs/\h.DictOf (DR P w) a vs
 |.dT kvs=>kvs.length<=sizeLine/\(a==sysModules)=false/\∃xs:List (List Key×AD×VL),
   Paired (fun(p:List Key×V) (q:List Key×AD×VL)=>p.1=q.1/\H q.2.1=some (.tup (p.1.map kV))/\RelV p.2 q.2.2) kvs xs /\
   ∃o es ep,h.get? a=some o/\o.ExactDict/\o.data=.dict es ep/\es.toList=xs.map (entryOfKey (tupleKind (DR P w)))/\(xs.map (·.1)).Nodup
 |.set S n=>h.SetOf (intKind P w) a S n
 |.ins C dx fs=>H dx=some (.own a)/\fs.length<=1000/\dx≠a/\h.get? a=some (PySem.W.instObj C dx) /\
   ∃mA,h.Ns1 dx mA/\(∀f,K6 (fs.lookup f) (mA f))/\PySem.Within mA (fs.map (·.1))
 |.own _=>∃o,h.get? a=some o
 |.xd fs=>∃mA,h.Ns1 a mA/\∀f,K6 (fs.lookup f) (mA f)
 |.gx lo hi=>∃t u v,h.get? a=some { cls:=.type "range",data:=.fields #[.int lo t,.int hi u,.int 1 v]}
 |.Fe o u=>h.get? a=some o/\Bx H h a u
 |.Pc ps=>h.get? a=some { cls:=.none,data:=.fields ps}
 |.met f x=>h.get? a=some (PySem.W.methodObj (.ref f) (.ref x))
 |.ext φ=>φ h/\(∃o,h.get? a=some o)/\∀M I:Heap,φ M->(∀o,M.get? a=some o->I.get? a=some o)->φ I
def DB(H:Hp)(h:Heap):Prop:=∀a o,H a=some o->Bx P w H h a o
end
section
variable{P:F0b}{w:F0c}{H H':Hp}{h h':Heap}{a:AD}{o:HO}
def Bx.lt(x:Bx P w H h a o):a<h.objs.size:=by
 cases o with
 |lst xs=>obtain⟨_,_,_,_,e⟩:=x;exact aE e
 |tup xs=>obtain⟨_,_,_,p⟩:=x;exact p.lt
 |dK kvs=>obtain⟨_,_,_,_,o,_,_,e,_⟩:=x;exact aE e
 |dT kvs=>obtain⟨_,_,_,_,o,_,_,e,_⟩:=x;exact aE e
 |set S n=>obtain⟨o,_,_,_,e,_⟩:=x;exact aE e
 |ins C dx fs=>obtain⟨_,_,_,e,_⟩:=x;exact aE e
 |own y=>obtain⟨_,e⟩:=x;exact aE e
 |xd fs=>obtain⟨_,⟨_,_,_,e,_⟩,_⟩:=x;exact aE e
 |gx lo hi=>obtain⟨_,_,_,e⟩:=x;exact aE e
 |Fe ob u=>obtain⟨e,_⟩:=x;exact aE e
 |Pc ps=>exact aE (show h.get? a=some _ from x)
 |met f y=>exact aE (show h.get? a=some _ from x)
 |ext φ=>obtain⟨_,⟨_,e⟩,_⟩:=x;exact aE e
theorem Paired.eM{α β:Type}{F G:α->β->Prop}:∀ {I:List α} {g:List β},Paired F I g->(∀a b,F a b->G a b)->Paired G I g
 |_,_,.nil,_=>.nil
 |_,_,.cons r t,f=>.cons (f _ _ r) (Paired.eM t f)
def Bx.KC(x:Bx P w H h a o)(k:∀b u,(b=a\/H b=some (.own a))->h.get? b=some u->h'.get? b=some u) (R:∀b,H b=some (.own a)->H' b=some (.own a))(M:∀b xs,H b=some (.tup xs)->H' b=some (.tup xs)):Bx P w H' h' a o:=by
 induction o with
 |lst xs=>obtain⟨z,g,n,r,e⟩:=x;exact⟨z,g,n,r,k _ _ (.inl rfl) e⟩
 |tup xs=>obtain⟨z,g,r,ob,e,c⟩:=x;exact⟨z,g,r,ob,k _ _ (.inl rfl) e,c⟩
 |dK kvs=>obtain⟨z,y,vs,r,ob,es,ep,e,c⟩:=x;exact⟨z,y,vs,r,ob,es,ep,k _ _ (.inl rfl) e,c⟩
 |dT kvs=>
  obtain⟨z,y,xs,r,ob,es,ep,e,c⟩:=x;exact⟨z,y,xs,Paired.eM r fun p q z=>⟨z.1,M _ _ z.2.1,z.2.2⟩,ob,es,ep,k _ _ (.inl rfl) e,c⟩
 |set S n=>obtain⟨ob,es,ep,t,e,c⟩:=x;exact⟨ob,es,ep,t,k _ _ (.inl rfl) e,c⟩
 |ins C dx fs=>
  obtain⟨d,z,ne,e,mA,⟨od,es,ep,T,c⟩,r⟩:=x;exact⟨R _ d,z,ne,k _ _ (.inl rfl) e,mA,⟨od,es,ep,k _ _ (.inr d) T,c⟩,r⟩
 |own y=>obtain⟨ob,e⟩:=x;exact⟨ob,k _ _ (.inl rfl) e⟩
 |xd fs=>obtain⟨mA,⟨od,es,ep,e,c⟩,r⟩:=x;exact⟨mA,⟨od,es,ep,k _ _ (.inl rfl) e,c⟩,r⟩
 |gx lo hi=>obtain⟨t,u,v,e⟩:=x;exact⟨t,u,v,k _ _ (.inl rfl) e⟩
 |Fe ob u I=>obtain⟨e,q⟩:=x;exact⟨k _ _ (.inl rfl) e,I q⟩
 |Pc ps=>
  have e:h.get? a=some { cls:=.none,data:=.fields ps}:=x;show h'.get? a=some { cls:=.none,data:=.fields ps};exact k a _ (.inl rfl) e
 |met f y=>
  have e:h.get? a=some (PySem.W.methodObj (.ref f) (.ref y)):=x;show h'.get? a=some (PySem.W.methodObj (.ref f) (.ref y));exact k a _ (.inl rfl) e
 |ext φ=>obtain⟨p,⟨o,e⟩,st⟩:=x;exact⟨st _ _ p fun o q=>k _ _ (.inl rfl) q,⟨o,k _ _ (.inl rfl) e⟩,st⟩
def DB.lt(x:DB P w H h)(e:H a=some o):a<h.objs.size:=(x a o e).lt
def DB.fresh(x:DB P w H h)(e:h.objs.size<=a):H a=none:=by
 cases q:H a with
 |none=>rfl
 |some u=>exact absurd (aH (x.lt q) e) (Nat.lt_irrefl _)
def DB.kept(x:DB P w H h)(k:∀b u,h.get? b=some u->h'.get? b=some u):DB P w H h':=fun a o e=>
 (x a o e).KC (fun b u _ q=>k b u q) (fun _ q=>q) fun _ _ q=>q
def DB.laid(x:DB P w H h)(k:∀b u,h.get? b=some u->h'.get? b=some u)(I:h.objs.size<=a)(new:Bx P w (upd H a o) h' a o):DB P w (upd H a o) h':=fun b u e=>by
 have hn:=x.fresh I;by_cases g:b=a
 .subst g;rw[AN]at e;cases e;exact new
 .rw[AK g]at e;exact(x b u e).KC (fun c v _ q=>k c v q) (fun c q=>by rw[AK (AV q hn)];exact q) fun c xs q=>by rw[AK (AV q hn)];exact q
end
def Rd(H:Hp)(a:AD)(u:HO):Prop:=H a=some u\/∃o,H a=some (.Fe o u)
def Rd.ok{P:F0b}{w:F0c}{H:Hp}{h:Heap}{a:AD}{u:HO}(r:Rd H a u)(x:DB P w H h):Bx P w H h a u:=by
 rcases r with r|⟨o,r⟩
 .exact x a u r
 .obtain⟨_,q⟩:=x a _ r;exact q
def cU:Option HO->Prop
 |some (.lst _)=>True
 |some (.dK _)=>True
 |some (.dT _)=>True
 |some (.set _ _)=>True
 |some (.ins _ _ _)=>True
 |some (.ext _)=>True
 |_=>False
section
variable{P:F0b}{w:F0c}{H:Hp}{h h':Heap}{x e:AD}{o':HO}
def DB.write(ok:DB P w H h)(M:cU (H x))(Z:e=x\/H e=some (.own x))(k:∀b u,b≠e->h.get? b=some u->h'.get? b=some u)(U:∃u,h'.get? e=some u) (new:Bx P w (upd H x o') h' x o'):DB P w (upd H x o') h':=fun b u q=>by
 have I:∀c y,H c=some (.own y)->c≠x:=fun c y r z=>by subst z;rw[r]at M;exact M
 have ZD:∀c xs,H c=some (.tup xs)->c≠x:=fun c xs r z=>by subst z;rw[r]at M;exact M
 by_cases T:b=x
 .subst T;rw[AN]at q;cases q;exact new
 .rw[AK T]at q;by_cases g:b=e
  .have Y:H b=some (.own x):=by
    rcases Z with z|z
    .exact absurd (g.trans z) T
    .rw[g];exact z
   rw[q]at Y;cases Y;obtain⟨v,hv⟩:=U;exact⟨v,by rw[g];exact hv⟩
  .refine(ok b u q).KC (fun c v R r=>k c v ?_ r) (fun c r=>by rw[AK (I c b r)];exact r) fun c xs r=>by rw[AK (ZD c xs r)];exact r
   rcases R with rfl|R
   .exact g
   .rintro rfl;rcases Z with z|z
    .exact I c b R z
    .rw[R]at z;cases z;exact T rfl
end
structure Un(fs ex:List Addr)(H H':Hp)(h h':Heap):Prop where
 keep:∀b o,h.get? b=some o->H b=none->b ∉ fs->b ∉ ex->h'.get? b=some o
 slot:∀b o,h.get? b=some o->H b=none->b∈fs->b ∉ ex->∃sl,h'.get? b=some {o with slots:=sl}
 free:∀b o,h.get? b=some o->H b=none->b ∉ ex->H' b=none
 there:∀b o,h.get? b=some o->b ∉ ex->∃o',h'.get? b=some o'
 D9:∀b xs,H b=some (.tup xs)->H' b=some (.tup xs)
 F0:∀b o u,H b=some (.Fe o u)->H' b=some (.Fe o u)
 Gy:∀b ps,H b=some (.Pc ps)->∃more,H' b=some (.Pc (ps++more))
 Gv:∀b xs o,H b=some (.tup xs)->h.get? b=some o->b ∉ ex->h'.get? b=some o
section
variable{fs ex:tT}{H H1:Hp}{h h1 h':Heap}{a x e:AD}{o:HO}
def Un.any(u:Un fs ex H H1 h h1){b:AD}{ob:Obj}(q:h.get? b=some ob)(n:H b=none)(g:b ∉ ex):∃sl,h1.get? b=some {ob with slots:=sl}:=by
 by_cases I:b∈fs
 .exact u.slot b ob q n I g
 .exact⟨ob.slots,u.keep b ob q n I g⟩
def Un.kept(k:∀b u,h.get? b=some u->h'.get? b=some u):Un fs ex H H h h' :=
 ⟨fun b ob q _ _ _=>k b ob q,fun b ob q _ _ _=>⟨ob.slots,k b ob q⟩,fun _ _ _ n _=>n,fun b ob q _=>⟨ob,k b ob q⟩,fun _ _ q=>q,fun _ _ _ q=>q,fun _ ps q=>⟨#[],by rw[q];simp⟩,fun _ _ ob _ e _=>k _ ob e⟩
def Un.refl:Un fs ex H H h h:=Un.kept fun _ _ q=>q
def Un.laid(k:∀b u,h.get? b=some u->h'.get? b=some u)(hp:h.objs.size<=a)(hn:H a=none):Un fs ex H (upd H a o) h h' where
 keep:=fun b u q _ _ _=>k b u q
 slot:=fun b u q _ _ _=>⟨u.slots,k b u q⟩
 free:=fun b u q n _=>by rw[AK (aM (aH (aE q) hp))];exact n
 there:=fun b u q _=>⟨u,k b u q⟩
 D9:=fun b xs q=>by rw[AK (AV q hn)];exact q
 F0:=fun b u xs q=>by rw[AK (AV q hn)];exact q
 Gy:=fun b ps q=>⟨#[],by rw[AK (AV q hn),q];simp⟩
 Gv:=fun b _ u _ e _=>k b u e
def Un.write(I:cU (H x))(T:e=x\/H e=some (.own x))(k:∀b u,b≠e->h.get? b=some u->h'.get? b=some u)(M:∃u,h'.get? e=some u):Un fs ex H (upd H x o) h h':=by
 have R:∀b,H b=none->b≠x:=fun b n z=>by subst z;rw[n]at I;exact I
 have U:∀b,H b=none->b≠e:=fun b n z=>by
  subst z;rcases T with r|r
  .exact R b n r
  .rw[n]at r;cases r
 have hm:∀b u,H b=some u->¬cU (some u)->b≠x:=fun b u q nm z=>by subst z;rw[q]at I;exact nm I
 refine⟨fun b u q n _ _=>k b u (U b n) q,fun b u q n _ _=>⟨u.slots,k b u (U b n) q⟩,fun b u q n _=>by rw[AK (R b n)];exact n,fun b u q _=>?_,
  fun b xs q=>by rw[AK (hm b _ q fun z=>z)];exact q,fun b u xs q=>by rw[AK (hm b _ q fun z=>z)];exact q,fun b ps q=>⟨#[],by rw[AK (hm b _ q fun z=>z),q];simp⟩,fun b xs u q e _=>k b u (fun z=>by
   rcases T with r|r
   .exact hm b _ q (fun z=>z) (z.trans r)
   .rw[<-z,q]at r;cases r) e⟩
 by_cases g:b=e
 .subst g;exact M
 .exact⟨u,k b u g q⟩
end
def PX(h:Heap)(H:Hp):tT:=(List.range h.objs.size).filter fun a=>(H a).isSome
def Mp(h:Heap)(H:Hp):Heap:=PySem.W.hideAll h (PX h H)
def cL(h:Heap)(H:Hp):(Mp h H).objs.size=h.objs.size:=PySem.W.hideAll_size _ _
def gS{h:Heap}{H:Hp}{b:AD}{o:Obj}(e:h.get? b=some o)(n:H b=none):(Mp h H).get? b=some o :=
 PySem.W.hideAll_get _ e fun hm=>by
  have q:(H b).isSome=true:=(List.mem_filter.mp hm).2;rw[n]at q;simp at q
def jm{h:Heap}{H:Hp}{b:AD}{o:Obj}(e:(Mp h H).get? b=some o):h.get? b=some o/\H b=none:=by
 have g:h.get? b=some o:=PySem.W.of_hideAll (PX h H) e;refine⟨g,?_⟩;cases q:H b with
 |none=>rfl
 |some x=>
  have hm:b∈PX h H:=List.mem_filter.mpr ⟨List.mem_range.mpr (aE g),by simp[q]⟩;have z:(Mp h H).get? b=none:=PySem.W.hideAll_none (PX h H) hm;rw[z]at e;cases e
structure Mod(K:Fg)(mg:Str->Option Value)(base:Heap):Prop where
 Pg:K.In base
 glob:base.Ns mainGlobals mg
 blt:∃mb,base.Ns builtinsNs mb/\∀x:Str,x ≠ "__name__" -> mb x=bootBuiltins x
 nolimit:base.NoLimit
def sZ(d:Nat):List tR:=[[],[.ref (d+1)],[.int 1,.int 1],[.ref (d+3)],[.ref (d+2),.ref (d+4)],[],[.int 1,.int 2],[.ref (d+7)],[.ref (d+6),.ref (d+8)],[.int 0,.int 1],[.int 1,.int 1],[.ref (d+10),.ref (d+11)],[.ref (d+9),.ref (d+12)],[],[.int 1,.int 1],[.ref (d+15)],[.ref (d+14),.ref (d+16)],[.int 1,.int 2],[.int 1,.int 2],[.ref (d+18),.ref (d+19)],[.ref (d+17),.ref (d+20)],[],[.int 1,.int 3],[.ref (d+23)],[.int 0,.int 1],[.int 2,.int 3],[.ref (d+25),.ref (d+26)],[.ref (d+22),.ref (d+24),.ref (d+27)],[.int 1,.int 4],[.int 0,.int 1],[.int 3,.int 4],[.ref (d+29),.ref (d+30),.ref (d+31)],[.ref (d+28),.ref (d+32)],[],[.int 1,.int 2],[.ref (d+35)],[.int 0,.int 1],[.int 1,.int 2],[.ref (d+37),.ref (d+38)],[.int 0,.int 1],[.int 0,.int 1],[.int 1,.int 1],[.ref (d+40),.ref (d+41),.ref (d+42)],[.ref (d+34),.ref (d+36),.ref (d+39),.ref (d+43)],[.int 1,.int 6],[.int 1,.int 3],[.int 1,.int 3],[.int 1,.int 6],[.ref (d+45),.ref (d+46),.ref (d+47),.ref (d+48)],[.ref (d+44),.ref (d+49)]]
def sd(d:Nat):List (Key×V):=[(.inr "plain",.ref (d+5)),(.inr "middle",.ref (d+13)),(.inr "heel",.ref (d+21)),(.inr "third",.ref (d+33)),(.inr "fourth",.ref (d+50))]
def KTb(mg:tF)(H:Hp):Prop:=∀d:AD,mg "NAMED_TABLES" = some (.ref d)->(∃o,H d=some (.Fe o (.dK (sd d))))/\∀j xs,(sZ d)[j]? = some xs->H (d+1+j)=some (.tup xs)
def KTb.un{mg:tF}{fs ex:tT}{H H':Hp}{h h':Heap}(k:KTb mg H)(u:Un fs ex H H' h h'):KTb mg H':=fun d e=>by
 obtain⟨⟨o,I⟩,g⟩:=k d e;exact⟨⟨o,u.F0 _ _ _ I⟩,fun j xs q=>u.D9 _ _ (g j xs q)⟩
structure Cx where
 prog:Program
 w:World
 K:Fg
 mg:Str->Option Value
 base:Heap
 A:Around
 N:List Str
 s₀:Shared
 H₀:Hp
 env:Env
 outer:List Env
 stack:List Env
 ex:List Addr
 fn:Str->Bool
 calm:Bool
 pn:List (Addr×Obj)
 xe:Value->Shared->Prop
def GB(l:tV):tT:=l.filterMap (·.frame)
abbrev Cx.fs(X:Cx):List AD:=GB X.outer
def lD(sc:Scope)(x:Str):Prop:=sc.names.lookup x=some .local\/sc.names.lookup x=some .cell\/sc.names.lookup x=some .free
def Loc(sc:Scope)(x:Str):Prop:=sc.names.lookup x=some .local\/sc.names.lookup x=some .cell
def Look(env:Env)(h:Heap)(m:tF)(x:Str)(u:VL):Prop :=
 (env.kindOf x=some .local/\m x=some u)\/((env.kindOf x=some .cell\/env.kindOf x=some .free)/\∃c,env.cells.lookup x=some c/\h.IsCell c (some u))
structure Cx.Ok(X:Cx):Prop where
 mod:Mod X.K X.mg X.base
 kind:X.env.scope.kind=.function
 glob:X.env.globals=mainGlobals
 blt:X.env.builtins=builtinsNs
 above:X.s₀.heap.objs.size<=X.env.locals
 inj:∀x y c,X.env.cells.lookup x=some c->X.env.cells.lookup y=some c->x=y
 has:∀x,(X.env.kindOf x=some .cell\/X.env.kindOf x=some .free)->∃c,X.env.cells.lookup x=some c
 Vq:∀x c,X.fn x=true->X.env.cells.lookup x=some c->X.s₀.heap.objs.size<=c
 hd:X.calm=true->X.A.handled=none
 frames:X.A.frames=some X.stack
 di:X.stack=X.outer\/(X.stack=X.env::X.outer/\X.env.frame=some X.env.locals)
 kX:∀b∈X.ex,b≠X.env.locals/\∀x c,X.env.cells.lookup x=some c->c≠b
 bs:∀b o,X.base.get? b=some o->X.s₀.heap.get? b=some o/\X.H₀ b=none
 RT:X.base.objs.size<=X.s₀.heap.objs.size
 SY:∀b o,X.base.get? b=some o->b ∉ X.ex
 R6:∀b∈X.ex,b ∉ X.fs
 Ib:X.s₀.heap.FunFrames X.base X.outer
 Qb:∀b∈X.fs,X.H₀ b=none
 kt:KTb X.mg X.H₀
structure Inv(X:Cx)(pins:List (Addr×Obj))(σ:List (Option V))(H:Hp)(s:Shared):Prop where
 ok:X.Ok
 os:s.os=X.s₀.os
 bare:AllBare s.gens
 base:Un X.fs X.ex X.H₀ H X.s₀.heap s.heap
 loc:∃m,s.heap.Ns X.env.locals m/\∀(i:Nat) (x:Str) (v:V),X.N[i]? = some x->σ[i]? = some (some v)->lD X.env.scope x->∃u,RelV v u/\Look X.env s.heap m x u
 cell:∀x c,X.env.cells.lookup x=some c->∃v,s.heap.IsCell c v
 free:H X.env.locals=none
 F9:∀x c,X.env.cells.lookup x=some c->H c=none
 pin:∀p∈X.pn++pins,s.heap.get? p.1=some p.2/\H p.1=none/\p.1≠X.env.locals/\p.1 ∉ X.fs/\∀v,p.2.data≠.cell v
 Al:DB X.prog X.w H s.heap
 len:σ.length=X.N.length
def Inv.kt{X:Cx}{pins:CG}{σ:List (Option V)}{H:Hp}{s:SD}(I:At):KTb X.mg H:=I.ok.kt.un I.base
section
variable{X:Cx}{pins:CG}{σ:List (Option V)}{H H':Hp}{s:SD}{h':Heap}
def Cx.Ok.qp(ok:X.Ok){b:AD}{o:Obj}(e:X.base.get? b=some o):b ∉ X.fs:=fun g=>by
 have:=(ok.Ib.mem g).1;rw[e]at this;cases this
def Inv.bs(I:At):∀b o,X.base.get? b=some o->s.heap.get? b=some o/\H b=none:=fun b o e=>
 ⟨I.base.keep b o (I.ok.bs b o e).1 (I.ok.bs b o e).2 (I.ok.qp e) (I.ok.SY b o e),I.base.free b o (I.ok.bs b o e).1 (I.ok.bs b o e).2 (I.ok.SY b o e)⟩
def Inv.bk(I:At):∀b o,X.base.get? b=some o->s.heap.get? b=some o:=fun b o e=>(I.bs b o e).1
def Inv.mod(I:At):Mod X.K X.mg X.base:=I.ok.mod
def Inv.Gs(I:At):X.K.In s.heap:=I.ok.mod.Pg.keeps I.bk
def Inv.lt(I:At):X.env.locals<s.heap.objs.size:=let⟨_,hn,_⟩:=I.loc;hn.lt
def Inv.sz(I:At):X.s₀.heap.objs.size<=s.heap.objs.size:=aT I.ok.above (Nat.le_of_lt I.lt)
def Inv.qi(I:At){a:AD}(h:s.heap.objs.size<=a):a ∉ X.fs:=fun M=>by
 obtain⟨_,o,g,_⟩:=I.ok.Ib.mem M;exact absurd (aH (aE g) (aT I.sz h)) (Nat.lt_irrefl _)
def Inv.RL(I:At):∀x c,X.env.cells.lookup x=some c->c≠X.env.locals:=fun x c e z=>by
 obtain⟨v,o,R,hd⟩:=I.cell x c e;obtain⟨m,⟨o',es,ep,g,M,_⟩,_⟩:=I.loc;rw[z,g]at R;cases R;rw[M]at hd;cases hd
def Inv.Ib(I:At):s.heap.FunFrames X.base X.outer:=by
 have all:∀(l:List Env),(∀b∈GB l,b∈X.fs)->X.s₀.heap.FunFrames X.base l->s.heap.FunFrames X.base l:=by
  intro l
  induction l with
  |nil=>intro _ _;trivial
  |cons env r U=>
   intro T hl;obtain⟨hk,⟨L,o,g,hn,Z,hd⟩,Y⟩:=hl;have R:L∈X.fs:=T L (by unfold GB;rw[(Rz),g];exact aO);obtain⟨sl,e⟩:=I.base.slot L o Z (I.ok.Qb L R) R fun z=>I.ok.R6 L z R;exact⟨hk,⟨L,_,g,hn,e,hd⟩,U (fun b M=>T b (by unfold GB;rw[(Rz),g];exact aK _ M)) Y⟩
 exact all X.outer (fun _ M=>M) I.ok.Ib
def Inv.stack(I:At):s.heap.FunFrames X.base X.stack:=by
 rcases I.ok.di with e|⟨e,g⟩
 .rw[e];exact I.Ib
 .rw[e];obtain⟨m,hn,_⟩:=I.loc;refine .cons (by rw[I.ok.kind];decide) g hn ?_ I.Ib;exact Heap.get?_none_of_le (aT I.ok.RT I.ok.above)
def Inv.OA(I:At):∀b∈GB X.stack,b∈X.env.locals::X.fs:=fun b g=>by
 rcases I.ok.di with e|⟨e,M⟩
 .rw[e]at g;exact aK _ g
 .rw[e]at g;unfold GB at g;rw[(Rz),M]at g;exact g
def Inv.Rf(I:At):∀b∈GB X.stack,H b=none:=fun b g=>by
 rcases aN.mp (I.OA b g) with e|g
 .rw[e];exact I.free
 .obtain⟨_,o,M,_⟩:=I.ok.Ib.mem g;exact I.base.free b o M (I.ok.Qb b g) fun z=>I.ok.R6 b z g
def Inv.step{g':Array GenState}{t':Nat}{d':Drawn}{ch:tT}(I:At) (T:∀b∈ch,(b∈X.ex\/X.s₀.heap.objs.size<=b)/\b≠X.env.locals/\(∀x c,X.env.cells.lookup x=some c->c≠b)/\∀p∈X.pn++pins,p.1≠b) (keep:∀b o,b≠X.env.locals->b ∉ X.fs->b ∉ ch->s.heap.get? b=some o->H b=none->h'.get? b=some o) (slot:∀b o,b≠X.env.locals->b∈X.fs->b ∉ ch->s.heap.get? b=some o->H b=none->∃sl,h'.get? b=some {o with slots:=sl})(free:∀b o,b ∉ ch->s.heap.get? b=some o->H b=none->H' b=none) (there:∀b o,b ∉ ch->s.heap.get? b=some o->∃o',h'.get? b=some o') (D9:∀b xs,H b=some (.tup xs)->H' b=some (.tup xs))(F0:∀b o u,H b=some (.Fe o u)->H' b=some (.Fe o u))(Gy:∀b ps,H b=some (.Pc ps)->∃more,H' b=some (.Pc (ps++more))) (Gv:∀b xs o,b ∉ ch->H b=some (.tup xs)->s.heap.get? b=some o->h'.get? b=some o) (ns:∀m,s.heap.Ns X.env.locals m->h'.Ns X.env.locals m)(Al:DB X.prog X.w H' h')(hg:AllBare g'):Inv X pins σ H' {s with heap:=h',gens:=g',drawn:=d',toks:=t'}:=by
 have neL:∀b o,X.s₀.heap.get? b=some o->b≠X.env.locals:=fun b o e=>aM (aH (aE e) I.ok.above);have M:∀b o,X.s₀.heap.get? b=some o->b ∉ X.ex->b ∉ ch:=fun b o e g Y=>by
  rcases(T b Y).1 with z|z
  .exact g z
  .exact absurd (aH (aE e) z) (Nat.lt_irrefl _)
 have cellK:∀x c,X.env.cells.lookup x=some c->∀v,s.heap.IsCell c v->h'.IsCell c v:=fun x c e v ⟨o,Z,hd⟩=>by
  have R:c ∉ ch:=fun z=>(T c z).2.2.1 x c e rfl;by_cases hc:c∈X.fs
  .obtain⟨sl,q⟩:=slot c o (I.RL x c e) hc R Z (I.F9 x c e);exact⟨_,q,hd⟩
  .exact⟨o,keep c o (I.RL x c e) hc R Z (I.F9 x c e),hd⟩
 refine⟨I.ok,I.os,hg,⟨fun b o e n Y g=>?_,fun b o e n Y g=>?_,fun b o e n g=>?_,fun b o e g=>?_,fun b xs e=>D9 b xs (I.base.D9 b xs e),fun b o xs e=>F0 b o xs (I.base.F0 b o xs e),fun b ps e=>?_,fun b xs o q e g=>Gv b xs o (M b o e g) (I.base.D9 b xs q) (I.base.Gv b xs o q e g)⟩,?_,fun x c e=>?_,?_,fun x c e=>?_,fun p hp=>?_,Al,I.len⟩
 .exact keep b o (neL b o e) Y (M b o e g) (I.base.keep b o e n Y g) (I.base.free b o e n g)
 .obtain⟨sl,U⟩:=I.base.slot b o e n Y g;obtain⟨sl',e2⟩:=slot b _ (neL b o e) Y (M b o e g) U (I.base.free b o e n g);exact⟨sl',e2⟩
 .obtain⟨o',U⟩:=I.base.there b o e g;exact free b o' (M b o e g) U (I.base.free b o e n g)
 .obtain⟨o',U⟩:=I.base.there b o e g;exact there b o' (M b o e g) U
 .obtain⟨m1,U⟩:=I.base.Gy b ps e;obtain⟨m2,e2⟩:=Gy b _ U;exact⟨m1++m2,by rw[e2,Array.append_assoc]⟩
 .obtain⟨m,hn,hl⟩:=I.loc;refine⟨m,ns m hn,fun i x v U e2 e3=>?_⟩;obtain⟨u,r,l⟩:=hl i x v U e2 e3;refine⟨u,r,?_⟩;rcases l with l|⟨k,c,e,z⟩
  .exact .inl l
  .exact .inr ⟨k,c,e,cellK x c e _ z⟩
 .obtain⟨v,z⟩:=I.cell x c e;exact⟨v,cellK x c e v z⟩
 .obtain⟨m,⟨o,_,_,Z,_⟩,_⟩:=I.loc;exact free _ o (fun z=>(T _ z).2.1 rfl) Z I.free
 .obtain⟨v,o,Z,hd⟩:=I.cell x c e;exact free c o (fun z=>(T c z).2.2.1 x c e rfl) Z (I.F9 x c e)
 .obtain⟨e,n,ne,nf,d⟩:=I.pin p hp;have R:p.1 ∉ ch:=fun z=>(T p.1 z).2.2.2 p hp rfl;exact⟨keep p.1 p.2 ne nf R e n,free p.1 p.2 R e n,ne,nf,d⟩
def Inv.un{t':Nat}(I:At)(u:Un X.fs [] H H' s.heap h')(Al:DB X.prog X.w H' h'):Inv X pins σ H' {s with heap:=h',toks:=t'}:=by
 obtain⟨m,⟨o,es,ep,U,r⟩,_⟩:=id I.loc;obtain⟨sl,Z⟩:=u.any U I.free BY;exact I.step (g':=s.gens) (d':=s.drawn) (ch:=[]) (fun _ z=>nomatch z) (fun b o _ M _ e n=>u.keep b o e n M BY) (fun b o _ M _ e n=>u.slot b o e n M BY) (fun b o _ e n=>u.free b o e n BY) (fun b o _ e=>u.there b o e BY) u.D9 u.F0 u.Gy (fun b xs o _ q e=>u.Gv b xs o q e BY) (fun m' hm=>by
  obtain⟨o',R,T,g,Y⟩:=hm;rw[U]at g;cases g;exact⟨_,R,T,Z,Y⟩) Al I.bare
def Inv.call{g':Array GenState}{t':Nat}{d':Drawn}{ch:tT}(I:At)(u:Un (GB X.stack) ch H H' s.heap h')(Al:DB X.prog X.w H' h')(hg:AllBare g') (R:∀b∈ch,(b∈X.ex\/X.s₀.heap.objs.size<=b)/\b≠X.env.locals/\(∀x c,X.env.cells.lookup x=some c->c≠b)/\∀p∈X.pn++pins,p.1≠b):Inv X pins σ H' {s with heap:=h',gens:=g',drawn:=d',toks:=t'}:=by
 obtain⟨m,⟨o,es,ep,Z,r⟩,_⟩:=id I.loc;obtain⟨sl,T⟩:=u.any Z I.free fun z=>(R _ z).2.1 rfl;exact I.step (ch:=ch) R (fun b o T hb g e n=>u.keep b o e n (fun z=>(aN.mp (I.OA b z)).elim T hb) g) (fun b o _ _ g e n=>u.any e n g) (fun b o g e n=>u.free b o e n g) (fun b o g e=>u.there b o e g) u.D9 u.F0 u.Gy (fun b xs o g q e=>u.Gv b xs o q e g) (fun m' hm=>by
  obtain⟨o',U,Y,M,r'⟩:=hm;rw[Z]at M;cases M;exact⟨_,U,Y,T,r'⟩) Al hg
def Inv.turned{t':Nat}{it:AD}(I:At)(k:∀b o,b≠it->s.heap.get? b=some o->h'.get? b=some o)(hn:H it=none)(R:it≠X.env.locals) (h1:it∈X.ex\/X.s₀.heap.objs.size<=it)(Z:∀x c,X.env.cells.lookup x=some c->c≠it)(Y:∀p∈X.pn++pins,p.1≠it):Inv X pins σ H {s with heap:=h',toks:=t'}:=by
 have M:∀b u,H b=some u->b≠it:=fun b u e z=>by rw[z,hn]at e;cases e
 refine I.step (g':=s.gens) (d':=s.drawn) (ch:=[it]) (fun b U=>?_) (fun b o _ _ g e _=>k b o (fun z=>g (by simp[z])) e) (fun b o _ _ g e _=>⟨o.slots,k b o (fun z=>g (by simp[z])) e⟩) (fun _ _ _ _ n=>n)
  (fun b o g e=>⟨o,k b o (fun z=>g (by simp[z])) e⟩) (fun _ _ e=>e) (fun _ _ _ e=>e) (fun b ps e=>⟨#[],by rw[e];simp⟩) (fun b xs o g _ e=>k b o (fun z=>g (by simp[z])) e) (fun m hm=>?_) (fun b u e=>?_) I.bare
 .have e:b=it:=by simpa using U
  subst e;exact⟨h1,R,Z,Y⟩
 .obtain⟨o,es,ep,T,r⟩:=hm;exact⟨o,es,ep,k _ o (Ne.symm R) T,r⟩
 .refine(I.Al b u e).KC (fun c v g q=>k c v ?_ q) (fun _ q=>q) fun _ _ q=>q;rcases g with z|z
  .rw[z];exact M b u e
  .exact M c _ z
def Inv.tok(I:At)(t:Nat):Inv X pins σ H {s with toks:=t}:=I.un (h':=s.heap) (t':=t) Un.refl I.Al
def Inv.kept{t':Nat}(I:At)(k:∀b u,s.heap.get? b=some u->h'.get? b=some u):Inv X pins σ H {s with heap:=h',toks:=t'}:=I.un (Un.kept k) (I.Al.kept k)
def Inv.laid{a:AD}{o:HO}{t':Nat}(I:At)(k:∀b u,s.heap.get? b=some u->h'.get? b=some u)(g:s.heap.objs.size<=a)(new:Bx X.prog X.w (upd H a o) h' a o):Inv X pins σ (upd H a o) {s with heap:=h',toks:=t'}:=I.un (Un.laid k g (I.Al.fresh g)) (I.Al.laid k g new)
def Inv.write{x e:AD}{o:HO}{t':Nat}(I:At)(M:cU (H x))(R:e=x\/H e=some (.own x))(k:∀b u,b≠e->s.heap.get? b=some u->h'.get? b=some u)(g:∃u,h'.get? e=some u) (new:Bx X.prog X.w (upd H x o) h' x o):Inv X pins σ (upd H x o) {s with heap:=h',toks:=t'}:=I.un (Un.write M R k g) (I.Al.write M R k g new)
def Inv.XI{g:CG}(I:At)(h:∀p∈g,s.heap.get? p.1=some p.2/\H p.1=none/\p.1≠X.env.locals/\p.1 ∉ X.fs/\∀v,p.2.data≠.cell v):Inv X g σ H s :=
 ⟨I.ok,I.os,I.bare,I.base,I.loc,I.cell,I.free,I.F9,fun p M=>(aW.mp M).elim (fun z=>I.pin p (List.mem_append_left _ z)) (h p),I.Al,I.len⟩
def QX{N:tK}(g:N.Nodup){i j:Nat}{x:Str}(a:N[i]? = some x)(b:N[j]? = some x):i=j:=by
 obtain⟨T,M⟩:=aB.mp a;obtain⟨R,I⟩:=aB.mp b;exact(List.getElem_inj g).mp (M.trans I.symm)
def TN{M:Model}{A:F0d}{E:tE}{i:Nat}{x:Str}{v:V}{u:VL}{Q:Unit->SD->Prop}(I:At)(hN:X.N.Nodup)(hi:X.N[i]? = some x)(R:Loc X.env.scope x)(r:RelV v u) (h:∀s',Inv X pins (σ.set i (some v)) H s'->(∃a,Heap.SameBut a s.heap s'.heap/\(a=X.env.locals\/X.env.cells.lookup x=some a))->Q () s')(hf:X.fn x=true\/X.env.scope.names.lookup x=some .local:=by first|exact .inl rfl|exact .inr rfl|assumption):wpAny M A (storeName X.env x u) Q E s:=by
 obtain⟨m,hn,hl⟩:=id I.loc;have hcls:(X.env.scope.kind==.class||(X.env.scope.kind==.module&&X.env.locals != X.env.globals))=false:=by rw[I.ok.kind];rfl
 have hiσ:i<σ.length:=by rw[I.len];exact(aB.mp hi).1
 have RL:=I.RL;have tracked:∀ {a:AD} {h':Heap},(∃o,s.heap.get? a=some o/\H a=none)->Heap.SameBut a s.heap h'->DB X.prog X.w H h':=fun {a h'} ha g b ob e=>by
  obtain⟨_,_,Y⟩:=ha;refine(I.Al b ob e).KC (fun c w' U q=>(g.2 c ?_).trans q) (fun _ q=>q) fun _ _ q=>q;rintro rfl;rcases U with rfl|U
  .rw[Y]at e;cases e
  .rw[Y]at U;cases U
 rcases R with hk|hk
 .refine wpAny_storeName_local hk hn (fun h' hn' g=>?_) hcls;obtain⟨oL,_,_,hoL,_⟩:=id hn;refine h _ ⟨I.ok,I.os,I.bare,⟨fun b o e n hb R=>?_,fun b o e n hb R=>?_,I.base.free,fun b o e R=>?_,I.base.D9,I.base.F0,I.base.Gy,fun b xs o q e R=>(g.2 b (aM (aH (aE e) I.ok.above))).trans (I.base.Gv b xs o q e R)⟩,⟨_,hn',fun j y v' T e2 e3=>?_⟩,fun y c e=>?_,I.free,I.F9,fun p hp=>?_,tracked ⟨oL,hoL,I.free⟩ g,by simpa using I.len⟩ ⟨_,g,.inl rfl⟩
  .exact(g.2 b (aM (aH (aE e) I.ok.above))).trans (I.base.keep b o e n hb R)
  .obtain⟨sl,T⟩:=I.base.slot b o e n hb R;exact⟨sl,(g.2 b (aM (aH (aE e) I.ok.above))).trans T⟩
  .obtain⟨o',T⟩:=I.base.there b o e R;exact⟨o',(g.2 b (aM (aH (aE e) I.ok.above))).trans T⟩
  .by_cases hj:j=i
   .subst hj;rw[hi]at T;cases T;rw[List.getElem?_set_self hiσ]at e2;cases e2;exact⟨u,r,.inl ⟨hk,by simp⟩⟩
   .rw[List.getElem?_set_ne (Ne.symm hj)]at e2;obtain⟨u',r',q⟩:=hl j y v' T e2 e3;refine⟨u',r',?_⟩;rcases q with ⟨k,e⟩|⟨k,c,e,z⟩
    .refine .inl ⟨k,?_⟩;have:y≠x:=fun e=>hj (QX hN T (e ▸ hi));simp[this,e]
    .exact .inr ⟨k,c,e,z.sameBut g (RL y c e)⟩
  .obtain⟨w',z⟩:=I.cell y c e;exact⟨w',z.sameBut g (RL y c e)⟩
  .obtain⟨e,n,ne,nf,d⟩:=I.pin p hp;exact⟨(g.2 p.1 ne).trans e,n,ne,nf,d⟩
 .have Z:X.fn x=true:=by
   rcases hf with z|z
   .exact z
   .rw[z]at hk;cases hk
  obtain⟨c,U⟩:=I.ok.has x (.inl hk);obtain⟨w',z⟩:=I.cell x c U;refine wpAny_storeName_cell I.ok.kind hk U z (fun h' hc' g=>?_);obtain⟨oc,hoc,hocd⟩:=id z;refine h {s with heap:=h'} ⟨I.ok,I.os,I.bare,⟨fun b o e n hb R=>?_,fun b o e n hb R=>?_,I.base.free,fun b o e R=>?_,I.base.D9,I.base.F0,I.base.Gy,fun b xs o q e R=>(g.2 b (aM (aH (aE e) (I.ok.Vq x c Z U)))).trans (I.base.Gv b xs o q e R)⟩,⟨m,hn.sameBut g (Ne.symm (RL x c U)),fun j y v' T e2 e3=>?_⟩,fun y c' e=>?_,I.free,I.F9,fun p hp=>?_,tracked ⟨oc,hoc,I.F9 x c U⟩ g,by simpa using I.len⟩ ⟨c,g,.inr U⟩
  .exact(g.2 b (aM (aH (aE e) (I.ok.Vq x c Z U)))).trans (I.base.keep b o e n hb R)
  .obtain⟨sl,T⟩:=I.base.slot b o e n hb R;exact⟨sl,(g.2 b (aM (aH (aE e) (I.ok.Vq x c Z U)))).trans T⟩
  .obtain⟨o',T⟩:=I.base.there b o e R;exact⟨o',(g.2 b (aM (aH (aE e) (I.ok.Vq x c Z U)))).trans T⟩
  .by_cases hj:j=i
   .subst hj;rw[hi]at T;cases T;rw[List.getElem?_set_self hiσ]at e2;cases e2;exact⟨u,r,.inr ⟨.inl hk,c,U,hc'⟩⟩
   .rw[List.getElem?_set_ne (Ne.symm hj)]at e2;obtain⟨u',r',q⟩:=hl j y v' T e2 e3;refine⟨u',r',?_⟩;rcases q with q|⟨k,c',e,z'⟩
    .exact .inl q
    .refine .inr ⟨k,c',e,z'.sameBut g ?_⟩;rintro rfl;exact hj (QX hN T (I.ok.inj _ _ _ e U ▸ hi))
  .by_cases hcc:c'=c
   .subst hcc;exact⟨_,hc'⟩
   .obtain⟨w2,z2⟩:=I.cell y c' e;exact⟨w2,z2.sameBut g hcc⟩
  .obtain⟨e,n,ne,nf,d⟩:=I.pin p hp;refine⟨(g.2 p.1 ?_).trans e,n,ne,nf,d⟩;intro q;rw[q,hoc]at e;have q':oc=p.2:=ak e;exact d w' (by rw[<-q'];exact hocd)
def LA{M:Model}{A:F0d}{E:tE}{i:Nat}{x:Str}{v:V}{u:VL}{Q:Unit->SD->Prop}(I:At)(T:X.N.Nodup)(hi:X.N[i]? = some x)(g:Loc X.env.scope x)(r:RelV v u) (h:∀s',Inv X pins (σ.set i (some v)) H s'->Q () s')(R:X.fn x=true\/X.env.scope.names.lookup x=some .local:=by first|exact .inl rfl|exact .inr rfl|assumption):wpAny M A (storeName X.env x u) Q E s :=
 TN I T hi g r (fun s' U _=>h s' U) R
def Inv.iO{s':SD}{ch:tT}(I:At)(U:s'.os=s.os)(u:Un (GB X.stack) ch H H' s.heap s'.heap)(Al:DB X.prog X.w H' s'.heap)(Y:AllBare s'.gens) (g:∀b∈ch,(b∈X.ex\/X.s₀.heap.objs.size<=b)/\b≠X.env.locals/\(∀x c,X.env.cells.lookup x=some c->c≠b)/\∀p∈X.pn++pins,p.1≠b):Inv X pins σ H' s':=by
 obtain⟨h',R,T,M,o'⟩:=s';have e:o'=s.os:=U;subst e;exact I.call (g':=R) (t':=M) (d':=T) u Al Y g
end
abbrev XK:=VL->Option AD->Hp->Prop
abbrev St:=List (Option V)
abbrev VK:=V->Hp->Prop
abbrev TE:=St->Hp->VK->Prop
abbrev TT:=St->Hp->(Bool->Hp->Prop)->Prop
abbrev TA:=St->Hp->(List V->Hp->Prop)->Prop
structure Ends where
 nx:St->Hp->Prop
 rt:VK
 bk:St->Hp->Prop:=fun _ _=>False
 ct:St->Hp->Prop:=fun _ _=>False
abbrev TS:=Ends->St->Hp->Prop
def EP(X:Cx)(pins:CG)(σ:St)(Q:VK)(u:VL)(s':SD):Prop:=∃v H',Inv X pins σ H' s'/\RelV v u/\Q v H'
def TP(X:Cx)(pins:CG)(σ:St)(Q:Bool->Hp->Prop)(b:Bool)(s':SD):Prop:=∃H',Inv X pins σ H' s'/\Q b H'
def AP(X:Cx)(pins:CG)(σ:St)(Q:List V->Hp->Prop)(us:sy)(s':SD):Prop:=∃vs H',Inv X pins σ H' s'/\Vals vs us/\Q vs H'
def SP(X:Cx)(pins:CG)(D:Ends)(f:Flow)(s':SD):Prop :=
 match f with
 |.next=>∃g H',Inv X pins g H' s'/\D.nx g H'
 |.brk=>∃g H',Inv X pins g H' s'/\D.bk g H'
 |.cont=>∃g H',Inv X pins g H' s'/\D.ct g H'
 |.ret u=>∃v g H',Inv X pins g H' s'/\RelV v u/\D.rt v H'
def PE(X:Cx)(e:Expr)(t:TE):Prop :=
 ∀(pins:CG) (s:SD) (σ:St) (H:Hp) (Q:VK),Inv X pins σ H s->t σ H Q->wpAny By X.A (eval e X.env) (EP X pins σ Q) X.xe s
def PT(X:Cx)(e:Expr)(t:TT):Prop :=
 ∀(pins:CG) (s:SD) (σ:St) (H:Hp) (Q:Bool->Hp->Prop),Inv X pins σ H s->t σ H Q->wpAny By X.A (isTrue e X.env (eval e X.env)) (TP X pins σ Q) X.xe s
def PW(X:Cx)(e:Expr)(t:TT):Prop :=
 ∀(whole:Sem VL) (pins:CG) (s:SD) (σ:St) (H:Hp) (Q:Bool->Hp->Prop),Inv X pins σ H s->t σ H Q->wpAny By X.A (isTrue e X.env whole) (TP X pins σ Q) X.xe s
def PW.pt{X:Cx}{e:Expr}{t:TT}(h:PW X e t):PT X e t:=h _
def PA(X:Cx)(es:tL)(t:TA):Prop :=
 ∀(pos:Pos) (pins:CG) (s:SD) (σ:St) (H:Hp) (Q:List V->Hp->Prop),Inv X pins σ H s->t σ H Q->wpAny By X.A (spliced (backTo pos (starEach es X.env))) (AP X pins σ Q) X.xe s
def PS(X:Cx)(st:Stmt)(t:TS):Prop :=
 ∀(pins:CG) (s:SD) (σ:St) (H:Hp) (D:Ends),Inv X pins σ H s->t D σ H->wpAny By X.A (exec st X.env) (SP X pins D) X.xe s
def Ie(X:Cx)(st:tU)(t:TS):Prop :=
 ∀(pins:CG) (s:SD) (σ:St) (H:Hp) (D:Ends),Inv X pins σ H s->t D σ H->wpAny By X.A (execs st X.env) (SP X pins D) X.xe s
def A9{α:Type}{t:Sem α}{Q g:α->SD->Prop}{M:Model}{A:F0d}{E:tE}{s:SD}(h:wpAny M A t Q E s)(I:∀a s,Q a s->g a s):wpAny M A t g E s:=aY h I fun _ _ x=>x
section
variable{X:Cx}
def UQ(i:Nat):TE:=fun σ H Q=>∃v,σ[i]? = some (some v)/\Q v H
def tC(v:V):TE:=fun _ H Q=>Q v H
def cy{i:Nat}{x:Str}{pos:Pos}(Z:X.N[i]? = some x)(U:lD X.env.scope x)(hd:FS=false:=by decide)(R:(x==("__classdict__" : Str))=false:=by decide):PE X (.Name x pos) (UQ i):=by
 intro pins s σ H Q I h;obtain⟨v,e,h⟩:=h;obtain⟨m,hn,Y⟩:=I.loc;obtain⟨u,r,l⟩:=Y i x v Z e U;have fin:EP X pins σ Q u s:=⟨v,H,I,r,h⟩;rcases l with ⟨M,hm⟩|⟨M,c,T,g⟩
 .exact wpAny_Name (wpAny_loadName_local I.ok.kind M hn hm fin) hd
 .rcases M with M|M
  .exact wpAny_Name (wpAny_loadName_cell I.ok.kind M T g fin) hd
  .exact wpAny_Name (wpAny_loadName_free I.ok.kind M T g fin R) hd
def AU{i j pos}:PE X (.Constant (.int i) j pos) (tC (.int i)):=fun _ _ _ H _ I h=>wpAny_Constant_int ⟨.int i,H,I.tok _,⟨_,rfl⟩,h⟩
def Er{b j pos}:PE X (.Constant (.bool b) j pos) (tC (.bl b)):=fun _ _ _ H _ I h=>Constant_bool ⟨.bl b,H,I,rfl,h⟩
def mD{j pos}:PE X (.Constant .none j pos) (tC .Bf):=fun _ _ _ H _ I h=>Constant_none ⟨.Bf,H,I,rfl,h⟩
def nU{x j pos}:PE X (.Constant (.str x) j pos) (tC (.str x)):=fun _ _ _ H _ I h=>Calls.Constant_str ⟨.str x,H,I.tok _,⟨_,rfl⟩,h⟩
def Gl(X:Cx)(x:Str):Prop:=X.env.kindOf x=some .globalImplicit
def Ko{E:tE}{pins:CG}{s:SD}{σ:St}{H:Hp}{x:Str}{u:VL}{pos:Pos}{Q:tE}(I:At)(g:Gl X x)(hm:X.mg x=some u)(h:Q u s) (hd:FS=false:=by decide):wpAny By X.A (eval (.Name x pos) X.env) Q E s :=
 Calls.Name_function_global I.ok.kind g (Calls.loadGlobal_global (by rw[I.ok.glob];exact I.mod.glob.keeps I.bk) hm h) hd
def Ir{E:tE}{pins:CG}{s:SD}{σ:St}{H:Hp}{x:Str}{u:VL}{pos:Pos}{Q:tE}(I:At)(M:Gl X x)(hm:X.mg x=none)(g:bootBuiltins x=some u)(h:Q u s) (hn:x ≠ "__name__":=by decide)(hd:FS=false:=by decide):wpAny By X.A (eval (.Name x pos) X.env) Q E s:=by
 obtain⟨mb,T,R⟩:=I.mod.blt;exact Calls.Name_function_global I.ok.kind M (Calls.loadGlobal_builtin (by rw[I.ok.glob];exact I.mod.glob.keeps I.bk) hm (by rw[I.ok.blt];exact T.keeps I.bk) ((R x hn).trans g) h) hd
def EK{x:Str}{v:V}{u:VL}{pos:Pos}(g:Gl X x)(hm:X.mg x=some u)(r:RelV v u)(hd:FS=false:=by decide):PE X (.Name x pos) (tC v) :=
 fun _ _ _ H _ I h=>Ko I g hm ⟨v,H,I,r,h⟩ hd
def Fw{x:Str}{v:V}{u:VL}{pos:Pos}(M:Gl X x)(hm:X.mg x=none)(g:bootBuiltins x=some u)(r:RelV v u)(hn:x ≠ "__name__":=by decide)(hd:FS=false:=by decide):PE X (.Name x pos) (tC v) :=
 fun _ _ _ H _ I h=>Ir I M hm g ⟨v,H,I,r,h⟩ hn hd
variable{a b:Expr}{ta tb:TE}{pos:Pos}
def tB(t:TE):TT:=fun σ H Q=>t σ H fun x g=>∃c,x=.bl c/\Q c g
def ER{e : Expr}{t : TE}(h : PE X e t)(he : ∀ whole,isTrue e X.env whole = (do let v <- whole; standAt e.pos; holding [v] (truthy v)):=by intro _; rfl):PT X e (tB t):=by
  intro pins s σ H Q I hw
  refine isTrue_plain (A9 (h pins s σ H _ I hw) fun v s1 ⟨x,H1,I1,r1,q1⟩ => ?_) (he _)
  obtain ⟨d,rfl,q⟩:=q1
  cases r1
  exact wpAny_truthy_bool ⟨H1,I1,q⟩
variable{tA tB':TT}{rest:tL}
def qg(t u:TT):TT:=fun σ H Q=>t σ H fun c g=>if c=true then u σ g Q else Q false g
def sO(t u:TT):TT:=fun σ H Q=>t σ H fun c g=>if c=true then Q true g else u σ g Q
def qt(t:TT):TT:=fun σ H Q=>t σ H fun c g=>Q (!c) g
def XU(ha:PT X a tA):PW X (.BoolOp .And [a] pos) tA:=by
 intro g pins s σ H Q I h;refine isTrue_and (A9 (ha pins s σ H Q I h) fun c s1 e=>?_);cases c with
 |true=>exact isTrue_and_nil e
 |false=>exact e
def Jd(ha:PT X a tA):PW X (.BoolOp .Or [a] pos) tA:=by
 intro g pins s σ H Q I h;refine isTrue_or (A9 (ha pins s σ H Q I h) fun c s1 e=>?_);cases c with
 |false=>exact isTrue_or_nil e
 |true=>exact e
def dM(ha:PT X a tA)(U:PW X (.BoolOp .And (b::rest) pos) tB'):PW X (.BoolOp .And (a::b::rest) pos) (qg tA tB'):=by
 intro T pins s σ H Q I h;refine isTrue_and (A9 (ha pins s σ H _ I h) fun c s1 ⟨R,M,g⟩=>?_);cases c with
 |true=>exact U T pins s1 σ R Q M g
 |false=>exact⟨R,M,g⟩
def KN(ha:PT X a tA)(U:PW X (.BoolOp .Or (b::rest) pos) tB'):PW X (.BoolOp .Or (a::b::rest) pos) (sO tA tB'):=by
 intro T pins s σ H Q I h;refine isTrue_or (A9 (ha pins s σ H _ I h) fun c s1 ⟨R,M,g⟩=>?_);cases c with
 |true=>exact⟨R,M,g⟩
 |false=>exact U T pins s1 σ R Q M g
def Ee(ha:PT X a tA):PT X (.UnaryOp .Not a pos) (qt tA):=by
 intro pins s σ H Q I h;exact isTrue_not (ha pins s σ H (fun c g=>Q (!c) g) I h)
def pF(ta tb:TE):TE:=fun σ H Q=>ta σ H fun x g=>∃c,x=.bl c/\if c=true then tb σ g Q else Q (.bl false) g
def ox(ta:TE):TE:=fun σ H Q=>ta σ H fun x g=>∃c,x=.bl c/\Q (.bl (!c)) g
def RV{op}{t:TE}(h:PE X a t):PE X (.BoolOp op [a] pos) t:=fun pins s σ H Q I g=>BoolOp_one (h pins s σ H Q I g)
def Qn(ha:PE X a ta)(U:PE X (.BoolOp .And (b::rest) pos) tb):PE X (.BoolOp .And (a::b::rest) pos) (pF ta tb):=by
 intro pins s σ H Q I h;refine BoolOp_and (A9 (ha pins s σ H _ I h) fun v s1 ⟨x,R,M,T,g⟩=>?_);obtain⟨c,rfl,g⟩:=g;cases T;refine wpAny_truthy_bool ?_;cases c with
 |true=>exact U pins s1 σ R Q M g
 |false=>exact⟨.bl false,R,M,rfl,g⟩
def nX(ha:PE X a ta):PE X (.UnaryOp .Not a pos) (ox ta):=by
 intro pins s σ H Q I h;refine UnaryOp_ (A9 (ha pins s σ H _ I h) fun v s1 ⟨x,T,R,M,g⟩=>?_);obtain⟨c,rfl,g⟩:=g;cases M;exact not_of (wpAny_truthy_bool ⟨.bl (!c),T,R,rfl,g⟩)
end
def Aj(K:Fg)(H:Hp)(a:AD)(xs:tR):Prop :=
 Rd H a (.lst xs) \/
  ∃(o:Obj) (g:Array VL) (n:Nat),K.lookup a=some o/\o.cls=.type "list" /\ o.dict=none/\o.data=.seq g n/\g.size<=sizeLine/\Vals xs g.toList
def Ax(K:Fg)(H:Hp)(a:AD)(xs:tR):Prop :=
 Rd H a (.tup xs) \/
  ∃(o:Obj) (g:Array VL) (n:Nat),K.lookup a=some o/\o.cls=.type "tuple" /\ o.data=.seq g n/\g.size<=sizeLine/\Vals xs g.toList
def qu:VL->Option V
 |.none=>some .Bf
 |.bool b=>some (.bl b)
 |.int i _=>some (.int i)
 |.str x _=>some (.str x)
 |.bytes b _=>some (.N1 b)
 |.float b _=>some (.YO b)
 |.ref a=>some (.ref a)
 |.type n=>some (.ty n)
 |_=>none
def RelV.abs{x:V}{u:VL}(r:RelV x u):qu u=some x:=by
 cases x with
 |Bf=>cases r;rfl
 |bl _=>cases r;rfl
 |int _=>obtain⟨t,rfl⟩:=r;rfl
 |str _=>obtain⟨t,rfl⟩:=r;rfl
 |N1 _=>obtain⟨t,rfl⟩:=r;rfl
 |YO _=>obtain⟨t,rfl⟩:=r;rfl
 |ref _=>cases r;rfl
 |ty _=>cases r;rfl
def RelV.inj{x y:V}{u:VL}(r:RelV x u)(q:RelV y u):x=y:=ak (r.abs.symm.trans q.abs)
theorem Vals.inj:∀ {xs ys:List V} {us:List VL},Vals xs us->Vals ys us->xs=ys
 |_,_,_,.nil,.nil=>rfl
 |_,_,_,.cons r t,.cons I g=>by rw[r.inj I,Vals.inj t g]
section
variable{X:Cx}{pins:CG}{σ:St}{H:Hp}{s:SD}{a:AD}{xs ys:tR}
def Aj.of{K:Fg}(h:H a=some (.lst xs)):Aj K H a xs:=.inl (.inl h)
def Ax.of{K:Fg}(h:H a=some (.tup xs)):Ax K H a xs:=.inl (.inl h)
def Inv.list(I:At)(h:Aj X.K H a xs):∃g:sy,Vals xs g/\PlainL s.heap a g.toArray/\xs.length<=sizeLine:=by
 rcases h with h|⟨o,g,n,R,T,hd,M,U,r⟩
 .obtain⟨z,g,n,r,e⟩:=h.ok I.Al;exact⟨g,r,⟨_,n,e,rfl,rfl,rfl⟩,z⟩
 .refine⟨g.toList,r,⟨o,n,I.Gs a o R,T,hd,by simpa using M⟩,?_⟩;have e:=r.length;simp only[Array.length_toList]at e
  lia
def Inv.tuple(I:At)(h:Ax X.K H a xs):∃g:sy,Vals xs g/\IsTup s.heap a g.toArray/\xs.length<=sizeLine:=by
 rcases h with h|⟨o,g,n,R,T,M,U,r⟩
 .obtain⟨z,g,r,p⟩:=h.ok I.Al;exact⟨g,r,p,z⟩
 .refine⟨g.toList,r,⟨o,I.Gs a o R,T,n,by simpa using M⟩,?_⟩;have e:=r.length;simp only[Array.length_toList]at e
  lia
def Inv.Vd(I:At)(h:Aj X.K H a xs)(h':Aj X.K H a ys):xs=ys:=by
 obtain⟨M,r,⟨o,n,e,_,_,d⟩,_⟩:=I.list h;obtain⟨g,U,⟨o',Z,R,_,_,T⟩,_⟩:=I.list h';rw[e]at R;cases R;rw[d]at T
 injection T with Y _
 have:M=g:=by simpa using ai Array.toList Y
 subst this;exact r.inj U
def Inv.TV(I:At)(h:Ax X.K H a xs)(h':Ax X.K H a ys):xs=ys:=by
 obtain⟨M,r,⟨o,e,_,n,d⟩,_⟩:=I.tuple h;obtain⟨g,U,⟨o',R,_,Z,T⟩,_⟩:=I.tuple h';rw[e]at R;cases R;rw[d]at T
 injection T with Y _
 have:M=g:=by simpa using ai Array.toList Y
 subst this;exact r.inj U
end
abbrev Cx.HY(X:Cx)(E:VL->SD->Prop):Cx:={X with xe:=E}
abbrev Cx.KJ(X:Cx):Cx:=X.HY fun _ _=>False
def Cx.Ok.HY{X:Cx}(ok:X.Ok)(E:tE):(X.HY E).Ok :=
 ⟨ok.mod,ok.kind,ok.glob,ok.blt,ok.above,ok.inj,ok.has,ok.Vq,ok.hd,ok.frames,ok.di,ok.kX,ok.bs,ok.RT,ok.SY,ok.R6,ok.Ib,ok.Qb,ok.kt⟩
def Cx.Ok.Ey{X:Cx}{E:tE}(ok:(X.HY E).Ok):X.Ok :=
 ⟨ok.mod,ok.kind,ok.glob,ok.blt,ok.above,ok.inj,ok.has,ok.Vq,ok.hd,ok.frames,ok.di,ok.kX,ok.bs,ok.RT,ok.SY,ok.R6,ok.Ib,ok.Qb,ok.kt⟩
section
variable{X:Cx}{pins:CG}{σ:St}{H:Hp}{s:SD}{E:tE}
def Inv.HY(I:At)(E:tE):Inv (X.HY E) pins σ H s:=⟨I.ok.HY E,I.os,I.bare,I.base,I.loc,I.cell,I.free,I.F9,I.pin,I.Al,I.len⟩
def Inv.Ey(I:Inv (X.HY E) pins σ H s):Inv X pins σ H s:=⟨I.ok.Ey,I.os,I.bare,I.base,I.loc,I.cell,I.free,I.F9,I.pin,I.Al,I.len⟩
def SP.Ey{D:Ends}{f:Flow}{s':SD}(h:SP (X.HY E) pins D f s'):SP X pins D f s':=by
 cases f with
 |next=>obtain⟨g,H',I,q⟩:=h;exact⟨g,H',I.Ey,q⟩
 |brk=>obtain⟨g,H',I,q⟩:=h;exact⟨g,H',I.Ey,q⟩
 |cont=>obtain⟨g,H',I,q⟩:=h;exact⟨g,H',I.Ey,q⟩
 |ret u=>obtain⟨v,g,H',I,r,q⟩:=h;exact⟨v,g,H',I.Ey,r,q⟩
def Ie.KJ{st:tU}{t:TS}(h:Ie X.KJ st t):Ie X st t:=fun pins s σ H D I g=>
 aY (h pins s σ H D (I.HY _) g) (fun _ _ q=>q.Ey) fun _ _ z=>False.elim z
end
section
variable{X:Cx}{st:Stmt}{rest:tU}{t u:TS}{e:Expr}{te:TE}{pos:Pos}
def oi:TS:=fun D σ H=>D.nx σ H
def nY(t u:TS):TS:=fun D σ H=>t {D with nx:=u D} σ H
def BX:Ie X [] oi:=fun _ _ σ H _ I h=>wpAny_execs_nil ⟨σ,H,I,h⟩
def AM(h1:PS X st t)(M:Ie X rest u):Ie X (st::rest) (nY t u):=by
 intro pins s σ H D I h;refine wpAny_execs_cons (A9 (h1 pins s σ H {D with nx:=u D} I h) fun f s1 q=>?_);cases f with
 |next=>
  obtain⟨g,H',R,q⟩:=q;exact M pins s1 g H' D R q
 |ret v=>exact q
 |brk=>exact q
 |cont=>exact q
def AR(h1:PS X st t):Ie X [st] t:=by
 intro pins s σ H D I h;refine wpAny_execs_cons (A9 (h1 pins s σ H D I h) fun f s1 q=>?_);cases f with
 |next=>exact wpAny_execs_nil q
 |ret v=>exact q
 |brk=>exact q
 |cont=>exact q
def pP:TS:=fun D σ H=>D.ct σ H
def XC:PS X (.Continue pos) pP:=fun _ _ σ H _ I h=>wpAny_Continue ⟨σ,H,I,h⟩
def Inv.quiet{pins:CG}{σ:St}{H:Hp}{s:SD}(I:At):interactive X.env=false:=by simp[interactive,I.ok.kind]
def UK(te:TE):TS:=fun D σ H=>te σ H fun _ g=>D.nx σ g
def EG(R:PE X e te)(M:swapsWith e none pos.line X.env=pure false:=by rfl):PS X (.Expr e pos) (UK te):=by
 intro pins s σ H D I h;exact wpAny_Expr_any (A9 (R pins s σ H _ I h) fun v s1 ⟨x,U,T,Y,g⟩=>⟨σ,U,T,g⟩) I.quiet M
def rg(te:TE):TS:=fun D σ H=>te σ H D.rt
def Aw(R:PE X e te):PS X (.Return (some e) pos) (rg te):=by
 intro pins s σ H D I h;exact wpAny_Return_some (A9 (R pins s σ H _ I h) fun v s1 ⟨x,U,T,g,M⟩=>⟨x,σ,U,T,g,M⟩)
def rP(c:TT)(t u:TS):TS:=fun D σ H=>c σ H fun b g=>if b=true then t D σ g else u D σ g
def CO{c:Expr}{a b:tU}{g:TT}(U:PT X c g)(ha:Ie X a t)(Y:Ie X b u):PS X (.If c a b pos) (rP g t u):=by
 intro pins s σ H D I h;refine wpAny_If (A9 (U pins s σ H _ I h) fun d s1 ⟨T,R,M⟩=>?_);cases d with
 |true=>exact ha pins s1 σ T D R M
 |false=>exact Y pins s1 σ T D R M
def lF:TS:=fun _ _ _=>False
def ei:PS X st lF:=fun _ _ _ _ _ _ h=>h.elim
end
abbrev TG:=V->St->Hp->(St->Hp->Prop)->Prop
abbrev U1:=List V->St->Hp->(St->Hp->Prop)->Prop
def PG(X:Cx)(target:Expr)(t:TG):Prop :=
 ∀(pins:CG) (s:SD) (σ:St) (H:Hp) (v:V) (u:VL) (Q:St->Hp->Prop),Inv X pins σ H s->RelV v u->t v σ H Q ->
  wpAny By X.A (assign target X.env u) (fun _ s'=>∃g H',Inv X pins g H' s'/\Q g H') X.xe s
def iU(X:Cx)(ts:tL)(t:U1):Prop :=
 ∀(pins:CG) (s:SD) (σ:St) (H:Hp) (vs:List V) (us:List VL) (Q:St->Hp->Prop),Inv X pins σ H s->Vals vs us->t vs σ H Q ->
  wpAny By X.A (assignInOrder ((assignEach ts X.env).map (·.2)) us) (fun _ s'=>∃g H',Inv X pins g H' s'/\Q g H') X.xe s
abbrev ZH:=V->V->V->Hp->(Hp->Prop)->Prop
def gN(X:Cx)(t:ZH):Prop :=
 ∀(pins:CG) (s:SD) (σ:St) (H:Hp) (o i v:V) (g I u:VL) (Q:Hp->Prop),Inv X pins σ H s->RelV o g->RelV i I->RelV v u->t o i v H Q ->
  wpAny By X.A (setItem g I u) (fun _ s'=>∃H',Inv X pins σ H' s'/\Q H') X.xe s
section
variable{X:Cx}{pos:Pos}
def Ea(i:Nat):TG:=fun v σ H Q=>Q (σ.set i (some v)) H
def Az{i:Nat}{x:Str}(R:X.N.Nodup)(hi:X.N[i]? = some x)(g:Loc X.env.scope x)(M:X.fn x=true\/X.env.scope.names.lookup x=some .local:=by first|exact .inl rfl|exact .inr rfl|assumption):PG X (.Name x pos) (Ea i):=by
 intro pins s σ H v u Q I r h;exact wpAny_assign_Name (LA I R hi g r (fun s' T=>⟨_,H,T,h⟩) M)
def eh:U1:=fun vs σ H Q=>vs=[]/\Q σ H
def Qk(t:TG)(u:U1):U1:=fun vs σ H Q=>∃v r,vs=v::r/\t v σ H fun g H'=>u r g H' Q
def EN:iU X [] eh:=by
 intro pins s σ H vs us Q I r h;obtain⟨e,h⟩:=h;subst e;cases r;exact assignInOrder_nil ⟨σ,H,I,h⟩
def BN{e:Expr}{es:tL}{t:TG}{u:U1}(h1:PG X e t)(U:iU X es u) (T:(assignEach (e::es) X.env).map (·.2)=assign e X.env::(assignEach es X.env).map (·.2):=by rfl):iU X (e::es) (Qk t u):=by
 intro pins s σ H vs us Q I r h;obtain⟨v,vr,Y,h⟩:=h;subst Y;cases r with
 |cons r M=>
  rw[T];refine assignInOrder_cons (A9 (h1 pins s σ H _ _ _ I r h) fun _ s1 ⟨g,H1,Z,R⟩=>?_);exact U pins s1 g H1 _ _ Q Z M R
def fD(K:Fg)(n:Nat)(t:U1):TG:=fun v σ H Q=>∃a xs,v=.ref a/\Ax K H a xs/\xs.length=n/\t xs σ H Q
def Fj{es:tL}{k:Nat}{t:U1}{n:Nat}(hc:X.calm=true)(h:iU X es t) (hn:(assignEach es X.env).length=n:=by rfl)(M:(assignEach es X.env).findIdx? (·.1)=none:=by rfl):PG X (.Tuple es k pos) (fD X.K n t):=by
 intro pins s σ H v u Q I r g;obtain⟨a,xs,e1,Z,hl,g⟩:=g;subst e1;cases r;obtain⟨T,R,Y,hz⟩:=I.tuple Z;refine assign_Tuple_tuple (I.ok.hd hc) Y (by simp[hn,<-hl,R.length]) M fun h' U=>?_;have I1:Inv X pins σ H {s with heap:=h'}:=I.kept (t':=s.toks) fun b o e=>U b o (aM (aE e)) e;exact h pins _ σ H xs _ Q I1 (by simpa using R) g
def qo(g I:TE)(t:ZH):TG:=fun v σ H Q=>g σ H fun o T=>I σ T fun i R=>t o i v R fun M=>Q σ M
def Wh{o i:Expr}{to ti:TE}{t:ZH}(ho:PE X o to)(hi:PE X i ti)(hs:gN X t)
 (ha:∀v,assign (.Subscript o i pos) X.env v=(do
      let ov <-holding [v] (eval o X.env)
      let iv <-holding [v,ov] (eval i X.env)
      standAt pos
      holding [v,ov,iv] (setItem ov iv v)
      release [v,ov,iv] []):=by intro _;rfl):PG X (.Subscript o i pos) (qo to ti t):=by
  intro pins s σ H v u Q I r h
  rw[ha]
  refine Wb (ae (A9 (ho pins s σ H _ I h) fun ov s1 ⟨x,H1,I1,r1,q1⟩=>?_))
  refine Wb (ae (A9 (hi pins s1 σ H1 _ I1 q1) fun iv s2 ⟨y,H2,I2,r2,q2⟩=>?_))
  refine Wb (wpAny_standAt (Wb (ae (A9 (hs pins s2 σ H2 x y v ov iv u _ I2 r1 r2 r q2) fun _ s3 ⟨H3,I3,q3⟩=>?_))))
  exact wpAny_release ⟨σ,H3,I3,q3⟩
def WS(I:TE)(g:TG):TS:=fun D σ H=>I σ H fun x M=>g x σ M D.nx
def VU{tg e:Expr}{M:TE}{g:TG}(he:PE X e M)(Z:PG X tg g)(Y:swapsWithSole [tg] e pos.line X.env=pure false:=by rfl)(U:swappedStores [tg] e X.env=pure none:=by rfl) (h1:(assignEach [tg] X.env).map (·.2)=[assign tg X.env]:=by rfl):PS X (.Assign [tg] e pos) (WS M g):=by
 intro pins s σ H D I h;refine wpAny_Assign_stores (A9 (he pins s σ H _ I h) fun v s1 ⟨x,H1,I1,R,T⟩=>?_) Y U;rw[h1];exact A9 (Z pins s1 σ H1 x v _ I1 R T) fun _ s2 q=>q
def Ai{i:Nat}{x:Str}{e:Expr}{M:TE}{g:Pos}(hN:X.N.Nodup)(hi:X.N[i]? = some x)(U:Loc X.env.scope x)(he:PE X e M)(Y:swapsWith e (some (.Name x g)) pos.line X.env=pure false:=by rfl)(Z:X.fn x=true\/X.env.scope.names.lookup x=some .local:=by first|exact .inl rfl|exact .inr rfl|assumption):PS X (.Assign [.Name x g] e pos) (WS M (Ea i)):=by
 intro pins s σ H D I h;refine wpAny_Assign_Name (A9 (he pins s σ H _ I h) fun v s1 ⟨y,H1,I1,R,T⟩=>?_) Y;exact LA I1 hN hi U R (fun s2 I2=>⟨_,H1,I2,T⟩) Z
def sC(i j:Nat)(ta:TA):TS:=fun D σ H=>ta σ H fun vs g=>∃v w,vs=[v,w]/\D.nx ((σ.set i (some v)).set j (some w)) g
def mZ{i j:Nat}{x y:Str}{a b:Expr}{ta:TA}{Z Y pt:Pos}{kt k2 M}(hc:X.calm=true)(hN:X.N.Nodup)(hi:X.N[i]? = some x)(hj:X.N[j]? = some y)(hij:i≠j) (hx:X.env.scope.names.lookup x=some .local)(hy:X.env.scope.names.lookup y=some .local)(ha:PA X [a,b] ta) (hw:swappedStores [.Tuple [.Name x Z,.Name y Y] kt pt] (.Tuple [a,b] k2 M) X.env=pure (some [x,y])) (hs:swapsWithSole [.Tuple [.Name x Z,.Name y Y] kt pt] (.Tuple [a,b] k2 M) pos.line X.env=pure false:=by rfl):PS X (.Assign [.Tuple [.Name x Z,.Name y Y] kt pt] (.Tuple [a,b] k2 M) pos) (sC i j ta):=by
 intro pins s σ H D I h;rw[exec_Assign_arm];refine Wb (wpAny_standAt ?_);rw[hs];refine Wb (aA ?_);rw[if_neg AS];refine Wb (Tuple_ (A9 (ha _ pins s σ H _ I h) fun us s1 ⟨vs,H1,I1,r1,U⟩=>?_));obtain⟨v,w,e1,U⟩:=U;subst e1;obtain⟨u1,R,rfl,rv,T⟩:∃u1 R,us=[u1,R]/\RelV v u1/\RelV w R:=by
  cases r1 with
  |cons p q=>
   cases q with
   |cons p' q'=>
    cases q';exact⟨_,_,rfl,p,p'⟩
 refine aZ ?_ (by show 2<=sizeLine;decide);have I2:Inv X pins σ H1 {s1 with heap:=s1.heap.push { cls:=.type "tuple",data:=.seq [u1,R].toArray} }:=I1.kept (t':=s1.toks) fun b o e=>aF _ e;rw[hw];refine Wb (aA ?_);show wpAny By X.A (do rule "assign.swapped-stores"; let g <-unpackItems (.ref s1.heap.objs.size) 2 none;assignInOrder [fun v=>bindName X.env y v,fun v=>bindName X.env x v] g.reverse;pure Flow.next) _ _ _;refine Wb (bO (Wb (unpackItems_tuple (items:=#[u1,R]) (I.ok.hd hc) (IsTup.new s1.heap _) fun h' hx'=>?_)));have I3:=I2.kept (h':=h') (t':=s1.toks) fun b o e=>hx' b o (aM (aE e)) e;show wpAny _ _ (assignInOrder [fun v=>bindName X.env y v,fun v=>bindName X.env x v] [R,u1]>>=fun _=>pure Flow.next) _ _ _;refine Wb (assignInOrder_cons (wpAny_bindName (LA I3 hN hj (.inl hy) T (fun s2 I4=>?_) (.inr hy))));refine assignInOrder_cons (wpAny_bindName (LA I4 hN hi (.inl hx) rv (fun s3 I5=>assignInOrder_nil (aA ?_)) (.inr hx)));rw[List.set_comm _ _ (Ne.symm hij)]at I5;exact⟨_,H1,I5,U⟩
end
section
variable{X:Cx}{pos:Pos}
def Zq(c:TT)(tb:TS):TS:=fun D σ H=>∃W:Nat->St->Hp->Prop,(∃m,W m σ H)/\∀m σ H,W m σ H ->
 c σ H fun b M=>if b=true then ∃N:St->Hp->Prop,(∀g H',N g H'->∃I,I<m/\W I g H')/\tb {D with nx:=N,ct:=N,bk:=D.nx} σ M else D.nx σ M
def Po{c:Expr}{R:tU}{tc:TT}{tb:TS}(hp:PassesOwn By X.A X.env X.xe)(hc:PT X c tc)(hb:Ie X R tb):PS X (.While c R [] pos) (Zq tc tb):=by
 intro pins s σ H D I h;obtain⟨W,⟨m0,w0⟩,turn⟩:=h;refine wpAny_While (codeAny_whileLoop (fun n s'=>∃T H',Inv X pins T H' s'/\W n T H') ?_ m0 ⟨σ,H,I,w0⟩);rintro n s1 ⟨M,H1,I1,w1⟩;refine wpAny_passesOwn hp (A9 (hc pins s1 M H1 _ I1 (turn n M H1 w1)) fun b s2 ⟨H2,I2,Z⟩=>?_);cases b with
 |true=>
  obtain⟨N,hN,Z⟩:=Z;rw[if_pos rfl];refine wpAny_passesOwn hp (A9 (hb pins s2 M H2 _ I2 Z) fun f s3 Y=>?_);cases f with
  |next=>
   obtain⟨g,U,I3,n3⟩:=Y;obtain⟨m',hm,w3⟩:=hN g U n3;exact⟨m',hm,g,U,I3,w3⟩
  |cont=>
   obtain⟨g,U,I3,n3⟩:=Y;obtain⟨m',hm,w3⟩:=hN g U n3;exact⟨m',hm,g,U,I3,w3⟩
  |brk=>exact Y
  |ret v=>exact Y
 |false=>
  rw[if_neg aJ];exact wpAny_execs_nil ⟨M,H2,I2,Z⟩
end
structure It where
 go:Nat->Hp->Prop
 EU:Nat->Hp->V->Hp->Prop
 stop:Nat->Hp->Prop
def Jn(X:Cx)(pins:CG)(H:Hp)(b:AD):Prop :=
 H b=none/\b≠X.env.locals/\b ∉ X.fs/\(b∈X.ex\/X.s₀.heap.objs.size<=b)/\(∀x c,X.env.cells.lookup x=some c->c≠b)/\∀p∈X.pn++pins,p.1≠b
def Inv.Rp{X:Cx}{pins:CG}{σ:St}{H H':Hp}{s:SD}{b:AD}(I:At)(g:s.heap.objs.size<=b)(hn:H' b=none):Jn X pins H' b:=by
 refine⟨hn,Nat.ne_of_gt (aH I.lt g),I.qi g,.inr (aT I.sz g),fun x c e z=>?_,fun p M z=>?_⟩
 .obtain⟨v,q⟩:=I.cell x c e;exact absurd (aH q.lt (by rw[z];exact g)) (Nat.lt_irrefl _)
 .exact absurd (aH (aE (I.pin p M).1) (by rw[z];exact g)) (Nat.lt_irrefl _)
structure Turn(P:Program)(w:World)(K:Fg)(tg:Expr)(J:It)(fp:List Addr)(it:Addr)(tn:Nat->Heap->Prop):Prop where
 mem:it∈fp
 obj:∀i h,tn i h->∀b∈fp,∃o,h.get? b=some o/\∀v,o.data≠.cell v
 keep:∀i h h',tn i h->(∀b∈fp,∀o,h.get? b=some o->h'.get? b=some o)->tn i h'
 item:∀(X:Cx),X.prog=P->X.w=w->X.K=K->X.calm=true->∀(i:Nat) (pins:List (Addr×Obj)) (s:Shared) (σ:St) (H:Hp) (E:Value->Shared->Prop),Inv X pins σ H s->(∀b∈fp,Jn X pins H b)->tn i s.heap->J.go i H ->
  wpAny (model P w) X.A (pyNext (.ref it)) (fun r s1=>∃u,r=some u /\
   wpAny (model P w) X.A (letOwnedTupleGo tg (.ref it) u) (fun _ s2=>∃x H',Inv X pins σ H' s2/\RelV x u/\J.EU i H x H'/\tn (i+1) s2.heap/\∀b∈fp,H' b=none) E s1) E s
 done:∀(X:Cx),X.prog=P->X.w=w->X.K=K->X.calm=true->∀(i:Nat) (pins:List (Addr×Obj)) (s:Shared) (σ:St) (H:Hp) (E:Value->Shared->Prop),Inv X pins σ H s->(∀b∈fp,Jn X pins H b)->tn i s.heap->J.stop i H ->
  wpAny (model P w) X.A (pyNext (.ref it)) (fun r s1=>r=none/\Inv X pins σ H s1) E s
 self:∀(A:Around) (i:Nat) (s:Shared) (Q:Value->Shared->Prop) (E:Value->Shared->Prop),tn i s.heap->Q (.ref it) s->wpAny (model P w) A (pyIter (.ref it)) Q E s
abbrev TI:=St->Hp->(It->Hp->Prop)->Prop
def qF(X:Cx)(pins:CG)(σ:St)(tg:Expr)(R:It->Hp->Prop)(g:VL)(s2:SD):Prop :=
 ∃(it:AD) (fp:List AD) (tn:Nat->Heap->Prop) (J:It) (H':Hp),g=.ref it/\Inv X pins σ H' s2/\Turn X.prog X.w X.K tg J fp it tn/\tn 0 s2.heap/\(∀b∈fp,Jn X pins H' b)/\R J H'
def PI(X:Cx)(tg iter:Expr)(g:TI):Prop :=
 ∀(pins:CG) (s:SD) (σ:St) (H:Hp) (R:It->Hp->Prop),Inv X pins σ H s->g σ H R ->
  wpAny By X.A (eval iter X.env) (fun v s1=>wpAny By X.A (pyIter v) (qF X pins σ tg R) X.xe s1) X.xe s
def Y0{M:Model}{A:F0d}{E:tE}{s:SD}{tg:Expr}{it:AD}{u:VL}{o:Obj}{n:String}{vs:Array VL}{Q:Unit->SD->Prop}(I:s.heap.get? it=some o)(R:o.cls=.type n)(hd:o.data=.fields vs) (hn:["enumerate","zip","dict_itemiterator","dict_reverseitemiterator","odict_iterator","itertools.zip_longest","itertools.pairwise"].contains n=false)(g:Q () s):wpAny M A (letOwnedTupleGo tg (.ref it) u) Q E s:=by
 unfold letOwnedTupleGo;cases tg<;>first
  |exact aA g
  |(cases u<;>first
    |exact aA g
    |(refine Wb (wpAny_load I ?_)
      rw[R,hd];show wpAny M A (if(["enumerate","zip","dict_itemiterator","dict_reverseitemiterator","odict_iterator","itertools.zip_longest","itertools.pairwise"].contains n&&vs[0]? == some (rawInt _))=true then _ else _) Q E s;rw[if_neg (by intro h;rw[hn,(LH)]at h;cases h)];exact aA g))
def YN(K:Fg)(a:AD):It :=
 ⟨fun i H=>∃xs x,Aj K H a xs/\xs[i]? = some x,fun i H x H'=>H'=H/\∀xs,Aj K H a xs->xs[i]? = some x,fun i H=>∃xs,Aj K H a xs/\xs.length<=i⟩
def Xb(K:Fg)(a:AD):It :=
 ⟨fun i H=>∃xs x,Ax K H a xs/\xs[i]? = some x,fun i H x H'=>H'=H/\∀xs,Ax K H a xs->xs[i]? = some x,fun i H=>∃xs,Ax K H a xs/\xs.length<=i⟩
def V2(lo:Int)(n:Nat):It:=⟨fun i _=>i<n,fun i H x H'=>H'=H/\x=.int (lo+i),fun i _=>n<=i⟩
def eD{P:F0b}{w:F0c}{K:Fg}{tg:Expr}(a it:AD):Turn P w K tg (YN K a) [it] it (fun i h=>h.IsListIter it a i) where
 mem:=by simp
 obj:=fun i h st b hb=>by
  have e:b=it:=by simpa using hb
  subst e;obtain⟨o,e,c,d⟩:=st;exact⟨o,e,fun v z=>by rw[d]at z;cases z⟩
 keep:=fun i h h' st k=>st.at fun o e=>k it BY o e
 item:=by
  intro X hP hw hK hc i pins s σ H E I hf st hg;subst hP hw hK;obtain⟨xs,x,hq,hx⟩:=hg;obtain⟨its,rv,p,hz⟩:=I.list hq;obtain⟨u,hu,ru⟩:=rv.get hx;obtain⟨f0,f1,f2,f3,f4,f5⟩:=hf it BY;refine wpAny_pyNext_list_item st p.isList (x:=u) (by simpa using hu) fun h' st' sb=>?_;have I1:Inv X pins σ H {s with heap:=h'}:=I.turned (t':=s.toks) (fun b o hb e=>(sb.2 b hb).trans e) f0 f1 f3 f4 f5;obtain⟨o,e,c,d⟩:=id st';exact⟨u,rfl,Y0 (s:={s with heap:=h'}) e c d AS ⟨x,H,I1,ru,⟨rfl,fun ys hy=>by rw[I.Vd hy hq];exact hx⟩,st',fun b hb=>(hf b hb).1⟩⟩
 done:=by
  intro X hP hw hK hc i pins s σ H E I hf st hg;subst hP hw hK;obtain⟨xs,hq,hx⟩:=hg;obtain⟨its,rv,p,hz⟩:=I.list hq;obtain⟨f0,f1,f2,f3,f4,f5⟩:=hf it BY;have hl:=rv.length;exact wpAny_pyNext_list_end (I.ok.hd hc) st p.isList (by simp;lia) fun h' eb=>⟨rfl,I.turned (t':=s.toks) (fun b o hb e=>eb b o hb e) f0 f1 f3 f4 f5⟩
 self:=fun _ _ _ _ _ st h=>wpAny_pyIter_listiter st h
def Yd{P:F0b}{w:F0c}{K:Fg}{tg:Expr}(a it:AD):Turn P w K tg (Xb K a) [it] it (fun i h=>h.IsTupleIter it a i) where
 mem:=by simp
 obj:=fun i h st b hb=>by
  have e:b=it:=by simpa using hb
  subst e;obtain⟨o,e,c,d⟩:=st;exact⟨o,e,fun v z=>by rw[d]at z;cases z⟩
 keep:=fun i h h' st k=>st.at fun o e=>k it BY o e
 item:=by
  intro X hP hw hK hc i pins s σ H E I hf st hg;subst hP hw hK;obtain⟨xs,x,hq,hx⟩:=hg;obtain⟨its,rv,p,hz⟩:=I.tuple hq;obtain⟨u,hu,ru⟩:=rv.get hx;obtain⟨f0,f1,f2,f3,f4,f5⟩:=hf it BY;refine wpAny_pyNext_tuple_item st (show s.heap.IsTuple a its.toArray from p) (x:=u) (by simpa using hu) fun h' st' sb=>?_;have I1:Inv X pins σ H {s with heap:=h'}:=I.turned (t':=s.toks) (fun b o hb e=>(sb.2 b hb).trans e) f0 f1 f3 f4 f5;obtain⟨o,e,c,d⟩:=id st';exact⟨u,rfl,Y0 (s:={s with heap:=h'}) e c d AS ⟨x,H,I1,ru,⟨rfl,fun ys hy=>by rw[I.TV hy hq];exact hx⟩,st',fun b hb=>(hf b hb).1⟩⟩
 done:=by
  intro X hP hw hK hc i pins s σ H E I hf st hg;subst hP hw hK;obtain⟨xs,hq,hx⟩:=hg;obtain⟨its,rv,p,hz⟩:=I.tuple hq;obtain⟨f0,f1,f2,f3,f4,f5⟩:=hf it BY;have hl:=rv.length;exact wpAny_pyNext_tuple_end (I.ok.hd hc) st (show s.heap.IsTuple a its.toArray from p) (by simp;lia) fun h' eb=>⟨rfl,I.turned (t':=s.toks) (fun b o hb e=>eb b o hb e) f0 f1 f3 f4 f5⟩
 self:=fun _ _ _ _ _ st h=>wpAny_pyIter_tupleiter st h
def Yc{P:F0b}{w:F0c}{K:Fg}{tg:Expr}(it:AD)(lo:Int)(n:Nat):Turn P w K tg (V2 lo n) [it] it (fun i h=>IsRangeIter h it (lo+(i:Nat)*1) ((n:Int)-(i:Nat)) 1) where
 mem:=by simp
 obj:=fun i h st b hb=>by
  have e:b=it:=by simpa using hb
  subst e;exact⟨_,st,fun v z=>by
   have z':Data.fields _=Data.cell v:=z;cases z'⟩
 keep:=fun i h h' st k=>k it BY _ st
 item:=by
  intro X hP hw hK hc i pins s σ H E I hf st hg;subst hP hw hK;obtain⟨f0,f1,f2,f3,f4,f5⟩:=hf it BY;have W:=Walks.range (prog:=X.prog) (w:=X.w) (I.ok.hd hc) it lo 1 n;refine W.item i s _ _ hg st fun v h' tk hv st' kk=>?_;obtain⟨t,rfl⟩:=hv;have I1:Inv X pins σ H {s with heap:=h',toks:=tk}:=I.turned (fun b o hb e=>kk b o (by simpa using hb) e) f0 f1 f3 f4 f5;refine⟨_,rfl,Y0 (s:={s with heap:=h',toks:=tk}) (n := "range_iterator") st' rfl rfl AS ⟨.int (lo+i),H,I1,⟨t,?_⟩,⟨rfl,rfl⟩,st',fun b hb=>(hf b hb).1⟩⟩;rw[Int.mul_one]
 done:=by
  intro X hP hw hK hc i pins s σ H E I hf st hg;subst hP hw hK;obtain⟨f0,f1,f2,f3,f4,f5⟩:=hf it BY;exact wpAny_pyNext_range_end (I.ok.hd hc) st (by have:n<=i:=hg;lia) fun h' eb=>⟨rfl,I.turned (t':=s.toks) (fun b o hb e=>eb b o hb e) f0 f1 f3 f4 f5⟩
 self:=fun _ _ _ _ _ st h=>wpAny_pyIter_rangeiter st h
section
variable{X:Cx}{tg:Expr}
def pI(K:Fg)(I:TE):TI:=fun σ H R=>I σ H fun x g=>∃a,x=.ref a/\(∃xs,Aj K g a xs)/\R (YN K a) g
def rh(K:Fg)(I:TE):TI:=fun σ H R=>I σ H fun x g=>∃a,x=.ref a/\(∃xs,Ax K g a xs)/\R (Xb K a) g
def B4{l:Expr}{M:TE}(hl:PE X l M):PI X tg l (pI X.K M):=by
 intro pins s σ H R I h;refine A9 (hl pins s σ H _ I h) fun v s1 ⟨x,H1,g,T,U⟩=>?_;obtain⟨a,e,⟨xs,Z⟩,q⟩:=U;subst e;cases T;obtain⟨Y,rv,p,hz⟩:=g.list Z;refine wpAny_pyIter_list p.isList ?_;refine⟨s1.heap.objs.size,[s1.heap.objs.size],_,_,H1,rfl,g.kept (t':=s1.toks) fun b o e=>aF _ e,eD a _,⟨_,Heap.get?_push_size _ rfl,rfl,rfl⟩,fun b hb=>?_,q⟩;have e:b=s1.heap.objs.size:=by simpa using hb
 subst e;exact g.Rp (aG _) (g.Al.fresh (aG _))
def Vh{l:Expr}{T:TE}(hl:PE X l T):PI X tg l (rh X.K T):=by
 intro pins s σ H R I h;refine A9 (hl pins s σ H _ I h) fun v s1 ⟨x,H1,g,U,Y⟩=>?_;obtain⟨a,e,⟨xs,Z⟩,q⟩:=Y;subst e;cases U;obtain⟨M,rv,p,hz⟩:=g.tuple Z;refine wpAny_pyIter_tuple (show s1.heap.IsTuple a M.toArray from p) ?_;refine⟨s1.heap.objs.size,[s1.heap.objs.size],_,_,H1,rfl,g.kept (t':=s1.toks) fun b o e=>aF _ e,Yd a _,⟨_,Heap.get?_push_size _ rfl,rfl,rfl⟩,fun b hb=>?_,q⟩;have e:b=s1.heap.objs.size:=by simpa using hb
 subst e;exact g.Rp (aG _) (g.Al.fresh (aG _))
def eo{pins:CG}{σ:St}{H:Hp}{s:SD}{R:It->Hp->Prop}{E:tE}{lo hi:Int}{t u v:Tok}{tk:Nat}(I:At)(h1:-(2^62)<=lo)(Y:lo<2^62)(U:-(2^62)<=hi)(T:hi<2^62) (q:R (V2 lo (hi-lo).toNat) H):wpAny By X.A (pyIter (.ref s.heap.objs.size)) (qF X pins σ tg R) E {s with heap:=s.heap.push { cls:=.type "range",data:=.fields #[.int lo t,.int hi u,.int 1 v]},toks:=tk}:=by
 refine wpAny_pyIter_range (IsRange.new ..) (small_one h1 Y U T) ?_;have g:Inv X pins σ H {s with heap:=s.heap.push { cls:=.type "range",data:=.fields #[.int lo t,.int hi u,.int 1 v]},toks:=tk}:=I.kept fun b o e=>aF _ e;refine⟨(s.heap.push { cls:=.type "range",data:=.fields #[.int lo t,.int hi u,.int 1 v]}).objs.size,[(s.heap.push { cls:=.type "range",data:=.fields #[.int lo t,.int hi u,.int 1 v]}).objs.size],_,_,H,rfl,
  g.kept (t':=tk) fun b o e=>aF _ e,Yc _ lo (hi-lo).toNat,?_,fun b M=>?_,q⟩
 .have e1:lo+((0:Nat):Int)*1=lo:=by simp
  have Z:(((hi-lo).toNat:Nat):Int)-((0:Nat):Int)=Builtin.Range.rangeSize lo hi 1:=by rw[rangeSize_one];split<;>lia
  show IsRangeIter _ _ (lo+((0:Nat):Int)*1) ((((hi-lo).toNat:Nat):Int)-((0:Nat):Int)) 1;rw[e1,Z];exact aU _ rfl
 .have e:b=(s.heap.push { cls:=.type "range",data:=.fields #[.int lo t,.int hi u,.int 1 v]}).objs.size:=by simpa using M
  subst e;exact g.Rp (aG _) (g.Al.fresh (aG _))
def pO(ta:TA):TI:=fun σ H R=>ta σ H fun vs g=>∃j:Int,vs=[.int j]/\-(2^62)<=j/\j<2^62/\R (V2 0 j.toNat) g
def Hj{a:Expr}{ta:TA}{p pos:Pos}(Z:Gl X "range")(hm:X.mg "range" = none)(ha:PA X [a] ta)(Y:starEach [a] X.env=[(false,eval a X.env)]:=by rfl):PI X tg (.Call (.Name "range" p) [a] [] pos) (pO ta):=by
 intro pins s σ H R I h;refine Call_ (Ir I Z hm boot_range (bS (A9 (ha pos pins s σ H _ I h) fun us s1 ⟨vs,H1,I1,T,g⟩=>?_) Y rfl));obtain⟨j,e,g,U,q⟩:=g;subst e;cases T with
 |cons r M=>
  cases M;obtain⟨t,rfl⟩:=r;exact call_range_1 (eo I1 AC AC g U (by simpa using q))
def qy(T:TI)(g:TG)(tb:TS):TS:=fun D σ H=>T σ H fun J Y=>∃W:Nat->Nat->St->Hp->Prop,(∃m,W 0 m σ Y)/\∀i m σ H,W i m σ H ->
 (J.stop i H/\D.nx σ H)\/(J.go i H/\∃N:St->Hp->Prop,(∀I H',N I H'->∃R,R<m/\W (i+1) R I H')/\∀x H',J.EU i H x H'->g x σ H' fun M U=>tb {D with nx:=N,ct:=N,bk:=D.nx} M U)
def OP(fp:tT)(h:Heap):List (AD×Obj):=fp.filterMap fun b=>(h.get? b).map fun o=>(b,o)
def Kh{fp:tT}{h:Heap}{b:AD}{o:Obj}(g:b∈fp)(e:h.get? b=some o):(b,o)∈OP fp h:=List.mem_filterMap.mpr ⟨b,g,by rw[e];rfl⟩
def cJ{fp:tT}{h:Heap}{p:AD×Obj}(g:p∈OP fp h):p.1∈fp/\h.get? p.1=some p.2:=by
 obtain⟨b,I,e⟩:=List.mem_filterMap.mp g;cases q:h.get? b with
 |none=>rw[q]at e;cases e
 |some o=>
  rw[q]at e;have M:(b,o)=p:=ak e;subst M;exact⟨I,q⟩
def Inv.pinned{pins:CG}{σ:St}{H:Hp}{s:SD}{fp:tT}(I:At)(U:∀b∈fp,Jn X pins H b)(T:∀b∈fp,∃o,s.heap.get? b=some o/\∀v,o.data≠.cell v):Inv X (pins++OP fp s.heap) σ H s :=
 I.XI fun p R=>(aW.mp R).elim (fun z=>I.pin p (ag _ z)) fun z=>by
  obtain⟨g,e⟩:=cJ z;obtain⟨Y,f1,f2,_⟩:=U p.1 g;obtain⟨o,M,d⟩:=T p.1 g;rw[e]at M;cases M;exact⟨e,Y,f1,f2,d⟩
def Inv.Mq{pins g:CG}{σ:St}{H:Hp}{s:SD}(I:Inv X (pins++g) σ H s):Inv X pins σ H s:=I.XI fun p M=>I.pin p (ag _ (List.mem_append_left _ M))
def C0{iter:Expr}{body:tU}{wi:TI}{g:TG}{tb:TS}{pos:Pos}(hp:PassesOwn By X.A X.env X.xe)(hc:X.calm=true)(hi:PI X tg iter wi)(hg:PG X tg g)(Z:Ie X body tb) (hs:∀x,foldedSetIterable iter X.env x=pure x:=by intro _;rfl):PS X (.For tg iter body [] pos) (qy wi g tb):=by
 intro pins s σ H D I h;refine wpAny_For (A9 (hi pins s σ H _ I h) fun v s1 h1=>A9 h1 fun itv s2 h2=>?_) hs;obtain⟨it,fp,tn,J,H2,e,I2,T,st2,f2,W,⟨m0,w0⟩,turn⟩:=h2;subst e;have Y:∀ {H':Hp},(∀b∈fp,H' b=none)->∀b∈fp,Jn X pins H' b:=fun hn b Z=>⟨hn b Z,(f2 b Z).2⟩;refine codeAny_forLoop_any (fun n s'=>∃i U H',Inv X pins U H' s'/\tn i s'.heap/\(∀b∈fp,H' b=none)/\W i n U H') ?_ m0 ⟨0,σ,H2,I2,st2,fun b Z=>(f2 b Z).1,w0⟩;rintro n s3 ⟨i,R,H3,I3,st3,fr3,w3⟩;rcases turn i n R H3 w3 with ⟨stop,qn⟩|⟨go,N,hN,step⟩
 .refine wpAny_passesOwn hp (A9 (T.done X rfl rfl rfl hc i pins s3 R H3 X.xe I3 (Y fr3) st3 stop) fun r s4 ⟨hr,I4⟩=>?_);subst hr;exact wpAny_execs_nil ⟨R,H3,I4,qn⟩
 .refine wpAny_passesOwn hp (A9 (T.item X rfl rfl rfl hc i pins s3 R H3 X.xe I3 (Y fr3) st3 go) fun r s4 ⟨u,hr,h4⟩=>?_);subst hr;refine wpAny_passesOwn hp (A9 h4 fun _ s5 ⟨x,H5,I5,r5,y5,st5,fr5⟩=>?_);have I5':=I5.pinned (Y fr5) (T.obj _ _ st5);refine wpAny_passesOwn hp (A9 (hg _ s5 R H5 x u _ I5' r5 (step x H5 y5)) fun _ s6 ⟨σ6,H6,I6,q6⟩=>?_);refine wpAny_passesOwn hp (A9 (Z _ s6 σ6 H6 _ I6 q6) fun f s7 q7=>?_);have again:∀ {M:St} {H7:Hp},Inv X (pins++OP fp s5.heap) M H7 s7->N M H7->∃m,m<n/\∃i U H',Inv X pins U H' s7/\tn i s7.heap/\(∀b∈fp,H' b=none)/\W i m U H':=fun {M H7} I7 n7=>by
   obtain⟨m',hm,w7⟩:=hN M H7 n7;refine⟨m',hm,i+1,M,H7,I7.Mq,T.keep _ _ _ st5 fun b Z o e=>(I7.pin (b,o) (ag _ (ag _ (Kh Z e)))).1,fun b Z=>?_,w7⟩;obtain⟨o,e,d⟩:=T.obj _ _ st5 b Z;exact(I7.pin (b,o) (ag _ (ag _ (Kh Z e)))).2.1
  cases f with
  |next=>obtain⟨M,H7,I7,n7⟩:=q7;exact again I7 n7
  |cont=>obtain⟨M,H7,I7,n7⟩:=q7;exact again I7 n7
  |brk=>obtain⟨M,H7,I7,q7⟩:=q7;exact⟨M,H7,I7.Mq,q7⟩
  |ret v=>obtain⟨x7,M,H7,I7,r7,q7⟩:=q7;exact⟨x7,M,H7,I7.Mq,r7,q7⟩
end
def Em{K:Fg}{a:AD}{xs:tR}{g:TG}{tb:TS}{D:Ends}{σ:St}{H:Hp}(Pv:Nat->St->Hp->Prop)(h0:Pv 0 σ H)(hl:∀i σ H,i<=xs.length->Pv i σ H->Aj K H a xs) (Z:∀i x σ H,xs[i]? = some x->Pv i σ H->g x σ H fun I T=>tb {D with nx:=Pv (i+1),ct:=Pv (i+1),bk:=D.nx} I T)(hd:∀σ H,Pv xs.length σ H->D.nx σ H):∃W:Nat->Nat->St->Hp->Prop,(∃m,W 0 m σ H)/\∀i m σ H,W i m σ H ->((YN K a).stop i H/\D.nx σ H)\/((YN K a).go i H/\∃N:St->Hp->Prop,(∀M H',N M H'->∃U,U<m/\W (i+1) U M H')/\∀x H',(YN K a).EU i H x H'->g x σ H' fun I T=>tb {D with nx:=N,ct:=N,bk:=D.nx} I T):=by
 refine⟨fun i m σ H=>m=xs.length-i/\i<=xs.length/\Pv i σ H,⟨xs.length,by simp,Nat.zero_le _,h0⟩,?_⟩;rintro i m σ H ⟨rfl,hi,p⟩;have q:=hl i σ H hi p;by_cases R:i<xs.length
 .refine .inr ⟨⟨xs,xs[i],q,by simp[R]⟩,Pv (i+1),fun M H' Y=>⟨xs.length-(i+1),by lia,rfl,R,Y⟩,fun x H' y=>?_⟩;obtain⟨e,y⟩:=y;subst e;exact Z i x σ _ (y xs q) p
 .have e:i=xs.length:=by lia
  subst e;exact .inl ⟨⟨xs,q,Nat.le_refl _⟩,hd σ H p⟩
def jJ{K:Fg}{a:AD}{xs:tR}{g:TG}{tb:TS}{D:Ends}{σ:St}{H:Hp}(Pv:Nat->St->Hp->Prop)(h0:Pv 0 σ H)(hl:∀i σ H,i<=xs.length->Pv i σ H->Ax K H a xs) (Z:∀i x σ H,xs[i]? = some x->Pv i σ H->g x σ H fun I T=>tb {D with nx:=Pv (i+1),ct:=Pv (i+1),bk:=D.nx} I T)(hd:∀σ H,Pv xs.length σ H->D.nx σ H):∃W:Nat->Nat->St->Hp->Prop,(∃m,W 0 m σ H)/\∀i m σ H,W i m σ H ->((Xb K a).stop i H/\D.nx σ H)\/((Xb K a).go i H/\∃N:St->Hp->Prop,(∀M H',N M H'->∃U,U<m/\W (i+1) U M H')/\∀x H',(Xb K a).EU i H x H'->g x σ H' fun I T=>tb {D with nx:=N,ct:=N,bk:=D.nx} I T):=by
 refine⟨fun i m σ H=>m=xs.length-i/\i<=xs.length/\Pv i σ H,⟨xs.length,by simp,Nat.zero_le _,h0⟩,?_⟩;rintro i m σ H ⟨rfl,hi,p⟩;have q:=hl i σ H hi p;by_cases R:i<xs.length
 .refine .inr ⟨⟨xs,xs[i],q,by simp[R]⟩,Pv (i+1),fun M H' Y=>⟨xs.length-(i+1),by lia,rfl,R,Y⟩,fun x H' y=>?_⟩;obtain⟨e,y⟩:=y;subst e;exact Z i x σ _ (y xs q) p
 .have e:i=xs.length:=by lia
  subst e;exact .inl ⟨⟨xs,q,Nat.le_refl _⟩,hd σ H p⟩
def Nt{lo:Int}{n:Nat}{g:TG}{tb:TS}{D:Ends}{σ:St}{H:Hp}(Pv:Nat->St->Hp->Prop)(h0:Pv 0 σ H) (Z:∀i σ H,i<n->Pv i σ H->g (.int (lo+i)) σ H fun I T=>tb {D with nx:=Pv (i+1),ct:=Pv (i+1),bk:=D.nx} I T)(hd:∀σ H,Pv n σ H->D.nx σ H):∃W:Nat->Nat->St->Hp->Prop,(∃m,W 0 m σ H)/\∀i m σ H,W i m σ H ->((V2 lo n).stop i H/\D.nx σ H)\/((V2 lo n).go i H/\∃N:St->Hp->Prop,(∀M H',N M H'->∃U,U<m/\W (i+1) U M H')/\∀x H',(V2 lo n).EU i H x H'->g x σ H' fun I T=>tb {D with nx:=N,ct:=N,bk:=D.nx} I T):=by
 refine⟨fun i m σ H=>m=n-i/\i<=n/\Pv i σ H,⟨n,by simp,Nat.zero_le _,h0⟩,?_⟩;rintro i m σ H ⟨rfl,hi,p⟩;by_cases R:i<n
 .refine .inr ⟨R,Pv (i+1),fun M H' Y=>⟨n-(i+1),by lia,rfl,R,Y⟩,fun x H' y=>?_⟩;obtain⟨e,y⟩:=y;subst e y;exact Z i σ _ R p
 .have e:i=n:=by lia
  subst e;exact .inl ⟨aG _,hd σ H p⟩
def P8{c:TT}{tb:TS}{D:Ends}{σ:St}{H:Hp}(Pv:St->Hp->Prop)(M:St->Hp->Nat)(h0:Pv σ H) (U:∀σ H,Pv σ H->c σ H fun b I=>if b=true then tb {D with nx:=fun g H'=>Pv g H'/\M g H'<M σ H,ct:=fun g H'=>Pv g H'/\M g H'<M σ H,bk:=D.nx} σ I else D.nx σ I) (mono:∀σ H Q R,(∀b I,Q b I->R b I)->c σ H Q->c σ H R):Zq c tb D σ H:=by
 refine⟨fun m σ H=>m=M σ H/\Pv σ H,⟨_,rfl,h0⟩,?_⟩;rintro m σ H ⟨rfl,p⟩;refine mono σ H _ _ (fun b I q=>?_) (U σ H p);cases b with
 |true=>exact⟨_,fun g H' ⟨T,l⟩=>⟨_,l,rfl,T⟩,q⟩
 |false=>exact q
abbrev R2:=V->V->Hp->VK->Prop
def Cw(X:Cx)(f:VL->VL->Sem VL)(r:R2):Prop :=
 ∀(pins:CG) (s:SD) (σ:St) (H:Hp) (x y:V) (v u:VL) (Q:VK),Inv X pins σ H s->RelV x v->RelV y u->r x y H Q ->
  wpAny By X.A (f v u) (EP X pins σ Q) X.xe s
def lK(X:Cx)(f:VL->Sem VL)(r:V->Hp->VK->Prop):Prop :=
 ∀(pins:CG) (s:SD) (σ:St) (H:Hp) (x:V) (v:VL) (Q:VK),Inv X pins σ H s->RelV x v->r x H Q ->
  wpAny By X.A (f v) (EP X pins σ Q) X.xe s
def FR(X:Cx)(f:VL)(r:List V->Hp->VK->Prop):Prop :=
 ∀(pins:CG) (s:SD) (σ:St) (H:Hp) (xs:List V) (us:List VL) (Q:VK),Inv X pins σ H s->Vals xs us->r xs H Q ->
  wpAny By X.A (call f us) (EP X pins σ Q) X.xe s
def Zy(r:R2)(ta tb:TE):TE:=fun σ H Q=>ta σ H fun x I=>tb σ I fun y g=>r x y g Q
def sR(r:V->Hp->VK->Prop)(ta:TE):TE:=fun σ H Q=>ta σ H fun x g=>r x g Q
def rI(C:Int->Int->Prop)(g:Int->Int->V):R2:=fun x y H Q=>∃i j,x=.int i/\y=.int j/\C i j/\Q (g i j) H
def Sv(g:Int->Int->V):R2:=fun x y H Q=>∃i j,x=.int i/\y=.int j/\Q (g i j) H
def rU(g:Int->V):V->Hp->VK->Prop:=fun x H Q=>∃i,x=.int i/\Q (g i) H
section
variable{X:Cx}{a b:Expr}{ta tb:TE}{pos:Pos}
def gY(ha:PE X a ta)(hb:PE X b tb){pins:CG}{s:SD}{σ:St}{H:Hp}{R:V->V->Hp->Prop}(I:At) (h:ta σ H fun x U=>tb σ U fun y g=>R x y g){Q:tE}{f:VL->VL->Sem VL} (hf:∀v u s2 x y g,Inv X pins σ g s2->RelV x v->RelV y u->R x y g->wpAny By X.A (f v u) Q X.xe s2):wpAny By X.A (eval a X.env) (fun v T=>wpAny By X.A (eval b X.env) (fun u M=>wpAny By X.A (f v u) Q X.xe M) X.xe T) X.xe s:=by
 refine A9 (ha pins s σ H _ I h) fun v s1 ⟨x,U,I1,Z,q1⟩=>?_;refine A9 (hb pins s1 σ U _ I1 q1) fun u s2 ⟨y,g,I2,Y,q2⟩=>?_;exact hf v u s2 x y g I2 Z Y q2
def Au{op:Operator}{r:R2}(R:Cw X (binaryOp op) r)(ha:PE X a ta)(T:PE X b tb):PE X (.BinOp a op b pos) (Zy r ta tb):=by
 intro pins s σ H Q I h;exact wpAny_BinOp (gY ha T I h fun v u s2 x y Y U M g q=>R pins s2 σ Y x y v u Q U M g q)
def gm{op:UnaryOp}{r:V->Hp->VK->Prop}(R:lK X (unaryOp op) r)(ha:PE X a ta):PE X (.UnaryOp op a pos) (sR r ta):=by
 intro pins s σ H Q I h;exact UnaryOp_ (A9 (ha pins s σ H _ I h) fun v s1 ⟨x,U,T,g,M⟩=>R pins s1 σ U x v Q T g M)
def Xq{f:VL->VL->Sem VL}{C:Int->Int->Prop}{g:Int->Int->Int} (rule:∀(i j:Int) (t u:Tok) (s:SD) (Q:tE) (E:tE),C i j->Q (.int (g i j) s.toks) {s with toks:=s.toks+1}->wpAny By X.A (f (.int i t) (.int j u)) Q E s):Cw X f (rI C fun i j=>.int (g i j)):=by
 intro pins s σ H x y v u Q I T R h;obtain⟨i,j,rfl,rfl,U,q⟩:=h;obtain⟨t,rfl⟩:=T;obtain⟨M,rfl⟩:=R;exact rule i j t M s _ _ U ⟨.int (g i j),H,I.tok _,⟨_,rfl⟩,q⟩
def mw{f:VL->VL->Sem VL}{g:Int->Int->Int} (rule:∀(i j:Int) (t u:Tok) (s:SD) (Q:tE) (E:tE),Q (.int (g i j) s.toks) {s with toks:=s.toks+1}->wpAny By X.A (f (.int i t) (.int j u)) Q E s):Cw X f (Sv fun i j=>.int (g i j)):=by
 intro pins s σ H x y v u Q I T R h;obtain⟨i,j,rfl,rfl,q⟩:=h;obtain⟨t,rfl⟩:=T;obtain⟨M,rfl⟩:=R;exact rule i j t M s _ _ ⟨.int (g i j),H,I.tok _,⟨_,rfl⟩,q⟩
def eY{f:VL->VL->Sem VL}{g:Int->Int->Bool} (rule:∀(i j:Int) (t u:Tok) (s:SD) (Q:tE) (E:tE),Q (.bool (g i j)) s->wpAny By X.A (f (.int i t) (.int j u)) Q E s):Cw X f (Sv fun i j=>.bl (g i j)):=by
 intro pins s σ H x y v u Q I T R h;obtain⟨i,j,rfl,rfl,q⟩:=h;obtain⟨t,rfl⟩:=T;obtain⟨M,rfl⟩:=R;exact rule i j t M s _ _ ⟨.bl (g i j),H,I,rfl,q⟩
def rq(i j:Int):Prop:=0<j/\j<1073741824
def rJ(i j:Int):Prop:=0<=j/\j<=1000000/\i.natAbs<2^64
def Ry(i j:Int):Prop:=(-(2^64)<i/\i<2^64)\/(-(2^64)<j/\j<2^64)
def Ry.ok{i j:Int}(h:Ry i j):IntMulOk i j:=by
 rcases h with ⟨I,g⟩|⟨I,g⟩
 .exact .of_left (intBits_le_64 I g)
 .exact .of_right (intBits_le_64 I g)
def Ff:Cw X (binaryOp .Add) (Sv fun i j=>.int (i+j)):=mw fun _ _ _ _ _ _ _ q=>add_int q
def Jc:Cw X (binaryOp .Sub) (Sv fun i j=>.int (i-j)):=mw fun _ _ _ _ _ _ _ q=>sub_int q
def jg:Cw X (binaryOp .FloorDiv) (rI rq fun i j=>.int (i / j)):=Xq fun i j _ _ _ _ _ g q=>by
 have M:(0:Int)<j:=g.1;have I:j<1073741824:=g.2;exact floordiv_int AC (by rw[Int.fdiv_eq_ediv_of_nonneg i AC];exact q) (.inl (PyProof.noPylong_small AC))
def Ma:Cw X (binaryOp .Mod) (rI (fun _ j=>0<j) fun i j=>.int (i % j)):=Xq fun i j _ _ _ _ _ g q=>by
 have I:(0:Int)<j:=g;exact mod_int' AC (by rw[Int.fmod_eq_emod_of_nonneg i AC];exact q)
def Oz:Cw X (binaryOp .Mod) (rI (fun _ j=>j≠0) fun i j=>.int (i.fmod j)):=Xq fun _ _ _ _ _ _ _ g q=>mod_int' g q
def RA:Cw X (binaryOp .Pow) (rI rJ fun i j=>.int (i^j.toNat)):=Xq fun _ _ _ _ _ _ _ g q=>pow_int_small g.1 g.2.1 g.2.2 q
def sG{f:VL->Sem VL}{g:Int->Int} (rule:∀(i:Int) (t:Tok) (s:SD) (Q:tE) (E:tE),Q (.int (g i) s.toks) {s with toks:=s.toks+1}->wpAny By X.A (f (.int i t)) Q E s):lK X f (rU fun i=>.int (g i)):=by
 intro pins s σ H x v Q I M h;obtain⟨i,rfl,q⟩:=h;obtain⟨t,rfl⟩:=M;exact rule i t s _ _ ⟨.int (g i),H,I.tok _,⟨_,rfl⟩,q⟩
def Z6:lK X (unaryOp .USub) (rU fun i=>.int (-i)):=sG fun _ _ _ _ _ q=>neg_int q
end
def mz:V->V->Bool
 |.Bf,.Bf=>true|.Bf,.int _=>true|.int _,.Bf=>true|.Bf,.bl _=>true|.bl _,.Bf=>true|.Bf,.str _=>true|.str _,.Bf=>true
 |.int _,.int _=>true|.bl _,.bl _=>true|.str _,.str _=>true|.N1 _,.N1 _=>true
 |.int _,.str _=>true|.str _,.int _=>true|.bl _,.str _=>true|.str _,.bl _=>true
 |_,_=>false
def sJ:R2:=fun x y H Q=>mz x y=true/\Q (.bl (decide (x=y))) H
def si:R2:=fun x y H Q=>mz x y=true/\Q (.bl (!decide (x=y))) H
def Xp{i j:Int}:decide (V.int i=V.int j)=(i==j):=by
 rw[(OZ)];simp
def dk{i j:Bool}:decide (V.bl i=V.bl j)=(i==j):=by
 rw[(OZ)];simp
def Xa{i j:Str}:decide (V.str i=V.str j)=(i==j):=by
 rw[(OZ)];simp
def Xj{i j:Array UInt8}:decide (V.N1 i=V.N1 j)=(i.toList==j.toList):=by
 rw[(OZ)];cases i;cases j;simp
section
variable{X:Cx}{a b c:Expr}{ta tb:TE}{pos:Pos}
def BU{pins:CG}{σ:St}{H:Hp}{s:SD}{Q:VK}{k g:Bool}(I:At)(q:Q (.bl k) H)(e:k=g):EP X pins σ Q (.bool g) s:=by
 subst e;exact⟨.bl k,H,I,rfl,q⟩
def Qg:Cw X (compareOp .Eq) sJ:=by
 intro pins s σ H x y v u Q I T g h;obtain⟨R,q⟩:=h;cases x with
 |Bf=>
  cases T;cases y with
  |Bf=>cases g;exact PySem.EqNone.eq_none_none (BU I q BY)
  |bl j=>cases g;exact PySem.EqNone.eq_none_bool (BU I q BY)
  |int j=>obtain⟨M,rfl⟩:=g;exact PySem.EqNone.eq_none_int (BU I q BY)
  |str j=>obtain⟨M,rfl⟩:=g;exact PySem.EqNone.eq_none_str (BU I q BY)
  |_=>exact absurd (show false=true from R) aJ
 |bl i=>
  cases T;cases y with
  |Bf=>cases g;exact PySem.EqNone.eq_bool_none (BU I q BY)
  |bl j=>cases g;exact eq_bool (BU I q dk)
  |str j=>obtain⟨M,rfl⟩:=g;exact PySem.EqMixed.eq_bool_str (BU I q BY)
  |_=>exact absurd (show false=true from R) aJ
 |int i=>
  obtain⟨t,rfl⟩:=T;cases y with
  |Bf=>cases g;exact PySem.EqNone.eq_int_none (BU I q BY)
  |int j=>obtain⟨M,rfl⟩:=g;exact eq_int (BU I q Xp)
  |str j=>obtain⟨M,rfl⟩:=g;exact PySem.EqMixed.eq_int_str (BU I q BY)
  |_=>exact absurd (show false=true from R) aJ
 |str i=>
  obtain⟨t,rfl⟩:=T;cases y with
  |Bf=>cases g;exact PySem.EqNone.eq_str_none (BU I q BY)
  |bl j=>cases g;exact PySem.EqMixed.eq_str_bool (BU I q BY)
  |int j=>obtain⟨M,rfl⟩:=g;exact PySem.EqMixed.eq_str_int (BU I q BY)
  |str j=>obtain⟨M,rfl⟩:=g;exact eq_str (BU I q Xa)
  |_=>exact absurd (show false=true from R) aJ
 |N1 i=>
  obtain⟨t,rfl⟩:=T;cases y with
  |N1 j=>obtain⟨M,rfl⟩:=g;exact PySem.W.eq_bytes (BU I q Xj)
  |_=>exact absurd (show false=true from R) aJ
 |_=>cases y<;>exact absurd (show false=true from R) aJ
def M7:Cw X (compareOp .NotEq) si:=by
 intro pins s σ H x y v u Q I T g h;obtain⟨R,q⟩:=h;cases x with
 |Bf=>
  cases T;cases y with
  |Bf=>cases g;exact PySem.EqNone.ne_none_none (BU I q BY)
  |bl j=>cases g;exact PySem.EqNone.ne_none_bool (BU I q BY)
  |int j=>obtain⟨M,rfl⟩:=g;exact PySem.EqNone.ne_none_int (BU I q BY)
  |str j=>obtain⟨M,rfl⟩:=g;exact PySem.EqNone.ne_none_str (BU I q BY)
  |_=>exact absurd (show false=true from R) aJ
 |bl i=>
  cases T;cases y with
  |Bf=>cases g;exact PySem.EqNone.ne_bool_none (BU I q BY)
  |bl j=>cases g;exact ne_bool (BU I q (ai not dk))
  |str j=>obtain⟨M,rfl⟩:=g;exact PySem.EqMixed.ne_bool_str (BU I q BY)
  |_=>exact absurd (show false=true from R) aJ
 |int i=>
  obtain⟨t,rfl⟩:=T;cases y with
  |Bf=>cases g;exact PySem.EqNone.ne_int_none (BU I q BY)
  |int j=>obtain⟨M,rfl⟩:=g;exact ne_int (BU I q (ai not Xp))
  |str j=>obtain⟨M,rfl⟩:=g;exact PySem.EqMixed.ne_int_str (BU I q BY)
  |_=>exact absurd (show false=true from R) aJ
 |str i=>
  obtain⟨t,rfl⟩:=T;cases y with
  |Bf=>cases g;exact PySem.EqNone.ne_str_none (BU I q BY)
  |bl j=>cases g;exact PySem.EqMixed.ne_str_bool (BU I q BY)
  |int j=>obtain⟨M,rfl⟩:=g;exact PySem.EqMixed.ne_str_int (BU I q BY)
  |str j=>obtain⟨M,rfl⟩:=g;exact ne_str (BU I q (ai not Xa))
  |_=>exact absurd (show false=true from R) aJ
 |N1 i=>
  obtain⟨t,rfl⟩:=T;cases y with
  |N1 j=>obtain⟨M,rfl⟩:=g;exact PySem.W.ne_bytes (BU I q (ai not Xj))
  |_=>exact absurd (show false=true from R) aJ
 |_=>cases y<;>exact absurd (show false=true from R) aJ
def RC:Cw X (compareOp .Lt) (Sv fun i j=>.bl (decide (i<j))):=eY fun _ _ _ _ _ _ _ q=>lt_int q
def UG:Cw X (compareOp .Gt) (Sv fun i j=>.bl (decide (j<i))):=eY fun _ _ _ _ _ _ _ q=>gt_int q
def Yj:Cw X (compareOp .GtE) (Sv fun i j=>.bl (decide (j<=i))):=eY fun _ _ _ _ _ _ _ q=>ge_int q
def my:Cw X (compareOp .Is) (fun x y H Q=>y=.Bf/\Q (.bl (decide (x=.Bf))) H):=by
 intro pins s σ H x y v u Q I g M h;obtain⟨rfl,q⟩:=h;cases M;refine is_none_gen (BU I q ?_);cases x<;>first
  |(cases g;rfl)
  |(obtain⟨t,rfl⟩:=g;rfl)
def Cw.or{f:VL->VL->Sem VL}{r R:R2}(h:Cw X f r)(h':Cw X f R):Cw X f (fun x y H Q=>r x y H Q\/R x y H Q):=by
 intro pins s σ H x y v u Q I M g q;rcases q with q|q
 .exact h pins s σ H x y v u Q I M g q
 .exact h' pins s σ H x y v u Q I M g q
def Ay(b:Expr){op:CmpOp}(h:op≠.In:=by decide)(g:op≠.NotIn:=by decide):behindInMarks op b=false:=by
 have M:(op==CmpOp.In)=false:=by cases op<;>first|rfl|exact absurd rfl h
 have I:(op==CmpOp.NotIn)=false:=by cases op<;>first|rfl|exact absurd rfl g
 cases b<;>simp[behindInMarks,M,I]
def O1{op:CmpOp}{r:R2}(R:Cw X (compareOp op) r)(ha:PE X a ta)(T:PE X b tb)(hm:behindInMarks op b=false):PE X (.Compare a [op] [b] pos) (Zy r ta tb):=by
 intro pins s σ H Q I h;exact wpAny_Compare1 (gY ha T I h fun v u s2 x y Y U M g q=>R pins s2 σ Y x y v u Q U M g q) hm
def oq(t:TE):TT:=fun σ H Q=>t σ H fun x H'=>∃k,x=.bl k/\Q k H'
def Bn{op:CmpOp}{r:R2}(Z:Cw X (compareOp op) r)(ha:PE X a ta)(hb:PE X b tb)(hm:behindInMarks op b=false):PT X (.Compare a [op] [b] pos) (oq (Zy r ta tb)):=by
 intro pins s σ H Q I h;refine wpAny_isTrue_Compare1 (A9 (ha pins s σ H _ I h) fun v s1 ⟨x,H1,I1,R,Y⟩=>A9 (hb pins s1 σ H1 _ I1 Y) fun u s2 ⟨y,H2,I2,M,U⟩=>
  A9 (Z pins s2 σ H2 x y v u _ I2 R M U) fun c s3 ⟨z,H3,I3,g,k,e,T⟩=>?_) hm
 subst e;cases g;exact wpAny_truthy_bool ⟨H3,I3,T⟩
def OT:(sizeLine:Nat)<2^63:=by rw[sizeLine_eq];decide
def ZA:Cw X (binaryOp .Add) (fun x y H Q=>∃i j,x=.str i/\y=.str j/\i.length+j.length<=sizeLine/\Q (.str (i++j)) H):=by
 intro pins s σ H x y v u Q I R M h;obtain⟨i,j,rfl,rfl,T,q⟩:=h;obtain⟨t,rfl⟩:=R;obtain⟨g,rfl⟩:=M;exact add_str (fun g tk=>⟨.str (i++j),H,I.tok _,⟨_,rfl⟩,q⟩) T
def vals1{x:V}{us:sy}(r:Vals [x] us):∃u,us=[u]/\RelV x u:=by
 cases r with
 |cons I g=>cases g;exact⟨_,rfl,I⟩
def vals2{x y:V}{us:sy}(r:Vals [x,y] us):∃u g,us=[u,g]/\RelV x u/\RelV y g:=by
 cases r with
 |cons T R=>
  cases R with
  |cons M I=>cases I;exact⟨_,_,rfl,T,M⟩
def QF:FR X (.builtin "abs") (fun xs H Q=>∃i,xs=[.int i]/\Q (.int (if i<0 then -i else i)) H):=by
 intro pins s σ H xs us Q I r h;obtain⟨i,rfl,q⟩:=h;obtain⟨u,rfl,t,rfl⟩:=vals1 r;exact call_abs_int fun u tk=>⟨.int (if i<0 then -i else i),H,I.tok _,⟨_,rfl⟩,q⟩
def eB(M:X.calm=true):FR X (.builtin "max") (fun xs H Q=>∃i j,xs=[.int i,.int j]/\Q (.int (if j > i then j else i)) H):=by
 intro pins s σ H xs us Q I r h;obtain⟨i,j,rfl,q⟩:=h;obtain⟨u,R,rfl,⟨t,rfl⟩,⟨T,rfl⟩⟩:=vals2 r;refine max_two_ints (I.ok.hd M) fun h' tk k=>⟨_,H,I.kept k,?_,q⟩;by_cases g:j > i
 .rw[if_pos g,if_pos g];exact⟨_,rfl⟩
 .rw[if_neg g,if_neg g];exact⟨_,rfl⟩
end
structure eT(h:Heap)(x dx C:Addr)(mA:Str->Option Value):Prop where
 obj:h.get? x=some (PySem.W.instObj C dx)
 ns:h.Ns1 dx mA
 ne:dx≠x
def dj{h:Heap}{dx:AD}{mA:tF}(n:h.Ns1 dx mA):∃od,h.get? dx=some od/\∀name,PySem.W.lookIn name od=some (mA name):=by
 obtain⟨o,es,ep,M,hd,R,_,hm⟩:=n;refine⟨o,M,fun name=>?_⟩;have e:=hm name;unfold nsFind findBy at e;rw[<-Array.find?_toList]at e;unfold PySem.W.lookIn;rw[hd];dsimp only;split
 .rename_i y q;rw[q]at e;exact ai some e
 .rename_i q;rw[q]at e;have a:es.toList.any (·.refKey)=false:=by
   rw[List.any_eq_false];intro y I;obtain⟨z,t,g⟩:=R y (Array.mem_toList_iff.mp I);simp[DictEntry.refKey,g]
  have T:¬es.toList.any (·.refKey)=true:=by rw[a];exact aJ
  rw[if_neg T];exact ai some e
def eT.look{h:Heap}{x dx C:AD}{mA:tF}(I:eT h x dx C mA):∃od,PySem.W.InstAt h x (PySem.W.instObj C dx) C (some od)/\∀name,PySem.W.lookIn name od=some (mA name) :=
 let⟨od,g,M⟩:=dj I.ns
 ⟨od,⟨I.obj,rfl,rfl,g⟩,M⟩
def K6.some_of{v:V}{o:Option VL}(r:K6 (some v) o):∃u,o=some u/\RelV v u:=by
 cases o with
 |none=>exact(show False from r).elim
 |some u=>exact⟨u,rfl,r⟩
section
variable{P:F0b}{w:F0c}{H:Hp}{h:Heap}{a C dx:AD}{fs:List (Str×V)}
def jO(Al:DB P w H h)(e:H a=some (.ins C dx fs)):∃mA,eT h a dx C mA/\(∀f,K6 (fs.lookup f) (mA f))/\PySem.Within mA (fs.map (·.1))/\fs.length<=1000/\H dx=some (.own a):=by
 obtain⟨d,z,ne,ob,mA,n,r,q⟩:=(show Bx P w H h a (.ins C dx fs) from Al a _ e);exact⟨mA,⟨ob,n,ne⟩,r,q,z,d⟩
end
structure kE(K:Fg)(C:Addr):Prop where
 pg:PySem.W.plainGet K C Str.empty=true
 hd:PySem.W.hasDictIn K C=true
 po:PySem.W.plainOver K C=true
 sa:PySem.W.findIn K (.ref C) "__setattr__" = some (some (.builtin "object.__setattr__"))
def kE.get{K:Fg}{C:AD}(c:kE K C)(f:Str):PySem.W.plainGet K C f=true:=c.pg
section
variable{X:Cx}{pins:CG}{σ:St}{H:Hp}{s:SD}{A:F0d}{E:tE}{Q:tE}{c:VL}{b:Bool}
inductive HZ(K:Fg)(H:Hp):V->Value->Prop where
 |Bf:HZ K H .Bf (.type "NoneType")
 |bl (x:Bool):HZ K H (.bl x) (.type "bool")
 |int (i:Int):HZ K H (.int i) (.type "int")
 |str (x:Str):HZ K H (.str x) (.type "str")
 |YO (x:UInt64):HZ K H (.YO x) (.type "float")
 |lst {a:Addr} {xs:List V} (e:H a=some (.lst xs)):HZ K H (.ref a) (.type "list")
 |Fe {a:Addr} {o:Obj} {xs:List V} (e:H a=some (.Fe o (.lst xs))):HZ K H (.ref a) (.type "list")
 |tup {a:Addr} {xs:List V} (e:H a=some (.tup xs)):HZ K H (.ref a) Ev
 |dK {a:Addr} {kvs:List (Key×V)} (e:H a=some (.dK kvs)):HZ K H (.ref a) (.type "dict")
 |dT {a:Addr} {kvs:List (List Key×V)} (e:H a=some (.dT kvs)):HZ K H (.ref a) (.type "dict")
 |ins {a C dx:Addr} {fs:List (Str×V)} (e:H a=some (.ins C dx fs)) (cl:kE K C) (ha:PySem.W.findIn K (.ref C) "__class__" = some (some (.builtin "object.__class__")))
   (hn:PySem.W.specialIn K (.builtin "object.__class__") "__get__" = some (some (.builtin "getset_descriptor.__get__"))) (htk:PySem.W.takesIn K (.builtin "object.__class__")=some true)
   (hm:PySem.W.mroIn K C (.type "object")=some true):HZ K H (.ref a) (.ref C)
def a8{x:V}{u t:VL}(I:At)(g:RelV x u)(ty:HZ X.K H x t)(e:PySem.W.kitOne X.K t c=some b)(h:∀tk,Q (.bool b) {s with toks:=tk}):wpAny By A (call (.builtin "isinstance") [u,c]) Q E s:=by
 cases ty with
 |Bf=>cases (show u=Value.none from g);exact bC PySem.W.kitx_none I.Gs True.intro e GE h
 |bl y=>cases (show u=Value.bool y from g);exact bC PySem.W.kitx_bool I.Gs True.intro e GE h
 |int i=>obtain⟨t,q⟩:=(show ∃t,u=Value.int i t from g);cases q;exact bC PySem.W.kitx_int I.Gs True.intro e GE h
 |str y=>obtain⟨t,q⟩:=(show ∃t,u=Value.str y t from g);cases q;exact bC PySem.W.kitx_str I.Gs True.intro e GE h
 |YO y=>obtain⟨t,q⟩:=(show ∃t,u=Value.float y t from g);cases q;exact bC PySem.W.kitx_float I.Gs True.intro e GE h
 | @lst a xs ea=>
  cases (show u=Value.ref a from g);obtain⟨_,_,n,_,M⟩:=(show Bx X.prog X.w H s.heap a (.lst xs) from I.Al a _ ea);exact bC PySem.W.kitx_list I.Gs ⟨_,M,rfl⟩ e GE h
 | @Fe a ob xs ea=>
  cases (show u=Value.ref a from g);obtain⟨_,_,_,n,_,M⟩:=(show Bx X.prog X.w H s.heap a (.Fe ob (.lst xs)) from I.Al a _ ea);exact bC PySem.W.kitx_list I.Gs ⟨_,M,rfl⟩ e GE h
 | @tup a xs ea=>
  cases (show u=Value.ref a from g);obtain⟨_,_,_,p⟩:=(show Bx X.prog X.w H s.heap a (.tup xs) from I.Al a _ ea);obtain⟨o,M,R,_⟩:=p;exact bC PySem.W.kitx_tuple I.Gs ⟨o,M,R⟩ e GE h
 | @dK a kvs ea=>
  cases (show u=Value.ref a from g);obtain⟨_,_,vs,_,p⟩:=(show Bx X.prog X.w H s.heap a (.dK kvs) from I.Al a _ ea);obtain⟨o,es,ep,M,R,_⟩:=p;exact bC PySem.W.kitx_dict I.Gs ⟨o,M,R.1⟩ e GE h
 | @dT a kvs ea=>
  cases (show u=Value.ref a from g);obtain⟨_,_,xs,_,o,es,ep,M,R,_⟩:=(show Bx X.prog X.w H s.heap a (.dT kvs) from I.Al a _ ea);exact bC PySem.W.kitx_dict I.Gs ⟨o,M,R.1⟩ e GE h
 | @ins a C dx fs ea cl ha hn htk hm=>
  cases (show u=Value.ref a from g);obtain⟨mA,O,_⟩:=jO I.Al ea;obtain⟨od,J,_⟩:=O.look;exact bC (PySem.W.kitx_own (cl.get _) cl.hd ha hn htk hm) I.Gs J e GE h
end
structure CS(k:Nat)(A:Around):Prop where
 hd:A.handled=none
 dp:A.depth+3*k+5<recursionLimit
 un:A.units+16*k+200<cLine
def CS.mono{j k:Nat}{A:F0d}(r:CS k A)(h:j<=k:=by decide):CS j A:=⟨r.hd,by have:=r.dp;lia,by have:=r.un;lia⟩
def CS.deeper{k:Nat}{A:F0d}(r:CS (k+1) A)(env:Env):CS k (A.deeper env) :=
 ⟨r.hd,by have:=r.dp;show A.depth+1+3*k+5<_;lia,by have:=r.un;show A.units+3+16*k+200<_;lia⟩
def CS.depth{k:Nat}{A:F0d}(r:CS k A):A.depth<recursionLimit:=by have:=r.dp;lia
def CS.units{k:Nat}{A:F0d}(r:CS k A):A.units+64<cLine:=by have:=r.un;lia
def f7:TA:=fun _ H Q=>Q [] H
def pV(ta:TE)(tr:TA):TA:=fun σ H Q=>ta σ H fun x I=>tr σ I fun xs g=>Q (x::xs) g
section
variable{X:Cx}{e:Expr}{es:tL}{te:TE}{t:TA}{pos:Pos}
def AQ:PA X [] f7:=fun _ _ _ _ H Q I h=>Calls.spliced_nil ⟨[],H,I,.nil,h⟩
def AE(ha:PE X e te)(Y:PA X es t)(U:starEach (e::es) X.env=(false,eval e X.env)::starEach es X.env:=by rfl):PA X (e::es) (pV te t):=by
 intro pos pins s σ H Q I h;rw[U];show wpAny _ _ (spliced ((false,eval e X.env)::backTo pos (starEach es X.env))) _ _ s;refine Calls.spliced_cons (A9 (ha pins s σ H _ I h) fun u s1 ⟨x,H1,I1,M,T⟩=>?_);exact A9 (Y pos pins s1 σ H1 _ I1 T) fun us s2 ⟨xs,H2,Z,g,R⟩=>⟨x::xs,H2,Z,.cons M g,R⟩
def qV(t:TA):TE:=fun σ H Q=>t σ H fun xs g=>xs.length<=sizeLine/\∀p,g p=none->Q (.ref p) (upd g p (.tup xs))
def qx(t:TA):TE:=fun σ H Q=>t σ H fun xs g=>xs.length<=sizeLine/\∀p,g p=none->Q (.ref p) (upd g p (.lst xs))
def JX{R}(h:PA X es t):PE X (.Tuple es R pos) (qV t):=by
 intro pins s σ H Q I T;refine wpAny_Tuple_spliced (A9 (h pos pins s σ H _ I T) fun us s1 ⟨xs,M,g,r,z,q⟩=>⟨by rw[<-r.length];exact z,?_⟩);have U:M s1.heap.objs.size=none:=g.Al.fresh (aG _);refine⟨.ref s1.heap.objs.size,upd M s1.heap.objs.size (.tup xs),g.laid (t':=s1.toks) (fun b u e=>aF _ e) (aG _) ?_,rfl,q _ U⟩;exact⟨z,us,r,⟨_,Heap.get?_push_size _ rfl,rfl,_,rfl⟩⟩
def IP(h:PA X es t):PE X (.List es pos) (qx t):=by
 intro pins s σ H Q I R;refine wpAny_List_spliced (A9 (h pos pins s σ H _ I R) fun us s1 ⟨xs,M,g,r,z,q⟩=>⟨by rw[<-r.length];exact z,?_⟩);have T:M s1.heap.objs.size=none:=g.Al.fresh (aG _);refine⟨.ref s1.heap.objs.size,upd M s1.heap.objs.size (.lst xs),g.laid (t':=s1.toks) (fun b u e=>aF _ e) (aG _) ?_,rfl,q _ T⟩;exact⟨z,us,0,r,Heap.get?_push_size _ rfl⟩
end
abbrev Sp:=List V->Hp->VK->XK->Prop
abbrev GL:=List Env->Hp->SD->XK->VL->SD->Prop
structure ZL(P:Program)(w:World)(K:Fg)(mg:Str->Option Value)(base:Heap)(A:Around)(outer:List Env)(s:Shared)(H:Hp):Prop where
 frames:A.frames=some outer
 mod:Mod K mg base
 bs:∀b o,base.get? b=some o->s.heap.get? b=some o/\H b=none
 RT:base.objs.size<=s.heap.objs.size
 Ib:s.heap.FunFrames base outer
 Qb:∀b∈GB outer,H b=none
 Al:DB P w H s.heap
 bare:AllBare s.gens
 kt:KTb mg H
def CE(outer:tV)(P:F0b)(w:F0c)(H:Hp)(s:SD)(Q:VK)(u:VL)(s':SD):Prop :=
 ∃v H',s'.os=s.os/\AllBare s'.gens/\Un (GB outer) [] H H' s.heap s'.heap/\DB P w H' s'.heap/\RelV v u/\Q v H'
def CR(CX:GL)(outer:tV)(P:F0b)(w:F0c)(H:Hp)(s:SD)(Q:VK)(E:XK)(r:Result)(s':SD):Prop :=
 match r with
 |.ok (.ret u)=>CE outer P w H s Q u s'
 |.ok _=>False
 |.error e=>CX outer H s E e s'
structure AI(P:Program)(w:World)(K:Fg)(mg:Str->Option Value)(base:Heap)(CX:GL)(k:Nat)(f:Addr)(fd:FuncData)(ps:List Str)(sp:Sp):Prop where
 len:∀vs H Q E,sp vs H Q E->vs.length=ps.length
 run:∀(A:Around) (outer:List Env) (s:Shared) (H:Hp) (args:Args) (us:List Value) (vs:List V) (Q:VK) (E:XK),CS k A->ZL P w K mg base A outer s H->BindsTo s fd args (ps.zip us)->Vals vs us->sp vs H Q E ->
  codeAny (model P w) A (.call (.ref f) args) (CR CX outer P w H s Q E) s
def AI.mono{P:F0b}{w:F0c}{K:Fg}{mg:tF}{base:Heap}{CX:GL}{j k:Nat}{f:AD}{fd:F0a}{ps:tK}{sp:Sp}(F:AI P w K mg base CX j f fd ps sp)(h:j<=k:=by decide):AI P w K mg base CX k f fd ps sp:=⟨F.len,fun A outer s H args us vs Q E g=>F.run A outer s H args us vs Q E (g.mono h)⟩
def AI.imp{P:F0b}{w:F0c}{K:Fg}{mg:tF}{base:Heap}{CX:GL}{k:Nat}{f:AD}{fd:F0a}{ps:tK}{sp g:Sp}(F:AI P w K mg base CX k f fd ps sp) (h:∀vs H Q E,g vs H Q E->sp vs H Q E):AI P w K mg base CX k f fd ps g :=
 ⟨fun vs H Q E q=>F.len vs H Q E (h _ _ _ _ q),fun A outer s H args us vs Q E R T U I M=>F.run A outer s H args us vs Q E R T U I (h _ _ _ _ M)⟩
section
variable{X:Cx}{pins:CG}{σ:St}{H:Hp}{s s':SD}
def Inv.km(I:At):ZL X.prog X.w X.K X.mg X.base X.A X.stack s H :=
 ⟨I.ok.frames,I.ok.mod,I.bs,Nat.le_trans I.ok.RT I.sz,I.stack,I.Rf,I.Al,I.bare,I.kt⟩
def Inv.after{Q:VK}{u:VL}(I:At)(h:CE X.stack X.prog X.w H s Q u s'):EP X pins σ Q u s':=by
 obtain⟨v,H',os,bare,un,Al,r,q⟩:=h;obtain⟨R,g,d,t,M⟩:=s';obtain rfl:M=s.os:=os;exact⟨v,H',I.call (h':=R) (g':=g) (d':=d) (t':=t) (ch:=[]) un Al bare (fun b z=>absurd z BY),r,q⟩
end
def UJ(sp:Sp)(g:tR)(E:XK)(t:TA):TE:=fun σ H Q=>t σ H fun vs I=>sp (vs++g) I Q E
def Binds(K:Fg)(fd:F0a)(ps:tK)(ds:sy):Prop :=
 ∀(s:SD) (us:List VL),K.In s.heap->(us++ds).length=ps.length->BindsTo s fd ⟨us,[]⟩ (ps.zip (us++ds))
def Binds.all{K:Fg}{fd:F0a}{ps:tK}(h:∀us:sy,us.length=ps.length->bindArgs fd ⟨us,[]⟩=pure (ps.zip us)):Binds K fd ps []:=fun s us _ g=>by
 rw[(J5)]at g ⊢;exact .of_eq (h us g)
def Passes(CX:GL)(X:Cx)(E:XK):Prop:=∀(pins:CG) (σ:St) (H:Hp) (s:SD) (e:VL) (s':SD),Inv X pins σ H s->CX X.stack H s E e s'->X.xe e s'
section
variable{X:Cx}{CX:GL}{k:Nat}{f:AD}{fd:F0a}{ps:tK}{sp:Sp}{dvs:tR}{ds:sy}{E:XK}{x:Str}{p pos:Pos}{e:Expr}{es:tL}{t:TA}
def cI{pins:CG}{σ:St}{H:Hp}{s:SD}{Q:VK}{us:sy}{vs:tR}(F:AI X.prog X.w X.K X.mg X.base CX k f fd ps sp)(T:CS k X.A)(Y:Binds X.K fd ps ds)(hd:Vals dvs ds)(R:Passes CX X E) (I:At)(r:Vals vs us)(h:sp (vs++dvs) H Q E):wpAny By X.A (call (.ref f) us) (EP X pins σ Q) X.xe s:=by
 have M:Vals (vs++dvs) (us++ds):=r.append hd;have U:(us++ds).length=ps.length:=by rw[<-M.length];exact F.len _ _ _ _ h
 refine wpAny_call (codeAny_mono (F.run X.A X.stack s H ⟨us,[]⟩ (us++ds) (vs++dvs) Q E T I.km (Y s us I.Gs U) M h) fun r s' g=>?_);cases r with
 |error e=>exact R pins σ H s e s' I g
 |ok Z=>
  cases Z with
  |ret u=>exact I.after g
  |next=>exact False.elim g
  |brk=>exact False.elim g
  |cont=>exact False.elim g
def XH(F:AI X.prog X.w X.K X.mg X.base CX k f fd ps sp)(U:CS k X.A)(Z:Gl X x)(hm:X.mg x=some (.ref f))(Y:PySem.W.keepIn X.K (.ref f)=true)(hb:Binds X.K fd ps ds)(hd:Vals dvs ds)(T:Passes CX X E) (ha:PA X (e::es) t)(M:FS=false:=by decide)(he:starEach (e::es) X.env=(false,eval e X.env)::starEach es X.env:=by rfl)(g:(backTo pos (starEach es X.env)).any (·.1)=false:=by rfl):PE X Fi (UJ sp dvs E t):=by
 intro pins s σ H Q I h;refine bT (Ko I Z hm ?_ M);refine PySem.W.callWith_K (h₀:=X.base) I.ok.mod.Pg Y (A9 (ha pos pins s σ H _ I h) fun us s1 ⟨vs,H1,R,r,q⟩=>⟨R.Gs,?_⟩) he g;exact cI F U hb hd T R r q
def gc(F:AI X.prog X.w X.K X.mg X.base CX k f fd ps sp)(R:CS k X.A)(U:Gl X x)(hm:X.mg x=some (.ref f))(T:PySem.W.keepIn X.K (.ref f)=true)(Y:Binds X.K fd ps ds)(hd:Vals dvs ds)(M:Passes CX X E) (g:FS=false:=by decide):PE X (.Call (.Name x p) [] [] pos) (UJ sp dvs E f7):=by
 intro pins s σ H Q I h;refine bT (Ko I U hm ?_ g);exact PySem.W.callWith_K0 I.Gs T (cI (us:=[]) F R Y hd M I .nil h)
end
structure Ad(N P:List Str)(sc:Scope):Prop where
 kind:sc.kind=.function
 co:sc.isCoroutine=false
 gen:sc.isGenerator=false
 nd:N.Nodup
 pre:N.take P.length=P
 par:∀x∈P,sc.names.lookup x=some .local\/sc.names.lookup x=some .cell
 lW:∀y∈sc.names,y.2≠.free
def Bk{N P:tK}{sc:Scope}(a:sc.kind=.function:=by rfl)(b:sc.isCoroutine=false:=by rfl)(c:sc.isGenerator=false:=by rfl)(d:N.Nodup:=by decide +kernel)(e:N.take P.length=P:=by rfl)(f:∀x ∈ P, sc.names.lookup x=some .local \/ sc.names.lookup x=some .cell:=by decide +kernel)(g:∀y ∈ sc.names, y.2 ≠ .free:=by decide +kernel):Ad N P sc:=⟨a, b, c, d, e, f, g⟩
theorem Tb{kindOf:Str->Option NameKind}{x:Str}:∀ {binds:List (Str×VL)} {m:Str->Option VL},(∀v,(x,v) ∉ binds)->bindL kindOf binds m x=m x
 |[],_,_=>rfl
 |(n,v)::r,m,h=>by
  unfold bindL;rw[Tb fun w g=>h w (aK _ g)];split
  .have:x≠n:=by rintro rfl;exact h v aO
   simp[this]
  .rfl
theorem S5{kindOf:Str->Option NameKind}{x:Str}:∀ {binds:List (Str×VL)} {m:Str->Option VL},(∀v,(x,v) ∉ binds)->bindC kindOf binds m x=m x
 |[],_,_=>rfl
 |(n,v)::r,m,h=>by
  unfold bindC;rw[S5 fun w g=>h w (aK _ g)];split
  .rfl
  .have:x≠n:=by rintro rfl;exact h v aO
   simp[this]
theorem TF{kindOf:Str->Option NameKind}{x:Str}{v:VL}:∀ {P:List Str} {vs:List VL} {i:Nat} {m:Str->Option VL},P.Nodup->P[i]? = some x->vs[i]? = some v->kindOf x=some .local ->
  bindL kindOf (P.zip vs) m x=some v
 |[],_,_,_,_,h,_,_=>by simp at h
 |_::_,[],_,_,_,_,h,_=>by simp at h
 |p::P,w::vs,0,m,nd,I,g,M=>by
  simp at I g;subst I;subst g;show bindL kindOf ((p,w)::P.zip vs) m p=_;unfold bindL;rw[Tb fun v R=>(bo.mp nd).1 (List.of_mem_zip R).1,if_pos M];simp
 |p::P,w::vs,i+1,m,nd,I,g,M=>by
  show bindL kindOf ((p,w)::P.zip vs) m x=_;unfold bindL;exact TF (i:=i) (bo.mp nd).2 (by simpa using I) (by simpa using g) M
theorem TY{kindOf:Str->Option NameKind}{x:Str}{v:VL}:∀ {P:List Str} {vs:List VL} {i:Nat} {m:Str->Option VL},P.Nodup->P[i]? = some x->vs[i]? = some v->kindOf x≠some .local ->
  bindC kindOf (P.zip vs) m x=some v
 |[],_,_,_,_,h,_,_=>by simp at h
 |_::_,[],_,_,_,_,h,_=>by simp at h
 |p::P,w::vs,0,m,nd,I,g,M=>by
  simp at I g;subst I;subst g;show bindC kindOf ((p,w)::P.zip vs) m p=_;unfold bindC;rw[S5 fun v R=>(bo.mp nd).1 (List.of_mem_zip R).1,if_neg M];simp
 |p::P,w::vs,i+1,m,nd,I,g,M=>by
  show bindC kindOf ((p,w)::P.zip vs) m x=_;unfold bindC;exact TY (i:=i) (bo.mp nd).2 (by simpa using I) (by simpa using g) M
def start(N:tK)(vs:tR):St:=vs.map some++List.replicate (N.length-vs.length) none
def CV(CX:GL)(P:F0b)(w:F0c)(K:Fg)(mg:tF)(base:Heap)(N:tK)(qual:Str)(scope:Scope)(f:AD)(cd:VL)(A:F0d)(outer:tV)(s:SD)(H:Hp)(E:XK):Cx where
 prog:=P
 w:=w
 K:=K
 mg:=mg
 base:=base
 A:=A.deeper (envOfC qual scope s.heap.objs.size f cd)
 N:=N
 s₀:=s
 H₀:=H
 env:=envOfC qual scope s.heap.objs.size f cd
 outer:=outer
 stack:=envOfC qual scope s.heap.objs.size f cd::outer
 ex:=[]
 calm:=true
 fn:=fun _=>true
 pn:=[]
 xe:=fun e s'=>wpAny (model P w) (A.deeper (envOfC qual scope s.heap.objs.size f cd)) (leaving (envOfC qual scope s.heap.objs.size f cd) e) (fun _ s''=>CX outer H s E e s'') (fun e' s''=>CX outer H s E e' s'') s'
def V4{sc:Scope}{n:Nat}{x:Str}(h:sc.names.lookup x=some .cell):∃c,(cellsFrom n sc.names []).lookup x=some c:=by
 have q:=PySem.W.cellsFrom_some sc.names n [] (.inl h);exact Option.isSome_iff_exists.mp q
def cm{CX:GL}{P:F0b}{w:F0c}{K:Fg}{mg:tF}{base:Heap}{N ps:tK}{qual:Str}{scope:Scope}{f:AD}{Z:VL}{A:F0d}{outer:tV}{s s1:SD}{H:Hp}{E:XK}{us:sy}{vs:tR} (S:Ad N ps scope)(hd:A.handled=none)(I:ZL P w K mg base A outer s H)(hl:vs.length=ps.length)(r:Vals vs us) (x:InCallC s s.heap.objs.size (bindL (envOfC qual scope s.heap.objs.size f Z).kindOf (ps.zip us) fun _=>none) (cellsFrom (s.heap.objs.size+1) scope.names []) (bindC (envOfC qual scope s.heap.objs.size f Z).kindOf (ps.zip us) fun _=>none) s1):Inv (CV CX P w K mg base N qual scope f Z A outer s H E) [] (start N vs) H s1:=by
 have hpl:ps.length<=N.length:=by have:=ai List.length S.pre;rw[(Fc)]at this;lia
 obtain⟨Y,tk,rfl,hk⟩:=x.done;have M:∀b:AD,b ∉ (CV CX P w K mg base N qual scope f Z A outer s H E).ex:=fun b z=>absurd (show b∈([]:List AD) from z) BY;refine⟨⟨I.mod,S.kind,rfl,rfl,Nat.le_refl _,fun y z c Y g=>?_,fun y R=>?_,fun y c _ h=>?_,fun _=>hd,Around.frames_deeper I.frames,.inr ⟨rfl,rfl⟩,fun b z=>absurd z (M b),I.bs,I.RT,fun b _ _=>M b,fun b z=>absurd z (M b),I.Ib,I.Qb,I.kt⟩,
  rfl,I.bare,Un.kept hk,⟨_,x.toInCall.ns,fun i y v Y g h3=>?_⟩,fun y c h=>⟨_,x.cell y c h⟩,I.Al.fresh (aG _),fun y c h=>?_,fun p U=>absurd (show p∈([]:List (AD×Obj)) from U) BY,I.Al.kept hk,?_⟩
 .exact name_of_addr x.apart (PySem.mem_of_lookup Y) (PySem.mem_of_lookup g)
 .have R:scope.names.lookup y=some .cell\/scope.names.lookup y=some .free:=R;rcases R with R|R
  .exact V4 R
  .exact absurd rfl (S.lW _ (PySem.mem_of_lookup R))
 .exact Nat.le_of_lt (x.above y c (PySem.mem_of_lookup h))
 .have hi:i<vs.length:=by
   unfold start at g;by_cases hi:i<vs.length
   .exact hi
   .rw[List.getElem?_append_right (by simpa using hi)]at g;rw[List.getElem?_replicate]at g;split at g<;>cases g
  have ha:vs[i]? = some v:=by
   unfold start at g;rw[List.getElem?_append_left (by simpa using hi),(BP)]at g;cases e:vs[i]? with
   |none=>rw[e]at g;cases g
   |some a=>rw[e]at g;cases g;rfl
  obtain⟨u,hu,rv⟩:=r.get ha;have U:ps[i]? = some y:=by
   rw[<-S.pre,List.getElem?_take_of_lt AC];exact Y
  have T:ps.Nodup:=by rw[<-S.pre];exact S.nd.sublist (List.take_sublist _ _)
  refine⟨u,rv,?_⟩;rcases S.par y (aL U) with k|k
  .exact .inl ⟨k,TF T U hu k⟩
  .obtain⟨c,e⟩:=V4 (n:=s.heap.objs.size+1) k;refine .inr ⟨.inl k,c,e,?_⟩;have q:=x.cell y c e;rw[TY T U hu (by show scope.names.lookup y≠_;rw[k];decide)]at q;exact q
 .exact I.Al.fresh (Nat.le_of_lt (x.above y c (PySem.mem_of_lookup h)))
 .unfold start;show _=N.length;rw[(De),(Af),List.length_replicate]
  lia
def gj{CX:GL}{P:F0b}{w:F0c}{K:Fg}{mg:tF}{base:Heap}{k:Nat}{f:AD}{name qual:Str}{params:Arguments}{g:tU}{scope:Scope}{dV kV doc pm cdv ct oc:VL}{an od:Option AD} {osl:Array (Option VL)}{N ps:tK}{sp:Sp}(lk:K.lookup f=some ⟨oc,od,.func (PySem.W.fnOf name qual params g scope dV kV doc pm an cdv ct),osl⟩)(hcd:PySem.W.codeIn K cdv qual=true)(S:Ad N ps scope) (len:∀vs H Q E,sp vs H Q E->vs.length=ps.length) (T:∀(A:F0d) (outer:tV) (s:SD) (H:Hp) (vs:tR) (Q:VK) (E:XK),CS k (A.deeper (envOfC qual scope s.heap.objs.size f cdv))->sp vs H Q E ->∃t,Ie (CV CX P w K mg base N qual scope f cdv A outer s H E) g t/\t { nx:=fun _ H'=>Q .Bf H',rt:=Q} (start N vs) H):AI P w K mg base CX (k+1) f (PySem.W.fnOf name qual params g scope dV kV doc pm an cdv ct) ps sp:=by
 refine⟨len,fun A outer s H args us vs Q E hr Z hb r Y=>?_⟩;have hl:=len _ _ _ _ Y;have KX:K.In s.heap:=Z.mod.Pg.keeps fun b o e=>(Z.bs b o e).1;have lim:s.heap.NoLimit:=Z.mod.nolimit.keeps fun b o e=>(Z.bs b o e).1;have R:∀y∈ps.zip us,scope.names.lookup y.1=some .local\/(scope.names.lookup y.1=some .cell/\((cellsFrom (s.heap.objs.size+1) scope.names []).lookup y.1).isSome=true):=fun⟨n,v⟩ hy=>by
  rcases S.par n (List.of_mem_zip hy).1 with q|q
  .exact .inl q
  .exact .inr ⟨q,PySem.W.cellsFrom_some _ _ _ (.inl q)⟩
 refine codeAny_call_function hr.depth (KX _ _ lk) rfl S.co S.gen rfl (PySem.W.codeRec_of KX hcd) (hb _ _ _ _ ?_);refine wpAny_newFunctionEnv_cells S.kind R fun env he s1 x=>?_;subst he;refine⟨lim.keeps x.toInCall.keep,codeAny_func ?_⟩;obtain⟨t,ht,hq⟩:=T A outer s H vs Q E (hr.deeper _) Y;have I:Inv (CV CX P w K mg base N qual scope f cdv A outer s H E) [] (start N vs) H s1:=cm S hr.hd Z hl r x;refine aY (ht [] s1 (start N vs) H _ I hq) (fun fl s' U=>?_) fun e s' U=>U;have fin:∀ {M:St} {H':Hp} {v:V} {u:VL},Inv (CV CX P w K mg base N qual scope f cdv A outer s H E) [] M H' s'->RelV v u->Q v H'->CE outer P w H s Q u s' :=
  fun {M H' v u} J rv q=>⟨v,H',J.os,J.bare,J.base,J.Al,rv,q⟩
 cases fl with
 |ret u=>
  obtain⟨v,M,H',J,rv,q⟩:=U;exact fin J rv q
 |next=>
  obtain⟨M,H',J,q⟩:=U;exact fin (v:=V.Bf) (u:=Value.none) J rfl q
 |brk=>
  obtain⟨_,_,_,q⟩:=U;exact False.elim q
 |cont=>
  obtain⟨_,_,_,q⟩:=U;exact False.elim q
section
variable{X:Cx}{x:Str}{p pos:Pos}{e:Expr}{es:tL}{t:TA}{id T:String}{r:List V->Hp->VK->Prop}
def qE(r:List V->Hp->VK->Prop)(t:TA):TE:=fun σ H Q=>t σ H fun vs g=>r vs g Q
def BM(hc:FR X (.builtin id) r)(Z:Gl X x)(hm:X.mg x=none)(Y:bootBuiltins x=some (.builtin id))(ha:PA X (e::es) t)(hn:x ≠ "__name__":=by decide)(M:FS=false:=by decide) (he:starEach (e::es) X.env=(false,eval e X.env)::starEach es X.env:=by rfl)(g:(backTo pos (starEach es X.env)).any (·.1)=false:=by rfl):PE X Fi (qE r t):=by
 intro pins s σ H Q I h;refine bT (Ir I Z hm Y ?_ hn M);exact PyProof.Rows.callWith_builtin1 (A9 (ha pos pins s σ H _ I h) fun us s1 ⟨vs,H1,I1,R,U⟩=>hc pins s1 σ H1 vs us Q I1 R U) he g
def S4(hc:FR X (.type T) r)(Z:Gl X x)(hm:X.mg x=none)(Y:bootBuiltins x=some (.type T))(ha:PA X (e::es) t)(hn:x ≠ "__name__":=by decide)(M:FS=false:=by decide) (he:starEach (e::es) X.env=(false,eval e X.env)::starEach es X.env:=by rfl)(g:(backTo pos (starEach es X.env)).any (·.1)=false:=by rfl):PE X Fi (qE r t):=by
 intro pins s σ H Q I h;refine bT (Ir I Z hm Y ?_ hn M);exact bS (A9 (ha pos pins s σ H _ I h) fun us s1 ⟨vs,H1,I1,R,U⟩=>hc pins s1 σ H1 vs us Q I1 R U) he g
end
end L2
namespace HT
open PySem PyProof.Rows
section
variable{prog:F0b}{w:F0c}{A:F0d}{E:tE}{s:SD}
def jw{t b:AD}{vs g:sy}{Q:tE}(ht:IsTup s.heap t vs.toArray)(hb:IsTup s.heap b g.toArray)(hv:vs≠[]) (h1:g=[]->Q (.ref t) s)(h2:g≠[]->Q (.ref s.heap.objs.size) {s with heap:=s.heap.push { cls:=.type "tuple",data:=.seq (vs++g).toArray} }) (hsz:vs.length+g.length<=sizeLine):wpAny As A (binaryOp .Add (.ref t) (.ref b)) Q E s:=by
 obtain⟨⟨cls,dd,data,sl⟩,Z,hc,n,hd⟩:=id ht;obtain⟨⟨cls2,U,data2,M⟩,I,T,n2,R⟩:=id hb;simp only at hc hd T R;subst hc hd T R;have e:vs.toArray++g.toArray=(vs++g).toArray:=by simp
 by_cases Y:g=[]
 .exact concat_meets ⟨_,Z,rfl⟩ ⟨_,I,rfl⟩ noFill_tuple_add seq_tuple_add PySem.F.slot_tuple_add PySem.F.entry_tuple_add (PySem.F.args_tuple_add_2 _ _)
   (tuple_addW1 t b vs.toArray g.toArray n n2 dd U sl M (by simpa using hv) (by simp[Y])) ⟨Z,I,h1 Y⟩
 .refine concat_meets ⟨_,Z,rfl⟩ ⟨_,I,rfl⟩ noFill_tuple_add seq_tuple_add PySem.F.slot_tuple_add PySem.F.entry_tuple_add (PySem.F.args_tuple_add_2 _ _)
   (tuple_addW2 t b vs.toArray g.toArray n n2 dd U sl M (by simpa using hv) (by simpa using Y) (by rw[(Dd),(Dd)];exact hsz)) ⟨Z,I,?_⟩
  rw[e];exact h2 Y
def BH(n d:Nat):Option Int->Nat
 |none=>d
 |some v=>if v<0 then(v+(n:Int)).toNat else min v.toNat n
def LJ(n d:Nat):BH n d none=d:=rfl
def Hs(n d k:Nat):BH n d (some (k:Int))=min k n:=by
 show(if(k:Int)<0 then((k:Int)+(n:Int)).toNat else min (k:Int).toNat n)=min k n;rw[if_neg AC,(N3)]
def mv(n d:Nat)(hd:d<=n)(o:tN):BH n d o<=n:=by
 cases o with
 |none=>exact hd
 |some v=>
  show(if v<0 then(v+(n:Int)).toNat else min v.toNat n)<=n;by_cases g:v<0
  .rw[if_pos g];lia
  .rw[if_neg g];exact Nat.min_le_right _ _
def XE(v:Int)(n d:Nat):(if v<0 then max (v+(n:Int)) 0 else min v (n:Int))=((BH n d (some v):Nat):Int):=by
 show(if v<0 then max (v+(n:Int)) 0 else min v (n:Int))=(((if v<0 then(v+(n:Int)).toNat else min v.toNat n):Nat):Int);by_cases g:v<0
 .simp only[if_pos g];lia
 .simp only[if_neg g];lia
def YX(lo hi:tN)(n:Nat):Builtin.Slice.sliceAdjust lo hi 1 (n:Int)=(((BH n 0 lo:Nat):Int),((BH n n hi:Nat):Int)):=by
 have g:¬((1:Int)<0):=by lia
 unfold Builtin.Slice.sliceAdjust;simp only[g,if_false];refine Prod.ext ?_ ?_
 .cases lo with
  |none=>rfl
  |some v=>exact XE v n 0
 .cases hi with
  |none=>rfl
  |some v=>exact XE v n n
def Yk(i j:Nat):Builtin.Slice.slicePlaces (i:Int) (j:Int) 1=j-i:=by
 unfold Builtin.Slice.slicePlaces;have g:(1:Int) > 0:=by lia
 simp only[g,if_true,Int.ediv_one];split<;>lia
def RM{v:VL}{o:tN}{Q:Option Int->SD->Prop}(p:IsPart v o)(h:Q o s):wpAny As A (Builtin.Slice.slicePartIndex v) Q E s:=by
 cases p with
 |none=>exact slicePart_none h
 |int i t=>exact slicePart_int h
def LR{sl:AD}{R M:VL}{lo hi:tN}{n:Nat}{Q:Int×Int×Nat->SD->Prop}(Y:s.heap.IsSliceOf sl R M .none)(U:IsPart R lo)(T:IsPart M hi) (h:Q (((BH n 0 lo:Nat):Int),1,BH n n hi-BH n 0 lo) s):wpAny As A (Builtin.Slice.sliceApplied (.ref sl) (pure (n:Int))) Q E s:=by
 obtain⟨os,g,Z,I⟩:=id Y;unfold Builtin.Slice.sliceApplied Builtin.Slice.sliceFields;refine Wb (Wb (aq g I (x:=R) rfl (Wb (aq g I (x:=M) rfl (Wb (aq g I (x:=.none) rfl (aA ?_)))))));refine Wb (slicePart_none ?_);show wpAny _ _ (if((1:Int)==0)=true then _ else _) _ _ s;rw[if_neg AS];refine Wb (RM U (Wb (RM T (Wb (aA ?_)))));show wpAny _ _ (match Builtin.Slice.sliceAdjust lo hi 1 (n:Int) with|(lo,hi)=>pure (lo,(1:Int),Builtin.Slice.slicePlaces lo hi 1)) _ _ s;rw[YX lo hi n];show wpAny _ _ (pure (((BH n 0 lo:Nat):Int),(1:Int),Builtin.Slice.slicePlaces ((BH n 0 lo:Nat):Int) ((BH n n hi:Nat):Int) 1)) _ _ s;rw[Yk];exact aA h
def fF(xs:Array VL)(i k:Nat):((List.range k).filterMap fun(m:Nat)=>xs[((i:Int)+(m:Int)*1).toNat]?).toArray=((xs.toList.drop i).take k).toArray:=by
 have e:(fun(m:Nat)=>xs[((i:Int)+(m:Int)*1).toNat]?)=fun m=>xs[i+m]? := by
  funext m
  have:((i:Int)+(m:Int)*1).toNat=i+m:=by lia
  rw[this]
 rw[e];have:=pick_run xs i k;rw[List.filterMap_map]at this;have g:((fun x=>xs[x]?) ∘ fun x=>i+x)=fun m=>xs[i+m]?:=rfl;rw[g]at this;rw[this]
def O9{t sl:AD}{items:Array VL}{Z Y:VL}{lo hi:tN}{Q:tE}(I:IsTup s.heap t items)(hs:s.heap.IsSliceOf sl Z Y .none)(pl:IsPart Z lo)(pu:IsPart Y hi) (hw:¬(BH items.size 0 lo=0/\BH items.size items.size hi=items.size)) (h:Q (.ref s.heap.objs.size) {s with heap:=s.heap.push { cls:=.type "tuple",data:=.seq ((items.toList.drop (BH items.size 0 lo)).take (BH items.size items.size hi-BH items.size 0 lo)).toArray} }) (hsz:items.size<=sizeLine):wpAny As A (getItem (.ref t) (.ref sl)) Q E s:=by
 have g:sizeOk (.seq ((items.toList.drop (BH items.size 0 lo)).take (BH items.size items.size hi-BH items.size 0 lo)).toArray):=by
  show((items.toList.drop (BH items.size 0 lo)).take (BH items.size items.size hi-BH items.size 0 lo)).toArray.size<=sizeLine;rw[(Dd),(Fc),(Ro),(VR)]
  lia
 have hj:BH items.size items.size hi<=items.size:=mv _ _ (aG _) hi;obtain⟨os,M,T,hds⟩:=id hs;have U:s.TypeIs (.ref sl) "slice" := ⟨os,M,T⟩;unfold getItem
 try with_reducible refine ae ?_
 first|refine Wb (aA ?_)|skip
 refine Wb (wpAny_sequenceKey I.typeIs AS ?_);refine Wb (aX (name:=Str.ofString "__getitem__") I.typeIs bY
  (aa bY I.typeIs entry_tuple_getitem ?_ (args_tuple_getitem _ _)))
 show wpAny _ _ (Builtin.Tuple.tupleItemsOf (.ref t)>>=_) _ _ s;refine Wb (tupleItemsOf_ I ?_);refine Wb (wpAny_typeOf U ?_);rw[if_pos AS];refine Wb (LR hs pl pu ?_);have R:¬((((BH items.size 0 lo:Nat):Int)==0&&(1:Int)==1&&(BH items.size items.size hi-BH items.size 0 lo)==items.size)=true):=by
  intro q;rw[(Jr),(Jr)]at q;have q1:((BH items.size 0 lo:Nat):Int)=0:=eq_of_beq q.1.1;have q2:BH items.size items.size hi-BH items.size 0 lo=items.size:=eq_of_beq q.2;exact hw ⟨by lia,by lia⟩
 show wpAny _ _ (if(((BH items.size 0 lo:Nat):Int)==0&&(1:Int)==1&&(BH items.size items.size hi-BH items.size 0 lo)==items.size)=true then _ else _) _ _ s;rw[if_neg R,fF]
 first
  |exact Wb (m:=Builtin.Tuple.tupleExact _) (aZ (aA ⟨_,rfl,wpAny_pure h⟩) g)
  |exact Wb (m:=Builtin.Tuple.tupleExact _) (aZ (Wb (aA (aA ⟨_,rfl,wpAny_pure h⟩))) g)
  |exact Wb (Wb (m:=Builtin.Tuple.tupleExact _) (aZ (aA (aA ⟨_,rfl,wpAny_pure h⟩)) g))
  |exact Wb (Wb (m:=Builtin.Tuple.tupleExact _) (aZ (aA ⟨_,rfl,wpAny_pure h⟩) g))
end
end HT
namespace L2
open PySem PySem.Spec PyProof.Rows
abbrev TO:=St->Hp->(Option Int->Hp->Prop)->Prop
def PO(X:Cx)(e:Option Expr)(t:TO):Prop :=
 ∀(pins:CG) (s:SD) (σ:St) (H:Hp) (Q:Option Int->Hp->Prop),Inv X pins σ H s->t σ H Q ->
  wpAny By X.A (evalPart e X.env) (fun u s'=>∃o H',Inv X pins σ H' s'/\IsPart u o/\Q o H') X.xe s
def jq:TO:=fun _ H Q=>Q none H
def ot(t:TE):TO:=fun σ H Q=>t σ H fun x g=>∃i,x=.int i/\Q (some i) g
def intsAre_of{ns:tJ}:∀ {us:sy},Vals (ns.map V.int) us->IntsAre us ns:=by
 induction ns with
 |nil=>intro us r;rw[(Mw)]at r;cases r;exact .nil
 |cons n ns M=>
  intro us r;rw[(BA)]at r;cases r with
  |cons I g=>
   obtain⟨t,e⟩:=I;subst e;exact .cons n t (M g)
section
variable{X:Cx}{e:Expr}{te:TE}{lo hi:Option Expr}{tl th:TO}{pos p2:Pos}
def O6:PO X none jq:=by
 intro pins s σ H Q I h;rw[evalPart_none];exact aA ⟨none,H,I,.none,h⟩
def Og(h:PE X e te):PO X (some e) (ot te):=by
 intro pins s σ H Q I R;rw[evalPart_some];refine A9 (h pins s σ H _ I R) fun u s1 ⟨x,U,T,g,M⟩=>?_;obtain⟨i,rfl,q⟩:=M;obtain⟨t,rfl⟩:=g;exact⟨some i,U,T,.int i t,q⟩
def Sl(X:Cx)(r:V->Option Int->Option Int->Hp->VK->Prop):Prop :=
 ∀(pins:CG) (s:SD) (σ:St) (H:Hp) (x:V) (v I g:VL) (lo hi:Option Int) (sl:AD) (Q:VK),Inv X pins σ H s->RelV x v->s.heap.IsSliceOf sl I g .none->IsPart I lo->IsPart g hi->r x lo hi H Q ->
  ∃T id,typeLookup (.type T) "__getitem__" = pure (some (.builtin id))/\s.TypeIs v T/\wpAny By X.A (getItem v (.ref sl)) (EP X pins σ Q) X.xe s
def Sl.or{r T:V->Option Int->Option Int->Hp->VK->Prop}(h:Sl X r)(h':Sl X T):Sl X (fun x lo hi H Q=>r x lo hi H Q\/T x lo hi H Q):=by
 intro pins s σ H x v M g lo hi sl Q I R Z Y U q;rcases q with q|q
 .exact h pins s σ H x v M g lo hi sl Q I R Z Y U q
 .exact h' pins s σ H x v M g lo hi sl Q I R Z Y U q
def sE(r:V->Option Int->Option Int->Hp->VK->Prop)(te:TE)(tl th:TO):TE:=fun σ H Q=>te σ H fun x M=>tl σ M fun l I=>th σ I fun u g=>r x l u g Q
def Mx{r:V->Option Int->Option Int->Hp->VK->Prop}(hr:Sl X r)(he:PE X e te)(hl:PO X lo tl)(hu:PO X hi th):PE X (.Subscript e (.Slice lo hi none p2) pos) (sE r te tl th):=by
 intro pins s σ H Q I h;refine Subscript_ (A9 (he pins s σ H _ I h) fun v s1 ⟨x,H1,I1,Y,q1⟩=>?_);refine wpAny_Slice (A9 (hl pins s1 σ H1 _ I1 q1) fun R s2 ⟨l,H2,I2,pl,q2⟩=>A9 (hu pins s2 σ H2 _ I2 q2) fun M g ⟨u,U,I3,pu,Z⟩=>?_);rw[evalPart_none];refine aA ?_;have I4:Inv X pins σ U {g with heap:=g.heap.push { cls:=.type "slice",data:=.fields #[R,M,.none]} }:=I3.kept (t':=g.toks) fun b ob q=>aF _ q;obtain⟨T,id,hT,ht,hg⟩:=hr pins {g with heap:=g.heap.push { cls:=.type "slice",data:=.fields #[R,M,.none]} } σ U x v R M l u g.heap.objs.size Q I4 Y (Heap.IsSliceOf.new ..) pl pu Z;show wpAny By X.A (subscriptTail e (.Slice lo hi none p2) v (.ref g.heap.objs.size)) (EP X pins σ Q) X.xe {g with heap:=g.heap.push { cls:=.type "slice",data:=.fields #[R,M,.none]} };exact tail_any (ops:=[.ref g.heap.objs.size,v]) ht hT hg (by with_unfolding_all rfl)
def EF(xs:tR)(lo hi:tN):tR:=(xs.drop (HT.BH xs.length 0 lo)).take (HT.BH xs.length xs.length hi-HT.BH xs.length 0 lo)
def JT(xs:tR)(lo hi:tN):(EF xs lo hi).length<=xs.length:=by
 unfold EF;rw[(Fc),(Ro)]
 lia
def qR(K:Fg):V->Option Int->Option Int->Hp->VK->Prop:=fun x lo hi H Q=>∃a xs,x=.ref a/\Ax K H a xs /\
 ¬(HT.BH xs.length 0 lo=0/\HT.BH xs.length xs.length hi=xs.length)/\∀p,H p=none->Q (.ref p) (upd H p (.tup (EF xs lo hi)))
def cN:Sl X (qR X.K):=by
 intro pins s σ H x v vl vu lo hi sl Q I U hs Z Y h;obtain⟨a,xs,rfl,hx,hw,q⟩:=h;cases U;obtain⟨M,r,T,R⟩:=I.tuple hx;have g:M.toArray.size=xs.length:=by rw[(Dd)];exact r.length.symm
 refine⟨"tuple",_,PyProof.Rows.slot_tuple_getitem.lookup,T.typeIs,?_⟩;refine HT.O9 T hs Z Y (by rw[g];exact hw) ?_ (by rw[g];exact R);rw[g];refine⟨.ref s.heap.objs.size,_,I.laid (t':=s.toks) (o:=.tup (EF xs lo hi)) (fun b ob q=>aF _ q) (aG _) ?_,rfl,q _ (I.Al.fresh (aG _))⟩;exact⟨aT (JT xs lo hi) R,_,(r.drop (HT.BH xs.length 0 lo)).take (HT.BH xs.length xs.length hi-HT.BH xs.length 0 lo),IsTup.new _ _⟩
def Vals.Xx{xs:tR}{us:sy}(r:Vals xs us):us=[] ↔ xs=[]:=by
 cases r with
 |nil=>simp
 |cons _ _=>simp
end
def Td(n:Nat)(i:Int):Option Nat:=if 0<=i then(if i<n then some i.toNat else none) else if -(n:Int)<=i then some (i+n).toNat else none
def GJ{α:Type}(xs:List α)(i:Int):Option α:=(Td xs.length i).bind fun j=>xs[j]?
def YM{n:Nat}{i:Int}{j:Nat}(h:Td n i=some j):seqIndex? i n=some j/\j<n/\-(n:Int)<=i/\i<n:=by
 unfold Td at h;by_cases h0:0<=i
 .rw[if_pos h0]at h;by_cases g:i<n
  .rw[if_pos g]at h;have e:i.toNat=j:=ak h;exact⟨by rw[seqIndex_of h0 g,e],by lia,by lia,g⟩
  .rw[if_neg g]at h;cases h
 .rw[if_neg h0]at h;by_cases g:-(n:Int)<=i
  .rw[if_pos g]at h;have e:(i+n).toNat=j:=ak h;exact⟨by rw[seqIndex_neg AC g,e],by lia,g,by lia⟩
  .rw[if_neg g]at h;cases h
def Sf{α:Type}{xs:List α}{i:Int}{v:α}(h:GJ xs i=some v):∃j,seqIndex? i xs.length=some j/\xs[j]? = some v/\j<xs.length/\-(xs.length:Int)<=i/\i<xs.length:=by
 unfold GJ at h;cases e:Td xs.length i with
 |none=>rw[e]at h;cases h
 |some j=>
  rw[e]at h;obtain⟨R,M,I,g⟩:=YM e;exact⟨j,R,h,M,I,g⟩
def Ew{α:Type}{xs:List α}{j:Nat}{v:α}(h:xs[j]? = some v):GJ xs (j:Int)=some v:=by
 have g:j<xs.length:=(aB.mp h).1;have e:Td xs.length (j:Int)=some j:=by
  unfold Td;rw[if_pos AC,if_pos AC];simp
 unfold GJ;rw[e];exact h
def YJ(b:Expr):Prop:=∀o i,subscripted b false o i=operate [o,i] (getItem o i)
def PY(X:Cx)(r:R2):Prop :=
 ∀(value slice:Expr) (pins:CG) (s:SD) (σ:St) (H:Hp) (x y:V) (v u:VL) (Q:VK),Inv X pins σ H s->RelV x v->RelV y u->r x y H Q ->
  subscripted slice false v u=operate [v,u] (getItem v u)->wpAny By X.A (subscriptTail value slice v u) (EP X pins σ Q) X.xe s
def sW(X:Cx)(id:String)(r:V->List V->Hp->VK->Prop):Prop :=
 ∀(pins:CG) (s:SD) (σ:St) (H:Hp) (x:V) (xs:List V) (v:VL) (us:List VL) (Q:VK),Inv X pins σ H s->RelV x v->Vals xs us->r x xs H Q ->
  wpAny By X.A (call (.builtin id) (v::us)) (EP X pins σ Q) X.xe s
section
variable{X:Cx}{a b:Expr}{ta tb:TE}{pos:Pos}
def PY.or{r R:R2}(h:PY X r)(h':PY X R):PY X (fun x y H Q=>r x y H Q\/R x y H Q):=by
 intro value slice pins s σ H x y v u Q I M g q T;rcases q with q|q
 .exact h value slice pins s σ H x y v u Q I M g q T
 .exact h' value slice pins s σ H x y v u Q I M g q T
def B1{r:R2}(T:PY X r)(ha:PE X a ta)(U:PE X b tb)(R:YJ b):PE X (.Subscript a b pos) (Zy r ta tb):=by
 intro pins s σ H Q I h;exact Subscript_ (gY ha U I h fun v u s2 x y Z Y M g q=>T a b pins s2 σ Z x y v u Q Y M g q (R _ _))
def nV(K:Fg):R2:=fun x y H Q=>∃p xs i v,x=.ref p/\y=.int i/\Aj K H p xs/\GJ xs i=some v/\Q v H
def fM(K:Fg):R2:=fun x y H Q=>∃p xs i v,x=.ref p/\y=.int i/\Ax K H p xs/\GJ xs i=some v/\Q v H
def nJ:R2:=fun x y H Q=>∃z i c,x=.str z/\y=.int i/\z.length<=sizeLine/\GJ z.cps.toList i=some c/\Q (.str ⟨#[c]⟩) H
def Kp:PY X (nV X.K):=by
 intro value slice pins s σ H x y v u Q I rx ry h Y;obtain⟨p,xs,i,z,rfl,rfl,hq,he,q⟩:=h;cases rx;obtain⟨t,rfl⟩:=ry;obtain⟨T,r,R,hz⟩:=I.list hq;obtain⟨j,g,h2,h3,h4,h5⟩:=Sf he;obtain⟨w,Z,M⟩:=r.get h2;have hl:=r.length;have hn:=OT;have fin:EP X pins σ Q w s:=⟨z,H,I,M,q⟩;by_cases h0:0<=i
 .have U:i.toNat=j:=by
   rw[seqIndex_of h0 h5]at g;exact ak g
  exact item_listR R.isList h0 AC (by rw[U];simpa using Z) fin Y
 .have U:(i+(T.toArray.size:Int)).toNat=j:=by
   rw[seqIndex_neg AC h4]at g;rw[(Dd),<-hl];exact ak g
  exact subscriptTail_builtinR (x:=w) R.isList.typeIs slot_list_getitem.lookup
   (wpAny_getItem_list_neg (Q:=fun r s'=>r=w/\EP X pins σ Q r s') R.isList AC (by rw[(Dd)]<;>lia) AC (by rw[U];simpa using Z) ⟨rfl,fin⟩) Y
def Ce:PY X (fM X.K):=by
 intro value slice pins s σ H x y v u Q I T R h Y;obtain⟨p,xs,i,z,rfl,rfl,Z,he,q⟩:=h;cases T;obtain⟨t,rfl⟩:=R;obtain⟨U,r,M,hz⟩:=I.tuple Z;obtain⟨j,h1,h2,h3,h4,h5⟩:=Sf he;obtain⟨w,ew,g⟩:=r.get h2;have hl:=r.length;have hn:=OT;have fin:EP X pins σ Q w s:=⟨z,H,I,g,q⟩;exact subscriptTail_builtinR (x:=w) M.typeIs slot_tuple_getitem.lookup
  (getItem_tuple (j:=j) (Q:=fun r s'=>r=w/\EP X pins σ Q r s') M AC AC (by rw[(Dd),<-hl];exact h1) (by simpa using ew) ⟨rfl,fin⟩) Y
def nc:PY X nJ:=by
 intro value slice pins s σ H x y v u Q I R M h T;obtain⟨z,i,c,rfl,rfl,hz,Y,q⟩:=h;obtain⟨t,rfl⟩:=R;obtain⟨t',rfl⟩:=M;obtain⟨j,g,h2,h3,h4,Z⟩:=Sf Y;have U:z.cps.toList.length=z.length:=by simp[Str.length]
 rw[U]at g h4 Z;have hn:=OT;exact tail_any (typeIs_str s z t) slot_str_getitem.lookup (getItem_str (c:=c) (by
  have e1:decide (i < -(2^63:Int))=false:=au AC;have e2:decide (i >= 2^63)=false:=au AC;rw[e1,e2,Bool.or_false]) (by rw[g];simpa using h2) ⟨.str ⟨#[c]⟩,H,I.tok _,⟨_,rfl⟩,q⟩) T
def sI(K:Fg):R2:=fun x y H Q=>nV K x y H Q\/fM K x y H Q\/nJ x y H Q
def nS:PY X (sI X.K):=Kp.or (Ce.or nc)
def ZX(g:sy)(n j:Nat)(u:VL):Obj.mapSeq (·.setIfInBounds j u) { cls:=.type "list",data:=.seq g.toArray n}={ cls:=.type "list",data:=.seq (g.set j u).toArray n}:=by
 simp[Obj.mapSeq]
def Inv.lst{pins:CG}{σ:St}{H:Hp}{s:SD}{p:AD}{xs:tR}(I:At)(h:H p=some (.lst xs)):∃(g:sy) (n:Nat),Vals xs g/\s.heap.get? p=some { cls:=.type "list",data:=.seq g.toArray n}/\xs.length<=sizeLine:=by
 obtain⟨z,g,n,r,e⟩:=I.Al p _ h;exact⟨g,n,r,e,z⟩
def Inv.lM{pins:CG}{σ:St}{H:Hp}{s:SD}{p:AD}{xs ys:tR}{g its':sy}{n M:Nat}{f:Obj->Obj}(I:At)(h:H p=some (.lst xs)) (T:s.heap.get? p=some { cls:=.type "list",data:=.seq g.toArray n})(R:f { cls:=.type "list",data:=.seq g.toArray n}={ cls:=.type "list",data:=.seq its'.toArray M})(r:Vals ys its')(hz:ys.length<=sizeLine)(t:Nat):Inv X pins σ (upd H p (.lst ys)) {s with heap:=s.heap.update p f,toks:=t}:=by
 have e:(s.heap.update p f).get? p=some { cls:=.type "list",data:=.seq its'.toArray M}:=by
  rw[Heap.get?_update_self f T (by rw[R]<;>rfl),R]
 refine I.write (x:=p) (e:=p) (by rw[h];trivial) (.inl rfl) (fun b u U q=>(Heap.get?_update_other _ _ (Ne.symm U)).trans q) ⟨_,e⟩ ?_;exact⟨hz,its',M,r,e⟩
def oK:V->V->V->Hp->(Hp->Prop)->Prop:=fun o i v H Q=>∃p xs k j,o=.ref p/\i=.int k/\H p=some (.lst xs)/\Td xs.length k=some j/\Q (upd H p (.lst (xs.set j v)))
def set_list:gN X oK:=by
 intro pins s σ H o i v ov iv u Q I ro ri rv h;obtain⟨p,xs,k,j,rfl,rfl,Y,hj,q⟩:=h;cases ro;obtain⟨t,rfl⟩:=ri;obtain⟨g,n,r,R,hz⟩:=I.lst Y;obtain⟨M,h2,h3,Z⟩:=YM hj;have T:=r.length;have hn:=OT;have I':Inv X pins σ (upd H p (.lst (xs.set j v))) {s with heap:=s.heap.update p (Obj.mapSeq (·.setIfInBounds j u))} :=
  I.lM Y R (ZX g n j u) (r.set rv j) (by rw[List.length_set];exact hz) s.toks
 by_cases h0:0<=k
 .have U:k.toNat=j:=by
   rw[seqIndex_of h0 Z]at M;exact ak M
  exact PySem.W.ki_setAt R h0 AC (by rw[(Dd),<-T];exact Z) (by rw[U];exact⟨_,I',q⟩)
 .have U:(k+(g.toArray.size:Int)).toNat=j:=by
   rw[seqIndex_neg AC h3]at M;rw[(Dd),<-T];exact ak M
  exact PySem.W.ki_setBack R AC (by rw[(Dd),<-T];exact h3) AC (by rw[U];exact⟨_,I',q⟩)
def U7(lo hi:tN)(n:Nat):(sliceBounds lo hi none n).1=((HT.BH n 0 lo:Nat):Int)/\(sliceBounds lo hi none n).2.1=((HT.BH n n hi:Nat):Int)/\(sliceBounds lo hi none n).2.2=1:=by
 refine⟨?_,?_,rfl⟩
 .cases lo with
  |none=>simp[sliceBounds,HT.BH]
  |some i=>
   simp only[sliceBounds,HT.BH,Option.getD_none,show(1:Int) > 0 by decide,if_true];by_cases h:i<0
   .simp only[h,if_true]<;>lia
   .simp only[h,if_false]<;>lia
 .cases hi with
  |none=>simp[sliceBounds,HT.BH]
  |some i=>
   simp only[sliceBounds,HT.BH,Option.getD_none,show(1:Int) > 0 by decide,if_true];by_cases h:i<0
   .simp only[h,if_true]<;>lia
   .simp only[h,if_false]<;>lia
def Tu(g:sy)(lo hi:tN):slicePick g.toArray lo hi none=((g.drop (HT.BH g.length 0 lo)).take (HT.BH g.length g.length hi-HT.BH g.length 0 lo)).toArray:=by
 obtain⟨R,M,I⟩:=U7 lo hi g.toArray.size;unfold slicePick;rw[R,M,I];simp only[sliceRange_one,pick_run,List.size_toArray]<;>rfl
def rE(K:Fg):V->Option Int->Option Int->Hp->VK->Prop:=fun x lo hi H Q=>∃a xs,x=.ref a/\Aj K H a xs/\∀p,H p=none->Q (.ref p) (upd H p (.lst (EF xs lo hi)))
def R5:Sl X (rE X.K):=by
 intro pins s σ H x v vl vu lo hi sl Q I R hs U T h;obtain⟨a,xs,rfl,hx,q⟩:=h;cases R;obtain⟨Y,r,M,Z⟩:=I.list hx;have g:=r.length;refine⟨"list",_,slot_list_getitem.lookup,M.isList.typeIs,?_⟩;refine wpAny_getItem_list_slice M.isList hs U T .none BY ?_ (by rw[(Dd)]<;>lia);rw[Tu,<-g];refine⟨.ref s.heap.objs.size,_,I.laid (t':=s.toks) (o:=.lst (EF xs lo hi)) (fun b ob q=>aF _ q) (aG _) ?_,rfl,q _ (I.Al.fresh (aG _))⟩;exact⟨aT (JT xs lo hi) Z,_,0,(r.drop (HT.BH xs.length 0 lo)).take (HT.BH xs.length xs.length hi-HT.BH xs.length 0 lo),Heap.get?_push_size _ rfl⟩
def D7:FR X (.builtin "len") (fun xs H Q=>∃p ys,xs=[.ref p]/\(Aj X.K H p ys\/Ax X.K H p ys)/\Q (.int ys.length) H):=by
 intro pins s σ H xs us Q I r h;obtain⟨p,ys,rfl,M,q⟩:=h;obtain⟨u,rfl,Y⟩:=vals1 r;cases Y;have hn:=OT;rcases M with M|M
 .obtain⟨U,R,T,Z⟩:=I.list M;have g:=R.length;exact Calls.call_len_list T.isList (by simp only[List.size_toArray]<;>lia) ⟨.int ys.length,H,I.tok _,⟨s.toks+1,by rw[(Dd),g]⟩,q⟩
 .obtain⟨U,R,T,Z⟩:=I.tuple M;have g:=R.length;exact len_tuple T (by simp only[List.size_toArray]<;>lia) ⟨.int ys.length,H,I.tok _,⟨s.toks+1,by rw[(Dd),g]⟩,q⟩
def FR.or{f:VL}{r g:List V->Hp->VK->Prop}(h:FR X f r)(h':FR X f g):FR X f (fun xs H Q=>r xs H Q\/g xs H Q):=by
 intro pins s σ H xs us Q I rs q;rcases q with q|q
 .exact h pins s σ H xs us Q I rs q
 .exact h' pins s σ H xs us Q I rs q
def NU:FR X Ev (fun xs H Q=>∃p ys,xs=[.ref p]/\((Aj X.K H p ys/\∀l,H l=none->Q (.ref l) (upd H l (.tup ys)))\/(Ax X.K H p ys/\Q (.ref p) H))):=by
 intro pins s σ H xs us Q I r h;obtain⟨p,ys,rfl,h⟩:=h;obtain⟨u,rfl,rx⟩:=vals1 r;cases rx;rcases h with ⟨T,q⟩|⟨T,q⟩
 .obtain⟨g,M,R,U⟩:=I.list T;have Y:=M.length;refine call_tuple_list R.isList (fun h' kp=>?_) (by simp only[List.size_toArray]<;>lia);have Z:Inv X pins σ H {s with heap:=h'}:=I.kept (t':=s.toks) kp;have I2:Inv X pins σ (upd H h'.objs.size (.tup ys)) {s with heap:=h'.push { cls:=.type "tuple",data:=.seq g.toArray} } :=
   Z.laid (t':=s.toks) (fun b o e=>aF _ e) (aG _) (show Bx X.prog X.w _ _ _ (.tup ys) from⟨U,g,M,IsTup.new _ _⟩)
  exact⟨.ref h'.objs.size,_,I2,rfl,q _ (Z.Al.fresh (aG _))⟩
 .obtain⟨g,M,R,U⟩:=I.tuple T;exact call_tuple_same R ⟨.ref p,H,I,rfl,q⟩
def qP(K:Fg)(T:String)(x:V)(H:Hp):Prop:=match x with
 |.str _=>T = "str"
 |.int _=>T = "int"
 |.ref p=>(T = "list" /\ ∃xs,Aj K H p xs)\/(T = "tuple" /\ ∃o,K.lookup p=some o/\o.cls=.type "tuple" /\ o.dict=none) \/
   (T = "dict" /\((∃kvs,H p=some (.dK kvs))\/∃kvs,H p=some (.dT kvs)))\/(T = "set" /\ ∃S n,H p=some (.set S n))
 |_=>False
def lO{pins:CG}{σ:St}{H:Hp}{s:SD}{T:String}{x:V}{v:VL}(I:At)(r:RelV x v)(ty:qP X.K T x H):s.TypeIs v T/\∀a,v=.ref a->∃ob,s.heap.get? a=some ob/\ob.dict=none:=by
 cases x with
 |str z=>
  obtain⟨t,rfl⟩:=r;cases (show T = "str" from ty);exact⟨typeIs_str s z t,fun _ e=>nomatch e⟩
 |int i=>
  obtain⟨t,rfl⟩:=r;cases (show T = "int" from ty);exact⟨typeIs_int s i t,fun _ e=>nomatch e⟩
 |ref p=>
  cases r;rcases ty with ⟨rfl,xs,Y⟩|⟨rfl,o,g,Z,hd⟩|⟨rfl,g⟩|⟨rfl,S,n,g⟩
  .obtain⟨U,_,R,_⟩:=I.list Y;refine⟨R.isList.typeIs,fun a e=>?_⟩;cases e;obtain⟨o,n,e,c,hd,_⟩:=R;exact⟨o,e,hd⟩
  .refine⟨⟨o,I.Gs p o g,Z⟩,fun a e=>?_⟩;cases e;exact⟨o,I.Gs _ o g,hd⟩
  .have z:∃o,s.heap.get? p=some o/\o.ExactDict:=by
    rcases g with ⟨kvs,g⟩|⟨kvs,g⟩
    .obtain⟨_,_,_,_,o,_,_,e,ex,_⟩:=I.Al p _ g;exact⟨o,e,ex⟩
    .obtain⟨_,_,_,_,o,_,_,e,ex,_⟩:=I.Al p _ g;exact⟨o,e,ex⟩
   obtain⟨o,e,ex⟩:=z;refine⟨⟨o,e,ex.1⟩,fun a M=>?_⟩;cases M;exact⟨o,e,ex.2.1⟩
  .obtain⟨o,_,_,_,e,ex,_⟩:=I.Al p _ g;refine⟨⟨o,e,ex.1⟩,fun a M=>?_⟩;cases M;exact⟨o,e,ex.2.1⟩
 |_=>exact False.elim ty
def qL(K:Fg)(T:String)(r:V->List V->Hp->VK->Prop)(I:TE)(t:TA):TE:=fun σ H Q=>I σ H fun x g=>qP K T x g/\t σ g fun xs M=>r x xs M Q
variable{o e:Expr}{es:tL}{to:TE}{t:TA}{name:Str}{apos cpos:Pos}{T id:String}{r:V->List V->Hp->VK->Prop}
def Oy(pa:PlainAttrs T)(slot:Slot T name id)(Y:typeOf (.builtin id)=pure (.type "method_descriptor"))(hm:sW X id r)(ho:PE X o to)(ha:PA X (e::es) t) (R:attributeBase o name X.env (eval o X.env)=eval o X.env:=by rfl) (U:((backTo cpos (starEach (e::es) X.env)).all (fun x=>!x.1)&&(backToKw cpos (keywordEach [] X.env)).all (fun x=>x.1.isSome) && decide ((e::es).length+([]:List Keyword).length+(if([]:List Keyword).isEmpty then 0 else 1)<30))=true:=by rfl) (M:(apos.endLine==cpos.line)=true:=by rfl)(hs:starEach (e::es) X.env=(false,eval e X.env)::starEach es X.env:=by rfl)(g:(backTo cpos (starEach es X.env)).any (·.1)=false:=by rfl):PE X (.Call (.Attribute o name apos) (e::es) [] cpos) (qL X.K T r to t):=by
 intro pins s σ H Q I h;refine wpAny_Call_method_late R U M rfl (A9 (ho pins s σ H _ I h) fun v s1 ⟨x,H1,I1,Z,ty,q1⟩=>?_);obtain⟨h1,h2⟩:=lO I1 Z ty;refine⟨T,id,pa,slot,Y,h1,h2,?_⟩;have hA:=ha cpos pins s1 σ H1 _ I1 q1;rw[hs]at hA ⊢;refine Calls.callWith_builtin (by show(false||(backTo cpos (starEach es X.env)).any (·.1))=false;rw[g]<;>rfl) (Calls.evalArgs_plain ?_);exact A9 hA fun us s2 ⟨vs,H2,I2,r2,q2⟩=>hm pins s2 σ H2 x vs v us Q I2 Z r2 q2
end
def qC(X:Cx)(id:String)(r:V->List V->Hp->VK->Prop):Prop :=
 ∀(pins:CG) (s:SD) (σ:St) (H:Hp) (x:V) (xs:List V) (v:VL) (us:List VL) (Q:VK),Inv X pins σ H s->RelV x v->Vals xs us->r x xs H Q ->
  wpAny By X.A (call (.builtin id) (v::us)) (EP X pins σ Q) X.xe s
def Vals.one:∀ {x:V} {us:List VL},Vals [x] us->∃u,us=[u]/\RelV x u
 |_,_,.cons r .nil=>⟨_,rfl,r⟩
def Vals.two:∀ {x y:V} {us:List VL},Vals [x,y] us->∃u v,us=[u,v]/\RelV x u/\RelV y v
 |_,_,_,.cons r (.cons q .nil)=>⟨_,_,rfl,r,q⟩
theorem Vals.rep{xs:List V}{us:List VL}(h:Vals xs us):∀k:Nat,Vals (List.replicate k xs).flatten (List.replicate k us).flatten
 |0=>.nil
 |k+1=>by
  rw[(Pp),(Pp),(P7),(P7)];exact Vals.append h (Vals.rep h k)
theorem foldl_rep(g:List VL):∀(k:Nat) (I:List VL),
  List.foldl (fun R M=>R++M) I.toArray (List.replicate k g.toArray)=(I++(List.replicate k g).flatten).toArray
 |0,I=>by simp
 |k+1,I=>by
  have e:I.toArray++g.toArray=(I++g).toArray:=by simp
  have T:(I++g)++(List.replicate k g).flatten=I++(List.replicate (k+1) g).flatten:=by
   rw[(Pp),(P7),List.append_assoc]
  rw[<-T,<-foldl_rep g k (I++g),<-e,(Pp),List.foldl_cons]
section
variable{X:Cx}{pins:CG}{σ:St}{H:Hp}{s:SD}{l:AD}{xs ys:tR}
def Inv.nF{g its':sy}{n:Nat}{f:Array VL->Array VL}{t':Nat}(I:At)(Y:H l=some (.lst xs)) (e:s.heap.get? l=some { cls:=.type "list",data:=.seq g.toArray n})(T:f g.toArray=its'.toArray)(M:Vals ys its')(hz:ys.length<=sizeLine):Inv X pins σ (upd H l (.lst ys)) {s with heap:=s.heap.update l (Obj.mapSeq f),toks:=t'}:=by
 have q:=PySem.IsL.update e f;rw[T]at q;refine I.write (x:=l) (e:=l) (by rw[Y];exact trivial) (.inl rfl) (fun Z u U R=>(Heap.get?_update_other s.heap (Obj.mapSeq f) (Ne.symm U)).trans R) ⟨_,q⟩ ?_;exact⟨hz,its',_,M,q⟩
def Inv.la{g:sy}{t':Nat}(I:At)(M:Vals ys g)(hz:ys.length<=sizeLine):Inv X pins σ (upd H s.heap.objs.size (.lst ys)) {s with heap:=s.heap.push { cls:=.type "list",data:=.seq g.toArray},toks:=t'} :=
 I.laid (fun _ _ q=>aF _ q) (aG _) ⟨hz,g,0,M,Heap.get?_push_size _ rfl⟩
def Inv.fresh(I:At):H s.heap.objs.size=none:=I.Al.fresh (aG _)
def Inv.Rc(I:At)(M:H l=some (.lst xs)):xs.length<=sizeLine/\∃(g:sy) (n:Nat),Vals xs g/\xs.length=g.length/\s.heap.get? l=some { cls:=.type "list",data:=.seq g.toArray n}:=by
 obtain⟨z,g,n,r,e⟩:=I.Al l _ M;exact⟨z,g,n,r,r.length,e⟩
def WC{n:Nat}(h:n<=sizeLine):Builtin.List.listTooLong n=false:=by
 unfold Builtin.List.listTooLong;exact au AC
end
section
variable{X:Cx}
def XG:V->List V->Hp->VK->Prop:=fun x vs H Q=>∃l xs y,x=.ref l/\vs=[y]/\H l=some (.lst xs)/\xs.length<sizeLine/\Q .Bf (upd H l (.lst (xs++[y])))
def Hl:qC X "list.append" XG:=by
 intro pins s σ H x vs v us Q I T U h;obtain⟨l,xs,y,rfl,rfl,R,Z,q⟩:=h;cases T;obtain⟨u,rfl,Y⟩:=U.one;obtain⟨z,g,n,r,hl,e⟩:=I.Rc R;refine call_meets F.slot_list_append ⟨_,e,rfl⟩ F.entry_list_append (F.args_list_append_2 _ _) (PySem.list_append l g.toArray n u (by rw[(Dd)];lia)) ⟨e,?_⟩;refine⟨.Bf,_,I.nF (its':=g++[u]) R e BY (r.append (.cons Y .nil)) ?_,rfl,q⟩;rw[(De),(QM)]
 lia
def jx:V->List V->Hp->VK->Prop:=fun x vs H Q=>∃l b xs g,x=.ref l/\vs=[.ref b]/\H l=some (.lst xs)/\H b=some (.lst g)/\xs.length+g.length<=sizeLine/\Q .Bf (upd H l (.lst (xs++g)))
def Zm:qC X "list.extend" jx:=by
 intro pins s σ H x vs v us Q I Z rv h;obtain⟨l,b,xs,zs,rfl,rfl,Y,hB,hz,q⟩:=h;cases Z;obtain⟨u,rfl,ru⟩:=rv.one;cases ru;obtain⟨z,M,n,r,hl,e⟩:=I.Rc Y;obtain⟨z2,g,n2,r2,hl2,e2⟩:=I.Rc hB;have T:M.toArray.size+g.toArray.size<=sizeLine:=by rw[(Dd),(Dd)];lia
 have R:¬(!M.toArray.isEmpty&&Builtin.List.listTooLong (M.toArray.size+g.toArray.size))=true:=by
  rw[WC T,Bool.and_false];exact aJ
 refine call_meets F.slot_list_extend ⟨_,e,rfl⟩ F.entry_list_extend (F.args_list_extend_2 _ _)
  (AutoSeq1.list_extend_list_list_0 l M.toArray n b g.toArray n2 R (by rw[(Dd)];lia) AC) ⟨e,e2,?_⟩
 refine⟨.Bf,_,I.nF (its':=M++g) Y e BY (r.append r2) ?_,rfl,q⟩;rw[(De)]
 lia
def qh:R2:=fun x y H Q=>∃l b xs g,x=.ref l/\y=.ref b/\H l=some (.lst xs)/\H b=some (.lst g)/\xs.length+g.length<=sizeLine/\∀p,H p=none->Q (.ref p) (upd H p (.lst (xs++g)))
def Z8:Cw X (binaryOp .Add) qh:=by
 intro pins s σ H x y v u Q I T R h;obtain⟨l,b,xs,zs,rfl,rfl,Z,hB,hz,q⟩:=h;cases T;cases R;obtain⟨z,M,n,r,hl,e⟩:=I.Rc Z;obtain⟨z2,g,n2,U,Y,e2⟩:=I.Rc hB;refine PySem.P.add_list e e2 ?_ (by rw[(Dd),(Dd)];lia);have ea:M.toArray++g.toArray=(M++g).toArray:=by simp
 rw[ea];exact⟨.ref _,_,I.la (t':=s.toks) (r.append U) (by rw[(De)];lia),rfl,q _ I.fresh⟩
def qc:R2:=fun x y H Q=>∃l k xs,x=.ref l/\y=.int k/\H l=some (.lst xs)/\-(2^63)<=k/\k<2^63/\xs.length*k.toNat<=sizeLine /\
 ∀p,H p=none->Q (.ref p) (upd H p (.lst (List.replicate k.toNat xs).flatten))
def len_rep{α:Type}(xs:List α)(k:Nat):(List.replicate k xs).flatten.length=k*xs.length:=by
 induction k with
 |zero=>simp
 |succ k g=>rw[(Pp),(P7),(De),g,Nat.succ_mul,Nat.add_comm]
def k9:Cw X (binaryOp .Mult) qc:=by
 intro pins s σ H x y v u Q I rx ry h;obtain⟨l,k,xs,rfl,rfl,hH,h1,h2,hz,q⟩:=h;cases rx;obtain⟨t,rfl⟩:=ry;obtain⟨z,g,n,r,hl,e⟩:=I.Rc hH;have Y:g.toArray.size*k.toNat<=sizeLine:=by rw[(Dd),<-hl];exact hz
 have hcap:¬g.toArray.size*k.toNat > (2^63-1) / 8:=by
  have:(sizeLine:Nat)<=(2^63-1) / 8:=by decide
  lia
 have Z:¬(!Builtin.List.listFitsIndex k)=true:=by
  rw[fitsIndex_both h1 h2];exact aJ
 have M:¬Builtin.List.listTooLong (g.toArray.size*k.toNat)=true:=by
  rw[WC Y];exact aJ
 have R:List.foldl (fun x1 x2=>x1++x2) #[] (List.replicate (if g.toArray.isEmpty=true then 0 else k.toNat) g.toArray)=(List.replicate k.toNat g).flatten.toArray:=by
  have f0:∀m:Nat,List.foldl (fun x1 x2=>x1++x2) #[] (List.replicate m g.toArray)=(List.replicate m g).flatten.toArray:=fun m=>by
   have:=foldl_rep g m [];rw[List.nil_append]at this;exact this
  rw[f0];cases g with
  |nil=>simp
  |cons a r'=>rw[if_neg BY]
 refine wpAny_binaryOp_repeat_ref (T := "list") (U := "int") AS ⟨_,e,rfl⟩ (fun s'=>typeIs_int s' k t) noFill_list_mul F.fills_int_mul F.slot_int_rmul repeat_list F.slot_int_index.lookup
  (call_meets F.slot_int_rmul (typeIs_int s k t) F.entry_int_rmul (F.args_int_rmul_2 _ _) (int___rmul___int_list k t l g.toArray n)
   ⟨e,rfl,⟨_,e,rfl⟩,call_meets F.slot_list_mul ⟨_,e,rfl⟩ F.entry_list_mul (F.args_list_mul_2 _ _) (AutoListH.list___mul___list_int_3 l g.toArray n k t Z hcap M) ⟨e,?_⟩⟩)
 rw[R];exact⟨.ref _,_,I.la (t':=s.toks) (r.rep k.toNat) (by rw[len_rep,Nat.mul_comm];exact hz),rfl,q _ I.fresh⟩
end
end L2
namespace Att
open PySem PySem.W PySem.Calls PyProof.Rows
def Qc{P:Params}{h:Heap}:∀(ns:tJ) (vs:sy),WellAll P h vs (ns.map WData.int)->IntsAre vs ns:=by
 intro ns
 induction ns with
 |nil=>
  intro vs w;rw[(Mw)]at w;cases w;exact .nil
 |cons n ns g=>
  intro vs w;rw[(BA)]at w;cases w with
  |cons a b=>
   cases a;exact .cons _ _ (g _ b)
def bp{l:OpenLaw}{n:Nat}(hn:l.most=some n){P:Params}{h:Heap}{args:List WData}{vals:sy} (g:l.row.toRowW.claim.pre args=true)(U:WellAll P h vals args):∃a vs ns,vals=[Value.ref a]/\args=[WData.list (ns.map WData.int)]/\h.get? a=some { cls:=.type "list",data:=.seq vs.toArray}/\IntsAre vs ns/\ns.length<=n:=by
 have Y:WShape.hasAll [] args [.list .int]=true:=(pre_splitW g).1;have Z:l.pre.holds [] { args:=args}=true:=(pre_splitW g).2;obtain⟨d,r,rfl,h1,h2⟩:=hasAllW_cons Y;obtain rfl:=hasAllW_nil h2;obtain⟨xs,rfl,h3⟩:=hasW_list h1;obtain⟨ns,rfl⟩:=items_int h3;have I:ns.length<=n:=by
  unfold OpenLaw.pre at Z;have T:(WTm.not (.lt (.lit (.int (n:Int))) (.len (.arg 0)))).holds [] { args:=[.list (ns.map .int)]}=true:=by
   have T:=(holds_andW Z).1;rw[hn]at T;exact T
  have R:=condW_of T (w_not (w_lt w_lit (w_len_list (w_arg rfl))));rw[(Af)]at R;refine Nat.le_of_not_lt fun q=>?_;have q':(n:Int)<((ns.length:Nat):Int):=by lia
  first
   |(rw[decide_eq_true q']at R;exact absurd R AS)
   |(simp at R;lia)
 cases U with
 |cons w1 w2=>
  cases w2;cases w1 with
  |list ho M=>exact⟨_,_,ns,rfl,rfl,ho,Qc ns _ M,I⟩
def cf(l:OpenLaw)(args:List WData):l.row.toRowW.claim.post args (.bool true) args=true :=
 postW_of (r:=l.row.toRowW) (X:=(true==true))
  (show WShape.has [] (.bool true) .bool=true by first|rfl|decide|simp[WShape.has,WShape.arms,WShape.armsAll])
  (show(WTm.eq .res (.lit (.bool true))).value [] { args:=args,res:=some (.bool true),after:=args}=some (.bool (true==true)) from w_eq_bool (w_res rfl) w_lit) rfl
def Wm{l:OpenLaw}{n:Nat}{q:F0b}{loose:tK}{XP:(tF)->Heap->Prop}{YP:F0c->Heap->Prop}{d:DefRec} (hn:l.most=some n)(hdf:d.params.defaults=[]) (call:∀(w:F0c) (s₀ g:SD) (mg mb:tF) (T:AD) (o:Obj) (pm U doc:VL) (a:AD) (vs:sy) (ns:tJ),Ground q loose [] XP w s₀ mg mb g.heap->YP w g.heap ->g.heap.get? T=some o->o.data=.func (docDef d.name d.params d.body d.scope pm U doc)->g.heap.CodeRec U d.name->mg d.name=some (.ref T) ->g.heap.get? a=some { cls:=.type "list",data:=.seq vs.toArray}->IntsAre vs ns->ns.length<=n->g.gens=#[] ->codeAny (model l.prog w) callerA (.call (.ref T) ⟨[.ref a],[]⟩) (fun r s'=>r=.ok (.ret (.bool true))/\OldK g.heap s'.heap/\s'.os=g.os/\AllBare s'.gens) g):WalkO q loose XP YP l.row.toRowW d [] (fun f vs=>PySem.call f vs):=by
 intro w s₀ g mg mb G Y T o pm U doc dV kV ho hd hcd hD hmg hg args vals as I hlay hrd Z hlo;obtain rfl:dV=.none:=Dflts.none hD hdf;obtain rfl:kV=.none:=Dflts.noKw hD;obtain⟨a,vs,ns,rfl,rfl,M,hints,R⟩:=bp hn I Z;refine enter_call (codeAny_mono (call w s₀ g mg mb T o pm U doc a vs ns G Y ho (fd_plain hd) hcd hmg M hints R hg) fun r s' hq=>?_);obtain⟨rfl,h2,h3,h4⟩:=hq;exact⟨.inl ⟨.bool true,.bool true,[],rfl,fun _=>rfl,.bool true,cf l _,fun _=>⟨List.Pairwise.nil,fun _ hm=>(nomatch hm)⟩⟩,h2,h3,h4⟩
end Att
namespace L2
open PySem PySem.Spec PyProof.Rows
theorem Sx:∀ {vs:List VL} {ns:List Int},IntsAre vs ns->Vals (ns.map V.int) vs
 |_,_,.nil=>.nil
 |_,_,.cons n t h=>.cons ⟨t,rfl⟩ (Sx h)
def fJ(H:Hp):Prop:=∀b,H b=none\/∃o xs,H b=some (.Fe o (.lst xs))
def gA{P:F0b}{w:F0c}{K:Fg}{mg mb:tF}{CX:GL}{k:Nat}{fa a:AD}{fd:F0a}{x:Str}{sp:Sp}{g:SD}{vs:sy}{ns:tJ} (KX:K.In g.heap)(Z:g.heap.Ns mainGlobals mg)(I:g.heap.Ns builtinsNs mb)(hbb:∀x:Str,x ≠ "__name__" -> mb x=bootBuiltins x)(hlim:g.heap.NoLimit)(hg:g.gens=#[]) (ha:g.heap.get? a=some { cls:=.type "list",data:=.seq vs.toArray})(hi:IntsAre vs ns)(hl:ns.length<=sizeLine)(hr:CS k callerA)(hkt:∀H,KTb mg H) (F:∀base:Heap,K.In base->base.Ns mainGlobals mg->AI P w K mg base CX k fa fd [x] sp)(R:∀(s:SD) (u:VL),BindsTo s fd ⟨[u],[]⟩ [(x,u)]) (hsp:∀H:Hp,fJ H->Aj K H a (ns.map V.int)->sp [.ref a] H (fun v _=>v=.bl true) fun _ _ _=>False) (hCX:∀H e s',CX [] H g (fun _ _ _=>False) e s'->False):codeAny (model P w) callerA (.call (.ref fa) ⟨[.ref a],[]⟩) (fun r s'=>r=.ok (.ret (.bool true))/\OldK g.heap s'.heap/\s'.os=g.os/\AllBare s'.gens) g:=by
 have rv:=Sx hi;have U:=hi.length;have core:∀H:Hp,fJ H->Aj K H a (ns.map V.int)->DB P w H g.heap->(∀b,H b≠none->b=a)->(H a≠none->K.lookup a=none) ->
   codeAny (model P w) callerA (.call (.ref fa) ⟨[.ref a],[]⟩) (fun r s'=>r=.ok (.ret (.bool true))/\OldK g.heap s'.heap/\s'.os=g.os/\AllBare s'.gens) g:=by
  intro H hO hS Al hA hK;have base_of:∀ {b:AD} {o:Obj},g.heap.get? b=some o->H b=none->(Mp g.heap H).get? b=some o:=fun e n=>gS e n;have noA:∀ {b:AD} {o:Obj} {es:Array DictEntry} {ep:Nat},g.heap.get? b=some o->o.data=.dict es ep->H b=none:=fun {b o es ep} e d=>by
   cases q:H b with
   |none=>rfl
   |some u=>
    have e':b=a:=hA b (by rw[q];simp);subst e';rw[ha]at e;cases e;have d':Data.seq vs.toArray _=Data.dict es ep:=d;cases d'
  have M:∀ {b:AD} {m:Str->Option VL},g.heap.Ns b m->(Mp g.heap H).Ns b m:=fun {b m} ⟨o,es,ep,e,d,r⟩=>⟨o,es,ep,base_of e (noA e d),d,r⟩;have hKb:K.In (Mp g.heap H):=fun b o e=>base_of (KX b o e) (by
   cases q:H b with
   |none=>rfl
   |some u=>
    have e':b=a:=hA b (by rw[q];simp);subst e';rw[hK (by rw[q];simp)]at e;cases e)
  have hM:Mod K mg (Mp g.heap H):=⟨hKb,M Z,⟨mb,M I,hbb⟩,let⟨mc,h1,h2⟩:=hlim;⟨mc,M h1,h2⟩⟩;have e0:ZL P w K mg (Mp g.heap H) callerA [] g H:=⟨rfl,hM,fun b o e=>jm e,Nat.le_of_eq (cL _ _),trivial,fun b I=>absurd (show b∈([]:List AD) from I) BY,Al,.of_eq hg,hkt H⟩;refine codeAny_mono ((F _ hKb (M Z)).run callerA [] g H ⟨[.ref a],[]⟩ [.ref a] [.ref a] _ _ hr e0 (R g (.ref a)) (.cons rfl .nil) (hsp H hO hS)) fun r s' h=>?_;cases r with
  |error e=>exact(hCX H e s' h).elim
  |ok fl=>
   cases fl with
   |next=>exact False.elim h
   |brk=>exact False.elim h
   |cont=>exact False.elim h
   |ret u=>
    obtain⟨v,H',os,bare,un,Y,r',q⟩:=h;have q':v=.bl true:=q;subst q';obtain rfl:u=Value.bool true:=r';refine⟨rfl,OldK.of_keep fun b o e=>?_,os,bare⟩;cases q:H b with
    |none=>exact un.keep b o e q (by intro z;exact absurd (show b∈([]:List AD) from z) BY) BY
    |some u=>
     rcases hO b with z|⟨ob,xs,z⟩
     .rw[q]at z;cases z
     .have z2:=un.F0 b ob _ z;obtain⟨e1,_⟩:=Al b _ z;obtain⟨e2,_⟩:=Y b _ z2;rw[e]at e1;cases e1;exact e2
 cases hk:K.lookup a with
 |some o=>
  have e:=KX a o hk;rw[ha]at e;cases e;refine core (fun _=>none) (fun _=>.inl rfl) (.inr ⟨_,vs.toArray,_,hk,rfl,rfl,rfl,by rw[(Dd),U];exact hl,by simpa using rv⟩) (fun b u z=>by have T:(none:Option HO)=some u:=z;cases T) (fun b z=>absurd rfl z) fun z=>absurd rfl z
 |none=>
  refine core (fun b=>if b=a then some (.Fe { cls:=.type "list",data:=.seq vs.toArray} (.lst (ns.map V.int))) else none) (fun b=>?_) (.inl (.inr ⟨{ cls:=.type "list",data:=.seq vs.toArray},if_pos rfl⟩)) (fun b u z=>?_) (fun b z=>?_) fun _=>hk
  .by_cases I:b=a
   .exact .inr ⟨_,_,if_pos I⟩
   .exact .inl (if_neg I)
  .by_cases I:b=a
   .have T:=(if_pos I).symm.trans z;cases T;subst I;exact⟨ha,by rw[(Af)];exact hl,vs,_,rv,ha⟩
   .have T:=(if_neg I).symm.trans z;cases T
  .by_cases I:b=a
   .exact I
   .exact absurd (if_neg I) z
def jf{l:PySem.W.OpenLaw}{n k:Nat}{q:F0b}{loose:tK}{XP:(tF)->Heap->Prop}{YP:F0c->Heap->Prop}{d:DefRec}{K:Params->Fg}{CX:F0c->GL}{sp:F0c->Sp}{x:Str} (hn:l.most=some n)(hn2:n<=sizeLine)(hdf:d.params.defaults=[])(hr:CS k callerA)(hkt:∀(w:F0c) (mg:tF) (h:Heap),(K w.params).In h->h.Ns mainGlobals mg->∀H,KTb mg H) (hY:∀(w:F0c) (h:Heap),YP w h->(K w.params).In h) (F:∀(w:F0c) (mg:tF) (U:AD) (h:Heap),(K w.params).In h->h.Ns mainGlobals mg->mg d.name=some (.ref U) ->∃fd:F0a,(∀(s:SD) (u:VL),BindsTo s fd ⟨[u],[]⟩ [(x,u)]) /\∀base:Heap,(K w.params).In base->base.Ns mainGlobals mg->AI l.prog w (K w.params) mg base (CX w) k U fd [x] (sp w)) (Z:∀(w:F0c) (H:Hp) (a:AD) (ns:tJ),ns.length<=n->fJ H->Aj (K w.params) H a (ns.map V.int)->sp w [.ref a] H (fun v _=>v=.bl true) fun _ _ _=>False) (hCX:∀(w:F0c) (H:Hp) (s:SD) (e:VL) (s':SD),CX w [] H s (fun _ _ _=>False) e s'->False):PySem.W.WalkO q loose XP YP l.row.toRowW d [] (fun f vs=>PySem.call f vs):=by
 refine Att.Wm hn hdf fun w s₀ M mg mb U o pm cd doc a vs ns G Y ho hd hcd hmg R hints I hg=>?_;have KX:=hY w _ Y;obtain⟨fd,hb,hF⟩:=F w mg U _ KX G.T.g hmg;exact gA (hkt:=hkt w mg _ KX G.T.g) KX G.T.g G.T.b G.T.builtins G.T.nolimit hg R hints (aT I hn2) hr hF hb (fun H hO hS=>Z w H a ns I hO hS) fun H e s'=>hCX w H M e s'
abbrev Ag:GL:=fun _ _ _ _ _ _=>False
abbrev E0:XK:=fun _ _ _=>False
def oT{X:Cx}:Passes Ag X E0:=fun _ _ _ _ _ _ _ h=>h.elim
structure S3(K:Fg)(x qual:Str)(st:Stmt)(f:Addr)(fd:FuncData):Prop where
 ex:∃(oc:Value) (od:Option Addr) (kV doc pm:Value) (an:Option Addr) (cdv ct:Value) (osl:Array (Option Value)),
  fd=PySem.W.fnOf x qual (Gh st) (DY st) (AO st) .none kV doc pm an cdv ct/\K.lookup f=some ⟨oc,od,.func fd,osl⟩/\PySem.W.codeIn K cdv qual=true
 kp:PySem.W.keepIn K (.ref f)=true
section
variable{P:F0b}{w:F0c}{K:Fg}{mg:tF}{base:Heap}
def S3.ok{x qual:Str}{st:Stmt}{f:AD}{fd:F0a}{N ps:tK}{k:Nat}{sp:Sp}(F:S3 K x qual st f fd)(S:Ad N ps (AO st))(len:∀vs H Q E,sp vs H Q E->vs.length=ps.length) (g:∀(cdv:VL) (A:F0d) (outer:tV) (s:SD) (H:Hp) (vs:tR) (Q:VK) (E:XK),CS k (A.deeper (envOfC qual (AO st) s.heap.objs.size f cdv))->sp vs H Q E ->∃t,Ie (CV Ag P w K mg base N qual (AO st) f cdv A outer s H E).KJ (DY st) t/\t { nx:=fun _ H'=>Q .Bf H',rt:=Q} (start N vs) H):AI P w K mg base Ag (k+1) f fd ps sp:=by
 obtain⟨oc,od,kV,doc,pm,an,cdv,ct,osl,rfl,lk,M⟩:=F.ex;refine gj lk M S len fun A outer s H vs Q E R I=>?_;obtain⟨t,h,q⟩:=g cdv A outer s H vs Q E R I;exact⟨t,h.KJ,q⟩
def S3.binds{x qual:Str}{st:Stmt}{f:AD}{fd:F0a}{ps:tK}(F:S3 K x qual st f fd) (h:∀(kV doc pm:VL) (an:Option AD) (cdv ct:VL) (us:sy),us.length=ps.length->bindArgs (PySem.W.fnOf x qual (Gh st) (DY st) (AO st) .none kV doc pm an cdv ct) ⟨us,[]⟩=pure (ps.zip us)):Binds K fd ps []:=by
 obtain⟨oc,od,kV,doc,pm,an,cdv,ct,osl,rfl,lk,g⟩:=F.ex;exact .all (h kV doc pm an cdv ct)
def Zs{x qual:Str}{st:Stmt}{f:AD}{oc:VL}{od an:Option AD}{osl:Array (Option VL)}{kV doc pm cdv ct:VL}(l:K.lookup f=some ⟨oc,od,.func (PySem.W.fnOf x qual (Gh st) (DY st) (AO st) .none kV doc pm an cdv ct),osl⟩) (c:PySem.W.codeIn K cdv qual=true)(k:PySem.W.keepIn K (.ref f)=true):S3 K x qual st f (PySem.W.fnOf x qual (Gh st) (DY st) (AO st) .none kV doc pm an cdv ct):=⟨⟨oc,od,kV,doc,pm,an,cdv,ct,osl,rfl,l,c⟩,k⟩
end
def S8{n:Nat}(h:n<=1000):n<sizeLine:=aQ h AS
section
variable{X:Cx}
def pv(i:Nat){x:Str}{pos:Pos}(M:X.N[i]? = some x:=by rfl)(I:lD X.env.scope x:=by first|exact Or.inl rfl|exact Or.inr AT|exact Or.inr (Or.inr rfl))(hd:FS=false:=by decide) (g:(x==("__classdict__" : Str))=false:=by decide):PE X (.Name x pos) (UQ i):=cy M I hd g
end
def M1{A B:Prop}(h:B):if false=true then A else B:=by
 rw[if_neg aJ];exact h
def C8{A B:Prop}(h:A):if true=true then A else B:=by
 rw[if_pos rfl];exact h
def Cm{c A B:Prop}[Decidable c](h1:c->A)(g:¬c->B):if c then A else B:=by
 by_cases h:c
 .rw[if_pos h];exact h1 h
 .rw[if_neg h];exact g h
def AJ(H H':Hp):Prop:=∀b o,H b=some o->H' b=some o
def AJ.refl(H:Hp):AJ H H:=fun _ _ h=>h
def AJ.trans{H I g:Hp}(a:AJ H I)(b:AJ I g):AJ H g:=fun c o h=>b c o (a c o h)
def AJ.seq{K:Fg}{H H':Hp}{a:AD}{xs:tR}(e:AJ H H')(h:Aj K H a xs):Aj K H' a xs:=by
 rcases h with (h|⟨o,h⟩)|h
 .exact .inl (.inl (e _ _ h))
 .exact .inl (.inr ⟨o,e _ _ h⟩)
 .exact .inr h
section
variable{X:Cx}
def Ow(i j:Int):Prop:=∃m:Nat,m<=1000000/\i.natAbs<2^m/\j.natAbs<2^m
def Ow.ok{i j:Int}(h:Ow i j):IntMulOk i j:=by
 obtain⟨m,hm,I,g⟩:=h;exact IntMulOk.of_le (intBits_le_iff.mpr I) (intBits_le_iff.mpr g) AC
def Ci:Cw X (binaryOp .Mult) (rI (fun i j=>Ry i j\/Ow i j) fun i j=>.int (i*j)) :=
 Xq fun _ _ _ _ _ _ _ g q=>mul_int q (g.elim (fun z=>z.ok) fun z=>z.ok)
def pA(_i j:Int):Prop:=j≠0/\∃m:Nat,m<=9000/\j.natAbs<2^m
def Ek:Cw X (binaryOp .FloorDiv) (rI pA fun i j=>.int (i.fdiv j)):=Xq fun i j _ _ _ _ _ I q=>by
 obtain⟨h0,m,hm,M⟩:=I;refine floordiv_int h0 q (.inl (PyProof.noPylong_of_log2 ?_));have g:j.natAbs≠0:=by lia
 have:j.natAbs.log2<m:=(Nat.log2_lt g).mpr M
 lia
mutual
def Br(K:Fg)(H:Hp):PD->V->Prop
 |.none,v=>v=.Bf
 |.bool b,v=>v=.bl b
 |.int i,v=>v=.int i
 |.str x,v=>v=.str x
 |.tuple g,v=>∃a xs,v=.ref a/\Ax K H a xs/\Et K H g xs
 |.list g,v=>∃a xs,v=.ref a/\Aj K H a xs/\Et K H g xs
 |.dict _,_=>False
def Et(K:Fg)(H:Hp):List PD->List V->Prop
 |[],xs=>xs=[]
 |d::g,xs=>∃x r,xs=x::r/\Br K H d x/\Et K H g r
end
mutual
theorem Br.reads{pins:CG}{σ:St}{H:Hp}{s:SD}(I:At):∀ {d:PD} {v:V} {u:VL},Br X.K H d v->RelV v u->∃as,Reads s.heap u d as
 |.none,_,u,h,r=>by rw[Br]at h;subst h;cases r;exact⟨_,.none⟩
 |.bool b,_,u,h,r=>by rw[Br]at h;subst h;cases r;exact⟨_,.bool b⟩
 |.int i,_,u,h,r=>by rw[Br]at h;subst h;obtain⟨t,rfl⟩:=r;exact⟨_,.int i t⟩
 |.str x,_,u,h,r=>by rw[Br]at h;subst h;obtain⟨t,rfl⟩:=r;exact⟨_,.str x t⟩
 |.tuple Z,_,u,h,r=>by
  rw[Br]at h;obtain⟨a,xs,Y,U,T⟩:=h;subst Y;cases r;obtain⟨R,g,⟨o,e,c,n,hd⟩,_⟩:=I.tuple U;obtain⟨as,M⟩:=Et.reads I T g;exact⟨_,.tuple e c hd (by simpa using M)⟩
 |.list Z,_,u,h,r=>by
  rw[Br]at h;obtain⟨a,xs,Y,U,T⟩:=h;subst Y;cases r;obtain⟨R,g,⟨o,n,e,c,_,hd⟩,_⟩:=I.list U;obtain⟨as,M⟩:=Et.reads I T g;exact⟨_,.list e c hd (by simpa using M)⟩
 |.dict _,_,_,h,_=>by rw[Br]at h;exact h.elim
theorem Et.reads{pins:CG}{σ:St}{H:Hp}{s:SD}(I:At):∀ {ds:List PD} {xs:List V} {us:List VL},Et X.K H ds xs->Vals xs us->∃as,ReadsAll s.heap us ds as
 |[],_,us,h,r=>by rw[Et]at h;subst h;cases r;exact⟨_,.nil⟩
 |_::_,_,us,h,r=>by
  rw[Et]at h;obtain⟨x,q,Z,Y,U⟩:=h;subst Z;cases r with
  |cons T R=>
   obtain⟨as,M⟩:=Br.reads I Y T;obtain⟨bs,g⟩:=Et.reads I U R;exact⟨_,.cons M g⟩
end
def fS(K:Fg)(neg:Bool):R2:=fun x y H Q=>∃d e,Br K H d x/\Br K H e y/\SeqAt.shaped d=true/\SeqAt.shaped e=true/\Q (.bl (if neg then !PyData.eqv d e else PyData.eqv d e)) H
def kP(U:X.A.units+64<cLine):Cw X (compareOp .Eq) (fS X.K false):=by
 intro pins s σ H x y v u Q I M g h;obtain⟨d,e,Z,Y,s1,s2,q⟩:=h;obtain⟨as,T⟩:=Br.reads I Z M;obtain⟨bs,R⟩:=Br.reads I Y g;exact eq_dataH T R s1 s2 U ⟨.bl _,H,I,rfl,q⟩
def Z9(U:X.A.units+64<cLine):Cw X (compareOp .NotEq) (fS X.K true):=by
 intro pins s σ H x y v u Q I M g h;obtain⟨d,e,Z,Y,s1,s2,q⟩:=h;obtain⟨as,T⟩:=Br.reads I Z M;obtain⟨bs,R⟩:=Br.reads I Y g;exact ne_dataH T R s1 s2 U ⟨.bl _,H,I,rfl,q⟩
end
def NO(X:Cx)(g:tL)(t:TT):Prop :=
 ∀(pins:CG) (s:SD) (σ:St) (H:Hp) (Q:Bool->Hp->Prop),Inv X pins σ H s->t σ H Q ->
  wpAny By X.A (forIn g true fun c r=>if r=true then do let ok <-isTrue c X.env (eval c X.env);pure (ForInStep.yield ok) else pure (ForInStep.yield r)) (TP X pins σ Q) X.xe s
def Gm:TT:=fun _ H Q=>Q true H
def D4{X:Cx}:NO X [] Gm:=fun _ _ σ H _ I h=>wpAny_tests_nil ⟨H,I,h⟩
def jN{X:Cx}{c:Expr}{t:TT}(h:PT X c t):NO X [c] t:=by
 intro pins s σ H Q I g;simp only[List.forIn_cons,List.forIn_nil,if_true];refine Wb (Wb (A9 (h pins s σ H Q I g) fun b s1 q=>?_));exact aA (aA q)
def FQ(N I:List Str)(sc g:Scope):List (Option Nat)->Nat->Bool
 |[],_=>true
 |none::r,i=>FQ N I sc g r (i+1)
 |some j::r,i=>(match N[i]?,I[j]? with
   |some n,some m=>n==m&&sc.names.lookup n==some .free&&g.names.lookup n==some .cell
   |_,_=>false)&&FQ N I sc g r (i+1)
theorem P0{N R:List Str}{sc g:Scope}:∀ {fr:List (Option Nat)} {k:Nat},FQ N R sc g fr k=true->∀ {i j:Nat},fr[i]? = some (some j) ->
  ∃n,N[k+i]? = some n/\R[j]? = some n/\sc.names.lookup n=some .free/\g.names.lookup n=some .cell
 |[],_,_,i,j,e=>by simp at e
 |none::r,k,h,0,j,e=>by simp at e
 |none::r,k,h,i+1,j,e=>by
  have q:=P0 (fr:=r) (k:=k+1) h (i:=i) (j:=j) (by simpa using e);have z:k+(i+1)=k+1+i:=by lia
  rw[z];exact q
 |some M::r,k,h,0,j,e=>by
  have Y:M=j:=by simpa using e
  subst Y;rw[FQ,(Jr)]at h;have I:=h.1;split at I
  .rename_i n m hn hm;simp only[Bool.and_eq_true,beq_iff_eq]at I;obtain⟨⟨rfl,U⟩,T⟩:=I;exact⟨n,by simpa using hn,hm,U,T⟩
  .cases I
 |some M::r,k,h,i+1,j,e=>by
  rw[FQ,(Jr)]at h;have q:=P0 (fr:=r) (k:=k+1) h.2 (i:=i) (j:=j) (by simpa using e);have z:k+(i+1)=k+1+i:=by lia
  rw[z];exact q
def carry(fr:tW)(σ:St):St:=fr.map fun o=>match o with
 |some j=>(σ[j]?).join
 |none=>none
def Zl{fr:tW}{σ:St}{i:Nat}{v:V}(h:(carry fr σ)[i]? = some (some v)):∃j,fr[i]? = some (some j)/\σ[j]? = some (some v):=by
 unfold carry at h;rw[(BP)]at h;cases e:fr[i]? with
 |none=>rw[e]at h;cases h
 |some o=>
  rw[e]at h;cases o with
  |none=>simp at h
  |some j=>
   refine⟨j,rfl,?_⟩;simp only[Option.map_some,Option.some.injEq]at h;cases q:σ[j]? with
   |none=>rw[q]at h;cases h
   |some w=>rw[q]at h;simp at h;rw[h]
theorem Iq{env:Env}:∀(names:List (Str×NameKind)) (cs:List (Str×AD)),(∀x∈names,x.2=NameKind.free->∃c,env.cells.lookup x.1=some c)->(∀x c,cs.lookup x=some c->env.cells.lookup x=some c) ->
  ∃cl,(forIn names cs (fun(x:Str×NameKind) (r:List (Str×AD))=>do if(x.2==NameKind.free)=true then do let a <-cellOf env x.1;pure (ForInStep.yield ((x.1,a)::r)) else pure (ForInStep.yield r)):Sem (List (Str×AD)))=pure cl /\
   (∀x c,cl.lookup x=some c->env.cells.lookup x=some c)/\(∀x,(∃c,cs.lookup x=some c)->∃c,cl.lookup x=some c)/\∀x∈names,x.2=NameKind.free->∃c,cl.lookup x.1=some c
 |[],cs,_,U=>⟨cs,rfl,U,fun _ q=>q,fun _ z=>(by cases z)⟩
 |(n,k)::r,cs,h1,U=>by
  rw[List.forIn_cons];by_cases R:(k==NameKind.free)=true
  .obtain⟨c,hc⟩:=h1 (n,k) aO (by simpa using R);have h2':∀x I,((n,c)::cs).lookup x=some I->env.cells.lookup x=some I:=fun x I e=>by
    rw[List.lookup_cons]at e;cases g:x==n with
    |true=>rw[g]at e;have:=beq_iff_eq.mp g;subst this;simp at e;rw[<-e];exact hc
    |false=>rw[g]at e;exact U x I e
   obtain⟨cl,q1,Z,M,Y⟩:=Iq r ((n,c)::cs) (fun x g=>h1 x (aK _ g)) h2';have hn:∃I,cl.lookup n=some I:=M n ⟨c,by rw[List.lookup_cons,beq_self_eq_true]⟩;refine⟨cl,?_,Z,fun x g=>?_,fun x g T=>?_⟩
   .simp only[R,if_true];unfold cellOf;rw[hc];exact q1
   .refine M x ?_;rw[List.lookup_cons];cases hxn:x==n with
    |true=>exact⟨c,rfl⟩
    |false=>exact g
   .rcases aN.mp g with e|g
    .subst e;exact hn
    .exact Y x g T
  .obtain⟨cl,q1,Z,M,Y⟩:=Iq r cs (fun x g=>h1 x (aK _ g)) U;refine⟨cl,?_,Z,M,fun x g T=>?_⟩
   .simp only[R];exact q1
   .rcases aN.mp g with e|g
    .subst e;exact absurd (by simpa using T) R
    .exact Y x g T
def A1(X:Cx)(scope:Scope)(cl:List (Str×AD))(N:tK)(C:AD)(s₀:SD)(H₀:Hp)(fp:tT):Cx where
 prog:=X.prog
 w:=X.w
 K:=X.K
 mg:=X.mg
 base:=X.base
 A:=X.A
 N:=N
 s₀:=s₀
 H₀:=H₀
 env:=compEnvC scope cl C X.env
 outer:=X.stack
 stack:=X.stack
 ex:=fp
 fn:=fun _=>false
 calm:=X.calm
 pn:=[]
 xe:=fun _ _=>False
def UC(T:TI)(fr:tW)(ix:Nat)(tif:TT)(U:TE):TE:=fun σ H Q=>T σ H fun J R=>∀D,R D=none->∃W:Nat->Nat->List V->Hp->Prop,(∃m,W 0 m [] (upd R D (.lst []))) /\
 ∀i m ys H,W i m ys H->H D=some (.lst ys)/\((J.stop i H/\Q (.ref D) H)\/(J.go i H/\ys.length<sizeLine/\∀x H',J.EU i H x H' ->
  tif ((carry fr σ).set ix (some x)) H' fun b M=>if b=true then U ((carry fr σ).set ix (some x)) M fun y I=>I D=some (.lst ys)/\∃g,g<m/\W (i+1) g (ys++[y]) (upd I D (.lst (ys++[y])))
   else ∃g,g<m/\W (i+1) g ys M))
structure Dy(scope:Scope)(N:List Str)(x:Str)(ix:Nat):Prop where
 kind:scope.kind=.function
 cell:∀y∈scope.names,y.2≠.cell
 names:∀y∈scope.names,y.2=.local->scope.names.lookup y.1=some .local
 free:∀y∈scope.names,y.2=.free->scope.names.lookup y.1=some .free
 loc:scope.names.lookup x=some .local
 nd:N.Nodup
 at_:N[ix]? = some x
def lookup_mem{names:List (Str×NameKind)}{n:Str}{k:NameKind}:names.lookup n=some k->(n,k)∈names:=by
 induction names with
 |nil=>intro h;cases h
 |cons y r g=>
  intro h;obtain⟨m,j⟩:=y;rw[List.lookup_cons]at h;cases e:n==m with
  |true=>rw[e]at h;have:=beq_iff_eq.mp e;subst this;simp at h;subst h;exact aO
  |false=>rw[e]at h;exact aK _ (g h)
def UW{scope:Scope}{env:Env}(Y:∀y∈scope.names,y.2≠.cell){n:Str}(h:(relabel scope env).names.lookup n=some .cell\/(relabel scope env).names.lookup n=some .free):∃k,(n,k)∈scope.names/\k=NameKind.free:=by
 have key:∀I,(relabel scope env).names.lookup n=some I->(I=.cell\/I=.free)->∃k,(n,k)∈scope.names/\k=NameKind.free:=fun I h U=>by
  have hm:=lookup_mem h;unfold relabel at hm;obtain⟨⟨m,k⟩,M,e⟩:=aI.mp hm;dsimp only at e;by_cases g:(k==NameKind.free&&env.scope.kind==.function&&env.kindOf m==some .cell)=true
  .rw[if_pos g]at e
   injection e with R T
   subst R;refine⟨k,M,?_⟩;simp only[Bool.and_eq_true,beq_iff_eq]at g;exact g.1.1
  .rw[if_neg g]at e
   injection e with R T
   subst R T;rcases U with rfl|rfl
   .exact absurd rfl (Y _ M)
   .exact⟨_,M,rfl⟩
 rcases h with h|h
 .exact key _ h (.inl rfl)
 .exact key _ h (.inr rfl)
section
variable{X:Cx}{elt iter:Expr}{x:Str}{px pos:Pos}{ifs:tL}{scope:Scope}{wi:TI}{fr:tW}{ix:Nat}{tif:TT}{te:TE}{N:tK}
def LY{prog:F0b}{w:F0c}{A:F0d}{R:Result->SD->Prop}{s:SD}{elt target iter:Expr}{ifs:tL}{scope:Scope}{pos:Pos}{it acc:VL}{env:Env}(I:Nat->SD->Prop)
 (turn:∀n s,I n s->wpAny As A (pyNext it) (fun r g=>match r with
   |none=>R (.ok .next) g
   |some v=>wpAny As A (letOwnedTupleGo target it v>>=fun _=>assign target env v) (fun _ Y=>
     wpAny As A (forIn ifs true fun c r=>if r=true then do let ok <-isTrue c env (eval c env);pure (ForInStep.yield ok) else pure (ForInStep.yield r)) (fun ok M=>
      if ok=true then wpAny As A (eval elt env) (fun x U=>
       wpAny As A (call (.builtin "list.append") [acc,x]) (fun _ T=>∃m,m<n/\I m T) (notedBy As A env fun e s'=>R (.error e) s') U) (notedBy As A env fun e s'=>R (.error e) s') M
      else ∃m,m<n/\I m M) (notedBy As A env fun e s'=>R (.error e) s') Y) (notedBy As A env fun e s'=>R (.error e) s') g) (notedBy As A env fun e s'=>R (.error e) s') s)
 (n:Nat)(h:I n s) :
  codeAny As A (.compLoop (.ListComp elt [⟨target,iter,ifs,0⟩] scope pos) 0 it acc env) R s:=by
 refine codeAny_loop rfl I (fun n s hI=>?_) n h;show wpAny _ A ((compTurn (.ListComp elt [⟨target,iter,ifs,0⟩] scope pos) 0 it acc env).onRaise (fun x=>do noteFrame x env;theTreesLotGoes x)) _ _ s;refine wpAny_noted ?_;rw[compTurn_list];refine Wb (wpAny_standAt (Wb (aY (turn n s hI) (fun r g h₁=>?_) fun _ _ h'=>h')));cases r with
 |none=>exact aA h₁
 |some v=>
  show wpAny As A (letOwnedTupleGo target it v>>=fun _=>assign target env v>>=_) _ _ g;rw[<-bind_assoc];refine Wb (aY h₁ (fun _ Y h₂=>Wb (aY h₂ (fun ok M Z=>?_) fun _ _ h'=>h')) fun _ _ h'=>h');cases ok with
  |false=>exact aA ⟨rfl,Z⟩
  |true=>
   exact Wb (Wb (aY Z (fun x U h₄=>Wb (aY h₄ (fun _ T h₅=>aA (aA ⟨rfl,h₅⟩)) fun _ _ h'=>h')) fun _ _ h'=>h'))
def PR{pins:CG}{σ:St}{U:Hp}{s2:SD}{Q:VK}{it:AD}{fp:tT}{tn:Nat->Heap->Prop}{J:It}{cl:List (Str×AD)}{E:tE}{RR:VL->AD->Result->SD->Prop} (S:Dy scope N x ix)(hcalm:X.calm=true){tgE:Expr}{g:TG}(Rv:St->Prop)(r0:Rv (carry fr σ))(hpg:∀C,PG (A1 X scope cl N C s2 U fp) tgE g)(hfr:FQ N X.N scope X.env.scope fr 0=true)(hlen:fr.length=N.length) (hif:∀cl C s₀ H₀ fp,NO Ch ifs tif)(he:∀cl C s₀ H₀ fp,PE Ch elt te) (R:Inv X pins σ U s2)(T:Turn X.prog X.w X.K tgE J fp it tn)(st2:tn 0 s2.heap)(f2:∀b∈fp,Jn X pins U b) (c1:∀x c,cl.lookup x=some c->X.env.cells.lookup x=some c)(c2:∀x∈scope.names,x.2=NameKind.free->∃c,cl.lookup x.1=some c) (W:∀D,U D=none->∃W:Nat->Nat->List V->Hp->Prop,(∃m,W 0 m [] (upd U D (.lst []))) /\∀i m ys H,W i m ys H->H D=some (.lst ys)/\((J.stop i H/\Q (.ref D) H)\/(J.go i H/\ys.length<sizeLine/\∀x H',J.EU i H x H'->∀σ',Rv σ'->g x σ' H' fun σ6 H6=>Rv σ6 /\tif σ6 H6 fun b U=>if b=true then te σ6 U fun y H3=>H3 D=some (.lst ys)/\∃m',m'<m/\W (i+1) m' (ys++[y]) (upd H3 D (.lst (ys++[y]))) else ∃m',m'<m/\W (i+1) m' ys U))) (fin:Fk):wpAny By X.A (newList []) (fun acc s₃=>wpAny By X.A (newFunctionEnv scope X.env.globals cl [] X.env.qual none .none (some X.env)) (fun cenv s₄ => codeAny By X.A (.compStart (.ListComp elt [⟨tgE,iter,ifs,0⟩] scope pos) 0 (.ref it) acc {cenv with scope:=relabel scope X.env}) (RR acc cenv.locals) s₄) E s₃) E s2:=by
 refine aZ (wpAny_newFunctionEnv S.cell (by intro y hy;simp at hy) (fun h₁ Z M=>?_) S.kind);dsimp only at Z M ⊢;generalize hHp:s2.heap.push { cls:=.type "list",dict:=none,data:=.seq ([]:List VL).toArray}=Y at Z M ⊢;have hC:Y.objs.size=s2.heap.objs.size+1:=by rw[<-hHp,(L8)]
 have hDC:s2.heap.objs.size≠Y.objs.size:=by rw[hC];exact aM (Nat.lt_succ_self _)
 have below:∀b,b<s2.heap.objs.size->b≠Y.objs.size/\b≠s2.heap.objs.size:=fun b I=>⟨by rw[hC];exact aM (Nat.lt_succ_of_lt I),Nat.ne_of_lt I⟩;have old:∀b o,s2.heap.get? b=some o->h₁.get? b=some o:=fun b o e=>M.extBut b o (below b (aE e)).1 (aF _ (hHp ▸ aF _ e));have hacc:h₁.get? s2.heap.objs.size=some { cls:=.type "list",data:=.seq ([]:List VL).toArray}:=M.extBut _ _ hDC (aF _ (hHp ▸ aU _ rfl));have hD2:U s2.heap.objs.size=none:=R.Al.fresh (aG _);have hC2:U Y.objs.size=none:=R.Al.fresh (by rw[hC];exact Nat.le_succ _);have fpo:∀b∈fp,b<s2.heap.objs.size:=fun b I=>by
  obtain⟨o,e,_⟩:=T.obj _ _ st2 b I;exact aE e
 obtain⟨W,⟨m0,w0⟩,turn⟩:=W s2.heap.objs.size hD2;have ok:(A1 X scope cl N Y.objs.size s2 U fp).Ok:=by
  refine⟨R.ok.mod,S.kind,R.ok.glob,R.ok.blt,by show s2.heap.objs.size<=Y.objs.size;rw[hC];exact Nat.le_succ _,?_,?_,?_,fun _=>R.ok.hd hcalm,R.ok.frames,.inl rfl,?_,R.bs,Nat.le_trans R.ok.RT R.sz,?_,?_,R.stack,R.Rf,R.kt⟩
  .exact fun a b c h1 h2=>R.ok.inj a b c (c1 _ _ h1) (c1 _ _ h2)
  .intro y hy;obtain⟨k,hm,rfl⟩:=UW S.cell hy;exact c2 _ hm rfl
  .intro y c hf;cases hf
  .intro b I;refine⟨(below b (fpo b I)).1,fun y c e=>?_⟩;obtain⟨_,_,_,_,f5,_⟩:=f2 b I;exact f5 y c (c1 _ _ e)
  .intro b o e I;obtain⟨_,_,_,f4,_,_⟩:=f2 b I;rcases f4 with z|z
   .exact R.ok.SY b o e z
   .exact absurd (aH (aE e) (aT R.ok.RT z)) (Nat.lt_irrefl _)
  .intro b I hs;obtain⟨_,f1,f3,_⟩:=f2 b I;rcases aN.mp (R.OA b hs) with z|z
   .exact f1 z
   .exact f3 z
 have I4:Inv (A1 X scope cl N Y.objs.size s2 U fp) [] (carry fr σ) (upd U s2.heap.objs.size (.lst [])) {s2 with heap:=h₁,toks:=s2.toks+([]:List (Str×VL)).length}:=by
  refine⟨ok,rfl,R.bare,Un.laid old (aG _) hD2,⟨_,Z,fun i y v h1 h2 h3=>?_⟩,fun y c e=>?_,?_,fun y c e=>?_,fun p hp=>(by cases hp),R.Al.laid old (aG _) ⟨bP _,[],0,.nil,hacc⟩,?_⟩
  .obtain⟨j,e1,e2⟩:=Zl h2;obtain⟨n,n1,n2,n3,n4⟩:=P0 hfr e1;rw[Nat.zero_add]at n1;have:y=n:=by
    have h1':N[i]? = some y:=h1;rw[h1']at n1;exact ak n1
   subst this;obtain⟨m,hn,hl⟩:=R.loc;obtain⟨u,ru,lk⟩:=hl j y v n2 e2 (.inr (.inl n4));refine⟨u,ru,?_⟩;obtain⟨c,hc⟩:=c2 _ (lookup_mem n3) rfl;rcases lk with ⟨k1,_⟩|⟨_,c',hc',hcell⟩
   .have k1':X.env.scope.names.lookup y=some .local:=k1;rw[n4]at k1';cases k1'
   .have:=c1 _ _ hc;rw[hc']at this;cases this;refine .inr ⟨?_,c,hc,hcell.keeps old⟩;rcases h3 with z|z|z
    .obtain⟨k,hm⟩:∃k,(y,k)∈scope.names/\k=NameKind.local:=by
      have hm:=lookup_mem z;have hm':(y,NameKind.local)∈(relabel scope X.env).names:=hm;unfold relabel at hm';obtain⟨⟨m',k⟩,hy,e⟩:=aI.mp hm';dsimp only at e;by_cases hcond:(k==NameKind.free&&X.env.scope.kind==.function&&X.env.kindOf m'==some .cell)=true
      .rw[if_pos hcond]at e;injection e with _ e2';cases e2'
      .rw[if_neg hcond]at e;injection e with e1' e2';subst e1' e2';exact⟨_,hy,rfl⟩
     obtain⟨hm,rfl⟩:=hm;have:=S.names _ hm rfl;rw[n3]at this;cases this
    .exact .inl z
    .exact .inr z
  .obtain⟨v,z⟩:=R.cell y c (c1 _ _ e);exact⟨v,z.keeps old⟩
  .show upd U s2.heap.objs.size _ Y.objs.size=none;rw[AK (Ne.symm hDC)];exact hC2
  .obtain⟨v,o,ho,_⟩:=R.cell y c (c1 _ _ e);rw[AK (below c (aE ho)).2];exact R.F9 y c (c1 _ _ e)
  .show(carry fr σ).length=N.length;unfold carry;rw[(Af)];exact hlen
 have fpX:∀(p:CG) (H':Hp),(∀q∈p,q.1∈fp->False)->(∀b∈fp,H' b=none)->∀b∈fp,Jn (A1 X scope cl N Y.objs.size s2 U fp) p H' b:=fun p H' hp hn b I=>by
  obtain⟨_,f1,f3,f4,f5,_⟩:=f2 b I;refine⟨hn b I,(below b (fpo b I)).1,fun hs=>ok.R6 b I hs,.inl I,fun y c e=>f5 y c (c1 _ _ e),fun q hq e=>?_⟩;exact hp q hq (e ▸ I)
 have hxv:(relabel scope X.env).names.lookup x=some .local:=lookup_relabel_local S.loc;have loop:∀s₃:SD,s₃={s2 with heap:=h₁,toks:=s2.toks+([]:List (Str×VL)).length} ->
   codeAny By X.A (.compLoop (.ListComp elt [⟨tgE,iter,ifs,0⟩] scope pos) 0 (.ref it) (.ref s2.heap.objs.size) (compEnvC scope cl Y.objs.size X.env)) (RR (.ref s2.heap.objs.size) Y.objs.size) s₃:=by
  rintro s₃ rfl;refine LY (fun n s'=>∃i ys σ' H',Inv (A1 X scope cl N Y.objs.size s2 U fp) [] σ' H' s'/\Rv σ'/\tn i s'.heap/\(∀b∈fp,H' b=none)/\W i n ys H') ?_ m0
   ⟨0,[],carry fr σ,_,I4,r0,T.keep _ _ _ st2 fun b _ o e=>old b o e,fun b I=>by rw[AK (below b (fpo b I)).2];exact(f2 b I).1,w0⟩
  rintro n s3 ⟨i,ys,σ3,H3,I3,hσ,st3,fr3,w3⟩;obtain⟨hD3,way⟩:=turn i n ys H3 w3;rcases way with ⟨stop,qn⟩|⟨go,hsz,step⟩
  .refine aY (T.done (A1 X scope cl N Y.objs.size s2 U fp) rfl rfl rfl hcalm i [] s3 σ3 H3 (fun _ _=>False) I3 (fpX [] H3 (fun _ z=>by cases z) fr3) st3 stop) (fun r s4 ⟨hr,I5⟩=>?_) fun _ _ z=>z.elim;subst hr;obtain⟨m,hn,_⟩:=id I5.loc;refine fin _ _ s4 H3 m hn qn (fun h' hs'=>?_) (Ne.symm hDC) (fun b o e=>(below b (aE e)).1) I5.free (by rw[hC];exact Nat.le_succ _);have nC:∀b u,H3 b=some u->b≠Y.objs.size:=fun b u e z=>by
    have:=I5.free;rw[show(A1 X scope cl N Y.objs.size s2 U fp).env.locals=Y.objs.size from rfl,<-z,e]at this;cases this
   have keepU:Un (GB X.stack) fp U H3 s2.heap h':=by
    have u:=I5.base;refine⟨fun b o e n I hx=>?_,fun b o e n I hx=>?_,fun b o e n hx=>u.free b o e n hx,fun b o e hx=>?_,u.D9,u.F0,u.Gy,fun b xs o q e hx=>(hs'.2 b (below b (aE e)).1).trans (u.Gv b xs o q e hx)⟩
    .exact(hs'.2 b (below b (aE e)).1).trans (u.keep b o e n I hx)
    .obtain⟨sl,e1⟩:=u.slot b o e n I hx;exact⟨sl,(hs'.2 b (below b (aE e)).1).trans e1⟩
    .obtain⟨o',e1⟩:=u.there b o e hx;exact⟨o',(hs'.2 b (below b (aE e)).1).trans e1⟩
   have hok':DB X.prog X.w H3 h':=fun b u e=>(I5.Al b u e).KC (fun c v hc q=>(hs'.2 c (by
    rcases hc with rfl|hc
    .exact nC _ _ e
    .exact nC _ _ hc)).trans q) (fun _ q=>q) fun _ _ q=>q
   refine R.iO (s':={s4 with heap:=h'}) (ch:=fp) I5.os keepU hok' I5.bare fun b I=>?_;obtain⟨_,f1,_,f4,f5,f6⟩:=f2 b I;exact⟨f4,f1,f5,f6⟩
  .refine aY (T.item (A1 X scope cl N Y.objs.size s2 U fp) rfl rfl rfl hcalm i [] s3 σ3 H3 (fun _ _=>False) I3 (fpX [] H3 (fun _ z=>by cases z) fr3) st3 go) (fun r s4 ⟨u,hr,h4⟩=>?_) fun _ _ z=>z.elim;subst hr;show wpAny By X.A (letOwnedTupleGo tgE (.ref it) u>>=fun _=>assign tgE (compEnvC scope cl Y.objs.size X.env) u) _ _ s4;refine Wb (aY h4 (fun _ s5 ⟨xv,H5,I5,r5,y5,st5,fr5⟩=>?_) fun _ _ z=>z.elim);have I5':=I5.pinned (fpX [] H5 (fun _ z=>by cases z) fr5) (T.obj _ _ st5);refine aY (hpg _ _ s5 σ3 H5 xv u _ I5' r5 (step xv H5 y5 σ3 hσ)) (fun _ s6 ⟨σ6,H6,I6,rv6,step5⟩=>?_) fun _ _ z=>z.elim;refine aY (hif _ _ _ _ _ _ s6 _ H6 _ I6 step5) (fun b s7 ⟨H7,I7,q7⟩=>?_) fun _ _ z=>z.elim;have again:∀ {s8:SD} {H8:Hp} {k:Nat} {zs:List V},Inv (A1 X scope cl N Y.objs.size s2 U fp) ([]++OP fp s5.heap) σ6 H8 s8->W (i+1) k zs H8->k<n ->
     ∃m,m<n/\∃i ys σ' H',Inv (A1 X scope cl N Y.objs.size s2 U fp) [] σ' H' s8/\Rv σ'/\tn i s8.heap/\(∀b∈fp,H' b=none)/\W i m ys H':=fun {s8 H8 k zs} I8 w8 hk=>by
    refine⟨k,hk,i+1,zs,_,H8,I8.Mq,rv6,T.keep _ _ _ st5 fun b I o e=>(I8.pin (b,o) (ag _ (ag _ (Kh I e)))).1,fun b I=>?_,w8⟩;obtain⟨o,e,d⟩:=T.obj _ _ st5 b I;exact(I8.pin (b,o) (ag _ (ag _ (Kh I e)))).2.1
   cases b with
   |false=>
    rw[if_neg aJ]at q7 ⊢;obtain⟨k,hk,w7⟩:=q7;exact again I7 w7 hk
   |true=>
    rw[if_pos rfl]at q7 ⊢;refine aY (he _ _ _ _ _ _ s7 _ H7 _ I7 q7) (fun yv s8 ⟨y,H8,I8,r8,hD8,k,hk,w8⟩=>?_) fun _ _ z=>z.elim;refine aY (Hl (X:=A1 X scope cl N Y.objs.size s2 U fp) _ s8 _ H8 (.ref s2.heap.objs.size) [y] (.ref s2.heap.objs.size) [yv] (fun _ H9=>H9=upd H8 s2.heap.objs.size (.lst (ys++[y]))) I8 rfl (.cons r8 .nil) ⟨_,ys,y,rfl,rfl,hD8,hsz,rfl⟩) (fun _ s9 ⟨_,H9,I9,_,e9⟩=>?_) fun _ _ z=>z.elim;subst e9;exact again I9 w8 hk
 exact codeAny_compStart_list (loop _ rfl) (T.self X.A 0 _ _ _ (T.keep _ _ _ st2 fun b _ o e=>old b o e) (loop _ rfl))
def Y1{pins:CG}{σ:St}{I:Hp}{s2:SD}{Q:VK}{it:AD}{fp:tT}{tn:Nat->Heap->Prop}{J:It}{cl:List (Str×AD)}{E:tE}{RR:VL->AD->Result->SD->Prop} (S:Dy scope N x ix)(M:X.calm=true)(hfr:FQ N X.N scope X.env.scope fr 0=true)(hlen:fr.length=N.length) (hif:∀cl C s₀ H₀ fp,NO Ch ifs tif)(he:∀cl C s₀ H₀ fp,PE Ch elt te) (I2:Inv X pins σ I s2)(T:Turn X.prog X.w X.K (.Name x px) J fp it tn)(st2:tn 0 s2.heap)(f2:∀b∈fp,Jn X pins I b) (c1:∀x c,cl.lookup x=some c->X.env.cells.lookup x=some c)(c2:∀x∈scope.names,x.2=NameKind.free->∃c,cl.lookup x.1=some c) (W:∀D,I D=none->∃W:Nat->Nat->List V->Hp->Prop,(∃m,W 0 m [] (upd I D (.lst []))) /\∀i m ys H,W i m ys H->H D=some (.lst ys)/\((J.stop i H/\Q (.ref D) H)\/(J.go i H/\ys.length<sizeLine/\∀x H',J.EU i H x H' ->tif ((carry fr σ).set ix (some x)) H' fun b I=>if b=true then te ((carry fr σ).set ix (some x)) I fun y H3=>H3 D=some (.lst ys)/\∃Z,Z<m/\W (i+1) Z (ys++[y]) (upd H3 D (.lst (ys++[y]))) else ∃Z,Z<m/\W (i+1) Z ys I))) (fin:Fk):wpAny By X.A (newList []) (fun acc Y=>wpAny By X.A (newFunctionEnv scope X.env.globals cl [] X.env.qual none .none (some X.env)) (fun g U => codeAny By X.A (.compStart (.ListComp elt [⟨.Name x px,iter,ifs,0⟩] scope pos) 0 (.ref it) acc {g with scope:=relabel scope X.env}) (RR acc g.locals) U) E Y) E s2:=by
 have hxv:(relabel scope X.env).names.lookup x=some .local:=lookup_relabel_local S.loc;refine PR S M (fun R=>∀v,R.set ix v=(carry fr σ).set ix v) (fun _=>rfl) (fun C=>Az (X:=A1 X scope cl N C s2 I fp) S.nd S.at_ (.inl hxv) (.inr hxv)) hfr hlen hif he I2 T st2 f2 c1 c2 (fun D hD=>?_) fin;obtain⟨W,w0,st⟩:=W D hD;refine⟨W,w0,fun i m ys H w=>?_⟩;obtain⟨h1,h2|⟨h2,h3,h4⟩⟩:=st i m ys H w
 .exact⟨h1,.inl h2⟩
 .refine⟨h1,.inr ⟨h2,h3,fun x H' hy R hr=>?_⟩⟩;have:=h4 x H' hy;rw[<-hr]at this;exact⟨fun v=>by rw[List.set_set,hr],this⟩
def jd(S:Dy scope N x ix)(U:X.calm=true)(hfr:FQ N X.N scope X.env.scope fr 0=true)(Y:fr.length=N.length)(M:∀y∈scope.names,y.2=.free->X.env.scope.names.lookup y.1=some .cell\/X.env.scope.names.lookup y.1=some .free) (hi:PI X (.Name x px) iter wi)(hif:∀cl C s₀ H₀ fp,NO Ch ifs tif)(he:∀cl C s₀ H₀ fp,PE Ch elt te) (hs:∀x,foldedSetIterable iter X.env x=pure x:=by intro _;rfl):PE X (.ListComp elt [⟨.Name x px,iter,ifs,0⟩] scope pos) (UC wi fr ix tif te):=by
 intro pins s σ H Q I hw;obtain⟨cl,R,c1,_,c2⟩:=Iq (env:=X.env) scope.names [] (fun y hy hf=>I.ok.has y.1 (M y hy hf)) (fun y c z=>by cases z);have g:closureFor scope X.env=pure cl:=by
  have e:closureFor scope X.env=((forIn scope.names [] (fun(x:Str×NameKind) (r:List (Str×AD))=>do if(x.2==NameKind.free)=true then do let a <-cellOf X.env x.1;pure (ForInStep.yield ((x.1,a)::r)) else pure (ForInStep.yield r)):Sem (List (Str×AD)))>>=fun cs=>pure cs):=rfl;rw[e,R]
  rfl
 rw[eval_ListComp];refine wpAny_comprehension_free (use:=none) rfl hs g S.kind S.names (A9 (hi pins s σ H _ I hw) fun v s1 h1=>A9 h1 fun itv s2 h2=>?_);obtain⟨it,fp,tn,J,H2,e,I2,T,Z,f2,W⟩:=h2;subst e;refine Y1 (RR:=fun acc C=>compPost By X.A X.xe none (EP X pins σ Q) acc C) S U hfr Y hif he I2 T Z f2 c1 c2 W ?_;intro D C s' H' m hn q hI _ _ _ _;exact⟨m,hn,fun h' hs'=>⟨.ref D,H',hI h' hs',rfl,q⟩⟩
end
end L2
namespace FM
def gi(a b:Int):Int:=(Int.gcd a b:Int)
def Vc(a b:Int):Int.gcd b (a.fmod b)=Int.gcd a b:=by
 have e:a.fmod b=a-b*a.fdiv b:=Int.fmod_def a b;rw[e,Int.gcd_comm a b];exact Int.gcd_sub_mul_left_right b a (a.fdiv b)
def Sh(a b:Int)(g:b≠0):(a.fmod b).natAbs<b.natAbs:=by
 rcases Int.lt_or_gt_of_ne g with h|h
 .have R:-(a.fmod b)=(-a).fmod (-b):=by
   rw[Int.fmod_def,Int.fmod_def,Int.neg_fdiv_neg];have:-b*a.fdiv b=-(b*a.fdiv b):=Int.neg_mul _ _
   lia
  have M:=Int.fmod_nonneg_of_pos (-a) (show 0 < -b by lia);have I:=Int.fmod_lt_of_pos (-a) (show 0 < -b by lia)
  lia
 .have M:=Int.fmod_nonneg_of_pos a h;have I:=Int.fmod_lt_of_pos a h
  lia
def LB{a b:Int}(g:b≠0):0<gi a b:=by
 have:0<Int.gcd a b:=Int.gcd_pos_of_ne_zero_right a g;unfold gi;lia
def YW{a b:Int}(I:b≠0):(gi a b).natAbs<=b.natAbs:=by
 have h:Int.gcd a b ∣ b.natAbs:=by
  have:=Int.gcd_dvd_right a b;exact Int.natAbs_dvd_natAbs.mpr this
 have g:0<b.natAbs:=by lia
 have:=Nat.le_of_dvd g h;unfold gi;lia
def gs(t b:Int):Int:=if b<0 then -gi t b else gi t b
def gp{t b:Int}(g:b≠0):gs t b≠0:=by
 have:=LB (a:=t) g;unfold gs;split<;>lia
def gg{t b:Int}(g:b≠0):(gs t b).natAbs<=b.natAbs:=by
 have:=YW (a:=t) g;unfold gs;split<;>lia
def Fd{g x k:Int}(I:g≠0)(e:x=g*k):x.fdiv g=k:=by
 subst e;exact Int.mul_fdiv_cancel_left k I
def MC(a b:Int):gi a b ∣ a:=Int.gcd_dvd_left a b
def OX(a b:Int):gi a b ∣ b:=Int.gcd_dvd_right a b
def Zp{t b:Int}(M:b≠0):t.fdiv (gs t b)=(Rat.divInt t b).num:=by
 have R:=LB (a:=t) M;obtain⟨k,I⟩:=MC t b;rw[Rat.num_divInt,Int.gcd_comm b t];show t.fdiv (gs t b)=b.sign*t / gi t b;unfold gs;generalize gi t b=g at R I ⊢;rcases Int.lt_or_gt_of_ne M with h|h
 .rw[if_pos h,Int.sign_eq_neg_one_of_neg h,Fd (k:=-k) AC (by rw[I];simp[Int.mul_neg,Int.neg_mul])];have:-1*t=g*(-k):=by rw[I];simp[Int.mul_neg]
  rw[this,Int.mul_ediv_cancel_left _ AC]
 .rw[if_neg AC,Int.sign_eq_one_of_pos h,Fd (k:=k) AC I,Int.one_mul,I,Int.mul_ediv_cancel_left _ AC]
def b6{t b:Int}(M:b≠0):b.fdiv (gs t b)=((Rat.divInt t b).den:Int):=by
 have R:=LB (a:=t) M;obtain⟨k,I⟩:=OX t b;rw[Rat.den_divInt,if_neg M,Int.gcd_comm b t];have e:(((b.natAbs / Int.gcd t b:Nat)):Int)=(b.natAbs:Int) / gi t b:=by unfold gi;simp
 rw[e];unfold gs;generalize gi t b=g at R I ⊢;rcases Int.lt_or_gt_of_ne M with h|h
 .rw[if_pos h,Fd (k:=-k) AC (by rw[Int.neg_mul_neg];exact I)];have:(b.natAbs:Int)=g*(-k):=by rw[Int.mul_neg,<-I];lia
  rw[this,Int.mul_ediv_cancel_left _ AC]
 .rw[if_neg AC,Fd (k:=k) AC I];have:(b.natAbs:Int)=g*k:=by rw[<-I];lia
  rw[this,Int.mul_ediv_cancel_left _ AC]
def F7(a b:Int):(a.fdiv b).natAbs<=a.natAbs:=by
 cases a with
 |ofNat n=>
  cases n with
  |zero=>
   have e:Int.fdiv (.ofNat 0) b=0:=Int.zero_fdiv b;rw[e];exact bP _
  |succ k=>
   cases b with
   |ofNat j=>exact Nat.div_le_self (k+1) j
   |negSucc j=>exact Nat.succ_le_succ (Nat.div_le_self k (j+1))
 |negSucc k=>
  cases b with
  |ofNat j=>
   cases j with
   |zero=>exact bP _
   |succ j=>exact Nat.succ_le_succ (Nat.div_le_self k (j+1))
  |negSucc j=>exact Nat.div_le_self (k+1) (j+1)
def Fu(p:Rat):Rat.divInt p.num p.den=p:=Rat.num_divInt_den p
def YF{p q:Rat}(h1:p.num=q.num)(g:(p.den:Int)=(q.den:Int)):p=q:=Rat.ext h1 AC
def Dl{x y:Int}{m n:Nat}(I:x.natAbs<2^m)(g:y.natAbs<2^n):(x*y).natAbs<2^(m+n):=by
 rw[Int.natAbs_mul,Nat.pow_add];exact Nat.mul_lt_mul'' I g
def EL{x:Nat}{m n:Nat}(g:x<2^m)(h:m<=n):x<2^n:=aH g (aS AS h)
def Fits(p:Rat)(n:Nat):Prop:=p.num.natAbs<2^n/\p.den<2^n
def Fits.mono{p:Rat}{m n:Nat}(h:Fits p m)(l:m<=n:=by decide):Fits p n:=⟨EL h.1 l,EL h.2 l⟩
def Fits.d{p:Rat}{n:Nat}(h:Fits p n):((p.den:Int)).natAbs<2^n:=by simpa using h.2
end FM
namespace FM
def jD(a b:Int):Int.gcd (if a<0 then -a else a) (if b<0 then -b else b)=Int.gcd a b:=by
 split<;>split<;>simp[Int.gcd_neg,Int.neg_gcd]
def abs_nonneg(a:Int):0<=(if a<0 then -a else a):=by split<;>lia
def kA{g a b:Int}(h:Int.gcd g 0=Int.gcd a b)(h0:0<=g):g=gi a b:=by
 unfold gi;rw[<-h,Int.gcd_zero_right]
 lia
def jR{g a b:Int}(h:Int.gcd g 0=Int.gcd a b):(if g<0 then -g else g)=gi a b:=by
 unfold gi;rw[<-h,Int.gcd_zero_right];split<;>lia
def fmod_nonneg{g l:Int}(I:l≠0)(h:0<=l):0<=g.fmod l:=Int.fmod_nonneg_of_pos g AC
end FM
namespace L2
open PySem PySem.Spec PyProof.Rows
structure Fn(K:Fg)(mg:Str->Option Value)(x:Str)(st:Stmt)(ps:List Str)(f:Addr)(fd:FuncData):Prop where
 F:S3 K x x st f fd
 b:Binds K fd ps []
 m:mg x=some (.ref f)
section
variable{X:Cx}{k:Nat}{f:AD}{fd:F0a}{ps:tK}{sp:Sp}{x:Str}{st:Stmt}{p pos:Pos}{e:Expr}{es:tL}{t:TA}
def A3(T:Fn X.K X.mg x st ps f fd)(G:AI X.prog X.w X.K X.mg X.base Ag k f fd ps sp)(M:CS k X.A)(R:Gl X x)(ha:PA X (e::es) t) (I:FS=false:=by decide)(U:starEach (e::es) X.env=(false,eval e X.env)::starEach es X.env:=by rfl)(g:(backTo pos (starEach es X.env)).any (·.1)=false:=by rfl):PE X Fi (UJ sp [] E0 t):=XH G M R T.m T.F.kp T.b .nil oT ha I U g
end
def Iy{t u:TS}{D:Ends}{σ:St}{H:Hp}(P:St->Hp->Prop)(h1:∀nx:St->Hp->Prop,(∀g H',P g H'->nx g H')->t {D with nx:=nx} σ H)(I:∀g H',P g H'->u D g H'):nY t u D σ H:=h1 _ I
def XZ:2<=sizeLine:=by decide
def AZ{H:Hp}{p:AD}(h:H p=none)(o:HO):AJ H (upd H p o):=fun b u q=>by rw[AK (AV q h)];exact q
def SameBut(l:AD)(H H':Hp):Prop:=∀b o,b≠l->H b=some o->H' b=some o
def SameBut.of{l:AD}{H H':Hp}(h:AJ H H'):SameBut l H H':=fun b o _ q=>h b o q
def SameBut.trans{l:AD}{H I g:Hp}(a:SameBut l H I)(b:SameBut l I g):SameBut l H g:=fun c o n h=>b c o n (a c o n h)
theorem SameBut.upd{l:AD}{H:Hp}{o:HO}:SameBut l H (upd H l o):=fun b u n q=>by rw[AK n];exact q
def Jp(p:Rat):tR:=[.int p.num,.int (p.den:Int)]
def BG(p:Rat):PD:=.tuple [.int p.num,.int (p.den:Int)]
def MA{i j:Int}{m n:Nat}(h1:i.natAbs<2^m)(g:j.natAbs<2^n)(h:m+n<=1000000):Ry i j\/Ow i j :=
 .inr ⟨m+n,h,FM.EL h1 (Nat.le_add_right _ _),FM.EL g (Nat.le_add_left _ _)⟩
def Bx.get{P:F0b}{w:F0c}{H:Hp}{h:Heap}{a:AD}{o:HO}(x:Bx P w H h a o):∃u,h.get? a=some u:=by
 cases o with
 |lst xs=>obtain⟨_,_,_,_,e⟩:=x;exact⟨_,e⟩
 |tup xs=>obtain⟨_,_,_,o,e,_⟩:=x;exact⟨o,e⟩
 |dK kvs=>obtain⟨_,_,_,_,o,_,_,e,_⟩:=x;exact⟨o,e⟩
 |dT kvs=>obtain⟨_,_,_,_,o,_,_,e,_⟩:=x;exact⟨o,e⟩
 |set S n=>obtain⟨o,_,_,_,e,_⟩:=x;exact⟨o,e⟩
 |ins C dx fs=>obtain⟨_,_,_,e,_⟩:=x;exact⟨_,e⟩
 |own y=>obtain⟨o,e⟩:=x;exact⟨o,e⟩
 |xd fs=>obtain⟨_,⟨o,_,_,e,_⟩,_⟩:=x;exact⟨o,e⟩
 |gx lo hi=>obtain⟨_,_,_,e⟩:=x;exact⟨_,e⟩
 |Fe ob u=>obtain⟨e,_⟩:=x;exact⟨_,e⟩
 |Pc ps=>exact⟨_,(show h.get? a=some _ from x)⟩
 |met f y=>exact⟨_,(show h.get? a=some _ from x)⟩
 |ext φ=>obtain⟨_,⟨o,e⟩,_⟩:=x;exact⟨o,e⟩
structure eK(P:Program)(w:World)(outer:List Env)(H:Hp)(s:Shared)(ea:Addr)(cls a0:Value)(H':Hp)(s':Shared)(B:Heap):Prop where
 os:s'.os=s.os
 bare:AllBare s'.gens
 mG:Heap.FlyingW B outer ea cls a0 s'.heap
 keep:∀b o,s.heap.get? b=some o->H b=none->b ∉ GB outer->B.get? b=some o
 there:∀b o,s.heap.get? b=some o->b ∉ GB outer->∃o',B.get? b=some o'
 slot:∀b o,s.heap.get? b=some o->b∈GB outer->∃sl,s'.heap.get? b=some {o with slots:=sl}
 free:∀b o,s.heap.get? b=some o->H b=none->H' b=none
 D9:∀b xs,H b=some (.tup xs)->H' b=some (.tup xs)
 F0:∀b o u,H b=some (.Fe o u)->H' b=some (.Fe o u)
 Gy:∀b ps,H b=some (.Pc ps)->∃more,H' b=some (.Pc (ps++more))
 Gv:∀b xs o,H b=some (.tup xs)->s.heap.get? b=some o->B.get? b=some o
 Al:DB P w H' B
 new:s.heap.get? ea=none
def C3(P:F0b)(w:F0c):GL:=fun outer H s E e s'=>∃ea cls a0 H' B,e=.ref ea/\eK P w outer H s ea cls a0 H' s' B/\E cls none H'
def P9{base h:Heap}{l:tV}(F:h.FunFrames base l){b:AD}(g:b∈GB l):∃o,h.get? b=some o/\∀vs,o.data≠.fields vs:=(F.mem g).2
section
variable{P:F0b}{w:F0c}{K:Fg}{mg:tF}{base:Heap}{N:tK}{qual:Str}{scope:Scope}{f:AD}{cd:VL}{A:F0d}{outer:tV}{s:SD}{H:Hp}{E:XK}
def jK{pins:CG}{σ:St}{Y:Hp}{s1:SD}{h':Heap}{ea:AD}{cls:VL}{args:sy}(I:Inv (CV (C3 P w) P w K mg base N qual scope f cd A outer s H E) pins σ Y s1) (hx:Heap.MadeExcOf s1.heap h' ea cls args)(hE:E cls none Y):(CV (C3 P w) P w K mg base N qual scope f cd A outer s H E).xe (.ref ea) {s1 with heap:=h'}:=by
 show wpAny (model P w) (A.deeper (envOfC qual scope s.heap.objs.size f cd)) (leaving (envOfC qual scope s.heap.objs.size f cd) (.ref ea)) _ _ _;have FF:=I.stack;have hfr:(A.deeper (envOfC qual scope s.heap.objs.size f cd)).frames=some (envOfC qual scope s.heap.objs.size f cd::outer):=I.ok.frames;have hin:∀env∈(envOfC qual scope s.heap.objs.size f cd::outer),∀b,env.frame=some b->b∈(envOfC qual scope s.heap.objs.size f cd::outer).filterMap (·.frame):=fun env he b M=>List.mem_filterMap.mpr ⟨env,he,M⟩;have R:∀b o,s.heap.get? b=some o->b≠s.heap.objs.size:=fun b o e=>aM (aE e);have out:∀b,b≠s.heap.objs.size->b ∉ GB outer->b ∉ (envOfC qual scope s.heap.objs.size f cd::outer).filterMap (·.frame):=fun b h1 h2 hm=>by
  rcases aN.mp (I.OA b hm) with z|z
  .exact h1 z
  .exact h2 z
 have g:∀b u,Y b=some u->b ∉ (envOfC qual scope s.heap.objs.size f cd::outer).filterMap (·.frame):=fun b u e hm=>by
  have:=I.Rf b hm;rw[e]at this;cases this
 refine wpAny_leaves_madeW (base:=PySem.W.hideAll s1.heap ((envOfC qual scope s.heap.objs.size f cd::outer).filterMap (·.frame))) hfr rfl (fun b o q=>PySem.W.of_hideAll _ q) (PySem.W.funFrames_hide FF hin) hx fun h2 t fl _ _ up=>?_;have U:DB P w Y (PySem.W.hideAll s1.heap ((envOfC qual scope s.heap.objs.size f cd::outer).filterMap (·.frame))):=fun b u e=>
  (I.Al b u e).KC (fun c v hc q=>PySem.W.hideAll_get _ q (by
   rcases hc with rfl|hc
   .exact g _ _ e
   .exact g _ _ hc)) (fun _ q=>q) fun _ _ q=>q
 refine⟨ea,cls,.ref t,Y,_,rfl,⟨I.os,I.bare,fl,fun b o e n M=>?_,fun b o e M=>?_,fun b o e M=>?_,fun b o e n=>I.base.free b o e n (by simp[CV]),I.base.D9,I.base.F0,I.base.Gy,fun b xs o q e=>PySem.W.hideAll_get _ (I.base.Gv b xs o q e (by simp[CV])) (g b _ (I.base.D9 b xs q)),U,?_⟩,hE⟩
 .exact PySem.W.hideAll_get _ (I.base.keep b o e n M (by simp[CV])) (out b (R b o e) M)
 .obtain⟨o',T⟩:=I.base.there b o e (by simp[CV]);exact⟨o',PySem.W.hideAll_get _ T (out b (R b o e) M)⟩
 .obtain⟨sl,T⟩:=I.base.slot b o e (I.ok.Qb b M) M (by simp[CV]);obtain⟨o',e2,hd⟩:=P9 I.Ib M;rw[T]at e2;cases e2;obtain⟨Z,e3⟩:=up b _ (hx.keeps _ _ T) hd;exact⟨Z,e3⟩
 .cases q:s.heap.get? ea with
  |none=>rfl
  |some o=>
   obtain⟨o',T⟩:=I.base.there ea o q (by simp[CV]);have:=hx.new;rw[T]at this;cases this
def oU{E':XK}(hE:∀c a H',E' c a H'->E c a H'):Passes (C3 P w) (CV (C3 P w) P w K mg base N qual scope f cd A outer s H E) E':=by
 intro pins σ H1 s1 e s2 I ⟨ea,cls,a0,H2,B,ee,F,hq⟩;subst ee;show wpAny (model P w) (A.deeper (envOfC qual scope s.heap.objs.size f cd)) (leaving (envOfC qual scope s.heap.objs.size f cd) (.ref ea)) _ _ _;have R:∀b o,s.heap.get? b=some o->b≠s.heap.objs.size:=fun b o e=>aM (aE e);have out:∀b,b≠s.heap.objs.size->b ∉ GB outer->b ∉ GB (CV (C3 P w) P w K mg base N qual scope f cd A outer s H E).stack:=fun b h1 h2 hm=>by
  rcases aN.mp (I.OA b hm) with z|z
  .exact h1 z
  .exact h2 z
 refine wpAny_leaves_onW I.ok.frames rfl F.mG fun h3 fl up=>?_;refine⟨ea,cls,a0,H2,B,rfl,⟨F.os.trans I.os,F.bare,fl,fun b o e n M=>?_,fun b o e M=>?_,fun b o e M=>?_,fun b o e n=>?_,fun b xs q=>F.D9 b xs (I.base.D9 b xs q),fun b o u q=>F.F0 b o u (I.base.F0 b o u q),fun b ps q=>?_,fun b xs o q e=>F.Gv b xs o (I.base.D9 b xs q) (I.base.Gv b xs o q e (by simp[CV])),F.Al,?_⟩,hE _ _ _ hq⟩
 .exact F.keep b o (I.base.keep b o e n M (by simp[CV])) (I.base.free b o e n (by simp[CV])) (out b (R b o e) M)
 .obtain⟨o',g⟩:=I.base.there b o e (by simp[CV]);exact F.there b o' g (out b (R b o e) M)
 .obtain⟨sl,g⟩:=I.base.slot b o e (I.ok.Qb b M) M (by simp[CV]);have U:b∈GB (CV (C3 P w) P w K mg base N qual scope f cd A outer s H E).stack:=by
   show b∈GB (envOfC qual scope s.heap.objs.size f cd::outer);unfold GB;rw[(Rz)];exact aK _ M
  obtain⟨sl2,Y⟩:=F.slot b _ g U;obtain⟨o',Z,hd⟩:=P9 I.Ib M;rw[g]at Z;cases Z;obtain⟨T,e4⟩:=up b _ Y hd;exact⟨T,e4⟩
 .obtain⟨o',g⟩:=I.base.there b o e (by simp[CV]);exact F.free b o' g (I.base.free b o e n (by simp[CV]))
 .obtain⟨m1,g⟩:=I.base.Gy b ps q;obtain⟨m2,Y⟩:=F.Gy b _ g;exact⟨m1++m2,by rw[Y,Array.append_assoc]⟩
 .cases q:s.heap.get? ea with
  |none=>rfl
  |some o=>
   obtain⟨o',g⟩:=I.base.there ea o q (by simp[CV]);have:=F.new;rw[g]at this;cases this
def S3.sM{x:Str}{st:Stmt}{fd:F0a}{ps:tK}{k:Nat}{sp:Sp}(F:S3 K x x st f fd)(S:Ad N ps (AO st))(len:∀vs H Q E,sp vs H Q E->vs.length=ps.length) (g:∀(cdv:VL) (A:F0d) (outer:tV) (s:SD) (H:Hp) (vs:tR) (Q:VK) (E:XK),CS k (A.deeper (envOfC x (AO st) s.heap.objs.size f cdv))->sp vs H Q E ->∃t,Ie (CV (C3 P w) P w K mg base N x (AO st) f cdv A outer s H E) (DY st) t/\t { nx:=fun _ H'=>Q .Bf H',rt:=Q} (start N vs) H):AI P w K mg base (C3 P w) (k+1) f fd ps sp:=by
 obtain⟨oc,od,kV,doc,pm,an,cdv,ct,osl,rfl,lk,M⟩:=F.ex;exact gj lk M S len fun A outer s H vs Q E R I=>g cdv A outer s H vs Q E R I
end
structure Exc(K:Fg)(mg:Str->Option Value)(x:Str)(C:Addr):Prop where
 m:mg x=some (.ref C)
 q:PySem.W.excIn K C [.type "ValueError",.type "Exception",.type "BaseException",.type "object"] "ValueError.__new__" = true
def jP{K:Fg}{h:Heap}{C:AD}{bB:sy}{I:String}(Pg:K.In h)(g:PySem.W.excIn K C bB I=true):∃M N nm T bs hd sn sub ab col dd k0 k1 k2 k3 k5 mN,h.get? C=some (excClassObj nm T C N bs M hd sn sub ab col dd k0 k1 k2 k3 k5 I)/\h.Ns N mN/\mN "__init__" = none/\OwnTail h bB M:=by
 unfold PySem.W.excIn at g;split at g
 .rename_i dd cd sl lk;split at g
  .rename_i C1 M k0 k1 k2 k3 n1 k5 e1 Z;simp only[Bool.and_eq_true,beq_iff_eq,Bool.not_eq_true']at g;obtain⟨⟨⟨⟨⟨y1,y2⟩,Y⟩,y4⟩,R⟩,U⟩:=g;subst y1 y2;obtain⟨nm,bs,mro,N,T,hd,sn,sub,ab,col,del⟩:=cd;dsimp only at e1 Y R U;subst e1 Y;have e3:sl=#[k0,k1,k2,k3,some (.builtin n1),k5]:=by
    cases sl with
    |mk l=>simp only at Z;rw[Z]
   subst e3;exact⟨M,N,nm,T,bs,hd,sn,sub,ab,col,dd,k0,k1,k2,k3,k5,_,Pg _ _ lk,.of_isNs (PySem.W.isNs_of_in Pg R),PySem.W.nsMap_none_of_in Pg R U,PySem.W.tail_of_in Pg y4⟩
  .cases g
 .cases g
section
variable{X:Cx}{x:Str}{C:AD}{np cpos pos:Pos}{e:Expr}{te:TE}{E:XK}
def Lets(X:Cx)(E:XK):Prop:=∀(pins:CG) (σ:St) (H:Hp) (s:SD) (h':Heap) (ea:AD) (cls:VL) (args:List VL),Inv X pins σ H s->Heap.MadeExcOf s.heap h' ea cls args->E cls none H->X.xe (.ref ea) {s with heap:=h'}
def nk(C:AD)(E:XK)(te:TE):TS:=fun _ σ H=>te σ H fun _ g=>E (.ref C) none g
def eP(T:Exc X.K X.mg x C)(hL:Lets X E)(M:X.calm=true)(hg:Gl X x)(he:PE X e te)(hd:FS=false:=by decide) (R:starEach [e] X.env=[(false,eval e X.env)]:=by rfl):PS X (.Raise (some (.Call (.Name x np) [e] [] cpos)) none pos) (nk C E te):=by
 intro pins s σ H D I h;obtain⟨tl,N,nm,qn,bs,g,sn,sub,ab,col,dd,k0,k1,k2,k3,k5,Z,hC,hN,Y,TL⟩:=jP I.ok.mod.Pg T.q;refine wpAny_Raise_call_subT (C:=C) (nm:=nm) (q:=qn) (N:=N) (bs:=bs) (bm:=tl) (hdct:=g) (sn:=sn) (sub:=sub) (ab:=ab) (col:=col) (dd:=dd) (k0:=k0) (k1:=k1) (k2:=k2) (k3:=k3) (k5:=k5)
  PySem.F.excBase_ValueError (mN:=Z) (TL.hasType AS) (I.ok.hd M) (by rw[R];rfl) Y (Ko I hg T.m ⟨rfl,?_⟩ hd)
 rw[R];refine Calls.evalArgs_plain (Calls.spliced_cons (A9 (he pins s σ H _ I h) fun u s1 ⟨v,H1,U,r1,q1⟩=>Calls.spliced_nil ?_));exact⟨rfl,by show 1<=sizeLine;decide,U.bk _ _ hC,hN.keeps U.bk,TL.keeps U.bk,fun h' ea hm=>hL pins σ H1 s1 h' ea _ _ U hm q1⟩
end
def Yo(X:Cx)(pins:CG)(σ:St)(E:XK)(e:VL)(s':SD):Prop:=∃H0 s0,Inv X pins σ H0 s0/\C3 X.prog X.w X.stack H0 s0 E e s'
abbrev TX:=St->Hp->VK->XK->Prop
def nK(X:Cx)(e:Expr)(t:TX):Prop :=
 ∀(pins:CG) (s:SD) (σ:St) (H:Hp) (Q:VK) (E:XK),Inv X pins σ H s->t σ H Q E->wpAny By X.A (eval e X.env) (EP X pins σ Q) (Yo X pins σ E) s
section
variable{X:Cx}{k:Nat}{f:AD}{fd:F0a}{ps:tK}{sp:Sp}{x:Str}{st:Stmt}{p pos:Pos}{e:Expr}{es:tL}{t:TA}
def kZ(sp:Sp)(t:TA):TX:=fun σ H Q E=>t σ H fun vs g=>sp (vs++[]) g Q E
def jA{pins:CG}{σ:St}{H:Hp}{s:SD}{Q:VK}{E:XK}{us:sy}{vs:tR}(F:AI X.prog X.w X.K X.mg X.base (C3 X.prog X.w) k f fd ps sp)(R:CS k X.A)(U:Binds X.K fd ps []) (I:At)(r:Vals vs us)(h:sp (vs++[]) H Q E):wpAny By X.A (call (.ref f) us) (EP X pins σ Q) (Yo X pins σ E) s:=by
 rw[(J5)]at h;have T:(us++[]).length=ps.length:=by rw[(J5),<-r.length];exact F.len _ _ _ _ h
 have M:=U s us I.Gs T;rw[(J5)]at M;refine wpAny_call (codeAny_mono (F.run X.A X.stack s H ⟨us,[]⟩ us vs Q E R I.km M r h) fun r s' g=>?_);cases r with
 |error e=>exact⟨H,s,I,g⟩
 |ok Y=>
  cases Y with
  |ret u=>exact I.after g
  |next=>exact False.elim g
  |brk=>exact False.elim g
  |cont=>exact False.elim g
def mV(T:Fn X.K X.mg x st ps f fd)(G:AI X.prog X.w X.K X.mg X.base (C3 X.prog X.w) k f fd ps sp)(U:CS k X.A)(Y:Gl X x)(ha:PA X.KJ (e::es) t) (M:FS=false:=by decide)(Z:starEach (e::es) X.env=(false,eval e X.env)::starEach es X.env:=by rfl)(g:(backTo pos (starEach es X.env)).any (·.1)=false:=by rfl):nK X Fi (kZ sp t):=by
 intro pins s σ H Q E I h;refine bT (Ko I Y T.m ?_ M);refine PySem.W.callWith_K (h₀:=X.base) I.ok.mod.Pg T.F.kp (aY (ha pos pins s σ H _ (I.HY _) h) (fun us s1 ⟨vs,H1,R,r,q⟩=>⟨R.Gs,?_⟩) fun _ _ z=>z.elim) Z g;exact jA G U T.b R.Ey r q
end
def land{X:Cx}{pins:CG}{σ:St}{H0 H':Hp}{s0 s':SD}{ea:AD}{cls a0:VL}{B:Heap}(I:Inv X pins σ H0 s0)(F:eK X.prog X.w X.stack H0 s0 ea cls a0 H' s' B) {h':Heap}{tk:Nat}(st:B.StaysIn h')(up:s'.heap.UpToSlots h'):Inv X pins σ H' { s' with heap:=h',toks:=tk}:=by
 have M:∀b o,s0.heap.get? b=some o->b∈GB X.stack->∃sl,h'.get? b=some {o with slots:=sl}:=fun b o e g=>by
  obtain⟨sl,R⟩:=F.slot b o e g;obtain⟨o',U,hd⟩:=P9 I.stack g;rw[e]at U;cases U;obtain⟨T,Y⟩:=up b _ R hd;exact⟨T,Y⟩
 refine I.iO (s':={ s' with heap:=h',toks:=tk}) (ch:=[]) F.os ⟨fun b o e n g _=>st b o (F.keep b o e n g),fun b o e n g _=>M b o e g,fun b o e n _=>F.free b o e n,fun b o e _=>?_,F.D9,F.F0,F.Gy,fun b xs o q e _=>st b o (F.Gv b xs o q e)⟩ (F.Al.kept st) F.bare fun b z=>absurd z BY;by_cases g:b∈GB X.stack
 .obtain⟨sl,R⟩:=M b o e g;exact⟨_,R⟩
 .obtain⟨o',R⟩:=F.there b o e g;exact⟨o',st _ _ R⟩
def ME(ea:AD)(cls:VL):HO:=.ext fun h=>∃o vs,h.get? ea=some o/\o.cls=cls/\o.data=.fields vs
def om{X:Cx}{pins:CG}{σ:St}{H0 H':Hp}{s0 s' T:SD}{ea:AD}{cls a0:VL}{B:Heap}(I:Inv X pins σ H0 s0)(F:eK X.prog X.w X.stack H0 s0 ea cls a0 H' s' B) (g:Inv X pins σ H' T)(ho:∃o vs,T.heap.get? ea=some o/\o.cls=cls/\o.data=.fields vs):H' ea=none/\Inv X pins σ (upd H' ea (ME ea cls)) T:=by
 have hn:H' ea=none:=by
  cases q:H' ea with
  |none=>rfl
  |some u=>
   obtain⟨o,e⟩:=(F.Al ea u q).get;rw[F.mG.2.1]at e;cases e
 have ne:∀b o,s0.heap.get? b=some o->b≠ea:=fun b o e z=>by rw[z,F.new]at e;cases e
 have up:∀b,b≠ea->upd H' ea (ME ea cls) b=H' b:=fun b z=>AK z;have neT:∀b u,H' b=some u->b≠ea:=fun b u e z=>by rw[z,hn]at e;cases e
 refine⟨hn,g.ok,g.os,g.bare,⟨g.base.keep,g.base.slot,fun b o e n Z=>?_,g.base.there,fun b xs e=>?_,fun b o u e=>?_,fun b ps e=>?_,g.base.Gv⟩,g.loc,g.cell,?_,fun y c e=>?_,fun p hp=>?_,fun b u e=>?_,g.len⟩
 .obtain⟨o',M⟩:=I.base.there b o e Z;rw[up b (ne b o' M)];exact g.base.free b o e n Z
 .have:=g.base.D9 b xs e;rw[up b (neT _ _ this)];exact this
 .have:=g.base.F0 b o u e;rw[up b (neT _ _ this)];exact this
 .obtain⟨m,M⟩:=g.base.Gy b ps e;exact⟨m,by rw[up b (neT _ _ M)];exact M⟩
 .obtain⟨m,⟨o,_,_,e,_⟩,_⟩:=I.loc;rw[up _ (ne _ o e)];exact g.free
 .obtain⟨v,o,M,_⟩:=I.cell y c e;rw[up _ (ne _ o M)];exact g.F9 y c e
 .obtain⟨M,Y,U⟩:=g.pin p hp;have e0:=(I.pin p hp).1;exact⟨M,by rw[up _ (ne _ _ e0)];exact Y,U⟩
 .by_cases hb:b=ea
  .subst hb;rw[AN]at e;cases e;obtain⟨o,vs,M,Y,U⟩:=ho;exact⟨⟨o,vs,M,Y,U⟩,⟨o,M⟩,fun h1 h2 ⟨o1,R,q1,q2⟩ k=>⟨o1,R,k _ q1,q2⟩⟩
  .rw[up b hb]at e;exact(g.Al b u e).KC (fun c v _ q=>q) (fun c q=>by rw[up c (neT _ _ q)];exact q) fun c xs q=>by rw[up c (neT _ _ q)];exact q
structure Fx(K:Fg)(C G:Addr)(b:Bool):Prop where
 cl:(PySem.W.clsIn K G).isSome=true
 ty:PySem.W.typeIn K (.ref G)=some (.type "type")
 ex:PySem.W.subIn K (.ref G) (.type "BaseException")=some true
 sub:PySem.W.subIn K (.ref C) (.ref G)=some b
def fE{M:Model}{A:F0d}{E:tE}{s:SD}{K:Fg}{e C G:AD}{I:Obj}{b:Bool}{Q:Bool->SD->Prop}(X:K.In s.heap)(he:s.heap.get? e=some I)(hc:I.cls=.ref C)(B:Fx K C G b) (h:Q b s):wpAny M A (excMatches (.ref e) (.ref G)) Q E s:=by
 have l1:PySem.W.Looks M s.heap (isInstance (.ref G) Ev) false:=(PySem.W.looks_typeIn X B.ty).andThen (PySem.W.Looks.of_pure tc_notTuple);have Z:PySem.W.Looks M s.heap (isType (.ref G)) true:=by
  have z:=B.cl;unfold PySem.W.clsIn at z;split at z
  .rename_i c' d' cd' R ho;intro A' Q' E' s' k q;unfold isType loadHead;exact Wb (wpAny_loadPart (k _ _ (X _ _ ho)) (aA q))
  .cases z
 have Y:PySem.W.Looks M s.heap (isSubtype (.ref G) (.type "BaseException")) true:=PySem.W.looks_subIn X B.ex;have U:PySem.W.Looks M s.heap (typeOf (.ref e)) (.ref C):=hc ▸ (PySem.W.Looks.ld he).andThen .now
 have T:PySem.W.Looks M s.heap (isSubtype (.ref C) (.ref G)) b:=PySem.W.looks_subIn X B.sub;obtain⟨hp,g,d,tk,os⟩:=s;unfold excMatches isExcClass;refine Wb (l1.at ?_);simp only[Bool.false_eq_true,if_false];refine Wb (aA ?_);simp only[List.forIn_cons,List.forIn_nil];refine Wb (Wb (Wb (Wb (Z.at ?_))));simp only[if_true];refine Y.at ?_;simp only[Bool.not_true,Bool.false_eq_true,if_false];refine aA (aA (Wb (U.at (Wb (Wb (Wb (T.at ?_)))))));cases b with
 |true=>
  simp only[if_true];exact aA (aA (aA h))
 |false=>
  simp only[Bool.false_eq_true,if_false];exact aA (aA (aA h))
def Cx.held(X:Cx)(ea:AD):Cx:={X with A:=X.A.mark (some (.ref ea)),calm:=false,xe:=fun _ _=>False}
def Inv.held{X:Cx}{pins:CG}{σ:St}{H:Hp}{s:SD}(I:At)(ea:AD):Inv (X.held ea) pins σ H s :=
 ⟨⟨I.ok.mod,I.ok.kind,I.ok.glob,I.ok.blt,I.ok.above,I.ok.inj,I.ok.has,I.ok.Vq,fun z=>(by cases z),I.ok.frames,I.ok.di,I.ok.kX,I.ok.bs,I.ok.RT,I.ok.SY,I.ok.R6,I.ok.Ib,I.ok.Qb,I.ok.kt⟩,I.os,I.bare,I.base,I.loc,I.cell,I.free,I.F9,I.pin,I.Al,I.len⟩
def Inv.kR{X:Cx}{pins:CG}{σ:St}{H:Hp}{s:SD}{ea:AD}(ok:X.Ok)(I:Inv (X.held ea) pins σ H s):Inv X pins σ H s :=
 ⟨ok,I.os,I.bare,I.base,I.loc,I.cell,I.free,I.F9,I.pin,I.Al,I.len⟩
def rQ{X:Cx}{pins:CG}{σ:St}{H:Hp}{s:SD}{M:Model}{A:F0d}{E:tE}{i:Nat}{n:Str}{pos:Pos}{Q:Unit->SD->Prop}(I:At)(hN:X.N.Nodup)(hi:X.N[i]? = some n)
 (hl:X.env.scope.names.lookup n=some .local)(h:∀s',Inv X pins (σ.set i none) H s'->Q () s'):wpAny M A (do bindName X.env n .none;unbindBehindTheSuite X.env n pos) Q E s:=by
 obtain⟨m,hn,hlk⟩:=id I.loc;have Y:(X.env.scope.kind==.class||(X.env.scope.kind==.module&&X.env.locals != X.env.globals))=false:=by rw[I.ok.kind];rfl
 refine wpAny_nameGoes_keeps hl hn Y fun h' v hn' g=>h _ ?_;have hiS:i<σ.length:=by rw[I.len];exact(aB.mp hi).1
 obtain⟨oL,_,_,hoL,_⟩:=id hn;have tr:DB X.prog X.w H h':=fun b ob e=>(I.Al b ob e).KC (fun c w' T q=>(g.2 c (by
  rintro rfl;rcases T with T|T
  .rw[<-T,I.free]at e;cases e
  .rw[I.free]at T;cases T)).trans q) (fun _ q=>q) fun _ _ q=>q
 refine⟨I.ok,I.os,I.bare,⟨fun b o e n hb R=>?_,fun b o e n hb R=>?_,I.base.free,fun b o e R=>?_,I.base.D9,I.base.F0,I.base.Gy,fun b xs o q e R=>(g.2 b (aM (aH (aE e) I.ok.above))).trans (I.base.Gv b xs o q e R)⟩,⟨_,hn',fun j y v' U Z e3=>?_⟩,fun y c e=>?_,I.free,I.F9,fun p hp=>?_,tr,by simpa using I.len⟩
 .exact(g.2 b (aM (aH (aE e) I.ok.above))).trans (I.base.keep b o e n hb R)
 .obtain⟨sl,U⟩:=I.base.slot b o e n hb R;exact⟨sl,(g.2 b (aM (aH (aE e) I.ok.above))).trans U⟩
 .obtain⟨o',U⟩:=I.base.there b o e R;exact⟨o',(g.2 b (aM (aH (aE e) I.ok.above))).trans U⟩
 .by_cases hj:j=i
  .subst hj;rw[List.getElem?_set_self hiS]at Z;cases Z
  .rw[List.getElem?_set_ne (Ne.symm hj)]at Z;obtain⟨u',r',q⟩:=hlk j y v' U Z e3;refine⟨u',r',?_⟩;rcases q with ⟨k,e⟩|⟨k,c,e,z⟩
   .refine .inl ⟨k,?_⟩;have:y≠n:=fun e=>hj (QX hN U (e ▸ hi));simp[this,e]
   .exact .inr ⟨k,c,e,z.sameBut g (I.RL y c e)⟩
 .obtain⟨w',z⟩:=I.cell y c e;exact⟨w',z.sameBut g (I.RL y c e)⟩
 .obtain⟨e,n',ne,nf,d⟩:=I.pin p hp;exact⟨(g.2 p.1 ne).trans e,n',ne,nf,d⟩
section
variable{X:Cx}{x z n:Str}{G:AD}{pz pn np tpos hpos:Pos}{j k:Nat}
def kz{pins:CG}{σ:St}{D:Ends}{ev:VL}{s1:SD}(hN:X.N.Nodup)(hcalm:X.calm=true)(hj:X.N[j]? = some z)(hk:X.N[k]? = some n)(hlz:X.env.scope.names.lookup z=some .local)(M:X.env.scope.names.lookup n=some .local) (hg:Gl X x)(hm:X.mg x=some (.ref G))(hkj:k≠j)(hstk:∃rest,X.stack=X.env::rest)(hfr:X.env.frame=some X.env.locals) (hf:Yo X pins σ (fun cls _ H'=>∃C,cls=.ref C/\Fx X.K C G true/\∀ea,H' ea=none->D.nx (((σ.set k (some (.ref ea))).set j (some (.ref ea))).set k none) (upd H' ea (ME ea cls))) ev s1) (hd:FS=false)(hsw:swapsWith (.Name n pn) (some (.Name z pz)) tpos.line X.env=pure false)(hdn:(n==("__debug__" : Str))=false)(hcn:(n==("__classdict__" : Str))=false):wpAny By X.A (noteFrame ev X.env) (fun _ s₂=>wpAny By X.A (setFlight ev none) (fun _ s₃=>wpAny By X.A (handleBy ev X.env [.ExceptHandler (some (.Name x np)) (some n) [.Assign [.Name z pz] (.Name n pn) tpos] hpos]) (SP X pins D) X.xe s₃) X.xe s₂) X.xe s1:=by
 obtain⟨H0,s0,I,ea,cls,a0,H',B,ee,F,C,hc,hB,q⟩:=hf;subst ee hc;obtain⟨rest,g⟩:=hstk;have F1:=F.mG;rw[g]at F1;have hfrm:X.A.frames=some (X.env::rest):=by rw[<-g];exact I.ok.frames
 refine wpAny_looks_onW hfrm hfr F1 fun h4 U up4=>?_;refine wpAny_landsW U fun h5 Z up5=>?_;have R:=up4.trans up5;have I5:Inv X pins σ H' {s1 with heap:=h5,toks:=s1.toks}:=land I F Z.1 R;obtain⟨ob,hob,hobc⟩:=Z.there;have hcls:(X.env.scope.kind==.class||(X.env.scope.kind==.module&&X.env.locals != X.env.globals))=false:=by rw[I.ok.kind];rfl
 refine wpAny_handleBy_cons (codeAny_handlers_test (Ko (I5.held ea) hg hm ?_ hd)) (by intro q;cases q);refine fE (K:=X.K) I5.Gs hob hobc hB (codeAny_handlers_suite_as ?_);refine lands_againW Z fun h6 fl6 up6=>?_;have I6:Inv X pins σ H' {s1 with heap:=h6,toks:=s1.toks}:=land I F fl6.1 (R.trans up6);obtain⟨oe,ws,e1,e2,e3,_⟩:=fl6.first
 obtain⟨T,I7⟩:=om I F I6 ⟨oe,ws,e1,e2,e3⟩;refine LA (X:=X.held ea) (I7.held ea) hN hk (.inl M) (v:=.ref ea) rfl (fun s8 I8=>?_) (.inr M);have Y:Ie (X.held ea) [.Assign [.Name z pz] (.Name n pn) tpos] (WS (UQ k) (Ea j)):=AR (Ai (X:=X.held ea) hN hj (.inl hlz) (cy hk (.inl M) hdn hcn) hsw (.inr hlz));have hkl:k<(σ.set k (some (V.ref ea))).length:=by
  rw[List.length_set];have:=(aB.mp hk).1;rw[I.len];exact this
 refine aY (Y pins s8 _ _ { nx:=fun σ' H2=>σ'=(σ.set k (some (.ref ea))).set j (some (.ref ea))/\H2=upd H' ea (ME ea (.ref C)),rt:=fun _ _=>False} I8 ⟨.ref ea,?_,rfl,rfl⟩) (fun fl s9 h9=>?_) fun _ _ z=>z.elim
 .rw[List.getElem?_set_self (by rw[List.length_set]at hkl;exact hkl)]
 .cases fl with
  |next=>
   obtain⟨σ9,H9,I9,e9,eH⟩:=h9;subst e9 eH;exact rQ (I9.kR I.ok) hN hk M fun s' I'=>⟨_,_,I',q ea T⟩
  |brk=>obtain⟨_,_,_,z⟩:=h9;exact z.elim
  |cont=>obtain⟨_,_,_,z⟩:=h9;exact z.elim
  |ret v=>obtain⟨_,_,_,_,_,z⟩:=h9;exact z.elim
end
open PySem PySem.Spec PyProof.Rows PySem.Builtin.ObjectAttr PySem.Builtin.Getset_descriptor
structure CM(K:Fg)(C:Addr):Prop where
 cl:(PySem.W.clsIn K C).isSome=true
 ga:PySem.W.findIn K (.ref C) "__getattribute__" = some (some (.builtin "BaseException.__getattribute__"))
 gh:PySem.W.findIn K (.ref C) "__getattr__" = some none
 at_:PySem.W.findIn K (.ref C) "__class__" = some (some (.builtin "object.__class__"))
 gt:PySem.W.specialIn K (.builtin "object.__class__") "__get__" = some (some (.builtin "getset_descriptor.__get__"))
 tk:PySem.W.takesIn K (.builtin "object.__class__")=some true
 ob:PySem.W.mroIn K C (.type "object")=some true
 be:PySem.W.mroIn K C (.type "BaseException")=some true
def excAt(x C:AD)(h:Heap):Prop:=∃o vs,h.get? x=some o/\o.cls=.ref C/\o.data=.fields vs
def excAt.ty{x C:AD}{h:Heap}(p:excAt x C h)(M:Model):PySem.W.Looks M h (typeOf (.ref x)) (.ref C):=by
 obtain⟨o,_,e,c,_⟩:=p;exact c ▸ (PySem.W.Looks.ld e).andThen .now
def gO{K:Fg}{C:AD}{h:Heap}(X:K.In h)(z:(PySem.W.clsIn K C).isSome=true)(M:Model):PySem.W.Looks M h (isType (.ref C)) true:=by
 unfold PySem.W.clsIn at z;split at z
 .rename_i U T R g I;intro A' Y Z s' k q;exact Wb (wpAny_loadPart (k _ _ (X _ _ I)) (aA q))
 .cases z
section
variable{prog:F0b}{w:F0c}{A:F0d}{E:tE}{K:Fg}{x C:AD}{h:Heap}{g:Array GenState}{d:Drawn}{t:Nat}{os:OsState}
def gP(X:K.In h)(F:CM K C)(M:Model):PySem.W.Looks M h (find (.ref x) (.ref C) "__class__") (.bind (.builtin "getset_descriptor.__get__") (.builtin "object.__class__")):=by
 have a1:=PySem.W.looks_findIn (M:=M) X F.at_;have a2:PySem.W.Looks M h (getOf (some (.builtin "object.__class__"))) (some (.builtin "getset_descriptor.__get__")):=PySem.W.looks_specialIn X F.gt;have a3:=PySem.W.looks_takesIn (M:=M) X F.tk;exact a1.andThen (a2.andThen ((show PySem.W.Looks M h (dataDescriptor? (some (.builtin "object.__class__")) (some (.builtin "getset_descriptor.__get__"))) (some (.builtin "getset_descriptor.__get__",.builtin "object.__class__")) from a3.andThen .now).andThen (PySem.W.Looks.tag .now)))
def jc{I:VL}{R:Result->SD->Prop}(X:K.In h)(F:CM K C)(p:excAt x C h)(T:R (.ok (.ret (.ref C))) ⟨h,g,d,t,os⟩):codeAny As A (.call (.builtin "getset_descriptor.__get__") ⟨[.builtin "object.__class__",.ref x,I],[]⟩) R ⟨h,g,d,t,os⟩:=by
 have U:=p.ty As;have b1:=PySem.W.looks_mroIn (M:=model prog w) X F.ob;refine codeAny_call_builtin PySem.W.KF.slot_gs.plain PySem.W.KF.entry_gs ?_;refine PySem.W.KF.slot_gs.check _ _ _ _ _ _ _ _ PySem.W.KF.type_class (PySem.W.KF.args_gs _ _ _) ?_;unfold Builtin.«getset_descriptor.__get__» descrGet;rw[PySem.W.dga_obj];refine Wb (aA ?_);unfold descrGetter descrCheckInstance descrNameAndClass isInstance;simp only[PySem.W.KF.owner_class]
 repeat lk
 refine⟨Code.quiet_builtin _ (by decide +kernel),codeAny_builtin PySem.W.KF.entry_class ?_⟩;unfold Builtin.«object.__class__» shownTypeOf
 repeat lk
 exact T
def b7{tk:Tok}{Q:Fin->SD->Prop}(X:K.In h)(F:CM K C)(p:excAt x C h)(I:Q (.done (.ret (.ref C))) ⟨h,g,d,t,os⟩):wpAny As A (Builtin.«object.__getattribute__» ⟨[.ref x,.str "__class__" tk],[]⟩) Q E ⟨h,g,d,t,os⟩:=by
 have M:=p.ty As;have b1:=gP (x:=x) X F As;unfold Builtin.«object.__getattribute__»
 repeat lk
 refine wpAny_run (jc X F p ?_);exact aA (aA I)
def cD{I:VL}{Q:Unit->SD->Prop}(X:K.In h)(F:CM K C)(p:excAt x C h)(R:Q () ⟨h,g,d,t,os⟩):wpAny As A (checkBuiltinCall "BaseException.__getattribute__" ⟨[.ref x,I],[]⟩) Q E ⟨h,g,d,t,os⟩:=by
 have U:builtinKind "BaseException.__getattribute__" = some .slot:=by decide +kernel
 have T:splitId "BaseException.__getattribute__" = some ("BaseException","__getattribute__"):=by decide +kernel
 have Y:=PySem.F.args_bexc_ga (.ref x) I;have Z:=p.ty As;have b1:=PySem.W.looks_mroIn (M:=model prog w) X F.be;simp only[checkBuiltinCall,U,T];refine Wb ?_;unfold isInstance
 repeat lk
 exact R
def cR{Q:Option VL->SD->Prop}(X:K.In h)(F:CM K C)(p:excAt x C h)(I:Q (some (.ref C)) ⟨h,g,d,t+1,os⟩):wpAny As A (getAttr? (.ref x) "__class__") Q E ⟨h,g,d,t,os⟩:=by
 have Y:=p.ty As;have b1:=PySem.W.looks_findIn (M:=model prog w) X F.ga;have b2:=PySem.W.looks_findIn (M:=model prog w) X F.gh;unfold getAttr? getAttrBy? getAttrBy;refine Wb (wpAny_mkText (Wb (bh (ae (Wb (Y.at (Wb (b1.at ?_))))))));have T:(Value.builtin "BaseException.__getattribute__" == Value.builtin "object.__getattribute__")=false:=by decide +kernel
 have U:¬((onTheHeap (Value.ref C)&&Value.builtin "BaseException.__getattribute__" == Value.builtin "object.__getattribute__")=true):=by rw[T,Bool.and_false];exact aJ
 show wpAny _ _ (if(onTheHeap (Value.ref C)&&Value.builtin "BaseException.__getattribute__" == Value.builtin "object.__getattribute__")=true then _ else _) _ _ _;rw[if_neg U];unfold getAttrByItsOwn;refine Wb (show wpAny _ _ (typeLookup (Value.ref C) "__getattr__") _ _ _ from b2.at ?_);refine Wb (bh (ae ?_));show wpAny _ _ (boundAndCalled _ _ _) _ _ _;unfold boundAndCalled;have R:=(PySem.F.excAttr_ValueError).ga.bind (.ref x);refine Wb (wpAny_of_eq R ?_);refine wpAny_call (codeAny_call_builtin (PySem.F.excAttr_ValueError).ga.plain PySem.F.entry_bexc_ga (cD X F p (b7 X F p ?_)));exact aA (aA I)
end
def gZ{K:Fg}{x C:AD}(F:CM K C):PySem.W.KitX K (.ref x) (.ref C) (excAt x C) where
 ty:=fun M h _ p=>p.ty M
 it:=fun M h X _=>gO X F.cl M
 ne:=fun h tp dd its n sl X htp=>by
  have z:=F.cl;refine aj.mpr fun q=>?_;have e:C=tp:=Value.ref.inj (beq_iff_eq.mp q);subst e;unfold PySem.W.clsIn at z;split at z
  .rename_i c' d' cd' sl' ho;have y:=(X _ _ ho).symm.trans htp;cases y
  .cases z
 ca:=fun {prog w A E Q s} X p k=>by
  obtain⟨h,g,d,t,os⟩:=s;exact cR X F p k
def CT:V->VL
 |.ref C=>.ref C
 |.ty n=>.type n
 |_=>.none
def X4{c:V}{u:VL}(r:RelV c u)(h:CT c≠.none):u=CT c:=by
 cases c with
 |ref C=>exact r
 |ty n=>exact r
 |_=>exact absurd rfl h
section
variable{X:Cx}
def rm(K:Fg):List V->Hp->VK->Prop:=fun xs H Q=>∃x c t b,xs=[x,c]/\CT c≠.none/\HZ K H x t/\PySem.W.kitOne K t (CT c)=some b/\Q (.bl b) H
def FY:FR X (.builtin "isinstance") (rm X.K):=by
 intro pins s σ H xs us Q I r h;obtain⟨x,c,t,b,rfl,R,ty,e,q⟩:=h;obtain⟨u,v,rfl,M,g⟩:=r.two;rw[X4 g R];exact a8 I M ty e fun tk=>⟨.bl b,H,I.tok tk,rfl,q⟩
def pN(K:Fg):List V->Hp->VK->Prop:=fun xs H Q=>∃ea C c b,xs=[.ref ea,c]/\CT c≠.none/\H ea=some (ME ea (.ref C))/\CM K C/\PySem.W.kitOne K (.ref C) (CT c)=some b/\Q (.bl b) H
def dq:FR X (.builtin "isinstance") (pN X.K):=by
 intro pins s σ H xs us Q I r h;obtain⟨ea,C,c,b,rfl,T,R,F,e,q⟩:=h;obtain⟨u,v,rfl,M,g⟩:=r.two;rw[X4 g T];cases (show u=Value.ref ea from M);obtain⟨p,_,_⟩:=(show Bx X.prog X.w H s.heap ea (ME ea (.ref C)) from I.Al ea _ R);exact bC (gZ F) I.Gs p e GE fun tk=>⟨.bl b,H,I.tok tk,rfl,q⟩
end
def lY(K:Fg):PySem.W.kitOne K Ev Ev=some true:=rfl
def nD(K:Fg):PySem.W.kitOne K (.type "int") (.type "int")=some true:=rfl
def lZ(K:Fg):PySem.W.kitOne K (.type "bool") (.type "bool")=some true:=rfl
def mr(K:Fg):PySem.W.kitOne K (.type "int") (.type "bool")=some false:=by kernel_rfl
def lV(K:Fg):PySem.W.kitOne K (.type "bool") (.type "int")=some true:=by kernel_rfl
def nr(K:Fg):PySem.W.kitOne K (.type "list") Ev=some false:=by kernel_rfl
def kx(K:Fg):PySem.W.kitOne K Ev (.type "list")=some false:=by kernel_rfl
def ky(K:Fg):PySem.W.kitOne K (.type "list") (.type "list")=some true:=rfl
def l7(K:Fg):PySem.W.kitOne K (.type "int") Ev=some false:=by kernel_rfl
def nQ(K:Fg):PySem.W.kitOne K (.type "bool") Ev=some false:=by kernel_rfl
def mj(K:Fg):PySem.W.kitOne K (.type "NoneType") Ev=some false:=by kernel_rfl
def lQ(K:Fg):PySem.W.kitOne K (.type "str") Ev=some false:=by kernel_rfl
def nI(K:Fg):PySem.W.kitOne K Ev (.type "int")=some false:=by kernel_rfl
def nG(K:Fg):PySem.W.kitOne K (.type "list") (.type "int")=some false:=by kernel_rfl
def lx(K:Fg):PySem.W.kitOne K (.type "NoneType") (.type "int")=some false:=by kernel_rfl
def ny(K:Fg):PySem.W.kitOne K (.type "str") (.type "int")=some false:=by kernel_rfl
def ly(K:Fg):PySem.W.kitOne K (.type "int") (.type "list")=some false:=by kernel_rfl
def mY(K:Fg):PySem.W.kitOne K (.type "bool") (.type "list")=some false:=by kernel_rfl
def ko(K:Fg):PySem.W.kitOne K (.type "NoneType") (.type "list")=some false:=by kernel_rfl
def k7(K:Fg):PySem.W.kitOne K (.type "str") (.type "list")=some false:=by kernel_rfl
def freeOk(g:Scope)(names:List (Str×NameKind)):Bool:=names.all fun y=>y.2 != .free||g.names.lookup y.1==some .cell||g.names.lookup y.1==some .free
def Ng{g:Scope}{names:List (Str×NameKind)}(h:freeOk g names=true):∀y∈names,y.2=.free->g.names.lookup y.1=some .cell\/g.names.lookup y.1=some .free:=fun y I M=>by
 have q:=List.all_eq_true.mp h y I;rw[M]at q;simp only[bne_self_eq_false,Bool.false_or,Bool.or_eq_true,beq_iff_eq]at q;exact q
def Bh(scope:Scope)(N:tK)(x:Str)(ix:Nat):Bool :=
 scope.kind==.function&&(scope.names.all fun y=>y.2 != .cell&&(y.2 != .local||scope.names.lookup y.1==some .local)&&(y.2 != .free||scope.names.lookup y.1==some .free))&&scope.names.lookup x==some .local&&decide N.Nodup&&N[ix]? == some x
def GN{scope:Scope}{N:tK}{x:Str}{ix:Nat}(h:Bh scope N x ix=true):Dy scope N x ix:=by
 unfold Bh at h;simp only[Bool.and_eq_true,beq_iff_eq,decide_eq_true_eq,List.all_eq_true,bne_iff_ne,Bool.or_eq_true]at h;obtain⟨⟨⟨⟨Y,M⟩,U⟩,T⟩,R⟩:=h;exact⟨Y,fun y g=>(M y g).1.1,fun y g I=>(M y g).1.2.resolve_left fun z=>z I,fun y g I=>(M y g).2.resolve_left fun z=>z I,U,T,R⟩
section
variable{X:Cx}{elt iter:Expr}{x:Str}{px pos:Pos}{ifs:tL}{scope:Scope}{wi:TI}{tif:TT}{te:TE}
def Dg(N:tK)(ix:Nat)(fr:tW)(hi:PI X (.Name x px) iter wi)(g:∀cl C s₀ H₀ fp,NO Ch ifs tif)(M:∀cl C s₀ H₀ fp,PE Ch elt te) (h1:Bh scope N x ix=true:=by decide +kernel)(Y:X.calm=true:=by rfl)(U:FQ N X.N scope X.env.scope fr 0=true:=by rfl)(T:fr.length=N.length:=by rfl)(R:freeOk X.env.scope scope.names=true:=by rfl) (I:∀x,foldedSetIterable iter X.env x=pure x:=by intro _;rfl):PE X (.ListComp elt [⟨.Name x px,iter,ifs,0⟩] scope pos) (UC wi fr ix tif te) :=
 jd (GN h1) Y U T (Ng R) hi g M I
end
section
variable{X:Cx}{k:Nat}{f:AD}{fd:F0a}{ps:tK}{sp:Sp}{x:Str}{st:Stmt}{p pos:Pos}{e:Expr}{es:tL}{t:TA}{E:XK}
def mx(T:Fn X.K X.mg x st ps f fd)(G:AI X.prog X.w X.K X.mg X.base (C3 X.prog X.w) k f fd ps sp)(M:CS k X.A)(R:Gl X x)(Y:Passes (C3 X.prog X.w) X E)(ha:PA X (e::es) t) (I:FS=false:=by decide)(U:starEach (e::es) X.env=(false,eval e X.env)::starEach es X.env:=by rfl)(g:(backTo pos (starEach es X.env)).any (·.1)=false:=by rfl):PE X Fi (UJ sp [] E t):=XH G M R T.m T.F.kp T.b .nil Y ha I U g
end
end L2
inductive Tr where
 |nil
 |cons (b r:Tr)
 deriving DecidableEq
namespace Tr
def bs:Tr->List Tr
 |.nil=>[]
 |.cons b r=>b::r.bs
def of:List Tr->Tr
 |[]=>.nil
 |b::r=>.cons b (of r)
theorem UP:∀t:Tr,of t.bs=t
 |.nil=>rfl
 |.cons b r=>by rw[bs,of,UP r]
def md{t u:Tr}(h:t.bs=u.bs):t=u:=by rw[<-UP t,h,UP]
def len:Tr->Nat
 |.nil=>0
 |.cons _ r=>r.len+1
theorem Qy:∀t:Tr,t.bs.length=t.len
 |.nil=>rfl
 |.cons _ r=>by rw[bs,(GU),Qy r,len]
def ES:Tr->Nat
 |.nil=>1
 |.cons b r=>b.ES+r.ES
def deep:Tr->Nat
 |.nil=>0
 |.cons b r=>max (b.deep+1) r.deep
def lt:Tr->Tr->Bool
 |.nil,.nil=>false
 |.nil,.cons _ _=>true
 |.cons _ _,.nil=>false
 |.cons b r,.cons c q=>if b=c then lt r q else lt b c
end Tr
namespace TH
open PySem PyProof.Rows PySem.SeqAt
def Vs(h:Heap):Tr->List VL->Prop
 |.nil,us=>us=[]
 |.cons b r,us=>∃(a:AD) (g rest:List VL),us=.ref a::rest/\h.IsTuple a g.toArray/\Vs h b g/\Vs h r rest
theorem Vs.length{h:Heap}:∀ {t:Tr} {us:List VL},Vs h t us->us.length=t.len
 |.nil,us,e=>by rw[Vs]at e;rw[e];rfl
 |.cons b r,us,e=>by
  rw[Vs]at e;obtain⟨a,g,rest,rfl,_,_,q⟩:=e;rw[(GU),Tr.len,Vs.length q]
def KZ{h:Heap}{a:AD}{x y:Array VL}(h1:h.IsTuple a x)(M:h.IsTuple a y):x=y:=by
 obtain⟨o,e,_,n,d⟩:=h1;obtain⟨o',g,_,R,I⟩:=M;rw[e]at g;cases g;rw[d]at I;cases I;rfl
theorem Vs.inj{h:Heap}:∀ {t u:Tr} {us:List VL},Vs h t us->Vs h u us->t=u
 |.nil,.nil,_,_,_=>rfl
 |.nil,.cons _ _,us,e,f=>by
  rw[Vs]at e;rw[Vs]at f;obtain⟨_,_,_,f,_⟩:=f;rw[e]at f;cases f
 |.cons _ _,.nil,us,e,f=>by
  rw[Vs]at e;rw[Vs]at f;obtain⟨_,_,_,e,_⟩:=e;rw[f]at e;cases e
 |.cons b r,.cons c q,us,e,f=>by
  rw[Vs]at e f;obtain⟨a,M,rest,rfl,h1,Z,Y⟩:=e;obtain⟨a',g,I,e',U,T,R⟩:=f;cases e';have:=KZ h1 U;have e2:M=g:=by simpa using this
  subst e2;rw[Vs.inj Z T,Vs.inj Y R]
theorem Ye{s:SD}:∀(t u:Tr) (A:F0d) (us vs:List VL),Vs s.heap t us->Vs s.heap u vs->A.units+t.deep<=cLine ->
  ∀j (h1:j<us.length) (T:j<vs.length),EqAt A s us[j] vs[j] (decide (t.bs[j]? = u.bs[j]?))
 |.nil,u,A,us,vs,e,f,_,j,h1,T=>by
  rw[Vs]at e;subst e;exact absurd h1 (av _)
 |.cons b r,.nil,A,us,vs,e,f,_,j,h1,T=>by
  rw[Vs]at f;subst f;exact absurd T (av _)
 |.cons b r,.cons c q,A,us,vs,e,f,hu,j,h1,T=>by
  rw[Vs]at e f;obtain⟨a,I,rest,rfl,k1,Y,k3⟩:=e;obtain⟨a',g,M,rfl,Z,U,l3⟩:=f;have hd:(Tr.cons b r).deep=max (b.deep+1) r.deep:=rfl;cases j with
  |zero=>
   show EqAt A s (.ref a) (.ref a') (decide (some b=some c));by_cases ea:a=a'
   .subst ea;have:=KZ k1 Z;have e2:I=g:=by simpa using this
    subst e2;rw[Vs.inj Y U,decide_eq_true rfl];exact EqAt.same _
   .refine EqAt.of_refs ea ?_;have key:=RcAt.tuples (s:=s) (A:=A) (e:=fun j=>decide (b.bs[j]? = c.bs[j]?)) k1 Z AC fun j x1 x2=>by
     have:=Ye b c A.in1 I g Y U (by rw[show A.in1.units=A.units+1 from rfl];lia) j (by simpa using x1) (by simpa using x2)
     simpa using this
    have ev:((List.range (min I.toArray.size g.toArray.size)).all (fun j=>decide (b.bs[j]? = c.bs[j]?))&&I.toArray.size==g.toArray.size)=decide (some b=some c):=by
     have z1:I.toArray.size=b.bs.length:=by rw[Tr.Qy,<-Vs.length Y];simp
     have z2:g.toArray.size=c.bs.length:=by rw[Tr.Qy,<-Vs.length U];simp
     rw[z1,z2];by_cases R:b=c
     .subst R;simp
     .rw[decide_eq_false (fun z=>R (ak z))];cases hl:b.bs.length==c.bs.length with
      |false=>rw[Bool.and_false]
      |true=>
       rw[Bool.and_true];have hl':b.bs.length=c.bs.length:=by simpa using hl
       refine aj.mpr fun z=>R (Tr.md (List.ext_getElem? fun i=>?_));by_cases hi:i<b.bs.length
       .have:=List.all_eq_true.mp z i (List.mem_range.mpr AC)
        simpa using this
       .rw[List.getElem?_eq_none AC,List.getElem?_eq_none AC]
    rw[ev]at key;exact key
  |succ j=>
   exact Ye r q A rest M k3 l3 AC j (by simpa using h1) (by simpa using T)
def WR{s:SD}{t u:Tr}{A:F0d}{a b:AD}{g its':sy}(h1:s.heap.IsTuple a g.toArray)(k1:Vs s.heap t g)(I:s.heap.IsTuple b its'.toArray)(k2:Vs s.heap u its')(M:A.units+t.deep<cLine):EqAt A s (.ref a) (.ref b) (decide (t=u)):=by
 have:=Ye (.cons t .nil) (.cons u .nil) A [.ref a] [.ref b] ⟨a,g,[],rfl,h1,k1,by rw[Vs]⟩ ⟨b,its',[],rfl,I,k2,by rw[Vs]⟩ (by show A.units+max (t.deep+1) 0<=cLine;lia) 0 BY BY
 simpa[Tr.bs]using this
section
open PySem.AutoSeq1 (wpAny_loadPart')
open PySem.MeetsSeq PySem.MeetsSeq2 PySem.MeetsSeq3
def eS(n0:Nat)(ih:∀(t u:Tr) (A:F0d) (s:SD) (a b:AD) (its its':sy),t.deep<n0->s.heap.IsTuple a its.toArray->Vs s.heap t its->s.heap.IsTuple b its'.toArray->Vs s.heap u its'->A.units+t.deep<cLine ->∀(prog:F0b) (w:F0c) (E:tE) (Q:tE),Q (.bool (Tr.lt u t)) s->wpAny As A (richCompare .Gt (.ref a) (.ref b)) Q E s) (l b:AD)(items I:Array VL)(n n2:Nat)(dd dd2:Option AD)(sl sl2:Array (Option VL))(t u:Tr)(ht:t.deep<=n0):Meets (Builtin.«tuple.__gt__» ⟨[.ref l,.ref b],[]⟩) (fun A R s=>s.heap.get? l=some { cls:=.type "tuple",dict:=dd,data:=.seq items n,slots:=sl}/\s.heap.get? b=some { cls:=.type "tuple",dict:=dd2,data:=.seq I n2,slots:=sl2} /\Vs s.heap t items.toList/\Vs s.heap u I.toList/\A.units+t.deep<cLine/\R (.ok (.ret (.bool (Tr.lt u t)))) s) :=
 .of_wp fun prog w A R s h=>by
  obtain⟨hp,g,d,tk,os⟩:=s;obtain⟨hl,hb,hi,hj,hun,h⟩:=h;have f2:=AutoSeq1.sub_tuple_tuple;have z1:items.size=t.len:=by rw[<-Vs.length hi];simp
  have z2:I.size=u.len:=by rw[<-Vs.length hj];simp
  wp_walk using wpAny_loadPart' hl,wpAny_loadPart' hb,wpAny_forIn_list _ (fun rest b s'=>b.1=none/\s'=⟨hp,g,d,tk,os⟩/\∃(vs ws:List VL) (Z Y:Tr),rest=vs.zip ws /\
   Vs hp Z vs/\Vs hp Y ws/\Z.deep<=t.deep/\Z.len+I.size=Y.len+items.size/\R (.ok (.ret (.bool (Tr.lt Y Z)))) ⟨hp,g,d,tk,os⟩) _
  case turn=>
   rintro⟨y,x⟩ rest b s' ⟨hb',rfl,vs,ws,Z,Y,hz,U,T,hdp,M,hR⟩;cases Z with
   |nil=>rw[Vs]at U;subst U;rw[List.zip_nil_left]at hz;cases hz
   |cons bt rt=>
    cases Y with
    |nil=>rw[Vs]at T;subst T;rw[List.zip_nil_right]at hz;cases hz
    |cons bu ru=>
     rw[Vs]at U T;obtain⟨a1,i1,v1,rfl,p1,p2,p3⟩:=U;obtain⟨a2,i2,v2,rfl,q1,q2,q3⟩:=T;rw[(Nr)]at hz
     injection hz with hyx hrest
     injection hyx with hy hx
     subst hy hx;have hdd:(Tr.cons bt rt).deep=max (bt.deep+1) rt.deep:=rfl;rw[Tr.lt]at hR;simp only[Tr.len]at M;have he:=WR (s:=⟨hp,g,d,tk,os⟩) (A:=A.in1) p1 p2 q1 q2 (by rw[show A.in1.units=A.units+1 from rfl];lia);refine Wb (he prog w _ _ ?_);cases hc:decide (bt=bu) with
     |true=>
      rw[if_pos (ah hc).symm]at hR
      wp_walk
      exact⟨rfl,rfl,_,_,_,_,hrest,p3,q3,by lia,by lia,hR⟩
     |false=>
      rw[if_neg (fun z=>bE hc z.symm)]at hR;have hri:=ih bt bu A.in1 ⟨hp,g,d,tk,os⟩ a1 a2 i1 i2 AC p1 p2 q1 q2 (by rw[show A.in1.units=A.units+1 from rfl];lia) prog w
      wp_walk using hri
      exact⟨_,rfl,by simpa using hR⟩
  case fin=>
   rintro⟨b1,b2⟩ s' ⟨hb',rfl,vs,ws,Z,Y,hz,U,T,hdp,M,hR⟩;simp only at hb';subst hb';have hv:Tr.lt Y Z=decide (I.size<items.size):=by
    cases Z with
    |nil=>
     cases Y with
     |nil=>
      simp only[Tr.len]at M;exact(au AC).symm
     |cons c q=>
      simp only[Tr.len]at M;exact(au AC).symm
    |cons bt rt=>
     cases Y with
     |nil=>
      simp only[Tr.len]at M;exact(bL AC).symm
     |cons c q=>
      rw[Vs]at U T;obtain⟨_,_,_,rfl,_⟩:=U;obtain⟨_,_,_,rfl,_⟩:=T;rw[(Nr)]at hz;cases hz
   rw[hv]at hR
   wp_walk
   exact⟨_,rfl,by simpa[Builtin.Tuple.tupleCompareSizes]using hR⟩
  case h=>
   exact⟨rfl,rfl,items.toList,I.toList,t,u,rfl,hi,hj,Nat.le_refl _,by lia,h⟩
theorem iB:∀(U:Nat) (t u:Tr) (A:F0d) (s:SD) (a b:AD) (g its':List VL),t.deep<U->s.heap.IsTuple a g.toArray->Vs s.heap t g->s.heap.IsTuple b its'.toArray->Vs s.heap u its'->A.units+t.deep<cLine ->
   ∀(prog:F0b) (w:F0c) (E:VL->SD->Prop) (Q:VL->SD->Prop),Q (.bool (Tr.lt u t)) s->wpAny As A (richCompare .Gt (.ref a) (.ref b)) Q E s
 |0,_,_,_,_,_,_,_,_,h,_,_,_,_,_=>absurd h (av _)
 |U+1,t,u,A,s,a,b,g,its',hd,hl,ht,hb,hu',Z=>fun prog w E Q h=>by
  obtain⟨⟨cls,dd,data,sl⟩,ho,hc,n,R⟩:=id hl;obtain⟨⟨cls2,dd2,data2,Y⟩,M,T,n2,I⟩:=id hb;simp only at hc R T I;subst hc R T I;exact richCompare_meets_room (op:=.Gt) ⟨_,ho,rfl⟩ ⟨_,M,rfl⟩ PySem.F.slot_tuple_gt PySem.F.entry_tuple_gt (PySem.F.args_tuple_gt_2 _ _) (eS U (iB U) a b g.toArray its'.toArray n n2 dd dd2 sl Y t u AC)
   ⟨ho,M,by simpa using ht,by simpa using hu',Z,show Value.bool (Tr.lt u t)≠Value.notImplemented/\Q (.bool (Tr.lt u t)) s from⟨(fun x=>nomatch x),h⟩⟩ AC
end
end TH
namespace SM
open PySem.W PyProof.Rows
def Wp{α:Type}(lt:Nat->Nat->Bool)(n:Nat):KasT α->(α->Prop)->Prop
 |.ret a,Q=>Q a
 |.ask i j k,Q=>i<n/\j<n/\Wp lt n (k (lt i j)) Q
theorem Wp.mono{α:Type}{lt:Nat->Nat->Bool}{n:Nat}{Q I:α->Prop}(g:∀a,Q a->I a):∀t:KasT α,Wp lt n t Q->Wp lt n t I
 |.ret a,h=>g a h
 |.ask i j k,h=>⟨h.1,h.2.1,Wp.mono g (k (lt i j)) h.2.2⟩
theorem Wp.bind{α β:Type}{lt:Nat->Nat->Bool}{n:Nat}{f:α->KasT β}{Q:β->Prop}:∀t:KasT α,Wp lt n t (fun a=>Wp lt n (f a) Q)->Wp lt n (t.bind f) Q
 |.ret _,h=>h
 |.ask i j k,h=>⟨h.1,h.2.1,Wp.bind (k (lt i j)) h.2.2⟩
def LL{p:tI}{i j:Nat}(g:j<=p.size)(k:Nat):(kas_rev p i j).getD k 0=if i<=k/\k<j then p.getD (i+j-1-k) 0 else p.getD k 0:=by
 have e:=getElem?_mirror_all (i:=i) g k;unfold kas_rev;rw[(Y4),(Y4),(Y4),e];split<;>rfl
def Wl{p:tI}{src d:Nat}(g:src<p.size)(hd:d<=src)(k:Nat):(bubble p src d).getD k 0=if k=src-d then p.getD src 0 else if src-d<k/\k<=src then p.getD (k-1) 0 else p.getD k 0:=by
 have e:=getElem?_bubble g d hd k;simp only[Array.getD_eq_getD_getElem?,e];split
 .rfl
 .split<;>rfl
section
variable{O:KeyOrd}{key:Nat->O.α}{n:Nat}
def Key(key:Nat->O.α)(p:tI)(i:Nat):O.α:=key (p.getD i 0)
def Up(key:Nat->O.α)(p:tI)(m:Nat):Prop:=∀i j,i<=j->j<m->O.kle (Key key p i) (Key key p j)
def Dn(key:Nat->O.α)(p:tI)(m:Nat):Prop:=∀i j,i<=j->j<m->O.kle (Key key p j) (Key key p i)
structure Pm(n:Nat)(p:Array Nat):Prop where
 perm:p.Perm (List.toArray (List.range n))
 pos:0<n
def Pm.size{p:tI}(h:Pm n p):p.size=n:=by rw[h.perm.size_eq];simp
def Pm.lt{p:tI}(h:Pm n p)(i:Nat):p.getD i 0<n:=by
 rw[(Y4)];by_cases hi:i<p.size
 .rw[Array.getElem?_eq_getElem hi];have hm:p[i]∈p:=Array.getElem_mem hi;have:=(h.perm.mem_iff).mp hm
  simpa using this
 .rw[Array.getElem?_eq_none AC];exact h.pos
def Pm.rev{p:tI}(h:Pm n p)(i j:Nat):Pm n (kas_rev p i j):=⟨(mirror_perm _ _ _ _).trans h.perm,h.pos⟩
theorem Pm.bubble{p:tI}(h:Pm n p)(i j:Nat):Pm n (bubble p i j):=⟨(bubble_perm _ _ _).trans h.perm,h.pos⟩
abbrev HX(key:Nat->O.α):Nat->Nat->Bool:=fun i j=>O.blt (key i) (key j)
def Up.one{p:tI}:Up key p 1:=fun i j I g=>by
 have:i=j:=by lia
 subst this;exact bZ _
def Up.more{p:tI}{m:Nat}(h:Up key p m)(h1:1<=m)(I:O.kle (Key key p (m-1)) (Key key p m)):Up key p (m+1):=fun i j g R=>by
 by_cases e:j=m
 .subst e;by_cases M:i=j
  .subst M;exact bZ _
  .exact KeyOrd.kle_trans (h i (j-1) AC AC) I
 .exact h i j g AC
def Dn.more{p:tI}{m:Nat}(h:Dn key p m)(h1:1<=m)(I:O.kle (Key key p m) (Key key p (m-1))):Dn key p (m+1):=fun i j g R=>by
 by_cases e:j=m
 .subst e;by_cases M:i=j
  .subst M;exact bZ _
  .exact KeyOrd.kle_trans I (h i (j-1) AC AC)
 .exact h i j g AC
theorem asc{p:Array Nat}(g:Pm n p):∀(f m:Nat),1<=m->Up key p m->Wp (HX key) n (kas_asc p f m) fun r=>m<=r/\r<=m+f/\Up key p r/\(r=m+f\/O.klt (Key key p r) (Key key p (r-1)))
 |0,m,_,h=>⟨aG _,Nat.le_refl _,h,.inl rfl⟩
 |f+1,m,M,h=>by
  refine⟨g.lt _,g.lt _,?_⟩;cases c:HX key (p.getD m 0) (p.getD (m-1) 0) with
  |true=>exact⟨aG _,by lia,h,.inr c⟩
  |false=>
   simp only[Bool.false_eq_true,if_false];refine Wp.mono (fun r I=>?_) _ (asc g f (m+1) AC (h.more M c));exact⟨by lia,by lia,I.2.2.1,I.2.2.2.elim (fun z=>.inl AC) .inr⟩
def Eq(key:Nat->O.α)(p:tI)(m q:Nat):Prop:=q<m/\∀k,m-(q+1)<=k->k<m->Key key p k=Key key p (m-1)
def rev_eq{p:tI}{m q:Nat}(h:Eq key p m q)(hm:m<=p.size)(k:Nat):Key key (kas_rev p (m-(q+1)) m) k=Key key p k:=by
 unfold Key;rw[LL hm];split
 .have a:=h.2 (m-(q+1)+m-1-k) (by have:=h.1;lia) (by have:=h.1;lia);have b:=h.2 k AC AC;exact a.trans b.symm
 .rfl
theorem desc:∀(f:Nat) (p:Array Nat) (m q:Nat),Pm n p->1<=m->m+f<=n->Dn key p m->Eq key p m q->Wp (HX key) n (kas_desc f p m q) fun r=>Pm n r.1/\m<=r.2.1/\r.2.1<=m+f/\Dn key r.1 r.2.1/\Eq key r.1 r.2.1 r.2.2
 |0,p,m,q,g,_,_,h,e=>⟨g,Nat.le_refl _,Nat.le_refl _,h,e⟩
 |f+1,p,m,q,g,U,hf,h,e=>by
  refine⟨g.lt _,g.lt _,?_⟩;have hm:m<=p.size:=by rw[g.size];lia
  cases c:HX key (p.getD m 0) (p.getD (m-1) 0) with
  |true=>
   have ck:O.klt (Key key p m) (Key key p (m-1)):=c;simp only[if_true];have fin:∀I:Array Nat,Pm n I->(∀k,Key key I k=Key key p k)->Wp (HX key) n (kas_desc f I (m+1) 0) fun r=>Pm n r.1/\m<=r.2.1/\r.2.1<=m+(f+1)/\Dn key r.1 r.2.1/\Eq key r.1 r.2.1 r.2.2:=fun I R Z=>by
    have hd:Dn key I (m+1):=fun i j T hj=>by rw[Z,Z];exact h.more U (KeyOrd.kle_of_klt ck) i j T hj
    have he:Eq key I (m+1) 0:=⟨by lia,fun k U h2=>by rw[show k=m+1-1 by lia]⟩;exact Wp.mono (fun r M=>⟨M.1,by lia,by lia,M.2.2.2.1,M.2.2.2.2⟩) _ (desc f I (m+1) 0 R AC AC hd he)
   split
   .exact fin _ (g.rev _ _) (rev_eq e hm)
   .exact fin _ g fun _=>rfl
  |false=>
   simp only[Bool.false_eq_true,if_false];refine⟨g.lt _,g.lt _,?_⟩;cases d:HX key (p.getD (m-1) 0) (p.getD m 0) with
   |true=>
    simp only[if_true];exact⟨g,Nat.le_refl _,Nat.le_add_right _ _,h,e⟩
   |false=>
    simp only[Bool.false_eq_true,if_false];have Y:Key key p m=Key key p (m-1):=KeyOrd.kle_antisymm (show O.kle (Key key p m) (Key key p (m-1)) from d) (show O.kle (Key key p (m-1)) (Key key p m) from c);refine Wp.mono (fun r M=>⟨M.1,by lia,by lia,M.2.2.2.1,M.2.2.2.2⟩) _ (desc f p (m+1) (q+1) g AC AC (h.more U (by rw[Y];exact bZ _)) ⟨by have:=e.1;lia,fun k h2 h3=>?_⟩);rw[show m+1-1=m by lia,Y];by_cases z:k=m
    .rw[z,Y]
    .exact e.2 k AC AC
def k8{p:tI}{m:Nat}(h:Dn key p m)(hm:m<=p.size):Up key (kas_rev p 0 m) m:=fun i j g I=>by
 unfold Key;rw[LL hm,LL hm,if_pos ⟨bP _,by lia⟩,if_pos ⟨bP _,by lia⟩];exact h (0+m-1-j) (0+m-1-i) AC AC
def tail3{p:tI}{m:Nat}(g:Pm n p)(h1:1<=m)(hm:m<=n)(h:Dn key p m):Wp (HX key) n (kas_tail3 m n p) fun r=>Pm n r.2/\1<=r.1/\r.1<=n/\Up key r.2 r.1:=by
 unfold kas_tail3;refine Wp.bind _ (Wp.mono (fun r I=>?_) _ (asc (g.rev 0 m) (n-m) m h1 (k8 h (by rw[g.size];exact hm))));exact⟨g.rev 0 m,by lia,by lia,I.2.2.1⟩
def descPart{p:tI}{m:Nat}(R:Pm n p)(h1:1<=m)(hm:m+1<=n)(h:Dn key p (m+1)):Wp (HX key) n (kas_descPart m n p) fun r=>Pm n r.2/\1<=r.1/\r.1<=n/\Up key r.2 r.1:=by
 unfold kas_descPart;refine Wp.bind _ (Wp.mono (fun r M=>?_) _ (desc (n-(m+1)) p (m+1) 0 R AC AC h ⟨by lia,fun k h1 U=>by rw[show k=m+1-1 by lia]⟩));obtain⟨a,b,c,d,e⟩:=M;have I:r.2.1<=r.1.size:=by rw[a.size];lia
 split
 .refine tail3 (a.rev _ _) AC AC fun i j g T=>?_;rw[rev_eq e I,rev_eq e I];exact d i j g T
 .exact tail3 a AC AC d
def count{p:tI}(g:Pm n p):Wp (HX key) n (kas_count n p) fun r=>Pm n r.2/\1<=r.1/\r.1<=n/\Up key r.2 r.1:=by
 have hn:=g.pos;unfold kas_count;refine Wp.bind _ (Wp.mono (fun m hm=>?_) _ (asc g (n-1) 1 (aG _) Up.one));obtain⟨T,h2,R,h4⟩:=hm;split
 .exact⟨g,T,by lia,R⟩
 .rename_i U;have M:m≠n:=by simpa using U
  have hk:O.klt (Key key p m) (Key key p (m-1)):=by
   rcases h4 with z|z
   .exact absurd AC M
   .exact z
  have Z:m<=p.size:=by rw[g.size];lia
  split
  .refine⟨g.lt _,g.lt _,?_⟩;cases c:HX key (p.getD 0 0) (p.getD (m-1) 0) with
   |true=>simp only[if_true];exact⟨g,T,by lia,R⟩
   |false=>
    simp only[Bool.false_eq_true,if_false];have all:∀k,k<m->Key key p k=Key key p (m-1):=fun k I=>KeyOrd.kle_antisymm (R k (m-1) AC AC) (KeyOrd.kle_trans (show O.kle (Key key p (m-1)) (Key key p 0) from c) (R 0 k AC I));have ek:∀k,Key key (kas_rev p 0 m) k=Key key p k:=fun k=>by
     by_cases I:k<m
     .have:Key key (kas_rev p 0 m) k=Key key p (0+m-1-k):=by
       unfold Key;rw[LL Z,if_pos ⟨bP _,I⟩]
      rw[this,all _ AC,all k I]
     .unfold Key;rw[LL Z,if_neg AC]
    refine descPart (g.rev _ _) T AC fun i j Y hj=>?_;rw[ek,ek];by_cases e:j=m
    .subst e;by_cases e2:i=j
     .subst e2;exact bZ _
     .rw[all i AC];exact KeyOrd.kle_of_klt hk
    .rw[all i AC,all j AC];exact bZ _
  .have:m=1:=by lia
   subst this;refine descPart g T AC fun i j Y hj=>?_;by_cases e:i=j
   .subst e;exact bZ _
   .rw[show i=0 by lia,show j=1 by lia];exact KeyOrd.kle_of_klt hk
theorem place{p:Array Nat}{k:Nat}(I:Pm n p)(g:Up key p k):∀(f l r:Nat),l<=r->r<=k->r-l<=f->(∀i,i<l->O.kle (Key key p i) (Key key p k))->(∀i,r<=i->i<k->O.klt (Key key p k) (Key key p i)) ->
  Wp (HX key) n (kas_place p k f l r) fun x=>x<=k/\(∀i,i<x->O.kle (Key key p i) (Key key p k))/\∀i,x<=i->i<k->O.klt (Key key p k) (Key key p i)
 |0,l,r,Y,M,U,a,b=>by
  have:l=r:=by lia
  subst this;exact⟨M,a,b⟩
 |f+1,l,r,Y,M,U,a,b=>by
  unfold kas_place;split
  .have:l=r:=by lia
   subst this;exact⟨M,a,b⟩
  .refine⟨I.lt _,I.lt _,?_⟩;cases c:HX key (p.getD k 0) (p.getD ((l+r) / 2) 0) with
   |true=>
    simp only[if_true];exact place I g f l ((l+r) / 2) AC AC AC a fun i R T=>KeyOrd.klt_of_klt_of_kle (show O.klt (Key key p k) (Key key p ((l+r) / 2)) from c) (g _ _ R T)
   |false=>
    simp only[Bool.false_eq_true,if_false];exact place I g f ((l+r) / 2+1) r AC M AC (fun i R=>KeyOrd.kle_trans (g i ((l+r) / 2) AC AC) (show O.kle (Key key p ((l+r) / 2)) (Key key p k) from c)) b
theorem bin:∀(f:Nat) (p:Array Nat) (k:Nat),Pm n p->1<=k->k+f=n->Up key p k->Wp (HX key) n (kas_bin f p k) fun r=>Pm n r/\Up key r n
 |0,p,k,g,_,hk,h=>by
  have:k=n:=by lia
  subst this;exact⟨g,h⟩
 |f+1,p,k,g,h1,hk,h=>by
  have M:k<p.size:=by rw[g.size];lia
  refine Wp.bind _ (Wp.mono (fun l Z=>?_) _ (place g h k 0 k (bP _) (aG _) AC (fun i z=>absurd z AC) fun i U z2=>absurd U AC));obtain⟨Y,I,R⟩:=Z;refine bin f _ (k+1) (g.bubble _ _) AC AC fun i j hij hj=>?_;have T:∀x,Key key (PyProof.Rows.bubble p k (k-l)) x=if x=l then Key key p k else if l<x/\x<=k then Key key p (x-1) else Key key p x:=fun x=>by
   unfold Key;rw[Wl M AC,show k-(k-l)=l by lia];split
   .rfl
   .split<;>rfl
  rw[T,T]
  repeat' split
  all_goals first
   |(exfalso;lia)
   |exact bZ _
   |exact I _ AC
   |exact KeyOrd.kle_of_klt (R _ AC AC)
   |exact h _ _ AC AC
def sort(hn:0<n):Wp (HX key) n (kas_sort n) fun p=>Pm n p/\Up key p n:=by
 have I:Pm n (List.toArray (List.range n)):=⟨Array.Perm.refl _,hn⟩;unfold kas_sort;refine Wp.bind _ (Wp.mono (fun r g=>?_) _ (count I));obtain⟨a,b,c,d⟩:=g;split
 .rw[show max r.1 1=r.1 by lia];exact bin _ _ _ a b AC d
 .have:r.1=n:=by lia
  rw[this]at d;exact⟨a,d⟩
end
end SM
namespace TH
open PySem PySem.W PyProof.Rows PySem.SeqAt
section
variable{A:F0d}{E:tE}{s:SD}{a:AD}{Q:Bool->SD->Prop}
def Wt{M:Model}{h:Heap}{a:AD}{x:Array VL}(h1:h.IsTuple a x):Looks M h (typeOf (.ref a)) Ev:=by
 obtain⟨o,g,I,_⟩:=h1;exact I ▸ (Looks.ld g).andThen .now
def iw{M:Model}{vs:sy}{Q:Option VL->SD->Prop}(T:∀v∈vs,Looks M s.heap (typeOf v) Ev)(h0:vs=[]->Q none s)(h1:Q (some Ev) s):wpAny M A (oneTypeOnly' vs.toArray) Q E s:=by
 rw[oneTypeOnly'_eq,List.mapM_toArray,map_eq_pure_bind];refine Wb (Wb (kas_mapM (r:=Value.type "tuple") _ (fun v I Y R=>(T v I).here R) (aA ?_)));cases vs with
 |nil=>exact aA (h0 rfl)
 |cons f r=>
  have g:((List.map (fun _=>Value.type "tuple") (f::r)).toArray.all fun x=>x==Value.type "tuple")=true:=by
   simp only[List.all_toArray,List.all_map,List.all_eq_true];intro _ _
   rfl
  have U:(List.map (fun _=>Value.type "tuple") (f::r)).toArray[0]? = some (Value.type "tuple"):=by simp
  rw[U];simp only[g,if_true];exact aA h1
theorem WW{α:Type}{cmp:Nat->Nat->(Bool->SD->Prop)->SD->Prop}{lt:Nat->Nat->Bool}{n:Nat}{I:α->Prop}(g:∀i j C,i<n->j<n->C (lt i j) s->cmp i j C s):∀T:KasT α,SM.Wp lt n T I->T.kasWp cmp (fun a s'=>s'=s/\I a) s
 |.ret a,h=>⟨rfl,h⟩
 |.ask i j k,h=>g i j _ h.1 h.2.1 (WW g (k (lt i j)) h.2.2)
end
end TH
namespace TH
open PySem PySem.W PyProof.Rows PySem.SeqAt
def map_getD{α:Type}(d:α)(l:List α):(List.range l.length).map (fun i=>l.getD i d)=l:=by
 refine List.ext_getElem BY fun i I g=>?_;simp[g]
section
def da(b:Bool)(us:sy)(hz:us.length<2):(if b=true then((if b=true then(us.toArray.zip us.toArray).reverse else us.toArray.zip us.toArray).map (·.2)).reverse else(if b=true then(us.toArray.zip us.toArray).reverse else us.toArray.zip us.toArray).map (·.2))=us.toArray:=by
 match us,hz with
 |[],_=>cases b<;>simp
 |[x],_=>cases b<;>simp
end
end TH
namespace ET
open PySem
section
variable{prog:F0b}{w:F0c}{A:F0d}{E:tE}{s:SD}
def next_item{it t:AD}{i:Nat}{items}{x:VL}{Q:tE}(hit:s.heap.IsTupleIter it t i)(T:s.heap.IsTuple t items)(R:items[i]? = some x) (Y:∀h',h'.IsTupleIter it t (i+1)->Heap.SameBut it s.heap h'->Q x {s with heap:=h'}):wpAny As A (Builtin.SmallTypes.nextOf (.ref it)) Q E s:=by
 obtain⟨o,g,U,hd⟩:=id hit;obtain⟨ol,I,_,nl,M⟩:=T;unfold Builtin.SmallTypes.nextOf;refine Wb (aX (name:=Str.ofString "__next__") hit.typeIs F.slot_tuple_iterator_next
  (aa F.slot_tuple_iterator_next hit.typeIs F.entry_tuple_iterator_next ?_ (F.args_tuple_iterator_next_1 _)))
 show wpAny _ _ (field (.ref it) 0>>=_) _ _ s;refine Wb (aq g hd (x:=.ref t) rfl ?_);show wpAny _ _ (if(Value.ref t==Value.none)=true then _ else _) _ _ s;rw[if_neg (show ¬((Value.ref t==Value.none)=true) from aJ)];show wpAny _ _ (field (.ref it) 1>>=_) _ _ s;refine Wb (aq g hd (x:=.int i 0) rfl ?_);show wpAny _ _ (seqItems? (.ref t)>>=_) _ _ s;refine Wb (bV I M ?_);simp only[Int.toNat_natCast,R];refine Wb (wpAny_setField g hd BY (aA ⟨x,rfl,wpAny_pure (Y _ ?_ (ar ..))⟩));exact⟨_,Heap.get?_update_self _ g (Obj.isFreed_of_fields (Obj.data_mapFields hd _)),(Obj.cls_mapFields ..).trans U,by
  rw[Obj.data_mapFields hd];simp[rawInt]⟩
def next_end{it t:AD}{i:Nat}{items}{Q:tE}(R:A.handled=none)(hit:s.heap.IsTupleIter it t i)(U:s.heap.IsTuple t items)(T:items[i]? = none) (Y:∀h' e,Heap.ExtBut it s.heap h'->(∃o,h'.get? e=some o/\o.cls=.type "StopIteration")->E (.ref e) {s with heap:=h'}):wpAny As A (Builtin.SmallTypes.nextOf (.ref it)) Q E s:=by
 obtain⟨o,I,Z,hd⟩:=id hit;obtain⟨ol,g,_,nl,M⟩:=U;unfold Builtin.SmallTypes.nextOf;refine Wb (aX (name:=Str.ofString "__next__") hit.typeIs F.slot_tuple_iterator_next
  (aa F.slot_tuple_iterator_next hit.typeIs F.entry_tuple_iterator_next ?_ (F.args_tuple_iterator_next_1 _)))
 show wpAny _ _ (field (.ref it) 0>>=_) _ _ s;refine Wb (aq I hd (x:=.ref t) rfl ?_);show wpAny _ _ (if(Value.ref t==Value.none)=true then _ else _) _ _ s;rw[if_neg (show ¬((Value.ref t==Value.none)=true) from aJ)];show wpAny _ _ (field (.ref it) 1>>=_) _ _ s;refine Wb (aq I hd (x:=.int i 0) rfl ?_);show wpAny _ _ (seqItems? (.ref t)>>=_) _ _ s;refine Wb (bV g M ?_);simp only[Int.toNat_natCast,T];refine Wb (bO (Wb (wpAny_setField I hd BY ?_)));show wpAny _ _ (newExc (.type "StopIteration") []>>=_) _ _ _;refine Wb ?_;simp only[newExc,newTuple];refine Wb (aZ ?_ (by size_fits));refine Wb (m:=firstArgMember _ _) (wpAny_of_eq (a:=Value.none) (by first|rfl|(simp only[firstArgMember];rfl)) ?_);refine aZ ?_ (by size_fits);simp only[raiseNew];refine Wb (wpAny_handled ?_)
 first|rw[show A.in1.handled=none from R]|rw[R]
 refine Wb (aA (wpAny_throw ?_));exact Y _ _ (((ar ..).extBut.push _).push _) ⟨_,Heap.get?_push_size _ rfl,rfl⟩
end
section
open AutoSeq1 (wpAny_loadPart')
def cS(l:AD)(items:Array VL)(n:Nat)(T:Option AD)(sl:Array (Option VL)):Meets (Builtin.«enumerate.__new__» ⟨[.type "enumerate",.ref l],[]⟩) (fun _ R s=>s.heap.get? l=some { cls:=.type "tuple",dict:=T,data:=.seq items n,slots:=sl} /\R (.ok (.ret (.ref (s.heap.push { cls:=.type "tuple_iterator",data:=.fields #[.ref l,.int 0 0]}).objs.size))) {s with heap:=(s.heap.push { cls:=.type "tuple_iterator",data:=.fields #[.ref l,.int 0 0]}).push { cls:=.type "enumerate",data:=.fields #[.none,.bool false,.ref s.heap.objs.size,rawInt 0,.none,.none]} }) :=
 .of_wp fun prog w A R s h=>by
  obtain⟨Y,g,d,tk,os⟩:=s;obtain⟨I,h⟩:=h;have U:=sub_enumerate;have M:Heap.IsTuple (Shared.heap ⟨Y,g,d,tk,os⟩) l items:=⟨_,I,rfl,n,rfl⟩
  wp_walk using wpAny_loadPart' I
  refine wpAny_stack_any fun st=>aA ?_;split
  .rename_i c _ _ _ _ _;cases (c==Value.type "enumerate")
   .wp_walk using wpAny_loadPart' I,wpAny_pyIter_tuple M
    exact⟨_,rfl,h⟩
   .wp_walk using wpAny_loadPart' I,wpAny_pyIter_tuple M
    exact⟨_,rfl,h⟩
  .wp_walk using wpAny_loadPart' I,wpAny_pyIter_tuple M
   exact⟨_,rfl,h⟩
def Zt{prog:F0b}{w:F0c}{A:F0d}{E:tE}{s:SD}{l:AD}{items:Array VL}{Q:tE}(U:s.heap.IsTuple l items) (h:∀h',IsEnum h' (s.heap.objs.size+1) s.heap.objs.size 0 .none->h'.IsTupleIter s.heap.objs.size l 0->h'.objs.size=s.heap.objs.size+2 ->(∀b o,s.heap.get? b=some o->h'.get? b=some o)->Q (.ref (s.heap.objs.size+1)) {s with heap:=h'}):wpAny As A (call (.type "enumerate") [.ref l]) Q E s:=by
 obtain⟨⟨c,M,dt,sl⟩,T,I,n,hd⟩:=U
 replace I:c=.type "tuple" := I
 replace hd:dt=.seq items n:=hd
 subst I hd;refine callType_new F.called_enumerate AS (F.typeCall_enumerate_1 _) (F.newCall_enumerate_1 _) (fun obj=>F.args_object_init_2 obj _) F.entry_enumerate_new
  (cS l items n M sl) ⟨T,?_⟩
 have g:(s.heap.push { cls:=.type "tuple_iterator",data:=.fields #[.ref l,.int 0 0]}).objs.size=s.heap.objs.size+1:=Heap.size_push ..;show _/\_;rw[g];have R:IsEnum ((s.heap.push { cls:=.type "tuple_iterator",data:=.fields #[.ref l,.int 0 0]}).push
   { cls:=.type "enumerate",data:=.fields #[.none,.bool false,.ref s.heap.objs.size,rawInt 0,.none,.none]}) (s.heap.objs.size+1) s.heap.objs.size 0 .none:=by
  have:=aU (s.heap.push { cls:=.type "tuple_iterator",data:=.fields #[.ref l,.int 0 0]})
   (o:={ cls:=.type "enumerate",data:=.fields #[.none,.bool false,.ref s.heap.objs.size,rawInt 0,.none,.none]}) rfl
  rw[g]at this;exact this
 refine⟨⟨_,R,rfl⟩,h _ R ⟨_,Heap.get?_push_of_some _ (aU _ rfl),rfl,rfl⟩ (by rw[(L8),g]) fun b o x=>aF _ (aF _ x)⟩
end
def draws{prog:F0b}{w:F0c}{A:F0d}(hh:A.handled=none)(it a:AD)(its:sy)(hne:a≠it) :
  Draws prog w A it [it,a] its.length (fun i x=>its[i]? = some x) (fun i h=>h.IsTupleIter it a i/\h.IsTuple a its.toArray) where
 live:=fun i h st=>let⟨o,e,_⟩:=st.1;⟨o,e⟩
 frame:=fun i h h' st k=>by
  obtain⟨⟨o,e,r⟩,o2,e2,r2⟩:=st;exact⟨⟨o,k it BY o e,r⟩,o2,k a BY o2 e2,r2⟩
 item:=fun i s Q E hi st hQ=>next_item st.1 st.2 (x:=its[i]) (by simp[hi]) fun h' st' sb=>
  hQ _ h' s.toks (by simp[hi]) ⟨st',let⟨o,e,r⟩:=st.2;⟨o,(sb.2 a hne).trans e,r⟩⟩ sb
 done:=fun s Q E st hE=>next_end hh st.1 st.2 BY hE
end ET
namespace L2
open PySem PySem.Spec PyProof.Rows
section
variable{X:Cx}{pins:CG}{σ:St}{H:Hp}{s:SD}{h':Heap}{tk:Nat}{ch:tT}
def Inv.turn(I:At)(R:∀b∈ch,Jn X pins H b)(keep:∀b o,b ∉ ch->s.heap.get? b=some o->h'.get? b=some o):Inv X pins σ H {s with heap:=h',toks:=tk}:=by
 have PX:∀b o,H b=some o->b ∉ ch:=fun b o q M=>by rw[(R b M).1]at q;cases q
 show Inv X pins σ _ {s with heap:=h',gens:=s.gens,drawn:=s.drawn,toks:=tk};refine I.step (h':=h') (g':=s.gens) (d':=s.drawn) (t':=tk) (ch:=ch) (fun b M=>?_) (fun b o _ _ g q _=>keep b o g q) (fun b o _ _ g q _=>⟨o.slots,keep b o g q⟩)
  (fun b o _ q n=>n) (fun b o g q=>⟨o,keep b o g q⟩) (fun b ys q=>q) (fun b o u q=>q)
  (fun b ps q=>⟨#[],by rw[q];simp⟩) (fun b _ o g _ q=>keep b o g q) (fun m hm=>?_) (fun b o q=>?_) I.bare
 .obtain⟨_,f1,_,Z,Y,U⟩:=R b M;exact⟨Z,f1,Y,U⟩
 .obtain⟨o,es,ep,T,r⟩:=hm;exact⟨o,es,ep,keep _ o (fun M=>(R _ M).2.1 rfl) T,r⟩
 .refine(I.Al b o q).KC (fun c w g r=>keep c w ?_ r) (fun c r=>r) fun c ys r=>r;rcases g with rfl|g
  .exact PX _ _ q
  .exact PX _ _ g
def Inv.Wc(I:At)(T:∀b∈ch,Jn X pins H b)(keep:∀b o,b ∉ ch->s.heap.get? b=some o->h'.get? b=some o){xs:tR}{us:sy}(hz:xs.length<=sizeLine)(U:Vals xs us) (Z:h'.get? s.heap.objs.size=some { cls:=.type "tuple",data:=.seq us.toArray}):Inv X pins σ (upd H s.heap.objs.size (.tup xs)) {s with heap:=h',toks:=tk}:=by
 have M:H s.heap.objs.size=none:=I.Al.fresh (aG _);have neT:∀b o,s.heap.get? b=some o->b≠s.heap.objs.size:=fun b o q=>aM (aE q);have PX:∀b o,H b=some o->b ∉ ch:=fun b o q R=>by rw[(T b R).1]at q;cases q
 show Inv X pins σ _ {s with heap:=h',gens:=s.gens,drawn:=s.drawn,toks:=tk};refine I.step (h':=h') (g':=s.gens) (d':=s.drawn) (t':=tk) (ch:=ch) (fun b R=>?_) (fun b o _ _ g q _=>keep b o g q) (fun b o _ _ g q _=>⟨o.slots,keep b o g q⟩)
  (fun b o _ q n=>by rw[AK (neT b o q)];exact n) (fun b o g q=>⟨o,keep b o g q⟩) (fun b ys q=>by rw[AK (AV q M)];exact q) (fun b o u q=>by rw[AK (AV q M)];exact q)
  (fun b ps q=>⟨#[],by rw[AK (AV q M),q];simp⟩) (fun b _ o g _ q=>keep b o g q) (fun m hm=>?_) (fun b o q=>?_) I.bare
 .obtain⟨_,f1,_,f3,f4,f5⟩:=T b R;exact⟨f3,f1,f4,f5⟩
 .obtain⟨o,es,ep,Y,r⟩:=hm;exact⟨o,es,ep,keep _ o (fun R=>(T _ R).2.1 rfl) Y,r⟩
 .by_cases R:b=s.heap.objs.size
  .subst R;rw[AN]at q;cases q;exact⟨hz,us,U,_,Z,rfl,_,rfl⟩
  .rw[AK R]at q;refine(I.Al b o q).KC (fun c w g r=>keep c w ?_ r) (fun c r=>by rw[AK (AV r M)];exact r) fun c ys r=>by rw[AK (AV r M)];exact r
   rcases g with rfl|g
   .exact PX _ _ q
   .exact PX _ _ g
end
def Ts(H:Hp):Tr->List V->Prop
 |.nil,xs=>xs=[]
 |.cons b r,xs=>∃(a:AD) (ys g:List V),xs=.ref a::g/\H a=some (.tup ys)/\Ts H b ys/\Ts H r g
def Tv(H:Hp)(t:Tr)(v:V):Prop:=∃(a:AD) (ys:List V),v=.ref a/\H a=some (.tup ys)/\Ts H t ys
def Ts.same{H H':Hp}(e:AJ H H'):∀ {t:Tr} {xs:List V},Ts H t xs->Ts H' t xs
 |.nil,xs,h=>by rw[Ts]at h ⊢;exact h
 |.cons b r,xs,h=>by
  rw[Ts]at h ⊢;obtain⟨a,ys,g,T,R,M,I⟩:=h;exact⟨a,ys,g,T,e _ _ R,M.same e,I.same e⟩
def Tv.same{H H':Hp}{t:Tr}{v:V}(h:Tv H t v)(e:AJ H H'):Tv H' t v:=let⟨a,ys,M,I,g⟩:=h;⟨a,ys,M,e _ _ I,g.same e⟩
def Ts.length{H:Hp}:∀ {t:Tr} {xs:List V},Ts H t xs->xs.length=t.len
 |.nil,xs,h=>by rw[Ts]at h;rw[h];rfl
 |.cons b r,xs,h=>by
  rw[Ts]at h;obtain⟨a,ys,I,rfl,_,_,g⟩:=h;rw[(GU),Tr.len,g.length]
def Ts.len{H:Hp}{t:Tr}{xs:tR}(h:Ts H t xs):xs.length=t.bs.length:=by rw[h.length,Tr.Qy]
def Ts.get{H:Hp}:∀ {t:Tr} {xs:List V} {i:Nat} {v:V},Ts H t xs->xs[i]? = some v->∃c,t.bs[i]? = some c/\Tv H c v
 |.nil,xs,i,v,h,e=>by rw[Ts]at h;subst h;simp at e
 |.cons b r,xs,i,v,h,e=>by
  rw[Ts]at h;obtain⟨a,ys,U,rfl,T,R,M⟩:=h;cases i with
  |zero=>simp at e;subst e;exact⟨b,rfl,a,ys,rfl,T,R⟩
  |succ i=>
   obtain⟨c,I,g⟩:=M.get (i:=i) (v:=v) (by simpa using e);exact⟨c,by simpa[Tr.bs]using I,g⟩
section
variable{X:Cx}{pins:CG}{σ:St}{H:Hp}{s:SD}
theorem Ts.vs(I:At):∀ {t:Tr} {xs:List V} {us:List VL},Ts H t xs->Vals xs us->TH.Vs s.heap t us
 |.nil,xs,us,h,r=>by
  rw[Ts]at h;subst h;cases r;rw[TH.Vs]
 |.cons b rr,xs,us,h,r=>by
  rw[Ts]at h;obtain⟨a,ys,zs,rfl,Z,Y,U⟩:=h;cases r with
  |cons T R=>
   cases T;obtain⟨g,M,p,_⟩:=I.tuple (Ax.of (K:=X.K) Z);rw[TH.Vs];exact⟨a,g,_,rfl,p,Ts.vs I Y M,Ts.vs I U R⟩
def Tv.at(I:At){t:Tr}{v:V}{u:VL}(h:Tv H t v)(r:RelV v u):∃(a:AD) (g:sy),u=.ref a/\s.heap.IsTuple a g.toArray/\TH.Vs s.heap t g:=by
 obtain⟨a,ys,rfl,T,R⟩:=h;cases r;obtain⟨g,M,p,_⟩:=I.tuple (Ax.of (K:=X.K) T);exact⟨a,g,rfl,p,Ts.vs I R M⟩
def og:R2:=fun x y H Q=>∃t u,Tv H t x/\Tv H u y/\t.deep<=60/\Q (.bl (Tr.lt u t)) H
def jY(hu:X.A.units+64<cLine):Cw X (compareOp .Gt) og:=by
 intro pins s σ H x y v u' Q I T R h;obtain⟨t,u,h1,h2,hd,q⟩:=h;obtain⟨a,M,rfl,Y,k1⟩:=h1.at I T;obtain⟨b,g,rfl,U,Z⟩:=h2.at I R;exact TH.iB (t.deep+1) t u X.A s a b M g (Nat.lt_succ_self _) Y k1 U Z AC X.prog X.w X.xe _ ⟨.bl _,H,I,rfl,q⟩
end
def X7(K:Fg)(a:AD):It :=
 ⟨fun i H=>∃xs x,Ax K H a xs/\xs[i]? = some x,fun i H v H'=>∃p x,v=.ref p/\H p=none/\H'=upd H p (.tup [.int i,x])/\∀xs,Ax K H a xs->xs[i]? = some x,fun i H=>∃xs,Ax K H a xs/\xs.length=i⟩
def dU{P:F0b}{w:F0c}{K:Fg}{elts:tL}{x1}{pos:Pos}(a e it:AD)(hne:e≠it) :
  Turn P w K (.Tuple elts x1 pos) (X7 K a) [e,it] e (fun i h=>(∃old,IsEnum h e it (i:Nat) old)/\h.IsTupleIter it a i) where
 mem:=by simp
 obj:=fun i h st b hb=>by
  rcases aN.mp hb with rfl|hb
  .obtain⟨⟨old,q⟩,_⟩:=st;exact⟨_,q,fun v z=>by cases z⟩
  .have e2:b=it:=by simpa using hb
   subst e2;obtain⟨_,o,q,c,d⟩:=st;exact⟨o,q,fun v z=>by rw[d]at z;cases z⟩
 keep:=fun i h h' st k=>by
  obtain⟨⟨old,q⟩,o,q2,r⟩:=st;exact⟨⟨old,k e BY _ q⟩,o,k it BY _ q2,r⟩
 item:=by
  intro X hP hw hK hc i pins s σ H E I hf st hg;subst hP hw hK;obtain⟨xs,x,hq,hx⟩:=hg;obtain⟨its,rv,p,hz⟩:=I.tuple hq;obtain⟨u,hu,ru⟩:=rv.get hx;obtain⟨⟨old,he⟩,hit⟩:=st;have hai:a≠it:=fun z=>by
   obtain⟨o,e1,c1,_⟩:=p;obtain⟨o2,e2,c2,_⟩:=hit;rw[z,e2]at e1;cases e1;rw[c1]at c2;exact absurd c2 AS
  have hae:a≠e:=fun z=>by
   obtain⟨o,e1,c1,_⟩:=p;rw[z,he]at e1;cases e1;exact absurd (show Value.type "enumerate" = Value.type "tuple" from c1) AS
  have hlt:i<its.length:=(aB.mp hu).1;have hE0:=hf e BY;have hI0:=hf it BY;refine wpAny_pyNext_enum_itemD (ET.draws (prog:=X.prog) (w:=X.w) (A:=X.A.in1) (I.ok.hd hc) it a its hai) he ⟨hit,p⟩ hlt hne (by simp[hne,Ne.symm hae]) fun y h' tk hy ho hs' hT hsz hk=>⟨_,rfl,wpAny_letOwnedTupleGo_enum (s:={s with heap:=h',toks:=tk+1}) ho fun h'' he'' sb=>?_⟩;have hyu:y=u:=by rw[hu]at hy;exact(ak hy).symm
  subst hyu;have keep:∀b o,b≠e->b≠it->s.heap.get? b=some o->h''.get? b=some o:=fun b o h1 h2 q=>(sb.2 b h1).trans (hk b o h1 h2 q);have hTe:s.heap.objs.size≠e:=ax (aE he);have hTi:s.heap.objs.size≠it:=let⟨_,q,_⟩:=hit;ax (aE q);have hT'':h''.get? s.heap.objs.size=some { cls:=.type "tuple",data:=.seq #[.int i tk,y]}:=(sb.2 _ hTe).trans hT;have hTn:H s.heap.objs.size=none:=I.Al.fresh (aG _);refine⟨.ref s.heap.objs.size,upd H s.heap.objs.size (.tup [.int i,x]),?_,rfl,⟨_,x,rfl,hTn,rfl,fun ys hy=>by rw[I.TV hy hq];exact hx⟩,⟨⟨_,by simpa using he''⟩,?_⟩,fun b hb=>?_⟩
  .exact I.Wc (ch:=[e,it]) hf (fun b o hb q=>keep b o (fun z=>hb (by simp[z])) (fun z=>hb (by simp[z])) q) XZ (.cons ⟨tk,rfl⟩ (.cons ru .nil)) hT''
  .obtain⟨⟨o,q,r⟩,_⟩:=hs';exact⟨o,(sb.2 it (Ne.symm hne)).trans q,r⟩
  .rcases aN.mp hb with rfl|hb
   .rw[AK (Ne.symm hTe)];exact hE0.1
   .have e2:b=it:=by simpa using hb
    subst e2;rw[AK (Ne.symm hTi)];exact hI0.1
 done:=by
  intro X hP hw hK hc i pins s σ H E I hf st hg;subst hP hw hK;obtain⟨xs,hq,hx⟩:=hg;obtain⟨its,rv,p,hz⟩:=I.tuple hq;obtain⟨⟨old,he⟩,hit⟩:=st;have hai:a≠it:=fun z=>by
   obtain⟨o,e1,c1,_⟩:=p;obtain⟨o2,e2,c2,_⟩:=hit;rw[z,e2]at e1;cases e1;rw[c1]at c2;exact absurd c2 AS
  have hl:its.length=i:=by rw[<-rv.length];exact hx
  subst hl;obtain⟨f0,f1,f2,f3,f4,f5⟩:=hf it BY;exact wpAny_pyNext_enum_endD (ET.draws (prog:=X.prog) (w:=X.w) (A:=X.A.in1) (I.ok.hd hc) it a its hai) he ⟨hit,p⟩ fun h' eb=>⟨rfl,I.turned (t':=s.toks) (fun b o hb q=>eb b o hb q) f0 f1 f3 f4 f5⟩
 self:=fun _ _ _ _ _ st h=>by
  obtain⟨⟨old,he⟩,_⟩:=st;exact wpAny_pyIter_enum he h
def oY(K:Fg)(ta:TA):TI:=fun σ H R=>ta σ H fun vs g=>∃a,vs=[.ref a]/\(∃xs,Ax K g a xs)/\R (X7 K a) g
def XY{X:Cx}{elts:tL}{x1}{g:Pos}{a:Expr}{ta:TA}{p pos:Pos}(hg:Gl X "enumerate")(hm:X.mg "enumerate" = none)(ha:PA X [a] ta)(hs:starEach [a] X.env=[(false,eval a X.env)]:=by rfl):PI X (.Tuple elts x1 g) (.Call (.Name "enumerate" p) [a] [] pos) (oY X.K ta):=by
 intro pins s σ H R I h;refine Call_ (Ir I hg hm boot_enumerate (bS (A9 (ha pos pins s σ H _ I h) fun us s1 ⟨vs,H1,T,r1,q1⟩=>?_) hs rfl));obtain⟨t,e,⟨xs,hq⟩,q⟩:=q1;subst e;cases r1 with
 |cons r rr=>
  cases rr;cases r;obtain⟨U,rv,p',hz⟩:=T.tuple hq;refine ET.Zt (show s1.heap.IsTuple t U.toArray from p') fun h' Z hit hsz hk=>wpAny_pyIter_enum Z ?_;have I2:Inv X pins σ H1 {s1 with heap:=h'}:=T.kept (t':=s1.toks) hk;have hn:s1.heap.objs.size+1≠s1.heap.objs.size:=by lia
  refine⟨s1.heap.objs.size+1,[s1.heap.objs.size+1,s1.heap.objs.size],_,_,H1,rfl,I2,dU t _ _ hn,⟨⟨_,Z⟩,hit⟩,fun b hb=>?_,q⟩;have M:s1.heap.objs.size<=b:=by
   have Y:b=s1.heap.objs.size+1\/b=s1.heap.objs.size:=by simpa using hb
   rcases Y with z|z
   .rw[z];exact Nat.le_succ _
   .rw[z];exact aG _
  exact T.Rp M (T.Al.fresh M)
def fG{K:Fg}{a:AD}{xs:tR}{g:TG}{tb:TS}{D:Ends}{σ:St}{H:Hp}(Pv:Nat->St->Hp->Prop)(h0:Pv 0 σ H)(hl:∀i σ H,i<=xs.length->Pv i σ H->Ax K H a xs) (hs:∀i x σ H,xs[i]? = some x->Pv i σ H->∀p,H p=none->g (.ref p) σ (upd H p (.tup [.int (i:Nat),x])) fun I T=>tb {D with nx:=Pv (i+1),ct:=Pv (i+1),bk:=D.nx} I T)(hd:∀σ H,Pv xs.length σ H->D.nx σ H):∃W:Nat->Nat->St->Hp->Prop,(∃m,W 0 m σ H)/\∀i m σ H,W i m σ H ->((X7 K a).stop i H/\D.nx σ H)\/((X7 K a).go i H/\∃N:St->Hp->Prop,(∀M H',N M H'->∃U,U<m/\W (i+1) U M H')/\∀x H',(X7 K a).EU i H x H'->g x σ H' fun I T=>tb {D with nx:=N,ct:=N,bk:=D.nx} I T):=by
 refine⟨fun i m σ H=>m=xs.length-i/\i<=xs.length/\Pv i σ H,⟨xs.length,by simp,Nat.zero_le _,h0⟩,?_⟩;rintro i m σ H ⟨rfl,hi,p⟩;have q:=hl i σ H hi p;by_cases R:i<xs.length
 .refine .inr ⟨⟨xs,xs[i],q,by simp[R]⟩,Pv (i+1),fun M H' Z=>⟨xs.length-(i+1),by lia,rfl,R,Z⟩,fun x H' y=>?_⟩;obtain⟨pp,Y,rfl,hn,rfl,y⟩:=y;exact hs i Y σ _ (y xs q) p pp hn
 .have e:i=xs.length:=by lia
  subst e;exact .inl ⟨⟨xs,q,rfl⟩,hd σ H p⟩
end L2
namespace Tim
open PySem PyProof.Rows
section pure
end pure
section
section pure
end pure
section pure
end pure
end
end Tim
namespace GS
open PySem PySem.W PyProof.Rows PySem.SeqAt
abbrev Ext(h0 h:Heap):Prop:=∀c o,h0.get? c=some o->h.get? c=some o
def Rx(O:KeyOrd)(prog:F0b)(w:F0c)(κ:SortKind)(A:F0d)(s:SD)(ks:List O.α)(us:sy):Prop :=
 ∀(E:VL->SD->Prop) (i j:Nat) (x y:O.α) (u v:VL) (Q:Bool->SD->Prop),us[i]? = some u->us[j]? = some v->ks[i]? = some x->ks[j]? = some y->Q (O.blt x y) s->wpAny As A (keyLt' κ u v) Q E s
structure V6(O:KeyOrd)(prog:Program)(w:World)(h0:Heap)(r:Nat)(ks:List O.α)(us:List Value):Prop where
 len:us.length=ks.length
 go:∃ok:SortKind->Prop,(∀(A:Around) (E:Value->Shared->Prop) (s:Shared) (Q:SortKind->Shared->Prop),Ext h0 s.heap->(∀κ,ok κ->Q κ s)->wpAny As A (keyKind' us.toArray) Q E s) /\
  ∀(A:Around) (s:Shared) (κ:SortKind),Ext h0 s.heap->A.units+r<cLine->ok κ->Rx O prog w κ A s ks us
def Runs(O:KeyOrd)(prog:F0b)(w:F0c)(ks:List O.α):Prop :=
 ∀(d:O.α) (A:F0d) (E:VL->SD->Prop) (s:SD) (κ:SortKind) (g:List VL),g.length=ks.length->2<=g.length->Rx O prog w κ A s ks g ->
  wpAny As A ((sortRuns').run (SortSt.mk' κ (g.toArray.zip g.toArray) #[] 7 none)) (fun r s'=>s'=s/\failedOf r.2=none/\∃ix:List Nat,ix.Perm (List.range g.length) /\
   (arrOf r.2).map (·.2)=(ix.map fun i=>g.getD i Value.none).toArray/\(ix.map fun i=>ks.getD i d).Pairwise O.kle) E s
def Ms{O:KeyOrd}{prog:F0b}{w:F0c}{ks:List O.α}(T:ks.length<64):Runs O prog w ks:=by
 intro d A E s κ g hl h2 ask;have T:g.length<64:=by lia
 refine kat_run (Q:=fun I s'=>s'=s/\failedOf I=none/\∃ix:List Nat,ix.Perm (List.range g.length)/\(arrOf I).map (·.2)=(ix.map fun i=>g.getD i Value.none).toArray/\(ix.map fun i=>ks.getD i d).Pairwise O.kle)
  (G:=fun p s'=>s'=s/\SM.Pm g.length p/\SM.Up (O:=O) (fun i=>ks.getD i d) p g.length) rfl h2 T (fun p I s' hp har hf hG=>?_)
  (TH.WW (lt:=SM.HX (O:=O) fun i=>ks.getD i d) (n:=g.length) (fun i j C hi R U=>?_) _ (SM.sort AC))
 .obtain⟨rfl,Z,Y⟩:=hG;have h1:p.toList.Perm (List.range g.length):=by simpa using Array.perm_iff_toList_perm.mp Z.perm
  refine⟨rfl,hf,p.toList,h1,kat_snds rfl har,?_⟩;refine List.pairwise_iff_getElem.mpr fun i j hi R hij=>?_;rw[(Af),(VR),hp]at hi R;have:=Y i j AC R;have e1:∀k,k<g.length->∀M,(p.toList.map fun i=>ks.getD i d)[k]' M=ks.getD (p.getD k 0) d:=fun k M hk'=>by
   rw[List.getElem_map,Array.getElem_toList,Array.getD,dif_pos AC]
   rfl
  rw[e1 i hi,e1 j R];exact this
 .have gi:∀k,k<g.length->∃u x,g[k]? = some u/\ks[k]? = some x/\g.getD k Value.none=u/\ks.getD k d=x:=fun k M=>by
   refine⟨g[k],ks[k]' AC,List.getElem?_eq_getElem M,List.getElem?_eq_getElem AC,?_,?_⟩
   .rw[(Ky),List.getElem?_eq_getElem M];rfl
   .rw[(Ky),List.getElem?_eq_getElem AC];rfl
  obtain⟨u,x,q1,q2,q3,q4⟩:=gi i hi;obtain⟨v,y,r1,r2,r3,r4⟩:=gi j R;unfold kas_ask;rw[q3,r3];refine ask _ i j x y u v C q1 r1 q2 r2 ?_;have U:C (O.blt (ks.getD i d) (ks.getD j d)) s:=U;rw[q4,r4]at U;exact U
section
variable{O:KeyOrd}{prog:F0b}{w:F0c}{A:F0d}{E:tE}{s:SD}{h0:Heap}{r:Nat}{ks:List O.α}{us:sy}
def Rx.rev{κ:SortKind}(T:us.length=ks.length)(a:Rx O prog w κ A s ks us):Rx O prog w κ A s ks.reverse us.reverse:=fun E i j x y u v Q R M I g q=>by
 have b1:=(aB.mp R).1;have b2:=(aB.mp M).1;rw[List.length_reverse]at b1 b2;rw[List.getElem?_reverse AC]at R M I g;rw[<-T]at I g;exact a E _ _ x y u v Q R M I g q
def fQ{α:Type}{R:α->α->Prop}:∀ {l:List α},l.length<2->l.Pairwise R
 |[],_=>.nil
 |[_],_=>List.pairwise_singleton ..
 |_::_::_,h=>by simp at h;lia
def Si(d : O.α){a : AD}{n : Nat}{b : Bool}{P : PySem.Fin->SD->Prop}(C : V6 O prog w h0 r ks us)(hx : Ext h0 s.heap)(ha0 : h0.objs.size<=a)(ho : s.heap.get? a = some (seqObj "list" us.toArray n))(hsz : us.length<=1000)(hr : Runs O prog w (if b then ks.reverse else ks))(hu : A.units + r < cLine) (h : ∀ ix : List Nat,ix.Perm (List.range us.length)->(ix.map fun i => ks.getD i d).Pairwise (fun x y => if b = true then O.kle y x else O.kle x y)->P (.done (.ret .none)) { s with heap:=sortedHeap s.heap a us (ix.map fun i => us.getD i Value.none).toArray }):wpAny As A (Builtin.«list.sort» ⟨[.ref a],[(Str.ofString "reverse",.bool b)]⟩) P E s:=by
  rw [list_sort_rev]
  have ha : a < s.heap.objs.size:=aE ho
  refine Wb (listItems_at ho rfl ?_)
  refine Wb (listUpdate_at ho rfl ?_ (by rw [(Dd),sizeLine_eq]; lia) (bP _))
  obtain ⟨e1,ho1⟩ : ∃ e1,(s.heap.update a (Obj.mapSeq fun _ => #[])).get? a = some (seqObj "list" #[] e1):=⟨_,get?_update_seq ho (fun _ => #[])⟩
  refine Wb (seqEpoch_at ho1 rfl ?_)
  refine Wb (wpAny_newTuple ?_ (by show us.length<=_; rw [sizeLine_eq]; lia))
  refine Wb (wpAny_newList ?_ (bP _))
  refine ae ?_
  have ho6 : (((s.heap.update a (Obj.mapSeq fun _ => #[])).push (seqObj "tuple" us.toArray 0)).push (seqObj "list" #[] 0)).get? a = some (seqObj "list" #[] e1):=by
    rw [Heap.get?_push_ne _ _ _ (by rw [size_push',Heap.size_update]; exact aM (Nat.lt_succ_of_lt ha)),Heap.get?_push_ne _ _ _ (by rw [Heap.size_update]; exact aM ha)]
    exact ho1
  have keep : Ext h0 (((s.heap.update a (Obj.mapSeq fun _ => #[])).push (seqObj "tuple" us.toArray 0)).push (seqObj "list" #[] 0)):=fun c o hc => by
    have hlt : c < h0.objs.size:=aE hc
    have hne : c≠a:=fun z => Nat.not_lt.mpr ha0 (z ▸ hlt)
    refine aF _ (aF _ ?_)
    rw [Heap.get?_update_ne _ _ _ _ hne]
    exact hx c o hc
  show wpAny As A _ P E EQ
  dsimp only
  have step : ∀ T : Sem PySem.Fin,wpAny As A T P E EQ ->
      wpAny As A (if b = true then (do let _ <- rule "list.sort.reverse"; T) else T) P E EQ:=by
    intro T hT
    split
    . exact Wb (bO hT)
    . exact hT
  refine step _ ?_
  obtain ⟨ok,hkind,hask⟩:=C.go
  have hl:=C.len
  by_cases h2 : us.toArray.size < 2
  . rw [if_pos h2,if_pos h2]
    refine Wb (aA ?_)
    rw [StateT.run_pure]
    refine Wb (aA ?_)
    dsimp only
    have hz : us.length < 2:=by simpa using h2
    have hout:=TH.da b us hz
    refine Wb (seqEpoch_at ho6 rfl ?_)
    refine Wb (listUpdate_at ho6 rfl ?_ (bP _) (by
      refine aT (Nat.le_of_eq (ai Array.size hout)) ?_
      rw [(Dd),sizeLine_eq]; lia))
    simp only [bne_self_eq_false,Bool.false_eq_true,if_false]
    have fin:=h (List.range us.length) (.refl _) (fQ (by simpa using hz))
    rw [TH.map_getD] at fin
    rw [<- hout] at fin
    exact aA fin
  . rw [if_neg h2,if_neg h2]
    have hz : 2<=us.length:=by simpa using h2
    refine Wb (hkind A E EQ _ keep fun κ hκ => ?_)
    have ask:=hask A EQ κ keep hu hκ
    obtain ⟨ws,kw,aw,hwl,hwk,hws,hrw,pick⟩ : ∃ (ws : List VL) (kw : List O.α),Rx O prog w κ A { s with heap:=((s.heap.update a (Obj.mapSeq fun _ => #[])).push (seqObj "tuple" us.toArray 0)).push (seqObj "list" #[] 0) } kw ws/\ws.length = us.length/\ws.length = kw.length /\
        (if b = true then (us.toArray.zip us.toArray).reverse else us.toArray.zip us.toArray) = ws.toArray.zip ws.toArray/\Runs O prog w kw /\
        ∀ ix : List Nat,ix.Perm (List.range ws.length)->(ix.map fun i => kw.getD i d).Pairwise O.kle->∃ iy : List Nat,iy.Perm (List.range us.length)/\(iy.map fun i => ks.getD i d).Pairwise (fun x y => if b = true then O.kle y x else O.kle x y) /\
          (if b = true then ((ix.map fun i => ws.getD i Value.none).toArray).reverse else (ix.map fun i => ws.getD i Value.none).toArray) = (iy.map fun i => us.getD i Value.none).toArray:=by
      cases b with
      | false => exact ⟨us,ks,ask,rfl,hl,rfl,hr,fun ix h1 h2 => ⟨ix,h1,by simpa using h2,rfl⟩⟩
      | true=>
        refine ⟨us.reverse,ks.reverse,ask.rev hl,by simp,by simp [hl],kat_pairs (ks:=us) (vs:=us) true rfl,hr,fun ix h1 h2 => ⟨(ix.map fun i => us.length - 1 - i).reverse,?_,?_,?_⟩⟩
        . rw [List.length_reverse] at h1
          refine (List.reverse_perm _).trans ((h1.map fun i => us.length - 1 - i).trans ?_)
          have : (List.range us.length).map (fun i => us.length - 1 - i) = (List.range us.length).reverse:=by
            refine List.ext_getElem BY fun i a1 a2 => ?_
            simp
          rw [this]
          exact List.reverse_perm _
        . have hb : ∀ i∈ix,i < us.length:=fun i hi => by simpa using h1.mem_iff.mp hi
          have e : ((ix.map fun i => us.length - 1 - i).reverse.map fun i => ks.getD i d) = (ix.map fun i => ks.reverse.getD i d).reverse:=by
            rw [List.map_reverse,(CZ)]
            congr 1
            exact az fun i hi => by
              have:=hb i hi
              show ks.getD (us.length - 1 - i) d = _
              rw [(Ky),(Ky),List.getElem?_reverse AC,hl]
          rw [e,List.pairwise_reverse]
          simpa using h2
        . have hb : ∀ i∈ix,i < us.length:=fun i hi => by simpa using h1.mem_iff.mp hi
          rw [if_pos rfl,List.map_reverse,(CZ),List.reverse_toArray]
          congr 2
          exact az fun i hi => by
            have:=hb i hi
            show us.reverse.getD i Value.none = us.getD (us.length - 1 - i) Value.none
            rw [(Ky),(Ky),List.getElem?_reverse AC]
    rw [hws]
    refine Wb (aY (hrw d A E EQ κ ws hwk AC aw) ?_ fun _ _ z => z)
    rintro ⟨⟨⟩,st'⟩ s' ⟨rfl,hf,ix,hix,hout,hst⟩
    dsimp only
    refine Wb (seqEpoch_at ho6 rfl ?_)
    obtain ⟨iy,y1,y2,hfin⟩ : ∃ iy : List Nat,iy.Perm (List.range us.length)/\(iy.map fun i => ks.getD i d).Pairwise (fun x y => if b = true then O.kle y x else O.kle x y) /\
        (if b = true then ((arrOf st').map (·.2)).reverse else (arrOf st').map (·.2)) = (iy.map fun i => us.getD i Value.none).toArray:=by
      rw [show (arrOf st').map (·.2) = _ from hout]
      exact pick ix hix hst
    refine Wb (listUpdate_at ho6 rfl ?_ (bP _) (by
      refine aT (Nat.le_of_eq (ai Array.size hfin)) ?_
      have:=y1.length_eq
      rw [List.length_range] at this
      rw [(Dd),(Af),this,sizeLine_eq]; lia))
    rw [show failedOf st' = none from hf]
    simp only [bne_self_eq_false,Bool.false_eq_true,if_false]
    have fin:=h iy y1 y2
    rw [<- hfin] at fin
    exact aA fin
def X5(prog:F0b)(w:F0c)(A:F0d)(E:tE)(s:SD)(v:VL)(us:sy):Prop :=
 ∀Q:List VL->SD->Prop,(∀(g:Heap) (tk:Nat),Ext s.heap g->s.heap.objs.size<=g.objs.size->Q us {s with heap:=g,toks:=tk})->wpAny As A (collect v) Q E s
def PN(d:O.α){b:Bool}{Q:tE}{h1:Heap}{tk:Nat}{T:Sem PySem.Fin}(C:V6 O prog w s.heap r ks us)(hsz:us.length<=1000)(hr:Runs O prog w (if b then ks.reverse else ks))(g:Ext s.heap h1)(Y:s.heap.objs.size<=h1.objs.size) (h:∀(h':Heap) (D tk:Nat) (ix:List Nat) (M:Nat),s.heap.objs.size<=D->Ext s.heap h'->h'.get? D=some (seqObj "list" (ix.map fun i=>us.getD i Value.none).toArray M)->ix.Perm (List.range us.length)->(ix.map fun i=>ks.getD i d).Pairwise (fun x y=>if b=true then O.kle y x else O.kle x y)->Q (.ref D) {s with heap:=h',toks:=tk}):(h1.push (seqObj "list" us.toArray 0)).get? h1.objs.size=some (seqObj "list" us.toArray 0)/\Ext s.heap (h1.push (seqObj "list" us.toArray 0)) /\∀ix:List Nat,ix.Perm (List.range us.length)->(ix.map fun i=>ks.getD i d).Pairwise (fun x y=>if b=true then O.kle y x else O.kle x y)->Q (.ref h1.objs.size) {s with heap:=sortedHeap (h1.push (seqObj "list" us.toArray 0)) h1.objs.size us (ix.map fun i=>us.getD i Value.none).toArray,toks:=tk}:=by
 have U:(h1.push (seqObj "list" us.toArray 0)).get? h1.objs.size=some (seqObj "list" us.toArray 0):=aU _ rfl;refine⟨U,fun b u e=>aF _ (g b u e),fun ix p1 Z=>?_⟩;obtain⟨M,I⟩:=sortedHeap_at (vs:=us) (out:=(ix.map fun i=>us.getD i Value.none).toArray) U;refine h _ h1.objs.size tk ix M Y (fun b u e=>?_) I p1 Z;have R:b<h1.objs.size:=aE (g b u e);rw[sortedHeap_old (aM R) (by rw[(L8)];exact Nat.lt_succ_of_lt R)];exact aF _ (g b u e)
def en(d:O.α){v:VL}{b:Bool}{Q:tE}(G:X5 prog w A.in1 E s v us)(C:V6 O prog w s.heap r ks us)(hsz:us.length<=1000)(I:Runs O prog w (if b then ks.reverse else ks))(hu:A.units+2+r<cLine) (h:∀(h':Heap) (D tk:Nat) (ix:List Nat) (e1:Nat),s.heap.objs.size<=D->Ext s.heap h'->h'.get? D=some (seqObj "list" (ix.map fun i=>us.getD i Value.none).toArray e1)->ix.Perm (List.range us.length)->(ix.map fun i=>ks.getD i d).Pairwise (fun x y=>if b=true then O.kle y x else O.kle x y)->Q (.ref D) {s with heap:=h',toks:=tk}):wpAny As A (call (.builtin "sorted") [v] [(Str.ofString "reverse",.bool b)]) Q E s:=by
 refine call_function_entry_kw kind_sorted plain_sorted entry_sorted (args_sorted_rev _ _) ?_;unfold Builtin.«sorted»;refine Wb (m:=checkCount "sorted" 1 1 _) (aA ?_);refine Wb (G _ fun h1 tk U g=>?_);refine Wb (wpAny_newList ?_ (by rw[sizeLine_eq];lia));obtain⟨M,R,fin⟩:=PN (T:=pure (.done (.ret .none))) (tk:=tk) (b:=b) d C hsz I U g h;refine Wb (ae (wpAny_call_entry_kw slot_list_sort ⟨_,M,rfl⟩ entry_list_sort ?_ (args_list_sort_rev _ _)));refine Si (s:={s with heap:=h1.push (seqObj "list" us.toArray 0),toks:=tk}) d C R g M hsz I (by rw[show A.in1.in1.units=A.units+2 from rfl];lia) fun ix Z Y=>⟨_,rfl,?_⟩;exact aA ⟨_,rfl,fin ix Z Y⟩
end
end GS
namespace L2
open PySem PySem.Spec PyProof.Rows
theorem Vals.pick{xs:List V}{us:List VL}(r:Vals xs us):∀ix:List Nat,(∀i∈ix,i<xs.length)->Vals (ix.map fun i=>xs.getD i .Bf) (ix.map fun i=>us.getD i Value.none)
 |[],_=>.nil
 |i::ix,h=>by
  refine .cons ?_ (Vals.pick r ix fun k g=>h k (aK _ g));have hi:=h i aO;obtain⟨u,M,I⟩:=r.get (i:=i) (x:=xs[i]) (by simp[hi]);show RelV (xs.getD i .Bf) (us.getD i Value.none);rw[(Ky),(Ky),M,List.getElem?_eq_getElem hi];exact I
def CW(Pv:Nat->List V->Hp->Prop)(n:Nat)(D:AD):Nat->Nat->List V->Hp->Prop:=fun i m ys H=>m=n-i/\i<=n/\H D=some (.lst ys)/\Pv i ys H
def DZ{Pv:Nat->List V->Hp->Prop}{n i:Nat}{D:AD}{ys:tR}{y:V}{H:Hp}(hi:i<n)(p:Pv (i+1) (ys++[y]) (upd H D (.lst (ys++[y])))):∃g,g<n-i/\CW Pv n D (i+1) g (ys++[y]) (upd H D (.lst (ys++[y]))) :=
 ⟨n-(i+1),by lia,rfl,hi,AN,p⟩
def XS{Pv:Nat->List V->Hp->Prop}{n i:Nat}{D:AD}{ys:tR}{H:Hp}(hi:i<n)(I:H D=some (.lst ys))(p:Pv (i+1) ys H):∃g,g<n-i/\CW Pv n D (i+1) g ys H:=⟨n-(i+1),by lia,rfl,hi,I,p⟩
def E2{J:It}{n:Nat}{D:AD}{H1:Hp}{fr:tW}{σ:St}{ix:Nat}{tif:TT}{Z:TE}{G:Hp->Prop}(Pv:Nat->List V->Hp->Prop)(h0:Pv 0 [] (upd H1 D (.lst []))) (U:∀i ys H,i<n->Pv i ys H->H D=some (.lst ys)->J.go i H/\ys.length<sizeLine/\∀x H',J.EU i H x H' ->tif ((carry fr σ).set ix (some x)) H' fun b R=>if b=true then Z ((carry fr σ).set ix (some x)) R fun y M=>M D=some (.lst ys)/\∃g,g<n-i/\CW Pv n D (i+1) g (ys++[y]) (upd M D (.lst (ys++[y]))) else ∃g,g<n-i/\CW Pv n D (i+1) g ys R) (I:∀ys H,Pv n ys H->H D=some (.lst ys)->J.stop n H/\G H):∃W:Nat->Nat->List V->Hp->Prop,(∃m,W 0 m [] (upd H1 D (.lst []))) /\∀i m ys H,W i m ys H->H D=some (.lst ys)/\((J.stop i H/\G H)\/(J.go i H/\ys.length<sizeLine/\∀x H',J.EU i H x H' ->tif ((carry fr σ).set ix (some x)) H' fun b R=>if b=true then Z ((carry fr σ).set ix (some x)) R fun y M=>M D=some (.lst ys)/\∃g,g<m/\W (i+1) g (ys++[y]) (upd M D (.lst (ys++[y]))) else ∃g,g<m/\W (i+1) g ys R)):=by
 refine⟨CW Pv n D,⟨n,by simp,Nat.zero_le _,AN,h0⟩,?_⟩;rintro i m ys H ⟨rfl,hi,Y,p⟩;refine⟨Y,?_⟩;by_cases T:i<n
 .exact .inr (U i ys H T p Y)
 .have e:i=n:=by lia
  subst e;exact .inl (I ys H p Y)
section
variable{X:Cx}
def Vr(hc:X.calm=true):FR X (.builtin "sum") (fun xs H Q=>∃(p:AD) (ns:tJ),xs=[.ref p]/\Aj X.K H p (ns.map V.int)/\Q (.int ns.sum) H):=by
 intro pins s σ H xs us Q I r h;obtain⟨p,ns,rfl,hq,q⟩:=h;obtain⟨u,rfl,Y⟩:=r.one;cases Y;obtain⟨g,U,Z,hz⟩:=I.list hq;have hi:=intsAre_of U;obtain⟨xs,T⟩:=hi.allInts.items;have M:s.heap.IsList p (intItems xs):=T ▸ Z.isList
 refine sum_intListG (I.ok.hd hc) M fun h' tk R hk=>?_;have e1:ns=xs.toList.map (·.1):=by
  rw[<-nums_intItems,<-T];exact(show numsOf g.toArray.toList=ns from hi.numsOf).symm
 have e2:preSum (numAt xs) xs.size=ns.sum:=by
  rw[preSum_eq,List.take_of_length_le BY,e1]
 rw[e2];exact⟨.int _,H,I.kept (t':=tk) hk,⟨R,rfl⟩,q⟩
end
section
variable{X:Cx}{scope:Scope}{cl:List (Str×AD)}{N:tK}{C:AD}{s₀:SD}{H₀:Hp}{fp:tT}
def MZ:PY Ch (fM X.K):=Ce
end
mutual
def Dt(l:AD)(H:Hp):PD->V->Prop
 |.none,v=>v=.Bf
 |.bool b,v=>v=.bl b
 |.int i,v=>v=.int i
 |.str x,v=>v=.str x
 |.tuple g,v=>∃(a:AD) (xs:List V),v=.ref a/\a≠l/\H a=some (.tup xs)/\Aa l H g xs
 |.list g,v=>∃(a:AD) (xs:List V),v=.ref a/\a≠l/\H a=some (.lst xs)/\Aa l H g xs
 |.dict _,_=>False
def Aa(l:AD)(H:Hp):List PD->List V->Prop
 |[],xs=>xs=[]
 |d::g,xs=>∃x r,xs=x::r/\Dt l H d x/\Aa l H g r
end
mutual
theorem Dt.but{l:AD}{H H':Hp}(e:SameBut l H H'):∀ {d:PD} {v:V},Dt l H d v->Dt l H' d v
 |.none,_,h=>by rw[Dt]at h ⊢;exact h
 |.bool _,_,h=>by rw[Dt]at h ⊢;exact h
 |.int _,_,h=>by rw[Dt]at h ⊢;exact h
 |.str _,_,h=>by rw[Dt]at h ⊢;exact h
 |.tuple _,_,h=>by
  rw[Dt]at h ⊢;obtain⟨a,xs,M,n,I,g⟩:=h;exact⟨a,xs,M,n,e _ _ n I,Aa.but e g⟩
 |.list _,_,h=>by
  rw[Dt]at h ⊢;obtain⟨a,xs,M,n,I,g⟩:=h;exact⟨a,xs,M,n,e _ _ n I,Aa.but e g⟩
 |.dict _,_,h=>by rw[Dt]at h;exact h.elim
theorem Aa.but{l:AD}{H H':Hp}(e:SameBut l H H'):∀ {ds:List PD} {xs:List V},Aa l H ds xs->Aa l H' ds xs
 |[],_,h=>by rw[Aa]at h ⊢;exact h
 |_::_,_,h=>by
  rw[Aa]at h ⊢;obtain⟨x,r,M,I,g⟩:=h;exact⟨x,r,M,Dt.but e I,Aa.but e g⟩
end
def Dt.same{l:AD}{H H':Hp}{d:PD}{v:V}(h:Dt l H d v)(e:AJ H H'):Dt l H' d v:=Dt.but (.of e) h
def Aa.same{l:AD}{H H':Hp}{d:sx}{v:tR}(h:Aa l H d v)(e:AJ H H'):Aa l H' d v:=Aa.but (.of e) h
mutual
theorem Dt.br{K:Fg}{l:AD}{H:Hp}:∀ {d:PD} {v:V},Dt l H d v->Br K H d v
 |.none,_,h=>by rw[Dt]at h;rw[Br];exact h
 |.bool _,_,h=>by rw[Dt]at h;rw[Br];exact h
 |.int _,_,h=>by rw[Dt]at h;rw[Br];exact h
 |.str _,_,h=>by rw[Dt]at h;rw[Br];exact h
 |.tuple _,_,h=>by
  rw[Dt]at h;rw[Br];obtain⟨a,xs,M,n,I,g⟩:=h;exact⟨a,xs,M,Ax.of I,Aa.br g⟩
 |.list _,_,h=>by
  rw[Dt]at h;rw[Br];obtain⟨a,xs,M,n,I,g⟩:=h;exact⟨a,xs,M,Aj.of I,Aa.br g⟩
 |.dict _,_,h=>by rw[Dt]at h;exact h.elim
theorem Aa.br{K:Fg}{l:AD}{H:Hp}:∀ {ds:List PD} {xs:List V},Aa l H ds xs->Et K H ds xs
 |[],_,h=>by rw[Aa]at h;rw[Et];exact h
 |_::_,_,h=>by
  rw[Aa]at h;rw[Et];obtain⟨x,r,M,I,g⟩:=h;exact⟨x,r,M,Dt.br I,Aa.br g⟩
end
theorem Aa.len{l:AD}{H:Hp}:∀ {ds:List PD} {xs:List V},Aa l H ds xs->xs.length=ds.length
 |[],_,h=>by rw[Aa]at h;rw[h];rfl
 |_::_,_,h=>by
  rw[Aa]at h;obtain⟨x,r,rfl,_,g⟩:=h;rw[(GU),(GU),Aa.len g]
def Aa.get{l:AD}{H:Hp}:∀ {ds:List PD} {xs:List V} {i:Nat} {v:V},Aa l H ds xs->xs[i]? = some v->∃d,ds[i]? = some d/\Dt l H d v
 |[],_,i,v,h,e=>by rw[Aa]at h;subst h;simp at e
 |d::ds,_,i,v,h,e=>by
  rw[Aa]at h;obtain⟨x,r,rfl,R,M⟩:=h;cases i with
  |zero=>simp at e;subst e;exact⟨d,rfl,R⟩
  |succ i=>
   obtain⟨c,I,g⟩:=M.get (i:=i) (v:=v) (by simpa using e);exact⟨c,by simpa using I,g⟩
def Aa.nil{l:AD}{H:Hp}:Aa l H [] []:=by rw[Aa]
def Aa.cons{l:AD}{H:Hp}{d:PD}{ds:sx}{x:V}{xs:tR}(h:Dt l H d x)(k:Aa l H ds xs):Aa l H (d::ds) (x::xs):=by
 rw[Aa];exact⟨x,xs,rfl,h,k⟩
def Aa.app{l:AD}{H:Hp}:∀ {ds es:List PD} {xs ys:List V},Aa l H ds xs->Aa l H es ys->Aa l H (ds++es) (xs++ys)
 |[],_,_,_,h,k=>by rw[Aa]at h;subst h;exact k
 |d::ds,es,_,ys,h,k=>by
  rw[Aa]at h;obtain⟨x,r,rfl,I,g⟩:=h;exact .cons I (g.app k)
def Dt.int{l:AD}{H:Hp}{i:Int}:Dt l H (.int i) (.int i):=by rw[Dt]
def Dt.bool{l:AD}{H:Hp}{b:Bool}:Dt l H (.bool b) (.bl b):=by rw[Dt]
def Dt.Bf{l:AD}{H:Hp}:Dt l H .none .Bf:=by rw[Dt]
def Dt.str{l:AD}{H:Hp}{x:Str}:Dt l H (.str x) (.str x):=by rw[Dt]
def Dt.tup{l a:AD}{H:Hp}{ds:sx}{xs:tR}(n:a≠l)(h:H a=some (.tup xs))(k:Aa l H ds xs):Dt l H (.tuple ds) (.ref a):=by rw[Dt];exact⟨a,xs,rfl,n,h,k⟩
def Dt.lst{l a:AD}{H:Hp}{ds:sx}{xs:tR}(n:a≠l)(h:H a=some (.lst xs))(k:Aa l H ds xs):Dt l H (.list ds) (.ref a):=by rw[Dt];exact⟨a,xs,rfl,n,h,k⟩
def Ok(n:Nat)(d:PD):Prop:=d.canLay0=true/\d.depth<=n
def II(n:Nat)(ds:sx):Prop:=PyData.canLayAll0 ds=true/\PyData.depthAll ds<=n
def Ok.shaped{n:Nat}{d:PD}(h:Ok n d)(hn:n<=64):SeqAt.shaped d=true:=by
 unfold SeqAt.shaped;rw[h.1,(JA)];exact bL (aT h.2 hn)
def II.nil{n:Nat}:II n []:=⟨by simp[PyData.canLayAll0],by simp[PyData.depthAll]⟩
def II.cons{n:Nat}{d:PD}{ds:sx}(h:Ok n d)(k:II n ds):II n (d::ds):=⟨by simp[PyData.canLayAll0,h.1,k.1],by simp only[PyData.depthAll];exact Nat.max_le.mpr ⟨h.2,k.2⟩⟩
theorem II.of{n:Nat}:∀ {ds:List PD},(∀d∈ds,Ok n d)->II n ds
 |[],_=>.nil
 |d::ds,h=>.cons (h d aO) (II.of fun e g=>h e (aK _ g))
def Ok.tup{n:Nat}{ds:sx}(h:II n ds):Ok (n+1) (.tuple ds):=⟨by simp only[PyData.canLay0];exact h.1,by simp only[PyData.depth];exact Nat.succ_le_succ h.2⟩
def Ok.lst{n:Nat}{ds:sx}(h:II n ds):Ok (n+1) (.list ds):=⟨by simp only[PyData.canLay0];exact h.1,by simp only[PyData.depth];exact Nat.succ_le_succ h.2⟩
def Ok.int{n:Nat}{i:Int}:Ok n (.int i):=⟨by simp[PyData.canLay0],by simp[PyData.depth]⟩
def Ok.bool{n:Nat}{b:Bool}:Ok n (.bool b):=⟨by simp[PyData.canLay0],by simp[PyData.depth]⟩
def Ok.Bf{n:Nat}:Ok n .none:=⟨by simp[PyData.canLay0],by simp[PyData.depth]⟩
def Ok.str{n:Nat}{x:Str}(h:PyData.strOk x=true):Ok n (.str x):=⟨by simp[PyData.canLay0,h],by simp[PyData.depth]⟩
def QS:PD->String
 |.none => "NoneType"
 |.bool _ => "bool"
 |.int _ => "int"
 |.str _ => "str"
 |.tuple _ => "tuple"
 |.list _ => "list"
 |.dict _ => "dict"
def Dt.ty{K:Fg}{l:AD}{H:Hp}:∀ {d:PD} {v:V},Dt l H d v->HZ K H v (.type (QS d))
 |.none,_,h=>by rw[Dt]at h;subst h;exact .Bf
 |.bool _,_,h=>by rw[Dt]at h;subst h;exact .bl _
 |.int _,_,h=>by rw[Dt]at h;subst h;exact .int _
 |.str _,_,h=>by rw[Dt]at h;subst h;exact .str _
 |.tuple _,_,h=>by rw[Dt]at h;obtain⟨a,xs,rfl,_,g,_⟩:=h;exact .tup g
 |.list _,_,h=>by rw[Dt]at h;obtain⟨a,xs,rfl,_,g,_⟩:=h;exact .lst g
 |.dict _,_,h=>by rw[Dt]at h;exact h.elim
def Dj:PD->Bool
 |.tuple _=>true
 |_=>false
def ED:PD->Bool
 |.list _=>true
 |_=>false
def Jb:PD->Bool
 |.int _=>true
 |.bool _=>true
 |_=>false
def Hn:PD->Bool
 |.bool _=>true
 |_=>false
def NG(K:Fg):∀d:PD,(∀kv,d≠.dict kv)->PySem.W.kitOne K (.type (QS d)) Ev=some (Dj d)
 |.none,_=>mj K
 |.bool _,_=>nQ K
 |.int _,_=>l7 K
 |.str _,_=>lQ K
 |.tuple _,_=>lY K
 |.list _,_=>nr K
 |.dict kv,h=>absurd rfl (h kv)
def P4(K:Fg):∀d:PD,(∀kv,d≠.dict kv)->PySem.W.kitOne K (.type (QS d)) (.type "list")=some (ED d)
 |.none,_=>ko K
 |.bool _,_=>mY K
 |.int _,_=>ly K
 |.str _,_=>k7 K
 |.tuple _,_=>kx K
 |.list _,_=>ky K
 |.dict kv,h=>absurd rfl (h kv)
def nB(K:Fg):PySem.W.kitOne K (.type "NoneType") (.type "bool")=some false:=by kernel_rfl
def nP(K:Fg):PySem.W.kitOne K (.type "str") (.type "bool")=some false:=by kernel_rfl
def kY(K:Fg):PySem.W.kitOne K Ev (.type "bool")=some false:=by kernel_rfl
def lL(K:Fg):PySem.W.kitOne K (.type "list") (.type "bool")=some false:=by kernel_rfl
def fV(K:Fg):∀d:PD,(∀kv,d≠.dict kv)->PySem.W.kitOne K (.type (QS d)) (.type "int")=some (Jb d)
 |.none,_=>lx K
 |.bool _,_=>lV K
 |.int _,_=>nD K
 |.str _,_=>ny K
 |.tuple _,_=>nI K
 |.list _,_=>nG K
 |.dict kv,h=>absurd rfl (h kv)
def cV(K:Fg):∀d:PD,(∀kv,d≠.dict kv)->PySem.W.kitOne K (.type (QS d)) (.type "bool")=some (Hn d)
 |.none,_=>nB K
 |.bool _,_=>lZ K
 |.int _,_=>mr K
 |.str _,_=>nP K
 |.tuple _,_=>kY K
 |.list _,_=>lL K
 |.dict kv,h=>absurd rfl (h kv)
def Dt.nodict{l:AD}{H:Hp}{d:PD}{v:V}(h:Dt l H d v):∀kv,d≠.dict kv:=fun kv z=>by subst z;rw[Dt]at h;exact h
end L2
namespace Tr
def VQ{t c:Tr}(h:c∈t.bs):c.deep<t.deep:=by
 induction t with
 |nil=>cases h
 |cons b r _ g=>
  rw[bs]at h;have hd:(cons b r).deep=max (b.deep+1) r.deep:=rfl;rcases aN.mp h with rfl|h
  .lia
  .have:=g h;lia
theorem Nl:∀t:Tr,0<t.ES
 |.nil=>Nat.one_pos
 |.cons b r=>by rw[ES];have:=Nl b;lia
end Tr
namespace L2
open PySem PySem.Spec PyProof.Rows
def leaf:PD->Prop
 |.none=>True
 |.bool _=>True
 |.int _=>True
 |.str x=>PyData.strOk x=true
 |_=>False
def Sm:Nat->PD->Prop
 |0,d=>leaf d
 |n+1,d=>leaf d\/∃g,(d=.tuple g\/d=.list g)/\g.length<=60/\∀e∈g,Sm n e
def leaf.ok{n:Nat}:∀ {d:PD},leaf d->Ok n d
 |.none,_=>.Bf
 |.bool _,_=>.bool
 |.int _,_=>.int
 |.str _,h=>.str h
def Sm.ok:∀ {n:Nat} {d:PD},Sm n d->Ok n d
 |0,_,h=>leaf.ok h
 |n+1,d,h=>by
  rcases h with h|⟨R,M,_,I⟩
  .exact h.ok
  .have:=II.of fun e g=>(I e g).ok;rcases M with rfl|rfl
   .exact .tup this
   .exact .lst this
def Sm.tup{n:Nat}{ds:sx}(h:ds.length<=60)(k:∀e∈ds,Sm n e):Sm (n+1) (.tuple ds):=.inr ⟨ds,.inl rfl,h,k⟩
mutual
def He:PD->Option Tr
 |.tuple g=>Qo g
 |_=>none
def Qo:List PD->Option Tr
 |[]=>some .nil
 |d::g=>(He d).bind fun b=>(Qo g).map fun r=>.cons b r
end
section
variable{X:Cx}
def oS:R2:=fun x y H Q=>∃a b xs ys,x=.ref a/\y=.ref b/\H a=some (.tup xs)/\H b=some (.tup ys)/\xs.length+ys.length<=sizeLine/\∀p H',AJ H H'->H' p=some (.tup (xs++ys))->Q (.ref p) H'
def i9:Cw X (binaryOp .Add) oS:=by
 intro pins s σ H x y v u Q I rx ry h;obtain⟨a,b,xs,ys,rfl,rfl,ha,hb,hz,q⟩:=h;cases rx;cases ry;obtain⟨Z,Y,p1,_⟩:=I.tuple (Ax.of (K:=X.K) ha);obtain⟨its2,U,p2,_⟩:=I.tuple (Ax.of (K:=X.K) hb);by_cases hv:Z=[]
 .have hx:=Y.Xx.mp hv;subst hv hx;obtain⟨⟨cls,dd,data,sl⟩,ho,hc,n,hd⟩:=id p1;obtain⟨⟨cls2,dd2,data2,T⟩,g,R,n2,M⟩:=id p2;simp only at hc hd R M;subst hc hd R M;exact concat_meets ⟨_,ho,rfl⟩ ⟨_,g,rfl⟩ noFill_tuple_add seq_tuple_add PySem.F.slot_tuple_add PySem.F.entry_tuple_add (PySem.F.args_tuple_add_2 _ _)
   (tuple_addW0 a b _ _ n n2 dd dd2 sl T BY) ⟨ho,g,⟨.ref b,H,I,rfl,q b H (.refl H) (by simpa using hb)⟩⟩
 .refine HT.jw p1 p2 hv (fun z=>?_) (fun z=>?_) (by rw[<-Y.length,<-U.length];exact hz)
  .have hy:=U.Xx.mp z;subst hy;exact⟨.ref a,H,I,rfl,q a H (.refl H) (by simpa using ha)⟩
  .refine⟨.ref s.heap.objs.size,_,I.laid (t':=s.toks) (o:=.tup (xs++ys)) (fun b ob q=>aF _ q) (aG _) ?_,rfl,q _ _ (AZ (I.Al.fresh (aG _)) _) AN⟩;exact⟨by rw[(De)];exact hz,_,Y.append U,IsTup.new _ _⟩
end
end L2
namespace TH
open PySem PySem.W PyProof.Rows PySem.SeqAt
def Oj{h h':Heap}(k:GS.Ext h h'){a:AD}{x:Array VL}(e:h.IsTuple a x):h'.IsTuple a x:=let⟨o,g,c,n,d⟩:=e;⟨o,k _ _ g,c,n,d⟩
section
open PySem.MeetsSeq PySem.MeetsSeq2 PySem.MeetsSeq3
variable{A:F0d}{E:tE}{s:SD}
def WI(h:Heap)(v:VL):Prop:=∃(a b:AD) (xs:Array VL) (g:List VL),v=.ref a/\h.IsTuple a ((.ref b::g).toArray)/\h.IsTuple b xs
theorem Sr{M:Model}:∀(us:List VL) {Q:List (Option VL)->SD->Prop},(∀v∈us,WI s.heap v)->(∀fs:List VL,fs.length=us.length->(∀v∈fs,Looks M s.heap (typeOf v) Ev)->Q (fs.map some) s)->wpAny M A (us.mapM firstOfTuple') Q E s
 |[],Q,_,h=>by
  rw[List.mapM_nil];exact aA (h [] rfl fun _ z=>by cases z)
 |v::us,Q,e,h=>by
  obtain⟨a,b,xs,I,rfl,h1,Z⟩:=e v aO;obtain⟨o,T,Y,n,hd⟩:=id h1;rw[List.mapM_cons];refine Wb ?_;rw[kas_first_eq];refine Wb (Looks.here (show Looks M s.heap (typeOf (.ref a)) o.cls from(Looks.ld T).andThen .now) ?_);rw[Y,if_neg (by first|decide|simp)];refine Wb (listItems_at T hd (aA ?_));refine Wb (Sr us (Q:=fun bs s'=>wpAny M A (pure ((.ref b::I).toArray[0]? :: bs)) Q E s') (fun v g=>e v (aK _ g)) fun fs U R=>aA ?_);have:=h (.ref b::fs) (by simp[U]) fun v g=>by
   rcases aN.mp g with rfl|g
   .exact Wt Z
   .exact R v g
  simpa using this
def Xz{M:Model}{us:sy}{Q:SortKind->SD->Prop}(e:∀v∈us,WI s.heap v)(h:Q (tuples' false) s):wpAny M A (keyKind' us.toArray) Q E s:=by
 rw[kat_kind_eq,List.mapM_toArray,map_eq_pure_bind];refine Wb (Wb (Sr us e fun fs R g=>aA ?_));rw[if_pos BY];refine Wb (bO ?_);have I:((fs.map some).toArray.filterMap id)=fs.toArray:=by simp
 rw[I];exact Wb (iw g (fun _=>aA h) (aA h))
end
end TH
namespace L2
open PySem PySem.Spec PyProof.Rows
abbrev PL(x y:Str)(M I:Pos)(tk:Nat)(g:Pos):Expr:=.Tuple [.Name x M,.Name y I] tk g
def i3{ix g:Nat}(h:ix≠g)(σ:St)(a b c d:Option V):((((σ.set ix a).set g b).set ix c).set g d)=(σ.set ix c).set g d:=by
 rw[List.set_comm _ _ h.symm,List.set_set,List.set_set]
def MP(K:Fg)(Z:TI)(fr:tW)(ix R:Nat)(tif:TT)(te:TE):TE:=fun σ H Q=>Z σ H fun J Y=>∀D,Y D=none->∃W:Nat->Nat->List V->Hp->Prop,(∃m,W 0 m [] (upd Y D (.lst []))) /\
 ∀i m ys H,W i m ys H->H D=some (.lst ys)/\((J.stop i H/\Q (.ref D) H)\/(J.go i H/\ys.length<sizeLine/\∀x H',J.EU i H x H'->∃a M I,x=.ref a/\Ax K H' a [M,I] /\
  tif (((carry fr σ).set ix (some M)).set R (some I)) H' fun b U=>if b=true then te (((carry fr σ).set ix (some M)).set R (some I)) U fun y T=>T D=some (.lst ys)/\∃g,g<m/\W (i+1) g (ys++[y]) (upd T D (.lst (ys++[y])))
   else ∃g,g<m/\W (i+1) g ys U))
section
variable{X:Cx}{elt iter:Expr}{x y:Str}{px py tp pos:Pos}{tk:Nat}{ifs:tL}{scope:Scope}{wi:TI}{fr:tW}{ix iy:Nat}{tif:TT}{te:TE}{N:tK}
def Pf{pins:CG}{σ:St}{M:Hp}{s2:SD}{Q:VK}{it:AD}{fp:tT}{tn:Nat->Heap->Prop}{J:It}{cl:List (Str×AD)}{E:tE}{RR:VL->AD->Result->SD->Prop} (S:Dy scope N x ix)(S2:Dy scope N y iy)(hxy:ix≠iy)(I:X.calm=true)(hfr:FQ N X.N scope X.env.scope fr 0=true)(hlen:fr.length=N.length) (hif:∀cl C s₀ H₀ fp,NO Ch ifs tif)(he:∀cl C s₀ H₀ fp,PE Ch elt te) (I2:Inv X pins σ M s2)(T:Turn X.prog X.w X.K (PL x y px py tk tp) J fp it tn)(st2:tn 0 s2.heap)(f2:∀b∈fp,Jn X pins M b) (c1:∀x c,cl.lookup x=some c->X.env.cells.lookup x=some c)(c2:∀x∈scope.names,x.2=NameKind.free->∃c,cl.lookup x.1=some c) (W:∀D,M D=none->∃W:Nat->Nat->List V->Hp->Prop,(∃m,W 0 m [] (upd M D (.lst []))) /\∀i m ys H,W i m ys H->H D=some (.lst ys)/\((J.stop i H/\Q (.ref D) H)\/(J.go i H/\ys.length<sizeLine/\∀x H',J.EU i H x H'->∃a Y U,x=.ref a/\Ax X.K H' a [Y,U] /\tif (((carry fr σ).set ix (some Y)).set iy (some U)) H' fun b M=>if b=true then te (((carry fr σ).set ix (some Y)).set iy (some U)) M fun y H3=>H3 D=some (.lst ys)/\∃m',m'<m/\W (i+1) m' (ys++[y]) (upd H3 D (.lst (ys++[y]))) else ∃m',m'<m/\W (i+1) m' ys M))) (fin:Fk):wpAny By X.A (newList []) (fun acc s₃=>wpAny By X.A (newFunctionEnv scope X.env.globals cl [] X.env.qual none .none (some X.env)) (fun R s₄ => codeAny By X.A (.compStart (.ListComp elt [⟨PL x y px py tk tp,iter,ifs,0⟩] scope pos) 0 (.ref it) acc {R with scope:=relabel scope X.env}) (RR acc R.locals) s₄) E s₃) E s2:=by
 have hxv:(relabel scope X.env).names.lookup x=some .local:=lookup_relabel_local S.loc;have hyv:(relabel scope X.env).names.lookup y=some .local:=lookup_relabel_local S2.loc;refine PR (g:=fD X.K 2 (Qk (Ea ix) (Qk (Ea iy) eh))) S I (fun Z=>∀v w,(Z.set ix v).set iy w=((carry fr σ).set ix v).set iy w) Da (fun C=>Fj (X:=A1 X scope cl N C s2 M fp) I (BN (Az (X:=A1 X scope cl N C s2 M fp) S.nd S.at_ (.inl hxv) (.inr hxv)) (BN (Az (X:=A1 X scope cl N C s2 M fp) S2.nd S2.at_ (.inl hyv) (.inr hyv)) EN))) hfr hlen hif he I2 T st2 f2 c1 c2 (fun D hD=>?_) fin;obtain⟨W,w0,st⟩:=W D hD;refine⟨W,w0,fun i m ys H w=>?_⟩;obtain⟨h1,h2|⟨h2,h3,h4⟩⟩:=st i m ys H w
 .exact⟨h1,.inl h2⟩
 .refine⟨h1,.inr ⟨h2,h3,fun x H' hy Z hr=>?_⟩⟩;obtain⟨a,Y,U,rfl,hs,q⟩:=h4 x H' hy;rw[<-hr]at q;exact⟨a,[Y,U],rfl,hs,rfl,Y,[U],rfl,U,[],rfl,rfl,fun v w=>by rw[i3 hxy,hr],q⟩
def fP(S:Dy scope N x ix)(S2:Dy scope N y iy)(hxy:ix≠iy)(U:X.calm=true)(hfr:FQ N X.N scope X.env.scope fr 0=true)(Y:fr.length=N.length)(M:∀y∈scope.names,y.2=.free->X.env.scope.names.lookup y.1=some .cell\/X.env.scope.names.lookup y.1=some .free) (hi:PI X (PL x y px py tk tp) iter wi)(hif:∀cl C s₀ H₀ fp,NO Ch ifs tif)(he:∀cl C s₀ H₀ fp,PE Ch elt te) (hs:∀x,foldedSetIterable iter X.env x=pure x:=by intro _;rfl):PE X (.ListComp elt [⟨PL x y px py tk tp,iter,ifs,0⟩] scope pos) (MP X.K wi fr ix iy tif te):=by
 intro pins s σ H Q I hw;obtain⟨cl,R,c1,_,c2⟩:=Iq (env:=X.env) scope.names [] (fun y hy hf=>I.ok.has y.1 (M y hy hf)) (fun y c z=>by cases z);have g:closureFor scope X.env=pure cl:=by
  have e:closureFor scope X.env=((forIn scope.names [] (fun(x:Str×NameKind) (r:List (Str×AD))=>do if(x.2==NameKind.free)=true then do let a <-cellOf X.env x.1;pure (ForInStep.yield ((x.1,a)::r)) else pure (ForInStep.yield r)):Sem (List (Str×AD)))>>=fun cs=>pure cs):=rfl;rw[e,R]
  rfl
 rw[eval_ListComp];refine wpAny_comprehension_free (use:=none) rfl hs g S.kind S.names (A9 (hi pins s σ H _ I hw) fun v s1 h1=>A9 h1 fun itv s2 h2=>?_);obtain⟨it,fp,tn,J,H2,e,I2,T,Z,f2,W⟩:=h2;subst e;refine Pf (RR:=fun acc C=>compPost By X.A X.xe none (EP X pins σ Q) acc C) S S2 hxy U hfr Y hif he I2 T Z f2 c1 c2 W ?_;intro D C s' H' m hn q hI _ _ _ _;exact⟨m,hn,fun h' hs'=>⟨.ref D,H',hI h' hs',rfl,q⟩⟩
def Wz{i : Nat}{z : Str}{pz spos : Pos}(hN : X.N.Nodup)(hy : X.N[i]? = some z)(hly : X.env.scope.names.lookup z = some .local)(S : Dy scope N x ix)(S2 : Dy scope N y iy)(hxy : ix≠iy)(hcalm : X.calm = true)(hfr : FQ N X.N scope X.env.scope fr 0 = true)(hlen : fr.length = N.length) (hfree : ∀ y∈scope.names,y.2 = .free->X.env.scope.names.lookup y.1 = some .cell\/X.env.scope.names.lookup y.1 = some .free) (hi : PI X (PL x y px py tk tp) iter wi)(hif : ∀ cl C s₀ H₀ fp,NO Ch ifs tif)(he : ∀ cl C s₀ H₀ fp,PE Ch elt te) (hsw : swapsWith (.ListComp elt [⟨PL x y px py tk tp,iter,ifs,0⟩] scope pos) (some (.Name z pz)) spos.line X.env = pure true:=by rfl) (hs : ∀ x,foldedSetIterable iter X.env x = pure x:=by intro _; rfl):PS X (.Assign [.Name z pz] (.ListComp elt [⟨PL x y px py tk tp,iter,ifs,0⟩] scope pos) spos) (WS (MP X.K wi fr ix iy tif te) (Ea i)):=by
  intro pins s σ H D I hw
  obtain ⟨cl,hclos,c1,_,c2⟩:=Iq (env:=X.env) scope.names [] (fun y hy hf => I.ok.has y.1 (hfree y hy hf)) (fun y c z => by cases z)
  have hclos' : closureFor scope X.env = pure cl:=by
    have e : closureFor scope X.env = ((forIn scope.names [] (fun (x : Str×NameKind) (r : List (Str×AD)) => do if (x.2 == NameKind.free) = true then do let a <- cellOf X.env x.1; pure (ForInStep.yield ((x.1,a) :: r)) else pure (ForInStep.yield r)):Sem (List (Str×AD))) >>= fun cs => pure cs):=rfl
    rw [e,hclos]
    rfl
  rw [exec_Assign_Name_used _ _ _ _ hsw]
  refine Wb (wpAny_standAt (Wb ?_))
  show wpAny _ X.A (do let _ <- comprehension (.ListComp elt [⟨PL x y px py tk tp,iter,ifs,0⟩] scope pos) scope X.env _ (newList []) false (eval iter X.env) (some (assign (.Name z pz) X.env))) _ _ s
  refine Wb (aY (wpAny_comprehension_free (use:=some (assign (.Name z pz) X.env)) (Q:=fun _ s' => SP X pins D .next s') rfl hs hclos' S.kind S.names
    (A9 (hi pins s σ H _ I hw) fun v s1 h1 => A9 h1 fun itv s2 h2 => ?_)) (fun _ s' hq => aA (aA hq)) fun _ _ e => e)
  obtain ⟨it,fp,tn,J,H2,e,I2,T,st2,f2,W⟩:=h2
  subst e
  refine Pf (Q:=fun x H1 => Ea i x σ H1 D.nx) (RR:=fun acc C => compPost By X.A X.xe (some (assign (.Name z pz) X.env)) (fun _ s' => SP X pins D .next s') acc C) S S2 hxy hcalm hfr hlen hif he I2 T st2 f2 c1 c2 W ?_
  intro D' C s' H' m hn q hI hCD hold hfreeC hsz
  have I5 : Inv X pins σ H' s':=hI s'.heap (Heap.SameBut.refl ..)
  refine wpAny_assign_Name (TN I5 hN hy (.inl hly) (v:=.ref D') rfl (fun s'' I6 ⟨a,hsb,ha⟩ => ?_) (.inr hly))
  have hL : C≠X.env.locals:=fun z => by
    obtain ⟨_,⟨o,_,_,e,_⟩,_⟩:=I2.loc
    exact hold _ _ e z.symm
  have hcl : ∀ z c,X.env.cells.lookup z = some c->c≠C:=fun z c e => by
    obtain ⟨_,o,ho,_⟩:=I2.cell z c e
    exact hold _ _ ho
  have hCa : C≠a:=by
    rcases ha with z | z
    . rw [z]; exact hL
    . exact Ne.symm (hcl _ _ z)
  refine ⟨m,hn.sameBut hsb hCa,fun h' hs' => ⟨_,H',I6.turned (t':=s''.toks) (it:=C) (fun b o hb e => (hs'.2 b hb).trans e) hfreeC hL (.inr (aT I2.sz hsz)) hcl fun p hp => ?_,q⟩⟩
  obtain ⟨e,_⟩:=I2.pin p hp
  exact hold _ _ e
end
section
variable{X:Cx}{elt iter:Expr}{x y:Str}{px py tp pos:Pos}{tk:Nat}{ifs:tL}{scope:Scope}{wi:TI}{tif:TT}{te:TE}
def Lk(N:tK)(ix g:Nat)(fr:tW)(hi:PI X (PL x y px py tk tp) iter wi)(M:∀cl C s₀ H₀ fp,NO Ch ifs tif)(U:∀cl C s₀ H₀ fp,PE Ch elt te) (h1:Bh scope N x ix=true:=by decide +kernel)(R:Bh scope N y g=true:=by decide +kernel)(I:ix≠g:=by decide)(h2:X.calm=true:=by rfl)(h3:FQ N X.N scope X.env.scope fr 0=true:=by rfl)(Z:fr.length=N.length:=by rfl)(Y:freeOk X.env.scope scope.names=true:=by rfl) (T:∀x,foldedSetIterable iter X.env x=pure x:=by intro _;rfl):PE X Ft (MP X.K wi fr ix g tif te) :=
 fP (GN h1) (GN R) I h2 h3 Z (Ng Y) hi M U T
def Ue{i:Nat}{z:Str}{Z g:Pos}(N:tK)(ix I:Nat)(fr:tW)(hN:X.N.Nodup)(hy:X.N[i]? = some z)(T:X.env.scope.names.lookup z=some .local) (hi:PI X (PL x y px py tk tp) iter wi)(U:∀cl C s₀ H₀ fp,NO Ch ifs tif)(he:∀cl C s₀ H₀ fp,PE Ch elt te) (h1:Bh scope N x ix=true:=by decide +kernel)(Y:Bh scope N y I=true:=by decide +kernel)(M:ix≠I:=by decide)(h2:X.calm=true:=by rfl)(h3:FQ N X.N scope X.env.scope fr 0=true:=by rfl)(h4:fr.length=N.length:=by rfl)(h5:freeOk X.env.scope scope.names=true:=by rfl) (R:swapsWith Ft (some (.Name z Z)) g.line X.env=pure true:=by rfl) (hs:∀x,foldedSetIterable iter X.env x=pure x:=by intro _;rfl):PS X (.Assign [.Name z Z] Ft g) (WS (MP X.K wi fr ix I tif te) (Ea i)) :=
 Wz hN hy T (GN h1) (GN Y) M h2 h3 h4 (Ng h5) hi U he R hs
end
def QR{K:Fg}{J:It}{n:Nat}{D:AD}{H1:Hp}{fr:tW}{σ:St}{ix Y:Nat}{tif:TT}{te:TE}{G:Hp->Prop}(Pv:Nat->List V->Hp->Prop)(h0:Pv 0 [] (upd H1 D (.lst []))) (hgo:∀i ys H,i<n->Pv i ys H->H D=some (.lst ys)->J.go i H/\ys.length<sizeLine/\∀x H',J.EU i H x H'->∃a M I,x=.ref a/\Ax K H' a [M,I] /\tif (((carry fr σ).set ix (some M)).set Y (some I)) H' fun b U=>if b=true then te (((carry fr σ).set ix (some M)).set Y (some I)) U fun y T=>T D=some (.lst ys)/\∃g,g<n-i/\CW Pv n D (i+1) g (ys++[y]) (upd T D (.lst (ys++[y]))) else ∃g,g<n-i/\CW Pv n D (i+1) g ys U) (R:∀ys H,Pv n ys H->H D=some (.lst ys)->J.stop n H/\G H):∃W:Nat->Nat->List V->Hp->Prop,(∃m,W 0 m [] (upd H1 D (.lst []))) /\∀i m ys H,W i m ys H->H D=some (.lst ys)/\((J.stop i H/\G H)\/(J.go i H/\ys.length<sizeLine/\∀x H',J.EU i H x H'->∃a M I,x=.ref a/\Ax K H' a [M,I] /\tif (((carry fr σ).set ix (some M)).set Y (some I)) H' fun b U=>if b=true then te (((carry fr σ).set ix (some M)).set Y (some I)) U fun y T=>T D=some (.lst ys)/\∃g,g<m/\W (i+1) g (ys++[y]) (upd T D (.lst (ys++[y]))) else ∃g,g<m/\W (i+1) g ys U)):=by
 refine⟨CW Pv n D,⟨n,by simp,Nat.zero_le _,AN,h0⟩,?_⟩;rintro i m ys H ⟨rfl,hi,hH,p⟩;refine⟨hH,?_⟩;by_cases Z:i<n
 .exact .inr (hgo i ys H Z p hH)
 .have:i=n:=by lia
  subst this;exact .inl (R ys H p hH)
end L2
namespace ZT
open PySem PyProof.Rows
structure Apart(z TI TO i1 i2:Addr)(f1 f2:List Addr):Prop where
 a1:TI≠z/\TI≠TO/\TI≠i1/\TI≠i2
 a2:TO≠z/\TO≠i1/\TO≠i2
 a3:i1≠z/\i2≠z/\i1≠i2
 b1:z ∉ f1/\TO ∉ f1/\i2 ∉ f1
 b2:z ∉ f2/\TO ∉ f2/\i1 ∉ f2
section
variable{prog:F0b}{w:F0c}{A:F0d}{E:tE}{s:SD}{z TI TO i1 i2:AD}{f1 f2:tT}{n1 n2 k:Nat}{P1 P2:Nat->VL->Prop}{S1 S2:Nat->Heap->Prop}{a b:VL}
def EO{f:tT}{x:AD}{h h':Heap}(g:x ∉ f)(e:Heap.SameBut x h h'):∀c∈f,∀o,h.get? c=some o->h'.get? c=some o:=fun c I o q=>(e.2 c fun y=>g (y ▸ I)).trans q
def item{Q:tE}(D1:Draws prog w A i1 f1 n1 P1 S1)(Z:Draws prog w A i2 f2 n2 P2 S2)(ap:Apart z TI TO i1 i2 f1 f2)(hz:IsZip s.heap z TI TO .none)(hI:IsPair s.heap TI (.ref i1) (.ref i2))(hO:IsPair s.heap TO a b) (t1:S1 k s.heap)(t2:S2 k s.heap)(l1:k<n1)(l2:k<n2) (q:∀x y h' tk,P1 k x->P2 k y->IsZip h' z TI TO (rawInt s.heap.objs.size)->IsPair h' TO x y->S1 (k+1) h'->S2 (k+1) h'->IsPair h' s.heap.objs.size x y->h'.objs.size=s.heap.objs.size+1 ->(∀c o,c≠z->c≠TO->c≠i1->c≠i2->s.heap.get? c=some o->h'.get? c=some o)->Q (.ref s.heap.objs.size) {s with heap:=h',toks:=tk}):wpAny As A (Builtin.«zip.__next__» ⟨[.ref z],[]⟩) (fun fin s'=>∃v,fin=.done (.ret v)/\Q v s') E s:=by
 obtain⟨⟨c1,c2,c3,c4⟩,⟨c5,c6,c7⟩,⟨c8,c9,c10⟩,⟨d1,d2,d3⟩,d4,d5,d6⟩:=ap;show wpAny _ _ (field (.ref z) 2>>=_) _ _ _;refine Wb (aq hz rfl (x:=.bool false) rfl ?_);show wpAny _ _ (field (.ref z) 3>>=_) _ _ _;refine Wb (aq hz rfl (x:=.ref TI) rfl (Wb (bV hI rfl ?_)));show wpAny _ _ (Builtin.SmallTypes.ownedTupleIsFree (.ref z)>>=_) _ _ _;unfold Builtin.SmallTypes.ownedTupleIsFree;refine Wb (Wb (aq hz rfl (x:=.none) rfl (aA ?_)));simp only[if_true];refine Wb (bO (Wb (aq hz rfl (x:=.ref TO) rfl (Wb (ao hz BY fun g1 z1 U=>Wb ?_)))));have U:Heap.SameBut z s.heap g1:=U;have z1:IsZip g1 z TI TO .ellipsis:=z1;simp only[List.zipIdx_cons,List.zipIdx_nil,List.forIn_cons,List.forIn_nil];refine Wb (Wb (wpAny_onRaise ?_));show wpAny _ _ (Builtin.SmallTypes.nextOf (.ref i1)>>=_) _ _ _;refine Wb (D1.item k _ _ _ l1 (D1.frame _ _ _ t1 (EO d1 U)) fun x g2 tk2 p1 u1 T=>aA ?_);have o2:IsPair g2 TO a b:=(T.2 _ c6).trans ((U.2 _ c5).trans hO);refine Wb (bV o2 rfl (Wb (wpAny_updateSeq_pair o2 fun g3 o3 R=>Wb (wpAny_letGo (aA ?_)))));have o3:IsPair g3 TO x b:=o3;have t2':S2 k g3:=Z.frame _ _ _ (Z.frame _ _ _ (Z.frame _ _ _ t2 (EO d4 U)) (EO d6 T)) (EO d5 R);refine Wb (Wb (wpAny_onRaise ?_));show wpAny _ _ (Builtin.SmallTypes.nextOf (.ref i2)>>=_) _ _ _;refine Wb (Z.item k _ _ _ l2 t2' fun y g4 tk4 p2 u2 M=>aA ?_);have R:Heap.SameBut TO g2 g3:=R;have M:Heap.SameBut i2 g3 g4:=M;have o4:IsPair g4 TO x b:=(M.2 _ c7).trans o3;refine Wb (bV o4 rfl (Wb (wpAny_updateSeq_pair o4 fun g o5 I=>Wb (wpAny_letGo (aA (aA ?_))))));have I:Heap.SameBut TO g4 g:=I;have o5:IsPair g TO x y:=o5;refine Wb (bV o5 rfl (Wb (wpAny_newTuple ?_)));have T:Heap.SameBut i1 g1 g2:=T;have sz:g.objs.size=s.heap.objs.size:=by rw[I.1,M.1,R.1,T.1,U.1]
 have z5:IsZip g z TI TO .ellipsis:=(I.2 _ c5.symm).trans ((M.2 _ c9.symm).trans ((R.2 _ c5.symm).trans ((T.2 _ c8.symm).trans z1)));have kp:∀c o,c≠z->c≠TO->c≠i1->c≠i2->s.heap.get? c=some o->g.get? c=some o:=fun c o Y e2 e3 e4 e=>(I.2 _ e2).trans ((M.2 _ e4).trans ((R.2 _ e2).trans ((T.2 _ e3).trans ((U.2 _ Y).trans e))));have v1:S1 (k+1) g:=D1.frame _ _ _ (D1.frame _ _ _ (D1.frame _ _ _ u1 (EO d2 R)) (EO d3 M)) (EO d2 I);have v2:S2 (k+1) g:=Z.frame _ _ _ u2 (EO d5 I);show wpAny _ _ (Builtin.SmallTypes.ownedTupleHandOut (.ref z) (.ref g.objs.size)>>=_) _ _ _;unfold Builtin.SmallTypes.ownedTupleHandOut;have z6:IsZip (g.push { cls:=.type "tuple",data:=.seq #[x,y]}) z TI TO .ellipsis:=aF _ z5;refine Wb (Wb (ao z6 BY fun g7 z7 m7=>ao (show IsZip g7 z TI TO (rawInt g.objs.size) from z7) BY fun g8 z8 m8=>?_));have z8:IsZip g8 z TI TO (rawInt g.objs.size):=z8;have up:∀c o,c≠z->(g.push { cls:=.type "tuple",data:=.seq #[x,y]}).get? c=some o->g8.get? c=some o:=fun c o Y e=>(m8.2 _ Y).trans ((m7.2 _ Y).trans e);have zl:z<g.objs.size:=aE z5;refine aA ⟨_,rfl,?_⟩;show Q (.ref g.objs.size) _;have fin:=q x y g8 tk4 p1 p2 (by rw[<-sz];exact z8) (up _ _ c5 (aF _ o5)) (D1.frame _ _ _ v1 fun c hc o e=>up c o (fun y=>d1 (y ▸ hc)) (aF _ e)) (Z.frame _ _ _ v2 fun c hc o e=>up c o (fun y=>d4 (y ▸ hc)) (aF _ e))
  (by rw[<-sz];exact up _ _ (ax zl) (aU _ rfl)) (by rw[<-sz,m8.1,m7.1,(L8)]) fun c o Y e2 e3 e4 e=>up c o Y (aF _ (kp c o Y e2 e3 e4 e))
 rw[sz];exact fin
def ended{Q:Fin->SD->Prop}(D1:Draws prog w A i1 f1 n1 P1 S1)(D2:Draws prog w A i2 f2 n2 P2 S2)(ap:Apart z TI TO i1 i2 f1 f2)(hz:IsZip s.heap z TI TO .none)(hI:IsPair s.heap TI (.ref i1) (.ref i2))(hO:IsPair s.heap TO a b) (t1:S1 k s.heap)(t2:S2 k s.heap)(he:k=n1\/(k<n1/\k=n2)) (q:∀h' e tk,(∀c o,c≠z->c≠TO->c≠i1->c≠i2->s.heap.get? c=some o->h'.get? c=some o)->(∃o,h'.get? e=some o/\o.cls=.type "StopIteration")->E (.ref e) {s with heap:=h',toks:=tk}):wpAny As A (Builtin.«zip.__next__» ⟨[.ref z],[]⟩) Q E s:=by
 obtain⟨⟨c1,c2,c3,c4⟩,⟨c5,c6,c7⟩,⟨c8,c9,c10⟩,⟨d1,d2,d3⟩,d4,d5,d6⟩:=ap;show wpAny _ _ (field (.ref z) 2>>=_) _ _ _;refine Wb (aq hz rfl (x:=.bool false) rfl ?_);show wpAny _ _ (field (.ref z) 3>>=_) _ _ _;refine Wb (aq hz rfl (x:=.ref TI) rfl (Wb (bV hI rfl ?_)));show wpAny _ _ (Builtin.SmallTypes.ownedTupleIsFree (.ref z)>>=_) _ _ _;unfold Builtin.SmallTypes.ownedTupleIsFree;refine Wb (Wb (aq hz rfl (x:=.none) rfl (aA ?_)));simp only[if_true];refine Wb (bO (Wb (aq hz rfl (x:=.ref TO) rfl (Wb (ao hz BY fun g1 z1 T=>Wb ?_)))));have T:Heap.SameBut z s.heap g1:=T;have z1:IsZip g1 z TI TO .ellipsis:=z1;simp only[List.zipIdx_cons,List.zipIdx_nil,List.forIn_cons,List.forIn_nil];refine Wb (Wb (wpAny_onRaise ?_));show wpAny _ _ (Builtin.SmallTypes.nextOf (.ref i1)>>=_) _ _ _;have R:=D1.frame _ _ _ t1 (EO d1 T);rcases he with he|⟨he1,he2⟩
 .rw[he]at R;refine Wb (D1.done _ _ _ R fun Z e I g=>?_);obtain⟨o,g,Y⟩:=g;have z2:IsZip Z z TI TO .ellipsis:=I _ _ c8.symm z1;have ez:e≠z:=fun y=>by subst y;rw[z2]at g;cases g;simp at Y
  exact ao z2 BY fun g3 _ M=>q g3 e _ (fun c o e1 e2 e3 e4 y=>(M.2 _ e1).trans (I _ _ e3 ((T.2 _ e1).trans y))) ⟨o,(M.2 _ ez).trans g,Y⟩
 .refine Wb (D1.item k _ _ _ he1 R fun x Z tk2 p1 u1 I=>aA ?_);have o2:IsPair Z TO a b:=(I.2 _ c6).trans ((T.2 _ c5).trans hO);refine Wb (bV o2 rfl (Wb (wpAny_updateSeq_pair o2 fun g3 o3 M=>Wb (wpAny_letGo (aA ?_)))));have U:S2 k g3:=D2.frame _ _ _ (D2.frame _ _ _ (D2.frame _ _ _ t2 (EO d4 T)) (EO d6 I)) (EO d5 M);rw[he2]at U;have I:Heap.SameBut i1 g1 Z:=I;have M:Heap.SameBut TO Z g3:=M;refine Wb (Wb (wpAny_onRaise ?_));show wpAny _ _ (Builtin.SmallTypes.nextOf (.ref i2)>>=_) _ _ _;refine Wb (D2.done _ _ _ U fun g4 e m4 g=>?_);obtain⟨o,g,Y⟩:=g;have z4:IsZip g4 z TI TO .ellipsis:=m4 _ _ c9.symm ((M.2 _ c5.symm).trans ((I.2 _ c8.symm).trans z1));have ez:e≠z:=fun y=>by subst y;rw[z4]at g;cases g;simp at Y
  exact ao z4 BY fun g5 _ m5=>q g5 e _ (fun c o e1 e2 e3 e4 y=>(m5.2 _ e1).trans (m4 _ _ e4 ((M.2 _ e2).trans ((I.2 _ e3).trans ((T.2 _ e1).trans y))))) ⟨o,(m5.2 _ ez).trans g,Y⟩
def next_item{Q:Option VL->SD->Prop}(D1:Draws prog w A.in1 i1 f1 n1 P1 S1)(D2:Draws prog w A.in1 i2 f2 n2 P2 S2)(ap:Apart z TI TO i1 i2 f1 f2)(hz:IsZip s.heap z TI TO .none)(hI:IsPair s.heap TI (.ref i1) (.ref i2))(hO:IsPair s.heap TO a b) (t1:S1 k s.heap)(I:S2 k s.heap)(l1:k<n1)(l2:k<n2) (q:∀x y h' tk,P1 k x->P2 k y->IsZip h' z TI TO (rawInt s.heap.objs.size)->IsPair h' TO x y->S1 (k+1) h'->S2 (k+1) h'->IsPair h' s.heap.objs.size x y->h'.objs.size=s.heap.objs.size+1 ->(∀c o,c≠z->c≠TO->c≠i1->c≠i2->s.heap.get? c=some o->h'.get? c=some o)->Q (some (.ref s.heap.objs.size)) {s with heap:=h',toks:=tk}):wpAny As A (pyNext (.ref z)) Q E s:=by
 have g:s.TypeIs (.ref z) "zip" := ⟨_,hz,rfl⟩;unfold pyNext;exact Wb (bh (aX (name:=Str.ofString "__next__") g F.slot_zip_next
  (aa F.slot_zip_next g F.entry_zip_next (item D1 D2 ap hz hI hO t1 I l1 l2 fun x y h' tk r1 r2 r3 Z Y U T R M=>aA (q x y h' tk r1 r2 r3 Z Y U T R M)) (F.args_zip_next_1 _))))
def next_end{Q:Option VL->SD->Prop}(D1:Draws prog w A.in1 i1 f1 n1 P1 S1)(D2:Draws prog w A.in1 i2 f2 n2 P2 S2)(ap:Apart z TI TO i1 i2 f1 f2)(hz:IsZip s.heap z TI TO .none)(Z:IsPair s.heap TI (.ref i1) (.ref i2))(Y:IsPair s.heap TO a b) (t1:S1 k s.heap)(M:S2 k s.heap)(R:k=n1\/(k<n1/\k=n2)) (q:∀h' tk,(∀c o,c≠z->c≠TO->c≠i1->c≠i2->s.heap.get? c=some o->h'.get? c=some o)->Q none {s with heap:=h',toks:=tk}):wpAny As A (pyNext (.ref z)) Q E s:=by
 have I:s.TypeIs (.ref z) "zip" := ⟨_,hz,rfl⟩;unfold pyNext;refine Wb (bh (aX (name:=Str.ofString "__next__") I F.slot_zip_next
  (aa F.slot_zip_next I F.entry_zip_next (ended D1 D2 ap hz Z Y t1 M R fun h' e tk kp g=>?_) (F.args_zip_next_1 _))))
 obtain⟨o,g,U⟩:=g;exact Wb (wpAny_isInstance (T := "StopIteration") (b:=true) ⟨o,g,U⟩ isSubtype_stop (aA (q _ _ kp)))
end
end ZT
namespace ZT
open PySem PyProof.Rows
def Sq(b:Bool)(h:Heap)(l:AD)(xs:sy):Prop:=if b then h.IsTuple l xs.toArray else h.IsList l xs.toArray
def FK(b:Bool)(l:AD):Obj:=if b then { cls:=.type "tuple_iterator",data:=.fields #[.ref l,.int 0 0]} else { cls:=.type "list_iterator",data:=.fields #[.ref l,.int 0 0]}
def Qp(b:Bool)(h:Heap)(it l:AD)(k:Nat):Prop:=if b then h.IsTupleIter it l k else h.IsListIter it l k
def Sq.push{b:Bool}{h:Heap}{l:AD}{xs:sy}(o:Obj)(x:Sq b h l xs):Sq b (h.push o) l xs:=by
 cases b with
 |true=>obtain⟨u,e,r⟩:=(show h.IsTuple l xs.toArray from x);exact(show(h.push o).IsTuple l xs.toArray from⟨u,Heap.get?_push_of_some _ e,r⟩)
 |false=>obtain⟨u,e,r⟩:=(show h.IsList l xs.toArray from x);exact(show(h.push o).IsList l xs.toArray from⟨u,Heap.get?_push_of_some _ e,r⟩)
section
variable{prog:F0b}{w:F0c}{A:F0d}{E:tE}{s:SD}
def XJ{b:Bool}{l:AD}{xs:sy}{Q:tE}(x:Sq b s.heap l xs)(h:Q (.ref s.heap.objs.size) {s with heap:=s.heap.push (FK b l)}):wpAny As A (pyIter (.ref l)) Q E s:=by
 cases b with
 |true=>exact wpAny_pyIter_tuple x h
 |false=>exact wpAny_pyIter_list x h
def M4(I:A.handled=none)(b:Bool)(it l:AD)(xs:sy)(g:l≠it):Draws prog w A it [it,l] xs.length (fun i v=>xs[i]? = some v) (fun i h=>Qp b h it l i/\Sq b h l xs):=by
 cases b with
 |true=>exact ET.draws I it l xs g
 |false=>
  have:=Draws.list (prog:=prog) (w:=w) I it l g xs.toArray
  simpa[Qp,Sq]using this
def zh(b1 b2:Bool)(h:Heap)(g I:AD):Heap :=
 ((((h.push (FK b1 g)).push (FK b2 I)).push { cls:=.type "tuple",data:=.seq #[.ref h.objs.size,.ref (h.push (FK b1 g)).objs.size]}).push { cls:=.type "tuple",data:=.seq #[.none,.none]}).push
  { cls:=.type "zip",data:=.fields #[.none,.bool false,.bool false,.ref ((h.push (FK b1 g)).push (FK b2 I)).objs.size,.ref (((h.push (FK b1 g)).push (FK b2 I)).push { cls:=.type "tuple",data:=.seq #[.ref h.objs.size,.ref (h.push (FK b1 g)).objs.size]}).objs.size]}
def jb(b1 b2:Bool)(I T:AD)(xs ys:sy):Meets (Builtin.«zip.__new__» ⟨[.type "zip",.ref I,.ref T],[]⟩) (fun _ R s=>Sq b1 s.heap I xs/\Sq b2 s.heap T ys /\R (.ok (.ret (.ref ((((s.heap.push (FK b1 I)).push (FK b2 T)).push { cls:=.type "tuple",data:=.seq #[.ref s.heap.objs.size,.ref (s.heap.push (FK b1 I)).objs.size]}).push { cls:=.type "tuple",data:=.seq #[.none,.none]}).objs.size)) ) {s with heap:=zh b1 b2 s.heap I T}) :=
 .of_wp fun prog w A R s h=>by
  obtain⟨M,g,d,tk,os⟩:=s;obtain⟨Z,Y,h⟩:=h;have U:=sub_zip;have i1:∀(A:F0d) (E:VL->SD->Prop) (Q:VL->SD->Prop),Q (.ref M.objs.size) ⟨M.push (FK b1 I),g,d,tk,os⟩->wpAny As A (pyIter (.ref I)) Q E ⟨M,g,d,tk,os⟩:=fun A E Q q=>XJ (s:=⟨M,g,d,tk,os⟩) Z q;have i2:∀(A:F0d) (E:VL->SD->Prop) (Q:VL->SD->Prop),Q (.ref (M.push (FK b1 I)).objs.size) ⟨(M.push (FK b1 I)).push (FK b2 T),g,d,tk,os⟩->wpAny As A (pyIter (.ref T)) Q E ⟨M.push (FK b1 I),g,d,tk,os⟩:=fun A E Q q=>XJ (s:=⟨M.push (FK b1 I),g,d,tk,os⟩) (Y.push _) q
  wp_walk using i1,i2
  exact⟨_,rfl,h⟩
def gC{b1 b2:Bool}{M I:AD}{xs ys:sy}{Q:tE}(h1:Sq b1 s.heap M xs)(h2:Sq b2 s.heap I ys) (h:∀h',IsZip h' (s.heap.objs.size+4) (s.heap.objs.size+2) (s.heap.objs.size+3) .none->IsPair h' (s.heap.objs.size+2) (.ref s.heap.objs.size) (.ref (s.heap.objs.size+1))->IsPair h' (s.heap.objs.size+3) .none .none ->Qp b1 h' s.heap.objs.size M 0->Qp b2 h' (s.heap.objs.size+1) I 0->(∀c o,s.heap.get? c=some o->h'.get? c=some o)->Q (.ref (s.heap.objs.size+4)) {s with heap:=h'}):wpAny As A (call (.type "zip") [.ref M,.ref I]) Q E s:=by
 refine callType_new F.called_zip AS (F.typeCall_zip_2 _ _) (F.newCall_zip_2 _ _) (fun obj=>F.args_object_init_3 obj _ _) F.entry_zip_new (jb b1 b2 M I xs ys) ⟨h1,h2,?_⟩;have n1:(s.heap.push (FK b1 M)).objs.size=s.heap.objs.size+1:=Heap.size_push ..;have up:∀(g:Heap) (o:Obj) (c:AD) (u:Obj),g.get? c=some u->(g.push o).get? c=some u:=fun g o c u e=>aF _ e;have a0:(s.heap.push (FK b1 M)).get? s.heap.objs.size=some (FK b1 M):=aU _ (by cases b1<;>rfl);generalize Z:s.heap.push (FK b1 M)=g1 at n1 a0;have k1:∀c o,s.heap.get? c=some o->g1.get? c=some o:=fun c o e=>by rw[<-Z];exact up _ _ _ _ e
 have n2:(g1.push (FK b2 I)).objs.size=s.heap.objs.size+2:=by rw[(L8),n1]
 have a1:(g1.push (FK b2 I)).get? (s.heap.objs.size+1)=some (FK b2 I):=by rw[<-n1];exact aU _ (by cases b2<;>rfl)
 generalize Y:g1.push (FK b2 I)=g2 at n2 a1;have k2:∀c o,g1.get? c=some o->g2.get? c=some o:=fun c o e=>by rw[<-Y];exact up _ _ _ _ e
 have n3:(g2.push { cls:=.type "tuple",data:=.seq #[.ref s.heap.objs.size,.ref (s.heap.objs.size+1)]}).objs.size=s.heap.objs.size+3:=by rw[(L8),n2]
 have a2:IsPair (g2.push { cls:=.type "tuple",data:=.seq #[.ref s.heap.objs.size,.ref (s.heap.objs.size+1)]}) (s.heap.objs.size+2) (.ref s.heap.objs.size) (.ref (s.heap.objs.size+1)):=by rw[<-n2];exact aU _ rfl
 generalize T:g2.push { cls:=.type "tuple",data:=.seq #[.ref s.heap.objs.size,.ref (s.heap.objs.size+1)]}=g3 at n3 a2;have k3:∀c o,g2.get? c=some o->g3.get? c=some o:=fun c o e=>by rw[<-T];exact up _ _ _ _ e
 have n4:(g3.push { cls:=.type "tuple",data:=.seq #[.none,.none]}).objs.size=s.heap.objs.size+4:=by rw[(L8),n3]
 have a3:IsPair (g3.push { cls:=.type "tuple",data:=.seq #[.none,.none]}) (s.heap.objs.size+3) .none .none:=by rw[<-n3];exact aU _ rfl
 generalize R:g3.push { cls:=.type "tuple",data:=.seq #[.none,.none]}=g4 at n4 a3;have k4:∀c o,g3.get? c=some o->g4.get? c=some o:=fun c o e=>by rw[<-R];exact up _ _ _ _ e
 have ez:zh b1 b2 s.heap M I=g4.push { cls:=.type "zip",data:=.fields #[.none,.bool false,.bool false,.ref (s.heap.objs.size+2),.ref (s.heap.objs.size+3)]}:=by
  unfold zh;rw[Z,Y,n1,T,R,n2,n3]
 have a4:IsZip (g4.push { cls:=.type "zip",data:=.fields #[.none,.bool false,.bool false,.ref (s.heap.objs.size+2),.ref (s.heap.objs.size+3)]}) (s.heap.objs.size+4) (s.heap.objs.size+2) (s.heap.objs.size+3) .none:=by rw[<-n4];exact aU _ rfl
 rw[n1,T,R,n4,ez];show _/\_;have U:∀c o,g4.get? c=some o->(g4.push { cls:=.type "zip",data:=.fields #[.none,.bool false,.bool false,.ref (s.heap.objs.size+2),.ref (s.heap.objs.size+3)]}).get? c=some o:=fun c o e=>up _ _ _ _ e;refine⟨⟨_,a4,rfl⟩,h _ a4 (U _ _ (k4 _ _ a2)) (U _ _ a3) ?_ ?_ fun c o e=>U _ _ (k4 _ _ (k3 _ _ (k2 _ _ (k1 _ _ e))))⟩
 .have:=U _ _ (k4 _ _ (k3 _ _ (k2 _ _ a0)));cases b1 with
  |true=>exact⟨_,this,rfl,rfl⟩
  |false=>exact⟨_,this,rfl,rfl⟩
 .have:=U _ _ (k4 _ _ (k3 _ _ a1));cases b2 with
  |true=>exact⟨_,this,rfl,rfl⟩
  |false=>exact⟨_,this,rfl,rfl⟩
end
end ZT
namespace L2
open PySem PySem.Spec PyProof.Rows
def GG(b:Bool)(H:Hp)(a:AD)(xs:tR):Prop:=if b then H a=some (.tup xs) else H a=some (.lst xs)
def GG.inj{b:Bool}{H:Hp}{a:AD}{xs ys:tR}(h:GG b H a xs)(k:GG b H a ys):xs=ys:=by
 cases b with
 |true=>have h:H a=some (.tup xs):=h;have k:H a=some (.tup ys):=k;rw[h]at k;cases k;rfl
 |false=>have h:H a=some (.lst xs):=h;have k:H a=some (.lst ys):=k;rw[h]at k;cases k;rfl
theorem GG.none{b:Bool}{H:Hp}{a c:AD}{xs:tR}(h:GG b H a xs)(k:H c=none):a≠c:=fun z=>by
 subst z;cases b with
 |true=>have h:H a=some (.tup xs):=h;rw[k]at h;cases h
 |false=>have h:H a=some (.lst xs):=h;rw[k]at h;cases h
def GG.raw{X:Cx}{pins:CG}{σ:St}{H:Hp}{s:SD}(I:At){b:Bool}{a:AD}{xs:tR}(h:GG b H a xs):∃g,Vals xs g/\ZT.Sq b s.heap a g:=by
 cases b with
 |true=>
  obtain⟨g,M,p,_⟩:=I.tuple (Ax.of (K:=X.K) (show H a=some (.tup xs) from h));exact⟨g,M,p⟩
 |false=>
  obtain⟨g,M,p,_⟩:=I.list (Aj.of (K:=X.K) (show H a=some (.lst xs) from h));exact⟨g,M,p.isList⟩
def mL(b1 b2:Bool)(a1 a2:AD):It :=
 ⟨fun i H=>∃xs x ys y,GG b1 H a1 xs/\GG b2 H a2 ys/\xs[i]? = some x/\ys[i]? = some y,
  fun i H v H'=>∃p x y,v=.ref p/\H p=none/\H'=upd H p (.tup [x,y])/\(∀xs,GG b1 H a1 xs->xs[i]? = some x)/\∀ys,GG b2 H a2 ys->ys[i]? = some y,
  fun i H=>∃xs ys,GG b1 H a1 xs/\GG b2 H a2 ys/\(i=xs.length\/(i<xs.length/\i=ys.length))⟩
def sj(b1 b2:Bool)(a1 a2 z TI TO i1 i2:AD):Nat->Heap->Prop:=fun i h=>IsZip h z TI TO .none/\IsPair h TI (.ref i1) (.ref i2)/\(∃a b,IsPair h TO a b)/\ZT.Qp b1 h i1 a1 i/\ZT.Qp b2 h i2 a2 i
def Oe{b:Bool}{h:Heap}{it l:AD}{k:Nat}(x:ZT.Qp b h it l k):∃o,h.get? it=some o/\∀v,o.data≠.cell v:=by
 cases b with
 |true=>obtain⟨o,e,_,d⟩:=(show h.IsTupleIter it l k from x);exact⟨o,e,fun v z=>by rw[d]at z;cases z⟩
 |false=>obtain⟨o,e,_,d⟩:=(show h.IsListIter it l k from x);exact⟨o,e,fun v z=>by rw[d]at z;cases z⟩
def Mk{b:Bool}{h h':Heap}{it l:AD}{k:Nat}(x:ZT.Qp b h it l k)(e:∀o,h.get? it=some o->h'.get? it=some o):ZT.Qp b h' it l k:=by
 cases b with
 |true=>obtain⟨o,q,r⟩:=(show h.IsTupleIter it l k from x);exact(show h'.IsTupleIter it l k from⟨o,e _ q,r⟩)
 |false=>obtain⟨o,q,r⟩:=(show h.IsListIter it l k from x);exact(show h'.IsListIter it l k from⟨o,e _ q,r⟩)
def fw{P:F0b}{w:F0c}{K:Fg}{elts:tL}{x1}{pos:Pos}{b1 b2:Bool}{a1 a2 z TI TO i1 i2:AD}(ne:[z,TI,TO,i1,i2].Nodup) :
  Turn P w K (.Tuple elts x1 pos) (mL b1 b2 a1 a2) [z,TI,TO,i1,i2] z (sj b1 b2 a1 a2 z TI TO i1 i2) where
 mem:=by simp
 obj:=fun i h st b hb=>by
  obtain⟨h1,h2,⟨u,v,h3⟩,h4,h5⟩:=st;have hb:b=z\/b=TI\/b=TO\/b=i1\/b=i2:=by simpa using hb
  rcases hb with rfl|rfl|rfl|rfl|rfl
  .exact⟨_,h1,fun v y=>by cases y⟩
  .exact⟨_,h2,fun v y=>by cases y⟩
  .exact⟨_,h3,fun v y=>by cases y⟩
  .exact Oe h4
  .exact Oe h5
 keep:=fun i h h' st k=>by
  obtain⟨h1,h2,⟨u,v,h3⟩,h4,h5⟩:=st;exact⟨k z BY _ h1,k TI BY _ h2,⟨u,v,k TO BY _ h3⟩,Mk h4 fun o e=>k i1 BY o e,Mk h5 fun o e=>k i2 BY o e⟩
 item:=by
  intro X hP hw hK hc i pins s σ H E I hf st hg;subst hP hw hK;obtain⟨xs,x,ys,y,q1,q2,hx,hy⟩:=hg;obtain⟨us,rv1,p1⟩:=q1.raw I;obtain⟨vs,rv2,p2⟩:=q2.raw I;obtain⟨u,hu,ru⟩:=rv1.get hx;obtain⟨v,hv,rv⟩:=rv2.get hy;obtain⟨t1,t2,⟨ta,tb,t3⟩,t4,t5⟩:=st;have e1:∀b∈[z,TI,TO,i1,i2],a1≠b:=fun b hb=>q1.none (hf b hb).1;have e2:∀b∈[z,TI,TO,i1,i2],a2≠b:=fun b hb=>q2.none (hf b hb).1;simp only[List.nodup_cons,List.mem_cons,List.not_mem_nil,or_false,not_or]at ne;obtain⟨⟨n1,n2,n3,n4⟩,⟨n5,n6,n7⟩,⟨n8,n9⟩,n10,_⟩:=ne;have ap:ZT.Apart z TI TO i1 i2 [i1,a1] [i2,a2]:=⟨⟨Ne.symm n1,n5,n6,n7⟩,⟨Ne.symm n2,n8,n9⟩,⟨Ne.symm n3,Ne.symm n4,n10⟩,
   ⟨by simp[n3,Ne.symm (e1 z BY)],by simp[n8,Ne.symm (e1 TO BY)],by simp[Ne.symm n10,Ne.symm (e1 i2 BY)]⟩,⟨by simp[n4,Ne.symm (e2 z BY)],by simp[n9,Ne.symm (e2 TO BY)],by simp[n10,Ne.symm (e2 i1 BY)]⟩⟩
  refine ZT.next_item (ZT.M4 (prog:=X.prog) (w:=X.w) (A:=X.A.in1) (I.ok.hd hc) b1 i1 a1 us (e1 i1 BY)) (ZT.M4 (prog:=X.prog) (w:=X.w) (A:=X.A.in1) (I.ok.hd hc) b2 i2 a2 vs (e2 i2 BY)) ap t1 t2 t3 ⟨t4,p1⟩ ⟨t5,p2⟩ (aB.mp hu).1 (aB.mp hv).1
   fun u' v' h' tk r1 r2 r3 r4 r5 r6 r7 r8 r9=>⟨_,rfl,wpAny_letOwnedTupleGo_zip (s:={s with heap:=h',toks:=tk}) r3 fun h'' z'' sb=>?_⟩
  rw[hu]at r1;rw[hv]at r2;cases r1;cases r2;have keep:∀b o,b ∉ [z,TI,TO,i1,i2]->s.heap.get? b=some o->h''.get? b=some o:=fun b o hb q=>by
   simp only[List.mem_cons,List.not_mem_nil,or_false,not_or]at hb;exact(sb.2 b hb.1).trans (r9 b o hb.1 hb.2.2.1 hb.2.2.2.1 hb.2.2.2.2 q)
  have lt:∀b∈[z,TI,TO,i1,i2],b<s.heap.objs.size:=fun b hb=>by
   have hb:b=z\/b=TI\/b=TO\/b=i1\/b=i2:=by simpa using hb
   rcases hb with rfl|rfl|rfl|rfl|rfl
   .exact aE t1
   .exact aE t2
   .exact aE t3
   .obtain⟨o,e,_⟩:=Oe t4;exact aE e
   .obtain⟨o,e,_⟩:=Oe t5;exact aE e
  have hTn:H s.heap.objs.size=none:=I.Al.fresh (aG _);have hT'':h''.get? s.heap.objs.size=some { cls:=.type "tuple",data:=.seq #[u,v]}:=(sb.2 _ (ax (lt z BY))).trans r7;refine⟨.ref s.heap.objs.size,upd H s.heap.objs.size (.tup [x,y]),?_,rfl,⟨_,x,y,rfl,hTn,rfl,fun zs hz=>by rw[hz.inj q1];exact hx,fun zs hz=>by rw[hz.inj q2];exact hy⟩,⟨z'',?_,⟨u,v,?_⟩,?_,?_⟩,fun b hb=>?_⟩
  .exact I.Wc hf keep XZ (.cons ru (.cons rv .nil)) hT''
  .exact(sb.2 _ (Ne.symm n1)).trans (r9 _ _ (Ne.symm n1) n5 n6 n7 t2)
  .exact(sb.2 _ (Ne.symm n2)).trans r4
  .exact Mk r5.1 fun o e=>(sb.2 _ (Ne.symm n3)).trans e
  .exact Mk r6.1 fun o e=>(sb.2 _ (Ne.symm n4)).trans e
  .rw[AK (aM (lt b hb))];exact(hf b hb).1
 done:=by
  intro X hP hw hK hc i pins s σ H E I hf st hg;subst hP hw hK;obtain⟨xs,ys,q1,q2,he⟩:=hg;obtain⟨us,rv1,p1⟩:=q1.raw I;obtain⟨vs,rv2,p2⟩:=q2.raw I;obtain⟨t1,t2,⟨ta,tb,t3⟩,t4,t5⟩:=st;have e1:∀b∈[z,TI,TO,i1,i2],a1≠b:=fun b hb=>q1.none (hf b hb).1;have e2:∀b∈[z,TI,TO,i1,i2],a2≠b:=fun b hb=>q2.none (hf b hb).1;simp only[List.nodup_cons,List.mem_cons,List.not_mem_nil,or_false,not_or]at ne;obtain⟨⟨n1,n2,n3,n4⟩,⟨n5,n6,n7⟩,⟨n8,n9⟩,n10,_⟩:=ne;have ap:ZT.Apart z TI TO i1 i2 [i1,a1] [i2,a2]:=⟨⟨Ne.symm n1,n5,n6,n7⟩,⟨Ne.symm n2,n8,n9⟩,⟨Ne.symm n3,Ne.symm n4,n10⟩,
   ⟨by simp[n3,Ne.symm (e1 z BY)],by simp[n8,Ne.symm (e1 TO BY)],by simp[Ne.symm n10,Ne.symm (e1 i2 BY)]⟩,⟨by simp[n4,Ne.symm (e2 z BY)],by simp[n9,Ne.symm (e2 TO BY)],by simp[n10,Ne.symm (e2 i1 BY)]⟩⟩
  have he':i=us.length\/(i<us.length/\i=vs.length):=by rw[<-rv1.length,<-rv2.length];exact he
  refine ZT.next_end (ZT.M4 (prog:=X.prog) (w:=X.w) (A:=X.A.in1) (I.ok.hd hc) b1 i1 a1 us (e1 i1 BY)) (ZT.M4 (prog:=X.prog) (w:=X.w) (A:=X.A.in1) (I.ok.hd hc) b2 i2 a2 vs (e2 i2 BY)) ap t1 t2 t3 ⟨t4,p1⟩ ⟨t5,p2⟩ he' fun h' tk kp=>⟨rfl,?_⟩;have keep:∀b o,b ∉ [z,TI,TO,i1,i2]->s.heap.get? b=some o->h'.get? b=some o:=fun b o hb q=>by
   simp only[List.mem_cons,List.not_mem_nil,or_false,not_or]at hb;exact kp b o hb.1 hb.2.2.1 hb.2.2.2.1 hb.2.2.2.2 q
  exact I.turn hf keep
 self:=fun _ _ _ _ _ st h=>wpAny_pyIter_zip st.1 h
def rM(ta:TA):TI:=fun σ H R=>ta σ H fun vs g=>∃(b1 b2:Bool) (a1 a2:AD),vs=[.ref a1,.ref a2]/\(∃xs,GG b1 g a1 xs)/\(∃ys,GG b2 g a2 ys)/\R (mL b1 b2 a1 a2) g
def cZ{X:Cx}{elts:tL}{x1}{g:Pos}{a b:Expr}{ta:TA}{p pos:Pos}(hg:Gl X "zip")(hm:X.mg "zip" = none)(ha:PA X [a,b] ta)(hs:starEach [a,b] X.env=[(false,eval a X.env),(false,eval b X.env)]:=by rfl)(M:starEach [b] X.env=[(false,eval b X.env)]:=by rfl):PI X (.Tuple elts x1 g) (.Call (.Name "zip" p) [a,b] [] pos) (rM ta):=by
 intro pins s σ H R I h;refine Call_ (Ir I hg hm boot_zip (bS (A9 (ha pos pins s σ H _ I h) fun us s1 ⟨vs,H1,U,r1,q1⟩=>?_) (by rw[hs,M]) (by rw[M];rfl)));obtain⟨b1,b2,l1,l2,e,⟨xs,h1⟩,⟨ys,h2⟩,q⟩:=q1;subst e;cases r1 with
 |cons r Y=>
  cases Y with
  |cons r' Y=>
   cases Y;cases r;cases r';obtain⟨us,_,p1⟩:=h1.raw U;obtain⟨vs,_,p2⟩:=h2.raw U;refine ZT.gC p1 p2 fun h' z1 z2 z3 z4 z5 hk=>wpAny_pyIter_zip z1 ?_;have I2:Inv X pins σ H1 {s1 with heap:=h'}:=U.kept (t':=s1.toks) hk;refine⟨_,[s1.heap.objs.size+4,s1.heap.objs.size+2,s1.heap.objs.size+3,s1.heap.objs.size,s1.heap.objs.size+1],_,_,H1,rfl,I2,fw ?_,⟨z1,z2,⟨_,_,z3⟩,z4,z5⟩,fun b hb=>?_,q⟩
   .simp
   have T:s1.heap.objs.size<=b:=by
    have Z:b=s1.heap.objs.size+4\/b=s1.heap.objs.size+2\/b=s1.heap.objs.size+3\/b=s1.heap.objs.size\/b=s1.heap.objs.size+1:=by simpa using hb
    rcases Z with h|h|h|h|h<;>rw[h]<;>first|exact aG _|exact Nat.le_add_right _ _
   exact U.Rp T (U.Al.fresh T)
def YL(K:Fg)(a:AD):It :=
 ⟨fun i H=>∃xs x,Aj K H a xs/\xs[i]? = some x,fun i H v H'=>∃p x,v=.ref p/\H p=none/\H'=upd H p (.tup [.int i,x])/\∀xs,Aj K H a xs->xs[i]? = some x,fun i H=>∃xs,Aj K H a xs/\xs.length=i⟩
def ZM{P:F0b}{w:F0c}{K:Fg}{elts:tL}{x1}{pos:Pos}(a e it:AD)(hne:e≠it) :
  Turn P w K (.Tuple elts x1 pos) (YL K a) [e,it] e (fun i h=>(∃old,IsEnum h e it (i:Nat) old)/\h.IsListIter it a i) where
 mem:=by simp
 obj:=fun i h st b hb=>by
  rcases aN.mp hb with rfl|hb
  .obtain⟨⟨old,q⟩,_⟩:=st;exact⟨_,q,fun v z=>by cases z⟩
  .have e2:b=it:=by simpa using hb
   subst e2;obtain⟨_,o,q,c,d⟩:=st;exact⟨o,q,fun v z=>by rw[d]at z;cases z⟩
 keep:=fun i h h' st k=>by
  obtain⟨⟨old,q⟩,o,q2,r⟩:=st;exact⟨⟨old,k e BY _ q⟩,o,k it BY _ q2,r⟩
 item:=by
  intro X hP hw hK hc i pins s σ H E I hf st hg;subst hP hw hK;obtain⟨xs,x,hq,hx⟩:=hg;obtain⟨its,rv,pL,hz⟩:=I.list hq;have p:=pL.isList;obtain⟨u,hu,ru⟩:=rv.get hx;obtain⟨⟨old,he⟩,hit⟩:=st;have hai:a≠it:=fun z=>by
   obtain⟨o,e1,c1,_⟩:=p;obtain⟨o2,e2,c2,_⟩:=hit;rw[z,e2]at e1;cases e1;rw[c1]at c2;exact absurd c2 AS
  have hae:a≠e:=fun z=>by
   obtain⟨o,e1,c1,_⟩:=p;rw[z,he]at e1;cases e1;exact absurd (show Value.type "enumerate" = Value.type "list" from c1) AS
  have hlt:i<its.length:=(aB.mp hu).1;have hE0:=hf e BY;have hI0:=hf it BY;refine wpAny_pyNext_enum_itemD (Draws.list (prog:=X.prog) (w:=X.w) (A:=X.A.in1) (I.ok.hd hc) it a hai its.toArray) he ⟨hit,p⟩ (by simpa using hlt) hne (by simp[hne,Ne.symm hae]) fun y h' tk hy ho hs' hT hsz hk=>⟨_,rfl,wpAny_letOwnedTupleGo_enum (s:={s with heap:=h',toks:=tk+1}) ho fun h'' he'' sb=>?_⟩;have hyu:y=u:=by
   have hy:its[i]? = some y:=by simpa using hy
   rw[hu]at hy;exact(ak hy).symm
  subst hyu;have keep:∀b o,b≠e->b≠it->s.heap.get? b=some o->h''.get? b=some o:=fun b o h1 h2 q=>(sb.2 b h1).trans (hk b o h1 h2 q);have hTe:s.heap.objs.size≠e:=ax (aE he);have hTi:s.heap.objs.size≠it:=let⟨_,q,_⟩:=hit;ax (aE q);have hT'':h''.get? s.heap.objs.size=some { cls:=.type "tuple",data:=.seq #[.int i tk,y]}:=(sb.2 _ hTe).trans hT;have hTn:H s.heap.objs.size=none:=I.Al.fresh (aG _);refine⟨.ref s.heap.objs.size,upd H s.heap.objs.size (.tup [.int i,x]),?_,rfl,⟨_,x,rfl,hTn,rfl,fun ys hy=>by rw[I.Vd hy hq];exact hx⟩,⟨⟨_,by simpa using he''⟩,?_⟩,fun b hb=>?_⟩
  .exact I.Wc (ch:=[e,it]) hf (fun b o hb q=>keep b o (fun z=>hb (by simp[z])) (fun z=>hb (by simp[z])) q) XZ (.cons ⟨tk,rfl⟩ (.cons ru .nil)) hT''
  .obtain⟨⟨o,q,r⟩,_⟩:=hs';exact⟨o,(sb.2 it (Ne.symm hne)).trans q,r⟩
  .rcases aN.mp hb with rfl|hb
   .rw[AK (Ne.symm hTe)];exact hE0.1
   .have e2:b=it:=by simpa using hb
    subst e2;rw[AK (Ne.symm hTi)];exact hI0.1
 done:=by
  intro X hP hw hK hc i pins s σ H E I hf st hg;subst hP hw hK;obtain⟨xs,hq,hx⟩:=hg;obtain⟨its,rv,pL,hz⟩:=I.list hq;have p:=pL.isList;obtain⟨⟨old,he⟩,hit⟩:=st;have hai:a≠it:=fun z=>by
   obtain⟨o,e1,c1,_⟩:=p;obtain⟨o2,e2,c2,_⟩:=hit;rw[z,e2]at e1;cases e1;rw[c1]at c2;exact absurd c2 AS
  have hl:its.length=i:=by rw[<-rv.length];exact hx
  subst hl;obtain⟨f0,f1,f2,f3,f4,f5⟩:=hf it BY;exact wpAny_pyNext_enum_endD (Draws.list (prog:=X.prog) (w:=X.w) (A:=X.A.in1) (I.ok.hd hc) it a hai its.toArray) he ⟨hit,p⟩ fun h' eb=>⟨rfl,I.turned (t':=s.toks) (fun b o hb q=>eb b o hb q) f0 f1 f3 f4 f5⟩
 self:=fun _ _ _ _ _ st h=>by
  obtain⟨⟨old,he⟩,_⟩:=st;exact wpAny_pyIter_enum he h
def lq(K:Fg)(ta:TA):TI:=fun σ H R=>ta σ H fun vs g=>∃a,vs=[.ref a]/\(∃xs,Aj K g a xs)/\R (YL K a) g
def WA{X:Cx}{elts:tL}{x1}{g:Pos}{a:Expr}{ta:TA}{p pos:Pos}(hg:Gl X "enumerate")(hm:X.mg "enumerate" = none)(ha:PA X [a] ta)(hs:starEach [a] X.env=[(false,eval a X.env)]:=by rfl):PI X (.Tuple elts x1 g) (.Call (.Name "enumerate" p) [a] [] pos) (lq X.K ta):=by
 intro pins s σ H R I h;refine Call_ (Ir I hg hm boot_enumerate (bS (A9 (ha pos pins s σ H _ I h) fun us s1 ⟨vs,H1,T,r1,q1⟩=>?_) hs rfl));obtain⟨t,e,⟨xs,hq⟩,q⟩:=q1;subst e;cases r1 with
 |cons r rr=>
  cases rr;cases r;obtain⟨U,rv,p',hz⟩:=T.list hq;refine call_enumerate_list (show s1.heap.IsList t U.toArray from p'.isList) fun h' Z hit hsz hk=>wpAny_pyIter_enum Z ?_;have I2:Inv X pins σ H1 {s1 with heap:=h'}:=T.kept (t':=s1.toks) hk;have hn:s1.heap.objs.size+1≠s1.heap.objs.size:=by lia
  refine⟨s1.heap.objs.size+1,[s1.heap.objs.size+1,s1.heap.objs.size],_,_,H1,rfl,I2,ZM t _ _ hn,⟨⟨_,Z⟩,hit⟩,fun b hb=>?_,q⟩;have M:s1.heap.objs.size<=b:=by
   have Y:b=s1.heap.objs.size+1\/b=s1.heap.objs.size:=by simpa using hb
   rcases Y with z|z
   .rw[z];exact Nat.le_succ _
   .rw[z];exact aG _
  exact T.Rp M (T.Al.fresh M)
def Zh{K:Fg}{a:AD}{xs:tR}{g:TG}{tb:TS}{D:Ends}{σ:St}{H:Hp}(Pv:Nat->St->Hp->Prop)(h0:Pv 0 σ H)(hl:∀i σ H,i<=xs.length->Pv i σ H->Aj K H a xs) (hs:∀i x σ H,xs[i]? = some x->Pv i σ H->∀p,H p=none->g (.ref p) σ (upd H p (.tup [.int (i:Nat),x])) fun I T=>tb {D with nx:=Pv (i+1),ct:=Pv (i+1),bk:=D.nx} I T)(hd:∀σ H,Pv xs.length σ H->D.nx σ H):∃W:Nat->Nat->St->Hp->Prop,(∃m,W 0 m σ H)/\∀i m σ H,W i m σ H ->((YL K a).stop i H/\D.nx σ H)\/((YL K a).go i H/\∃N:St->Hp->Prop,(∀M H',N M H'->∃U,U<m/\W (i+1) U M H')/\∀x H',(YL K a).EU i H x H'->g x σ H' fun I T=>tb {D with nx:=N,ct:=N,bk:=D.nx} I T):=by
 refine⟨fun i m σ H=>m=xs.length-i/\i<=xs.length/\Pv i σ H,⟨xs.length,by simp,Nat.zero_le _,h0⟩,?_⟩;rintro i m σ H ⟨rfl,hi,p⟩;have q:=hl i σ H hi p;by_cases R:i<xs.length
 .refine .inr ⟨⟨xs,xs[i],q,by simp[R]⟩,Pv (i+1),fun M H' Z=>⟨xs.length-(i+1),by lia,rfl,R,Z⟩,fun x H' y=>?_⟩;obtain⟨pp,Y,rfl,hn,rfl,y⟩:=y;exact hs i Y σ _ (y xs q) p pp hn
 .have e:i=xs.length:=by lia
  subst e;exact .inl ⟨⟨xs,q,rfl⟩,hd σ H p⟩
section
variable{κ:Type}[DecidableEq κ]
def C7(kvs:List (κ×V))(k:κ):Option V:=(kvs.find? fun kv=>decide (kv.1=k)).map (·.2)
def putK(kvs:List (κ×V))(k:κ)(v:V):List (κ×V) :=
 if(kvs.any fun kv=>decide (kv.1=k))=true then kvs.map (fun kv=>if kv.1=k then(kv.1,v) else kv) else kvs++[(k,v)]
def QI{p:κ×V}{r:List (κ×V)}{k:κ}(e:p.1=k):C7 (p::r) k=some p.2:=by simp[C7,List.find?_cons,e]
def P6{p:κ×V}{r:List (κ×V)}{k:κ}(e:¬p.1=k):C7 (p::r) k=C7 r k:=by simp[C7,List.find?_cons,e]
theorem Ku(k:κ):∀kvs:List (κ×V),(kvs.any fun kv=>decide (kv.1=k))=(C7 kvs k).isSome
 |[]=>rfl
 |p::r=>by
  rw[List.any_cons];by_cases e:p.1=k
  .simp only[QI e,decide_eq_true e,Bool.true_or,Option.isSome_some]
  .rw[P6 e,decide_eq_false e,Bool.false_or];exact Ku k r
def MH(kvs:List (κ×V))(k:κ)(v:V):(putK kvs k v).length<=kvs.length+1:=by
 unfold putK;split
 .rw[(Af)];lia
 .rw[(De),(GU),List.length_nil];lia
def VG{kvs:List (κ×V)}{k:κ}(v:V)(h:C7 kvs k=none):putK kvs k v=kvs++[(k,v)]:=by
 unfold putK;rw[Ku,h];exact if_neg AS
def K6.Zd{o:Option V}{u:Option VL}(r:K6 o u):o.isSome=u.isSome:=by
 cases o with
 |none=>cases u with
  |none=>rfl
  |some _=>exact(show False from r).elim
 |some _=>cases u with
  |none=>exact(show False from r).elim
  |some _=>rfl
def KV.val{kvs:List (κ×V)}{vs:List (κ×VL)}(r:KV kvs vs)(k:κ):K6 (C7 kvs k) (valueAt vs k):=by
 unfold KV at r
 induction r with
 |nil=>exact True.intro
 | @cons p q ps g h t R=>
  obtain⟨M,T⟩:=h;by_cases e:p.1=k
  .have I:q.1=k:=M.symm.trans e;have b:valueAt (q::g) k=some q.2:=by simp[valueAt,List.find?_cons,I]
   rw[QI e,b];exact T
  .have I:¬q.1=k:=fun z=>e (M.trans z);have b:valueAt (q::g) k=valueAt g k:=by simp[valueAt,List.find?_cons,I]
   rw[P6 e,b];exact R
def KV.any{kvs:List (κ×V)}{vs:List (κ×VL)}(r:KV kvs vs)(k:κ):(kvs.any fun kv=>decide (kv.1=k))=vs.any fun kv=>decide (kv.1=k):=by
 unfold KV at r
 induction r with
 |nil=>rfl
 |cons h t g=>rw[List.any_cons,List.any_cons,g,h.1]
def KV.eW{kvs:List (κ×V)}{vs:List (κ×VL)}(r:KV kvs vs)(k:κ){y:V}{u:VL}(I:RelV y u):KV (kvs.map fun kv=>if kv.1=k then(kv.1,y) else kv) (vs.map fun kv=>if kv.1=k then(kv.1,u) else kv):=by
 unfold KV at r ⊢
 induction r with
 |nil=>exact .nil
 | @cons p q ps T h t M=>
  rw[(BA),(BA)];refine .cons ?_ M;obtain⟨g,R⟩:=h;by_cases e:p.1=k
  .rw[if_pos e,if_pos (g.symm.trans e)];exact⟨g,I⟩
  .rw[if_neg e,if_neg (fun z=>e (g.trans z))];exact⟨g,R⟩
def KV.put{kvs:List (κ×V)}{vs:List (κ×VL)}(r:KV kvs vs)(k:κ){y:V}{u:VL}(g:RelV y u):KV (putK kvs k y) (stored vs k u):=by
 unfold putK stored;rw[r.any k];by_cases e:(vs.any fun kv=>decide (kv.1=k))=true
 .rw[if_pos e,if_pos e];exact r.eW k g
 .rw[if_neg e,if_neg e];exact Paired.snoc r ⟨rfl,g⟩
def KV.length{kvs:List (κ×V)}{vs:List (κ×VL)}(r:KV kvs vs):kvs.length=vs.length:=Paired.length r
end
def ZZ{P:F0b}{w:F0c}{k:Key}{u:VL}(r:RelV (kV k) u):(DR P w).is k u=true:=by
 cases k with
 |inl i=>obtain⟨t,e⟩:=(show ∃t,u=Value.int i t from r);subst e;exact Wq P w i t
 |inr x=>obtain⟨t,e⟩:=(show ∃t,u=Value.str x t from r);subst e;exact W7 P w x t
theorem Tc{P:F0b}{w:F0c}:∀ {ks:List Key} {us:List VL},Vals (ks.map kV) us->ItemsAre (DR P w) ks us
 |[],_,r=>by rw[(Mw)]at r;cases r;exact .nil
 |k::ks,_,r=>by
  rw[(BA)]at r;cases r with
  |cons h t=>exact .cons (ZZ h) (Tc t)
abbrev KT(H:Hp):List (List Key×V)->List (List Key×AD×VL)->Prop:=Paired fun p q=>p.1=q.1/\H q.2.1=some (.tup (p.1.map kV))/\RelV p.2 q.2.2
def KT.val{H:Hp}{kvs:List (List Key×V)}{xs:List (List Key×AD×VL)}(r:KT H kvs xs)(k:List Key):K6 (C7 kvs k) ((atKey xs k).map (·.2)):=by
 induction r with
 |nil=>exact True.intro
 | @cons p q ps g h t R=>
  obtain⟨M,_,T⟩:=h;by_cases e:p.1=k
  .have I:q.1=k:=M.symm.trans e;have b:atKey (q::g) k=some q.2:=by simp[atKey,List.find?_cons,I]
   rw[QI e,b];exact T
  .have I:¬q.1=k:=fun z=>e (M.trans z);have b:atKey (q::g) k=atKey g k:=by simp[atKey,List.find?_cons,I]
   rw[P6 e,b];exact R
def KT.eW{H:Hp}{kvs:List (List Key×V)}{xs:List (List Key×AD×VL)}(r:KT H kvs xs)(k:List Key){y:V}{u:VL}(M:RelV y u):KT H (kvs.map fun kv=>if kv.1=k then(kv.1,y) else kv) (xs.map (putAt k u)):=by
 induction r with
 |nil=>exact .nil
 | @cons p q ps U h t R=>
  rw[(BA),(BA)];refine .cons ?_ R;obtain⟨g,I,T⟩:=h;unfold putAt;by_cases e:p.1=k
  .rw[if_pos e,if_pos (g.symm.trans e)];exact⟨g,I,M⟩
  .rw[if_neg e,if_neg (fun z=>e (g.trans z))];exact⟨g,I,T⟩
def KT.put{H:Hp}{kvs:List (List Key×V)}{xs:List (List Key×AD×VL)}(r:KT H kvs xs)(k:List Key){b:AD}{y:V}{u:VL}(I:H b=some (.tup (k.map kV)))(g:RelV y u):KT H (putK kvs k y) (storedH xs k b u):=by
 have e:(kvs.any fun kv=>decide (kv.1=k))=(atKey xs k).isSome:=by
  rw[Ku,(r.val k).Zd,Option.isSome_map]
 unfold putK storedH;rw[e];by_cases q:(atKey xs k).isSome=true
 .rw[if_pos q,if_pos q];exact r.eW k g
 .rw[if_neg q,if_neg q];exact Paired.snoc r ⟨rfl,I,g⟩
def KT.keeps{H H':Hp}{kvs:List (List Key×V)}{xs:List (List Key×AD×VL)}(r:KT H kvs xs)(g:∀b ys,H b=some (.tup ys)->H' b=some (.tup ys)):KT H' kvs xs :=
 Paired.eM r fun _ _ z=>⟨z.1,g _ _ z.2.1,z.2.2⟩
section
variable{P:F0b}{w:F0c}{H:Hp}{h:Heap}{a:AD}
def iX{u:HO}(ok:DB P w H h)(e:Rd H a u):Bx P w H h a u:=e.ok ok
def UO{kvs:List (Key×V)}(ok:DB P w H h)(e:Rd H a (.dK kvs)):kvs.length<=sizeLine/\(a==sysModules)=false/\∃vs,KV kvs vs/\h.DictOf (DR P w) a vs :=
 show Bx P w H h a (.dK kvs) from iX ok e
def ou{kvs:List (Key×V)}(ok:DB P w H h)(e:H a=some (.dK kvs)):kvs.length<=sizeLine/\(a==sysModules)=false/\∃vs,KV kvs vs/\h.DictOf (DR P w) a vs:=UO ok (.inl e)
def RB{ks:List Key}(ok:DB P w H h)(e:H a=some (.tup (ks.map kV))):(tupleKind (DR P w)).is h ks a:=by
 obtain⟨_,g,r,o,R,M,n,I⟩:=(show Bx P w H h a (.tup (ks.map kV)) from ok a _ e);exact⟨o,g.toArray,n,R,M,I,by simpa using Tc r⟩
def UB{kvs:List (List Key×V)}(ok:DB P w H h)(e:Rd H a (.dT kvs)):kvs.length<=sizeLine/\(a==sysModules)=false /\∃xs,KT H kvs xs/\h.DictOfH (tupleKind (DR P w)) a xs:=by
 obtain⟨z,y,xs,r,o,es,ep,Z,Y,U,T,R⟩:=(show Bx P w H h a (.dT kvs) from iX ok e);refine⟨z,y,xs,r,o,es,ep,Z,Y,U,T,fun x g=>?_,R⟩;have all:∀ {l:List (List Key×V)} {m:List (List Key×AD×VL)},KT H l m->∀x∈m,(tupleKind (DR P w)).is h x.1 x.2.1:=by
  intro l m q
  induction q with
  |nil=>intro x g;exact nomatch g
  | @cons p q ps qs I t M=>
   intro x g;rcases aN.mp g with e|g
   .subst e;exact RB ok (by rw[<-I.1];exact I.2.1)
   .exact M x g
 exact all r x g
def UD{kvs:List (List Key×V)}(ok:DB P w H h)(e:H a=some (.dT kvs)):kvs.length<=sizeLine/\(a==sysModules)=false /\∃xs,KT H kvs xs/\h.DictOfH (tupleKind (DR P w)) a xs:=UB ok (.inl e)
end
def Pq(H:Hp)(a:AD)(y:V)(r:Option V):Prop :=
 (∃kvs k,Rd H a (.dK kvs)/\y=kV k/\r=C7 kvs k)\/∃kvs k b,Rd H a (.dT kvs)/\y=.ref b/\H b=some (.tup (k.map kV))/\r=C7 kvs k
def Vl(H:Hp)(a:AD)(y v:V)(H':Hp):Prop :=
 (∃kvs k,H a=some (.dK kvs)/\y=kV k/\kvs.length<sizeLine/\H'=upd H a (.dK (putK kvs k v))) \/
 ∃kvs k b,H a=some (.dT kvs)/\y=.ref b/\H b=some (.tup (k.map kV))/\kvs.length<sizeLine/\H'=upd H a (.dT (putK kvs k v))
def Pq.t{H:Hp}{a b:AD}{kvs:List (List Key×V)}{k:List Key}(e:H a=some (.dT kvs))(g:H b=some (.tup (k.map kV))):Pq H a (.ref b) (C7 kvs k):=.inr ⟨kvs,k,b,.inl e,rfl,g,rfl⟩
def Vl.t{H:Hp}{a b:AD}{kvs:List (List Key×V)}{k:List Key}{v:V}(e:H a=some (.dT kvs))(I:H b=some (.tup (k.map kV)))(g:kvs.length<sizeLine):Vl H a (.ref b) v (upd H a (.dT (putK kvs k v))):=.inr ⟨kvs,k,b,e,rfl,I,g,rfl⟩
section
variable{X:Cx}{pins:CG}{σ:St}{H:Hp}{s:SD}{a:AD}{y v:V}{u r:VL}{o:Option V}{A:F0d}{E:tE}
def Inv.big(I:At):sysModules<s.heap.objs.size:=by
 have h:mainGlobals<s.heap.objs.size:=(I.mod.glob.keeps I.bk).lt;exact Nat.lt_trans AS h
def Zw{Q:tE}(hu:A.units+1<cLine)(I:At)(g:Pq H a y (some v))(ry:RelV y u)(h:∀R s',Inv X pins σ H s'->RelV v R->Q R s'):wpAny By A (getItem (.ref a) u) Q E s:=by
 rcases g with ⟨kvs,k,e,Y,l⟩|⟨kvs,k,b,e,Y,eb,l⟩
 .subst Y;obtain⟨z,hd,vs,rel,Z⟩:=UO I.Al e;obtain⟨R,T,M⟩:=K6.some_of (v:=v) (o:=valueAt vs k) (by rw[l];exact rel.val k);exact wpAny_getItem_of (ZZ ry) Z.mapOf T (h R _ (I.tok _) M)
 .subst Y;cases (show u=Value.ref b from ry);obtain⟨z,hd,xs,rel,Z⟩:=UB I.Al e;obtain⟨R,T,M⟩:=K6.some_of (v:=v) (o:=(atKey xs k).map (·.2)) (by rw[l];exact rel.val k);obtain⟨p,hp,U⟩:=aC.mp T;refine wpAny_getItem_heap (tupleKind_room_in1 hu) (RB I.Al eb) Z hp ?_;rw[U];exact h R _ (I.tok _) M
def Sb{h':Heap}{t':Nat}{ob:HO}(I:At)(g:cU (H a))(M:Heap.SameBut a s.heap h')(R:∃q,h'.get? a=some q)(new:Bx X.prog X.w (upd H a ob) h' a ob):Inv X pins σ (upd H a ob) {s with heap:=h',toks:=t'} :=
 I.write (x:=a) (e:=a) g (.inl rfl) (fun b q T z=>(M.2 b T).trans z) R new
def mi{P:F0b}{w:F0c}{H':Hp}{h':Heap}{kvs:List (Key×V)}{vs:List (Key×VL)}(z:kvs.length<=sizeLine)(hd:(a==sysModules)=false)(rel:KV kvs vs)(dd:h'.DictOf (DR P w) a vs):Bx P w H' h' a (.dK kvs):=⟨z,hd,vs,rel,dd⟩
def cF{H':Hp}{Q:Unit->SD->Prop}(hu:A.units+1<cLine)(I:At)(g:Vl H a y v H')(ry:RelV y u)(rv:RelV v r)(h:∀s',Inv X pins σ H' s'->Q () s'):wpAny By A (setItem (.ref a) u r) Q E s:=by
 rcases g with ⟨kvs,k,e,ey,l,eH⟩|⟨kvs,k,b,e,ey,eb,l,eH⟩
 .subst ey eH;obtain⟨z,hd,vs,rel,dd⟩:=ou I.Al e;have T:vs.length<=sizeLine:=by rw[<-rel.length];exact z
  have Z:(putK kvs k v).length<=sizeLine:=by have:=MH kvs k v;lia
  refine wpAny_setItem_pairs (hsz:=T) (ZZ ry) dd fun h' M Y=>h _ ?_;have he:∃q,h'.get? a=some q:=let⟨q,_,_,R,_⟩:=M;⟨q,R⟩;exact Sb I (by rw[e];exact True.intro) Y he (mi Z hd (rel.put k rv) M)
 .subst ey eH;cases (show u=Value.ref b from ry);obtain⟨z,hd,xs,rel,dd⟩:=UD I.Al e;have T:xs.length<=sizeLine:=by rw[<-Paired.length rel];exact z
  have Z:(putK kvs k v).length<=sizeLine:=by have:=MH kvs k v;lia
  refine wpAny_setItem_heap (hsz:=T) (tupleKind_room_in1 hu) (RB I.Al eb) dd fun h' M Y=>h _ ?_;obtain⟨q,es,ep,R,h2,h3,h4,_,h5⟩:=M;refine Sb I (by rw[e];exact True.intro) Y ⟨q,R⟩ ⟨Z,hd,_,(rel.put k eb rv).keeps fun c ys ec=>?_,q,es,ep,R,h2,h3,h4,h5⟩;rw[AK (gq ec e GE)];exact ec
end
def ef(i:Expr):Prop:=∀g I,subscripted i false g I=operate [g,I] (getItem g I)
def YA{prog:F0b}{w:F0c}{A:F0d}{E:tE}{s:SD}{env:Env}{value slice:Expr}{pos:Pos}{T id:String}{Q:tE} (hl:typeLookup (.type T) "__getitem__" = pure (some (.builtin id)))(hs:ef slice) (h:wpAny As A (eval value env) (fun o R=>wpAny As A (eval slice env) (fun i g=>g.TypeIs o T/\wpAny As A (getItem o i) Q E g) E R) E s):wpAny As A (eval (.Subscript value slice pos) env) Q E s:=by
 refine Subscript_ (aY h (fun o R Y=>aY Y (fun i g I=>?_) fun _ _ x=>x) fun _ _ x=>x);obtain⟨Z,I⟩:=I;unfold subscriptTail;refine Wb ?_;rw[getitemInPython_of_ne Z.not_modules];refine Wb (wpAny_specialOf Z hl ?_);have fin:wpAny As A (subscripted slice false o i) (fun r M=>wpAny As A (letTemporaryGo value o r>>=fun _=>pure r) Q E M) E g:=by
  rw[hs o i];exact wpAny_operating (aY I (fun r M U=>Wb (wpAny_letTemporaryGo (aA U))) fun _ _ x=>x)
 first
  |exact aA (Wb fin)
  |exact Wb (aA (Wb fin))
  |exact Wb fin
def Wx{X:Cx}{pins:CG}{σ:St}{H:Hp}{s:SD}{a:AD}{y:V}{o:Option V}(I:At)(g:Pq H a y o):s.TypeIs (.ref a) "dict" := by
 rcases g with ⟨kvs,k,e,_,_⟩|⟨kvs,k,b,e,_,_,_⟩
 .obtain⟨_,_,vs,_,M⟩:=UO I.Al e;exact M.typeIs
 .obtain⟨_,_,xs,_,M⟩:=UB I.Al e;exact M.typeIs
def oo(I ty:TE):TE:=fun σ H Q=>I σ H fun x M=>ty σ M fun y g=>∃a v,x=.ref a/\Pq g a y (some v)/\Q v g
def oz(M ty I:TE):TS:=fun D σ H=>I σ H fun v U=>M σ U fun x T=>ty σ T fun y R=>∃a g,x=.ref a/\Vl R a y v g/\D.nx σ g
section
variable{X:Cx}{o i value:Expr}{pos pos':Pos}{td ty tv:TE}
def ip(hu:X.A.units+1<cLine)(ho:PE X o td)(hi:PE X i ty)(hs:ef i):PE X (.Subscript o i pos) (oo td ty):=by
 intro pins s σ H Q I h;refine YA PySem.F.slot_dict_getitem.lookup hs (A9 (ho pins s σ H _ I h) fun u s1 ⟨x,H1,I1,U,Z⟩=>A9 (hi pins s1 σ H1 _ I1 Z) fun iv s2 ⟨y,H2,R,T,a,v,ex,g,Y⟩=>?_);subst ex;obtain rfl:u=Value.ref a:=U;exact⟨Wx R g,Zw hu R g T fun w' s3 I3 M=>⟨v,H2,I3,M,Y⟩⟩
def je(hu:X.A.units+1<cLine)(ho:PE X o td)(hi:PE X i ty)(hv:PE X value tv)(hs:swapsWith value (some (.Subscript o i pos')) pos.line X.env=pure false):PS X (.Assign [.Subscript o i pos'] value pos) (oz td ty tv):=by
 intro pins s σ H D I h;refine wpAny_Assign_Subscript (A9 (hv pins s σ H _ I h) fun r s1 ⟨v,H1,I1,T,Z⟩=>A9 (ho pins s1 σ H1 _ I1 Z) fun u s2 ⟨x,H2,I2,R,Y⟩=>A9 (hi pins s2 σ H2 _ I2 Y) fun iv s3 ⟨y,H3,I3,M,a,H4,ex,g,U⟩=>?_) hs;subst ex;obtain rfl:u=Value.ref a:=R;exact cF hu I3 g M T fun s4 I4=>⟨σ,H4,I4,U⟩
end
def eQ{P:F0b}{w:F0c}{H:Hp}(h:Heap)(g:sysModules<h.objs.size):Bx P w H (h.push { cls:=.type "dict",data:=.dict #[]}) h.objs.size (.dT []) :=
 ⟨bP _,beq_eq_false_iff_ne.mpr (Ne.symm (aM g)),[],.nil,_,#[],0,Heap.get?_push_size _ rfl,⟨rfl,rfl,rfl⟩,rfl,rfl,List.nodup_nil⟩
def kK:TE:=fun _ H Q=>∀p,H p=none->Q (.ref p) (upd H p (.dT []))
section
variable{X:Cx}{pos:Pos}
def VV:PE X (.Dict [] [] pos) kK:=fun pins s σ H Q I h=>
 wpAny_Dict_empty ⟨.ref s.heap.objs.size,_,I.laid (a:=s.heap.objs.size) (o:=.dT []) (t':=s.toks) (fun _ _ q=>aF _ q) (aG _) (eQ s.heap I.big),rfl,h _ (I.Al.fresh (aG _))⟩
end
structure M2(X:Cx)(o:Expr)(m:Str)(apos:Pos)(e f:Expr)(cpos:Pos):Prop where
 base:attributeBase o m X.env (eval o X.env)=eval o X.env
 B2:((backTo cpos (starEach [e,f] X.env)).all (fun x=>!x.1)&&(backToKw cpos (keywordEach [] X.env)).all (fun x=>x.1.isSome)
  && decide (([e,f]:List Expr).length+([]:List Keyword).length+(if([]:List Keyword).isEmpty then 0 else 1)<30))=true
 line:(apos.endLine==cpos.line)=true
 trees:backTo cpos (starEach [e,f] X.env)=[(false,eval e X.env),(false,eval f X.env)]
def qB(H:Hp)(a:AD):Prop:=(∃kvs,Rd H a (.dK kvs))\/∃kvs,Rd H a (.dT kvs)
def mI{X:Cx}{pins:CG}{σ:St}{H:Hp}{s:SD}{a:AD}(I:At)(d:qB H a):s.TypeIs (.ref a) "dict" /\(∀b,Value.ref a=.ref b->∃ob,s.heap.get? b=some ob/\ob.dict=none)/\(a==sysModules)=false:=by
 rcases d with ⟨kvs,e⟩|⟨kvs,e⟩
 .obtain⟨_,hd,vs,_,g⟩:=UO I.Al e;refine⟨g.typeIs,fun b q=>?_,hd⟩;cases q;obtain⟨ob,_,_,R,M,_⟩:=g;exact⟨ob,R,M.2.1⟩
 .obtain⟨_,hd,xs,_,g⟩:=UB I.Al e;refine⟨g.typeIs,fun b q=>?_,hd⟩;cases q;obtain⟨ob,_,_,R,M,_⟩:=g;exact⟨ob,R,M.2.1⟩
end L2
namespace L2
open PySem PySem.Spec PyProof.Rows
section
variable{κ:Type}[DecidableEq κ]
def eR{kvs:List (κ×V)}{k:κ}(h:C7 kvs k=none):¬k∈kvs.map (·.1):=by
 intro m;obtain⟨p,g,e⟩:=aI.mp m;have q:(kvs.any fun kv=>decide (kv.1=k))=true:=List.any_eq_true.mpr ⟨p,g,decide_eq_true e⟩;rw[Ku,h]at q;exact absurd q BY
theorem X8:∀ {l:List κ} {k:κ},l.Nodup->¬k∈l->(l++[k]).Nodup
 |[],k,_,_=>by simp
 |a::r,k,h,g=>by
  obtain⟨M,I⟩:=bo.mp h;show(a::(r++[k])).Nodup;refine bo.mpr ⟨fun m=>?_,X8 I fun m=>g (aN.mpr (Or.inr m))⟩;rcases aW.mp m with q|q
  .exact M q
  .exact g (aN.mpr (Or.inl (List.mem_singleton.mp q).symm))
def jn{kvs:List (κ×V)}{k:κ}(v:V)(hn:(kvs.map (·.1)).Nodup)(h:C7 kvs k=none):((putK kvs k v).map (·.1)).Nodup:=by
 rw[VG v h,(CN)];exact X8 hn (eR h)
end
end L2
namespace DI
open PySem PySem.W PyProof.Rows
def RD(h:Heap)(d:AD)(es:Array DictEntry)(ep:Nat):Prop:=∃o,h.get? d=some o/\o.ExactDict/\o.data=.dict es ep
def St(h:Heap)(it d S:AD)(i n ep:Nat):Prop:=(i=0/\∃ok g,IsItemIter h it d 0 n ep ok g)\/∃ok g a f I,KdxIt h it d i n ep ok g a f/\h.get? a=some I/\a≠it/\a≠S
section
variable{prog:F0b}{w:F0c}{A:F0d}{E:tE}{s:SD}{it d:AD}{i ep:Nat}{es:Array DictEntry}{ok ov:VL}
def ZI{Q:Option VL->SD->Prop}(hit:IsItemIter s.heap it d i es.size ep ok ov)(hm:RD s.heap d es ep)(hi:i<es.size) (q:∀h',IsItemIterOut h' it d (i+1) es.size ep es[i].key es[i].val s.heap.objs.size->h'.get? s.heap.objs.size=some { cls:=.type "tuple",data:=.seq #[es[i].key,es[i].val]}->h'.objs.size=s.heap.objs.size+1 ->(∀b o,b≠it->s.heap.get? b=some o->h'.get? b=some o)->Q (some (.ref s.heap.objs.size)) {s with heap:=h'}):wpAny As A (pyNext (.ref it)) Q E s:=by
 obtain⟨I,g,dr,tk,os⟩:=s;obtain⟨od,e1,e2,e3⟩:=hm;have T:Shared.TypeIs ⟨I,g,dr,tk,os⟩ (.ref it) "dict_itemiterator" := ⟨_,hit,rfl⟩;have own:Builtin.Dict_items.ownsTuple "dict_itemiterator" = true:=by decide
 unfold pyNext;refine Wb (bh (aX (name:=Str.ofString "__next__") T bI
  (aa bI T F.entry_dict_itemiterator_next (Wb (aA (Wb (Wb ?_)))) (F.args_dict_itemiterator_next_1 _))))
 first|refine Wb (bF T (aA (Wb (bj hit rfl ?_))))|refine Wb (bQ T (aA (Wb (bj hit rfl ?_))))
 simp only[own,if_true];show wpAny _ _ (if(Value.ref d==Value.none)=true then _ else _) _ _ _;rw[if_neg (show ¬((Value.ref d==Value.none)=true) from aJ)];refine Wb (aA (Wb (bJ e1 e3 ?_)));rw[if_neg BY];refine Wb (aA (Wb (bN e1 e3 ?_)));rw[if_neg BY];refine aA ?_;simp only[show ¬((i:Int)<0) from by lia,if_false,Int.toNat_natCast,Array.getElem?_eq_getElem hi];refine Wb ?_
 first|refine Wb (bF T (aA (Wb (bH T ?_))))|refine Wb (bQ T (aA (Wb (bH T ?_))))
 show wpAny _ _ (setField (.ref it) 3 (rawInt ((i:Int)+1))>>=_) _ _ ⟨I,g,dr,tk,os⟩;refine Wb (ao hit BY fun R z1 U=>?_);have U:Heap.SameBut it I R:=U;have z1:IsItemIter R it d (i+1) es.size ep ok ov:=by
  have e:((i+1:Nat):Int)=(i:Int)+1:=by lia
  unfold IsItemIter;rw[e]
  simpa[rawInt]using z1
 have Z:Shared.TypeIs ⟨R,g,dr,tk,os⟩ (.ref it) "dict_itemiterator" := ⟨_,z1,rfl⟩;refine Wb (ae (Wb (bH Z (Wb (bH Z ?_)))));show wpAny _ _ (Builtin.Dict_items.pairFromOwner (.ref it) 6 es[i].key es[i].val) _ _ ⟨R,g,dr,tk,os⟩;unfold Builtin.Dict_items.pairFromOwner;refine Wb (wpAny_newTuple ?_);have Y:IsItemIter (R.push { cls:=.type "tuple",data:=.seq #[es[i].key,es[i].val]}) it d (i+1) es.size ep ok ov:=aF _ z1;have a2:(R.push { cls:=.type "tuple",data:=.seq #[es[i].key,es[i].val]}).get? I.objs.size=some { cls:=.type "tuple",data:=.seq #[es[i].key,es[i].val]}:=by rw[<-U.1];exact aU _ rfl
 have s2:(R.push { cls:=.type "tuple",data:=.seq #[es[i].key,es[i].val]}).objs.size=I.objs.size+1:=by rw[(L8),U.1]
 have k2:∀b o,b≠it->I.get? b=some o->(R.push { cls:=.type "tuple",data:=.seq #[es[i].key,es[i].val]}).get? b=some o:=fun b o M e=>aF _ ((U.2 b M).trans e);generalize R.push { cls:=.type "tuple",data:=.seq #[es[i].key,es[i].val]}=g2 at Y a2 s2 k2;have il:it<I.objs.size:=aE hit;show wpAny _ _ (Builtin.Dict_items.ownedTupleIsFree (.ref it)>>=_) _ _ ⟨g2,g,dr,tk,os⟩;rw[U.1];unfold Builtin.Dict_items.ownedTupleIsFree;refine Wb (Wb (aq Y rfl (x:=.none) rfl (aA ?_)));simp only[if_true];refine Wb (aq Y rfl (x:=ok) rfl (Wb (aq Y rfl (x:=ov) rfl (Wb (ao Y BY fun g3 z3 m3=>?_)))));refine Wb (ao (show IsItemIter g3 it d (i+1) es.size ep es[i].key ov from z3) BY fun g4 z4 m4=>?_);refine Wb (ao (show IsItemIter g4 it d (i+1) es.size ep es[i].key es[i].val from z4) BY fun g5 z5 m5=>?_);refine Wb (ao (show IsItemIterOut g5 it d (i+1) es.size ep es[i].key es[i].val I.objs.size from z5) BY fun g6 z6 m6=>?_);have up:∀b o,b≠it->g2.get? b=some o->g6.get? b=some o:=fun b o M e=>(m6.2 b M).trans ((m5.2 b M).trans ((m4.2 b M).trans ((m3.2 b M).trans e)));exact Wb (wpAny_letGo (aA (aA ⟨_,rfl,wpAny_pure (q g6 z6 (up _ _ (ax il) a2) (by show g6.objs.size=I.objs.size+1;rw[m6.1,m5.1,m4.1,m3.1,s2]) fun b o M e=>up b o M (k2 b o M e))⟩)))
def ZW{a:AD}{f:Bool}{oa:Obj}{Q:Option VL->SD->Prop}(hit:KdxIt s.heap it d i es.size ep ok ov a f)(ha:s.heap.get? a=some oa)(hai:a≠it)(hm:RD s.heap d es ep)(hi:i<es.size) (q:∀h',KdxIt h' it d (i+1) es.size ep ok ov a true->h'.get? s.heap.objs.size=some { cls:=.type "tuple",data:=.seq #[es[i].key,es[i].val]}->h'.objs.size=s.heap.objs.size+1 ->(∀b o,b≠it->s.heap.get? b=some o->h'.get? b=some o)->Q (some (.ref s.heap.objs.size)) {s with heap:=h'}):wpAny As A (pyNext (.ref it)) Q E s:=by
 obtain⟨M,g,Z,tk,os⟩:=s;obtain⟨od,e1,e2,e3⟩:=hm;have R:Shared.TypeIs ⟨M,g,Z,tk,os⟩ (.ref it) "dict_itemiterator" := ⟨_,hit,rfl⟩;have own:Builtin.Dict_items.ownsTuple "dict_itemiterator" = true:=by decide
 unfold pyNext;refine Wb (bh (aX (name:=Str.ofString "__next__") R bI
  (aa bI R F.entry_dict_itemiterator_next (Wb (aA (Wb (Wb ?_)))) (F.args_dict_itemiterator_next_1 _))))
 first|refine Wb (bF R (aA (Wb (bj hit rfl ?_))))|refine Wb (bQ R (aA (Wb (bj hit rfl ?_))))
 simp only[own,if_true];show wpAny _ _ (if(Value.ref d==Value.none)=true then _ else _) _ _ _;rw[if_neg (show ¬((Value.ref d==Value.none)=true) from aJ)];refine Wb (aA (Wb (bJ e1 e3 ?_)));rw[if_neg BY];refine Wb (aA (Wb (bN e1 e3 ?_)));rw[if_neg BY];refine aA ?_;simp only[show ¬((i:Int)<0) from by lia,if_false,Int.toNat_natCast,Array.getElem?_eq_getElem hi];refine Wb ?_
 first|refine Wb (bF R (aA (Wb (bH R ?_))))|refine Wb (bQ R (aA (Wb (bH R ?_))))
 show wpAny _ _ (setField (.ref it) 3 (rawInt ((i:Int)+1))>>=_) _ _ ⟨M,g,Z,tk,os⟩;refine Wb (ao hit BY fun I z1 T=>?_);have T:Heap.SameBut it M I:=T;have z1:KdxIt I it d (i+1) es.size ep ok ov a f:=by
  have e:((i+1:Nat):Int)=(i:Int)+1:=by lia
  unfold KdxIt;rw[e]
  simpa[rawInt]using z1
 have Y:Shared.TypeIs ⟨I,g,Z,tk,os⟩ (.ref it) "dict_itemiterator" := ⟨_,z1,rfl⟩;refine Wb (ae (Wb (bH Y (Wb (bH Y ?_)))));show wpAny _ _ (Builtin.Dict_items.pairFromOwner (.ref it) 6 es[i].key es[i].val) _ _ ⟨I,g,Z,tk,os⟩;unfold Builtin.Dict_items.pairFromOwner;refine Wb (wpAny_newTuple ?_);have U:KdxIt (I.push { cls:=.type "tuple",data:=.seq #[es[i].key,es[i].val]}) it d (i+1) es.size ep ok ov a f:=aF _ z1;have a2:(I.push { cls:=.type "tuple",data:=.seq #[es[i].key,es[i].val]}).get? M.objs.size=some { cls:=.type "tuple",data:=.seq #[es[i].key,es[i].val]}:=by rw[<-T.1];exact aU _ rfl
 have s2:(I.push { cls:=.type "tuple",data:=.seq #[es[i].key,es[i].val]}).objs.size=M.objs.size+1:=by rw[(L8),T.1]
 have k2:∀b o,b≠it->M.get? b=some o->(I.push { cls:=.type "tuple",data:=.seq #[es[i].key,es[i].val]}).get? b=some o:=fun b o hb e=>aF _ ((T.2 b hb).trans e);generalize I.push { cls:=.type "tuple",data:=.seq #[es[i].key,es[i].val]}=g2 at U a2 s2 k2;have il:it<M.objs.size:=aE hit;show wpAny _ _ (Builtin.Dict_items.ownedTupleIsFree (.ref it)>>=_) _ _ ⟨g2,g,Z,tk,os⟩;rw[T.1];unfold Builtin.Dict_items.ownedTupleIsFree;refine Wb (Wb (aq U rfl (x:=rawInt a) rfl ?_));show wpAny _ _ (loadIfAlive ((a:Int).toNat)>>=_) _ _ _;rw[(N3)];refine Wb (kdx_alive (k2 a oa hai ha) ?_);simp only[Option.isNone_some,Bool.false_eq_true,if_false];refine Wb (aq U rfl (x:=.bool f) rfl ?_);cases f with
 |true=>
  rw[if_neg (show ¬((Value.bool true != Value.bool true)=true) from aJ)];refine aA ?_;simp only[Bool.false_eq_true,if_false];exact aA (aA ⟨_,rfl,wpAny_pure (q g2 U a2 s2 k2)⟩)
 |false=>
  rw[if_pos (show(Value.bool false != Value.bool true)=true from rfl)];refine Wb (ao U BY fun g3 z3 m3=>aA ?_);simp only[Bool.false_eq_true,if_false];exact aA (aA ⟨_,rfl,wpAny_pure (q g3 z3 ((m3.2 _ (ax il)).trans a2) (by show g3.objs.size=M.objs.size+1;rw[m3.1,s2]) fun b o hb e=>(m3.2 b hb).trans (k2 b o hb e))⟩)
def next_end{U R:VL}{Q:Option VL->SD->Prop}(Y:A.handled=none)(hit:s.heap.get? it=some { cls:=.type "dict_itemiterator",dict:=none,data:=.fields #[U,R,.ref d,.int i 0,.int es.size 0,.int ep 0,ok,ov],slots:=#[]})(hm:RD s.heap d es ep)(hi:es.size<=i) (q:∀h',Heap.ExtBut it s.heap h'->Q none {s with heap:=h'}):wpAny As A (pyNext (.ref it)) Q E s:=by
 obtain⟨od,M,Z,I⟩:=hm;have g:s.TypeIs (.ref it) "dict_itemiterator" := ⟨_,hit,rfl⟩;have own:Builtin.Dict_items.ownsTuple "dict_itemiterator" = true:=by decide
 unfold pyNext;refine Wb (bh (aX (name:=Str.ofString "__next__") g bI
  (aa bI g F.entry_dict_itemiterator_next (Wb (aA (Wb (Wb ?_)))) (F.args_dict_itemiterator_next_1 _))))
 first|refine Wb (bF g (aA (Wb (bj hit rfl ?_))))|refine Wb (bQ g (aA (Wb (bj hit rfl ?_))))
 simp only[own,if_true];show wpAny _ _ (if(Value.ref d==Value.none)=true then _ else _) _ _ _;rw[if_neg (show ¬((Value.ref d==Value.none)=true) from aJ)];refine Wb (aA (Wb (bJ M I ?_)));rw[if_neg BY];refine Wb (aA (Wb (bN M I ?_)));rw[if_neg BY];refine aA ?_;simp only[show ¬((i:Int)<0) from by lia,if_false,Int.toNat_natCast,Array.getElem?_eq_none hi];refine Wb ?_
 first|refine Wb (bF g (aA ?_))|refine Wb (bQ g (aA ?_))
 show wpAny _ _ (setField (.ref it) 2 .none>>=_) _ _ s;refine Wb (wpAny_setField hit rfl BY ?_);show wpAny _ _ (newExc (.type "StopIteration") []>>=_) _ _ _;simp only[newExc,newTuple];refine Wb (Wb (aZ ?_ (by size_fits)));refine Wb (m:=firstArgMember _ _) (wpAny_of_eq (a:=Value.none) (by first|rfl|(simp only[firstArgMember];rfl)) (aZ ?_ (by size_fits)));simp only[raiseNew];refine Wb (wpAny_handled ?_);rw[show A.in1.handled=none from Y];refine Wb (aA (wpAny_throw ?_));refine Wb (wpAny_isInstance (T := "StopIteration") (b:=true) ⟨_,Heap.get?_push_size _ rfl,rfl⟩ isSubtype_stop (aA (q _ ?_)));exact((ar ..).extBut.push _).push _
def St.keep{h h':Heap}{S:AD}{n:Nat}(x:St h it d S i n ep)(k:∀b o,b≠S->h.get? b=some o->h'.get? b=some o)(M:it≠S):St h' it d S i n ep:=by
 rcases x with ⟨e,ok,ov,hit⟩|⟨ok,ov,a,f,R,hit,ha,I,g⟩
 .exact .inl ⟨e,ok,ov,k _ _ M hit⟩
 .exact .inr ⟨ok,ov,a,f,R,k _ _ M hit,k _ _ g ha,I,g⟩
def next_item{S:AD}{Q:Option VL->SD->Prop}(st:St s.heap it d S i es.size ep)(Z:S<s.heap.objs.size)(hm:RD s.heap d es ep)(hi:i<es.size) (q:∀h',St h' it d S (i+1) es.size ep->h'.get? s.heap.objs.size=some { cls:=.type "tuple",data:=.seq #[es[i].key,es[i].val]}->h'.objs.size=s.heap.objs.size+1 ->(∀b o,b≠it->s.heap.get? b=some o->h'.get? b=some o)->Q (some (.ref s.heap.objs.size)) {s with heap:=h'}):wpAny As A (pyNext (.ref it)) Q E s:=by
 rcases st with ⟨rfl,ok,ov,hit⟩|⟨ok,ov,a,f,Y,hit,ha,g,U⟩
 .exact ZI hit hm hi fun h' T M R I=>q h' (.inr ⟨_,_,_,false,_,T,M,Nat.ne_of_gt (aE hit),Nat.ne_of_gt Z⟩) M R I
 .exact ZW hit ha g hm hi fun h' T M R I=>q h' (.inr ⟨ok,ov,a,true,Y,T,I a Y g ha,g,U⟩) M R I
def dD{S:AD}{Q:Option VL->SD->Prop}(g:A.handled=none)(st:St s.heap it d S es.size es.size ep)(hm:RD s.heap d es ep) (q:∀h',Heap.ExtBut it s.heap h'->Q none {s with heap:=h'}):wpAny As A (pyNext (.ref it)) Q E s:=by
 rcases st with ⟨e,ok,ov,hit⟩|⟨ok,ov,a,f,I,hit,_⟩
 .rw[<-e]at hit;exact next_end (i:=es.size) g hit hm (aG _) q
 .exact next_end g hit hm (aG _) q
def Made(es:Array DictEntry)(lo:AD)(h:Heap)(as:tT):Prop:=∀(j:Nat) (a:AD),as[j]? = some a->lo<a/\∃e,es[j]? = some e/\h.get? a=some { cls:=.type "tuple",data:=.seq #[e.key,e.val]}
def loop{R:Result->SD->Prop}{S I:AD}(hh:A.handled=none)(hSI:S<I)(hSd:d≠S)(hId:d≠I)(hn:es.size<=sizeLine)(res:VL){h1:Heap} (hR:∀h' tk g c as,(∀b o,b≠S->b≠I->h1.get? b=some o->h'.get? b=some o)->h'.get? S=some { cls:=.type "list",dict:=none,data:=.seq g c,slots:=#[]}->as.length=es.size->Made es I h' as->g.toList=as.map Value.ref->R (.ok (.ret res)) {s with heap:=h',toks:=tk}):∀(k i:Nat) (h:Heap) (tk c:Nat) (g:Array VL) (as:tT),es.size-i=k->i<=es.size->St h I d S i es.size ep->RD h d es ep->(∀b o,b≠S->b≠I->h1.get? b=some o->h.get? b=some o) ->h.get? S=some { cls:=.type "list",dict:=none,data:=.seq g c,slots:=#[]}->g.toList=as.map Value.ref->as.length=i->Made es I h as->I<h.objs.size ->codeAny As A (.builtin "list.extend.loop" ⟨[.ref S,.ref I,res],[]⟩) R {s with heap:=h,toks:=tk}:=by
 have ne:S≠I:=aM hSI;intro k
 induction k with
 |zero=>
  intro i h tk c g as hk hi st hD kp hS ha hl hG hIs;have hin:i=es.size:=by lia
  subst hin;refine codeAny_builtin PySem.F.entry_extend_loop ?_;rw[Around.under_plainId bX _];show wpAny _ A.in1 (pyNext (.ref I)>>=_) _ _ _;refine Wb (dD (s:={s with heap:=h,toks:=tk}) (A:=A.in1) hh st hD fun h' he=>aA (hR h' tk g c as (fun b o M T e=>he b o T (kp b o M T e)) (he S _ ne hS) hl (fun j a Y=>?_) ha));obtain⟨M,e,T,r3⟩:=hG j a Y;exact⟨M,e,T,he a _ (ax M) r3⟩
 |succ k ih=>
  intro i h tk c g as hk hi st hD kp hS ha hl hG hIs;have Z:i<es.size:=by lia
  have hsz:g.size=i:=by rw[<-(VR),ha,(Af),hl]
  refine codeAny_builtin PySem.F.entry_extend_loop ?_;rw[Around.under_plainId bX _];show wpAny _ A.in1 (pyNext (.ref I)>>=_) _ _ _;refine Wb (next_item (s:={s with heap:=h,toks:=tk}) (S:=S) st (aE hS) hD Z fun h' st' ht hz U=>?_);dsimp only at ht hz U ⊢;have hS':=U S _ ne hS;have up:∀b o,b≠S->h'.get? b=some o->(h'.update S (Obj.mapSeq (·.push (Value.ref h.objs.size)))).get? b=some o:=fun b o hb e=>(Heap.get?_update_other _ _ (Ne.symm hb)).trans e;have hSl:S<h.objs.size:=aE hS;have hT:=up _ _ (ax hSl) ht;show wpAny _ A.in1 (updateSeq S (·.push (Value.ref h.objs.size))>>=_) _ _ _;refine Wb (wpAny_updateSeq hS' rfl (aA ⟨plainId_quiet bX _,ih (i+1) _ tk _ (g.push (Value.ref h.objs.size)) (as++[h.objs.size]) AC Z (st'.keep up (Ne.symm ne)) ?_ (fun b o M T e=>up b o M (U b o T (kp b o M T e)))
   (Heap.get?_update_self _ hS' rfl) (by rw[Array.toList_push,ha,(CN)];rfl) (by rw[(De),hl];rfl) (fun j b Y=>?_) (Nat.lt_trans hIs (aE hT))⟩) (by rw[hsz];lia) (by show(g.push (Value.ref h.objs.size)).size<=sizeLine+1;rw[Array.size_push,hsz];lia))
  .obtain⟨o,M,T⟩:=hD;exact⟨o,up d o hSd (U d o hId M),T⟩
  .by_cases hj1:j<as.length
   .rw[List.getElem?_append_left hj1]at Y;obtain⟨M,e,T,r3⟩:=hG j b Y;exact⟨M,e,T,up b _ (ax (Nat.lt_trans hSI M)) (U b _ (ax M) r3)⟩
   .rw[List.getElem?_append_right AC]at Y;have hj0:j-as.length=0:=by
     have:=(aB.mp Y).1;simp at this
     lia
    rw[hj0]at Y;have hb:h.objs.size=b:=by simpa using Y
    subst hb;have hji:j=i:=by lia
    subst hji;exact⟨hIs,_,Array.getElem?_eq_getElem Z,hT⟩
def iter{v:AD}{Q:tE}(g:s.heap.IsItemsView v d)(hm:RD s.heap d es ep) (q:Q (.ref s.heap.objs.size) {s with heap:=s.heap.push { cls:=.type "dict_itemiterator",data:=.fields #[.none,.bool false,.ref d,.int 0 0,.int es.size 0,.int ep 0,.none,.none]} }):wpAny As A (pyIter (.ref v)) Q E s:=by
 obtain⟨Y,T,U,R⟩:=id g;obtain⟨od,M,Z,I⟩:=hm;have own:Builtin.Dict_items.ownsTuple "dict_itemiterator" = true:=by decide
 refine wpAny_pyIter_slot g.typeIs F.slot_dict_items_iter (aa F.slot_dict_items_iter g.typeIs F.entry_dict_items_iter ?_ (F.args_dict_items_iter_1 _));unfold Builtin.«dict_items.__iter__»;refine Wb (aA (Wb ?_));unfold Builtin.Dict_items.dictOf;refine Wb (aq T R (x:=.ref d) rfl (aA (Wb ?_)));unfold Builtin.Dict_items.newIterator;refine Wb (bJ M I (Wb (bN M I ?_)));simp only[own,if_true];refine aZ (aA ⟨_,rfl, "dict_itemiterator",_,⟨_,Heap.get?_push_size _ rfl,rfl⟩,F.slot_dict_itemiterator_next.lookup,?_⟩)
  (by simp only[sizeOk,Builtin.Dict_items.ownedTupleFields,List.size_toArray,List.length_append,List.length_cons,List.length_nil,sizeLine_eq];lia)
 simpa[rawInt,Builtin.Dict_items.ownedTupleFields]using q
def extend{R:Result->SD->Prop}{v:AD}(hh:A.handled=none)(Z:s.heap.IsItemsView v d)(hm:RD s.heap d es ep)(S:AD)(hSv:S≠v)(M:d≠S)(res:VL)(c0:Nat)(hS:s.heap.get? S=some { cls:=.type "list",data:=.seq #[] c0})
 (hR:∀h' tk g c as,(∀b o,b≠S->s.heap.get? b=some o->h'.get? b=some o)->h'.get? S=some { cls:=.type "list",dict:=none,data:=.seq g c,slots:=#[]}->as.length=es.size->Made es s.heap.objs.size h' as->g.toList=as.map Value.ref->R (.ok (.ret res)) {s with heap:=h',toks:=tk})(hn:es.size<=sizeLine) :
  wpAny As A.in1 (Builtin.List.listExtendWith (.ref S) (.ref v) res) (fun fin s'=>match fin with|.done f=>R (.ok f) s'|.again c'=>c'.quiet=true/\codeAny As A c' R s') (fun e s'=>R (.error e) s') s:=by
 have U:S<s.heap.objs.size:=aE hS;have hdI:d<s.heap.objs.size:=by obtain⟨o,e,_⟩:=hm;exact aE e
 have go:∀(h:Heap) (c1 tk:Nat),(∀b o,b≠S->(s.heap.push { cls:=.type "dict_itemiterator",data:=.fields #[.none,.bool false,.ref d,.int 0 0,.int es.size 0,.int ep 0,.none,.none]}).get? b=some o->h.get? b=some o) ->
   h.get? S=some { cls:=.type "list",data:=.seq #[] c1}->codeAny As A (.builtin "list.extend.loop" ⟨[.ref S,.ref s.heap.objs.size,res],[]⟩) R {s with heap:=h,toks:=tk}:=fun h c1 tk hk hS1=>by
  have hI:=hk s.heap.objs.size _ (ax U) (aU _ rfl);refine loop (h1:=s.heap) (ep:=ep) hh U M (aM hdI) hn res (fun h' Y g c as r1 r2 r3 r4 r5=>hR h' Y g c as (fun b o I e=>r1 b o I (aM (aE e)) e) r2 r3 r4 r5) es.size 0 h tk c1 #[] [] (Nat.sub_zero _) (bP _)
   (.inl ⟨rfl,.none,.none,hI⟩) ?_ (fun b o I _ e=>hk b o I (aF _ e)) hS1 rfl rfl (fun j a hj=>by simp at hj) (aE hI)
  obtain⟨o,e,r⟩:=hm;exact⟨o,hk d o M (aF _ e),r⟩
 unfold Builtin.List.listExtendWith;refine Wb (wpAny_typeOf (T := "dict_items") Z.typeIs ?_);have t1:Builtin.List.listSameRef (.ref S) (.ref v)=false:=by simp[Builtin.List.listSameRef,hSv]
 have t2:(Value.type "dict_items" == Value.type "list")=false:=by decide
 have t3:(Value.type "dict_items" == Value.type "tuple")=false:=by decide
 simp only[t1,t2,t3,Bool.or_false,Bool.false_eq_true,if_false];refine Wb (iter Z hm ?_);have g1:=aF { cls:=.type "dict_itemiterator",data:=.fields #[.none,.bool false,.ref d,.int 0 0,.int es.size 0,.int ep 0,.none,.none]} hS;refine Wb (ae (kdx_hint (let⟨o,ho,hc,_⟩:=Z;⟨o,Heap.get?_push_of_some _ ho,hc⟩) ?_));refine wpAny_ite_split (fun _=>?_) (fun _=>aA ⟨plainId_quiet bX _,go _ c0 _ (fun b o _ e=>e) g1⟩);refine Wb (bO (Wb ?_));show wpAny _ _ (updateSeq S (·.push .none)>>=fun _=>updateSeq S (·.pop)) _ _ _;refine Wb (wpAny_updateSeq g1 rfl ?_);have g2:=Heap.get?_update_self (Obj.mapSeq (·.push Value.none)) g1 rfl;refine wpAny_updateSeq (hz:=by seq_fits) g2 rfl ?_;have g3:=Heap.get?_update_self (Obj.mapSeq (·.pop)) g2 rfl;exact aA ⟨plainId_quiet bX _,go _ _ _ (fun b o I e=>(Heap.get?_update_other _ _ (Ne.symm I)).trans ((Heap.get?_update_other _ _ (Ne.symm I)).trans e)) g3⟩
def gather{R:List VL->SD->Prop}{v:AD}(hh:A.handled=none)(Z:s.heap.IsItemsView v d)(hm:RD s.heap d es ep)(hn:es.size<=sizeLine) (k:∀(h1:Heap) (tk:Nat) (as:tT),s.heap.objs.size<h1.objs.size->(∀b u,s.heap.get? b=some u->h1.get? b=some u)->as.length=es.size->Made es s.heap.objs.size h1 as->R (as.map Value.ref) {s with heap:=h1,toks:=tk}):wpAny As A (collect (.ref v)) R E s:=by
 have lv:v<s.heap.objs.size:=by obtain⟨o,e,_⟩:=Z;exact aE e
 have ld:d<s.heap.objs.size:=by obtain⟨o,e,_⟩:=hm;exact aE e
 unfold collect;refine Wb (wpAny_runValue (codeAny_builtin entry_proto_collect' ?_));rw[Around.under_plainId PySem.F.plain_proto_collect _];show wpAny _ A.in1 (newList []>>=fun x=>again (.builtin "list.__iadd__" ⟨[x,.ref v],[]⟩)) _ _ s;refine Wb (aZ (aA ⟨plainId_quiet PySem.F.plain_list_iadd _,codeAny_builtin entry_list_iadd' ?_⟩));rw[Around.under_plainId PySem.F.plain_list_iadd _];have g0:(s.heap.push { cls:=.type "list",data:=.seq ([]:List VL).toArray}).get? s.heap.objs.size=some { cls:=.type "list",data:=.seq #[]}:=aU _ rfl;have Y:(s.heap.push { cls:=.type "list",data:=.seq ([]:List VL).toArray}).objs.size=s.heap.objs.size+1:=Heap.size_push ..;have main:=extend (prog:=prog) (w:=w) (A:=A) (s:={s with heap:=s.heap.push { cls:=.type "list",data:=.seq ([]:List VL).toArray} }) (es:=es) (ep:=ep) hh (v:=v) (d:=d) (by obtain⟨o,e,r⟩:=Z;exact⟨o,Heap.get?_push_of_some _ e,r⟩) (by obtain⟨o,e,r⟩:=hm;exact⟨o,Heap.get?_push_of_some _ e,r⟩)
  s.heap.objs.size (ax lv) (aM ld) (.ref s.heap.objs.size) 0 g0
  (R:=fun q s1=>∃h1 tk g c as,q=.ok (.ret (.ref s.heap.objs.size))/\s1={s with heap:=h1,toks:=tk}/\(∀b u,s.heap.get? b=some u->h1.get? b=some u)/\h1.get? s.heap.objs.size=some { cls:=.type "list",dict:=none,data:=.seq g c,slots:=#[]}/\as.length=es.size/\Made es s.heap.objs.size h1 as/\g.toList=as.map Value.ref)
  (fun h1 tk g c as M I T U ha=>⟨h1,tk,g,c,as,rfl,rfl,fun b u e=>M b u (aM (aE e)) (aF _ e),I,T,fun j a hj=>by
   obtain⟨r1,r2⟩:=U j a hj;exact⟨Nat.lt_trans (by show s.heap.objs.size<(s.heap.push _).objs.size;rw[Y];exact Nat.lt_succ_self _) r1,r2⟩,ha⟩) hn
 refine aY main (fun fin s1 x=>?_) fun e s1 x=>?_
 .cases fin with
  |done f=>
   obtain⟨h1,tk,g,c,as,e,rfl,M,I,T,U,ha⟩:=x;cases e;show wpAny _ A (load s.heap.objs.size>>=_) _ _ _;refine Wb (wpAny_load I (aA ?_));show R g.toList _;rw[ha];exact k h1 tk as (aE I) M T U
  |again c1=>
   refine⟨x.1,codeAny_mono x.2 fun q s2 y=>?_⟩;obtain⟨h1,tk,g,c,as,rfl,rfl,M,I,T,U,ha⟩:=y;show wpAny _ A (load s.heap.objs.size>>=_) _ _ _;refine Wb (wpAny_load I (aA ?_));show R g.toList _;rw[ha];exact k h1 tk as (aE I) M T U
 .obtain⟨_,_,_,_,_,e,_⟩:=x;cases e
end
end DI
namespace IT
open PySem PySem.W PyProof.Rows PySem.SeqAt
def lt:List Int->List Int->Bool
 |[],[]=>false
 |[],_::_=>true
 |_::_,[]=>false
 |a::r,b::q=>if a=b then lt r q else decide (a<b)
theorem lt_irrefl:∀a,lt a a=false
 |[]=>rfl
 |a::r=>by rw[lt,if_pos rfl,lt_irrefl r]
theorem lt_trans:∀a b c,lt a b=true->lt b c=true->lt a c=true
 |[],[],_,h,_=>by cases h
 |[],_::_,[],_,h=>by cases h
 |[],_::_,_::_,_,_=>rfl
 |_::_,[],_,h,_=>by cases h
 |_::_,_::_,[],_,h=>by cases h
 |a::r,b::q,c::p,h,k=>by
  rw[lt]at h k ⊢;by_cases I:a=b
  .subst I;rw[if_pos rfl]at h;by_cases g:a=c
   .rw[if_pos g]at k ⊢;exact lt_trans r q p h k
   .rw[if_neg g]at k ⊢;exact k
  .rw[if_neg I]at h;have h:=ah h;by_cases g:b=c
   .subst g;rw[if_neg I];exact bL h
   .rw[if_neg g]at k;have k:=ah k;rw[if_neg AC];exact bL AC
theorem JB:∀a b,lt a b=false->lt b a=false->a=b
 |[],[],_,_=>rfl
 |[],_::_,h,_=>by cases h
 |_::_,[],_,h=>by cases h
 |a::r,b::q,h,k=>by
  rw[lt]at h k;by_cases e:a=b
  .subst e;rw[if_pos rfl]at h k;rw[JB r q h k]
  .rw[if_neg e]at h;rw[if_neg (Ne.symm e)]at k;have h:=bE h;have k:=bE k
   lia
def Wu(a b c:tJ)(h:lt a c=true):lt a b=true\/lt b c=true:=by
 cases k:lt a b with
 |true=>exact .inl rfl
 |false=>
  right
  cases m:lt b c with
  |true=>rfl
  |false=>
   cases n:lt b a with
   |true=>have:=lt_trans b a c n h;rw[m]at this;cases this
   |false=>have:=JB a b k n;subst this;rw[m]at h;cases h
def ord:KeyOrd where
 α:=List Int
 blt:=lt
 irrefl:=lt_irrefl
 trans:=lt_trans
 negTrans:=Wu
 total:=JB
def Is:List Int->List VL->Prop
 |[],us=>us=[]
 |k::r,us=>∃t rest,us=.int k t::rest/\Is r rest
theorem Is.length:∀ {ks:List Int} {us:List VL},Is ks us->us.length=ks.length
 |[],us,h=>by rw[Is]at h;subst h;rfl
 |k::r,us,h=>by
  rw[Is]at h;obtain⟨t,rest,rfl,h⟩:=h;rw[(GU),(GU),Is.length h]
theorem Is.inj:∀ {ks M:List Int} {us:List VL},Is ks us->Is M us->ks=M
 |[],[],_,_,_=>rfl
 |[],_::_,us,h,k=>by
  simp only[Is]at h k;subst h;obtain⟨t,rest,e,_⟩:=k;cases e
 |_::_,[],us,h,k=>by
  simp only[Is]at h k;subst k;obtain⟨t,rest,e,_⟩:=h;cases e
 |a::r,b::q,us,h,k=>by
  rw[Is]at h k;obtain⟨t,rest,rfl,h⟩:=h;obtain⟨T,g,e,k⟩:=k
  injection e with I R
  injection I with I U
  subst I R;rw[Is.inj h k]
theorem Is.get:∀ {ks:List Int} {us:List VL} {j:Nat},Is ks us->(h:j<us.length)->∃k t,ks[j]? = some k/\us[j]=.int k t
 |[],us,j,h,g=>by rw[Is]at h;subst h;exact absurd g (av _)
 |k::r,us,j,h,g=>by
  rw[Is]at h;obtain⟨t,rest,rfl,h⟩:=h;cases j with
  |zero=>exact⟨k,t,rfl,rfl⟩
  |succ j=>
   obtain⟨M,I,T,R⟩:=Is.get (j:=j) h (by simpa using g);exact⟨M,I,by simpa using T,by simpa using R⟩
def gU{h:Heap}{a:AD}{x y:Array VL}(h1:h.IsTuple a x)(M:h.IsTuple a y):x=y:=by
 obtain⟨o,R,_,n,T⟩:=h1;obtain⟨o',g,_,U,I⟩:=M;rw[R]at g;cases g;rw[T]at I;cases I
 rfl
def rF{s:SD}{ks I:tJ}{A:F0d}{a b:AD}{g its':sy}(h1:s.heap.IsTuple a g.toArray)(k1:Is ks g)(h2:s.heap.IsTuple b its'.toArray)(k2:Is I its')(hu:A.units<cLine):RcAt A s (.ref a) (.ref b) (decide (ks=I)):=by
 have key:=RcAt.tuples (s:=s) (A:=A) (e:=fun j=>decide (ks[j]? = I[j]?)) h1 h2 hu fun j Z Y=>by
  obtain⟨x,t,q1,q2⟩:=k1.get (j:=j) (by simpa using Z);obtain⟨y,u,q3,q4⟩:=k2.get (j:=j) (by simpa using Y);have e:decide (ks[j]? = I[j]?)=(x==y):=by
   rw[q1,q3];by_cases M:x=y
   .subst M;simp
   .rw[decide_eq_false (by simpa using M)];simp[M]
  rw[e];have:=EqAt.int_int (A:=A.in1) (s:=s) x t y u
  simpa[q2,q4]using this
 have ev:((List.range (min g.toArray.size its'.toArray.size)).all (fun j=>decide (ks[j]? = I[j]?))&&g.toArray.size==its'.toArray.size)=decide (ks=I):=by
  have U:g.toArray.size=ks.length:=by rw[<-k1.length];simp
  have T:its'.toArray.size=I.length:=by rw[<-k2.length];simp
  rw[U,T];by_cases R:ks=I
  .subst R;simp
  .rw[decide_eq_false R];cases hl:ks.length==I.length with
   |false=>rw[Bool.and_false]
   |true=>
    rw[Bool.and_true];have hl':ks.length=I.length:=by simpa using hl
    refine aj.mpr fun z=>R (List.ext_getElem? fun i=>?_);by_cases hi:i<ks.length
    .have:=List.all_eq_true.mp z i (List.mem_range.mpr AC)
     simpa using this
    .rw[List.getElem?_eq_none AC,List.getElem?_eq_none AC]
 rw[ev]at key;exact key
def WR{s:SD}{ks I:tJ}{A:F0d}{a b:AD}{g its':sy}(h1:s.heap.IsTuple a g.toArray)(k1:Is ks g)(M:s.heap.IsTuple b its'.toArray)(k2:Is I its')(R:A.units<cLine):EqAt A s (.ref a) (.ref b) (decide (ks=I)):=by
 by_cases ea:a=b
 .subst ea;have T:g=its':=by simpa using gU h1 M
  subst T;rw[k1.inj k2,decide_eq_true rfl];exact EqAt.same _
 .exact EqAt.of_refs ea (rF h1 k1 M k2 R)
section
open PySem.AutoSeq1 (wpAny_loadPart')
open PySem.MeetsSeq PySem.MeetsSeq2 PySem.MeetsSeq3
def gF(l b:AD)(items I:Array VL)(n n2:Nat)(dd dd2:Option AD)(sl sl2:Array (Option VL))(t u:tJ):Meets (Builtin.«tuple.__lt__» ⟨[.ref l,.ref b],[]⟩) (fun A R s=>s.heap.get? l=some { cls:=.type "tuple",dict:=dd,data:=.seq items n,slots:=sl}/\s.heap.get? b=some { cls:=.type "tuple",dict:=dd2,data:=.seq I n2,slots:=sl2} /\Is t items.toList/\Is u I.toList/\A.units<cLine/\R (.ok (.ret (.bool (lt t u)))) s) :=
 .of_wp fun prog w A R s h=>by
  obtain⟨hp,g,d,tk,os⟩:=s;obtain⟨hl,hb,hi,hj,hun,h⟩:=h;have f2:=AutoSeq1.sub_tuple_tuple;have z1:items.size=t.length:=by rw[<-Is.length hi];simp
  have z2:I.size=u.length:=by rw[<-Is.length hj];simp
  wp_walk using wpAny_loadPart' hl,wpAny_loadPart' hb,wpAny_forIn_list _ (fun rest b s'=>b.1=none/\s'=⟨hp,g,d,tk,os⟩/\∃(vs ws:List VL) (t' Y:List Int),rest=vs.zip ws /\
   Is t' vs/\Is Y ws/\t'.length+I.size=Y.length+items.size/\R (.ok (.ret (.bool (lt t' Y)))) ⟨hp,g,d,tk,os⟩) _
  case turn=>
   rintro⟨y,x⟩ rest b s' ⟨hb',rfl,vs,ws,t',Y,Z,U,T,M,hR⟩;cases t' with
   |nil=>rw[Is]at U;subst U;rw[List.zip_nil_left]at Z;cases Z
   |cons bt rt=>
    cases Y with
    |nil=>rw[Is]at T;subst T;rw[List.zip_nil_right]at Z;cases Z
    |cons bu ru=>
     rw[Is]at U T;obtain⟨a1,v1,rfl,p3⟩:=U;obtain⟨a2,v2,rfl,q3⟩:=T;rw[(Nr)]at Z
     injection Z with hyx hrest
     injection hyx with hy hx
     subst hy hx;rw[lt]at hR;simp only[List.length_cons]at M;have he:=EqAt.int_int (A:=A.in1) (s:=⟨hp,g,d,tk,os⟩) bt a1 bu a2;refine Wb (he prog w _ _ ?_);by_cases hc:bt=bu
     .rw[if_pos hc]at hR;rw[beq_iff_eq.mpr hc]
      wp_walk
      exact⟨rfl,rfl,_,_,_,_,hrest,p3,q3,by lia,hR⟩
     .rw[if_neg hc]at hR;rw[beq_eq_false_iff_ne.mpr hc];have hri:∀(E:VL->SD->Prop) (Q:VL->SD->Prop),Q (.bool (decide (bt<bu))) ⟨hp,g,d,tk,os⟩->wpAny As A.in1 (richCompare .Lt (.int bt a1) (.int bu a2)) Q E ⟨hp,g,d,tk,os⟩:=fun E Q h=>wpAny_lt_int h
      wp_walk using hri
      exact⟨_,rfl,by simpa using hR⟩
  case fin=>
   rintro⟨b1,b2⟩ s' ⟨hb',rfl,vs,ws,t',Y,Z,U,T,M,hR⟩;simp only at hb';subst hb';have hv:lt t' Y=decide (items.size<I.size):=by
    cases t' with
    |nil=>
     cases Y with
     |nil=>
      simp only[List.length_nil]at M;exact(au AC).symm
     |cons c q=>
      simp only[List.length_cons,List.length_nil]at M;exact(bL AC).symm
    |cons bt rt=>
     cases Y with
     |nil=>
      simp only[List.length_cons,List.length_nil]at M;exact(au AC).symm
     |cons c q=>
      rw[Is]at U T;obtain⟨_,_,rfl,_⟩:=U;obtain⟨_,_,rfl,_⟩:=T;rw[(Nr)]at Z;cases Z
   rw[hv]at hR
   wp_walk
   exact⟨_,rfl,by simpa[Builtin.Tuple.tupleCompareSizes]using hR⟩
  case h=>
   exact⟨rfl,rfl,items.toList,I.toList,t,u,rfl,hi,hj,by lia,h⟩
end
end IT
namespace IT
open PySem PySem.W PyProof.Rows PySem.SeqAt
section
open PySem.MeetsSeq PySem.MeetsSeq2 PySem.MeetsSeq3
variable{prog:F0b}{w:F0c}{A:F0d}{E:tE}{s:SD}{t u:tJ}{a b:AD}{its its':sy}
def oI{Q:tE}(h1:s.heap.IsTuple a its.toArray)(k1:Is t its)(h2:s.heap.IsTuple b its'.toArray)(k2:Is u its')(hu:A.units+1<cLine)(h:Q (.bool (lt t u)) s):wpAny As A (richCompare .Lt (.ref a) (.ref b)) Q E s:=by
 obtain⟨⟨cls,dd,data,sl⟩,Y,Z,n,M⟩:=id h1;obtain⟨⟨cls2,U,data2,T⟩,I,R,n2,g⟩:=id h2;simp only at Z M R g;subst Z M R g;exact richCompare_meets_room (op:=.Lt) ⟨_,Y,rfl⟩ ⟨_,I,rfl⟩ PySem.F.slot_tuple_lt PySem.F.entry_tuple_lt (PySem.F.args_tuple_lt_2 _ _) (gF a b its.toArray its'.toArray n n2 dd U sl T t u)
  ⟨Y,I,by simpa using k1,by simpa using k2,by lia,show Value.bool (lt t u)≠Value.notImplemented/\Q (.bool (lt t u)) s from⟨(fun x=>nomatch x),h⟩⟩ AC
def Xv{Q:Bool->SD->Prop}(h1:s.heap.IsTuple a its.toArray)(k1:Is t its)(I:s.heap.IsTuple b its'.toArray)(k2:Is u its')(g:A.units+1<cLine)(h:Q (lt t u) s):wpAny As A (oneLt' false (.ref a) (.ref b)) Q E s:=by
 rw[oneLt'_eq];simp only[Bool.false_eq_true,if_false];exact Wb (oI h1 k1 I k2 g (wpAny_truthy_bool h))
end
abbrev Tm:=List Int×List Int
def Hk(x y:Tm):Bool:=if x.1=y.1 then lt x.2 y.2 else lt x.1 y.1
def Yr(x:Tm):Hk x x=false:=by unfold Hk;rw[if_pos rfl,lt_irrefl]
def TZ(x y:Tm)(h:Hk x y=false)(k:Hk y x=false):x=y:=by
 unfold Hk at h k;by_cases e:x.1=y.1
 .rw[if_pos e]at h;rw[if_pos e.symm]at k;exact Prod.ext e (JB _ _ h k)
 .rw[if_neg e]at h;rw[if_neg (Ne.symm e)]at k;exact absurd (JB _ _ h k) e
def Sy(x y z:Tm)(h:Hk x y=true)(k:Hk y z=true):Hk x z=true:=by
 unfold Hk at h k ⊢;by_cases I:x.1=y.1
 .rw[if_pos I]at h;by_cases g:y.1=z.1
  .rw[if_pos g]at k;rw[if_pos (I.trans g)];exact lt_trans _ _ _ h k
  .rw[if_neg g]at k;rw[if_neg (fun q=>g (I.symm.trans q)),I];exact k
 .rw[if_neg I]at h;by_cases g:y.1=z.1
  .rw[if_neg (fun q=>I (q.trans g.symm)),<-g];exact h
  .rw[if_neg g]at k;have:=lt_trans _ _ _ h k;rw[if_neg (fun q=>by rw[q,lt_irrefl]at this;cases this)];exact this
def Wg(a b c:Tm)(h:Hk a c=true):Hk a b=true\/Hk b c=true:=by
 cases k:Hk a b with
 |true=>exact .inl rfl
 |false=>
  right
  cases m:Hk b c with
  |true=>rfl
  |false=>
   cases n:Hk b a with
   |true=>have:=Sy b a c n h;rw[m]at this;cases this
   |false=>have:=TZ a b k n;subst this;rw[m]at h;cases h
def K8:KeyOrd where
 α:=Tm
 blt:=Hk
 irrefl:=Yr
 trans:=Sy
 negTrans:=Wg
 total:=TZ
def Lq(h:Heap)(k:Tm)(v:VL):Prop:=∃(a b c:AD) (I g:List VL),v=.ref a/\h.IsTuple a [.ref b,.ref c].toArray/\h.IsTuple b I.toArray/\Is k.1 I/\h.IsTuple c g.toArray/\Is k.2 g
def Lq.ext{h h':Heap}(e:GS.Ext h h'){k:Tm}{v:VL}(x:Lq h k v):Lq h' k v:=by
 obtain⟨a,b,c,i1,i2,rfl,T,R,M,I,g⟩:=x;exact⟨a,b,c,i1,i2,rfl,TH.Oj e T,TH.Oj e R,M,TH.Oj e I,g⟩
section
open PySem.MeetsSeq PySem.MeetsSeq2 PySem.MeetsSeq3
variable{prog:F0b}{w:F0c}{A:F0d}{E:tE}{s:SD}
def fk{x y:Tm}{u v:VL}{Q:Bool->SD->Prop}(h1:Lq s.heap x u)(h2:Lq s.heap y v)(hu:A.units+2<cLine)(h:Q (Hk x y) s):wpAny As A (keyLt' (tuples' false) u v) Q E s:=by
 obtain⟨a,b,l,i1,i2,rfl,k1,k2,k3,k4,k5⟩:=h1;obtain⟨a',b',l',j1,j2,rfl,m1,Z,Y,U,T⟩:=h2;obtain⟨o,ho,hc,n,hd⟩:=id k1;obtain⟨o2,I,hc2,n2,M⟩:=id m1;refine kat_lt ho hd I M ?_;unfold Hk at h;show KatLex prog w A false (decide (2<2)) Q [(.ref b,.ref b'),(.ref l,.ref l')] 0 s;refine kat_cons (WR k2 k3 Z Y AC prog w _ _ ?_);by_cases g:x.1=y.1
 .rw[decide_eq_true g];rw[if_pos g]at h;refine kat_yes (kat_cons (WR k4 k5 U T AC prog w _ _ ?_));by_cases R:x.2=y.2
  .rw[decide_eq_true R];rw[R,lt_irrefl]at h;exact kat_yes (kat_nil h)
  .rw[decide_eq_false R];exact kat_no (by rw[(LH)];exact Xv k4 k5 U T AC h)
 .rw[decide_eq_false g];rw[if_neg g]at h;exact kat_no (by rw[(LH)];exact Xv k2 k3 Z Y AC h)
def Lq.tt{h:Heap}{x:Tm}{v:VL}(z:Lq h x v):TH.WI h v:=by
 obtain⟨a,b,l,i1,i2,rfl,I,g,T,R,M⟩:=z;exact⟨a,b,_,[.ref l],rfl,I,g⟩
def gJ{h0:Heap}{ks:List Tm}{us:sy}(T:us.length=ks.length)(M:∀(i:Nat) (x:Tm) (u:VL),ks[i]? = some x->us[i]? = some u->Lq h0 x u):GS.V6 K8 prog w h0 2 ks us :=
 ⟨T,fun κ=>κ=tuples' false,fun A E s Q g h=>TH.Xz (fun v R=>by
  obtain⟨i,hi,rfl⟩:=List.getElem_of_mem R;exact((M i _ _ (aV AC) (aV hi)).ext g).tt) (h _ rfl),
  fun A s κ g hr I E i j x y u v Q h1 Z Y U q=>by
  subst I;exact fk ((M i x u Y h1).ext g) ((M j y v U Z).ext g) AC q⟩
end
end IT
namespace DI
open PySem PySem.W PyProof.Rows PySem.SeqAt GS
section
variable{prog:F0b}{w:F0c}{A:F0d}{E:tE}{s:SD}{d v:AD}{ep:Nat}{es:Array DictEntry}{ks:List IT.Tm}
def nH(h:Heap)(k:IT.Tm)(e:DictEntry):Prop:=∃(b c:AD) (I g:List VL),e.key=.ref b/\e.val=.ref c/\h.IsTuple b I.toArray/\IT.Is k.1 I/\h.IsTuple c g.toArray/\IT.Is k.2 g
def Ui{b:Bool}{Q:tE}(hh:A.handled=none)(hv:s.heap.IsItemsView v d)(hm:RD s.heap d es ep)(hn:es.size<64)(hl:ks.length=es.size)(he:∀(j:Nat) (k:IT.Tm) (e:DictEntry),ks[j]? = some k->es[j]? = some e->nH s.heap k e)(hu:A.units+4<cLine) (h:∀(h':Heap) (D tk:Nat) (ix:List Nat) (I:Nat) (as:tT),(∀b u,s.heap.get? b=some u->h'.get? b=some u)->as.length=es.size->(∀(j:Nat) (a:AD),as[j]? = some a->s.heap.objs.size<a/\a<D/\∃e,es[j]? = some e/\h'.get? a=some { cls:=.type "tuple",data:=.seq #[e.key,e.val]}) ->h'.get? D=some (seqObj "list" (ix.map fun i=>(as.map Value.ref).getD i Value.none).toArray I)->ix.Perm (List.range es.size)->(ix.map fun i=>ks.getD i ([],[])).Pairwise (fun x y=>if b=true then IT.K8.kle y x else IT.K8.kle x y)->s.heap.objs.size<=D->Q (.ref D) {s with heap:=h',toks:=tk}):wpAny As A (call (.builtin "sorted") [.ref v] [(Str.ofString "reverse",.bool b)]) Q E s:=by
 refine call_function_entry_kw kind_sorted plain_sorted entry_sorted (args_sorted_rev _ _) ?_;unfold Builtin.«sorted»;refine Wb (m:=checkCount "sorted" 1 1 _) (aA ?_);refine Wb (gather (A:=A.in1) hh hv hm (by rw[sizeLine_eq];lia) fun g tk as z1 k1 Y hG=>?_);have R:(as.map Value.ref).length=es.size:=by rw[(Af),Y]
 refine Wb (wpAny_newList ?_ (by rw[sizeLine_eq];lia));have C:V6 IT.K8 prog w g 2 ks (as.map Value.ref):=IT.gJ (by rw[R,hl]) fun i x u hx U=>by
  rw[(BP)]at U;obtain⟨a,ha,rfl⟩:=aC.mp U;obtain⟨r1,e,r2,Z⟩:=hG i a ha;obtain⟨b,c,its,M,q1,q2,q3,q4,q5,q6⟩:=he i x e hx r2;refine⟨a,b,c,its,M,rfl,⟨_,Z,rfl,0,?_⟩,?_,q4,?_,q6⟩
  .rw[q1,q2]
  .obtain⟨o,y,r⟩:=q3;exact⟨o,k1 _ _ y,r⟩
  .obtain⟨o,y,r⟩:=q5;exact⟨o,k1 _ _ y,r⟩
 have hr:Runs IT.K8 prog w (if b then ks.reverse else ks):=by
  cases b with
  |true=>exact Ms (O:=IT.K8) (ks:=ks.reverse) (show(ks.reverse:List IT.Tm).length<64 by rw[List.length_reverse,hl];exact hn)
  |false=>exact Ms (O:=IT.K8) (ks:=ks) (show(ks:List IT.Tm).length<64 by rw[hl];exact hn)
 obtain⟨g1,x2,fin⟩:=PN (s:={s with heap:=g,toks:=tk}) (h1:=g) (T:=pure (.done (.ret .none))) (tk:=tk) (b:=b) (([],[]):IT.Tm) C AC hr (fun _ _ e=>e) (aG _)
  (Q:=fun x s'=>∃(h':Heap) (D tk:Nat) (ix:List Nat) (I:Nat),x=.ref D/\s'={s with heap:=h',toks:=tk}/\g.objs.size<=D/\Ext g h'/\h'.get? D=some (seqObj "list" (ix.map fun i=>(as.map Value.ref).getD i Value.none).toArray I)/\ix.Perm (List.range (as.map Value.ref).length)/\(ix.map fun i=>ks.getD i ([],[])).Pairwise (fun x y=>if b=true then IT.K8.kle y x else IT.K8.kle x y))
  (fun h' D tk ix I a1 a2 a3 a4 a5=>⟨h',D,tk,ix,I,rfl,rfl,a1,a2,a3,a4,a5⟩)
 refine Wb (ae (wpAny_call_entry_kw slot_list_sort ⟨_,g1,rfl⟩ entry_list_sort ?_ (args_list_sort_rev _ _)));refine Si (s:={s with heap:=g.push (seqObj "list" (as.map Value.ref).toArray 0),toks:=tk}) (([],[]):IT.Tm) C x2 (aG _) g1 AC hr (by rw[show A.in1.in1.units=A.units+2 from rfl];lia) fun ix p1 p2=>⟨_,rfl,?_⟩;refine aA ⟨_,rfl,?_⟩;obtain⟨h',D,tk',ix',I,q1,q2,q3,q4,q5,q6,q7⟩:=fin ix p1 p2;rw[q1];have:=h h' D tk' ix' I as (fun b u e=>q4 _ _ (k1 b u e)) Y (fun j a hj=>by
  obtain⟨r1,e,r2,Z⟩:=hG j a hj;exact⟨r1,Nat.lt_of_lt_of_le (aE Z) q3,e,r2,q4 _ _ Z⟩) q5 (by rw[R]at q6;exact q6) q7 (aT (Nat.le_of_lt z1) q3)
 rw[<-q2]at this;exact this
end
end DI
namespace L2
open PySem PySem.Spec PyProof.Rows
def Inv.many{X:Cx}{pins:CG}{σ:St}{H H':Hp}{s:SD}{h':Heap}{t':Nat}(I:At)(k:∀b u,s.heap.get? b=some u->h'.get? b=some u)(g:∀b,b<s.heap.objs.size->H' b=H b)(Al:DB X.prog X.w H' h'):Inv X pins σ H' {s with heap:=h',toks:=t'}:=by
 have lt:∀b o,H b=some o->b<s.heap.objs.size:=fun b o e=>(I.Al b o e).lt;have up:∀b o,H b=some o->H' b=some o:=fun b o e=>by rw[g b (lt b o e)];exact e
 show Inv X pins σ H' {s with heap:=h',gens:=s.gens,drawn:=s.drawn,toks:=t'};refine I.step (h':=h') (ch:=[]) (fun b R=>nomatch R) (fun b o _ _ _ e _=>k b o e) (fun b o _ _ _ e _=>⟨o.slots,k b o e⟩) (fun b o _ e n=>by rw[g b (aE e)];exact n) (fun b o _ e=>⟨o,k b o e⟩)
  (fun b xs e=>up b _ e) (fun b o u e=>up b _ e) (fun b ps e=>⟨#[],by rw[up b _ e];simp⟩) (fun b _ o _ _ e=>k b o e) (fun m hm=>?_) Al I.bare
 obtain⟨o,es,ep,M,r⟩:=hm;exact⟨o,es,ep,k _ o M,r⟩
theorem Ox:∀ {ps:List Int} {us:List VL},Vals (ps.map V.int) us->IT.Is ps us
 |[],_,r=>by rw[(Mw)]at r;cases r;rw[IT.Is]
 |p::ps,_,r=>by
  rw[(BA)]at r;cases r with
  |cons h t=>
   obtain⟨tk,rfl⟩:=h;rw[IT.Is];exact⟨tk,_,rfl,Ox t⟩
def gV{prog:F0b}{w:F0c}(d:AD)(nd:(d==sysModules)=false):MeetsIn prog w (Builtin.«dict.items» ⟨[.ref d],[]⟩) (fun _ R s=>(∃es ep,DI.RD s.heap d es ep)/\R (.ok (.ret (.ref s.heap.objs.size))) {s with heap:=s.heap.push { cls:=.type "dict_items",data:=.fields #[.ref d]} }) :=
 .of_wp fun A R s ⟨⟨es,ep,o,I,g,M⟩,h⟩=>by
  unfold Builtin.«dict.items»;refine Wb ?_;unfold Builtin.Dict.noArgs;refine Wb (wpAny_notOrdered_dict ⟨o,I,g.1⟩ ?_);refine aA (show wpAny _ _ (Builtin.Dict.showsAll d>>=_) _ _ s from ?_);unfold Builtin.Dict.showsAll;rw[nd,if_neg aJ];exact Wb (aA (Wb (aZ (aA ⟨_,rfl,h⟩))))
def iC(g:Hp)(x:V)(Q:VK):Prop:=∃(a:AD) (kvs:List (List Key×V)) (ts:List IT.Tm),x=.ref a/\g a=some (.dT kvs)/\kvs.length<64/\ts.length=kvs.length /\
 (∀(j:Nat) k v t,kvs[j]? = some (k,v)->ts[j]? = some t->k=t.1.map Sum.inl/\∃c,v=.ref c/\g c=some (.tup (t.2.map V.int))) /\
 ∀(D:AD) (H':Hp) (I:List V) (us:List IT.Tm),AJ g H'->g D=none->H' D=some (.lst I)->us.Perm ts->us.Pairwise (fun x y=>IT.K8.kle y x)->I.length=us.length ->
  (∀(j:Nat) z t,I[j]? = some z->us[j]? = some t->∃p b c,z=.ref p/\g p=none/\H' p=some (.tup [.ref b,.ref c])/\g b=some (.tup (t.1.map V.int))/\g c=some (.tup (t.2.map V.int)))->Q (.ref D) H'
def VD(ps:tJ):(ps.map (Sum.inl:Int->Key)).map kV=ps.map V.int:=by rw[(CZ)];rfl
theorem Od{α β:Type}{F:α->β->Prop}:∀ {xs:List α} {ys:List β} {j:Nat} {x:α} {y:β},Paired F xs ys->xs[j]? = some x->ys[j]? = some y->F x y
 |_,_,j,x,y,.nil,h,_=>by simp at h
 |_,_,0,x,y,.cons f _,h,k=>by simp at h k;subst h k;exact f
 |_,_,j+1,x,y,.cons _ r,h,k=>Od r (by simpa using h) (by simpa using k)
def dA{α:Type}(d:α)(ts:List α){ix:List Nat}(h:ix.Perm (List.range ts.length)):(ix.map fun i=>ts.getD i d).Perm ts:=by
 have e:(List.range ts.length).map (fun i=>ts.getD i d)=ts:=by
  apply List.ext_getElem
  .simp
  .intro i g I;simp at g;simp[g]
 have:=h.map fun i=>ts.getD i d
 rwa [e]at this
theorem OS:∀as:List AD,Vals (as.map V.ref) (as.map Value.ref)
 |[]=>.nil
 |a::as=>.cons rfl (OS as)
def iG(h:Heap)(y:AD):Option HO:=match (h.get? y).map (fun o:Obj=>o.data) with
 |some (Data.seq g _)=>match g.toList with
  |[Value.ref b,Value.ref c]=>some (.tup [.ref b,.ref c])
  |_=>none
 |_=>none
def cY{X:Cx}{pins:CG}{σ:St}{H:Hp}{s:SD}{Q:VK}(I:At){x:V}{v:VL}(rx:RelV x v)(hc:X.calm=true)(hu:X.A.units+64<cLine)(q:iC H x Q):∃(a:AD) (es:Array DictEntry) (ep:Nat),v=.ref a/\(a==sysModules)=false/\DI.RD s.heap a es ep /\wpAny By X.A (call (.builtin "sorted") [.ref s.heap.objs.size] [(Str.ofString "reverse",.bool true)]) (EP X pins σ Q) X.xe {s with heap:=s.heap.push { cls:=.type "dict_items",data:=.fields #[.ref a]} }:=by
 obtain⟨a,kvs,ts,rfl,ha,h64,T,hterm,q⟩:=q;cases rx;obtain⟨hz,nd,xs,kt,o,es,ep,r1,r2,r3,r4,r5,r6⟩:=UD I.Al ha;refine⟨a,es,ep,rfl,nd,⟨o,r1,r2,r3⟩,?_⟩;have g:es.size=kvs.length:=by rw[size_of_entries r4];exact(Paired.length kt).symm
 have I2:Inv X pins σ H {s with heap:=s.heap.push { cls:=.type "dict_items",data:=.fields #[.ref a]} }:=I.kept (t':=s.toks) fun b ob e=>aF _ e;have ent:∀(j:Nat) (e:DictEntry),es[j]? = some e->∃k w x,kvs[j]? = some (k,w)/\xs[j]? = some x/\e.key=.ref x.2.1/\e.val=x.2.2/\H x.2.1=some (.tup (k.map kV))/\RelV w x.2.2:=fun j e he=>by
  rw[entry_at r4 j]at he;obtain⟨x,hx,rfl⟩:=aC.mp he;have M:j<kvs.length:=by rw[Paired.length kt];exact(aB.mp hx).1
  obtain⟨kv,hkv⟩:∃kv,kvs[j]? = some kv:=⟨kvs[j],by simp[M]⟩;have:=Od kt hkv hx;exact⟨kv.1,kv.2,x,hkv,hx,rfl,rfl,this.1 ▸ this.2.1,this.2.2⟩
 have trm:∀(j:Nat) (t:IT.Tm) (e:DictEntry),ts[j]? = some t->es[j]? = some e->∃b c,e.key=.ref b/\e.val=.ref c/\H b=some (.tup (t.1.map V.int))/\H c=some (.tup (t.2.map V.int)):=fun j t e Z he=>by
  obtain⟨k,w,x,h1,h2,h3,h4,h5,h6⟩:=ent j e he;obtain⟨rfl,c,rfl,h7⟩:=hterm j k w t h1 Z;rw[VD]at h5;refine⟨x.2.1,c,h3,?_,h5,h7⟩;rw[h4];obtain⟨xk,xb,xv⟩:=x;cases h6
  rfl
 have entV:∀(j:Nat) (k:IT.Tm) (e:DictEntry),ts[j]? = some k->es[j]? = some e->DI.nH (s.heap.push { cls:=.type "dict_items",data:=.fields #[.ref a]}) k e:=fun j k e hk he=>by
  obtain⟨b,c,h1,h2,h3,h4⟩:=trm j k e hk he;obtain⟨i1,v1,p1,_⟩:=I2.tuple (Ax.of (K:=X.K) h3);obtain⟨i2,v2,p2,_⟩:=I2.tuple (Ax.of (K:=X.K) h4);exact⟨b,c,i1,i2,h1,h2,p1,Ox v1,p2,Ox v2⟩
 refine DI.Ui (s:={s with heap:=s.heap.push { cls:=.type "dict_items",data:=.fields #[.ref a]} }) (b:=true) (ks:=ts) (d:=a) (es:=es) (ep:=ep) (I.ok.hd hc) ⟨_,Heap.get?_push_size _ rfl,rfl,rfl⟩ ⟨o,Heap.get?_push_of_some _ r1,r2,r3⟩ AC AC entV AC fun h' D tk ix e1 as keep U hG hD hp hs hge=>?_;have hsz:(s.heap.push { cls:=.type "dict_items",data:=.fields #[.ref a]}).objs.size=s.heap.objs.size+1:=Heap.size_push ..;simp only[hsz]at hG hge;have ixl:ix.length=kvs.length:=by rw[hp.length_eq,List.length_range];exact g
 have ixm:∀i∈ix,i<kvs.length:=fun i hi=>by
  have:=(hp.mem_iff (a:=i)).mp hi;rw[List.mem_range]at this
  lia
 have szD:D<h'.objs.size:=aE hD;have at_:∀j R,as[j]? = some R->∃(b c:AD) (t:IT.Tm),ts[j]? = some t/\h'.get? R=some { cls:=.type "tuple",data:=.seq #[.ref b,.ref c]}/\H b=some (.tup (t.1.map V.int))/\H c=some (.tup (t.2.map V.int))/\s.heap.objs.size<R/\R<D:=fun j R M=>by
  obtain⟨h1,h2,e,h3,h4⟩:=hG j R M;have hjk:j<ts.length:=by
   rw[T,<-g,<-U];exact(aB.mp M).1
  obtain⟨t,Z⟩:∃t,ts[j]? = some t:=⟨ts[j],by simp[hjk]⟩;obtain⟨b,c,k1,k2,k3,k4⟩:=trm j t e Z h3;rw[k1,k2]at h4;exact⟨b,c,t,Z,h4,k3,k4,by lia,h2⟩
 let zs:List V:=ix.map fun i=>(as.map V.ref).getD i .Bf
 let H':Hp:=fun y=>if y=D then some (.lst zs) else if y∈as then iG h' y else H y
 have hHD:H' D=some (.lst zs):=if_pos rfl;have hHa:∀(j:Nat) R b c,as[j]? = some R->h'.get? R=some { cls:=.type "tuple",data:=.seq #[.ref b,.ref c]}->H' R=some (.tup [.ref b,.ref c]):=fun j R b c M hb=>by
  obtain⟨_,_,_,_,_,_,_,_,hlt⟩:=at_ j R M;show(if R=D then _ else _)=_;rw[if_neg (aM hlt),if_pos (aL M)];unfold iG;rw[hb]
  rfl
 have hHo:∀y,y<s.heap.objs.size+1->H' y=H y:=fun y hy=>by
  have Y:y≠D:=by lia
  show(if y=D then _ else _)=_;rw[if_neg Y];refine if_neg fun hm=>?_;obtain⟨j,M⟩:=bG hm;obtain⟨_,_,_,_,_,_,_,h1,_⟩:=at_ j y M
  lia
 have up:∀b o,H b=some o->H' b=some o:=fun b o e=>by
  rw[hHo b (Nat.lt_succ_of_lt (I.Al b o e).lt)];exact e
 have Al:DB X.prog X.w H' h':=fun y u e=>by
  by_cases Y:y=D
  .subst Y;rw[hHD]at e;cases e;refine⟨?_,_,e1,?_,hD⟩
   .show(ix.map _).length<=sizeLine;rw[(Af),ixl];exact hz
   .exact Vals.pick (OS as) ix fun i hi=>by rw[(Af),U,g];exact ixm i hi
  .by_cases hm:y∈as
   .obtain⟨j,M⟩:=bG hm;obtain⟨b,c,t,h1,h2,h3,h4,_,_⟩:=at_ j y M;rw[hHa j y b c M h2]at e;cases e;exact⟨XZ,[.ref b,.ref c],.cons rfl (.cons rfl .nil),_,h2,rfl,_,rfl⟩
   .have e':H y=some u:=by
     have:H' y=H y:=by
      show(if y=D then _ else _)=_;rw[if_neg Y,if_neg hm]
     rw[this]at e;exact e
    exact(I.Al y u e').KC (fun b o _ z=>keep b o (aF _ z)) (fun b z=>up _ _ z) fun b xs z=>up _ _ z
 have I3:Inv X pins σ H' {s with heap:=h',toks:=tk}:=I.many (fun b u e=>keep b u (aF _ e)) (fun b hb=>hHo b AC) Al;refine⟨.ref D,H',I3,rfl,q D H' zs (ix.map fun i=>ts.getD i ([],[])) up (I.Al.fresh AC) hHD (dA _ ts (by rw[T,<-g];exact hp)) ?_ (by simp[zs]) fun j z t hz' Z=>?_⟩
 .simpa using hs
 .have M:j<ix.length:=by
   have:=(aB.mp Z).1
   simpa using this
  have hix:ix[j]? = some ix[j]:=by simp[M]
  have hi:=ixm ix[j] (List.getElem_mem M);have k1:z=.ref (as[ix[j]]'(by rw[U,g];exact hi)):=by
   have:zs[j]? = some ((as.map V.ref).getD ix[j] .Bf):=by
    show(ix.map _)[j]? = _;rw[(BP),hix];rfl
   rw[this]at hz';cases hz';simp[List.getD_eq_getElem?_getD,List.getElem?_map,show ix[j]<as.length by rw[U,g];exact hi]
  have k2:t=ts[ix[j]]'(by rw[T];exact hi):=by
   rw[(BP),hix]at Z;simp[List.getD_eq_getElem?_getD,show ix[j]<ts.length by rw[T];exact hi]at Z;exact Z.symm
  obtain⟨b,c,t',h1,h2,h3,h4,h5,h6⟩:=at_ ix[j] (as[ix[j]]'(by rw[U,g];exact hi)) (aV _);have k3:t'=t:=by
   rw[k2];rw[List.getElem?_eq_getElem (by rw[T];exact hi)]at h1;exact(ak h1).symm
  subst k3;exact⟨_,b,c,k1,I.Al.fresh AC,hHa _ _ b c (aV _) h2,h3,h4⟩
def nv(g:TE):TE:=fun σ H Q=>g σ H fun x I=>iC I x Q
def fB{X:Cx}{o:Expr}{Z:TE}{p pos apos cpos kp T:Pos}{j}(hc:X.calm=true)(hu:X.A.units+64<cLine)(hg:Gl X "sorted")(hm:X.mg "sorted" = none)(ho:PE X o Z) (R:attributeBase o "items" X.env (eval o X.env)=eval o X.env:=by rfl)(M:(apos.endLine==cpos.line)=true:=by rfl) (he:backTo pos (starEach [.Call (.Attribute o "items" apos) [] [] cpos] X.env)=(false,eval (.Call (.Attribute o "items" apos) [] [] cpos) X.env)::backTo pos (starEach [] X.env):=by rfl)(g:(backTo pos (starEach [.Call (.Attribute o "items" apos) [] [] cpos] X.env)).any (·.1)=false:=by rfl):PE X (.Call (.Name "sorted" p) [.Call (.Attribute o "items" apos) [] [] cpos] [⟨some "reverse",.Constant (.bool true) j T,kp⟩] pos) (nv Z):=by
 intro pins s σ H Q I h;refine bT (Ir I hg hm boot_sorted ?_ AS AS);refine callWith_kw ?_ he g;rw[he];refine Calls.spliced_cons (wpAny_Call_method0_late R M (A9 (ho pins s σ H _ I h) fun v s1 ⟨x,H1,I1,r1,q1⟩=>?_));obtain⟨a,es,ep,rfl,nd,rd,fin⟩:=cY I1 r1 hc hu q1;obtain⟨ob,Y,U,e3⟩:=id rd;refine⟨"dict","dict.items",PySem.F.plainAttrs_dict,PySem.F.slot_dict_items,PySem.F.type_dict_items,⟨ob,Y,U.1⟩,fun b hb=>?_,Calls.callWith_builtin rfl (PySem.evalArgs_none ?_)⟩
 .cases hb;exact⟨ob,Y,U.2.1⟩
 refine call_meetsIn PySem.F.slot_dict_items ⟨ob,Y,U.1⟩ PySem.F.entry_dict_items (PySem.F.args_dict_items_1 _) (gV a nd) ⟨⟨es,ep,rd⟩,?_⟩;exact Calls.spliced_nil (kws_cons (Constant_bool (kws_nil fin)))
end L2
namespace IT
open PySem PySem.W PyProof.Rows PySem.SeqAt
section
open PySem.AutoSeq1 (wpAny_loadPart')
open PySem.MeetsSeq PySem.MeetsSeq2 PySem.MeetsSeq3
def gX(l b:AD)(items I:Array VL)(n n2:Nat)(dd dd2:Option AD)(sl sl2:Array (Option VL))(t u:tJ):Meets (Builtin.«tuple.__ge__» ⟨[.ref l,.ref b],[]⟩) (fun A R s=>s.heap.get? l=some { cls:=.type "tuple",dict:=dd,data:=.seq items n,slots:=sl}/\s.heap.get? b=some { cls:=.type "tuple",dict:=dd2,data:=.seq I n2,slots:=sl2} /\Is t items.toList/\Is u I.toList/\A.units<cLine/\R (.ok (.ret (.bool (!lt t u)))) s) :=
 .of_wp fun prog w A R s h=>by
  obtain⟨hp,g,d,tk,os⟩:=s;obtain⟨hl,hb,hi,hj,hun,h⟩:=h;have f2:=AutoSeq1.sub_tuple_tuple;have z1:items.size=t.length:=by rw[<-Is.length hi];simp
  have z2:I.size=u.length:=by rw[<-Is.length hj];simp
  wp_walk using wpAny_loadPart' hl,wpAny_loadPart' hb,wpAny_forIn_list _ (fun rest b s'=>b.1=none/\s'=⟨hp,g,d,tk,os⟩/\∃(vs ws:List VL) (t' Y:List Int),rest=vs.zip ws /\
   Is t' vs/\Is Y ws/\t'.length+I.size=Y.length+items.size/\R (.ok (.ret (.bool (!lt t' Y)))) ⟨hp,g,d,tk,os⟩) _
  case turn=>
   rintro⟨y,x⟩ rest b s' ⟨hb',rfl,vs,ws,t',Y,Z,U,T,M,hR⟩;cases t' with
   |nil=>rw[Is]at U;subst U;rw[List.zip_nil_left]at Z;cases Z
   |cons bt rt=>
    cases Y with
    |nil=>rw[Is]at T;subst T;rw[List.zip_nil_right]at Z;cases Z
    |cons bu ru=>
     rw[Is]at U T;obtain⟨a1,v1,rfl,p3⟩:=U;obtain⟨a2,v2,rfl,q3⟩:=T;rw[(Nr)]at Z
     injection Z with hyx hrest
     injection hyx with hy hx
     subst hy hx;rw[lt]at hR;simp only[List.length_cons]at M;have he:=EqAt.int_int (A:=A.in1) (s:=⟨hp,g,d,tk,os⟩) bt a1 bu a2;refine Wb (he prog w _ _ ?_);by_cases hc:bt=bu
     .rw[if_pos hc]at hR;rw[beq_iff_eq.mpr hc]
      wp_walk
      exact⟨rfl,rfl,_,_,_,_,hrest,p3,q3,by lia,hR⟩
     .rw[if_neg hc]at hR;rw[beq_eq_false_iff_ne.mpr hc];have hri:∀(E:VL->SD->Prop) (Q:VL->SD->Prop),Q (.bool (decide (bu<=bt))) ⟨hp,g,d,tk,os⟩->wpAny As A.in1 (richCompare .GtE (.int bt a1) (.int bu a2)) Q E ⟨hp,g,d,tk,os⟩:=fun E Q h=>PyProof.Rows.ge_int h;have e:(!decide (bt<bu))=decide (bu<=bt):=by rw[(OZ)];simp
      rw[e]at hR
      wp_walk using hri
      exact⟨_,rfl,by simpa using hR⟩
  case fin=>
   rintro⟨b1,b2⟩ s' ⟨hb',rfl,vs,ws,t',Y,Z,U,T,M,hR⟩;simp only at hb';subst hb';have hv:lt t' Y=decide (items.size<I.size):=by
    cases t' with
    |nil=>
     cases Y with
     |nil=>
      simp only[List.length_nil]at M;exact(au AC).symm
     |cons c q=>
      simp only[List.length_cons,List.length_nil]at M;exact(bL AC).symm
    |cons bt rt=>
     cases Y with
     |nil=>
      simp only[List.length_cons,List.length_nil]at M;exact(au AC).symm
     |cons c q=>
      rw[Is]at U T;obtain⟨_,_,rfl,_⟩:=U;obtain⟨_,_,rfl,_⟩:=T;rw[(Nr)]at Z;cases Z
   have e:(!decide (items.size<I.size))=decide (I.size<=items.size):=by rw[(OZ)];simp
   rw[hv,e]at hR
   wp_walk
   exact⟨_,rfl,by simpa[Builtin.Tuple.tupleCompareSizes]using hR⟩
  case h=>
   exact⟨rfl,rfl,items.toList,I.toList,t,u,rfl,hi,hj,by lia,h⟩
end
section
open PySem.MeetsSeq PySem.MeetsSeq2 PySem.MeetsSeq3
variable{prog:F0b}{w:F0c}{A:F0d}{E:tE}{s:SD}{t u:tJ}{a b:AD}{its its':sy}
def oW{Q:tE}(h1:s.heap.IsTuple a its.toArray)(k1:Is t its)(h2:s.heap.IsTuple b its'.toArray)(k2:Is u its')(hu:A.units+1<cLine)(h:Q (.bool (!lt t u)) s):wpAny As A (richCompare .GtE (.ref a) (.ref b)) Q E s:=by
 obtain⟨⟨cls,dd,data,sl⟩,Y,Z,n,M⟩:=id h1;obtain⟨⟨cls2,U,data2,T⟩,I,R,n2,g⟩:=id h2;simp only at Z M R g;subst Z M R g;exact richCompare_meets_room (op:=.GtE) ⟨_,Y,rfl⟩ ⟨_,I,rfl⟩ PySem.F.slot_tuple_ge PySem.F.entry_tuple_ge (PySem.F.args_tuple_ge_2 _ _) (gX a b its.toArray its'.toArray n n2 dd U sl T t u)
  ⟨Y,I,by simpa using k1,by simpa using k2,by lia,show Value.bool (!lt t u)≠Value.notImplemented/\Q (.bool (!lt t u)) s from⟨(fun x=>nomatch x),h⟩⟩ AC
end
end IT
namespace L2
open PySem PySem.Spec PyProof.Rows
def lB{X:Cx}(hu:X.A.units+64<cLine):Cw X (compareOp .GtE) (fun x y H Q=>∃(a b:AD) (ps g:tJ),x=.ref a/\y=.ref b/\H a=some (.tup (ps.map V.int))/\H b=some (.tup (g.map V.int))/\Q (.bl (!IT.lt ps g)) H):=by
 intro pins s σ H x y v u' Q I U T h;obtain⟨a,b,ps,g,rfl,rfl,ha,hb,q⟩:=h;cases U;cases T;obtain⟨i1,R,Z,_⟩:=I.tuple (Ax.of (K:=X.K) ha);obtain⟨i2,M,Y,_⟩:=I.tuple (Ax.of (K:=X.K) hb);exact IT.oW Z (Ox R) Y (Ox M) AC ⟨.bl _,H,I,rfl,q⟩
end L2
namespace TH
open PySem PyProof.Rows PySem.SeqAt
def Ol:Tr->List Int
 |.nil=>[]
 |.cons b r=>reduceHash (Builtin.Tuple.tupleHashOf (Ol b))::Ol r
def UM(t:Tr):Int:=reduceHash (Builtin.Tuple.tupleHashOf (Ol t))
section
variable{prog:F0b}{w:F0c}{E:tE}
def IsTuple.ty{h:Heap}{a:AD}{x:Array VL}{s:SD}(e:s.heap=h)(k:h.IsTuple a x):s.TypeIs (.ref a) "tuple" := by
 subst e;obtain⟨o,g,I,_⟩:=k;exact⟨o,g,I⟩
def Good(h:Heap)(n:Nat)(v:VL):Prop:=∃a g t,v=.ref a/\h.IsTuple a g.toArray/\Vs h t g/\t.deep<n
theorem Uk{h:Heap}:∀ {t:Tr} {us:List VL} {n:Nat},Vs h t us->t.deep<=n->∀v∈us,Good h n v
 |.nil,us,n,e,_,v,g=>by rw[Vs]at e;subst e;cases g
 |.cons c r,us,n,e,hd,v,g=>by
  rw[Vs]at e;obtain⟨a,I,rest,rfl,T,R,M⟩:=e;rw[Tr.deep]at hd;rcases aN.mp g with rfl|g
  .exact⟨a,I,c,rfl,T,R,by lia⟩
  .exact Uk M AC v g
theorem quiet:∀(n:Nat) {v:VL} {A:F0d} {s:SD} {Q:Bool->SD->Prop},Good s.heap n v->Q true s->wpAny As A (eqIsQuiet n v) Q E s
 |0,v,A,s,Q,⟨_,_,_,_,_,_,z⟩,_=>absurd z (av _)
 |n+1,v,A,s,Q,⟨a,I,t,e,Y,h2,hd⟩,h=>by
  subst e;have U:=IsTuple.ty rfl Y;obtain⟨o,Z,hc,k,T⟩:=id Y;unfold eqIsQuiet;refine Wb (wpAny_specialOf U F.slot_tuple_eq.lookup ?_);show wpAny _ _ (isInstance (.ref a) Ev>>=_) _ _ s;refine Wb (wpAny_isInstance U isSubtype_tuple_tuple ?_);simp only[Bool.not_true,Bool.false_eq_true,if_false];refine Wb (bV Z T ?_);refine Wb ?_;show wpAny _ _ (forIn I.toArray _ _) _ _ s;rw[<-Array.forIn_toList];refine wpAny_forIn_list _ (fun rest r s'=>r.1=none/\s'=s/\∀v∈rest,Good s.heap n v) _ ?_ ?_ _ _ ⟨rfl,rfl,Uk h2 AC⟩
  .rintro v rest r s' ⟨R,rfl,g⟩;refine Wb (quiet n (g v aO) ?_);simp only[Bool.not_true,Bool.false_eq_true,if_false];exact aA ⟨rfl,rfl,fun u M=>g u (aK _ M)⟩
  .rintro⟨r1,r2⟩ s' ⟨R,rfl,_⟩;simp only at R;subst R;exact aA h
end
end TH
namespace TH
open PySem PyProof.Rows PySem.SeqAt
section
variable{prog:F0b}{w:F0c}{A:F0d}{E:tE}{s:SD}
def gather{T:String}{r d:AD}{n:Nat}{P:Nat->VL->Prop}{U:Heap->Prop}{R:List VL->SD->Prop}(K:PySem.W.KdlSrc prog w T r d n P U)(Z:A.handled=none)(Al:U s.heap)(hn:n<=sizeLine) (k:∀(h1:Heap) (tk:Nat) (g:Array VL),s.heap.objs.size<h1.objs.size->(∀b u,s.heap.get? b=some u->h1.get? b=some u)->ItemsOf P g n->R g.toList {s with heap:=h1,toks:=tk}):wpAny As A (collect (.ref r)) R E s:=by
 obtain⟨Y,ld⟩:=K.there _ Al;unfold collect;refine Wb (wpAny_runValue (codeAny_builtin entry_proto_collect' ?_));rw[Around.under_plainId PySem.F.plain_proto_collect _];show wpAny _ A.in1 (newList []>>=fun v=>again (.builtin "list.__iadd__" ⟨[v,.ref r],[]⟩)) _ _ s;refine Wb (aZ (aA ⟨plainId_quiet PySem.F.plain_list_iadd _,codeAny_builtin entry_list_iadd' ?_⟩));rw[Around.under_plainId PySem.F.plain_list_iadd _];have g0:(s.heap.push { cls:=.type "list",data:=.seq ([]:List VL).toArray}).get? s.heap.objs.size=some { cls:=.type "list",data:=.seq #[]}:=aU _ rfl;have main:=PySem.W.kdl_extend (A:=A) (s:={s with heap:=s.heap.push { cls:=.type "list",data:=.seq ([]:List VL).toArray} }) K Z
  (K.keep _ _ Al fun _ _ _ e=>aF _ e) s.heap.objs.size (ax Y) (ax ld) (.ref s.heap.objs.size) 0 g0
  (R:=fun q s1=>∃h1 tk g c,q=.ok (.ret (.ref s.heap.objs.size))/\s1={s with heap:=h1,toks:=tk}/\(∀b u,s.heap.get? b=some u->h1.get? b=some u)/\h1.get? s.heap.objs.size=some { cls:=.type "list",dict:=none,data:=.seq g c,slots:=#[]}/\ItemsOf P g n)
  (fun h1 tk g c M I ha=>⟨h1,tk,g,c,rfl,rfl,fun b u e=>M b u (aM (aE e)) (aF _ e),I,ha⟩) hn
 refine aY main (fun fin s1 x=>?_) fun e s1 x=>?_
 .cases fin with
  |done f=>
   obtain⟨h1,tk,g,c,e,rfl,M,I,ha⟩:=x;cases e;show wpAny _ A (load s.heap.objs.size>>=_) _ _ _;exact Wb (wpAny_load I (aA (k h1 tk g (aE I) M ha)))
  |again c1=>
   refine⟨x.1,codeAny_mono x.2 fun q s2 y=>?_⟩;obtain⟨h1,tk,g,c,rfl,rfl,M,I,ha⟩:=y;show wpAny _ A (load s.heap.objs.size>>=_) _ _ _;exact Wb (wpAny_load I (aA (k h1 tk g (aE I) M ha)))
 .obtain⟨_,_,_,_,z,_⟩:=x;cases z
end
end TH
namespace TH
open PySem PyProof.Rows PySem.SeqAt
section
variable{prog:F0b}{w:F0c}{E:tE}
def Ug(prog:F0b)(w:F0c)(E:tE)(t:Tr):Prop:=∀(us:List VL) (A:F0d) (s:SD) (b:Array Int) (Q:Array Int->SD->Prop),Vs s.heap t us->A.units+t.deep<=cLine ->
 (∀g,g.toList=b.toList++Ol t->Q g {s with toks:=s.toks+(t.ES-1)})->wpAny As A (forIn us b fun x r=>do let h <-pyHash x;pure PUnit.unit;pure (ForInStep.yield (r.push h))) Q E s
def Nu{t:Tr}(row:Ug prog w E t){a:AD}{g:sy}{A:F0d}{s:SD}{Q:Int->SD->Prop}(h1:s.heap.IsTuple a g.toArray)(Y:Vs s.heap t g)(Z:A.units+t.deep<cLine) (h:Q (UM t) {s with toks:=s.toks+t.ES}):wpAny As A (pyHash (.ref a)) Q E s:=by
 have U:=IsTuple.ty rfl h1;obtain⟨o,I,hc,n,hd⟩:=id h1;refine PySem.W.pyHash_slot (T := "tuple") U F.slot_tuple_hash F.entry_tuple_hash (F.args_tuple_hash_1 _) (beq_builtin_none _) (.inr AC) ?_;show wpAny _ _ (Builtin.Tuple.tupleItemsOf (.ref a)>>=_) _ _ s;refine Wb (wpAny_tupleItemsOf I hd ?_);refine Wb ?_;rw[<-Array.forIn_toList];refine row g A.in1 s #[] _ Y (by rw[Around.in1_units];lia) fun b R=>?_;show wpAny _ _ (retInt (Builtin.Tuple.tupleHashOf b.toList)) _ _ _;rw[R];have M:s.toks+(t.ES-1)+1=s.toks+t.ES:=by have:=Tr.Nl t;lia
 refine Wb (wpAny_mkInt (aA ⟨_,_,rfl,?_⟩));rw[M];exact h
theorem OQ:∀t:Tr,Ug prog w E t
 |.nil=>fun us A s b Q e _ h=>by rw[Vs]at e;subst e;exact aA (h b (by simp[Ol]))
 |.cons c r=>fun us A s b Q e Z h=>by
  rw[Vs]at e;obtain⟨a,g,rest,rfl,U,T,R⟩:=e;have hd:(Tr.cons c r).deep=max (c.deep+1) r.deep:=rfl;have hk:(Tr.cons c r).ES=c.ES+r.ES:=rfl;have hr:=Tr.Nl r;rw[List.forIn_cons];refine Wb (Wb (Nu (OQ c) U T AC ?_));refine Wb (aA (aA ?_));refine OQ r rest A _ _ Q R AC fun Y M=>?_;have I:s.toks+c.ES+(r.ES-1)=s.toks+((Tr.cons c r).ES-1):=by lia
  have:=h Y (by simp[M,Ol,UM]);rw[<-I]at this;exact this
def Kw(prog:F0b)(w:F0c):HeapKind prog w Tr where
 is:=fun h t a=>t.deep<8/\∃its,h.IsTuple a its.toArray/\Vs h t its
 hash:=UM
 draws:=Tr.ES
 room:=fun A=>A.units+8<cLine
 inj:=fun⟨_,i1,a1,a2⟩ ⟨_,i2,b1,b2⟩=>by
  have:=KZ a1 b1;have e:i1=i2:=by simpa using this
  subst e;exact Vs.inj a2 b2
 keeps:=fun {h h' k a d o es ep} ⟨hd,its,h1,h2⟩ ho hdt sb=>by
  have kt:∀b u,h.get? b=some u->u.cls=.type "tuple" ->(∃x n,u.data=.seq x n)->h'.get? b=some u:=fun b u e _ ⟨x,n,hx⟩=>by
   rw[sb.2 b fun z=>?_]
   .exact e
   .subst z;rw[ho]at e;cases e;rw[hdt]at hx;cases hx
  have kv:∀ {t:Tr} {us:List VL},Vs h t us->Vs h' t us:=fun {t}=>by
   induction t with
   |nil=>intro us e;rw[Vs]at e ⊢;exact e
   |cons b r ih1 ih2=>
    intro us e;rw[Vs]at e ⊢;obtain⟨a,its,rest,e1,⟨u,hu,hc,n,hx⟩,e3,e4⟩:=e;exact⟨a,its,rest,e1,⟨u,kt _ _ hu hc ⟨_,n,hx⟩,hc,n,hx⟩,ih1 e3,ih2 e4⟩
  obtain⟨u,hu,hc,n,hx⟩:=h1;exact⟨hd,its,⟨u,kt _ _ hu hc ⟨_,n,hx⟩,hc,n,hx⟩,kv h2⟩
 pyHash:=fun hr ⟨hd,its,h1,h2⟩ h=>Nu (OQ _) h1 h2 AC h
 eqBool:=fun {A E s x y a b Q} hr ⟨hd,its,h1,h2⟩ ⟨_,its2,k1,k2⟩ h=>WR h1 h2 k1 k2 AC prog w E Q h
 quiet:=fun⟨hd,its,h1,h2⟩ h=>quiet 8 ⟨_,its,_,rfl,h1,h2,hd⟩ h
end
end TH
namespace TH
open PySem PyProof.Rows
def Bp:Option Tr->Int
 |none=>4238894112
 |some t=>UM t
def FE:Option Tr->Nat
 |none=>1
 |some t=>t.ES
def KD(h:Heap):Option Tr->VL->Prop
 |none,v=>v=.none
 |some t,v=>∃a,v=.ref a/\t.deep<8/\∃g,h.IsTuple a g.toArray/\Vs h t g
abbrev KE:=Option Tr×VL×VL
def Dq(x:KE):DictEntry:=⟨Bp x.1,x.2.1,x.2.2⟩
theorem RQ{p:Nat->Bool}{j:Nat}:∀ {n:Nat},j<n->p j=true->(∀i,i<n->p i=true->i=j)->(List.range n).filter p=[j]
 |0,h,_,_=>absurd h (av _)
 |n+1,h,M,g=>by
  rw[List.range_succ,List.filter_append];by_cases e:j=n
  .subst e;have:(List.range j).filter p=[]:=List.filter_eq_nil_iff.mpr fun i hi I=>by
    have:=List.mem_range.mp hi;have:=g i AC I
    lia
   rw[this];simp[M]
  .have hn:p n=false:=by
    cases q:p n with
    |false=>rfl
    |true=>exact absurd (g n AC q).symm e
   rw[RQ (show j<n by lia) M fun i hi=>g i AC];simp[hn]
section
variable{prog:F0b}{w:F0c}{A:F0d}{E:tE}{s:SD}{d:AD}{o:Obj}{es:Array DictEntry}{ep:Nat}{xs:List KE}{k:Option Tr}{kv:VL}
def ML(g:es.toList=xs.map Dq)(j:Nat):es[j]? = (xs[j]?).map Dq:=by rw[<-(V1),g,(BP)]
def Uw(g:es.toList=xs.map Dq):es.size=xs.length:=by rw[<-(VR),g,(Af)]
def TC(T:es.toList=xs.map Dq)(M:∀x∈xs,Bp x.1=Bp k->x.1=k)(I:∀x∈xs,x.1≠k):placesWithHash es.size (fun i=>es[i]?.map (·.hash)) (Bp k)=[]:=by
 unfold placesWithHash;refine List.filter_eq_nil_iff.mpr fun i hi g=>?_;dsimp only at g;rw[ML T]at g;cases q:xs[i]? with
 |none=>rw[q]at g;simp at g
 |some x=>
  rw[q]at g;have R:=aL q;have:Bp x.1=Bp k:=by simpa[Dq]using g
  exact I x R (M x R this)
def RU(M:es.toList=xs.map Dq)(R:∀x∈xs,Bp x.1=Bp k->x.1=k)(hn:(xs.map (·.1)).Nodup){j:Nat}{x:KE}(I:xs[j]? = some x)(T:x.1=k):placesWithHash es.size (fun i=>es[i]?.map (·.hash)) (Bp k)=[j]:=by
 unfold placesWithHash;have Z:j<xs.length:=(aB.mp I).1;refine RQ (by rw[Uw M];exact Z) (by dsimp only;rw[ML M,I,<-T];simp[Dq]) fun i hi g=>?_;dsimp only at g;rw[ML M]at g;cases q:xs[i]? with
 |none=>rw[q]at g;simp at g
 |some y=>
  rw[q]at g;have Y:=R y (aL q) (by simpa[Dq]using g);have U:(xs.map (·.1))[i]? = some k:=by rw[(BP),q];show some y.1=_;rw[Y]
  have h2:(xs.map (·.1))[j]? = some k:=by rw[(BP),I];show some x.1=_;rw[T]
  exact(List.getElem?_inj (aB.mp U).1 hn).mp (U.trans h2.symm)
def iz{Q:Bool->SD->Prop}(h:Q true s):wpAny As A (eqBool .none .none) Q E s:=by
 unfold eqBool;rw[if_pos (by rfl)];exact Wb (bO (aA h))
def KD.inj{h:Heap}{x y:Option Tr}{v:VL}(a:KD h x v)(b:KD h y v):x=y:=by
 cases x with
 |none=>
  cases y with
  |none=>rfl
  |some t=>
   obtain⟨_,e,_⟩:=b;rw[show v=.none from a]at e;cases e
 |some u=>
  cases y with
  |none=>
   obtain⟨_,e,_⟩:=a;rw[show v=.none from b]at e;cases e
  |some t=>
   obtain⟨a1,R,M⟩:=a;obtain⟨a2,g,I⟩:=b;rw[R]at g;cases g;obtain⟨_,i1,b1,b2⟩:=M;obtain⟨_,i2,U,T⟩:=I;have:i1=i2:=by simpa using KZ b1 U
   subst this;rw[Vs.inj b2 T]
def cz{Q:Option Nat->SD->Prop}(hu:A.units+8<cLine)(hk:KD s.heap k kv)(ho:s.heap.get? d=some o)(hd:o.data=.dict es ep)(he:es.toList=xs.map Dq)(his:∀x∈xs,KD s.heap x.1 x.2.1)(hn:(xs.map (·.1)).Nodup)(R:∀x∈xs,Bp x.1=Bp k->x.1=k) (hno:(∀x∈xs,x.1≠k)->Q none s)(T:∀(j:Nat) (x:KE),xs[j]? = some x->x.1=k->Q (some j) s):wpAny As A (dictFind d kv (Bp k)) Q E s:=by
 unfold dictFind
 try with_reducible refine ae ?_
 refine Wb (bJ ho hd ?_);cases k with
 |none=>
  have hk:kv=.none:=hk;subst hk;dsimp only;by_cases g:∃x∈xs,x.1=none
  .obtain⟨x,hm,g⟩:=g;obtain⟨j,hj⟩:=List.mem_iff_getElem?.mp hm;have Z:=RU (k:=none) he R hn hj g;have I:es[j]? = some ⟨Bp none,.none,x.2.2⟩:=by
    rw[ML he,hj];have h1:=his x hm;rw[g]at h1;show some (Dq x)=_;unfold Dq;rw[g,show x.2.1=Value.none from h1]
   rw[Z];rw[if_pos (by simp[I,carriedByValue])];unfold dictWalkPlain;simp only[List.forIn_cons,List.forIn_nil,I];refine Wb (Wb ?_);rw[if_pos BY];refine Wb (bN ho hd (Wb (iz (Wb (bN ho hd ?_)))));rw[if_neg BY,if_pos rfl];exact Wb (bO (aA (aA (aA (T j x hj g)))))
  .have Z:=TC (k:=none) he R fun x hm z=>g ⟨x,hm,z⟩;rw[Z,if_pos (by simp[carriedByValue])];unfold dictWalkPlain;simp only[List.forIn_nil];exact Wb (aA (aA (hno fun x hm z=>g ⟨x,hm,z⟩)))
 |some t=>
  obtain⟨a,rfl,M⟩:=hk;dsimp only;have Y:¬(es.any fun e=>e.key==Value.ref a&&e.hash != Bp (some t))=true:=by
   intro z;rw[<-Array.any_toList,he,List.any_eq_true]at z;obtain⟨e,hm,z⟩:=z;obtain⟨x,g,rfl⟩:=aI.mp hm;rw[(Jr)]at z;have h1:x.2.1=.ref a:=by simpa[Dq]using z.1
   have h2:=his x g;rw[h1]at h2;have h3:=h2.inj (show KD s.heap (some t) (.ref a) from⟨a,rfl,M⟩);have h4:=z.2;rw[Dq,h3]at h4;simp at h4
  by_cases g:∃x∈xs,x.1=some t
  .obtain⟨x,hm,g⟩:=g;obtain⟨j,hj⟩:=List.mem_iff_getElem?.mp hm;have Z:=RU (k:=some t) he R hn hj g;have h1:=his x hm;rw[g]at h1;obtain⟨b,hb,htb⟩:=h1;have I:es[j]? = some ⟨Bp (some t),.ref b,x.2.2⟩:=by
    rw[ML he,hj];show some (Dq x)=_;unfold Dq;rw[g,hb]
   have hst:([j].filterMap fun i=>es[i]?.map (·.key))=[.ref b]:=by simp[I]
   rw[Z,hst,if_neg (by simp[carriedByValue]),if_neg Y];by_cases U:(([Value.ref b]:List VL)==[Value.ref a])=true<;>(first|rw[if_pos U]|rw[if_neg U])<;>(first|refine Wb (aA ?_)|refine Wb (wpAny_tableMayTell_quiet (knd:=Kw prog w) M (fun v hv=>⟨t,b,List.mem_singleton.mp hv,htb⟩) ?_))<;>(
    rw[if_neg BY];simp only[List.forIn_cons,List.forIn_nil,I];refine Wb (Wb ?_);rw[if_pos BY];refine Wb (bN ho hd (Wb ((Kw prog w).eqBool (x:=t) (y:=t) hu htb M (Wb (bN ho hd ?_)))));rw[if_neg BY,if_pos BY,if_neg BY];refine Wb (bO ?_);rw[if_pos BY];exact aA (aA (aA (T j x hj g))))
  .have Z:=TC (k:=some t) he R fun x hm z=>g ⟨x,hm,z⟩;rw[Z,if_neg (by simp[carriedByValue]),if_neg Y];rw[if_neg BY];refine Wb (wpAny_tableMayTell_quiet (knd:=Kw prog w) M (fun v hv=>by cases hv) ?_);rw[if_neg BY];simp only[List.forIn_nil];exact Wb (aA (aA (hno fun x hm z=>g ⟨x,hm,z⟩)))
def Zg{Q:Int->SD->Prop}(T:A.units+8<cLine)(I:KD s.heap k kv)(h:Q (Bp k) {s with toks:=s.toks+FE k}):wpAny As A (pyHash kv) Q E s:=by
 cases k with
 |some t=>
  obtain⟨a,rfl,M⟩:=I;exact(Kw prog w).pyHash T M h
 |none=>
  have I:kv=.none:=I;subst I;have g:s.TypeIs .none "NoneType" := rfl;unfold pyHash pyHashByItsType;have R:[Value.none].any Value.onHeap=false:=rfl;refine Wb ?_;rw[cRoomFor,if_neg (by rw[R];exact aJ)];refine aA ?_;refine Wb (wpAny_specialOf g F.slot_NoneType_hash.lookup ?_);show wpAny _ _ (if(some (Value.builtin "NoneType.__hash__")==some Value.none)=true then _ else _) Q E s;rw[if_neg (by rw[beq_builtin_none];exact aJ)];refine Wb (wpAny_specialOf g F.slot_NoneType_hash.lookup ?_);show wpAny _ _ (callSpecialIfBoundUnlessNone? .none "__hash__" _>>=_) Q E s;refine Wb (wpAny_callSpecialIfBoundUnlessNone?_slot g F.slot_NoneType_hash
   (aa F.slot_NoneType_hash g F.entry_NoneType_hash
    (show wpAny _ _ (do ret (<-mkInt 4238894112)) _ _ s from wpAny_ret_mkInt ?_) (F.args_NoneType_hash_1 _)))
  show wpAny _ _ (if(decide (-(2:Int)^63<=4238894112)&&decide ((4238894112:Int)<2^63))=true then _ else _) Q E _;rw[if_pos AS];exact aA h
def GA(xs:List KE)(k:Option Tr):Option KE:=xs.find? fun x=>decide (x.1=k)
def RG(hn:(xs.map (·.1)).Nodup){j:Nat}{x:KE}(g:xs[j]? = some x)(I:x.1=k):GA xs k=some x:=by
 unfold GA;cases q:xs.find? (fun x=>decide (x.1=k)) with
 |none=>exact absurd (bL I) (List.find?_eq_none.mp q x (aL g))
 |some y=>
  have R:y.1=k:=by simpa using List.find?_some q
  obtain⟨i,hi⟩:=List.mem_iff_getElem?.mp (List.mem_of_find?_eq_some q);have M:(xs.map (·.1))[i]? = some k:=by rw[(BP),hi];show some y.1=_;rw[R]
  have T:(xs.map (·.1))[j]? = some k:=by rw[(BP),g];show some x.1=_;rw[I]
  have:=(List.getElem?_inj (aB.mp M).1 hn).mp (M.trans T.symm);subst this;rw[hi]at g;exact g
def Qf(h:∀x∈xs,x.1≠k):GA xs k=none:=List.find?_eq_none.mpr fun x g=>by simpa using h x g
structure Ki(h:Heap)(d:Addr)(xs:List KE):Prop where
 ob:∃o es ep,h.get? d=some o/\o.ExactDict/\o.data=.dict es ep/\es.toList=xs.map Dq
 ks:∀x∈xs,KD h x.1 x.2.1
 nd:(xs.map (·.1)).Nodup
def Ki.ty(hm:Ki s.heap d xs):s.TypeIs (.ref d) "dict" := let⟨o,_,_,g,I,_⟩:=hm.ob;⟨o,g,I.1⟩
def iL{Q:Option VL->SD->Prop}(M:A.units+8<cLine)(T:KD s.heap k kv)(hm:Ki s.heap d xs)(I:∀x∈xs,Bp x.1=Bp k->x.1=k)(h:Q ((GA xs k).map (·.2.2)) {s with toks:=s.toks+FE k}):wpAny As A (dictGet d kv) Q E s:=by
 obtain⟨o,es,ep,R,_,hd,Y⟩:=hm.ob;unfold dictGet
 try with_reducible refine ae ?_
 refine Wb (Zg M T (Wb (cz (s:={s with toks:=s.toks+FE k}) M T R hd Y hm.ks hm.nd I (fun g=>?_) fun j x U Z=>?_)))
 .rw[Qf g]at h;exact aA h
 .rw[RG hm.nd U Z]at h;refine Wb (bJ (s:={s with toks:=s.toks+FE k}) R hd ?_);rw[ML Y j,U];exact aA h
def lJ{x:KE}{Q:tE}(M:A.in1.units+8<cLine)(R:KD s.heap k kv)(hm:Ki s.heap d xs)(g:∀x∈xs,Bp x.1=Bp k->x.1=k)(I:GA xs k=some x)(h:Q x.2.2 {s with toks:=s.toks+FE k}):wpAny As A (getItem (.ref d) kv) Q E s:=by
 unfold getItem
 try with_reducible refine ae ?_
 refine Wb (wpAny_sequenceKey hm.ty AS ?_);refine Wb (aX (name:=Str.ofString "__getitem__") hm.ty slot_dict_getitem (aa slot_dict_getitem hm.ty entry_dict_getitem ?_ (args_dict_getitem _ _)));show wpAny _ _ (dictGet d kv>>=_) _ _ s;refine Wb (iL M R hm g ?_);rw[I];exact aA ⟨x.2.2,rfl,wpAny_pure h⟩
def qv{Q:tE}(M:A.in1.units+8<cLine)(R:KD s.heap k kv)(hd:(d==sysModules)=false)(hm:Ki s.heap d xs)(g:∀x∈xs,Bp x.1=Bp k->x.1=k)(neg:Bool) (h:Q (.bool (if neg then !(GA xs k).isSome else(GA xs k).isSome)) {s with toks:=s.toks+FE k}):wpAny As A (compareOp (if neg then .NotIn else .In) kv (.ref d)) Q E s:=by
 have key:∀ {Q:Bool->SD->Prop},Q (GA xs k).isSome {s with toks:=s.toks+FE k}->wpAny As A (contains (.ref d) kv) Q E s:=fun {Q} h=>by
  unfold contains
  try with_reducible refine ae ?_
  refine Wb (wpAny_specialOf hm.ty slot_dict_contains.lookup ?_);show wpAny _ _ (if(some (Value.builtin "dict.__contains__")==some Value.none)=true then _ else _) _ E s;rw[if_neg (by rw[beq_builtin_none];exact aJ)];refine Wb (wpAny_callSpecialUnlessNone?_slot (name:=Str.ofString "__contains__") hm.ty slot_dict_contains (aa slot_dict_contains hm.ty entry_dict_contains ?_ (args_dict_contains _ _)));show wpAny _ _ (dictGet d kv>>=_) _ _ s;refine Wb (iL M R hm g ?_);cases I:GA xs k with
  |some p=>
   rw[I]at h;show wpAny _ _ (ret (.bool true)) _ _ _;exact aA ⟨_,rfl,wpAny_truthy_bool h⟩
  |none=>
   rw[I]at h;show wpAny _ _ (Builtin.Dict.pendingKey? d kv>>=_) _ _ _;exact Wb (wpAny_pendingKey_other hd (aA ⟨_,rfl,wpAny_truthy_bool h⟩))
 cases neg with
 |false=>
  show wpAny _ _ (do return .bool (<-contains (.ref d) kv)) Q E s;exact Wb (key (aA h))
 |true=>
  show wpAny _ _ (do return .bool (!(<-contains (.ref d) kv))) Q E s;exact Wb (key (aA h))
def putN(k:Option Tr)(v:VL)(x:KE):KE:=if x.1=k then(x.1,x.2.1,v) else x
def Hw(xs:List KE)(k:Option Tr)(kv v:VL):List KE:=if(GA xs k).isSome then xs.map (putN k v) else xs++[(k,kv,v)]
theorem Ub(v:VL):∀xs:List KE,(xs.map (putN k v)).map (·.1)=xs.map (·.1)
 |[]=>rfl
 |x::xs=>by
  rw[(BA),(BA),(BA),Ub v xs]
  congr 1
  unfold putN;split<;>rfl
theorem RN{v:VL}:∀ {xs:List KE} {j:Nat} {x:KE},(xs.map (·.1)).Nodup->xs[j]? = some x->x.1=k->(xs.map Dq).modify j (fun e=>{e with val:=v})=(xs.map (putN k v)).map Dq
 |[],_,_,_,h,_=>by simp at h
 |y::ys,0,x,hn,h,g=>by
  have:y=x:=by simpa using h
  subst this;rw[(BA),List.nodup_cons]at hn;rw[(BA),(BA),(BA)];have I:ys.map (putN k v)=ys:=by
   refine(az fun z M=>?_).trans (List.map_id _);unfold putN;rw[if_neg fun e=>hn.1 (by rw[g,<-e];exact List.mem_map_of_mem M)]
   rfl
  rw[I];show { Dq y with val:=v}::ys.map Dq=_
  congr 1
  unfold putN;rw[if_pos g]
  rfl
 |y::ys,j+1,x,hn,h,g=>by
  have h':ys[j]? = some x:=by simpa using h
  rw[(BA),List.nodup_cons]at hn;rw[(BA),(BA),(BA)];have R:putN k v y=y:=by
   unfold putN;rw[if_neg fun e=>hn.1 (by rw[e,<-g];exact List.mem_map_of_mem (aL h'))]
  rw[R];show Dq y::(ys.map Dq).modify j _=_;rw[RN hn.2 h' g]
def KD.keep{h h':Heap}{k:Option Tr}{v:VL}{o:Obj}{es ep}(a:KD h k v)(prog:F0b)(w:F0c)(M:h.get? d=some o)(hd:o.data=.dict es ep)(g:Heap.SameBut d h h'):KD h' k v:=by
 cases k with
 |none=>exact a
 |some t=>
  obtain⟨a1,R,I⟩:=a;exact⟨a1,R,(Kw prog w).keeps I M hd g⟩
def pk{v:VL}{Q:Unit->SD->Prop}(hu:A.in1.units+8<cLine)(Y:KD s.heap k kv)(hm:Ki s.heap d xs)(Z:∀x∈xs,Bp x.1=Bp k->x.1=k)(hz:xs.length<=sizeLine) (hQ:∀h',Ki h' d (Hw xs k kv v)->Heap.SameBut d s.heap h'->Q () {s with heap:=h',toks:=s.toks+FE k}):wpAny As A (setItem (.ref d) kv v) Q E s:=by
 unfold setItem
 try with_reducible refine ae ?_
 refine Wb (wpAny_sequenceKey hm.ty AS ?_);refine Wb (aX (name:=Str.ofString "__setitem__") hm.ty slot_dict_setitem (aa slot_dict_setitem hm.ty entry_dict_setitem ?_ (args_dict_setitem _ _ _)));show wpAny _ _ (Builtin.Dict.notOrdered "__setitem__" ⟨[.ref d,kv,v],[]⟩>>=_) _ _ s;refine Wb (wpAny_notOrdered_dict hm.ty ?_);show wpAny _ _ (dictSet d kv v>>=_) _ _ s;refine Wb ?_;have fin:∀h',Ki h' d (Hw xs k kv v)->Heap.SameBut d s.heap h'->wpAny As A.in1 (ret .none) (fun fin s'=>∃v,fin=.done (.ret v)/\wpAny As A (pure ()) Q E s') E {s with heap:=h',toks:=s.toks+FE k}:=fun h' h1 h2=>aA ⟨.none,rfl,wpAny_pure (hQ h' h1 h2)⟩;obtain⟨o,es,ep,g,hc,hd,T⟩:=hm.ob;unfold dictSet
 try with_reducible refine ae ?_
 refine Wb (Zg hu Y ?_);unfold dictSetHashed
 try with_reducible refine ae ?_
 refine Wb (cz (s:={s with toks:=s.toks+FE k}) hu Y g hd T hm.ks hm.nd Z (fun R=>?_) fun j x hj hx=>?_)
 .have I:Hw xs k kv v=xs++[(k,kv,v)]:=by unfold Hw;rw[Qf R];rfl
  rw[I]at fin;refine Wb (bO (wpAny_updateDictKeys (hz:=by rw[Uw T];exact hz) (s:={s with toks:=s.toks+FE k}) g hd (fin _ ⟨⟨_,_,ep+1,Heap.get?_update_self _ g (Obj.isFreed_of_dict (Obj.data_mapDictKeys hd _)),hc.mapDictKeys _,Obj.data_mapDictKeys hd _,?_⟩,fun y M=>?_,?_⟩ (ar ..))))
  .simp[T,Dq]
  .rcases aW.mp M with h|h
   .exact(hm.ks y h).keep prog w g hd (ar ..)
   .rw[List.mem_singleton.mp h];exact Y.keep prog w g hd (ar ..)
  .rw[(CN),List.nodup_append];refine⟨hm.nd,by simp,fun a ha b hb=>?_⟩;have:b=k:=by simpa using hb
   subst this;obtain⟨y,M,rfl⟩:=aI.mp ha;exact R y M
 .have I:Hw xs k kv v=xs.map (putN k v):=by unfold Hw;rw[RG hm.nd hj hx];rfl
  rw[I]at fin;refine Wb (bO (Wb (wpAny_updateDict (s:={s with toks:=s.toks+FE k}) g hd (wpAny_point (fin _ ⟨⟨_,_,ep,Heap.get?_update_self _ g (Obj.isFreed_of_dict (Obj.data_mapDict hd _)),hc.mapDict _,Obj.data_mapDict hd _,?_⟩,fun y M=>?_,?_⟩ (ar ..))))))
  .have:=RN (v:=v) hm.nd hj hx;rw[<-T]at this;obtain⟨l⟩:=es
   simpa using this
  .obtain⟨z,U,rfl⟩:=aI.mp M;unfold putN;split<;>exact(hm.ks z U).keep prog w g hd (ar ..)
  .rw[Ub];exact hm.nd
end
end TH
namespace L2
open PySem PySem.Spec PyProof.Rows
abbrev KR:=Option Tr×V×V
def SA(q:KR)(x:TH.KE):Prop:=x.1=q.1/\RelV q.2.1 x.2.1/\RelV q.2.2 x.2.2
def dN(d:AD)(r:List KR):HO:=.ext fun h=>(d==sysModules)=false/\∃o es ep xs,h.get? d=some o/\o.ExactDict/\o.data=.dict es ep/\es.toList=xs.map TH.Dq/\PySem.Paired SA r xs
def Jz(H:Hp):Option Tr->V->Prop
 |none,v=>v=.Bf
 |some t,v=>t.deep<8/\Tv H t v
def Jz.same{H H':Hp}{k:Option Tr}{v:V}(h:Jz H k v)(e:AJ H H'):Jz H' k v:=by
 cases k with
 |none=>exact h
 |some t=>exact⟨h.1,h.2.same e⟩
structure Wd(H:Hp)(d:Addr)(r:List KR)(k:Option Tr):Prop where
 at_:H d=some (dN d r)
 ks:∀q∈r,Jz H q.1 q.2.1
 nd:(r.map (·.1)).Nodup
 ap:∀q∈r,TH.Bp q.1=TH.Bp k->q.1=k
def Qa{α β:Type}{R:α->β->Prop}{l:List α}{m:List β}(h:PySem.Paired R l m):∀x∈m,∃q∈l,R q x:=by
 induction h with
 |nil=>intro x g;cases g
 |cons a _ I=>
  intro x g;rcases aN.mp g with rfl|g
  .exact⟨_,.head _,a⟩
  .obtain⟨q,T,M⟩:=I x g;exact⟨q,.tail _ T,M⟩
def Te{r:List KR}{xs:List TH.KE}(h:PySem.Paired SA r xs):xs.map (·.1)=r.map (·.1):=by
 induction h with
 |nil=>rfl
 |cons a _ g=>rw[(BA),(BA),g,a.1]
section
variable{X:Cx}{pins:CG}{σ:St}{H:Hp}{s:SD}{pos:Pos}
def Jz.raw(I:At){k:Option Tr}{v:V}{u:VL}(h:Jz H k v)(r:RelV v u):TH.KD s.heap k u:=by
 cases k with
 |none=>
  have h:v=.Bf:=h;subst h;exact r
 |some t=>
  obtain⟨U,a,ys,rfl,T,R⟩:=h;obtain⟨g,M,p,_⟩:=I.tuple (Ax.of (K:=X.K) T);exact⟨a,r,U,g,p,R.vs I M⟩
def Va(I:At){d:AD}{r:List KR}{k:Option Tr}(h:Wd H d r k):(d==sysModules)=false/\∃xs,TH.Ki s.heap d xs/\PySem.Paired SA r xs/\∀x∈xs,TH.Bp x.1=TH.Bp k->x.1=k:=by
 obtain⟨U,o,es,ep,xs,g1,g2,g3,Z,g⟩:=(show Bx X.prog X.w H s.heap d (dN d r) from I.Al d _ h.at_).1;refine⟨U,xs,⟨⟨o,es,ep,g1,g2,g3,Z⟩,fun x M=>?_,by rw[Te g];exact h.nd⟩,g,fun x M=>?_⟩
 .obtain⟨q,T,R,Y,_⟩:=Qa g x M;rw[R];exact(h.ks q T).raw I Y
 .obtain⟨q,T,R,_⟩:=Qa g x M;rw[R];exact h.ap q T
def QD{r:List KR}{xs:List TH.KE}(h:PySem.Paired SA r xs)(k:Option Tr):match r.find? (fun q=>decide (q.1=k)) with
  |some q=>∃x,TH.GA xs k=some x/\RelV q.2.2 x.2.2
  |none=>TH.GA xs k=none:=by
 induction h with
 |nil=>exact rfl
 | @cons q x l m a _ g=>
  unfold TH.GA at g ⊢;rw[List.find?_cons,List.find?_cons,a.1];by_cases z:q.1=k
  .simp only[decide_eq_true z];exact⟨x,rfl,a.2.2⟩
  .simp only[decide_eq_false z];exact g
def qf:R2:=fun x y H Q=>∃d r k q,x=.ref d/\Jz H k y/\Wd H d r k/\r.find? (fun q=>decide (q.1=k))=some q/\Q q.2.2 H
def cW{o i:Expr}{R ty:TE}(hu:X.A.units+64<cLine)(ho:PE X o R)(hi:PE X i ty)(hs:ef i):PE X (.Subscript o i pos) (Zy qf R ty):=by
 intro pins s σ H Q I h;refine YA PySem.F.slot_dict_getitem.lookup hs (A9 (ho pins s σ H _ I h) fun u s1 ⟨x,H1,I1,Y,q1⟩=>A9 (hi pins s1 σ H1 _ I1 q1) fun iv s2 ⟨y,H2,M,U,q2⟩=>?_);obtain⟨d,r,k,q,rfl,hk,hD,hf,Z⟩:=q2;obtain rfl:u=Value.ref d:=Y;obtain⟨hsm,xs,hm,hp,g⟩:=Va M hD;have T:=QD hp k;rw[hf]at T;obtain⟨x,h1,h2⟩:=T;exact⟨hm.ty,TH.lJ (by show X.A.in1.units+8<cLine;rw[Around.in1_units];lia) (hk.raw M U) hm g h1 ⟨q.2.2,H2,M.tok _,h2,Z⟩⟩
def sD(neg:Bool):R2:=fun x y H Q=>∃d r k,y=.ref d/\Jz H k x/\Wd H d r k/\Q (.bl (if neg then !(r.find? (fun q=>decide (q.1=k))).isSome else(r.find? (fun q=>decide (q.1=k))).isSome)) H
def cM(hu:X.A.units+64<cLine)(neg:Bool):Cw X (compareOp (if neg then .NotIn else .In)) (sD neg):=by
 intro pins s σ H x y v u Q I U T h;obtain⟨d,r,k,rfl,Z,hD,q⟩:=h;obtain rfl:u=Value.ref d:=T;obtain⟨g,xs,hm,Y,R⟩:=Va I hD;have M:=QD Y k;have e:(TH.GA xs k).isSome=(r.find? (fun q=>decide (q.1=k))).isSome:=by
  split at M
  .rename_i q e;obtain⟨x,h1,_⟩:=M;rw[h1,e];rfl
  .rename_i e;rw[M,e];rfl
 refine TH.qv (by show X.A.in1.units+8<cLine;rw[Around.in1_units];lia) (Z.raw I U) g hm R neg ?_;rw[e];exact⟨.bl _,H,I.tok _,rfl,q⟩
def Ju(r:List KR)(k:Option Tr)(kv v:V):List KR:=if(r.find? (fun q=>decide (q.1=k))).isSome then r.map (fun q=>if q.1=k then(q.1,q.2.1,v) else q) else r++[(k,kv,v)]
def jB{r:List KR}{xs:List TH.KE}{k:Option Tr}{kv v:V}{I u:VL}(h:PySem.Paired SA r xs)(R:RelV kv I)(M:RelV v u):PySem.Paired SA (Ju r k kv v) (TH.Hw xs k I u):=by
 have g:=QD h k;unfold Ju TH.Hw;split at g
 .rename_i q e;obtain⟨x,T,_⟩:=g;rw[T,e];simp only[Option.isSome_some,if_true];clear e T R
  induction h with
  |nil=>exact .nil
  | @cons q x l m a _ U=>
   rw[(BA),(BA)];refine .cons ?_ U;unfold TH.putN;rw[a.1];by_cases z:q.1=k
   .rw[if_pos z,if_pos z];exact⟨rfl,a.2.1,M⟩
   .rw[if_neg z,if_neg z];exact a
 .rename_i e;rw[g,e];exact h.snoc ⟨rfl,R,M⟩
def pH:ZH:=fun o i v H Q=>∃d r k,o=.ref d/\Jz H k i/\Wd H d r k/\r.length<=1000/\Q (upd H d (dN d (Ju r k i v)))
def Z5(hu:X.A.units+64<cLine):gN X pH:=by
 intro pins s σ H o i v ov iv u Q I ro U rv h;obtain⟨d,r,k,rfl,hk,Z,hl,q⟩:=h;obtain rfl:ov=Value.ref d:=ro;obtain⟨g,xs,hm,Y,R⟩:=Va I Z;have hle:xs.length=r.length:=by have:=ai List.length (Te Y);simpa using this
 refine TH.pk (by show X.A.in1.units+8<cLine;rw[Around.in1_units];lia) (hk.raw I U) hm R (aT (by lia:xs.length<=1000) (by rw[sizeLine_eq];decide)) fun h' M sb=>?_;obtain⟨o',es,ep,T,g2,g3,g4⟩:=M.ob;refine⟨_,I.write (x:=d) (e:=d) (o:=dN d (Ju r k i v)) (t':=s.toks+TH.FE k) (by rw[Z.at_];exact trivial) (.inl rfl) (fun b w' hb e=>(sb.2 b hb).trans e) ⟨o',T⟩ ?_,q⟩;exact⟨⟨g,o',es,ep,_,T,g2,g3,g4,jB Y U rv⟩,⟨o',T⟩,fun h1 h2 ⟨a,o,es,ep,xs,q,r⟩ k=>⟨a,o,es,ep,xs,k _ q,r⟩⟩
def nO:TE:=fun _ H Q=>∀p,H p=none->Q (.ref p) (upd H p (dN p []))
def gH:PE X (.Dict [] [] pos) nO:=fun pins s σ H Q I h=>by
 refine wpAny_Dict_empty ⟨.ref s.heap.objs.size,_,I.laid (a:=s.heap.objs.size) (o:=dN s.heap.objs.size []) (t':=s.toks) (fun _ _ q=>aF _ q) (aG _) ?_,rfl,h _ (I.Al.fresh (aG _))⟩;have g:sysModules<s.heap.objs.size:=Nat.lt_trans AS (I.mod.glob.keeps I.bk).lt;have hn:(s.heap.objs.size==sysModules)=false:=beq_eq_false_iff_ne.mpr (Ne.symm (aM g));exact⟨⟨hn,_,#[],0,[],Heap.get?_push_size _ rfl,⟨rfl,rfl,rfl⟩,rfl,rfl,.nil⟩,⟨_,Heap.get?_push_size _ rfl⟩,fun T R ⟨a,o,es,ep,xs,q,r⟩ k=>⟨a,o,es,ep,xs,k _ q,r⟩⟩
def find_key{r:List KR}{k:Option Tr}{q:KR}(h:r.find? (fun q=>decide (q.1=k))=some q):q∈r/\q.1=k:=⟨List.mem_of_find?_eq_some h,by simpa using List.find?_some h⟩
end
section
variable{X:Cx}{e:Expr}{t:TX}{x z n:Str}{G:AD}{pz pn np spos tpos hpos pos:Pos}{j k:Nat}
def cw(K:Fg)(G:AD)(t:TX)(j k:Nat):TS:=fun D σ H=>t σ H (fun _ g=>D.nx σ g) fun cls _ H'=>∃C,cls=.ref C/\Fx K C G true /\
 ∀ea,H' ea=none->D.nx (((σ.set k (some (.ref ea))).set j (some (.ref ea))).set k none) (upd H' ea (ME ea cls))
def WZ(he:nK X e t)(hN:X.N.Nodup)(g:X.calm=true)(hj:X.N[j]? = some z)(hk:X.N[k]? = some n)(U:X.env.scope.names.lookup z=some .local)(Y:X.env.scope.names.lookup n=some .local) (hg:Gl X x)(hm:X.mg x=some (.ref G))(Z:k≠j)(M:∃rest,X.stack=X.env::rest)(hfr:X.env.frame=some X.env.locals) (hd:FS=false:=by decide)(R:swapsWith (.Name n pn) (some (.Name z pz)) tpos.line X.env=pure false:=by rfl)(hdn:(n==("__debug__" : Str))=false:=by decide)(hcn:(n==("__classdict__" : Str))=false:=by decide) (T:swapsWith e none spos.line X.env=pure false:=by rfl):PS X (.Try [.Expr e spos] [.ExceptHandler (some (.Name x np)) (some n) [.Assign [.Name z pz] (.Name n pn) tpos] hpos] [] [] pos) (cw X.K G t j k):=by
 intro pins s σ H D I h;refine wpAny_Try_except (wpAny_execs_cons (wpAny_Expr_any (aY (he pins s σ H _ _ I h) (fun v s1 ⟨w,H1,I1,r1,q1⟩=>?_) fun ev s1 hf=>?_) I.quiet T))
 .exact wpAny_execs_nil (wpAny_execs_nil ⟨_,H1,I1,q1⟩)
 .exact kz hN g hj hk U Y hg hm Z M hfr hf hd R hdn hcn
end
section
variable{X:Cx}
def OW(hc:X.calm=true):FR X (.builtin "sum") (fun xs H Q=>∃(p:AD) (ns:tJ),xs=[.ref p]/\Ax X.K H p (ns.map V.int)/\Q (.int ns.sum) H):=by
 intro pins s σ H xs us Q I r h;obtain⟨p,ns,rfl,hq,q⟩:=h;obtain⟨u,rfl,r1⟩:=r.one;cases r1;obtain⟨T,Z,pl,hz⟩:=I.tuple hq;have hi:=intsAre_of Z;obtain⟨xs,Y⟩:=hi.allInts.items;have g:s.heap.IsTuple p (intItems xs):=Y ▸ pl
 have R:p<s.heap.objs.size:=by obtain⟨_,e,_⟩:=g;exact aE e
 have e1:ns=xs.toList.map (·.1):=by
  rw[<-nums_intItems,<-Y];exact(show numsOf T.toArray.toList=ns from hi.numsOf).symm
 have e2:preSum (numAt xs) xs.size=ns.sum:=by
  rw[preSum_eq,List.take_of_length_le BY,e1]
 refine call_sum_walkG (wpAny_pyIter_tuple g ?_);refine⟨_,[_,p],[_],_,_,_,numAt xs,rfl,Walks.tuple (A:=X.A.in1) (I.ok.hd hc) _ p (aM R) (intItems xs),
  ⟨⟨_,Heap.get?_push_size _ rfl,rfl,rfl⟩,g.push _⟩,fun c M=>?_,(fun _ _=>intItems_at),fun h' tk U hk=>?_⟩
 .show c<(s.heap.push _).objs.size;rw[(L8)];rcases aN.mp M with rfl|M
  .exact Nat.lt_succ_self _
  .rw[List.mem_singleton.mp M];exact Nat.lt_succ_of_lt R
 .have e3:preSum (numAt xs) (intItems xs).size=ns.sum:=by
   rw[<-e2];simp[intItems]
  rw[e3];exact⟨.int _,H,I.kept (t':=tk) (PyProof.Rows.LSm.kept_iter hk),⟨U,rfl⟩,q⟩
end
end L2
namespace L2
open PySem PySem.Spec PyProof.Rows
def Rd.same{H H':Hp}{a:AD}{u:HO}(e:AJ H H')(h:Rd H a u):Rd H' a u:=by
 rcases h with h|⟨o,h⟩
 .exact .inl (e _ _ h)
 .exact .inr ⟨o,e _ _ h⟩
def K3:Tr->List PD
 |.nil=>[]
 |.cons b r=>.tuple (K3 b)::K3 r
def lC:Option Tr->PD
 |none=>.none
 |some t=>.tuple (K3 t)
mutual
def Du(H:Hp):PD->V->Prop
 |.none,v=>v=.Bf
 |.bool b,v=>v=.bl b
 |.int i,v=>v=.int i
 |.str x,v=>v=.str x
 |.tuple g,v=>∃a xs,v=.ref a/\H a=some (.tup xs)/\Aq H g xs
 |.list g,v=>∃a xs,v=.ref a/\H a=some (.lst xs)/\Aq H g xs
 |.dict kv,v=>(∃ea C:AD,kv=[(.int (C:Nat),.none)]/\v=.ref ea/\H ea=some (ME ea (.ref C)))\/(∃(a:AD) (ns:List Int),kv=[(.none,.list (ns.map .int))]/\v=.ref a/\Rd H a (.lst (ns.map V.int)))\/Md H kv v
def Aq(H:Hp):List PD->List V->Prop
 |[],xs=>xs=[]
 |d::g,xs=>∃x r,xs=x::r/\Du H d x/\Aq H g r
def Md(H:Hp):List (PD×PD)->V->Prop
 |[],_=>False
 |(g,I)::t,v=>g=.bool true/\I=.none/\∃a r,v=.ref a/\H a=some (dN a r)/\(r.map (·.1)).Nodup/\NQ H t r
def NQ(H:Hp):List (PD×PD)->List KR->Prop
 |[],r=>r=[]
 |(k,d)::t,r=>∃q g,r=q::g/\k=lC q.1/\Jz H q.1 q.2.1/\Du H d q.2.2/\NQ H t g
end
mutual
theorem Du.same{H H':Hp}(e:AJ H H'):∀ {d:PD} {v:V},Du H d v->Du H' d v
 |.none,_,h=>by rw[Du]at h ⊢;exact h
 |.bool _,_,h=>by rw[Du]at h ⊢;exact h
 |.int _,_,h=>by rw[Du]at h ⊢;exact h
 |.str _,_,h=>by rw[Du]at h ⊢;exact h
 |.tuple _,_,h=>by
  rw[Du]at h ⊢;obtain⟨a,xs,I,g,M⟩:=h;exact⟨a,xs,I,e _ _ g,Aq.same e M⟩
 |.list _,_,h=>by
  rw[Du]at h ⊢;obtain⟨a,xs,I,g,M⟩:=h;exact⟨a,xs,I,e _ _ g,Aq.same e M⟩
 |.dict _,_,h=>by
  rw[Du]at h ⊢;rcases h with ⟨ea,C,I,R,g⟩|⟨a,ns,I,R,g⟩|h
  .exact .inl ⟨ea,C,I,R,e _ _ g⟩
  .exact .inr (.inl ⟨a,ns,I,R,g.same e⟩)
  .exact .inr (.inr (Md.same e h))
theorem Aq.same{H H':Hp}(e:AJ H H'):∀ {ds:List PD} {xs:List V},Aq H ds xs->Aq H' ds xs
 |[],_,h=>by rw[Aq]at h ⊢;exact h
 |_::_,_,h=>by
  rw[Aq]at h ⊢;obtain⟨x,r,M,I,g⟩:=h;exact⟨x,r,M,Du.same e I,Aq.same e g⟩
theorem Md.same{H H':Hp}(e:AJ H H'):∀ {kv:List (PD×PD)} {v:V},Md H kv v->Md H' kv v
 |[],_,h=>by rw[Md]at h;exact h.elim
 |(_,_)::_,_,h=>by
  rw[Md]at h ⊢;obtain⟨U,T,a,r,R,M,I,g⟩:=h;exact⟨U,T,a,r,R,e _ _ M,I,NQ.same e g⟩
theorem NQ.same{H H':Hp}(e:AJ H H'):∀ {kv:List (PD×PD)} {r:List KR},NQ H kv r->NQ H' kv r
 |[],_,h=>by rw[NQ]at h ⊢;exact h
 |(_,_)::_,_,h=>by
  rw[NQ]at h ⊢;obtain⟨q,g,U,T,R,M,I⟩:=h;exact⟨q,g,U,T,R.same e,Du.same e M,NQ.same e I⟩
end
mutual
theorem Du.br{K:Fg}{H:Hp}:∀ {d:PD} {v:V},d.canLay0=true->Du H d v->Br K H d v
 |.none,_,_,h=>by rw[Du]at h;rw[Br];exact h
 |.bool _,_,_,h=>by rw[Du]at h;rw[Br];exact h
 |.int _,_,_,h=>by rw[Du]at h;rw[Br];exact h
 |.str _,_,_,h=>by rw[Du]at h;rw[Br];exact h
 |.tuple _,_,c,h=>by
  rw[Du]at h;rw[Br];obtain⟨a,xs,M,I,g⟩:=h;exact⟨a,xs,M,Ax.of I,Aq.br (by simp only[PyData.canLay0,Bool.and_eq_true]at c;first|exact c|exact c.2|exact c.1) g⟩
 |.list _,_,c,h=>by
  rw[Du]at h;rw[Br];obtain⟨a,xs,M,I,g⟩:=h;exact⟨a,xs,M,Aj.of I,Aq.br (by simp only[PyData.canLay0,Bool.and_eq_true]at c;first|exact c|exact c.2|exact c.1) g⟩
 |.dict _,_,c,h=>by simp[PyData.canLay0]at c
theorem Aq.br{K:Fg}{H:Hp}:∀ {ds:List PD} {xs:List V},PyData.canLayAll0 ds=true->Aq H ds xs->Et K H ds xs
 |[],_,_,h=>by rw[Aq]at h;rw[Et];exact h
 |_::_,_,c,h=>by
  rw[Aq]at h;rw[Et];obtain⟨x,r,M,I,g⟩:=h;simp only[PyData.canLayAll0,Bool.and_eq_true]at c;exact⟨x,r,M,Du.br c.1 I,Aq.br c.2 g⟩
end
def Aq.nil{H:Hp}:Aq H [] []:=by rw[Aq]
def Aq.cons{H:Hp}{d:PD}{ds:sx}{x:V}{xs:tR}(h:Du H d x)(k:Aq H ds xs):Aq H (d::ds) (x::xs):=by rw[Aq];exact⟨x,xs,rfl,h,k⟩
def Aq.un{H:Hp}{d:PD}{ds:sx}{xs:tR}(h:Aq H (d::ds) xs):∃x r,xs=x::r/\Du H d x/\Aq H ds r:=by rw[Aq]at h;exact h
def Aq.nil_eq{H:Hp}{xs:tR}(h:Aq H [] xs):xs=[]:=by rw[Aq]at h;exact h
def Aq.len{H:Hp}:∀ {ds:List PD} {xs:List V},Aq H ds xs->xs.length=ds.length
 |[],_,h=>by rw[h.nil_eq];rfl
 |_::_,_,h=>by obtain⟨x,r,rfl,_,g⟩:=h.un;simp[g.len]
def Aq.get{H:Hp}:∀ {ds:List PD} {xs:List V} {i:Nat} {d:PD},Aq H ds xs->ds[i]? = some d->∃v,xs[i]? = some v/\Du H d v
 |[],_,i,_,_,e=>by simp at e
 |_::_,_,0,_,h,e=>by
  obtain⟨x,r,rfl,R,_⟩:=h.un;simp at e;subst e;exact⟨x,rfl,R⟩
 |_::_,_,i+1,_,h,e=>by
  obtain⟨x,r,rfl,_,M⟩:=h.un;obtain⟨v,I,g⟩:=M.get (i:=i) (by simpa using e);exact⟨v,by simpa using I,g⟩
def Aq.back{H:Hp}{ds:sx}{xs:tR}{i:Nat}{v:V}(h:Aq H ds xs)(e:xs[i]? = some v):∃d,ds[i]? = some d/\Du H d v:=by
 have M:=h.len;have hi:i<ds.length:=by rw[<-M];exact(aB.mp e).1
 have hd:ds[i]? = some ds[i]:=by simp[hi]
 obtain⟨w,g,I⟩:=h.get hd;rw[e]at g;cases g;exact⟨_,hd,I⟩
def Aq.app{H:Hp}:∀ {ds es:List PD} {xs ys:List V},Aq H ds xs->Aq H es ys->Aq H (ds++es) (xs++ys)
 |[],_,_,_,h,k=>by rw[h.nil_eq];exact k
 |_::_,_,_,_,h,k=>by obtain⟨x,r,rfl,I,g⟩:=h.un;exact .cons I (g.app k)
def Aq.take{H:Hp}:∀ {ds:List PD} {xs:List V} (i:Nat),Aq H ds xs->Aq H (ds.take i) (xs.take i)
 |_,_,0,_=>by rw[(MB),(MB)];exact .nil
 |[],_,i+1,h=>by rw[h.nil_eq];exact .nil
 |_::_,_,i+1,h=>by obtain⟨x,r,rfl,I,g⟩:=h.un;exact .cons I (g.take i)
def Aq.drop{H:Hp}:∀ {ds:List PD} {xs:List V} (i:Nat),Aq H ds xs->Aq H (ds.drop i) (xs.drop i)
 |_,_,0,h=>h
 |[],_,i+1,h=>by rw[h.nil_eq];exact .nil
 |_::_,_,i+1,h=>by obtain⟨x,r,rfl,I,g⟩:=h.un;exact g.drop i
inductive Oc where
 |lst (xs:List PyData)|Na (kvs:List (List Key×PyData))|eF (kvs:List (Option Tr×PyData))
inductive L where
 |no|d (x:PyData)|own (c:Oc)
abbrev Dv:=List L
abbrev sq:=Dv->Option (List PD)
abbrev sr:=Dv->Option PD
abbrev su:=Dv->Option Bool
def Jm(G:Hp):List (List Key×PD)->List (List Key×V)->Prop
 |[],r=>r=[]
 |q::t,r=>∃v g,r=(q.1,v)::g/\Du G q.2 v/\Jm G t g
theorem Jm.same{G g:Hp}(e:AJ G g):∀ {t:List (List Key×PD)} {r:List (List Key×V)},Jm G t r->Jm g t r
 |[],r,h=>h
 |q::t,r,h=>by
  obtain⟨v,I,rfl,R,M⟩:=h;exact⟨v,I,rfl,R.same e,Jm.same e M⟩
abbrev iD(kvs:List (Option Tr×PD)):List (PD×PD):=kvs.map fun q=>(lC q.1,q.2)
abbrev Ym(kvs:List (Option Tr×PD)):PD:=.dict ((.bool true,.none)::iD kvs)
def J9(G:Hp)(a:AD):Oc->HO->Prop
 |.lst xs,o=>∃ys,o=.lst ys/\Aq G xs ys
 |.Na kvs,o=>∃r,o=.dT r/\Jm G kvs r
 |.eF kvs,o=>∃r,o=dN a r/\(r.map (·.1)).Nodup/\NQ G (iD kvs) r
def J9.same{G M:Hp}{a:AD}{c:Oc}{o:HO}(h:J9 G a c o)(e:AJ G M):J9 M a c o:=by
 cases c with
 |eF kvs=>obtain⟨r,I,g,R⟩:=h;exact⟨r,I,g,NQ.same e R⟩
 |lst xs=>obtain⟨ys,I,g⟩:=h;exact⟨ys,I,g.same e⟩
 |Na kvs=>obtain⟨ys,I,g⟩:=h;exact⟨ys,I,g.same e⟩
def J9.ZD{G:Hp}{a:AD}{c:Oc}{xs:tR}(h:J9 G a c (.tup xs)):False:=by
 cases c with
 |eF kvs=>obtain⟨r,g,I,M⟩:=h;unfold dN at g;cases g
 |lst xs=>obtain⟨ys,g,I⟩:=h;cases g
 |Na kvs=>obtain⟨ys,g,I⟩:=h;cases g
def Nw(G0 H0 G:Hp):Prop:=∀a o,G a=some o->G0 a=some o\/H0 a=none\/∃xs,o=HO.tup xs
structure Rw(G0 H0 G H:Hp)(σ:St)(δ:Dv)(ts:List (PyData×V)):Prop where
 ext:AJ G0 G
 new:Nw G0 H0 G
 ins:AJ G H
 keep:AJ H0 H
 len:σ.length=δ.length
 dat:∀(i:Nat) (x:PyData),δ[i]? = some (L.d x)->∃v,σ[i]? = some (some v)/\Du G x v
 own:∀(i:Nat) (xs:Oc),δ[i]? = some (L.own xs)->∃(a:Addr) (ys:HO),σ[i]? = some (some (V.ref a))/\G a=none/\H0 a=none/\H a=some ys/\J9 G a xs ys
 apart:∀(i j:Nat) (xs ys:Oc),i≠j->δ[i]? = some (L.own xs)->δ[j]? = some (L.own ys)->σ[i]?≠σ[j]?
 Cf:∀p∈ts,Du G p.1 p.2
def DE(X:Cx)(e:Expr)(f:sr):Prop:=∃t,PE X e t/\∀δ x,f δ=some x->∀G0 H0 G H σ ts (Q:VK),Rw G0 H0 G H σ δ ts->(∀v g H',Rw G0 H0 g H' σ δ ((x,v)::ts)->Q v H')->t σ H Q
def DA(X:Cx)(es:tL)(f:sq):Prop:=∃t,PA X es t/\∀δ xs,f δ=some xs->∀G0 H0 G H σ ts (Q:List V->Hp->Prop),Rw G0 H0 G H σ δ ts->(∀vs g H',Rw G0 H0 g H' σ δ (xs.zip vs++ts)->vs.length=xs.length->Q vs H')->t σ H Q
def DT(X:Cx)(e:Expr)(f:su):Prop:=∃t,PT X e t/\∀δ b,f δ=some b->∀G0 H0 G H σ ts (Q:Bool->Hp->Prop),Rw G0 H0 G H σ δ ts->(∀g H',Rw G0 H0 g H' σ δ ts->Q b H')->t σ H Q
section
variable{G0 H0 G H:Hp}{σ:St}{δ:Dv}{ts:List (PD×V)}
def Rw.drop{p:PD×V}(r:Rw G0 H0 G H σ δ (p::ts)):Rw G0 H0 G H σ δ ts:={r with Cf:=fun q g=>r.Cf q (.tail _ g)}
def Rw.less{us:List (PD×V)}(r:Rw G0 H0 G H σ δ ts)(h:∀p∈us,p∈ts):Rw G0 H0 G H σ δ us:={r with Cf:=fun q g=>r.Cf q (h q g)}
def Rw.put{x:PD}{v:V}(r:Rw G0 H0 G H σ δ ts)(h:Du G x v):Rw G0 H0 G H σ δ ((x,v)::ts):={r with Cf:=fun q g=>by rcases aN.mp g with rfl|g;exact h;exact r.Cf q g}
def Rw.newObj{p:AD}{o:HO}(r:Rw G0 H0 G H σ δ ts)(g:H p=none):Rw G0 H0 (upd G p o) (upd H p o) σ δ ts:=by
 have Z:G p=none:=by
  cases q:G p with
  |none=>rfl
  |some u=>rw[r.ins _ _ q]at g;cases g
 have h0:H0 p=none:=by
  cases q:H0 p with
  |none=>rfl
  |some u=>rw[r.keep _ _ q]at g;cases g
 have e:AJ G (upd G p o):=AZ Z o;refine⟨r.ext.trans e,fun a u h=>?_,fun a u h=>?_,r.keep.trans (AZ g o),r.len,fun i x h=>?_,fun i xs h=>?_,r.apart,fun q Y=>(r.Cf q Y).same e⟩
 .by_cases ha:a=p
  .subst ha;exact .inr (.inl h0)
  .rw[AK ha]at h;exact r.new _ _ h
 .by_cases ha:a=p
  .subst ha;rw[AN]at h ⊢;exact h
  .rw[AK ha]at h ⊢;exact r.ins _ _ h
 .obtain⟨v,M,I⟩:=r.dat i x h;exact⟨v,M,I.same e⟩
 .obtain⟨a,ys,M,I,U,R,T⟩:=r.own i xs h;have ha:a≠p:=fun z=>by subst z;rw[R]at g;cases g
  exact⟨a,ys,M,by rw[AK ha];exact I,U,by rw[AK ha];exact R,T.same e⟩
def Rw.j5{p:AD}{xs:tR}{H':Hp}(r:Rw G0 H0 G H σ δ ts)(e:AJ H H')(g:H' p=some (.tup xs)):Rw G0 H0 (upd G p (.tup xs)) H' σ δ ts:=by
 have I:AJ G (upd G p (.tup xs)):=fun a o h=>by
  by_cases ha:a=p
  .subst ha;have:=e _ _ (r.ins _ _ h);rw[g]at this;rw[AN];exact this
  .rw[AK ha];exact h
 refine⟨r.ext.trans I,fun a u h=>?_,fun a u h=>?_,r.keep.trans e,r.len,fun i x h=>?_,fun i xs h=>?_,r.apart,fun q Z=>(r.Cf q Z).same I⟩
 .by_cases ha:a=p
  .subst ha;rw[AN]at h;cases h;exact .inr (.inr ⟨_,rfl⟩)
  .rw[AK ha]at h;exact r.new _ _ h
 .by_cases ha:a=p
  .subst ha;rw[AN]at h;rw[g];exact h
  .rw[AK ha]at h;exact e _ _ (r.ins _ _ h)
 .obtain⟨v,R,M⟩:=r.dat i x h;exact⟨v,R,M.same I⟩
 .obtain⟨a,ys,R,M,Y,U,T⟩:=r.own i xs h;have ha:a≠p:=fun z=>by subst z;rw[e _ _ U]at g;cases g;exact T.ZD
  exact⟨a,ys,R,by rw[AK ha];exact M,Y,e _ _ U,T.same I⟩
def Rw.lift{g H':Hp}(r:Rw G0 H0 G H σ δ ts)(h1:AJ G g)(Z:Nw G H g)(Y:AJ g H')(T:AJ H H'):Rw G0 H0 g H' σ δ ts:=by
 refine⟨r.ext.trans h1,fun a o h=>?_,Y,r.keep.trans T,r.len,fun i x h=>?_,fun i xs h=>?_,r.apart,fun q hq=>(r.Cf q hq).same h1⟩
 .rcases Z a o h with k|k|k
  .exact r.new a o k
  .right;left
   cases q:H0 a with
   |none=>rfl
   |some u=>rw[r.keep _ _ q]at k;cases k
  .exact .inr (.inr k)
 .obtain⟨v,R,M⟩:=r.dat i x h;exact⟨v,R,M.same h1⟩
 .obtain⟨a,ys,R,M,k3,I,U⟩:=r.own i xs h;refine⟨a,ys,R,?_,k3,T _ _ I,U.same h1⟩;cases q:g a with
  |none=>rfl
  |some u=>
   rcases Z a u q with z|z|⟨xs',z⟩
   .rw[M]at z;cases z
   .rw[I]at z;cases z
   .have:=Y _ _ q;rw[T _ _ I,z]at this;cases this;exact U.ZD.elim
end
section
variable{X:Cx}{a b e:Expr}{f g h:sr}{pos:Pos}
def Ah{i j pos}:DE X (.Constant (.int i) j pos) (fun _=>some (.int i)):=⟨_,AU,fun δ x h G0 H0 G H σ ts Q r k=>by cases h;exact k _ _ _ (r.put (by rw[Du]))⟩
def KQ{i j pos}:DE X (.Constant (.bool i) j pos) (fun _=>some (.bool i)):=⟨_,Er,fun δ x h G0 H0 G H σ ts Q r k=>by cases h;exact k _ _ _ (r.put (by rw[Du]))⟩
def LD{j pos}:DE X (.Constant .none j pos) (fun _=>some .none):=⟨_,mD,fun δ x h G0 H0 G H σ ts Q r k=>by cases h;exact k _ _ _ (r.put (by rw[Du]))⟩
def Bt{i j pos}:DE X (.Constant (.str i) j pos) (fun _=>some (.str i)):=⟨_,nU,fun δ x h G0 H0 G H σ ts Q r k=>by cases h;exact k _ _ _ (r.put (by rw[Du]))⟩
def nm(i:Nat)(δ:Dv):tG:=match δ[i]? with|some (.d x)=>some x|_=>none
def pY{i:Nat}{δ:Dv}{x:PD}(h:nm i δ=some x):δ[i]? = some (.d x):=by
 unfold nm at h;split at h
 .rename_i y e;cases h;exact e
 .cases h
def AF{i:Nat}{x:Str}(h:PE X (.Name x pos) (UQ i)):DE X (.Name x pos) (nm i):=⟨_,h,fun δ y I G0 H0 G H σ ts Q r k=>by
 obtain⟨v,R,M⟩:=r.dat _ _ (pY I);exact⟨v,R,k _ _ _ (r.put M)⟩⟩
def Ap(o:PD->PD->Option PD)(f g:sr)(δ:Dv):tG:=(f δ).bind fun x=>(g δ).bind fun y=>o x y
def EV(X:Cx)(m:VL->VL->Sem VL)(o:PD->PD->Option PD):Prop:=∃r:R2,Cw X m r/\∀x y z,o x y=some z->∀G0 H0 G H σ δ ts u v (Q:VK),Rw G0 H0 G H σ δ ts->Du G x u->Du G y v->(∀w I H',Rw G0 H0 I H' σ δ ((z,w)::ts)->Q w H')->r u v H Q
def two{x y:PD}{f g:sr}{δ:Dv}{o:PD->PD->Option PD}{z:PD}(h:Ap o f g δ=some z):∃x y,f δ=some x/\g δ=some y/\o x y=some z:=by
 unfold Ap at h;obtain⟨x,T,R⟩:=aD.mp h;obtain⟨y,M,I⟩:=aD.mp R;exact⟨x,y,T,M,I⟩
def A8{op:Operator}{o:PD->PD->Option PD}(ho:EV X (binaryOp op) o)(ha:DE X a f)(hb:DE X b g):DE X (.BinOp a op b pos) (Ap o f g):=by
 obtain⟨r,Z,R⟩:=ho;obtain⟨ta,M,U⟩:=ha;obtain⟨tb,I,T⟩:=hb;refine⟨_,Au Z M I,fun δ z Y G0 H0 G H σ ts Q R0 k=>?_⟩;obtain⟨x,y,h1,h2,h3⟩:=two (x:=.none) (y:=.none) Y;refine U δ x h1 G0 H0 G H σ ts _ R0 fun u G1 H1 R1=>?_;refine T δ y h2 G0 H0 G1 H1 σ _ _ R1 fun v G2 H2 R2=>?_;exact R x y z h3 G0 H0 G2 H2 σ δ ts u v Q (R2.drop.drop) (R2.Cf (x,u) (.tail _ (.head _))) (R2.Cf (y,v) (.head _)) k
def b9{op:CmpOp}{o:PD->PD->Option PD}(ho:EV X (compareOp op) o)(ha:DE X a f)(hb:DE X b g)(hm:behindInMarks op b=false):DE X (.Compare a [op] [b] pos) (Ap o f g):=by
 obtain⟨r,Z,R⟩:=ho;obtain⟨ta,M,U⟩:=ha;obtain⟨tb,I,T⟩:=hb;refine⟨_,O1 Z M I hm,fun δ z Y G0 H0 G H σ ts Q R0 k=>?_⟩;obtain⟨x,y,h1,h2,h3⟩:=two (x:=.none) (y:=.none) Y;refine U δ x h1 G0 H0 G H σ ts _ R0 fun u G1 H1 R1=>?_;refine T δ y h2 G0 H0 G1 H1 σ _ _ R1 fun v G2 H2 R2=>?_;exact R x y z h3 G0 H0 G2 H2 σ δ ts u v Q (R2.drop.drop) (R2.Cf (x,u) (.tail _ (.head _))) (R2.Cf (y,v) (.head _)) k
end
section
variable{X:Cx}
def KG(o o':PD->PD->Option PD)(x y:PD):tG:=match o x y with|some z=>some z|none=>o' x y
def EV.or{m:VL->VL->Sem VL}{o o':PD->PD->Option PD}(h:EV X m o)(h':EV X m o'):EV X m (KG o o'):=by
 obtain⟨r,Y,U⟩:=h;obtain⟨r',M,I⟩:=h';refine⟨_,Cw.or Y M,fun x y z g G0 H0 G H σ δ ts u v Q T du R k=>?_⟩;unfold KG at g;split at g
 .rename_i Z e;cases g;exact .inl (U x y z e G0 H0 G H σ δ ts u v Q T du R k)
 .exact .inr (I x y z g G0 H0 G H σ δ ts u v Q T du R k)
def Ot{m:VL->VL->Sem VL}{C:Int->Int->Prop}{I:Int->Int->V}{o:Int->Int->Option PD}(R:Cw X m (rI C I))(T:∀i j z,o i j=some z->C i j/\∀H,Du H z (I i j)) :
  EV X m (fun x y=>match x,y with|.int i,.int j=>o i j|_,_=>none):=by
 refine⟨_,R,fun x y z g G0 H0 G H σ δ ts u v Q Z du M k=>?_⟩;dsimp only at g;split at g
 .rename_i i j;rw[Du]at du M;obtain⟨Y,U⟩:=T i j z g;exact⟨i,j,du,M,Y,k _ _ _ (Z.put (U _))⟩
 .cases g
def LN{m:VL->VL->Sem VL}{I:Int->Int->V}{o:Int->Int->PD}(R:Cw X m (Sv I))(T:∀i j H,Du H (o i j) (I i j)) :
  EV X m (fun x y=>match x,y with|.int i,.int j=>some (o i j)|_,_=>none):=by
 refine⟨_,R,fun x y z g G0 H0 G H σ δ ts u v Q U du M k=>?_⟩;dsimp only at g;split at g
 .rename_i i j;cases g;rw[Du]at du M;exact⟨i,j,du,M,k _ _ _ (U.put (T _ _ _))⟩
 .cases g
def DH:Nat:=1000
def SH{n:Nat}(h:n<=DH):n<sizeLine:=S8 h
def Hm{n:Nat}(h:n<=DH):n<=sizeLine:=Nat.le_of_lt (S8 h)
def Y3:PD->PD->Option PD:=fun x y=>match x,y with|.int i,.int j=>some (.int (i+j))|_,_=>none
def Vo:PD->PD->Option PD:=fun x y=>match x,y with|.int i,.int j=>some (.int (i-j))|_,_=>none
def J0(n:Nat)(i:Int):Bool:=decide (i.natAbs<2^n)
def Mj(i j:Int):Bool:=J0 64 i||J0 64 j||(J0 9000 i&&J0 9000 j)
def ZO:PD->PD->Option PD:=fun x y=>match x,y with|.int i,.int j=>(if Mj i j=true then some (.int (i*j)) else none)|_,_=>none
def Za:PD->PD->Option PD:=fun x y=>match x,y with|.int i,.int j=>(if j≠0/\J0 9000 j=true then some (.int (i.fdiv j)) else none)|_,_=>none
def JG:PD->PD->Option PD:=fun x y=>match x,y with|.int i,.int j=>(if j≠0 then some (.int (i.fmod j)) else none)|_,_=>none
def QP:PD->PD->Option PD:=fun x y=>match x,y with|.int i,.int j=>(if 0<=j/\j<=1000/\J0 64 i=true then some (.int (i^j.toNat)) else none)|_,_=>none
def jy:EV X (binaryOp .Add) Y3:=LN Ff fun _ _ _=>by rw[Du]
def Ov:EV X (binaryOp .Sub) Vo:=LN Jc fun _ _ _=>by rw[Du]
def iV{i:Int}(h:J0 64 i=true):-(2^64)<i/\i<2^64:=by
 have:=ah h
 lia
def jF:EV X (binaryOp .Mult) ZO:=Ot (o:=fun i j=>if Mj i j=true then some (.int (i*j)) else none) Ci fun i j z h=>by
 split at h
 .rename_i q;cases h;refine⟨?_,fun _=>by rw[Du]⟩;unfold Mj at q;rw[Bool.or_eq_true,Bool.or_eq_true,(Jr)]at q;rcases q with (q|q)|q
  .exact .inl (.inl (iV q))
  .exact .inl (.inr (iV q))
  .exact .inr ⟨9000,by decide,of_decide_eq_true q.1,of_decide_eq_true q.2⟩
 .cases h
def jh:EV X (binaryOp .FloorDiv) Za:=Ot (o:=fun i j=>if j≠0/\J0 9000 j=true then some (.int (i.fdiv j)) else none) Ek fun i j z h=>by
 split at h
 .rename_i q;cases h;exact⟨⟨q.1,9000,Nat.le_refl _,of_decide_eq_true q.2⟩,fun _=>by rw[Du]⟩
 .cases h
def Hx:EV X (binaryOp .Mod) JG:=Ot (o:=fun i j=>if j≠0 then some (.int (i.fmod j)) else none) Oz fun i j z h=>by
 split at h
 .rename_i q;cases h;exact⟨q,fun _=>by rw[Du]⟩
 .cases h
def R7:EV X (binaryOp .Pow) QP:=Ot (o:=fun i j=>if 0<=j/\j<=1000/\J0 64 i=true then some (.int (i^j.toNat)) else none) RA fun i j z h=>by
 split at h
 .rename_i q;cases h;exact⟨⟨q.1,by lia,of_decide_eq_true q.2.2⟩,fun _=>by rw[Du]⟩
 .cases h
def HR(p:Int->Int->Bool):PD->PD->Option PD:=fun x y=>match x,y with|.int i,.int j=>some (.bool (p i j))|_,_=>none
def oZ:EV X (compareOp .Lt) (HR fun i j=>decide (i<j)):=LN (o:=fun i j=>.bool (decide (i<j))) RC fun _ _ _=>by rw[Du]
def Qm:EV X (compareOp .Gt) (HR fun i j=>decide (j<i)):=LN (o:=fun i j=>.bool (decide (j<i))) UG fun _ _ _=>by rw[Du]
def pB:EV X (compareOp .GtE) (HR fun i j=>decide (j<=i)):=LN (o:=fun i j=>.bool (decide (j<=i))) Yj fun _ _ _=>by rw[Du]
def QZ:PD->PD->Option PD:=fun x y=>match x,y with|.list a,.list b=>(if a.length+b.length<=DH then some (.list (a++b)) else none)|_,_=>none
def jE:EV X (binaryOp .Add) QZ:=by
 refine⟨_,Z8,fun x y z g G0 H0 G H σ δ ts u v Q M du U k=>?_⟩;unfold QZ at g;split at g
 .rename_i a b;split at g
  .rename_i Y;cases g;rw[Du]at du U;obtain⟨p,xs,rfl,h1,T⟩:=du;obtain⟨q,ys,rfl,Z,R⟩:=U;refine⟨p,q,xs,ys,rfl,rfl,M.ins _ _ h1,M.ins _ _ Z,Hm (by rw[T.len,R.len];exact Y),fun l I=>?_⟩;have R1:=M.newObj (o:=.lst (xs++ys)) I;refine k _ _ _ (R1.put ?_);rw[Du];have e:AJ G (upd G l (.lst (xs++ys))):=fun a o h=>by
    have:=M.ins _ _ h;rw[AK (AV this I)];exact h
   exact⟨l,xs++ys,rfl,AN,(T.same e).app (R.same e)⟩
  .cases g
 .cases g
def M3:PD->PD->Option PD:=fun x y=>match x,y with|.tuple a,.tuple b=>(if a.length+b.length<=DH then some (.tuple (a++b)) else none)|_,_=>none
def jl:EV X (binaryOp .Add) M3:=by
 refine⟨_,i9,fun x y z g G0 H0 G H σ δ ts u v Q I du Y k=>?_⟩;unfold M3 at g;split at g
 .rename_i a b;split at g
  .rename_i Z;cases g;rw[Du]at du Y;obtain⟨p,xs,rfl,h1,T⟩:=du;obtain⟨q,ys,rfl,h3,R⟩:=Y;refine⟨p,q,xs,ys,rfl,rfl,I.ins _ _ h1,I.ins _ _ h3,Hm (by rw[T.len,R.len];exact Z),fun l H' e M=>?_⟩;have R1:=I.j5 e M;refine k _ _ _ (R1.put ?_);rw[Du];have U:AJ G (upd G l (.tup (xs++ys))):=fun a o h=>by
    by_cases ha:a=l
    .subst ha;have:=e _ _ (I.ins _ _ h);rw[M]at this;rw[AN];exact this
    .rw[AK ha];exact h
   exact⟨l,xs++ys,rfl,AN,(T.same U).app (R.same U)⟩
  .cases g
 .cases g
def U9:PD->PD->Option PD:=fun x y=>match x,y with|.str a,.str b=>(if a.length+b.length<=DH then some (.str (a++b)) else none)|_,_=>none
def i8:EV X (binaryOp .Add) U9:=by
 refine⟨_,ZA,fun x y z g G0 H0 G H σ δ ts u v Q R du I k=>?_⟩;unfold U9 at g;split at g
 .rename_i a b;split at g
  .rename_i M;cases g;rw[Du]at du I;exact⟨a,b,du,I,Hm M,k _ _ _ (R.put (by rw[Du]))⟩
  .cases g
 .cases g
def EB:PD->PD->Option PD:=KG Y3 (KG QZ (KG M3 U9))
def Di:EV X (binaryOp .Add) EB:=jy.or (jE.or (jl.or i8))
def Uj:PD->PD->Option PD:=fun x y=>match x,y with|.list a,.int k=>(if a.length*k.toNat<=DH/\-1000000<=k/\k<=1000000 then some (.list (List.replicate k.toNat a).flatten) else none)|_,_=>none
def Aq.rep{H:Hp}{ds:List PD}{xs:List V}(h:Aq H ds xs):∀n,Aq H (List.replicate n ds).flatten (List.replicate n xs).flatten
 |0=>.nil
 |n+1=>by rw[(Pp),(Pp),(P7),(P7)];exact h.app (h.rep n)
def i4:EV X (binaryOp .Mult) Uj:=by
 refine⟨_,k9,fun x y z g G0 H0 G H σ δ ts u v Q M du T k=>?_⟩;unfold Uj at g;split at g
 .rename_i a n;split at g
  .rename_i U;cases g;rw[Du]at du;rw[Du]at T;obtain⟨p,xs,rfl,Y,R⟩:=du;subst T;refine⟨p,n,xs,rfl,rfl,M.ins _ _ Y,by lia,by lia,Hm (by rw[R.len];exact U.1),fun l I=>?_⟩;have Z:=M.newObj (o:=.lst (List.replicate n.toNat xs).flatten) I;refine k _ _ _ (Z.put ?_);rw[Du];have e:AJ G (upd G l (.lst (List.replicate n.toNat xs).flatten)):=fun a o h=>by
    have:=M.ins _ _ h;rw[AK (AV this I)];exact h
   exact⟨l,_,rfl,AN,(R.same e).rep _⟩
  .cases g
 .cases g
def Dw:PD->PD->Option PD:=KG ZO Uj
def E9:EV X (binaryOp .Mult) Dw:=jF.or i4
def S9{d:PD}(h:SeqAt.shaped d=true):d.canLay0=true:=by unfold SeqAt.shaped at h;rw[(Jr)]at h;exact h.1
def F3(neg:Bool):PD->PD->Option PD:=fun x y=>if SeqAt.shaped x=true/\SeqAt.shaped y=true then some (.bool (if neg then !PyData.eqv x y else PyData.eqv x y)) else none
def dg{m:VL->VL->Sem VL}{neg:Bool}(R:Cw X m (fS X.K neg)):EV X m (F3 neg):=by
 refine⟨_,R,fun x y z g G0 H0 G H σ δ ts u v Q M du T k=>?_⟩;unfold F3 at g;split at g
 .rename_i I;cases g;exact⟨x,y,(du.same M.ins).br (S9 I.1),(T.same M.ins).br (S9 I.2),I.1,I.2,k _ _ _ (M.put (by rw[Du]))⟩
 .cases g
def RP(g:X.A.units+64<cLine):EV X (compareOp .Eq) (F3 false):=dg (kP g)
def Ka(g:X.A.units+64<cLine):EV X (compareOp .NotEq) (F3 true):=dg (Z9 g)
def PyData.fN:PD->Bool
 |.none=>true
 |_=>false
def lg{H:Hp}:∀ {x:PD} {u:V},Du H x u->decide (u=.Bf)=PyData.fN x
 |.none,u,h=>by rw[Du]at h;subst h;rfl
 |.bool _,u,h=>by rw[Du]at h;subst h;rfl
 |.int _,u,h=>by rw[Du]at h;subst h;rfl
 |.str _,u,h=>by rw[Du]at h;subst h;rfl
 |.tuple _,u,h=>by rw[Du]at h;obtain⟨a,xs,rfl,_⟩:=h;rfl
 |.list _,u,h=>by rw[Du]at h;obtain⟨a,xs,rfl,_⟩:=h;rfl
 |.dict [],u,h=>by rw[Du,Md]at h;rcases h with ⟨ea,C,_,rfl,_⟩|⟨a,ns,_,rfl,_⟩|h;rfl;rfl;exact h.elim
 |.dict ((_,_)::_),u,h=>by rw[Du,Md]at h;rcases h with ⟨ea,C,_,rfl,_⟩|⟨a,ns,_,rfl,_⟩|⟨_,_,a,r,rfl,_⟩<;>rfl
def mJ(neg:Bool):PD->PD->Option PD:=fun x y=>match y with
 |.none=>some (.bool (if neg then !PyData.fN x else PyData.fN x))
 |_=>none
def pd:EV X (compareOp .Is) (mJ false):=by
 refine⟨_,my,fun x y z g G0 H0 G H σ δ ts u v Q M du I k=>?_⟩;unfold mJ at g;split at g
 .cases g;rw[Du]at I;refine⟨I,?_⟩;rw[lg du];exact k _ _ _ (M.put (by rw[Du];rfl))
 .cases g
end
section
variable{X:Cx}{a b c e:Expr}{es:tL}{f g h:sr}{pos p:Pos}
def PJ:PD->Option Bool
 |.bool b=>some b
 |_=>none
def gw:PD->Option Int
 |.int b=>some b
 |_=>none
def U4{x:PD}{b:Bool}(h:PJ x=some b):x=.bool b:=by
 unfold PJ at h;split at h
 .cases h;rfl
 .cases h
def lG{x:PD}{b:Int}(h:gw x=some b):x=.int b:=by
 unfold gw at h;split at h
 .cases h;rfl
 .cases h
def kU{op}(ha:DE X a f):DE X (.BoolOp op [a] pos) f:=by
 obtain⟨R,I,M⟩:=ha;exact⟨_,RV I,M⟩
def l8{rest:tL}(ha:DE X a f)(hb:DE X (.BoolOp .And (b::rest) pos) g):DE X (.BoolOp .And (a::b::rest) pos) (fun δ=>(f δ).bind fun x=>(PJ x).bind fun c=>if c=true then g δ else some (.bool false)):=by
 obtain⟨ta,Y,ka⟩:=ha;obtain⟨tb,U,Z⟩:=hb;refine⟨_,Qn Y U,fun δ z hz G0 H0 G H σ ts Q R0 k=>?_⟩;obtain⟨x,h1,h2⟩:=aD.mp hz;obtain⟨i,h3,I⟩:=aD.mp h2;have:=U4 h3;subst this;refine ka δ _ h1 G0 H0 G H σ ts _ R0 fun u G1 H1 R=>?_;have T:=R.Cf _ (.head _);rw[Du]at T;refine⟨i,T,?_⟩;split
 .rename_i M;rw[if_pos M]at I;exact Z δ z I G0 H0 G1 H1 σ ts Q R.drop k
 .rename_i M;rw[if_neg M]at I;cases I;exact k _ _ _ (R.drop.put (by rw[Du]))
variable{fa fb:su}
def DW(X:Cx)(e:Expr)(f:su):Prop:=∃t,PW X e t/\∀δ b,f δ=some b->∀G0 H0 G H σ ts (Q:Bool->Hp->Prop),Rw G0 H0 G H σ δ ts->(∀I H',Rw G0 H0 I H' σ δ ts->Q b H')->t σ H Q
def DW.dt(h:DW X e fa):DT X e fa:=let⟨t,p,k⟩:=h;⟨t,p.pt,k⟩
def CI{op:CmpOp}{o:PD->PD->Option PD}(ho:EV X (compareOp op) o)(ha:DE X a f)(hb:DE X b g)(hm:behindInMarks op b=false):DT X (.Compare a [op] [b] pos) (fun δ=>(Ap o f g δ).bind PJ):=by
 obtain⟨r,hr,U⟩:=ho;obtain⟨ta,T,Z⟩:=ha;obtain⟨tb,R,Y⟩:=hb;refine⟨_,Bn hr T R hm,fun δ z hz G0 H0 G H σ ts Q R0 k=>?_⟩;obtain⟨q,h0,h4⟩:=aD.mp hz;have:=U4 h4;subst this;obtain⟨x,y,h1,h2,h3⟩:=two (x:=.none) (y:=.none) h0;refine Z δ x h1 G0 H0 G H σ ts _ R0 fun u G1 H1 R1=>?_;refine Y δ y h2 G0 H0 G1 H1 σ _ _ R1 fun v G2 H2 R2=>?_;refine U x y _ h3 G0 H0 G2 H2 σ δ ts u v _ (R2.drop.drop) (R2.Cf (x,u) (.tail _ (.head _))) (R2.Cf (y,v) (.head _)) fun w G3 H3 M=>?_;have I:=M.Cf _ (.head _);rw[Du]at I;exact⟨z,I,k _ _ M.drop⟩
def Kx(ha : DE X e f)(he : ∀ whole,isTrue e X.env whole = (do let v <- whole; standAt e.pos; holding [v] (truthy v)):=by intro _; rfl):DT X e (fun δ => (f δ).bind PJ):=by
  obtain ⟨ta,pa,ka⟩:=ha
  refine ⟨_,ER pa he,fun δ z hz G0 H0 G H σ ts Q R0 k => ?_⟩
  obtain ⟨q,h0,h4⟩:=aD.mp hz
  have:=U4 h4; subst this
  refine ka δ _ h0 G0 H0 G H σ ts _ R0 fun u G1 H1 R1 => ?_
  have hu:=R1.Cf _ (.head _)
  rw [Du] at hu
  exact ⟨z,hu,k _ _ R1.drop⟩
def OJ(ha:DT X a fa):DT X (.UnaryOp .Not a pos) (fun δ=>(fa δ).map fun c=>!c):=by
 obtain⟨Z,I,M⟩:=ha;refine⟨_,Ee I,fun δ z R G0 H0 G H σ ts Q Y k=>?_⟩;obtain⟨i,T,rfl⟩:=aC.mp R;exact M δ _ T G0 H0 G H σ ts _ Y fun G1 H1 U=>k _ _ U
def Ja{op:BoolOp}(ha:DT X a fa):DW X (.BoolOp op [a] pos) fa:=by
 obtain⟨R,I,M⟩:=ha;cases op
 .exact⟨_,XU I,M⟩
 .exact⟨_,Jd I,M⟩
def VH{rest:tL}(ha:DT X a fa)(hb:DW X (.BoolOp .And (b::rest) pos) fb):DW X (.BoolOp .And (a::b::rest) pos) (fun δ=>(fa δ).bind fun c=>if c=true then fb δ else some false):=by
 obtain⟨ta,U,Z⟩:=ha;obtain⟨tb,T,Y⟩:=hb;refine⟨_,dM U T,fun δ z hz G0 H0 G H σ ts Q R0 k=>?_⟩;obtain⟨i,h3,I⟩:=aD.mp hz;refine Z δ _ h3 G0 H0 G H σ ts _ R0 fun G1 H1 R=>?_;split
 .rename_i M;rw[if_pos M]at I;exact Y δ z I G0 H0 G1 H1 σ ts Q R k
 .rename_i M;rw[if_neg M]at I;cases I;exact k _ _ R
def Qj{rest:tL}(ha:DT X a fa)(hb:DW X (.BoolOp .Or (b::rest) pos) fb):DW X (.BoolOp .Or (a::b::rest) pos) (fun δ=>(fa δ).bind fun c=>if c=true then some true else fb δ):=by
 obtain⟨ta,U,Z⟩:=ha;obtain⟨tb,T,Y⟩:=hb;refine⟨_,KN U T,fun δ z hz G0 H0 G H σ ts Q R0 k=>?_⟩;obtain⟨i,h3,I⟩:=aD.mp hz;refine Z δ _ h3 G0 H0 G H σ ts _ R0 fun G1 H1 R=>?_;split
 .rename_i M;rw[if_pos M]at I;cases I;exact k _ _ R
 .rename_i M;rw[if_neg M]at I;exact Y δ z I G0 H0 G1 H1 σ ts Q R k
variable{fs:sq}
def AG:DA X [] (fun _=>some []):=⟨_,AQ,fun δ xs h G0 H0 G H σ ts Q I k=>by cases h;exact k [] G H (by simpa using I) rfl⟩
def AA(ha:DE X e f)(Z:DA X es fs)(Y:starEach (e::es) X.env=(false,eval e X.env)::starEach es X.env:=by rfl):DA X (e::es) (fun δ=>(f δ).bind fun x=>(fs δ).map fun xs=>x::xs):=by
 obtain⟨ta,M,T⟩:=ha;obtain⟨tr,pr,R⟩:=Z;refine⟨_,AE M pr Y,fun δ z U G0 H0 G H σ ts Q R0 k=>?_⟩;obtain⟨x,h1,h2⟩:=aD.mp U;obtain⟨xs,h3,rfl⟩:=aC.mp h2;refine T δ x h1 G0 H0 G H σ ts _ R0 fun u G1 H1 R1=>?_;refine R δ xs h3 G0 H0 G1 H1 σ _ _ R1 fun vs G2 H2 R2 hl=>?_;refine k (u::vs) G2 H2 (R2.less fun q I=>?_) (by simp[hl]);simp only[List.zip_cons_cons,List.cons_append,List.mem_cons,List.mem_append]at I ⊢;rcases I with h|h|h
 .exact .inr (.inl h)
 .exact .inl h
 .exact .inr (.inr h)
theorem Z3{G:Hp}:∀ {xs:List PD} {vs:List V},vs.length=xs.length->(∀q∈xs.zip vs,Du G q.1 q.2)->Aq G xs vs
 |[],vs,I,_=>by rw[List.eq_nil_of_length_eq_zero I];exact .nil
 |x::xs,[],I,_=>by simp at I
 |x::xs,v::vs,I,h=>.cons (h (x,v) BY) (Z3 (by simpa using I) fun q M=>h q (by simp[M]))
def Rw.args{G0 H0 G H:Hp}{σ:St}{δ:Dv}{ts:List (PD×V)}{xs:sx}{vs:tR}(r:Rw G0 H0 G H σ δ (xs.zip vs++ts))(M:vs.length=xs.length):Aq G xs vs/\Rw G0 H0 G H σ δ ts :=
 ⟨Z3 M fun q I=>r.Cf q (List.mem_append_left _ I),r.less fun q I=>ag _ I⟩
def Rw.mR{G0 H0 G H:Hp}{σ:St}{δ:Dv}{ts:List (PD×V)}{xs:sx}{vs:tR}{p:AD}(r:Rw G0 H0 G H σ δ ts)(d:Aq G xs vs)(I:H p=none):Rw G0 H0 (upd G p (.lst vs)) (upd H p (.lst vs)) σ δ ((.list xs,.ref p)::ts):=by
 refine(r.newObj I).put ?_;have e:AJ G (upd G p (.lst vs)):=fun a o h=>by rw[AK (AV (r.ins _ _ h) I)];exact h
 rw[Du];exact⟨p,vs,rfl,AN,d.same e⟩
def Rw.ff{G0 H0 G H:Hp}{σ:St}{δ:Dv}{ts:List (PD×V)}{xs:sx}{vs:tR}{p:AD}(r:Rw G0 H0 G H σ δ ts)(d:Aq G xs vs)(I:H p=none):Rw G0 H0 (upd G p (.tup vs)) (upd H p (.tup vs)) σ δ ((.tuple xs,.ref p)::ts):=by
 refine(r.newObj I).put ?_;have e:AJ G (upd G p (.tup vs)):=fun a o h=>by rw[AK (AV (r.ins _ _ h) I)];exact h
 rw[Du];exact⟨p,vs,rfl,AN,d.same e⟩
def B2(xs:sx):Option sx:=if xs.length<=DH then some xs else none
def Np{xs ys:sx}(h:B2 xs=some ys):xs=ys/\xs.length<=DH:=by
 unfold B2 at h;split at h
 .rename_i q;cases h;exact⟨rfl,q⟩
 .cases h
def A7{M}(ha:DA X es fs):DE X (.Tuple es M pos) (fun δ=>((fs δ).bind B2).map .tuple):=by
 obtain⟨ta,R,T⟩:=ha;refine⟨_,JX R,fun δ z U G0 H0 G H σ ts Q R0 k=>?_⟩;obtain⟨ys,h1,rfl⟩:=aC.mp U;obtain⟨xs,h2,h3⟩:=aD.mp h1;obtain⟨rfl,Z⟩:=Np h3;refine T δ _ h2 G0 H0 G H σ ts _ R0 fun vs G1 H1 R1 I=>?_;obtain⟨d,R2⟩:=R1.args I;exact⟨Hm (by rw[I];exact Z),fun q Y=>k _ _ _ (R2.ff d Y)⟩
def BQ(ha:DA X es fs):DE X (.List es pos) (fun δ=>((fs δ).bind B2).map .list):=by
 obtain⟨ta,M,R⟩:=ha;refine⟨_,IP M,fun δ z T G0 H0 G H σ ts Q R0 k=>?_⟩;obtain⟨ys,h1,rfl⟩:=aC.mp T;obtain⟨xs,h2,Z⟩:=aD.mp h1;obtain⟨rfl,Y⟩:=Np Z;refine R δ _ h2 G0 H0 G H σ ts _ R0 fun vs G1 H1 R1 I=>?_;obtain⟨d,R2⟩:=R1.args I;exact⟨Hm (by rw[I];exact Y),fun q U=>k _ _ _ (R2.mR d U)⟩
theorem Aq.GJ{H:Hp}{ds:sx}{xs:tR}{i:Int}{d:PD}(h:Aq H ds xs)(e:GJ ds i=some d):∃v,GJ xs i=some v/\Du H d v:=by
 unfold L2.GJ at e ⊢;rw[h.len];obtain⟨j,T,R⟩:=aD.mp e;obtain⟨v,M,I⟩:=h.get R;exact⟨v,by rw[T];exact M,I⟩
theorem So{G:Hp}:∀ns:List Int,Aq G (ns.map .int) (ns.map V.int)
 |[]=>.nil
 |n::ns=>.cons (by rw[Du]) (So ns)
def DQ:PD->PD->Option PD:=fun x y=>match x,y with
 |.list xs,.int i=>GJ xs i
 |.tuple xs,.int i=>GJ xs i
 |.dict [(.none,.list xs)],.int i=>GJ xs i
 |.str z,.int i=>if z.length<=DH then(GJ z.cps.toList i).map fun c=>.str ⟨#[c]⟩ else none
 |_,_=>none
def Cp(ha:DE X a f)(hb:DE X b g)(hs:YJ b):DE X (.Subscript a b pos) (Ap DQ f g):=by
 obtain⟨ta,pa,ka⟩:=ha;obtain⟨tb,pb,kb⟩:=hb;refine⟨_,B1 nS pa pb hs,fun δ z hz G0 H0 G H σ ts Q R0 k=>?_⟩;obtain⟨x,y,h1,h2,I⟩:=two (x:=.none) (y:=.none) hz;refine ka δ x h1 G0 H0 G H σ ts _ R0 fun u G1 H1 R1=>?_;refine kb δ y h2 G0 H0 G1 H1 σ _ _ R1 fun v G2 H2 R2=>?_;have du:=R2.Cf (x,u) (.tail _ (.head _));have M:=R2.Cf (y,v) (.head _);unfold DQ at I;split at I
 .rw[Du]at du;rw[Du]at M;obtain⟨p,xs,rfl,U,Y⟩:=du;obtain⟨w,R,T⟩:=Y.GJ I;exact .inl ⟨p,xs,_,w,rfl,M,Aj.of (R2.ins _ _ U),R,k _ _ _ (R2.drop.drop.put T)⟩
 .rw[Du]at du;rw[Du]at M;obtain⟨p,xs,rfl,U,Y⟩:=du;obtain⟨w,R,T⟩:=Y.GJ I;exact .inr (.inl ⟨p,xs,_,w,rfl,M,Ax.of (R2.ins _ _ U),R,k _ _ _ (R2.drop.drop.put T)⟩)
 .rw[Du]at du;rw[Du]at M;rcases du with ⟨ea,C,Z,_⟩|⟨p,ns,Z,rfl,U⟩|z
  rotate_left 2
  .rw[Md]at z;cases z.1
  .simp at Z
  .obtain rfl:_=ns.map PyData.int:=by simpa using Z
   obtain⟨w,R,T⟩:=(So (G:=_) ns).GJ I;exact .inl ⟨p,_,_,w,rfl,M,.inl (U.same R2.ins),R,k _ _ _ (R2.drop.drop.put T)⟩
 .rw[Du]at du;rw[Du]at M;split at I
  .rename_i hl;obtain⟨ch,R,rfl⟩:=aC.mp I;exact .inr (.inr ⟨_,_,ch,du,M,Hm hl,R,k _ _ _ (R2.drop.drop.put (by rw[Du]))⟩)
  .cases I
 .cases I
end
def BI(g:MD):Sp:=fun vs H Q _=>∃M x G,g M=some x/\Aq G M vs/\AJ G H/\∀v I H',AJ G I->Nw G H I->AJ I H'->AJ H H'->Du I x v->Q v H'
section
variable{X:Cx}{a e:Expr}{es:tL}{f h:sr}{fs:sq}{pos p:Pos}
def Am{k:Nat}{M:AD}{fd:F0a}{ps:tK}{m:MD}{x:Str}{st:Stmt}(T:Fn X.K X.mg x st ps M fd)(F:AI X.prog X.w X.K X.mg X.base Ag k M fd ps (BI m))(hr:CS k X.A)(hg:Gl X x)(ha:DA X (e::es) fs) (I:FS=false:=by decide)(he:starEach (e::es) X.env=(false,eval e X.env)::starEach es X.env:=by rfl)(g:(backTo pos (starEach es X.env)).any (·.1)=false:=by rfl):DE X Fi (fun δ=>(fs δ).bind m):=by
 obtain⟨ta,R,U⟩:=ha;refine⟨_,A3 T F hr hg R I he g,fun δ z Y G0 H0 G H σ ts Q R0 k=>?_⟩;obtain⟨xs,h1,h2⟩:=aD.mp Y;refine U δ _ h1 G0 H0 G H σ ts _ R0 fun vs G1 H1 R1 Z=>?_;obtain⟨d,R2⟩:=R1.args Z;refine⟨xs,z,G1,h2,by rw[(J5)];exact d,R2.ins,fun v G' H' h3 h4 h5 h6 h7=>?_⟩;exact k _ _ _ ((R2.lift h3 h4 h5 h6).put h7)
def Qs(X:Cx)(v:VL)(o:MD):Prop:=∃r,FR X v r/\∀xs z,o xs=some z->∀G0 H0 G H σ δ ts us (Q:VK),Rw G0 H0 G H σ δ ts->Aq G xs us->(∀w g H',Rw G0 H0 g H' σ δ ((z,w)::ts)->Q w H')->r us H Q
def HV{x:Str}{id:String}{o:MD}(hc:Qs X (.builtin id) o)(hg:Gl X x)(hm:X.mg x=none)(g:bootBuiltins x=some (.builtin id))(ha:DA X (e::es) fs)(hn:x ≠ "__name__":=by decide)(M:FS=false:=by decide) (he:starEach (e::es) X.env=(false,eval e X.env)::starEach es X.env:=by rfl)(I:(backTo pos (starEach es X.env)).any (·.1)=false:=by rfl):DE X Fi (fun δ=>(fs δ).bind o):=by
 obtain⟨r,Z,T⟩:=hc;obtain⟨ta,R,U⟩:=ha;refine⟨_,BM Z hg hm g R hn M he I,fun δ z Y G0 H0 G H σ ts Q R0 k=>?_⟩;obtain⟨xs,h1,h2⟩:=aD.mp Y;refine U δ _ h1 G0 H0 G H σ ts _ R0 fun vs G1 H1 R1 g=>?_;obtain⟨d,R2⟩:=R1.args g;exact T xs z h2 G0 H0 G1 H1 σ δ ts vs Q R2 d k
def N5{x:Str}{T:String}{o:MD}(hc:Qs X (.type T) o)(hg:Gl X x)(hm:X.mg x=none)(g:bootBuiltins x=some (.type T))(ha:DA X (e::es) fs)(hn:x ≠ "__name__":=by decide)(M:FS=false:=by decide) (he:starEach (e::es) X.env=(false,eval e X.env)::starEach es X.env:=by rfl)(I:(backTo pos (starEach es X.env)).any (·.1)=false:=by rfl):DE X Fi (fun δ=>(fs δ).bind o):=by
 obtain⟨r,hr,U⟩:=hc;obtain⟨ta,R,Y⟩:=ha;refine⟨_,S4 hr hg hm g R hn M he I,fun δ z Z G0 H0 G H σ ts Q R0 k=>?_⟩;obtain⟨xs,h1,h2⟩:=aD.mp Z;refine Y δ _ h1 G0 H0 G H σ ts _ R0 fun vs G1 H1 R1 g=>?_;obtain⟨d,R2⟩:=R1.args g;exact U xs z h2 G0 H0 G1 H1 σ δ ts vs Q R2 d k
def Aq.Lv{H:Hp}{d:PD}{xs:tR}(h:Aq H [d] xs):∃x,xs=[x]/\Du H d x:=by
 obtain⟨x,r,rfl,I,g⟩:=h.un;rw[g.nil_eq];exact⟨x,rfl,I⟩
def Aq.Ln{H:Hp}{d e:PD}{xs:tR}(h:Aq H [d,e] xs):∃x y,xs=[x,y]/\Du H d x/\Du H e y:=by
 obtain⟨x,r,rfl,M,I⟩:=h.un;obtain⟨y,rfl,g⟩:=I.Lv;exact⟨x,y,rfl,M,g⟩
def J4:MD
 |[.list xs]=>some (.int xs.length)
 |[.tuple xs]=>some (.int xs.length)
 |[.dict [(.none,.list xs)]]=>some (.int xs.length)
 |_=>none
def Me:Qs X (.builtin "len") J4:=by
 refine⟨_,D7,fun xs z g G0 H0 G H σ δ ts us Q I d k=>?_⟩;unfold J4 at g;split at g
 .cases g;obtain⟨u,rfl,du⟩:=d.Lv;rw[Du]at du;obtain⟨p,ys,rfl,M,R⟩:=du;refine⟨p,ys,rfl,.inl (Aj.of (I.ins _ _ M)),?_⟩;rw[R.len];exact k _ _ _ (I.put (by rw[Du]))
 .cases g;obtain⟨u,rfl,du⟩:=d.Lv;rw[Du]at du;obtain⟨p,ys,rfl,M,R⟩:=du;refine⟨p,ys,rfl,.inr (Ax.of (I.ins _ _ M)),?_⟩;rw[R.len];exact k _ _ _ (I.put (by rw[Du]))
 .cases g;obtain⟨u,rfl,du⟩:=d.Lv;rw[Du]at du;rcases du with ⟨ea,C,T,_⟩|⟨p,ns,T,rfl,M⟩|z
  rotate_left 2
  .rw[Md]at z;cases z.1
  .simp at T
  .obtain rfl:_=ns.map PyData.int:=by simpa using T
   refine⟨p,_,rfl,.inl (.inl (M.same I.ins)),?_⟩;rw[(Af)]at k ⊢;exact k _ _ _ (I.put (by rw[Du]))
 .cases g
def LS:MD
 |[.list xs]=>some (.tuple xs)
 |[.tuple xs]=>some (.tuple xs)
 |_=>none
def QJ:Qs X Ev LS:=by
 refine⟨_,NU,fun xs z g G0 H0 G H σ δ ts us Q I d k=>?_⟩;unfold LS at g;split at g
 .cases g;obtain⟨u,rfl,du⟩:=d.Lv;rw[Du]at du;obtain⟨p,ys,rfl,M,T⟩:=du;exact⟨p,ys,rfl,.inl ⟨Aj.of (I.ins _ _ M),fun l U=>k _ _ _ (I.ff T U)⟩⟩
 .cases g;obtain⟨u,rfl,du⟩:=d.Lv;have R:=du;rw[Du]at du;obtain⟨p,ys,rfl,M,T⟩:=du;exact⟨p,ys,rfl,.inr ⟨Ax.of (I.ins _ _ M),k _ _ _ (I.put R)⟩⟩
 .cases g
def Du.ty{K:Fg}{H:Hp}:∀ {d:PD} {v:V},(∀kv,d≠.dict kv)->Du H d v->HZ K H v (.type (QS d))/\∀kv,d≠.dict kv
 |.none,_,_,h=>by rw[Du]at h;subst h;exact⟨.Bf,by simp⟩
 |.bool _,_,_,h=>by rw[Du]at h;subst h;exact⟨.bl _,by simp⟩
 |.int _,_,_,h=>by rw[Du]at h;subst h;exact⟨.int _,by simp⟩
 |.str _,_,_,h=>by rw[Du]at h;subst h;exact⟨.str _,by simp⟩
 |.tuple _,_,_,h=>by rw[Du]at h;obtain⟨a,xs,rfl,g,_⟩:=h;exact⟨.tup g,by simp⟩
 |.list _,_,_,h=>by rw[Du]at h;obtain⟨a,xs,rfl,g,_⟩:=h;exact⟨.lst g,by simp⟩
 |.dict _,_,n,h=>absurd rfl (n _)
def Yq(q:PD->Bool):PD->Option PD
 |.dict _=>none
 |x=>some (.bool (q x))
def jU{q:PD->Bool}{x z:PD}(h:Yq q x=some z):(∀kv,x≠.dict kv)/\z=.bool (q x):=by
 unfold Yq at h;split at h
 .cases h
 .rename_i n;cases h;exact⟨fun kv e=>n kv e,rfl⟩
def mF{T:String}{q:PD->Bool}{g:Str}{p1 I:Pos}(hk:∀d:PD,(∀kv,d≠.dict kv)->PySem.W.kitOne X.K (.type (QS d)) (.type T)=some (q d))(hg:Gl X "isinstance")(hm:X.mg "isinstance" = none)(hgT:Gl X g)(Z:X.mg g=none)(R:bootBuiltins g=some (.type T))(ha:DE X a f) (Y:g ≠ "__name__":=by decide)(hdT:(g==("__debug__" : Str))=false:=by decide)(M:starEach [a,.Name g I] X.env=(false,eval a X.env)::starEach [.Name g I] X.env:=by rfl)(U:(backTo pos (starEach [.Name g I] X.env)).any (·.1)=false:=by rfl):DE X (.Call (.Name "isinstance" p1) [a,.Name g I] [] pos) (fun δ=>(f δ).bind (Yq q)):=by
 obtain⟨ta,pa,ka⟩:=ha;have pT:PE X (.Name g I) (tC (.ty T)):=Fw hgT Z R rfl Y hdT;refine⟨_,BM FY hg hm af (AE pa (AE pT AQ) M) AS AS M U,fun δ z hz G0 H0 G H σ ts Q R0 k=>?_⟩;obtain⟨x,h1,h2⟩:=aD.mp hz;obtain⟨n1,rfl⟩:=jU h2;refine ka δ _ h1 G0 H0 G H σ ts _ R0 fun u G1 H1 R1=>?_;have du:=R1.Cf _ (.head _);obtain⟨t1,t2⟩:=(du.same R1.ins).ty (K:=X.K) n1;exact⟨u,.ty T,_,q x,rfl,by simp[CT],t1,hk x t2,k _ _ _ (R1.drop.put (by rw[Du]))⟩
end
inductive Ou where
 |nx (δ:Dv)|rt (x:PyData)|bk (δ:Dv)|ct (δ:Dv)|rn (xs:List PyData)
def Fin(G0 H0:Hp)(D:Ends):Ou->Prop
 |.nx δ=>∀σ G H,Rw G0 H0 G H σ δ []->D.nx σ H
 |.rt x=>∀v G H,AJ G0 G->Nw G0 H0 G->AJ G H->AJ H0 H->Du G x v->D.rt v H
 |.bk δ=>∀σ G H,Rw G0 H0 G H σ δ []->D.bk σ H
 |.ct δ=>∀σ G H,Rw G0 H0 G H σ δ []->D.ct σ H
 |.rn xs=>∀a ys G H,AJ G0 G->Nw G0 H0 G->AJ G H->AJ H0 H->H0 a=none->G a=none->H a=some (.lst ys)->Aq G xs ys->D.rt (.ref a) H
abbrev DF:=Dv->Option Ou
def DS(X:Cx)(st:Stmt)(F:DF):Prop:=∃t,PS X st t/\∀δ r,F δ=some r->∀G0 H0 G H σ D,Rw G0 H0 G H σ δ []->Fin G0 H0 D r->t D σ H
def Pl(X:Cx)(st:tU)(F:DF):Prop:=∃t,Ie X st t/\∀δ r,F δ=some r->∀G0 H0 G H σ D,Rw G0 H0 G H σ δ []->Fin G0 H0 D r->t D σ H
def BF(M I:DF)(δ:Dv):Option Ou:=match M δ with
 |some (.nx g)=>I g
 |o=>o
section
variable{X:Cx}{c e:Expr}{f h:sr}{fa:su}{pos p:Pos}{st:Stmt}{sts sts':tU}{F1 F2:DF}
def C6:Pl X [] (fun δ=>some (.nx δ)):=⟨_,BX,fun δ r h G0 H0 G H σ D R k=>by cases h;exact k _ _ _ R⟩
def Ak(h1:DS X st F1)(h2:Pl X sts F2):Pl X (st::sts) (BF F1 F2):=by
 obtain⟨t1,Y,T⟩:=h1;obtain⟨t2,U,Z⟩:=h2;refine⟨_,AM Y U,fun δ r h G0 H0 G H σ D R k=>?_⟩;unfold BF at h;split at h
 .rename_i g e1;exact T δ _ e1 G0 H0 G H σ _ R fun I G' H' R'=>Z g r h G0 H0 G' H' I D R' k
 .rename_i M;refine T δ r h G0 H0 G H σ _ R ?_;cases r with
  |nx g=>exact absurd h (M g)
  |rt x=>exact k
  |bk g=>exact k
  |ct g=>exact k
  |rn xs=>exact k
def Ar(h1:DS X st F1):Pl X [st] F1:=by
 obtain⟨t1,g,I⟩:=h1;exact⟨_,AR g,I⟩
def ir:DS X (.Continue pos) (fun δ=>some (.ct δ)):=⟨_,XC,fun δ r h G0 H0 G H σ D R k=>by cases h;exact k _ _ _ R⟩
def Bs(I:DE X e f):DS X (.Return (some e) pos) (fun δ=>(f δ).map .rt):=by
 obtain⟨t,p,k⟩:=I;refine⟨_,Aw p,fun δ r h G0 H0 G H σ D R q=>?_⟩;obtain⟨x,M,rfl⟩:=aC.mp h;exact k δ x M G0 H0 G H σ [] _ R fun v T H' g=>q v T H' g.ext g.new g.ins g.keep (g.Cf _ (.head _))
def FW(g:DT X c fa)(h1:Pl X sts F1)(h2:Pl X sts' F2):DS X (.If c sts sts' pos) (fun δ=>(fa δ).bind fun c=>if c=true then F1 δ else F2 δ):=by
 obtain⟨tc,pc,Z⟩:=g;obtain⟨t1,Y,k1⟩:=h1;obtain⟨t2,U,k2⟩:=h2;refine⟨_,CO pc Y U,fun δ r h G0 H0 G H σ D R q=>?_⟩;obtain⟨i,h3,I⟩:=aD.mp h;refine Z δ i h3 G0 H0 G H σ [] _ R fun T H' M=>?_;split
 .rename_i g;rw[if_pos g]at I;exact k1 δ r I G0 H0 T H' σ D M q
 .rename_i g;rw[if_neg g]at I;exact k2 δ r I G0 H0 T H' σ D M q
end
section
variable{G0 H0 G H:Hp}{σ:St}{δ:Dv}{ts:List (PD×V)}
def Rw.L4{i:Nat}{x:PD}{v:V}(r:Rw G0 H0 G H σ δ ((x,v)::ts)):Rw G0 H0 G H (σ.set i (some v)) (δ.set i (.d x)) ts:=by
 have hl:=r.len;refine⟨r.ext,r.new,r.ins,r.keep,by simp[hl],fun j y h=>?_,fun j ys h=>?_,fun j l ys Y U M I=>?_,fun q hq=>r.Cf q (.tail _ hq)⟩
 .by_cases g:i=j
  .subst g;by_cases hi:i<δ.length
   .rw[List.getElem?_set_self hi]at h;cases h;exact⟨v,by rw[List.getElem?_set_self AC],r.Cf _ (.head _)⟩
   .rw[List.getElem?_eq_none (by simp;lia)]at h;cases h
  .rw[List.getElem?_set_ne g]at h;obtain⟨w,T,R⟩:=r.dat j y h;exact⟨w,by rw[List.getElem?_set_ne g];exact T,R⟩
 .by_cases g:i=j
  .subst g;by_cases hi:i<δ.length
   .rw[List.getElem?_set_self hi]at h;cases h
   .rw[List.getElem?_eq_none (by simp;lia)]at h;cases h
  .rw[List.getElem?_set_ne g]at h;obtain⟨w,T,R,k3⟩:=r.own j ys h;exact⟨w,T,by rw[List.getElem?_set_ne g];exact R,k3⟩
 .have Z:i≠j:=fun z=>by
   subst z;by_cases hi:i<δ.length
   .rw[List.getElem?_set_self hi]at M;cases M
   .rw[List.getElem?_eq_none (by simp;lia)]at M;cases M
  have nl:i≠l:=fun z=>by
   subst z;by_cases hi:i<δ.length
   .rw[List.getElem?_set_self hi]at I;cases I
   .rw[List.getElem?_eq_none (by simp;lia)]at I;cases I
  rw[List.getElem?_set_ne Z]at M ⊢;rw[List.getElem?_set_ne nl]at I ⊢;exact r.apart j l ys Y U M I
end
section
variable{X:Cx}{e:Expr}{f:sr}{pos p:Pos}
def Bl{i:Nat}{x:Str}{g:Pos}(Y:X.N.Nodup)(hi:X.N[i]? = some x)(I:Loc X.env.scope x)(U:DE X e f)(M:swapsWith e (some (.Name x g)) pos.line X.env=pure false:=by rfl)(T:X.fn x=true\/X.env.scope.names.lookup x=some .local:=by first|exact .inl rfl|exact .inr rfl|assumption):DS X (.Assign [.Name x g] e pos) (fun δ=>(f δ).map fun y=>.nx (δ.set i (.d y))):=by
 obtain⟨t,p,k⟩:=U;refine⟨_,Ai Y hi I p M T,fun δ r h G0 H0 G H σ D R q=>?_⟩;obtain⟨y,Z,rfl⟩:=aC.mp h;exact k δ y Z G0 H0 G H σ [] _ R fun v G' H' R'=>q _ _ _ R'.L4
end
section
variable{G0 H0 G H:Hp}{σ:St}{δ:Dv}{ts:List (PD×V)}
def Rw.base(r:Rw G0 H0 G H σ δ ts):Rw G H0 G H σ δ ts:={r with ext:=AJ.refl G,new:=fun _ _ h=>.inl h}
def Nw.trans{I g:Hp}(a:Nw G0 H0 I)(b:Nw I H0 g):Nw G0 H0 g:=fun c o h=>by
 rcases b c o h with z|z|z
 .exact a c o z
 .exact .inr (.inl z)
 .exact .inr (.inr z)
def Rw.V8{R H':Hp}{g:St}{I:Dv}{M:List (PD×V)}(r:Rw G0 H0 G H σ δ ts)(q:Rw G H0 R H' g I M):Rw G0 H0 R H' g I M:={q with ext:=r.ext.trans q.ext,new:=r.new.trans q.new}
def Fe(i:Nat)(δ:Dv):Dv:=match δ[i]? with
 |some (.own (.lst xs))=>δ.set i (.d (.list xs))
 |some (.own (.eF kvs))=>δ.set i (.d (Ym kvs))
 |_=>δ
def Rw.letGo{i:Nat}{c:Oc}{x:PD}(r:Rw G0 H0 G H σ δ ts)(hi:δ[i]? = some (.own c))(hx:∀a o,G a=none->J9 G a c o->Du (upd G a o) x (.ref a)):∃a o,σ[i]? = some (some (.ref a))/\G a=none/\H0 a=none/\H a=some o/\J9 G a c o/\Rw G0 H0 (upd G a o) H σ (δ.set i (.d x)) ts:=by
 obtain⟨a,o,k1,Z,k3,k4,k5⟩:=r.own i _ hi;have e:AJ G (upd G a o):=AZ Z _;have g:i<δ.length:=(aB.mp hi).1;refine⟨a,o,k1,Z,k3,k4,k5,r.ext.trans e,fun b o' h=>?_,fun b o' h=>?_,r.keep,by simp[r.len],fun j y h=>?_,fun j zs h=>?_,fun j l us ws hjl U T=>?_,fun q hq=>(r.Cf q hq).same e⟩
 .by_cases M:b=a
  .subst M;exact .inr (.inl k3)
  .rw[AK M]at h;exact r.new _ _ h
 .by_cases M:b=a
  .subst M;rw[AN]at h;rw[k4];exact h
  .rw[AK M]at h;exact r.ins _ _ h
 .by_cases I:i=j
  .subst I;rw[List.getElem?_set_self g]at h;cases h;exact⟨.ref a,k1,hx a o Z k5⟩
  .rw[List.getElem?_set_ne I]at h;obtain⟨w,R,Y⟩:=r.dat j y h;exact⟨w,R,Y.same e⟩
 .by_cases I:i=j
  .subst I;rw[List.getElem?_set_self g]at h;cases h
  .rw[List.getElem?_set_ne I]at h;obtain⟨b,us,R,Y,m3,m4,m5⟩:=r.own j zs h;have nb:b≠a:=fun z=>by subst z;exact r.apart i j _ zs I hi h (by rw[k1,R])
   exact⟨b,us,R,by rw[AK nb];exact Y,m3,m4,m5.same e⟩
 .have nj:i≠j:=fun z=>by subst z;rw[List.getElem?_set_self g]at U;cases U
  have nl:i≠l:=fun z=>by subst z;rw[List.getElem?_set_self g]at T;cases T
  rw[List.getElem?_set_ne nj]at U;rw[List.getElem?_set_ne nl]at T;exact r.apart j l us ws hjl U T
def mK{a:AD}{o:HO}{xs:sx}(I:G a=none)(h:J9 G a (.lst xs) o):Du (upd G a o) (.list xs) (.ref a):=by
 obtain⟨ys,rfl,g⟩:=h;rw[Du];exact⟨a,ys,rfl,AN,g.same (AZ I _)⟩
def kD{a:AD}{o:HO}{kvs:List (Option Tr×PD)}(I:G a=none)(h:J9 G a (.eF kvs) o):Du (upd G a o) (Ym kvs) (.ref a):=by
 obtain⟨r,rfl,n,g⟩:=h;rw[Du,Md];exact .inr (.inr ⟨rfl,rfl,a,r,rfl,AN,n,NQ.same (AZ I _) g⟩)
def Rw.Fe(i:Nat)(r:Rw G0 H0 G H σ δ ts):∃g,Rw G0 H0 g H σ (L2.Fe i δ) ts:=by
 unfold L2.Fe;split
 .rename_i xs hi;obtain⟨a,o,_,_,_,_,_,R⟩:=r.letGo (x:=.list xs) hi fun a o h=>mK h;exact⟨_,R⟩
 .rename_i kvs hi;obtain⟨a,o,_,_,_,_,_,R⟩:=r.letGo (x:=Ym kvs) hi fun a o h=>kD h;exact⟨_,R⟩
 .exact⟨G,r⟩
def Rw.mX{i:Nat}{xs:Oc}{ys:HO}{a:AD}(r:Rw G0 H0 G H σ δ ts)(d:J9 G a xs ys)(ha:H a=none):Rw G0 H0 G (upd H a ys) (σ.set i (some (.ref a))) (δ.set i (.own xs)) ts:=by
 have hG:G a=none:=by
  cases q:G a with
  |none=>rfl
  |some u=>rw[r.ins _ _ q]at ha;cases ha
 have h0:H0 a=none:=by
  cases q:H0 a with
  |none=>rfl
  |some u=>rw[r.keep _ _ q]at ha;cases ha
 have e:AJ H (upd H a ys):=AZ ha _;have hl:=r.len;have other:∀(j:Nat) (I:Oc),i≠j->(δ.set i (.own xs))[j]? = some (L.own I)->δ[j]? = some (L.own I):=fun j I g h=>by rw[List.getElem?_set_ne g]at h;exact h
 have M:∀(j:Nat) (I:Oc),δ[j]? = some (L.own I)->σ[j]?≠some (some (V.ref a)):=fun j I h z=>by
  obtain⟨b,us,T,m2,m3,m4,m5⟩:=r.own j I h;rw[z]at T;cases T;rw[m4]at ha;cases ha
 refine⟨r.ext,r.new,r.ins.trans e,r.keep.trans e,by simp[hl],fun j y h=>?_,fun j I h=>?_,fun j l us ws Z U R=>?_,r.Cf⟩
 .by_cases g:i=j
  .subst g;by_cases hi:i<δ.length
   .rw[List.getElem?_set_self hi]at h;cases h
   .rw[List.getElem?_eq_none (by simp;lia)]at h;cases h
  .rw[List.getElem?_set_ne g]at h;obtain⟨w,T,m2⟩:=r.dat j y h;exact⟨w,by rw[List.getElem?_set_ne g];exact T,m2⟩
 .by_cases g:i=j
  .subst g;by_cases hi:i<δ.length
   .rw[List.getElem?_set_self hi]at h;cases h;exact⟨a,ys,by rw[List.getElem?_set_self AC],hG,h0,AN,d⟩
   .rw[List.getElem?_eq_none (by simp;lia)]at h;cases h
  .have h:=other j I g h;obtain⟨b,us,T,m2,m3,m4,m5⟩:=r.own j I h;exact⟨b,us,by rw[List.getElem?_set_ne g];exact T,m2,m3,e _ _ m4,m5⟩
 .by_cases g:i=j
  .subst g;have Y:i≠l:=Z;have R:=other l ws Y R;by_cases hi:i<δ.length
   .rw[List.getElem?_set_self AC,List.getElem?_set_ne Y];exact fun z=>M l ws R z.symm
   .rw[List.getElem?_eq_none (by simp;lia)]at U;cases U
  .have U:=other j us g U;by_cases hk:i=l
   .subst hk;by_cases hi:i<δ.length
    .rw[List.getElem?_set_self AC,List.getElem?_set_ne g];exact fun z=>M j us U z
    .rw[List.getElem?_eq_none (by simp;lia)]at R;cases R
   .have R:=other l ws hk R;rw[List.getElem?_set_ne g,List.getElem?_set_ne hk];exact r.apart j l us ws Z U R
def Rw.oG{i:Nat}{xs I:Oc}{ys:HO}{a:AD}(r:Rw G0 H0 G H σ δ ts)(hi:δ[i]? = some (.own xs))(ha:σ[i]? = some (some (.ref a)))(d:J9 G a I ys):Rw G0 H0 G (upd H a ys) σ (δ.set i (.own I)) ts:=by
 obtain⟨a',ys0,k1,k2,k3,k4,k5⟩:=r.own i xs hi;rw[ha]at k1;cases k1;have R:i<δ.length:=(aB.mp hi).1;have hl:=r.len;refine⟨r.ext,r.new,fun b o h=>?_,fun b o h=>?_,by simp[hl],fun j y h=>?_,fun j zs h=>?_,fun j l us ws U Z Y=>?_,r.Cf⟩
 .rw[AK (fun z=>by subst z;rw[k2]at h;cases h)];exact r.ins _ _ h
 .rw[AK (fun z=>by subst z;rw[k3]at h;cases h)];exact r.keep _ _ h
 .by_cases g:i=j
  .subst g;rw[List.getElem?_set_self R]at h;cases h
  .rw[List.getElem?_set_ne g]at h;exact r.dat j y h
 .by_cases g:i=j
  .subst g;rw[List.getElem?_set_self R]at h;cases h;exact⟨a,ys,ha,k2,k3,AN,d⟩
  .rw[List.getElem?_set_ne g]at h;obtain⟨b,us,m1,m2,m3,m4,m5⟩:=r.own j zs h;have nb:b≠a:=fun z=>by subst z;exact r.apart i j xs zs g hi h (by rw[ha,m1])
   exact⟨b,us,m1,m2,m3,by rw[AK nb];exact m4,m5⟩
 .have f:∀(j:Nat) (us:Oc),(δ.set i (.own I))[j]? = some (L.own us)->∃M,δ[j]? = some (L.own M):=fun j us h=>by
   by_cases g:i=j
   .subst g;exact⟨xs,hi⟩
   .rw[List.getElem?_set_ne g]at h;exact⟨us,h⟩
  obtain⟨M,Z⟩:=f j us Z;obtain⟨T,Y⟩:=f l ws Y;exact r.apart j l M T U Z Y
end
section
variable{X:Cx}{a e:Expr}{es:tL}{f h:sr}{fs:sq}{pos p:Pos}{st:Stmt}{F:DF}
def kB(i:Nat)(h1:DS X st F):DS X st (fun δ=>F (Fe i δ)):=by
 obtain⟨t,p,k⟩:=h1;refine⟨t,p,fun δ r h G0 H0 G H σ D R q=>?_⟩;obtain⟨I,g⟩:=R.Fe i;exact k _ r h G0 H0 I H σ D g q
def mm{i:Nat}{x:Str}{g M:Pos}(hN:X.N.Nodup)(hi:X.N[i]? = some x)(U:Loc X.env.scope x)(ha:DA X es fs)(Y:swapsWith (.List es M) (some (.Name x g)) pos.line X.env=pure false:=by rfl)(hf:X.fn x=true\/X.env.scope.names.lookup x=some .local:=by first|exact .inl rfl|exact .inr rfl|assumption):DS X (.Assign [.Name x g] (.List es M) pos) (fun δ=>((fs δ).bind B2).map fun ys=>.nx (δ.set i (.own (.lst ys)))):=by
 obtain⟨t,p,k⟩:=ha;refine⟨_,Ai hN hi U (IP p) Y hf,fun δ r h G0 H0 G H σ D R q=>?_⟩;obtain⟨y,h1,rfl⟩:=aC.mp h;obtain⟨xs,h2,h3⟩:=aD.mp h1;obtain⟨rfl,Z⟩:=Np h3;refine k δ _ h2 G0 H0 G H σ [] _ R fun vs G1 H1 R1 T=>?_;obtain⟨d,R2⟩:=R1.args T;exact⟨Hm (by rw[T];exact Z),fun l I=>q _ _ _ (R2.mX ⟨_,rfl,d⟩ I)⟩
def ow(i:Nat)(δ:Dv):Option sx:=match δ[i]? with
 |some (.own (.lst xs))=>some xs
 |_=>none
def pQ{i:Nat}{δ:Dv}{xs:sx}(h:ow i δ=some xs):δ[i]? = some (.own (.lst xs)):=by
 unfold ow at h;split at h
 .rename_i y e;cases h;exact e
 .cases h
def cX{i:Nat}{x:Str}{np ap cp:Pos}(hv:PE X (.Name x np) (UQ i))(he:DE X e f) (hP:∀ {U:TE} {t:TA},PE X (.Name x np) U->PA X [e] t->PS X (.Expr (.Call (.Attribute (.Name x np) "append" ap) [e] [] cp) pos) (UK (qL X.K "list" XG U t)))(I:starEach [e] X.env=(false,eval e X.env)::starEach [] X.env:=by rfl):DS X (.Expr (.Call (.Attribute (.Name x np) "append" ap) [e] [] cp) pos) (fun δ=>(f δ).bind fun y=>(ow i δ).bind fun xs=>if xs.length<DH then some (.nx (δ.set i (.own (.lst (xs++[y]))))) else none):=by
 obtain⟨t,p,k⟩:=he;refine⟨_,hP hv (AE p AQ I),fun δ r h G0 H0 G H σ D R q=>?_⟩;obtain⟨y,h1,h2⟩:=aD.mp h;obtain⟨xs,h3,M⟩:=aD.mp h2;split at M
 .rename_i hl;cases M;have hi:=pQ h3;obtain⟨a,_,g,k2,k3,k4,⟨ys,rfl,k5⟩⟩:=R.own i _ hi;refine⟨.ref a,g,.inl ⟨rfl,ys,Aj.of k4⟩,?_⟩;refine k δ y h1 G0 H0 G H σ [] _ R fun u G1 H1 T=>?_;obtain⟨a',_,Z,m2,m3,m4,⟨zs,rfl,Y⟩⟩:=T.own i _ hi;rw[g]at Z;cases Z;refine⟨a,zs,u,rfl,rfl,m4,SH (by rw[Y.len];lia),?_⟩;exact q _ _ _ (T.drop.oG hi g ⟨_,rfl,Y.app (.cons (T.Cf _ (.head _)) .nil)⟩)
 .cases M
end
structure Kq(J:It)(xs:List PyData)(G:Hp):Prop where
 stop:∀H,AJ G H->J.stop xs.length H
 go:∀(i:Nat) (d:PyData) H,xs[i]? = some d->AJ G H->J.go i H
 EU:∀(i:Nat) (d:PyData) H x H',xs[i]? = some d->AJ G H->J.EU i H x H'->∀Gc,AJ G Gc->AJ Gc H->∃Gc',AJ Gc Gc'/\Nw Gc H Gc'/\AJ Gc' H'/\AJ H H'/\Du Gc' d x
def Nw.refl{G H:Hp}:Nw G H G:=fun _ _ h=>.inl h
def jz{K:Fg}{G:Hp}{a:AD}{ys:tR}{xs:sx}(ha:G a=some (.lst ys))(d:Aq G xs ys):Kq (YN K a) xs G where
 stop:=fun H e=>⟨ys,Aj.of (e _ _ ha),by rw[d.len];exact aG _⟩
 go:=fun i x H hx e=>by
  obtain⟨v,h1,_⟩:=d.get hx;exact⟨ys,v,Aj.of (e _ _ ha),h1⟩
 EU:=fun i x H v H' hx e y Gc e1 e2=>by
  obtain⟨rfl,y⟩:=y;have h1:=y ys (Aj.of (e _ _ ha));obtain⟨x',h2,h3⟩:=d.back h1;rw[hx]at h2;cases h2;exact⟨Gc,AJ.refl _,Nw.refl,e2,AJ.refl _,h3.same e1⟩
def kG{K:Fg}{G:Hp}{a:AD}{ys:tR}{xs:sx}(ha:G a=some (.tup ys))(d:Aq G xs ys):Kq (Xb K a) xs G where
 stop:=fun H e=>⟨ys,Ax.of (e _ _ ha),by rw[d.len];exact aG _⟩
 go:=fun i x H hx e=>by
  obtain⟨v,h1,_⟩:=d.get hx;exact⟨ys,v,Ax.of (e _ _ ha),h1⟩
 EU:=fun i x H v H' hx e y Gc e1 e2=>by
  obtain⟨rfl,y⟩:=y;have h1:=y ys (Ax.of (e _ _ ha));obtain⟨x',h2,h3⟩:=d.back h1;rw[hx]at h2;cases h2;exact⟨Gc,AJ.refl _,Nw.refl,e2,AJ.refl _,h3.same e1⟩
def M9(lo:Int)(n:Nat):sx:=(List.range n).map fun k=>.int (lo+(k:Nat))
def mn{G:Hp}{lo:Int}{n:Nat}:Kq (V2 lo n) (M9 lo n) G where
 stop:=fun H e=>by show n<=_;simp[M9]
 go:=fun i x H hx e=>by
  have:=(aB.mp hx).1;show i<n
  simpa[M9]using this
 EU:=fun i x H v H' hx e y Gc e1 e2=>by
  obtain⟨rfl,rfl⟩:=y;unfold M9 at hx;rw[(BP)]at hx;obtain⟨k,h1,rfl⟩:=aC.mp hx;have hk:k=i:=by
   have:=(aB.mp h1).1;rw[List.getElem?_range (by simpa using this)]at h1;cases h1;rfl
  subst hk;exact⟨Gc,AJ.refl _,Nw.refl,e2,AJ.refl _,by rw[Du]⟩
def QC{Gc H:Hp}{p:AD}{U T:PD}{I g:V}(R:AJ Gc H)(M:H p=none)(h1:Du Gc U I)(Z:Du Gc T g):∃Gc',AJ Gc Gc'/\Nw Gc H Gc'/\AJ Gc' (upd H p (.tup [I,g]))/\AJ H (upd H p (.tup [I,g]))/\Du Gc' (.tuple [U,T]) (.ref p):=by
 have Y:Gc p=none:=by
  cases q:Gc p with
  |none=>rfl
  |some u=>rw[R _ _ q]at M;cases M
 have e:AJ Gc (upd Gc p (.tup [I,g])):=AZ Y _;refine⟨upd Gc p (.tup [I,g]),e,fun a o h=>?_,fun a o h=>?_,AZ M _,?_⟩
 .by_cases ha:a=p
  .subst ha;exact .inr (.inl M)
  .rw[AK ha]at h;exact .inl h
 .by_cases ha:a=p
  .subst ha;rw[AN]at h ⊢;exact h
  .rw[AK ha]at h ⊢;exact R _ _ h
 .rw[Du];exact⟨p,[I,g],rfl,AN,.cons (h1.same e) (.cons (Z.same e) .nil)⟩
def EE(xs:sx):sx:=xs.zipIdx.map fun q=>.tuple [.int (q.2:Nat),q.1]
def Hv{xs:sx}{i:Nat}{d:PD}(h:(EE xs)[i]? = some d):∃x,xs[i]? = some x/\d=.tuple [.int (i:Nat),x]:=by
 unfold EE at h;rw[(BP)]at h;obtain⟨q,g,rfl⟩:=aC.mp h;rw[List.getElem?_zipIdx]at g;obtain⟨x,I,rfl⟩:=aC.mp g;exact⟨x,I,by simp⟩
def fT{K:Fg}{G:Hp}{a:AD}{ys:tR}{xs:sx}(ha:G a=some (.tup ys))(d:Aq G xs ys):Kq (X7 K a) (EE xs) G where
 stop:=fun H e=>⟨ys,Ax.of (e _ _ ha),by rw[d.len];simp[EE]⟩
 go:=fun i x H hx e=>by
  obtain⟨x',h0,rfl⟩:=Hv hx;obtain⟨v,h1,_⟩:=d.get h0;exact⟨ys,v,Ax.of (e _ _ ha),h1⟩
 EU:=fun i x H v H' hx e y Gc e1 e2=>by
  obtain⟨x',h0,rfl⟩:=Hv hx;obtain⟨p,u,rfl,hp,rfl,y⟩:=y;have h1:=y ys (Ax.of (e _ _ ha));obtain⟨x2,h2,h3⟩:=d.back h1;rw[h0]at h2;cases h2;exact QC e2 hp (by rw[Du]) (h3.same e1)
def eZ{K:Fg}{G:Hp}{a:AD}{ys:tR}{xs:sx}(ha:G a=some (.lst ys))(d:Aq G xs ys):Kq (YL K a) (EE xs) G where
 stop:=fun H e=>⟨ys,Aj.of (e _ _ ha),by rw[d.len];simp[EE]⟩
 go:=fun i x H hx e=>by
  obtain⟨x',h0,rfl⟩:=Hv hx;obtain⟨v,h1,_⟩:=d.get h0;exact⟨ys,v,Aj.of (e _ _ ha),h1⟩
 EU:=fun i x H v H' hx e y Gc e1 e2=>by
  obtain⟨x',h0,rfl⟩:=Hv hx;obtain⟨p,u,rfl,hp,rfl,y⟩:=y;have h1:=y ys (Aj.of (e _ _ ha));obtain⟨x2,h2,h3⟩:=d.back h1;rw[h0]at h2;cases h2;exact QC e2 hp (by rw[Du]) (h3.same e1)
def OO(xs ys:sx):sx:=(xs.zip ys).map fun q=>.tuple [q.1,q.2]
def Uc{xs ys:sx}{i:Nat}{d:PD}(h:(OO xs ys)[i]? = some d):∃x y,xs[i]? = some x/\ys[i]? = some y/\d=.tuple [x,y]:=by
 unfold OO at h;rw[(BP)]at h;obtain⟨q,M,rfl⟩:=aC.mp h;obtain⟨I,g⟩:=List.getElem?_zip_eq_some.mp M;exact⟨q.1,q.2,I,g,rfl⟩
def nE{G:Hp}{b1 b2:Bool}{a1 a2:AD}{us vs:tR}{xs ys:sx}(h1:G a1=some (if b1 then .tup us else .lst us))(h2:G a2=some (if b2 then .tup vs else .lst vs))(d1:Aq G xs us)(d2:Aq G ys vs):Kq (mL b1 b2 a1 a2) (OO xs ys) G where
 stop:=fun H e=>by
  have k1:=e _ _ h1;have k2:=e _ _ h2;refine⟨us,vs,?_,?_,?_⟩
  .cases b1<;>simpa[GG]using k1
  .cases b2<;>simpa[GG]using k2
  .rw[d1.len,d2.len];simp[OO];lia
 go:=fun i x H hx e=>by
  obtain⟨x1,x2,k1,k2,rfl⟩:=Uc hx;obtain⟨v1,k3,_⟩:=d1.get k1;obtain⟨v2,k4,_⟩:=d2.get k2;have m1:=e _ _ h1;have m2:=e _ _ h2;refine⟨us,v1,vs,v2,?_,?_,k3,k4⟩
  .cases b1<;>simpa[GG]using m1
  .cases b2<;>simpa[GG]using m2
 EU:=fun i x H v H' hx e y Gc e1 e2=>by
  obtain⟨x1,x2,k1,k2,rfl⟩:=Uc hx;obtain⟨p,v1,v2,rfl,hp,rfl,y1,y2⟩:=y;have m1:=e _ _ h1;have m2:=e _ _ h2;have z1:=y1 us (by cases b1<;>simpa[GG]using m1);have z2:=y2 vs (by cases b2<;>simpa[GG]using m2);obtain⟨w1,n1,n2⟩:=d1.back z1;obtain⟨w2,n3,n4⟩:=d2.back z2;rw[k1]at n1;cases n1;rw[k2]at n3;cases n3;exact QC e2 hp (n2.same e1) (n4.same e1)
def DI(X:Cx)(tg iter:Expr)(f:sq):Prop:=∃g,PI X tg iter g/\∀δ xs,f δ=some xs->∀G0 H0 G H σ ts (R:It->Hp->Prop),Rw G0 H0 G H σ δ ts->(∀J I H',Rw G0 H0 I H' σ δ ts->Kq J xs I->R J H')->g σ H R
section
variable{X:Cx}{tg a b e:Expr}{f g h:sr}{fs:sq}{pos p:Pos}{sts:tU}{F:DF}
def PI.or{T M:TI}(h:PI X tg e T)(h':PI X tg e M):PI X tg e (fun σ H R=>T σ H R\/M σ H R):=fun pins s σ H R I q=>by
 rcases q with q|q
 .exact h pins s σ H R I q
 .exact h' pins s σ H R I q
def NC:PD->Option (List PD)
 |.list xs=>some xs
 |.tuple xs=>some xs
 |_=>none
def HD(Z:DE X e f):DI X tg e (fun δ=>(f δ).bind NC):=by
 obtain⟨t,p,k⟩:=Z;refine⟨_,(B4 p).or (Vh p),fun δ xs h G0 H0 G H σ ts R Y q=>?_⟩;obtain⟨x,U,M⟩:=aD.mp h;unfold NC at M;split at M
 .cases M
  left
  refine k δ _ U G0 H0 G H σ ts _ Y fun v G' H' I=>?_;have du:=I.Cf _ (.head _);rw[Du]at du;obtain⟨a,ys,rfl,n1,T⟩:=du;exact⟨a,rfl,⟨ys,Aj.of (I.ins _ _ n1)⟩,q _ _ _ I.drop (jz n1 T)⟩
 .cases M
  right
  refine k δ _ U G0 H0 G H σ ts _ Y fun v G' H' I=>?_;have du:=I.Cf _ (.head _);rw[Du]at du;obtain⟨a,ys,rfl,n1,T⟩:=du;exact⟨a,rfl,⟨ys,Ax.of (I.ins _ _ n1)⟩,q _ _ _ I.drop (kG n1 T)⟩
 .cases M
def Rk:List PD->Option (List PD)
 |[.int j]=>if -1000000<=j/\j<=1000000 then some (M9 0 j.toNat) else none
 |_=>none
def bq(U:Gl X "range")(hm:X.mg "range" = none)(ha:DA X [a] fs)(T:starEach [a] X.env=[(false,eval a X.env)]:=by rfl):DI X tg (.Call (.Name "range" p) [a] [] pos) (fun δ=>(fs δ).bind Rk):=by
 obtain⟨t,p,k⟩:=ha;refine⟨_,Hj U hm p T,fun δ xs h G0 H0 G H σ ts R Z q=>?_⟩;obtain⟨x,Y,I⟩:=aD.mp h;refine k δ _ Y G0 H0 G H σ ts _ Z fun vs G' H' R' M=>?_;obtain⟨d,R2⟩:=R'.args M;unfold Rk at I;split at I
 .split at I
  .cases I;obtain⟨u,rfl,du⟩:=d.Lv;rw[Du]at du;subst du;exact⟨_,rfl,by lia,by lia,q _ _ _ R2 mn⟩
  .cases I
 .cases I
def KO:List PD->Option (List PD)
 |[.list xs]=>some (EE xs)
 |[.tuple xs]=>some (EE xs)
 |_=>none
def SO{elts:tL}{x1}{I:Pos}(hg:Gl X "enumerate")(hm:X.mg "enumerate" = none)(ha:DA X [a] fs)(Z:starEach [a] X.env=[(false,eval a X.env)]:=by rfl):DI X (.Tuple elts x1 I) (.Call (.Name "enumerate" p) [a] [] pos) (fun δ=>(fs δ).bind KO):=by
 obtain⟨t,p,k⟩:=ha;refine⟨_,(WA hg hm p Z).or (XY hg hm p Z),fun δ xs h G0 H0 G H σ ts R R0 q=>?_⟩;obtain⟨x,h1,M⟩:=aD.mp h;unfold KO at M;split at M
 .cases M
  left
  refine k δ _ h1 G0 H0 G H σ ts _ R0 fun vs G' H' Y U=>?_;obtain⟨d,R2⟩:=Y.args U;obtain⟨u,rfl,du⟩:=d.Lv;rw[Du]at du;obtain⟨a,ys,rfl,n1,T⟩:=du;exact⟨a,rfl,⟨ys,Aj.of (R2.ins _ _ n1)⟩,q _ _ _ R2 (eZ n1 T)⟩
 .cases M
  right
  refine k δ _ h1 G0 H0 G H σ ts _ R0 fun vs G' H' Y U=>?_;obtain⟨d,R2⟩:=Y.args U;obtain⟨u,rfl,du⟩:=d.Lv;rw[Du]at du;obtain⟨a,ys,rfl,n1,T⟩:=du;exact⟨a,rfl,⟨ys,Ax.of (R2.ins _ _ n1)⟩,q _ _ _ R2 (fT n1 T)⟩
 .cases M
def zip2:List PD->Option (List PD)
 |[x,y]=>(NC x).bind fun xs=>(NC y).map fun ys=>OO xs ys
 |_=>none
def dZ{G:Hp}{x:PD}{v:V}{xs:sx}(h:Du G x v)(e:NC x=some xs):∃(b:Bool) (a:AD) (ys:tR),v=.ref a/\G a=some (if b then .tup ys else .lst ys)/\Aq G xs ys:=by
 unfold NC at e;split at e
 .cases e;rw[Du]at h;obtain⟨a,ys,rfl,n1,I⟩:=h;exact⟨false,a,ys,rfl,n1,I⟩
 .cases e;rw[Du]at h;obtain⟨a,ys,rfl,n1,I⟩:=h;exact⟨true,a,ys,rfl,n1,I⟩
 .cases e
def cQ{elts:tL}{x1}{I:Pos}(hg:Gl X "zip")(hm:X.mg "zip" = none)(ha:DA X [a,b] fs)(hs:starEach [a,b] X.env=[(false,eval a X.env),(false,eval b X.env)]:=by rfl)(T:starEach [b] X.env=[(false,eval b X.env)]:=by rfl):DI X (.Tuple elts x1 I) (.Call (.Name "zip" p) [a,b] [] pos) (fun δ=>(fs δ).bind zip2):=by
 obtain⟨t,p,k⟩:=ha;refine⟨_,cZ hg hm p hs T,fun δ xs h G0 H0 G H σ ts R R0 q=>?_⟩;obtain⟨x,h1,M⟩:=aD.mp h;refine k δ _ h1 G0 H0 G H σ ts _ R0 fun vs G' H' R' hv=>?_;obtain⟨d,R2⟩:=R'.args hv;unfold zip2 at M;split at M
 .obtain⟨Z,h3,h4⟩:=aD.mp M;obtain⟨Y,h5,rfl⟩:=aC.mp h4;obtain⟨u,v,rfl,du,dv⟩:=d.Ln;obtain⟨b1,a1,us,rfl,n1,n2⟩:=dZ du h3;obtain⟨b2,a2,ws,rfl,U,m2⟩:=dZ dv h5;have s1:=R2.ins _ _ n1;have s2:=R2.ins _ _ U;exact⟨b1,b2,a1,a2,rfl,⟨us,by cases b1<;>simpa[GG]using s1⟩,⟨ws,by cases b2<;>simpa[GG]using s2⟩,q _ _ _ R2 (nE n1 U n2 m2)⟩
 .cases M
def DG(X:Cx)(tg:Expr)(set:PD->Dv->Option Dv):Prop:=∃g,PG X tg g/\∀δ x M,set x δ=some M->∀G0 H0 G H σ v (Q:St->Hp->Prop),Rw G0 H0 G H σ δ [(x,v)]->(∀I R H',Rw G0 H0 R H' I M []->Q I H')->g v σ H Q
def XT{i:Nat}{x:Str}(h:PG X (.Name x pos) (Ea i)):DG X (.Name x pos) (fun y δ=>some (δ.set i (.d y))) :=
 ⟨_,h,fun δ y I e G0 H0 G H σ v Q R k=>by cases e;exact k _ _ _ R.L4⟩
def Cy(i j:Nat)(y:PD)(δ:Dv):Option Dv:=match y with
 |.tuple [u,v]=>some ((δ.set i (.d u)).set j (.d v))
 |_=>none
def Nv{x y:Str}{i j:Nat}{U T:Pos}{k1}(h:PG X (.Tuple [.Name x U,.Name y T] k1 pos) (fD X.K 2 (Qk (Ea i) (Qk (Ea j) eh)))):DG X (.Tuple [.Name x U,.Name y T] k1 pos) (Cy i j):=by
 refine⟨_,h,fun δ z Y e G0 H0 G H σ v Q R k=>?_⟩;unfold Cy at e;split at e
 .cases e;have du:=R.Cf _ (.head _);rw[Du]at du;obtain⟨a,ys,rfl,n1,Z⟩:=du;obtain⟨M,I,rfl,m1,m2⟩:=Z.Ln;refine⟨a,[M,I],rfl,Ax.of (R.ins _ _ n1),rfl,M,[I],rfl,I,[],rfl,rfl,?_⟩;exact k _ _ _ (((R.drop.put m2).put m1).L4.L4)
 .cases e
def MG(set:PD->Dv->Option Dv)(M:DF):List PD->Dv->Option Ou
 |[],δ=>some (.nx δ)
 |x::xs,δ=>match (set x δ).bind M with
  |some (.nx I)=>MG set M xs I
  |some (.ct I)=>MG set M xs I
  |some (.bk I)=>some (.nx I)
  |some (.rt v)=>some (.rt v)
  |some (.rn v)=>some (.rn v)
  |none=>none
def LW{set:PD->Dv->Option Dv}(hp:PassesOwn By X.A X.env X.xe)(hc:X.calm=true)(hi:DI X tg e fs)(hg:DG X tg set)(hb:Pl X sts F)(hs:∀x,foldedSetIterable e X.env x=pure x:=by intro _;rfl):DS X (.For tg e sts [] pos) (fun δ=>(fs δ).bind fun xs=>MG set F xs δ):=by
 obtain⟨wi,pi,ki⟩:=hi;obtain⟨g,pg,kg⟩:=hg;obtain⟨tb,pb,kb⟩:=hb;refine⟨_,C0 hp hc pi pg pb hs,fun δ r h G0 H0 G H σ D R q=>?_⟩;obtain⟨xs,h1,h2⟩:=aD.mp h;refine ki δ xs h1 G0 H0 G H σ [] _ R fun J Ga Ha Ra it=>?_;refine⟨fun i m M H'=>m=xs.length-i/\i<=xs.length/\∃I G',MG set F (xs.drop i) I=some r/\Rw G0 H0 G' H' M I []/\AJ Ga G',⟨xs.length,by simp,Nat.zero_le _,δ,Ga,by simpa using h2,Ra,AJ.refl _⟩,?_⟩;rintro i m σ1 H1 ⟨rfl,hi,δ1,G1,f1,R1,s1⟩;have sH:AJ Ga H1:=s1.trans R1.ins;by_cases U:i<xs.length
 .right
  have hx:xs[i]? = some xs[i]:=by simp[U]
  refine⟨it.go i _ H1 hx sH,fun M H'=>i+1<=xs.length/\∃I G',MG set F (xs.drop (i+1)) I=some r/\Rw G0 H0 G' H' M I []/\AJ Ga G',fun M H' n=>⟨xs.length-(i+1),by lia,rfl,n⟩,fun x H' y=>?_⟩;obtain⟨G2,e1,e2,e3,e4,e5⟩:=it.EU i _ H1 x H' hx sH y G1 s1 R1.ins;have R2:=(R1.lift e1 e2 e3 e4).put e5;have s2:=s1.trans e1;rw[List.drop_eq_getElem_cons U]at f1;unfold MG at f1;cases hb2:(set xs[i] δ1).bind F with
  |none=>rw[hb2]at f1;cases f1
  |some o=>
   obtain⟨δ2,k1,k2⟩:=aD.mp hb2;rw[hb2]at f1;have R2b:=R2.base;refine kg δ1 _ δ2 k1 G2 H0 G2 H' σ1 x _ R2b fun σ3 G3 H3 R3=>?_;refine kb δ2 o k2 G2 H0 G3 H3 σ3 _ R3 ?_;cases o with
   |nx T=>exact fun Z Y H4 R4=>⟨U,T,Y,f1,R2.drop.V8 R4,s2.trans R4.ext⟩
   |ct T=>exact fun Z Y H4 R4=>⟨U,T,Y,f1,R2.drop.V8 R4,s2.trans R4.ext⟩
   |bk T=>cases f1;exact fun Z Y H4 R4=>q Z Y H4 (R2.drop.V8 R4)
   |rt v=>cases f1;exact fun w Y H4 h1 h2 h3 h4 h5=>q w Y H4 (R2.ext.trans h1) (R2.new.trans h2) h3 h4 h5
   |rn v=>cases f1;exact fun w ys Y H4 h1 h2=>q w ys Y H4 (R2.ext.trans h1) (R2.new.trans h2)
 .left
  have e:i=xs.length:=by lia
  subst e;refine⟨it.stop H1 sH,?_⟩;rw[List.drop_length]at f1;unfold MG at f1;cases f1;exact q _ _ _ R1
end
def tD(f:sr):TE:=fun σ H Q=>∃δ x G0 H0 G ts,f δ=some x/\Rw G0 H0 G H σ δ ts/\∀v g H',Rw G0 H0 g H' σ δ ((x,v)::ts)->Q v H'
def Xl(f:su):TT:=fun σ H Q=>∃δ x G0 H0 G ts,f δ=some x/\Rw G0 H0 G H σ δ ts/\∀g H',Rw G0 H0 g H' σ δ ts->Q x H'
def DE.pe{X:Cx}{e:Expr}{f:sr}(h:DE X e f):PE X e (tD f):=by
 obtain⟨t,p,k⟩:=h;intro pins s σ H Q I q;obtain⟨δ,x,G0,H0,G,ts,R,M,g⟩:=q;exact p pins s σ H Q I (k δ x R G0 H0 G H σ ts Q M g)
def DT.pt{X:Cx}{e:Expr}{f:su}(h:DT X e f):PT X e (Xl f):=by
 obtain⟨t,p,k⟩:=h;intro pins s σ H Q I q;obtain⟨δ,x,G0,H0,G,ts,R,M,g⟩:=q;exact p pins s σ H Q I (k δ x R G0 H0 G H σ ts Q M g)
def WX(X:Cx)(g:tL)(f:su):Prop:=NO X g (Xl f)
def JM{X:Cx}:WX X [] (fun _=>some true):=by
 intro pins s σ H Q I q;obtain⟨δ,x,G0,H0,G,ts,R,M,g⟩:=q;cases R;exact D4 pins s σ H Q I (g _ _ M)
def X2{X:Cx}{c:Expr}{f:su}(h:DT X c f):WX X [c] f:=jN h.pt
def Bu(fr:tW)(δ:Dv):Dv:=fr.map fun o=>match o with
 |some j=>(match δ[j]? with|some (.d x)=>.d x|_=>.no)
 |none=>.no
def Rw.inner{G0 H0 G H:Hp}{σ:St}{δ:Dv}{ts:List (PD×V)}(fr:tW)(r:Rw G0 H0 G H σ δ ts):Rw G H G H (carry fr σ) (Bu fr δ) ts:=by
 have key:∀(i:Nat) (l:L),(Bu fr δ)[i]? = some l->∃o,fr[i]? = some o/\l=(match o with|some j=>(match δ[j]? with|some (.d x)=>.d x|_=>.no)|none=>.no):=fun i l h=>by
  unfold Bu at h;rw[(BP)]at h;obtain⟨o,M,rfl⟩:=aC.mp h;exact⟨o,M,rfl⟩
 have g:∀(i:Nat) (xs:Oc),(Bu fr δ)[i]?≠some (L.own xs):=fun i xs h=>by
  obtain⟨o,_,I⟩:=key i _ h;split at I
  .split at I<;>cases I
  .cases I
 refine⟨AJ.refl _,Nw.refl,r.ins,AJ.refl _,by simp[carry,Bu],fun i x h=>?_,fun i xs h=>absurd h (g i xs),fun i j xs ys _ h=>absurd h (g i xs),r.Cf⟩;obtain⟨o,M,I⟩:=key i _ h;split at I
 .rename_i j;split at I
  .rename_i y U;cases I;obtain⟨v,T,R⟩:=r.dat j _ U;refine⟨v,?_,R⟩;unfold carry;rw[(BP),M];simp[T]
  .cases I
 .cases I
def Rw.other{G0 H0 G H:Hp}{σ:St}{δ:Dv}{ts:List (PD×V)}{D:AD}{o:HO}(r:Rw G0 H0 G H σ δ ts)(Y:G D=none)(h0:H0 D=none)(U:∀(i:Nat) (xs:Oc),δ[i]? = some (L.own xs)->σ[i]?≠some (some (V.ref D))):Rw G0 H0 G (upd H D o) σ δ ts:=by
 refine⟨r.ext,r.new,fun a u h=>?_,fun a u h=>?_,r.len,r.dat,fun i xs h=>?_,r.apart,r.Cf⟩
 .rw[AK (fun z=>by subst z;rw[Y]at h;cases h)];exact r.ins _ _ h
 .rw[AK (fun z=>by subst z;rw[h0]at h;cases h)];exact r.keep _ _ h
 .obtain⟨a,ys,g,T,R,M,I⟩:=r.own i xs h;exact⟨a,ys,g,T,R,by rw[AK (fun z=>by subst z;exact U i xs h g)];exact M,I⟩
def Rw.adopt{G0 H0 G H:Hp}{σ:St}{δ:Dv}{ts:List (PD×V)}{D:AD}{ys:tR}(r:Rw G0 H0 G H σ δ ts)(hD:H D=some (.lst ys))(hG:G D=none)(h0:H0 D=none)(Z:∀(i:Nat) (xs:Oc),δ[i]? = some (L.own xs)->σ[i]?≠some (some (V.ref D))):Rw G0 H0 (upd G D (.lst ys)) H σ δ ts:=by
 have e:AJ G (upd G D (.lst ys)):=AZ hG _;refine⟨r.ext.trans e,fun a u h=>?_,fun a u h=>?_,r.keep,r.len,fun i x h=>?_,fun i xs h=>?_,r.apart,fun q Y=>(r.Cf q Y).same e⟩
 .by_cases ha:a=D
  .subst ha;exact .inr (.inl h0)
  .rw[AK ha]at h;exact r.new _ _ h
 .by_cases ha:a=D
  .subst ha;rw[AN]at h;rw[hD];exact h
  .rw[AK ha]at h;exact r.ins _ _ h
 .obtain⟨v,g,I⟩:=r.dat i x h;exact⟨v,g,I.same e⟩
 .obtain⟨a,M,g,I,U,T,R⟩:=r.own i xs h;have ha:a≠D:=fun z=>by subst z;exact Z i xs h g
  exact⟨a,M,g,by rw[AK ha];exact I,U,T,R.same e⟩
def Jv(set:PD->Dv->Option Dv)(tif:su)(f:sr)(δ:Dv)(x:PD):Option tG :=
 (set x δ).bind fun g=>(tif g).bind fun b=>if b=true then(f g).map some else some none
def collect(one:PD->Option (Option PD)):List PD->Option (List PD)
 |[]=>some []
 |x::xs=>(one x).bind fun o=>(collect one xs).map fun r=>o.toList++r
def Cz(set:PD->Dv->Option Dv)(tif:su)(f:sr)(fr:tW)(fs:sq)(δ:Dv):Option sx :=
 (fs δ).bind fun xs=>(collect (Jv set tif f (Bu fr δ)) xs).bind B2
def Gk(set:PD->Dv->Option Dv)(tif:su)(f:sr)(fr:tW)(fs:sq)(δ:Dv):tG :=
 (Cz set tif f fr fs δ).map .list
structure Xk(G0 H0 Ga:Hp)(σ:St)(δ:Dv)(ts:List (PyData×V))(one:PyData->Option (Option PyData))(xs full:List PyData)(D:Addr)(i:Nat)(ys:List V)(H:Hp):Prop where
 ex:∃G done rest,Rw G0 H0 G H σ δ ts/\AJ Ga G/\G D=none/\collect one (xs.drop i)=some rest/\done++rest=full/\Aq G done ys
 h0:H0 D=none
 ap:∀(j:Nat) (us:Oc),δ[j]? = some (L.own us)->σ[j]?≠some (some (V.ref D))
def SJ{G0 H0 G H:Hp}{D:AD}{ys:tR}(I:G0 D=none)(g:H0 D=some (.lst ys))(n:Nw G0 H0 G)(e:AJ G H)(k:AJ H0 H):G D=none:=by
 cases q:G D with
 |none=>rfl
 |some o=>
  rcases n _ _ q with z|z|⟨us,z⟩
  .rw[I]at z;cases z
  .rw[g]at z;cases z
  .have:=e _ _ q;rw[k _ _ g,z]at this;cases this
section
variable{X:Cx}{elt iter:Expr}{x y:Str}{px pos:Pos}{ifs:tL}{scope:Scope}{fs:sq}{tif:su}{f:sr}
def Gu(i:Nat)(y:PD)(δ:Dv):Option Dv:=some (δ.set i (.d y))
def Q5{wi:TI}{ix:Nat}{fr:tW}(ki:∀(δ:Dv) (xs:sx),fs δ=some xs->∀(G0 H0 G H:Hp) (σ:St) (ts:List (PD×V)) (R:It->Hp->Prop),Rw G0 H0 G H σ δ ts->(∀J G' H',Rw G0 H0 G' H' σ δ ts->Kq J xs G'->R J H')->wi σ H R){δ:Dv}{zs:sx}(hz:Cz (Gu ix) tif f fr fs δ=some zs){G0 H0 G H:Hp}{σ:St}{ts:List (PD×V)}{Q:VK}(R0:Rw G0 H0 G H σ δ ts)(k:∀D ys G' H',Rw G0 H0 G' H' σ δ ts->H' D=some (.lst ys)->G' D=none->H0 D=none->(∀(j:Nat) (us:Oc),δ[j]? = some (L.own us)->σ[j]?≠some (some (V.ref D)))->Aq G' zs ys->Q (.ref D) H'):UC wi fr ix (Xl tif) (tD f) σ H Q:=by
 unfold Cz at hz;obtain⟨xs,m2,m3⟩:=aD.mp hz;obtain⟨full,m4,m5⟩:=aD.mp m3;obtain⟨rfl,hfew⟩:=Np m5;refine ki δ xs m2 G0 H0 G H σ ts _ R0 fun J Ga Ha Ra it D hD=>?_;have hGD:Ga D=none:=by
  cases q:Ga D with
  |none=>rfl
  |some u=>rw[Ra.ins _ _ q]at hD;cases hD
 have I:H0 D=none:=by
  cases q:H0 D with
  |none=>rfl
  |some u=>rw[Ra.keep _ _ q]at hD;cases hD
 have g:∀(j:Nat) (us:Oc),δ[j]? = some (L.own us)->σ[j]?≠some (some (V.ref D)):=fun j us h z=>by
  obtain⟨a,ys,k1,k2,k3,k4,k5⟩:=Ra.own j us h;rw[z]at k1;cases k1;rw[k4]at hD;cases hD
 refine E2 (n:=xs.length) (Xk G0 H0 Ga σ δ ts (Jv (Gu ix) tif f (Bu fr δ)) xs full D) ⟨⟨Ga,[],full,Ra.other hGD I g,AJ.refl _,hGD,by simpa using m4,rfl,.nil⟩,I,g⟩ ?_ ?_
 .rintro i ys H1 Y ⟨⟨G1,done,rest,R1,s1,g1,c1,e1,d1⟩,_,_⟩ hD1;have hx:xs[i]? = some xs[i]:=by simp[Y]
  have sH:=s1.trans R1.ins;have hyl:ys.length<sizeLine:=SH (by
   rw[d1.len];have:done.length<=full.length:=by rw[<-e1];simp
   lia)
  refine⟨it.go i _ H1 hx sH,hyl,fun v H' y=>?_⟩;obtain⟨G2,n1,n2,n3,n4,n5⟩:=it.EU i _ H1 v H' hx sH y G1 s1 R1.ins;have R2:=R1.lift n1 n2 n3 n4;have Z:=n4 _ _ hD1;have g2:G2 D=none:=SJ g1 hD1 n2 n3 n4;rw[List.drop_eq_getElem_cons Y]at c1;unfold collect at c1;obtain⟨o,c2,c3⟩:=aD.mp c1;obtain⟨M,c4,rfl⟩:=aC.mp c3;unfold Jv Gu at c2;simp only[Option.bind_some]at c2;obtain⟨b,c5,c6⟩:=aD.mp c2;have Ri:=((R2.inner fr).put n5).L4 (i:=ix);have Ri0:Rw G2 H' G2 H' ((carry fr σ).set ix (some v)) ((Bu fr δ).set ix (.d xs[i])) []:=Ri.less fun q hq=>by cases hq
  refine⟨_,b,G2,H',G2,[],c5,Ri0,fun G3 H3 U=>?_⟩;have R3o:=R2.lift U.ext U.new U.ins U.keep;have hD3:=U.keep _ _ Z;have g3:G3 D=none:=SJ g2 Z U.new U.ins U.keep;dsimp only;split
  .rename_i hb;rw[if_pos hb]at c6;obtain⟨w,c7,rfl⟩:=aC.mp c6;refine⟨_,w,G2,H',G3,[],c7,U,fun u G4 H4 T=>?_⟩;have R4o:=R2.lift T.ext T.new T.ins T.keep;have hD4:=T.keep _ _ Z;have g4:G4 D=none:=SJ g2 Z T.new T.ins T.keep;refine⟨hD4,DZ Y ⟨⟨G4,done++[w],M,R4o.other g4 I g,s1.trans (n1.trans T.ext),g4,c4,by simpa using e1,(d1.same (n1.trans T.ext)).app (.cons (T.Cf _ (.head _)) .nil)⟩,I,g⟩⟩
  .rename_i hb;rw[if_neg hb]at c6;cases c6;exact XS Y hD3 ⟨⟨G3,done,M,R3o,s1.trans (n1.trans U.ext),g3,c4,by simpa using e1,d1.same (n1.trans U.ext)⟩,I,g⟩
 .rintro ys H1 ⟨⟨G1,done,rest,R1,s1,g1,c1,e1,d1⟩,_,_⟩ hD1;refine⟨it.stop H1 (s1.trans R1.ins),?_⟩;rw[List.drop_length]at c1;cases c1;rw[(J5)]at e1;subst e1;exact k _ _ _ _ R1 hD1 g1 I g d1
def cG{U:TI}{ix:Nat}{fr:tW}(ki:∀(δ:Dv) (xs:sx),fs δ=some xs->∀(G0 H0 G H:Hp) (σ:St) (ts:List (PD×V)) (R:It->Hp->Prop),Rw G0 H0 G H σ δ ts->(∀J g H',Rw G0 H0 g H' σ δ ts->Kq J xs g->R J H')->U σ H R){δ:Dv}{z:PD}(hz:Gk (Gu ix) tif f fr fs δ=some z){G0 H0 G H:Hp}{σ:St}{ts:List (PD×V)}{Q:VK}(R0:Rw G0 H0 G H σ δ ts)(k:∀v g H',Rw G0 H0 g H' σ δ ((z,v)::ts)->Q v H'):UC U fr ix (Xl tif) (tD f) σ H Q:=by
 unfold Gk at hz;obtain⟨full,m1,rfl⟩:=aC.mp hz;refine Q5 ki m1 R0 fun D ys Z H1 R1 T Y M I d1=>?_;have e:AJ Z (upd Z D (.lst ys)):=AZ Y _;have R2:=R1.adopt T Y M I;refine k _ _ _ (R2.put ?_);rw[Du];exact⟨D,ys,rfl,AN,d1.same e⟩
def iq(N:tK)(ix:Nat)(fr:tW)(hi:DI X (.Name x px) iter fs)(g:∀cl C s₀ H₀ fp,WX Ch ifs tif)(T:∀cl C s₀ H₀ fp,DE Ch elt f) (h1:Bh scope N x ix=true:=by decide +kernel)(h2:X.calm=true:=by rfl)(Z:FQ N X.N scope X.env.scope fr 0=true:=by rfl)(Y:fr.length=N.length:=by rfl)(U:freeOk X.env.scope scope.names=true:=by rfl) (R:∀x,foldedSetIterable iter X.env x=pure x:=by intro _;rfl):DE X (.ListComp elt [⟨.Name x px,iter,ifs,0⟩] scope pos) (Gk (Gu ix) tif f fr fs):=by
 obtain⟨wi,pi,I⟩:=hi;exact⟨_,Dg N ix fr pi g (fun cl C s₀ H₀ fp=>(T cl C s₀ H₀ fp).pe) h1 h2 Z Y U R,fun δ z M G0 H0 G H σ ts Q R0 k=>cG I M R0 k⟩
end
section
variable{X:Cx}{elt iter:Expr}{x y:Str}{px py tp pos:Pos}{tk:Nat}{ifs:tL}{scope:Scope}{fs:sq}{tif:su}{f:sr}
def PM{wi:TI}{ix iy:Nat}{fr:tW}(ki:∀(δ:Dv) (xs:sx),fs δ=some xs->∀(G0 H0 G H:Hp) (σ:St) (ts:List (PD×V)) (R:It->Hp->Prop),Rw G0 H0 G H σ δ ts->(∀J G' H',Rw G0 H0 G' H' σ δ ts->Kq J xs G'->R J H')->wi σ H R){δ:Dv}{zs:sx}(hz:Cz (Cy ix iy) tif f fr fs δ=some zs){G0 H0 G H:Hp}{σ:St}{ts:List (PD×V)}{Q:VK}(R0:Rw G0 H0 G H σ δ ts)(k:∀D ys G' H',Rw G0 H0 G' H' σ δ ts->H' D=some (.lst ys)->G' D=none->H0 D=none->(∀(j:Nat) (us:Oc),δ[j]? = some (L.own us)->σ[j]?≠some (some (V.ref D)))->Aq G' zs ys->Q (.ref D) H'):MP X.K wi fr ix iy (Xl tif) (tD f) σ H Q:=by
 unfold Cz at hz;obtain⟨xs,m2,m3⟩:=aD.mp hz;obtain⟨full,m4,m5⟩:=aD.mp m3;obtain⟨rfl,hfew⟩:=Np m5;refine ki δ xs m2 G0 H0 G H σ ts _ R0 fun J Ga Ha Ra it D hD=>?_;have hGD:Ga D=none:=by
  cases q:Ga D with
  |none=>rfl
  |some u=>rw[Ra.ins _ _ q]at hD;cases hD
 have I:H0 D=none:=by
  cases q:H0 D with
  |none=>rfl
  |some u=>rw[Ra.keep _ _ q]at hD;cases hD
 have g:∀(j:Nat) (us:Oc),δ[j]? = some (L.own us)->σ[j]?≠some (some (V.ref D)):=fun j us h z=>by
  obtain⟨a,ys,k1,k2,k3,k4,k5⟩:=Ra.own j us h;rw[z]at k1;cases k1;rw[k4]at hD;cases hD
 refine QR (n:=xs.length) (Xk G0 H0 Ga σ δ ts (Jv (Cy ix iy) tif f (Bu fr δ)) xs full D) ⟨⟨Ga,[],full,Ra.other hGD I g,AJ.refl _,hGD,by simpa using m4,rfl,.nil⟩,I,g⟩ ?_ ?_
 .rintro i ys H1 Y ⟨⟨G1,done,rest,R1,s1,g1,c1,e1,d1⟩,_,_⟩ hD1;have hx:xs[i]? = some xs[i]:=by simp[Y]
  have sH:=s1.trans R1.ins;have hyl:ys.length<sizeLine:=SH (by
   rw[d1.len];have:done.length<=full.length:=by rw[<-e1];simp
   lia)
  refine⟨it.go i _ H1 hx sH,hyl,fun v H' y=>?_⟩;obtain⟨G2,n1,n2,n3,n4,n5⟩:=it.EU i _ H1 v H' hx sH y G1 s1 R1.ins;have R2:=R1.lift n1 n2 n3 n4;have Z:=n4 _ _ hD1;have g2:G2 D=none:=SJ g1 hD1 n2 n3 n4;rw[List.drop_eq_getElem_cons Y]at c1;unfold collect at c1;obtain⟨o,c2,c3⟩:=aD.mp c1;obtain⟨M,c4,rfl⟩:=aC.mp c3;unfold Jv at c2;obtain⟨δ1,c8,c9⟩:=aD.mp c2;obtain⟨b,c5,c6⟩:=aD.mp c9;unfold Cy at c8;split at c8
  .rename_i u1 u2 hu;cases c8;rw[hu,Du]at n5;obtain⟨pa,ps,rfl,q1,q2⟩:=n5;obtain⟨w1,w2,rfl,q3,q4⟩:=q2.Ln;have Ri:=(((R2.inner fr).put q4).put q3).L4 (i:=ix) |>.L4 (i:=iy)
   have Ri0:Rw G2 H' G2 H' (((carry fr σ).set ix (some w1)).set iy (some w2)) (((Bu fr δ).set ix (.d u1)).set iy (.d u2)) []:=Ri.less fun q hq=>by cases hq
   refine⟨pa,w1,w2,rfl,Ax.of (n3 _ _ q1),?_⟩;refine⟨_,b,G2,H',G2,[],c5,Ri0,fun G3 H3 U=>?_⟩;have R3o:=R2.lift U.ext U.new U.ins U.keep;have hD3:=U.keep _ _ Z;have g3:G3 D=none:=SJ g2 Z U.new U.ins U.keep;dsimp only;split
   .rename_i hb;rw[if_pos hb]at c6;obtain⟨w,c7,rfl⟩:=aC.mp c6;refine⟨_,w,G2,H',G3,[],c7,U,fun u G4 H4 T=>?_⟩;have R4o:=R2.lift T.ext T.new T.ins T.keep;have hD4:=T.keep _ _ Z;have g4:G4 D=none:=SJ g2 Z T.new T.ins T.keep;refine⟨hD4,DZ Y ⟨⟨G4,done++[w],M,R4o.other g4 I g,s1.trans (n1.trans T.ext),g4,c4,by simpa using e1,(d1.same (n1.trans T.ext)).app (.cons (T.Cf _ (.head _)) .nil)⟩,I,g⟩⟩
   .rename_i hb;rw[if_neg hb]at c6;cases c6;exact XS Y hD3 ⟨⟨G3,done,M,R3o,s1.trans (n1.trans U.ext),g3,c4,by simpa using e1,d1.same (n1.trans U.ext)⟩,I,g⟩
  .cases c8
 .rintro ys H1 ⟨⟨G1,done,rest,R1,s1,g1,c1,e1,d1⟩,_,_⟩ hD1;refine⟨it.stop H1 (s1.trans R1.ins),?_⟩;rw[List.drop_length]at c1;cases c1;rw[(J5)]at e1;subst e1;exact k _ _ _ _ R1 hD1 g1 I g d1
def Qv{U:TI}{ix Y:Nat}{fr:tW}(ki:∀(δ:Dv) (xs:sx),fs δ=some xs->∀(G0 H0 G H:Hp) (σ:St) (ts:List (PD×V)) (R:It->Hp->Prop),Rw G0 H0 G H σ δ ts->(∀J g H',Rw G0 H0 g H' σ δ ts->Kq J xs g->R J H')->U σ H R){δ:Dv}{z:PD}(hz:Gk (Cy ix Y) tif f fr fs δ=some z){G0 H0 G H:Hp}{σ:St}{ts:List (PD×V)}{Q:VK}(R0:Rw G0 H0 G H σ δ ts)(k:∀v g H',Rw G0 H0 g H' σ δ ((z,v)::ts)->Q v H'):MP X.K U fr ix Y (Xl tif) (tD f) σ H Q:=by
 unfold Gk at hz;obtain⟨full,m1,rfl⟩:=aC.mp hz;refine PM ki m1 R0 fun D ys G1 H1 R1 T Z M I d1=>?_;have e:AJ G1 (upd G1 D (.lst ys)):=AZ Z _;have R2:=R1.adopt T Z M I;refine k _ _ _ (R2.put ?_);rw[Du];exact⟨D,ys,rfl,AN,d1.same e⟩
def gM(N:tK)(ix g:Nat)(fr:tW)(hi:DI X (.Tuple [.Name x px,.Name y py] tk tp) iter fs)(M:∀cl C s₀ H₀ fp,WX Ch ifs tif)(Z:∀cl C s₀ H₀ fp,DE Ch elt f) (h1:Bh scope N x ix=true:=by decide +kernel)(R:Bh scope N y g=true:=by decide +kernel)(I:ix≠g:=by decide)(h2:X.calm=true:=by rfl)(h3:FQ N X.N scope X.env.scope fr 0=true:=by rfl)(h4:fr.length=N.length:=by rfl)(h5:freeOk X.env.scope scope.names=true:=by rfl) (Y:∀x,foldedSetIterable iter X.env x=pure x:=by intro _;rfl):DE X Ft (Gk (Cy ix g) tif f fr fs):=by
 obtain⟨wi,pi,T⟩:=hi;exact⟨_,Lk N ix g fr pi M (fun cl C s₀ H₀ fp=>(Z cl C s₀ H₀ fp).pe) h1 R I h2 h3 h4 h5 Y,fun δ z U G0 H0 G H σ ts Q R0 k=>Qv T U R0 k⟩
def XD{i:Nat}{z:Str}{pz g:Pos}(N:tK)(ix I:Nat)(fr:tW)(hN:X.N.Nodup)(M:X.N[i]? = some z)(Y:X.env.scope.names.lookup z=some .local)(hi:DI X (.Tuple [.Name x px,.Name y py] tk tp) iter fs)(Z:∀cl C s₀ H₀ fp,WX Ch ifs tif)(he:∀cl C s₀ H₀ fp,DE Ch elt f) (h1:Bh scope N x ix=true:=by decide +kernel)(h1':Bh scope N y I=true:=by decide +kernel)(T:ix≠I:=by decide)(h2:X.calm=true:=by rfl)(h3:FQ N X.N scope X.env.scope fr 0=true:=by rfl)(h4:fr.length=N.length:=by rfl)(h5:freeOk X.env.scope scope.names=true:=by rfl) (U:swapsWith Ft (some (.Name z pz)) g.line X.env=pure true:=by rfl) (hs:∀x,foldedSetIterable iter X.env x=pure x:=by intro _;rfl):DS X (.Assign [.Name z pz] Ft g) (fun δ=>(Gk (Cy ix I) tif f fr fs δ).map fun y=>.nx (δ.set i (.d y))):=by
 obtain⟨wi,pi,ki⟩:=hi;refine⟨_,Ue N ix I fr hN M Y pi Z (fun cl C s₀ H₀ fp=>(he cl C s₀ H₀ fp).pe) h1 h1' T h2 h3 h4 h5 U hs,fun δ r h G0 H0 G H σ D R q=>?_⟩;obtain⟨y2,m1,rfl⟩:=aC.mp h;exact Qv ki m1 R fun v G' H' R'=>q _ _ _ R'.L4
def J8(N:tK)(ds:sx):Dv:=ds.map .d++List.replicate (N.length-ds.length) .no
def Ds(ps N:tK)(F:DF)(ds:sx):tG:=if ds.length=ps.length then(match F (J8 N ds) with
 |some (.rt x)=>some x
 |some (.nx _)=>some .none
 |some (.rn xs)=>some (.list xs)
 |_=>none) else none
theorem Rw.start{N:tK}{ds:sx}{vs:tR}{G H:Hp}(d:Aq G ds vs)(e:AJ G H):Rw G H G H (start N vs) (J8 N ds) []:=by
 have R:=d.len;refine⟨AJ.refl _,Nw.refl,e,AJ.refl _,by simp[L2.start,J8,R],fun i x h=>?_,fun i xs h=>?_,fun i j xs ys _ h=>?_,fun q M=>by cases M⟩
 .unfold J8 at h;by_cases hi:i<ds.length
  .rw[List.getElem?_append_left (by simpa using hi),(BP)]at h;obtain⟨y,I,g⟩:=aC.mp h;cases g;obtain⟨v,U,T⟩:=d.get I;refine⟨v,?_,T⟩;unfold L2.start;rw[List.getElem?_append_left (by simp;lia),(BP),U];rfl
  .rw[List.getElem?_append_right (by simpa using hi),List.getElem?_replicate]at h;split at h<;>cases h
 .unfold J8 at h;by_cases hi:i<ds.length
  .rw[List.getElem?_append_left (by simpa using hi),(BP)]at h;obtain⟨y,I,g⟩:=aC.mp h;cases g
  .rw[List.getElem?_append_right (by simpa using hi),List.getElem?_replicate]at h;split at h<;>cases h
 .unfold J8 at h;by_cases hi:i<ds.length
  .rw[List.getElem?_append_left (by simpa using hi),(BP)]at h;obtain⟨y,I,g⟩:=aC.mp h;cases g
  .rw[List.getElem?_append_right (by simpa using hi),List.getElem?_replicate]at h;split at h<;>cases h
def ic{G H g H':Hp}{a:AD}{ys:tR}{xs:sx}(m1:AJ G g)(Z:Nw G H g)(Y:AJ g H')(U:H a=none)(M:g a=none)(T:H' a=some (.lst ys))(R:Aq g xs ys):AJ G (upd g a (.lst ys))/\Nw G H (upd g a (.lst ys))/\AJ (upd g a (.lst ys)) H'/\Du (upd g a (.lst ys)) (.list xs) (.ref a):=by
 refine⟨m1.trans (AZ M _),fun b o I=>?_,fun b o I=>?_,?_⟩
 .by_cases z:b=a
  .subst z;exact .inr (.inl U)
  .rw[AK z]at I;exact Z _ _ I
 .by_cases z:b=a
  .subst z;rw[AN]at I;rw[T];exact I
  .rw[AK z]at I;exact Y _ _ I
 .rw[Du];exact⟨a,ys,rfl,AN,R.same (AZ M _)⟩
def Jl{P:F0b}{w:F0c}{K:Fg}{mg:tF}{base:Heap}{x:Str}{st:Stmt}{U:AD}{fd:F0a}{N ps:tK}{k:Nat}{F:DF}(T:Fn K mg x st ps U fd)(S:Ad N ps (AO st)) (hb:∀(cdv:VL) (A:F0d) (outer:tV) (s:SD) (H:Hp) (E:XK),CS k (A.deeper (envOfC x (AO st) s.heap.objs.size U cdv))->Pl (CV Ag P w K mg base N x (AO st) U cdv A outer s H E).KJ (DY st) F):AI P w K mg base Ag (k+1) U fd ps (BI (Ds ps N F)):=by
 refine T.F.ok S Do fun cdv A outer s H vs Q E hr h=>?_
 .obtain⟨ds,y,G,g,I,_⟩:=h;unfold Ds at g;split at g
  .rename_i hl;rw[I.len];exact hl
  .cases g
 .obtain⟨ds,y,G,g,I,h3,h4⟩:=h;obtain⟨t,p,kk⟩:=hb cdv A outer s H E hr;refine⟨t,p,?_⟩;unfold Ds at g;split at g
  .split at g
   .rename_i z M;cases g;exact kk _ _ M G H G H _ _ (Rw.start I h3) fun v Y H' m1 m2 m3 m4 Z=>h4 v Y H' m1 m2 m3 m4 Z
   .rename_i δ M;cases g;exact kk _ _ M G H G H _ _ (Rw.start I h3) fun σ' Y H' R=>h4 .Bf Y H' R.ext R.new R.ins R.keep (by rw[Du])
   .rename_i xs M;cases g;exact kk _ _ M G H G H _ _ (Rw.start I h3) fun a ys Y H' m1 m2 m3 m4 Z m6 m7 m8=>let⟨n1,n2,n3,n4⟩:=ic m1 m2 m3 Z m6 m7 m8;h4 _ _ H' n1 n2 n3 m4 n4
   .cases g
  .cases g
end
section
variable{X:Cx}{a e:Expr}{f h:sr}{pos p p2:Pos}   
def DO(X:Cx)(o:Option Expr)(f:Dv->Option tN):Prop:=∃t,PO X o t/\∀δ x,f δ=some x->∀G0 H0 G H σ ts (Q:Option Int->Hp->Prop),Rw G0 H0 G H σ δ ts->(∀g H',Rw G0 H0 g H' σ δ ts->Q x H')->t σ H Q
variable{fo fu:Dv->Option tN}{lo hi:Option Expr}
def O2:DO X none (fun _=>some none):=⟨_,O6,fun δ x h G0 H0 G H σ ts Q r k=>by cases h;exact k _ _ r⟩
def Oo(M:DE X e f):DO X (some e) (fun δ=>(f δ).bind fun x=>(gw x).map some):=by
 obtain⟨t,p,k⟩:=M;refine⟨_,Og p,fun δ z h G0 H0 G H σ ts Q r q=>?_⟩;obtain⟨x,U,T⟩:=aD.mp h;obtain⟨i,R,rfl⟩:=aC.mp T;have:=lG R;subst this;refine k δ _ U G0 H0 G H σ ts _ r fun v Y H' I=>?_;have g:=I.Cf _ (.head _);rw[Du]at g;exact⟨i,g,q _ _ I.drop⟩
def cutD(xs:sx)(lo hi:tN):sx:=(xs.drop (HT.BH xs.length 0 lo)).take (HT.BH xs.length xs.length hi-HT.BH xs.length 0 lo)
def Aq.cut{H:Hp}{ds:sx}{xs:tR}(h:Aq H ds xs)(lo hi:tN):Aq H (cutD ds lo hi) (EF xs lo hi):=by
 unfold cutD EF;rw[h.len];exact(h.drop _).take _
def QL(x:PD)(lo hi:tN):tG:=match x with
 |.list xs=>some (.list (cutD xs lo hi))
 |.tuple xs=>if ¬(HT.BH xs.length 0 lo=0/\HT.BH xs.length xs.length hi=xs.length) then some (.tuple (cutD xs lo hi)) else none
 |_=>none
def Mr(he:DE X e f)(hl:DO X lo fo)(hh:DO X hi fu):DE X (.Subscript e (.Slice lo hi none p2) pos) (fun δ=>(f δ).bind fun x=>(fo δ).bind fun l=>(fu δ).bind fun u=>QL x l u):=by
 obtain⟨te,pe,ke⟩:=he;obtain⟨tl,T,Y⟩:=hl;obtain⟨th,U,Z⟩:=hh;refine⟨_,Mx (R5.or cN) pe T U,fun δ z hz G0 H0 G H σ ts Q R0 k=>?_⟩;obtain⟨x,h1,h2⟩:=aD.mp hz;obtain⟨l,h3,h4⟩:=aD.mp h2;obtain⟨u,h5,g⟩:=aD.mp h4;refine ke δ x h1 G0 H0 G H σ ts _ R0 fun v G1 H1 R1=>?_;refine Y δ l h3 G0 H0 G1 H1 σ _ _ R1 fun G2 H2 R2=>?_;refine Z δ u h5 G0 H0 G2 H2 σ _ _ R2 fun G3 H3 I=>?_;have du:=I.Cf _ (.head _);unfold QL at g;split at g
 .cases g;rw[Du]at du;obtain⟨a,ys,rfl,n1,M⟩:=du;exact .inl ⟨a,ys,rfl,Aj.of (I.ins _ _ n1),fun q R=>k _ _ _ (I.drop.mR (M.cut l u) R)⟩
 .split at g
  .rename_i hc;cases g;rw[Du]at du;obtain⟨a,ys,rfl,n1,M⟩:=du;exact .inr ⟨a,ys,rfl,Ax.of (I.ins _ _ n1),by rw[M.len];exact hc,fun q R=>k _ _ _ (I.drop.ff (M.cut l u) R)⟩
  .cases g
 .cases g
def VN:List PD->Option (List Int)
 |[]=>some []
 |.int i::r=>(VN r).map fun l=>i::l
 |_::_=>none
def Aq.ints{H:Hp}:∀ {ds:List PD} {xs:List V} {ns:List Int},Aq H ds xs->VN ds=some ns->xs=ns.map V.int
 |[],xs,ns,h,e=>by cases e;rw[h.nil_eq];rfl
 |.int i::r,xs,ns,h,e=>by
  unfold VN at e;obtain⟨l,M,rfl⟩:=aC.mp e;obtain⟨x,q,rfl,g,I⟩:=h.un;rw[Du]at g;subst g;rw[(BA),I.ints M]
 |.none::_,_,_,_,e=>by cases e
 |.bool _::_,_,_,_,e=>by cases e
 |.str _::_,_,_,_,e=>by cases e
 |.tuple _::_,_,_,_,e=>by cases e
 |.list _::_,_,_,_,e=>by cases e
 |.dict _::_,_,_,_,e=>by cases e
def gK:MD
 |[.list xs]=>(VN xs).map fun ns=>.int ns.sum
 |[.tuple xs]=>(VN xs).map fun ns=>.int ns.sum
 |_=>none
def ma(U:X.calm=true):Qs X (.builtin "sum") gK:=by
 refine⟨_,(Vr U).or (OW U),fun xs z g G0 H0 G H σ δ ts us Q I d k=>?_⟩;unfold gK at g;split at g
 .obtain⟨ns,T,rfl⟩:=aC.mp g;obtain⟨u,rfl,du⟩:=d.Lv;rw[Du]at du;obtain⟨q,ys,rfl,R,M⟩:=du;refine .inl ⟨q,ns,rfl,by rw[<-M.ints T];exact Aj.of (I.ins _ _ R),k _ _ _ (I.put (by rw[Du]))⟩
 .obtain⟨ns,T,rfl⟩:=aC.mp g;obtain⟨u,rfl,du⟩:=d.Lv;rw[Du]at du;obtain⟨q,ys,rfl,R,M⟩:=du;refine .inr ⟨q,ns,rfl,by rw[<-M.ints T];exact Ax.of (I.ins _ _ R),k _ _ _ (I.put (by rw[Du]))⟩
 .cases g
end
open PySem
abbrev fC(x:PD):Dv->Option PD:=fun _=>some x
abbrev mU(f g:Dv->Option PD):Dv->Option PD:=fun δ=>(f δ).bind fun x=>(PJ x).bind fun c=>if c=true then g δ else some (.bool false)
abbrev AL:Dv->Option (List PD):=fun _=>some []
abbrev AB(f:Dv->Option PD)(fs:Dv->Option (List PD)):Dv->Option (List PD):=fun δ=>(f δ).bind fun x=>(fs δ).map fun xs=>x::xs
abbrev BW(fs:Dv->Option (List PD)):Dv->Option PD:=fun δ=>((fs δ).bind B2).map .tuple
abbrev CH(fs:Dv->Option (List PD)):Dv->Option PD:=fun δ=>((fs δ).bind B2).map .list
abbrev Ae(m:MD)(fs:Dv->Option (List PD)):Dv->Option PD:=fun δ=>(fs δ).bind m
abbrev q8(q:PD->Bool)(f:Dv->Option PD):Dv->Option PD:=fun δ=>(f δ).bind (Yq q)
abbrev KW:Dv->Option (Option Int):=fun _=>some none
abbrev Km(f:Dv->Option PD):Dv->Option (Option Int):=fun δ=>(f δ).bind fun x=>(gw x).map some
abbrev Mi(f:Dv->Option PD)(I g:Dv->Option (Option Int)):Dv->Option PD:=fun δ=>(f δ).bind fun x=>(I δ).bind fun l=>(g δ).bind fun u=>QL x l u
abbrev OL(f:Dv->Option PD):Dv->Option Bool:=fun δ=>(f δ).bind PJ
abbrev Cn(o:PD->PD->Option PD)(f g:Dv->Option PD):Dv->Option Bool:=fun δ=>(Ap o f g δ).bind PJ
abbrev Rj(f:Dv->Option Bool):Dv->Option Bool:=fun δ=>(f δ).map fun c=>!c
abbrev YU(f g:Dv->Option Bool):Dv->Option Bool:=fun δ=>(f δ).bind fun c=>if c=true then g δ else some false
abbrev VE(f g:Dv->Option Bool):Dv->Option Bool:=fun δ=>(f δ).bind fun c=>if c=true then some true else g δ
abbrev GD(f:Dv->Option PD):Dv->Option (List PD):=fun δ=>(f δ).bind NC
abbrev Hz(m:List PD->Option (List PD))(fs:Dv->Option (List PD)):Dv->Option (List PD):=fun δ=>(fs δ).bind m
abbrev IG:Dv->Option Bool:=fun _=>some true
abbrev fj(i:Nat):PD->Dv->Option Dv:=fun y δ=>some (δ.set i (.d y))
abbrev EZ:DF:=fun δ=>some (.nx δ)
abbrev C9(f:Dv->Option PD):DF:=fun δ=>(f δ).map .rt
abbrev IL(c:Dv->Option Bool)(F G:DF):DF:=fun δ=>(c δ).bind fun c=>if c=true then F δ else G δ
abbrev B6(i:Nat)(f:Dv->Option PD):DF:=fun δ=>(f δ).map fun y=>.nx (δ.set i (.d y))
abbrev rk(i:Nat)(fs:Dv->Option (List PD)):DF:=fun δ=>((fs δ).bind B2).map fun ys=>.nx (δ.set i (.own (.lst ys)))
abbrev nW(i:Nat)(f:Dv->Option PD):DF:=fun δ=>(f δ).bind fun y=>(ow i δ).bind fun xs=>if xs.length<DH then some (.nx (δ.set i (.own (.lst (xs++[y]))))) else none
abbrev IE(fs:Dv->Option (List PD))(set:PD->Dv->Option Dv)(F:DF):DF:=fun δ=>(fs δ).bind fun xs=>MG set F xs δ
abbrev qe(i:Nat)(F:DF):DF:=fun δ=>F (Fe i δ)
abbrev oE:DF:=fun δ=>some (.ct δ)
def Jf{P:F0b}{w:F0c}{K:Fg}{mg:tF}{base:Heap}{CX:GL}{k:Nat}{f:AD}{fd:F0a}{ps:tK}{sp:Sp}(h:∀vs H Q E,¬sp vs H Q E):AI P w K mg base CX k f fd ps sp :=
 ⟨fun _ _ _ _ z=>(h _ _ _ _ z).elim,fun _ _ _ _ _ _ _ _ _ _ _ _ _ z=>(h _ _ _ _ z).elim⟩
def Rl{P:F0b}{w:F0c}{K:Fg}{mg:tF}{base:Heap}{CX:GL}{k:Nat}{f:AD}{fd:F0a}{ps:tK}{sp:Sp}{m:MD}(F:AI P w K mg base CX k f fd ps sp) (h:∀ds x,m ds=some x->∀(G H:Hp) (vs:tR) (Q:VK) (E:XK),Aq G ds vs->AJ G H->(∀v g H',AJ G g->Nw G H g->AJ g H'->AJ H H'->Du g x v->Q v H')->sp vs H Q E):AI P w K mg base CX k f fd ps (BI m) :=
 F.imp fun vs H Q E z=>by
  obtain⟨ds,x,G,T,R,M,I⟩:=z;exact h ds x T G H vs Q E R M I
theorem U0{G:Hp}:∀ {t:Tr} {xs:List V},Aq G (K3 t) xs->Ts G t xs
 |.nil,xs,h=>by rw[K3]at h;rw[Ts];exact h.nil_eq
 |.cons b r,xs,h=>by
  rw[K3]at h;obtain⟨x,q,rfl,g,R⟩:=h.un;rw[Du]at g;obtain⟨a,ys,rfl,M,I⟩:=g;rw[Ts];exact⟨a,ys,q,rfl,M,U0 I,U0 R⟩
mutual
theorem WD:∀ {ds:List PD} {t:Tr},Qo ds=some t->ds=K3 t
 |[],t,h=>by rw[Qo]at h;cases h;rw[K3]
 |d::ds,t,h=>by
  rw[Qo]at h;obtain⟨b,M,I⟩:=aD.mp h;obtain⟨r,g,rfl⟩:=aC.mp I;rw[K3,<-i7 M,<-WD g]
theorem i7:∀ {d:PD} {t:Tr},He d=some t->d=.tuple (K3 t)
 |.tuple g,t,h=>by rw[He]at h;rw[WD h]
 |.none,_,h=>by simp[He]at h
 |.bool _,_,h=>by simp[He]at h
 |.int _,_,h=>by simp[He]at h
 |.str _,_,h=>by simp[He]at h
 |.list _,_,h=>by simp[He]at h
 |.dict _,_,h=>by simp[He]at h
end
section
variable{G0 H0 G H:Hp}{σ:St}{δ:Dv}{ts:List (PD×V)}
def Rw.on{H':Hp}(r:Rw G0 H0 G H σ δ ts)(e:AJ H H'):Rw G0 H0 G H' σ δ ts:=r.lift (AJ.refl _) Nw.refl (r.ins.trans e) e
end
section
variable{F F1 F2:DF}{δ δ':Dv}{r:Option Ou}{c:su}{f g:sr}{fs:sq}
def Av(h:F1 δ=some (.nx δ'))(k:F2 δ'=r):BF F1 F2 δ=r:=by unfold BF;rw[h];exact k
def RZ{x:PD}(h:F1 δ=some (.rt x)):BF F1 F2 δ=some (.rt x):=by unfold BF;rw[h]
def Q2(h:c δ=some true)(k:F1 δ=r):IL c F1 F2 δ=r:=by show(c δ).bind _=r;rw[h];exact k
def ID(h:c δ=some false)(k:F2 δ=r):IL c F1 F2 δ=r:=by show(c δ).bind _=r;rw[h];exact k
def Ck{i:Nat}{y:PD}(h:f δ=some y):B6 i f δ=some (.nx (δ.set i (.d y))):=by show(f δ).map _=_;rw[h];rfl
def E6{y:PD}(h:f δ=some y):C9 f δ=some (.rt y):=by show(f δ).map _=_;rw[h];rfl
def A4{o:PD->PD->Option PD}{x y:PD}{z:tG}(h1:f δ=some x)(M:g δ=some y)(I:o x y=z):Ap o f g δ=z:=by unfold Ap;rw[h1,M];exact I
def Ac{m:MD}{xs:sx}{z:tG}(h1:fs δ=some xs)(I:m xs=z):Ae m fs δ=z:=by show(fs δ).bind m=z;rw[h1];exact I
def Ab{x:PD}{xs:sx}(h1:f δ=some x)(I:fs δ=some xs):AB f fs δ=some (x::xs):=by show(f δ).bind _=_;rw[h1];show(fs δ).map _=_;rw[I];rfl
def Xs{xs:sx}(h:fs δ=some xs)(I:xs.length<=DH):CH fs δ=some (.list xs):=by show((fs δ).bind B2).map _=_;rw[h];show(B2 xs).map _=_;unfold B2;rw[if_pos I];rfl
def Gj{xs:sx}(h:fs δ=some xs)(I:xs.length<=DH):BW fs δ=some (.tuple xs):=by show((fs δ).bind B2).map _=_;rw[h];show(B2 xs).map _=_;unfold B2;rw[if_pos I];rfl
def Cb{o:PD->PD->Option PD}{x y:PD}{b:Bool}(h1:f δ=some x)(M:g δ=some y)(I:o x y=some (.bool b)):Cn o f g δ=some b:=by show(Ap o f g δ).bind PJ=_;rw[A4 h1 M I];rfl
def RJ{a b:su}{q:Option Bool}(h:a δ=some false)(k:b δ=q):VE a b δ=q:=by show(a δ).bind _=q;rw[h];exact k
def p7{a b:su}(h:a δ=some true):VE a b δ=some true:=by show(a δ).bind _=_;rw[h];rfl
def JJ{a:su}{b:Bool}(h:a δ=some b):Rj a δ=some (!b):=by show(a δ).map _=_;rw[h];rfl
def JD{b:Bool}(h:f δ=some (.bool b)):OL f δ=some b:=by show(f δ).bind PJ=_;rw[h];rfl
theorem Uv{set:PD->Dv->Option Dv}(R:Nat->Dv->Prop):∀(xs:List PD) (δ:Dv) (n:Nat),R n δ->(∀(i:Nat) (x:PD) (δ:Dv),xs[i]? = some x->R (n+i) δ->∃M I,set x δ=some M/\F M=some (.nx I)/\R (n+i+1) I) ->
  ∃δ',MG set F xs δ=some (.nx δ')/\R (n+xs.length) δ'
 |[],δ,n,h,_=>⟨δ,rfl,h⟩
 |x::xs,δ,n,h,k=>by
  obtain⟨M,I,h1,h2,h3⟩:=k 0 x δ rfl h;obtain⟨δ',Z,Y⟩:=Uv R xs I (n+1) h3 fun i y δ T U=>by
   have:=k (i+1) y δ (by simpa using T) (by rw[show n+(i+1)=n+1+i by lia];exact U);rw[show n+(i+1)+1=n+1+i+1 by lia]at this;exact this
  refine⟨δ',?_,by rw[(GU),show n+(xs.length+1)=n+1+xs.length by lia];exact Y⟩;unfold MG;rw[h1,(Fz),h2];exact Z
def Vi{set:PD->Dv->Option Dv}{xs:sx}(R:Nat->Dv->Prop)(T:fs δ=some xs)(h0:R 0 δ)(Y:∀(i:Nat) (x:PD) (δ:Dv),xs[i]? = some x->R i δ->∃M I,set x δ=some M/\F M=some (.nx I)/\R (i+1) I):∃δ',IE fs set F δ=some (.nx δ')/\R xs.length δ':=by
 obtain⟨δ',h1,Z⟩:=Uv (F:=F) (set:=set) R xs δ 0 h0 fun i x δ T U=>by
  have:=Y i x δ T (by simpa using U)
  simpa using this
 refine⟨δ',?_,by simpa using Z⟩;show(fs δ).bind _=_;rw[T];exact h1
theorem PU{one:PD->Option (Option PD)}{g:PD->PD}:∀ {xs:List PD},(∀x∈xs,one x=some (some (g x)))->collect one xs=some (xs.map g)
 |[],_=>rfl
 |x::xs,h=>by
  unfold collect;rw[h x (.head _),(Fz),PU fun y I=>h y (.tail _ I)]
  rfl
def comp_map{ix:Nat}{fr:tW}{xs:sx}{g:PD->PD}(I:fs δ=some xs)(M:xs.length<=DH)(h:∀x∈xs,f ((Bu fr δ).set ix (.d x))=some (g x)):Gk (Gu ix) IG f fr fs δ=some (.list (xs.map g)):=by
 unfold Gk Cz;rw[I,(Fz),PU (g:=g) fun x I=>?_,(Fz),B2,if_pos (by rw[(Af)];exact M)]
 .rfl
 .unfold Jv Gu;rw[(Fz)];show(some true).bind _=_;rw[(Fz),if_pos rfl,h x I]
  rfl
end
def DN{ps N:tK}{F:DF}{ds:sx}{x:PD}(g:ds.length=ps.length)(h:F (J8 N ds)=some (.rt x)):Ds ps N F ds=some x:=by unfold Ds;rw[if_pos g,h]
def jk{lo:Int}{n i:Nat}{x:PD}(h:(M9 lo n)[i]? = some x):x=.int (lo+(i:Nat))/\i<n:=by
 unfold M9 at h;rw[(BP)]at h;obtain⟨j,g,rfl⟩:=aC.mp h;have I:=(aB.mp g).1;rw[List.getElem?_range (by simpa using I)]at g;cases g;exact⟨rfl,by simpa using I⟩
def nu{δ:Dv}{f:sr}{j:Int}(h:f δ=some (.int j))(h0:-1000000<=j)(h1:j<=1000000):Hz Rk (AB f AL) δ=some (M9 0 j.toNat):=by
 show(AB f AL δ).bind Rk=_;rw[Ab h (show AL δ=some [] from rfl)];exact if_pos ⟨h0,h1⟩
def OH{n:Nat}{i:Int}(h:i.natAbs<2^n):J0 n i=true:=bL h
def Vk{i j:Int}(h:Mj i j=true):Dw (.int i) (.int j)=some (.int (i*j)):=by
 show KG ZO Uj (.int i) (.int j)=_;unfold KG;rw[show ZO (.int i) (.int j)=some (.int (i*j)) from if_pos h]
def mul_r{i j:Int}(h:j.natAbs<2^64):Dw (.int i) (.int j)=some (.int (i*j)):=Vk (by unfold Mj;rw[OH h];simp)
def Yn{i j:Int}(h:i.natAbs<2^64):Dw (.int i) (.int j)=some (.int (i*j)):=Vk (by unfold Mj;rw[OH h];simp)
def mod_is{i j:Int}(h:0<j):JG (.int i) (.int j)=some (.int (i % j)):=by
 show(if j≠0 then some (PyData.int (i.fmod j)) else none)=_;rw[if_pos AC,Int.fmod_eq_emod_of_nonneg _ AC]
def cK{i:Int}{n:Nat}(hn:n<=1000)(hi:J0 64 i=true):QP (.int i) (.int (n:Int))=some (.int (i^n)):=by
 show(if 0<=(n:Int)/\(n:Int)<=1000/\J0 64 i=true then some (PyData.int (i^(n:Int).toNat)) else none)=_;rw[if_pos ⟨by lia,by lia,hi⟩,(N3)]
def JN(C:AD):PD:=.dict [(.int (C:Nat),.none)]
def ND(ns:tJ):PD:=.dict [(.none,.list (ns.map .int))]
def lj{H:Hp}{a:AD}{ns:tJ}(h:Rd H a (.lst (ns.map V.int))):Du H (ND ns) (.ref a):=by unfold ND;rw[Du];exact .inr (.inl ⟨a,ns,rfl,rfl,h⟩)
def UI(K:Fg):Bool:=K.all fun p=>match p.2.cls with|.type n=>n != "list" |_=>true
theorem Pn{a:AD}{o:Obj}:∀ {K:Fg},K.lookup a=some o->(a,o)∈K
 |[],h=>by cases h
 |(b,u)::K,h=>by
  rw[List.lookup_cons]at h;split at h
  .rename_i e;cases h;rw[show a=b from by simpa using e];exact .head _
  .exact .tail _ (Pn h)
def kF{K:Fg}{H:Hp}{a:AD}{xs:tR}(g:UI K=true)(h:Aj K H a xs):Rd H a (.lst xs):=by
 rcases h with h|⟨o,I,n,R,M,_⟩
 .exact h
 .unfold UI at g;rw[(J6)]at g;have:=g _ (Pn R);rw[M]at this;exact absurd this AS
abbrev Xr:=PD ⊕ AD
abbrev rW:=List PD->Option Xr
def G7(g:rW):Sp:=fun vs H Q E=>∃M r G,g M=some r/\Aq G M vs/\AJ G H/\match r with
 |.inl x=>∀v I H',AJ G I->Nw G H I->AJ I H'->AJ H H'->Du I x v->Q v H'
 |.inr C=>∀H',AJ H H'->E (.ref C) none H'
abbrev gu:=Ou ⊕ AD
abbrev HB:=Dv->Option gu
def nL(G0 H0:Hp)(D:Ends)(E:XK):gu->Prop
 |.inl o=>Fin G0 H0 D o
 |.inr C=>∀H',AJ H0 H'->E (.ref C) none H'
def DX(X:Cx)(E:XK)(st:Stmt)(F:HB):Prop:=∃t,PS X st t/\∀δ r,F δ=some r->∀G0 H0 G H σ D,Rw G0 H0 G H σ δ []->nL G0 H0 D E r->t D σ H
def TQ(X:Cx)(E:XK)(g:tU)(F:HB):Prop:=∃t,Ie X g t/\∀δ r,F δ=some r->∀G0 H0 G H σ D,Rw G0 H0 G H σ δ []->nL G0 H0 D E r->t D σ H
section
variable{X:Cx}{E:XK}{b c e:Expr}{es:tL}{f h:sr}{fs:sq}{fa:su}{pos p:Pos}{st:Stmt}{sts sts':tU}{F:DF}{J J1 J2:HB}
def gT{t:TS}(h:Ie X.KJ sts t):Ie X sts t:=fun pins s σ H D I k=>aY (h pins s σ H D (I.HY _) k) (fun _ _ z=>z.Ey) fun _ _ z=>z.elim
def kS{t:TE}(h:PE X.KJ e t):PE X e t:=fun pins s σ H Q I k=>aY (h pins s σ H Q (I.HY _) k) (fun _ _ ⟨v,H',g,r,q⟩=>⟨v,H',g.Ey,r,q⟩) fun _ _ z=>z.elim
def nh{t:TT}(h:PT X.KJ e t):PT X e t:=fun pins s σ H Q I k=>aY (h pins s σ H Q (I.HY _) k) (fun _ _ ⟨H',g,q⟩=>⟨H',g.Ey,q⟩) fun _ _ z=>z.elim
def lz{t:TA}(h:PA X.KJ es t):PA X es t:=fun p pins s σ H Q I k=>aY (h p pins s σ H Q (I.HY _) k) (fun _ _ ⟨v,H',g,r,q⟩=>⟨v,H',g.Ey,r,q⟩) fun _ _ z=>z.elim
abbrev iY(F:DF):HB:=fun δ=>(F δ).map .inl
def cH(h:Pl X.KJ sts F):TQ X E sts (iY F):=by
 obtain⟨t,p,k⟩:=h;refine⟨t,gT p,fun δ r h G0 H0 G H σ D R q=>?_⟩;obtain⟨o,g,rfl⟩:=aC.mp h;exact k δ o g G0 H0 G H σ D R q
def LK(J1 J2:HB)(δ:Dv):Option gu:=match J1 δ with
 |some (.inl (.nx g))=>J2 g
 |o=>o
def Se:TQ X E [] (fun δ=>some (.inl (.nx δ))):=⟨_,BX,fun δ r h G0 H0 G H σ D R k=>by cases h;exact k _ _ _ R⟩
def JK(h:DX X E st J):TQ X E [st] J:=by
 obtain⟨t,p,k⟩:=h;exact⟨t,AR p,k⟩
def LX(h1:DX X E st J1)(Z:TQ X E sts J2):TQ X E (st::sts) (LK J1 J2):=by
 obtain⟨t1,U,I⟩:=h1;obtain⟨t2,T,Y⟩:=Z;refine⟨_,AM U T,fun δ r h G0 H0 G H σ D R q=>?_⟩;unfold LK at h;split at h
 .rename_i g e1;exact I δ _ e1 G0 H0 G H σ _ R fun M G' H' R'=>Y g r h G0 H0 G' H' M D R' q
 .rename_i o hn;cases r with
  |inr C=>exact I δ _ h G0 H0 G H σ _ R q
  |inl o'=>
   cases o' with
   |nx g=>exact absurd h (hn g)
   |rt x=>exact I δ _ h G0 H0 G H σ _ R q
   |bk x=>exact I δ _ h G0 H0 G H σ _ R q
   |ct x=>exact I δ _ h G0 H0 G H σ _ R q
   |rn x=>exact I δ _ h G0 H0 G H σ _ R q
abbrev YB(c:Dv->Option Bool)(J1 J2:HB):HB:=fun δ=>(c δ).bind fun b=>if b=true then J1 δ else J2 δ
def YV(hc:DT X.KJ c fa)(h1:TQ X E sts J1)(h2:TQ X E sts' J2):DX X E (.If c sts sts' pos) (YB fa J1 J2):=by
 obtain⟨tc,pc,kc⟩:=hc;obtain⟨t1,Z,k1⟩:=h1;obtain⟨t2,Y,k2⟩:=h2;refine⟨_,CO (nh pc) Z Y,fun δ r h G0 H0 G H σ D R q=>?_⟩;obtain⟨b,h3,g⟩:=aD.mp h;refine kc δ _ h3 G0 H0 G H σ [] _ R fun U T M=>?_;split
 .rename_i I;rw[if_pos I]at g;exact k1 δ r g G0 H0 U T σ D M q
 .rename_i I;rw[if_neg I]at g;exact k2 δ r g G0 H0 U T σ D M q
abbrev Q0(C:AD)(f:Dv->Option PD):HB:=fun δ=>(f δ).map fun _=>.inr C
def QE{x:Str}{C:AD}{np cpos:Pos}(T:Exc X.K X.mg x C)(Y:Lets X E)(U:DE X.KJ e f)(g:X.calm=true:=by rfl)(M:Gl X x:=by rfl)(hd:FS=false:=by decide) (I:starEach [e] X.env=[(false,eval e X.env)]:=by rfl):DX X E (.Raise (some (.Call (.Name x np) [e] [] cpos)) none pos) (Q0 C f):=by
 obtain⟨t,p,k⟩:=U;refine⟨_,eP T Y g M (kS p) hd I,fun δ r h G0 H0 G H σ D R q=>?_⟩;obtain⟨y,Z,rfl⟩:=aC.mp h;exact k δ y Z G0 H0 G H σ [] _ R fun v G' H' R'=>q _ R'.keep
def UX{k:Nat}{m:rW}{ta:TA}(Y:∀δ xs,fs δ=some xs->∀G0 H0 G H σ ts (Q:List V->Hp->Prop),Rw G0 H0 G H σ δ ts->(∀vs g H',Rw G0 H0 g H' σ δ (xs.zip vs++ts)->vs.length=xs.length->Q vs H')->ta σ H Q) {δ:Dv}{r:Xr}(hz:(fs δ).bind m=some r){G0 H0 G H:Hp}{σ:St}{Q:VK}{M:XK}(R:Rw G0 H0 G H σ δ [])(U:∀x,r=.inl x->∀v g H',Rw G0 H0 g H' σ δ [(x,v)]->Q v H')(T:∀C,r=.inr C->∀g H',Rw G0 H0 g H' σ δ []->M (.ref C) none H'):ta σ H fun vs I=>G7 m (vs++[]) I Q M:=by
 obtain⟨xs,h1,h2⟩:=aD.mp hz;refine Y δ _ h1 G0 H0 G H σ [] _ R fun vs G1 I R1 Z=>?_;obtain⟨d,R2⟩:=R1.args Z;refine⟨xs,r,G1,h2,by rw[(J5)];exact d,R2.ins,?_⟩;cases r with
 |inl x=>exact fun v g H' h3 h4 h5 h6 h7=>U x rfl _ _ _ ((R2.lift h3 h4 h5 h6).put h7)
 |inr C=>exact fun H' h=>T C rfl _ _ (R2.on h)
section
variable{k:Nat}{fA:AD}{fd:F0a}{ps:tK}{m:rW}{x:Str}{st':Stmt}
abbrev JS(m:List PD->Option Xr)(fs:Dv->Option (List PD))(nx:PD->Dv->Ou):HB:=fun δ=>((fs δ).bind m).map fun r=>match r with
 |.inl x=>.inl (nx x δ)
 |.inr C=>.inr C
def MS(T:Fn X.K X.mg x st' ps fA fd)(F:AI X.prog X.w X.K X.mg X.base (C3 X.prog X.w) k fA fd ps (G7 m))(hr:CS k X.A)(hP:Passes (C3 X.prog X.w) X E)(ha:DA X.KJ (e::es) fs) {g:Pos}(U:∀ {t:TE},PE X Fi t->PS X (.Expr Fi g) (UK t)) (hg:Gl X x:=by rfl)(M:FS=false:=by decide)(he:starEach (e::es) X.env=(false,eval e X.env)::starEach es X.env:=by rfl)(I:(backTo pos (starEach es X.env)).any (·.1)=false:=by rfl):DX X E (.Expr Fi g) (JS m fs fun _ δ=>.nx δ):=by
 obtain⟨ta,Z,ka⟩:=ha;refine⟨_,U (mx T F hr hg hP (lz Z) M he I),fun δ r h G0 H0 G H σ D R q=>?_⟩;obtain⟨z,h1,rfl⟩:=aC.mp h;refine UX (k:=k) ka h1 R (fun x hx v G' H' Y=>?_) (fun C hC G' H' Y=>?_)
 .subst hx;exact q _ _ _ Y.drop
 .subst hC;exact q _ Y.keep
def fU(T:Fn X.K X.mg x st' ps fA fd)(F:AI X.prog X.w X.K X.mg X.base (C3 X.prog X.w) k fA fd ps (G7 m))(Z:CS k X.A)(hP:Passes (C3 X.prog X.w) X E){g:Pos} (M:∀ {t:TE},PE X (.Call (.Name x p) [] [] pos) t->PS X (.Expr (.Call (.Name x p) [] [] pos) g) (UK t))(hg:Gl X x:=by rfl)(I:FS=false:=by decide):DX X E (.Expr (.Call (.Name x p) [] [] pos) g) (JS m AL fun _ δ=>.nx δ):=by
 refine⟨_,M (gc F Z hg T.m T.F.kp T.b .nil hP I),fun δ r h G0 H0 G H σ D R q=>?_⟩;obtain⟨z,h1,rfl⟩:=aC.mp h;refine UX (k:=k) (fs:=AL) (ta:=f7) (fun δ xs h G0 H0 G H σ ts Q R0 k=>by cases h;exact k [] G H (by simpa using R0) rfl) h1 R (fun x Y v G' H' U=>?_) (fun C hC G' H' U=>?_)
 .subst Y;exact q _ _ _ U.drop
 .subst hC;exact q _ U.keep
end
end
def Rw.oX{G0 H0 G H:Hp}{σ:St}{δ:Dv}{ts:List (PD×V)}(k:Nat)(o:Option V)(r:Rw G0 H0 G H σ δ ts):Rw G0 H0 G H (σ.set k o) (δ.set k .no) ts:=by
 have ne:∀(j:Nat) (l:L),l≠.no->(δ.set k .no)[j]? = some l->k≠j/\δ[j]? = some l:=fun j l hl h=>by
  by_cases R:k=j
  .subst R;by_cases hi:k<δ.length
   .rw[List.getElem?_set_self hi]at h;cases h;exact absurd rfl hl
   .rw[List.getElem?_eq_none (by simp;lia)]at h;cases h
  .rw[List.getElem?_set_ne R]at h;exact⟨R,h⟩
 refine⟨r.ext,r.new,r.ins,r.keep,by simp[r.len],fun j y h=>?_,fun j Y h=>?_,fun j l us Z M U T=>?_,r.Cf⟩
 .obtain⟨n,h⟩:=ne j _ BY h;obtain⟨w,I,g⟩:=r.dat j y h;exact⟨w,by rw[List.getElem?_set_ne n];exact I,g⟩
 .obtain⟨n,h⟩:=ne j _ BY h;obtain⟨b,us,I,g⟩:=r.own j Y h;exact⟨b,us,by rw[List.getElem?_set_ne n];exact I,g⟩
 .obtain⟨n1,U⟩:=ne j _ BY U;obtain⟨n2,T⟩:=ne l _ BY T;rw[List.getElem?_set_ne n1,List.getElem?_set_ne n2];exact r.apart j l us Z M U T
section
variable{X:Cx}{a b e:Expr}{es:tL}{f h:sr}{fs:sq}{pos p:Pos}
def kQ(T:E3):PD->Option PD
 |.dict [(.int C,.none)]=>(T C.toNat).map .bool
 |_=>none
abbrev Iu(T:E3)(f:Dv->Option PD):Dv->Option PD:=fun δ=>(f δ).bind (kQ T)
def E7{T:E3}{U:V}{g:Str}{p1 I:Pos}(hk:∀C b,T C=some b->CM X.K C/\PySem.W.kitOne X.K (.ref C) (CT U)=some b)(hn:CT U≠.none)(hg:Gl X "isinstance")(hm:X.mg "isinstance" = none)(hT:PE X (.Name g I) (tC U))(ha:DE X a f) (M:starEach [a,.Name g I] X.env=(false,eval a X.env)::starEach [.Name g I] X.env:=by rfl)(Y:(backTo pos (starEach [.Name g I] X.env)).any (·.1)=false:=by rfl):DE X (.Call (.Name "isinstance" p1) [a,.Name g I] [] pos) (Iu T f):=by
 obtain⟨ta,pa,ka⟩:=ha;refine⟨_,BM dq hg hm af (AE pa (AE hT AQ) M) AS AS M Y,fun δ z hz G0 H0 G H σ ts Q R0 k=>?_⟩;obtain⟨x,h1,R⟩:=aD.mp hz;unfold kQ at R;split at R
 .rename_i C;obtain⟨bb,h3,rfl⟩:=aC.mp R;refine ka δ _ h1 G0 H0 G H σ ts _ R0 fun u G1 H1 R1=>?_;have du:=R1.Cf _ (.head _);rw[Du]at du;rcases du with ⟨ea,C',Z,rfl,h4⟩|⟨_,_,Z,_⟩|z
  rotate_left
  .simp at Z
  .rw[Md]at z;cases z.1
  have:C=(C':Nat):=by simpa using Z
  subst this;obtain⟨k1,k2⟩:=hk _ _ h3;rw[(N3)]at k1 k2;exact⟨ea,C',U,bb,rfl,hn,R1.ins _ _ h4,k1,k2,k _ _ _ (R1.drop.put (by rw[Du]))⟩
 .cases R
abbrev WH(j k:Nat)(m:List PD->Option Xr)(fs:Dv->Option (List PD)):DF:=fun δ=>((fs δ).bind m).map fun r=>match r with
 |.inl _=>.nx δ
 |.inr C=>.nx (((δ.set k (.d (JN C))).set j (.d (JN C))).set k .no)
def dP{Y j k:Nat}{fA:AD}{fd:F0a}{ps:tK}{m:rW}{x:Str}{U:Stmt}{cx z n:Str}{Gx:AD}{pz pn np I g M tp:Pos}(T:Fn X.K X.mg x U ps fA fd)(F:AI X.prog X.w X.K X.mg X.base (C3 X.prog X.w) Y fA fd ps (G7 m))(hr:CS Y X.A)(hg:Gl X x)(ha:DA X.KJ (e::es) fs) (hB:∀ds C,m ds=some (.inr C)->Fx X.K C Gx true) (hP:∀ {t:TX},nK X Fi t->PS X (.Try [.Expr Fi I] [.ExceptHandler (some (.Name cx np)) (some n) [.Assign [.Name z pz] (.Name n pn) g] M] [] [] tp) (cw X.K Gx t j k)) (hdb:FS=false:=by decide)(he:starEach (e::es) X.env=(false,eval e X.env)::starEach es X.env:=by rfl)(Z:(backTo pos (starEach es X.env)).any (·.1)=false:=by rfl):DS X (.Try [.Expr Fi I] [.ExceptHandler (some (.Name cx np)) (some n) [.Assign [.Name z pz] (.Name n pn) g] M] [] [] tp) (WH j k m fs):=by
 obtain⟨ta,pa,ka⟩:=ha;refine⟨_,hP (mV T F hr hg pa hdb he Z),fun δ r h G0 H0 G H σ D R q=>?_⟩;obtain⟨w,h1,rfl⟩:=aC.mp h;have h1':=h1;obtain⟨ds,_,hm⟩:=aD.mp h1';refine UX (k:=Y) ka h1 R (fun x hx v G' H' R'=>?_) (fun C hC G' H' R'=>?_)
 .subst hx;exact q _ _ _ R'.drop
 .subst hC;refine⟨C,rfl,hB ds C hm,fun ea hea=>?_⟩;have R2:=R'.newObj (o:=ME ea (.ref C)) hea;have de:Du (upd G' ea (ME ea (.ref C))) (JN C) (.ref ea):=by unfold JN;rw[Du];exact .inl ⟨ea,C,rfl,rfl,AN⟩
  exact q _ _ _ ((((R2.put de).put de).L4.L4).oX k none)
end
def HW(ps N:tK)(J:HB)(ds:sx):Option Xr:=if ds.length=ps.length then(match J (J8 N ds) with
 |some (.inl (.rt x))=>some (.inl x)
 |some (.inl (.nx _))=>some (.inl .none)
 |some (.inl (.rn xs))=>some (.inl (.list xs))
 |some (.inr C)=>some (.inr C)
 |_=>none) else none
section
variable{P:F0b}{w:F0c}{K:Fg}{mg:tF}{base:Heap}{x:Str}{st:Stmt}{fA:AD}{fd:F0a}{N ps:tK}{k:Nat}
def Yu{qual:Str}{scope:Scope}{R:VL}{A:F0d}{outer:tV}{s:SD}{H:Hp}{E:XK}:Lets (CV (C3 P w) P w K mg base N qual scope fA R A outer s H E) E:=fun _ _ _ _ _ _ _ _ I g M=>jK I g M
def Oi{qual:Str}{scope:Scope}{g:VL}{A:F0d}{outer:tV}{s:SD}{H:Hp}{E:XK}:Passes (C3 P w) (CV (C3 P w) P w K mg base N qual scope fA g A outer s H E) E:=oU fun _ _ _ z=>z
def Xn{J:HB}(T:Fn K mg x st ps fA fd)(S:Ad N ps (AO st)) (hb:∀(cdv:VL) (A:F0d) (outer:tV) (s:SD) (H:Hp) (E:XK),CS k (A.deeper (envOfC x (AO st) s.heap.objs.size fA cdv))->TQ (CV (C3 P w) P w K mg base N x (AO st) fA cdv A outer s H E) E (DY st) J):AI P w K mg base (C3 P w) (k+1) fA fd ps (G7 (HW ps N J)):=by
 refine T.F.sM S Do fun cdv A outer s H vs Q E hr h=>?_
 .obtain⟨ds,y,G,g,M,_⟩:=h;unfold HW at g;split at g
  .rename_i hl;rw[M.len];exact hl
  .cases g
 .obtain⟨ds,y,G,g,M,Z,Y⟩:=h;obtain⟨t,p,U⟩:=hb cdv A outer s H E hr;refine⟨t,p,?_⟩;unfold HW at g;split at g
  .split at g
   .rename_i z I;cases g;exact U _ _ I G H G H _ _ (Rw.start M Z) fun v G' H' m1 m2 m3 m4 m5=>Y v G' H' m1 m2 m3 m4 m5
   .rename_i δ I;cases g;exact U _ _ I G H G H _ _ (Rw.start M Z) fun σ' G' H' R=>Y .Bf G' H' R.ext R.new R.ins R.keep (by rw[Du])
   .rename_i xs I;cases g;exact U _ _ I G H G H _ _ (Rw.start M Z) fun a ys G' H' m1 m2 m3 m4 m5 m6 m7 m8=>let⟨n1,n2,n3,n4⟩:=ic m1 m2 m3 m5 m6 m7 m8;Y _ _ H' n1 n2 n3 m4 n4
   .rename_i C I;cases g;exact U _ _ I G H G H _ _ (Rw.start M Z) Y
   .cases g
  .cases g
end
abbrev Lp(fs:Dv->Option (List PD)):DF:=fun δ=>(fs δ).map .rn
section
variable{X:Cx}{elt iter:Expr}{x y:Str}{px py tp pos spos:Pos}{tk:Nat}{ifs:tL}{scope:Scope}{fs:sq}{tif:su}{f:sr}
def O5(N:tK)(ix:Nat)(fr:tW)(hi:DI X (.Name x px) iter fs)(I:∀cl C s₀ H₀ fp,WX Ch ifs tif)(he:∀cl C s₀ H₀ fp,DE Ch elt f) (h1:Bh scope N x ix=true:=by decide +kernel)(h2:X.calm=true:=by rfl)(h3:FQ N X.N scope X.env.scope fr 0=true:=by rfl)(h4:fr.length=N.length:=by rfl)(h5:freeOk X.env.scope scope.names=true:=by rfl) (Z:∀x,foldedSetIterable iter X.env x=pure x:=by intro _;rfl):DS X (.Return (some (.ListComp elt [⟨.Name x px,iter,ifs,0⟩] scope pos)) spos) (Lp (Cz (Gu ix) tif f fr fs)):=by
 obtain⟨wi,pi,Y⟩:=hi;refine⟨_,Aw (Dg N ix fr pi I (fun cl C s₀ H₀ fp=>(he cl C s₀ H₀ fp).pe) h1 h2 h3 h4 h5 Z),fun δ r h G0 H0 G H σ D R q=>?_⟩;obtain⟨zs,U,rfl⟩:=aC.mp h;exact Q5 Y U R fun D' ys G' H' g n1 T n3 n4 M=>q _ _ _ _ g.ext g.new g.ins g.keep n3 T n1 M
def VX(N:tK)(ix g:Nat)(fr:tW)(hi:DI X (.Tuple [.Name x px,.Name y py] tk tp) iter fs)(T:∀cl C s₀ H₀ fp,WX Ch ifs tif)(he:∀cl C s₀ H₀ fp,DE Ch elt f) (h1:Bh scope N x ix=true:=by decide +kernel)(U:Bh scope N y g=true:=by decide +kernel)(M:ix≠g:=by decide)(h2:X.calm=true:=by rfl)(h3:FQ N X.N scope X.env.scope fr 0=true:=by rfl)(h4:fr.length=N.length:=by rfl)(h5:freeOk X.env.scope scope.names=true:=by rfl) (hs:∀x,foldedSetIterable iter X.env x=pure x:=by intro _;rfl):DS X (.Return (some Ft) spos) (Lp (Cz (Cy ix g) tif f fr fs)):=by
 obtain⟨wi,pi,ki⟩:=hi;refine⟨_,Aw (Lk N ix g fr pi T (fun cl C s₀ H₀ fp=>(he cl C s₀ H₀ fp).pe) h1 U M h2 h3 h4 h5 hs),fun δ r h G0 H0 G H σ D R q=>?_⟩;obtain⟨zs,m1,rfl⟩:=aC.mp h;exact PM ki m1 R fun D' ys G' H' I n1 Z n3 n4 Y=>q _ _ _ _ I.ext I.new I.ins I.keep n3 Z n1 Y
end
section
variable{N ps:tK} 
def Mf{F:DF}{ds xs:sx}(g:ds.length=ps.length)(h:F (J8 N ds)=some (.rn xs)):Ds ps N F ds=some (.list xs):=by unfold Ds;rw[if_pos g,h]
def R9{J:HB}{ds:sx}{δ:Dv}(g:ds.length=ps.length)(h:J (J8 N ds)=some (.inl (.nx δ))):HW ps N J ds=some (.inl .none):=by unfold HW;rw[if_pos g,h]
def YC{J:HB}{ds xs:sx}(g:ds.length=ps.length)(h:J (J8 N ds)=some (.inl (.rn xs))):HW ps N J ds=some (.inl (.list xs)):=by unfold HW;rw[if_pos g,h]
def Fv{J:HB}{ds:sx}{C:AD}(g:ds.length=ps.length)(h:J (J8 N ds)=some (.inr C)):HW ps N J ds=some (.inr C):=by unfold HW;rw[if_pos g,h]
end
section
variable{J1 J2:HB}{δ δ':Dv}{r:Option gu}{c:su}{fs:sq}{m:rW}{ds xs:sx}{f:sr}{fr:tW}{g:PD->PD}
def Gq(h:J1 δ=some (.inl (.nx δ')))(k:J2 δ'=r):LK J1 J2 δ=r:=by unfold LK;rw[h];exact k
def MT{C:AD}(h:J1 δ=some (.inr C)):LK J1 J2 δ=some (.inr C):=by unfold LK;rw[h]
def UA(h:c δ=some true)(k:J1 δ=r):YB c J1 J2 δ=r:=by show(c δ).bind _=r;rw[h];exact k
def Y2(h:c δ=some false)(k:J2 δ=r):YB c J1 J2 δ=r:=by show(c δ).bind _=r;rw[h];exact k
def Fb{nx:PD->Dv->Ou}{y:PD}(h:fs δ=some ds)(k:m ds=some (.inl y)):JS m fs nx δ=some (.inl (nx y δ)):=by show((fs δ).bind m).map _=_;rw[h];show(m ds).map _=_;rw[k];rfl
def Hh{nx:PD->Dv->Ou}{C:AD}(h:fs δ=some ds)(k:m ds=some (.inr C)):JS m fs nx δ=some (.inr C):=by show((fs δ).bind m).map _=_;rw[h];show(m ds).map _=_;rw[k];rfl
def XQ{j k:Nat}{y:PD}(h:fs δ=some ds)(q:m ds=some (.inl y)):WH j k m fs δ=some (.nx δ):=by show((fs δ).bind m).map _=_;rw[h];show(m ds).map _=_;rw[q];rfl
def XO{j k:Nat}{C:AD}(h:fs δ=some ds)(q:m ds=some (.inr C)):WH j k m fs δ=some (.nx (((δ.set k (.d (JN C))).set j (.d (JN C))).set k .no)):=by show((fs δ).bind m).map _=_;rw[h];show(m ds).map _=_;rw[q];rfl
def Sw{ix:Nat}(I:fs δ=some xs)(M:xs.length<=DH)(h:∀x∈xs,f ((Bu fr δ).set ix (.d x))=some (g x)):Cz (Gu ix) IG f fr fs δ=some (xs.map g):=by
 have:=comp_map I M h;unfold Gk at this;obtain⟨ys,T,R⟩:=aC.mp this;cases R;exact T
end
def only(cs:tT)(m:rW)(ds:sx):Option Xr:=match m ds with
 |some (.inr C)=>if C∈cs then some (.inr C) else none
 |r=>r
def XX{cs:tT}{m:rW}{ds:sx}{C:AD}(h:only cs m ds=some (.inr C)):C∈cs:=by
 unfold only at h;split at h
 .split at h
  .rename_i g;cases h;exact g
  .cases h
 .rename_i n;exact absurd h (n C)
def Mh{cs:tT}{m:rW}{ds:sx}{C:AD}(h:m ds=some (.inr C))(g:C∈cs):only cs m ds=some (.inr C):=by unfold only;rw[h];exact if_pos g
def Xc{cs:tT}{m:rW}{ds:sx}{x:PD}(h:m ds=some (.inl x)):only cs m ds=some (.inl x):=by unfold only;rw[h]
def V5{P:F0b}{w:F0c}{K:Fg}{mg:tF}{base:Heap}{CX:GL}{k:Nat}{f:AD}{fd:F0a}{ps:tK}{m:rW}(cs:tT)(F:AI P w K mg base CX k f fd ps (G7 m)):AI P w K mg base CX k f fd ps (G7 (only cs m)) :=
 F.imp fun vs H Q E z=>by
  obtain⟨M,r,G,g,I⟩:=z;refine⟨M,r,G,?_,I⟩;unfold only at g;split at g
  .rename_i C e;split at g
   .cases g;exact e
   .cases g
  .exact g
section
variable{xs:sx}
def add_l{a b:sx}(h:a.length+b.length<=DH):EB (.list a) (.list b)=some (.list (a++b)):=by
 show KG Y3 (KG QZ (KG M3 U9)) (.list a) (.list b)=_;have:QZ (.list a) (.list b)=some (.list (a++b)):=if_pos h;unfold KG;show(match QZ (.list a) (.list b) with|some z=>some z|none=>_)=_;rw[this]
def lT(xs:sx)(p:Nat):cutD xs none (some (p:Int))=xs.take p:=by
 unfold cutD;rw[HT.LJ,HT.Hs,List.drop_zero,Nat.sub_zero];by_cases h:p<=xs.length
 .rw[Nat.min_eq_left h]
 .rw[Nat.min_eq_right AC,List.take_of_length_le (aG _),List.take_of_length_le AC]
def WM(xs:sx)(p:Nat):cutD xs (some (p:Int)) none=xs.drop p:=by
 unfold cutD;rw[HT.LJ,HT.Hs];by_cases h:p<=xs.length
 .rw[Nat.min_eq_left h,List.take_of_length_le (by rw[(Ro)];lia)]
 .rw[Nat.min_eq_right AC,Nat.sub_self,(MB),List.drop_of_length_le AC]
end
section
variable{F F2:DF}{δ δ':Dv}{fs:sq}{xs:sx}{set:PD->Dv->Option Dv}{r:Option Ou}
def RO(R:Nat->Dv->Prop)(T:fs δ=some xs)(h0:R 0 δ)(U:∀(i:Nat) (x:PD) (δ:Dv),xs[i]? = some x->R i δ->∃M,set x δ=some M/\∃I,F M=some (.nx I)/\R (i+1) I):∃δ',IE fs set F δ=some (.nx δ')/\R xs.length δ':=Vi R T h0 fun i x δ a b=>let⟨M,c,I,e,g⟩:=U i x δ a b;⟨M,I,c,e,g⟩
def VJ(M:Nat->Dv->Prop)(R:fs δ=some xs)(h0:M 0 δ)(T:∀(i:Nat) (x:PD) (δ:Dv),xs[i]? = some x->M i δ->∃I,set x δ=some I/\∃g,F I=some (.nx g)/\M (i+1) g) (k:∀δ',M xs.length δ'->F2 δ'=r):BF (IE fs set F) F2 δ=r:=by
 obtain⟨δ',Y,U⟩:=RO M R h0 T;exact Av Y (k δ' U)
def jI{Q:Dv->Prop}(M:Nat->Dv->Prop)(R:fs δ=some xs)(h0:M 0 δ)(T:∀(i:Nat) (x:PD) (δ:Dv),xs[i]? = some x->M i δ->∃I,set x δ=some I/\∃g,F I=some (.nx g)/\M (i+1) g)(U:∀δ,M xs.length δ->Q δ):∃δ',IE fs set F δ=some (.nx δ')/\Q δ':=let⟨δ',a,b⟩:=RO M R h0 T;⟨δ',a,U _ b⟩
end
end L2
namespace L2
open PySem PySem.Spec PyProof.Rows
def ik:PD->PD->Option PD:=fun x y=>(He x).bind fun t=>(He y).bind fun u=>if t.deep<=60 then some (.bool (Tr.lt u t)) else none
def UN{G:Hp}{x:PD}{t:Tr}{v:V}(h:He x=some t)(d:Du G x v):Tv G t v:=by
 cases x with
 |tuple M=>
  rw[He]at h;have:=WD h;subst this;rw[Du]at d;obtain⟨a,xs,rfl,I,g⟩:=d;exact⟨a,xs,rfl,I,U0 g⟩
 |_=>simp[He]at h
def jT{X:Cx}(M:X.A.units+64<cLine):EV X (compareOp .Gt) ik:=by
 refine⟨_,jY M,fun x y z g G0 H0 G H σ δ ts u v Q R du Y k=>?_⟩;obtain⟨t,U,g⟩:=aD.mp g;obtain⟨I,T,g⟩:=aD.mp g;split at g
 .rename_i hd;cases g;exact⟨t,I,(UN U du).same R.ins,(UN T Y).same R.ins,hd,k _ _ _ (R.put (by rw[Du]))⟩
 .cases g
end L2
namespace TH
open PySem PyProof.Rows PySem.SeqAt
abbrev N7(d:AD)(ep n i:Nat):Obj:={ cls:=.type "dict_keyiterator",data:=.fields #[.ref d,.int (i:Int) 0,.int (n:Int) 0,.int (ep:Int) 0]}
section
variable{prog:F0b}{w:F0c}{A:F0d}{E:tE}{s:SD}{d I:AD}{o:Obj}{es:Array DictEntry}{ep i:Nat}
def eI{Q:Option VL->SD->Prop}{e:DictEntry}(R:s.heap.get? d=some o)(hd:o.data=.dict es ep)(M:s.heap.get? I=some (N7 d ep es.size i))(Z:es[i]? = some e) (h:∀h',h'.get? I=some (N7 d ep es.size (i+1))->Heap.SameBut I s.heap h'->Q (some e.key) {s with heap:=h'}):wpAny As A (pyNext (.ref I)) Q E s:=by
 have g:s.TypeIs (.ref I) "dict_keyiterator" := ⟨_,M,rfl⟩;unfold pyNext;refine Wb (bh (aX (name:=Str.ofString "__next__") g F.slot_dict_keyiterator_next (aa F.slot_dict_keyiterator_next g F.entry_dict_keyiterator_next ?_ (F.args_dict_keyiterator_next_1 _))));refine Wb (aA (Wb (Wb (Wb (wpAny_typeNameOfWhole_keyiter g (aA ?_))))));refine Wb (bj M rfl ?_);have q0:Builtin.Dict_items.ownsTuple "dict_keyiterator" = false:=by decide
 simp only[q0,Bool.false_eq_true,if_false];have Y:¬(Value.ref d==Value.none)=true:=aJ;show wpAny _ _ (if(Value.ref d==Value.none)=true then _ else _) _ _ s;rw[if_neg Y];refine Wb (aA (Wb (bJ R hd ?_)));rw[if_neg BY];refine Wb (aA (Wb (bN R hd ?_)));rw[if_neg BY];refine aA ?_;have U:¬((i:Int)<0):=by lia
 simp only[U,if_false,Int.toNat_natCast,Z];refine Wb (Wb (wpAny_typeNameOfWhole_keyiter g (aA ?_)));refine Wb (wpAny_isOneOf_keyiter g ?_);show wpAny _ _ (setField (.ref I) 1 (rawInt ((i:Int)+1))>>=_) _ _ s;refine Wb (wpAny_setField M rfl BY ?_);have T:(s.heap.update I (Obj.mapFields (·.setIfInBounds 1 (rawInt ((i:Int)+1))))).get? I=some (N7 d ep es.size (i+1)):=Heap.get?_update_self _ M rfl;refine Wb (ae (Wb (wpAny_isOneOf_keyiter ⟨_,T,rfl⟩ ?_)));show wpAny _ _ (pure e.key) _ _ _;exact aA (aA ⟨_,rfl,wpAny_pure (h _ T (ar ..))⟩)
def gW{Q:Option VL->SD->Prop}(hh:A.handled=none)(U:s.heap.get? d=some o)(hd:o.data=.dict es ep)(R:s.heap.get? I=some (N7 d ep es.size es.size)) (h:∀h',Heap.ExtBut I s.heap h'->Q none {s with heap:=h'}):wpAny As A (pyNext (.ref I)) Q E s:=by
 have g:s.TypeIs (.ref I) "dict_keyiterator" := ⟨_,R,rfl⟩;unfold pyNext;refine Wb (bh (aX (name:=Str.ofString "__next__") g F.slot_dict_keyiterator_next (aa F.slot_dict_keyiterator_next g F.entry_dict_keyiterator_next ?_ (F.args_dict_keyiterator_next_1 _))));refine Wb (aA (Wb (Wb (Wb (wpAny_typeNameOfWhole_keyiter g (aA ?_))))));refine Wb (bj R rfl ?_);have q0:Builtin.Dict_items.ownsTuple "dict_keyiterator" = false:=by decide
 simp only[q0,Bool.false_eq_true,if_false];have q1:¬(Value.ref d==Value.none)=true:=aJ;show wpAny _ _ (if(Value.ref d==Value.none)=true then _ else _) _ _ s;rw[if_neg q1];refine Wb (aA (Wb (bJ U hd ?_)));rw[if_neg BY];refine Wb (aA (Wb (bN U hd ?_)));rw[if_neg BY];refine aA ?_;have Z:¬((es.size:Int)<0):=by lia
 have Y:es[es.size]? = none:=Array.getElem?_eq_none (aG _);simp only[Z,if_false,Int.toNat_natCast,Y];refine Wb (Wb (wpAny_typeNameOfWhole_keyiter g (aA ?_)));show wpAny _ _ (setField (.ref I) 0 .none>>=_) _ _ s;refine Wb (wpAny_setField R rfl BY ?_);refine Wb ?_;simp only[newExc,newTuple];refine Wb (aZ ?_ (by size_fits));refine Wb (m:=firstArgMember _ _) (wpAny_of_eq (a:=Value.none) (by first|rfl|(simp only[firstArgMember];rfl)) (aZ ?_ (by size_fits)));simp only[raiseNew];refine Wb (wpAny_handled ?_);have M:A.in1.handled=none:=hh;rw[M];refine Wb (aA (wpAny_throw ?_));refine Wb (wpAny_isInstance (b:=true) (T := "StopIteration") ⟨_,Heap.get?_push_size _ rfl,rfl⟩ isSubtype_stop ?_);exact aA (h _ (((ar ..).extBut.push _).push _))
def eu{Q:tE}(M:s.heap.get? I=some (N7 d ep es.size i))(h:Q (.ref I) s):wpAny As A (pyIter (.ref I)) Q E s:=by
 have g:s.TypeIs (.ref I) "dict_keyiterator" := ⟨_,M,rfl⟩;refine wpAny_pyIter_slot g F.slot_dict_keyiterator_iter (aa F.slot_dict_keyiterator_iter g F.entry_dict_keyiterator_iter ?_ (F.args_dict_keyiterator_iter_1 _));show wpAny _ _ (ret (.ref I)) _ _ s;exact aA ⟨_,rfl, "dict_keyiterator",_,g,F.slot_dict_keyiterator_next.lookup,h⟩
def fW{Q:tE}(R:(d==sysModules)=false)(g:s.heap.get? d=some o)(T:o.cls=.type "dict")(hd:o.data=.dict es ep)(h:Q (.ref s.heap.objs.size) {s with heap:=s.heap.push (N7 d ep es.size 0)}):wpAny As A (pyIter (.ref d)) Q E s:=by
 have M:s.TypeIs (.ref d) "dict" := ⟨o,g,T⟩;refine wpAny_pyIter_slot M F.slot_dict_iter (aa F.slot_dict_iter M F.entry_dict_iter ?_ (F.args_dict_iter_1 _));unfold Builtin.«dict.__iter__»;refine Wb ?_;unfold Builtin.Dict.dictSlotNone;refine Wb (wpAny_notOrdered_dict M (show wpAny _ _ (pure (Value.ref d)) _ _ s from aA ?_));have hn:¬(d==sysModules)=true:=by rw[R];exact aJ
 show wpAny _ _ (Builtin.Dict.showsAll d>>=_) _ _ s;unfold Builtin.Dict.showsAll;rw[if_neg hn];refine Wb (aA (Wb (bJ g hd (Wb (bN g hd ?_)))));exact Wb (aZ (aA ⟨_,rfl, "dict_keyiterator",_,⟨_,Heap.get?_push_size _ rfl,rfl⟩,F.slot_dict_keyiterator_next.lookup,h⟩))
def Ys(hh:A.handled=none)(hne:d≠I)(hd:o.data=.dict es ep) :
  Walks prog w A I [I,d] [I] es.size (fun i v=>∃e,es[i]? = some e/\v=e.key) (fun i h=>h.get? I=some (N7 d ep es.size i)/\h.get? d=some o) where
 sub:=fun b hb=>by simp at hb;simp[hb]
 frame:=fun _ _ _ x k=>⟨k I BY _ x.1,k d BY _ x.2⟩
 item:=fun i s Q E hi x hQ=>by
  have hx:es[i]? = some es[i]:=Array.getElem?_eq_getElem hi;refine eI x.2 hd x.1 hx fun h' g sb=>hQ _ h' s.toks ⟨_,hx,rfl⟩ ⟨g,(sb.2 d hne).trans x.2⟩ fun b u hb e=>?_;rw[sb.2 b fun q=>hb (by simp[q])];exact e
 done:=fun s Q E x hQ=>gW hh x.2 hd x.1 fun h' eb=>hQ h' s.toks fun b u hb e=>eb b u (fun q=>hb (by simp[q])) e
 self:=fun _ _ _ _ x hQ=>eu x.1 hQ
def gI(hs:(d==sysModules)=false)(hc:o.cls=.type "dict")(hd:o.data=.dict es ep):PySem.W.KdlSrc prog w "dict" d d es.size (fun i v=>∃e,es[i]? = some e/\v=e.key) (fun h=>h.get? d=some o) where
 type:=fun _ ho=>⟨o,ho,hc⟩
 there:=fun _ ho=>⟨aE ho,Heap.lt_size ho⟩
 keep:=fun _ _ ho k=>k d (.inl rfl) _ ho
 notList:=by decide
 notTuple:=by decide
 hint:=fun _ _ s _ ho h=>PySem.W.kdl_hint_dict ⟨o,ho,hc⟩ h
 iter:=fun A s hh ho=>⟨N7 d ep es.size 0,_,(fun E Q h=>fW hs ho hc hd h),Ys hh (aM (aE ho)) hd,⟨aU _ rfl,Heap.get?_push_of_some _ ho⟩⟩
end
end TH
namespace L2
open PySem PySem.Spec PyProof.Rows
section
variable{prog:F0b}{w:F0c}{K:Type}[DecidableEq K]{knd:HeapKind prog w K}{A:F0d}{E:tE}{s:SD}{d a:AD}{k:K}{xs:List (K×AD×VL)}{dflt:VL}
def Y5(h:∀(j:Nat) (p:AD×VL),xs[j]?≠some (k,p)):atKey xs k=none:=by
 unfold atKey;rw[Option.map_eq_none_iff,List.find?_eq_none];intro x g z;obtain⟨j,I⟩:=bG g;have:x.1=k:=ah z;exact h j x.2 (by rw[I,<-this])
def fh(nd:(xs.map (·.1)).Nodup){j:Nat}{p:AD×VL}(h:xs[j]? = some (k,p)):atKey xs k=some p:=by
 unfold atKey
 induction xs generalizing j with
 |nil=>simp at h
 |cons x xs I=>
  rw[List.find?_cons];cases j with
  |zero=>
   simp at h;subst h;simp
  |succ j=>
   simp at h;rw[(BA),List.nodup_cons]at nd;have g:x.1≠k:=fun z=>nd.1 (by rw[z];exact aI.mpr ⟨(k,p),List.mem_of_getElem? h,rfl⟩);rw[decide_eq_false g];exact I nd.2 h
def RI{Q:tE}(hr:knd.room A)(hk:knd.is s.heap k a)(hd:s.heap.DictOfH knd d xs)(hsz:xs.length<=sizeLine) (hp:∀p,atKey xs k=some p->Q p.2 {s with toks:=s.toks+knd.draws k}) (ha:atKey xs k=none->∀h',h'.DictOfH knd d (xs++[(k,a,dflt)])->Heap.SameBut d s.heap h'->Q dflt {s with heap:=h',toks:=s.toks+knd.draws k}):wpAny As A (dictSetDefault d (.ref a) dflt) Q E s:=by
 obtain⟨o,es,ep,I,h2,T,R,h5,h6⟩:=hd;unfold dictSetDefault;refine ae (Wb (knd.pyHash hr hk (Wb (wpAny_dictFind_heap (s:={s with toks:=s.toks+knd.draws k}) hr hk I T R h5 h6 (fun hn=>?_) (fun j p M=>?_)))))
 .refine Wb (bO (Wb (wpAny_updateDictKeys I T (aA ?_) ?_ ?_)))
  .have U:=ar s.heap d (Obj.mapDictKeys fun x=>x.push { hash:=knd.hash k,key:=.ref a,val:=dflt});refine ha (Y5 hn) _ ?_ U;obtain⟨oc,od,oda,osl⟩:=o;cases T;refine⟨_,es.push { hash:=knd.hash k,key:=.ref a,val:=dflt},ep+1,Heap.get?_update_self _ I rfl,h2,rfl,?_,fun x g=>?_,?_⟩
   .rw[Array.toList_push,R,(CN)];rfl
   .rcases aW.mp g with g|g
    .exact knd.keeps (h5 x g) I rfl U
    .rw[List.mem_singleton.mp g];exact knd.keeps hk I rfl U
   .rw[(CN),List.nodup_append];refine⟨h6,by simp,fun y hy z Y=>?_⟩;have Y:z=k:=by simpa using Y
    intro e;rw[e,Y]at hy;obtain⟨x,g,Z⟩:=aI.mp hy;obtain⟨j,M⟩:=bG g;exact hn j x.2 (by rw[M,<-Z])
  .have:es.size=xs.length:=by
    have:=ai List.length R
    simpa using this
   show es.size<=sizeLine
   lia
  .simp
 .have he:es[j]? = some (entryOfKey knd (k,p)):=by
   rw[<-(V1),R,(BP),M];rfl
  refine Wb (bJ I T ?_);rw[he];exact Wb (bO (aA (hp p (fh h6 M))))
def O7(g:(d==sysModules)=false):MeetsIn prog w (Builtin.«dict.setdefault» { pos:=[.ref d,.ref a,dflt]}) fun A R s => knd.room A.in1/\∃k xs,knd.is s.heap k a/\s.heap.DictOfH knd d xs/\xs.length<=sizeLine /\(∀p,atKey xs k=some p->R (.ok (.ret p.2)) {s with toks:=s.toks+knd.draws k}) /\(atKey xs k=none->∀h',h'.DictOfH knd d (xs++[(k,a,dflt)])->Heap.SameBut d s.heap h'->R (.ok (.ret dflt)) {s with heap:=h',toks:=s.toks+knd.draws k}):=by
 rintro A R s ⟨U,k,xs,Z,hd,I,Y,ha⟩;unfold Builtin.«dict.setdefault»;have hb:∀ {Q:AD×VL×Option VL->SD->Prop} {E:VL->SD->Prop},Q (d,.ref a,some dflt) s->wpAny As A.in1 (Builtin.Dict.keyAndDefault "setdefault" { pos:=[.ref d,.ref a,dflt]}) Q E s:=fun h=>by
  unfold Builtin.Dict.keyAndDefault;refine Wb (wpAny_notOrdered_dict hd.typeIs ?_);refine Wb (aA ?_);refine Wb ?_;unfold selfAndSome noKeywords;exact Wb (aA (Wb (aA (aA (Wb (aA (aA h)))))))
 refine Wb (hb ?_);dsimp only;rw[if_neg (by rw[g];simp)];refine Wb (RI U Z hd I (fun p h=>?_) fun h h' M T=>?_)
 .exact aA (Y p h)
 .exact aA (ha h h' M T)
end
def fK{X:Cx}{pins:CG}{σ:St}{H:Hp}{s:SD}{a b:AD}{A:F0d}{E:tE}{kvs:List (List Key×V)}{k:List Key}{z:V}{r:VL}{Q:tE}(hu:A.units+1<cLine)(I:At)(e:H a=some (.dT kvs))(Z:H b=some (.tup (k.map kV)))(hl:kvs.length<sizeLine)(rz:RelV z r) (hp:∀v T s',C7 kvs k=some v->Inv X pins σ H s'->RelV v T->Q T s')(ha:C7 kvs k=none->∀s',Inv X pins σ (upd H a (.dT (kvs++[(k,z)]))) s'->Q r s'):wpAny By A (call (.builtin "dict.setdefault") [.ref a,.ref b,r]) Q E s:=by
 obtain⟨zz,hd,xs,rel,dd⟩:=UD I.Al e;have hz:xs.length<=sizeLine:=by rw[<-Paired.length rel];exact zz
 have M:=rel.val k;refine call_meetsIn PySem.F.slot_dict_setdefault dd.typeIs PySem.F.entry_dict_setdefault (PySem.F.args_dict_setdefault_3 _ _ _) (O7 (knd:=tupleKind (DR X.prog X.w)) hd) ⟨tupleKind_room_in1 hu,k,xs,RB I.Al Z,dd,hz,fun p h=>?_,fun h h' R sb=>?_⟩
 .rw[h]at M;cases l:C7 kvs k with
  |none=>rw[l]at M;exact M.elim
  |some v=>rw[l]at M;exact hp v _ _ l (I.tok _) M
 .have l:C7 kvs k=none:=by
   cases l:C7 kvs k with
   |none=>rfl
   |some v=>rw[l,h]at M;exact M.elim
  refine ha l _ ?_;obtain⟨q,es,ep,U,h2,h3,h4,_,h5⟩:=R;have g:=rel.put k Z rz;rw[VG _ l,storedH_new h]at g;refine Sb I (by rw[e];exact True.intro) sb ⟨q,U⟩ ⟨by rw[(De),(QM)];lia,hd,_,g.keeps fun c ys Y=>?_,q,es,ep,U,h2,h3,h4,h5⟩;rw[AK (gq Y e GE)];exact Y
def jS(R ty M:TE):TE:=fun σ H Q=>R σ H fun x I=>∃a,x=.ref a/\qB I a/\ty σ I fun y T=>M σ T fun z g=>∃kvs k b,g a=some (.dT kvs)/\y=.ref b/\g b=some (.tup (k.map kV))/\kvs.length<sizeLine /\
 (∀v,C7 kvs k=some v->Q v g)/\(C7 kvs k=none->Q z (upd g a (.dT (kvs++[(k,z)]))))
def cn{X:Cx}{o e f:Expr}{apos cpos:Pos}{T ty R:TE}(hu:X.A.units+1<cLine)(ho:PE X o T)(he:PE X e ty)(hf:PE X f R)(m:M2 X o "setdefault" apos e f cpos):PE X (.Call (.Attribute o "setdefault" apos) [e,f] [] cpos) (jS T ty R):=by
 intro pins s σ H Q I h;refine wpAny_Call_method m.base m.B2 m.line PySem.F.plainAttrs_dict PySem.F.slot_dict_setdefault PySem.F.type_dict_setdefault (A9 (ho pins s σ H _ I h) fun u s1 ⟨x,H1,Y,rx,a,ex,d,q1⟩=>?_);subst ex;obtain rfl:u=Value.ref a:=rx;obtain⟨t1,Z,_⟩:=mI Y d;refine⟨t1,Z,?_⟩;rw[m.trees];refine Calls.callWith_builtin rfl (Calls.evalArgs_plain (Calls.spliced_cons (A9 (he pins s1 σ H1 _ Y q1) fun iv s2 ⟨y,H2,I2,ry,q2⟩=>
  Calls.spliced_cons (A9 (hf pins s2 σ H2 _ I2 q2) fun fv s3 ⟨z,H3,I3,U,kvs,k,b,ea,ey,eb,hl,q3,q4⟩=>Calls.spliced_nil ?_))))
 subst ey;obtain rfl:iv=Value.ref b:=ry;exact fK hu I3 ea eb hl U (fun v w' s4 l M g=>⟨v,H3,M,g,q3 v l⟩) fun l s4 M=>⟨z,_,M,U,q4 l⟩
end L2
namespace IT
open PySem PySem.W PyProof.Rows PySem.SeqAt
def QO(h:Heap)(k:tJ)(v:VL):Prop:=∃(a:AD) (g:List VL),v=.ref a/\h.IsTuple a g.toArray/\Is k g/\k≠[]
def QO.ext{h h':Heap}(e:GS.Ext h h'){k:tJ}{v:VL}(x:QO h k v):QO h' k v:=by
 obtain⟨a,i1,rfl,M,I,g⟩:=x;exact⟨a,i1,rfl,TH.Oj e M,I,g⟩
section
open PySem.MeetsSeq PySem.MeetsSeq2 PySem.MeetsSeq3
variable{prog:F0b}{w:F0c}{A:F0d}{s:SD}
def lt_int{b:Bool}{x y:Int}{t u:Tok}{Q:Bool->SD->Prop}{E:tE}(h:Q (decide (x<y)) s):wpAny As A (oneLt' b (.int x t) (.int y u)) Q E s:=by
 cases b with
 |true=>exact oneLt_int h
 |false=>
  rw[oneLt'_eq];simp only[Bool.false_eq_true,if_false];exact Wb (wpAny_lt_int (wpAny_truthy_bool h))
theorem eC{b fin:Bool}{Q:Bool->SD->Prop}:∀(x y:List Int) (us vs:List VL) (i:Nat),Is x us->Is y vs->fin=decide (x.length<y.length)->Q (lt x y) s->KatLex prog w A b fin Q (us.zip vs) i s
 |[],y,us,vs,i,I,g,M,q=>by
  rw[Is]at I;subst I;rw[List.zip_nil_left];refine kat_nil ?_;cases y with
  |nil=>rw[M];exact q
  |cons c y=>rw[M,decide_eq_true BY];exact q
 |a::x,[],us,vs,i,I,g,M,q=>by
  rw[Is]at g;subst g;rw[List.zip_nil_right];refine kat_nil ?_;rw[M,decide_eq_false BY];exact q
 |a::x,c::y,us,vs,i,I,g,M,q=>by
  rw[Is]at I g;obtain⟨t,us,rfl,I⟩:=I;obtain⟨R,vs,rfl,g⟩:=g;rw[(Nr)];refine kat_cons (EqAt.int_int a t c R prog w _ _ ?_);rw[lt]at q;by_cases e:a=c
  .rw[if_pos e]at q;rw[beq_iff_eq.mpr e];refine kat_yes (eC x y us vs (i+1) I g (by rw[M];simp) q)
  .rw[if_neg e]at q;rw[beq_eq_false_iff_ne.mpr e];exact kat_no (lt_int q)
def kn{x y:tJ}{u v:VL}{Q:Bool->SD->Prop}{E:tE}{b:Bool}(h1:QO s.heap x u)(h2:QO s.heap y v)(h:Q (lt x y) s):wpAny As A (keyLt' (tuples' b) u v) Q E s:=by
 obtain⟨a,i1,rfl,U,R,k3⟩:=h1;obtain⟨a',j1,rfl,T,M,m3⟩:=h2;obtain⟨o,Y,hc,n,hd⟩:=id U;obtain⟨o2,g,Z,n2,I⟩:=id T;refine kat_lt Y hd g I ?_;exact eC x y _ _ 0 R M (by rw[<-R.length,<-M.length];simp) h
theorem D9{h:Heap}:∀ {us:List VL},(∀v∈us,∃x,QO h x v)->∃fs,KatTups h us fs/\fs.length=us.length/\∀v∈fs,∃n t,v=.int n t
 |[],_=>⟨[],KatTups.nil,rfl,fun _ h=>by cases h⟩
 |v::us,e=>by
  obtain⟨fs,h1,h2,Z⟩:=D9 (us:=us) fun v g=>e v (aK _ g);obtain⟨x,a,T,rfl,R,I,M⟩:=e v aO;obtain⟨o,U,Y,n,hd⟩:=id R;cases x with
  |nil=>exact absurd rfl M
  |cons c x=>
   rw[Is]at I;obtain⟨t,rest,rfl,I⟩:=I;exact⟨.int c t::fs,KatTups.cons U Y hd rfl h1,by simp[h2],fun v g=>by
    rcases aN.mp g with rfl|g
    .exact⟨c,t,rfl⟩
    .exact Z v g⟩
def ng{h0:Heap}{ks:List tJ}{us:sy}(Z:us.length=ks.length)(U:∀(i:Nat) (x:tJ) (u:VL),ks[i]? = some x->us[i]? = some u->QO h0 x u):GS.V6 ord prog w h0 0 ks us :=
 ⟨Z,fun κ=>∃b,κ=tuples' b,fun A E s Q M h=>by
  obtain⟨fs,t1,Y,t3⟩:=D9 (h:=s.heap) (us:=us) fun v g=>by
   obtain⟨i,hi,rfl⟩:=List.getElem_of_mem g;exact⟨_,(U i _ _ (aV AC) (aV hi)).ext M⟩
  by_cases I:us=[]
  .subst I;exact TH.Xz (us:=[]) (fun v g=>by cases g) (h _ ⟨_,rfl⟩)
  refine kat_kind (T:=.type "int") t1 (by rw[Y];exact List.length_pos_iff.mpr I) (fun v g=>?_) AS (h _ ⟨_,rfl⟩);obtain⟨n,t,rfl⟩:=t3 v g;exact Looks.now,
  fun A s κ M hr R E i j x y u v Q h1 h2 h3 h4 q=>by
  obtain⟨b,rfl⟩:=R;exact kn ((U i x u h3 h1).ext M) ((U j y v h4 h2).ext M) q⟩
end
end IT
namespace GS
open PySem PySem.W PyProof.Rows PySem.SeqAt TH
section
variable{prog:F0b}{w:F0c}{A:F0d}{E:tE}{s:SD}{us:sy}
def UR{d:AD}{o:Obj}{es:Array DictEntry}{ep:Nat}(hs:(d==sysModules)=false)(ho:s.heap.get? d=some o)(hc:o.cls=.type "dict")(T:o.data=.dict es ep)(hA:A.handled=none) (Y:es.toList.map (·.key)=us)(hz:us.length<=1000):X5 prog w A E s (.ref d) us:=fun Q h=>by
 have hes:es.size=us.length:=by rw[<-Y,(Af),(VR)]
 refine gather (A:=A) (gI hs hc T) hA ho (by rw[sizeLine_eq];lia) fun h1 tk g z1 k1 I=>?_;have U:g.toList=us:=by
  rw[<-Y];apply List.ext_getElem?;intro j;rw[(BP)];by_cases R:j<g.size
  .have Z:g[j]? = some g[j]:=Array.getElem?_eq_getElem R;obtain⟨e,e2,e3⟩:=I.2 j _ Z;rw[(V1),Z,(V1),e2,e3]
   rfl
  .have M:¬j<es.size:=by rw[<-I.1];exact R
   rw[List.getElem?_eq_none (by simpa using R),List.getElem?_eq_none (by simpa using M)]
   rfl
 rw[U];exact h h1 tk k1 (Nat.le_of_lt z1)
end
end GS
namespace L2
open PySem PySem.Spec PyProof.Rows
def hJ(H:Hp)(x:V)(Q:VK):Prop:=∃(a:AD) (kvs:List (List Key×V)) (ps:List (List Int)),x=.ref a/\H a=some (.dT kvs)/\kvs.length<=1000/\(∀prog w,GS.Runs IT.ord prog w ps.reverse)/\(∀p∈ps,p≠[])/\kvs.map (·.1)=ps.map (·.map Sum.inl) /\
 ∀(D:AD) (L:List (List Int×AD)),H D=none->(L.map (·.1)).Perm ps->L.Pairwise (fun p q=>IT.ord.kle q.1 p.1)->(∀l∈L,H l.2=some (.tup (l.1.map V.int)))->Q (.ref D) (upd H D (.lst (L.map fun l=>V.ref l.2)))
def eA{X:Cx}{pins:CG}{σ:St}{H:Hp}{s:SD}{Q:VK}(I:At){x:V}{v:VL}(rx:RelV x v)(hu:X.A.units+64<cLine)(hc:X.calm=true)(q:hJ H x Q):wpAny By X.A (call (.builtin "sorted") [v] [(Str.ofString "reverse",.bool true)]) (EP X pins σ Q) X.xe s:=by
 obtain⟨a,kvs,ps,rfl,ha,hk,hr,hne,hps,q⟩:=q;cases rx;obtain⟨hz,nd,xs,kt,o,es,ep,r1,r2,r3,r4,r5,r6⟩:=UD I.Al ha;have hlen:es.size=kvs.length:=by rw[size_of_entries r4];exact(Paired.length kt).symm
 have R:ps.length=kvs.length:=by
  have:=ai List.length hps
  simpa using this.symm
 have M:xs.length=kvs.length:=(Paired.length kt).symm
 let g:List (List Int×AD):=ps.zip (xs.map (·.2.1))
 have hL:g.length=kvs.length:=by simp[g,R,M]
 have l1:g.map (·.1)=ps:=by
  show(ps.zip _).map Prod.fst=ps;exact List.map_fst_zip (by simp[R,M])
 have l2:g.map (·.2)=xs.map (·.2.1):=by
  show(ps.zip _).map Prod.snd=_;exact List.map_snd_zip (by simp[R,M])
 have hkey:es.toList.map (·.key)=g.map fun l=>Value.ref l.2:=by
  have:(g.map fun l=>Value.ref l.2)=(g.map (·.2)).map Value.ref:=by simp
  rw[this,l2];apply List.ext_getElem?;intro j;rw[(BP),(V1),entry_at r4 j,(CZ),(BP)];cases xs[j]? <;> rfl
 have hin:∀l∈g,H l.2=some (.tup (l.1.map V.int)):=fun l hl=>by
  obtain⟨j,U⟩:=bG hl;have Y:(g.map (·.1))[j]? = some l.1:=by rw[(BP),U];rfl
  have Z:(g.map (·.2))[j]? = some l.2:=by rw[(BP),U];rfl
  rw[l1]at Y;rw[l2,(BP)]at Z;obtain⟨y,hy,e⟩:=aC.mp Z;have hjk:j<kvs.length:=by rw[<-M];exact(aB.mp hy).1
  obtain⟨kv,hkv⟩:∃kv,kvs[j]? = some kv:=⟨kvs[j],by simp[hjk]⟩;have T:=Od kt hkv hy;have h3:kv.1=l.1.map Sum.inl:=by
   have:=ai (·[j]?) hps;simp only[List.getElem?_map,hkv,Y]at this;exact ak this
  have h4:H y.2.1=some (.tup (kv.1.map kV)):=T.1 ▸ T.2.1
  rw[e,h3,VD]at h4;exact h4
 have C:GS.V6 IT.ord X.prog X.w s.heap 0 ps (g.map fun l=>Value.ref l.2):=IT.ng (by rw[(Af),hL,R]) fun i x u Y Z=>by
  have Y:(g.map (·.1))[i]? = some x:=by rw[l1];exact Y
  rw[(BP)]at Y Z;obtain⟨l,e1,rfl⟩:=aC.mp Y;rw[e1]at Z;cases Z;have hm:=aL e1;obtain⟨its,v1,T,_⟩:=I.tuple (Ax.of (K:=X.K) (hin l hm));exact⟨_,its,rfl,T,Ox v1,hne _ (l1 ▸ aI.mpr ⟨l,hm,rfl⟩)⟩
 refine GS.en (b:=true) ([]:List Int) (GS.UR (A:=X.A.in1) nd r1 r2.1 r3 (show X.A.in1.handled=none from I.ok.hd hc) hkey (by rw[(Af),hL];exact hk)) C (by rw[(Af),hL];exact hk) (show GS.Runs IT.ord X.prog X.w ps.reverse from hr _ _) AC fun h' D tk ix e1 hD k1 gD T p2=>?_;rw[(Af)]at T
 let L:List (List Int×AD):=ix.map fun i=>g.getD i ([],0)
 have hix:∀i∈ix,i<g.length:=fun i hi=>List.mem_range.mp (T.mem_iff.mp hi);have hp:L.Perm g:=by
  have:=T.map fun i=>g.getD i ([],0);refine this.trans (List.Perm.of_eq ?_);apply List.ext_getElem?;intro j;rw[(BP)];by_cases U:j<g.length
  .rw[List.getElem?_range U];simp[U]
  .rw[List.getElem?_eq_none (by simpa using U),List.getElem?_eq_none (by simpa using U)]
   rfl
 have e3:ix.map (fun i=>(g.map fun l=>Value.ref l.2).getD i Value.none)=L.map fun l=>Value.ref l.2:=by
  rw[(CZ)];refine az fun i hi=>?_;have:=hix i hi;simp[this]
 have e4:ix.map (fun i=>ps.getD i [])=L.map (·.1):=by
  rw[<-l1,(CZ)];refine az fun i hi=>?_;have:=hix i hi;simp[this]
 rw[e3]at gD;simp only[if_true]at p2;have p2:(L.map (·.1)).Pairwise (fun x y:List Int=>IT.ord.kle y x):=e4 ▸ (show(ix.map fun i=>ps.getD i []).Pairwise (fun x y:List Int=>IT.ord.kle y x) from p2)
 clear_value L
 have e5:(L.map fun l=>Value.ref l.2)=(L.map (·.2)).map Value.ref:=by rw[(CZ)];rfl
 have e6:(L.map fun l=>V.ref l.2)=(L.map (·.2)).map V.ref:=by rw[(CZ)];rfl
 exact⟨.ref D,upd H D (.lst (L.map fun l=>V.ref l.2)),I.laid (t':=tk) k1 hD ⟨by rw[(Af),hp.length_eq,hL];exact hz,L.map (fun l=>Value.ref l.2),e1,by rw[e5,e6];exact OS _,gD⟩,rfl,q D L (I.Al.fresh hD) (by rw[<-l1];exact hp.map _) (List.pairwise_map.mp p2) fun l hl=>hin l (hp.mem_iff.mp hl)⟩
def kJ(g:TE):TE:=fun σ H Q=>g σ H fun x I=>hJ I x Q
def eJ{X:Cx}{o:Expr}{R:TE}{p pos kp M:Pos}{j}(Z:X.A.units+64<cLine)(hc:X.calm=true)(hg:Gl X "sorted")(hm:X.mg "sorted" = none)(ho:PE X o R) (T:backTo pos (starEach [o] X.env)=(false,eval o X.env)::backTo pos (starEach [] X.env):=by rfl)(g:(backTo pos (starEach [o] X.env)).any (·.1)=false:=by rfl):PE X (.Call (.Name "sorted" p) [o] [⟨some "reverse",.Constant (.bool true) j M,kp⟩] pos) (kJ R):=by
 intro pins s σ H Q I h;refine bT (Ir I hg hm boot_sorted ?_ AS AS);refine callWith_kw ?_ T g;rw[T];refine Calls.spliced_cons (A9 (ho pins s σ H _ I h) fun v s1 ⟨x,H1,I1,U,Y⟩=>?_);exact Calls.spliced_nil (kws_cons (Constant_bool (kws_nil (eA I1 U Z hc Y))))
end L2
namespace HT
open PySem PyProof.Rows
def Nf{prog:F0b}{w:F0c}{A:F0d}{E:tE}{s:SD}{t sl:AD}{items:Array VL}{U T:VL}{lo hi:tN}{Q:tE}(g:IsTup s.heap t items)(Z:s.heap.IsSliceOf sl U T .none)(pl:IsPart U lo)(pu:IsPart T hi) (Y:BH items.size 0 lo=0/\BH items.size items.size hi=items.size)(h:Q (.ref t) s):wpAny As A (getItem (.ref t) (.ref sl)) Q E s:=by
 obtain⟨os,I,M,hds⟩:=id Z;have R:s.TypeIs (.ref sl) "slice" := ⟨os,I,M⟩;unfold getItem
 try with_reducible refine ae ?_
 first|refine Wb (aA ?_)|skip
 refine Wb (wpAny_sequenceKey g.typeIs AS ?_);refine Wb (aX (name:=Str.ofString "__getitem__") g.typeIs bY
  (aa bY g.typeIs entry_tuple_getitem ?_ (args_tuple_getitem _ _)))
 show wpAny _ _ (Builtin.Tuple.tupleItemsOf (.ref t)>>=_) _ _ s;refine Wb (tupleItemsOf_ g ?_);refine Wb (wpAny_typeOf R ?_);rw[if_pos AS];refine Wb (LR Z pl pu ?_);show wpAny _ _ (if(((BH items.size 0 lo:Nat):Int)==0&&(1:Int)==1&&(BH items.size items.size hi-BH items.size 0 lo)==items.size)=true then _ else _) _ _ s;rw[if_pos (by rw[Y.1,Y.2];simp)];refine Wb (m:=Builtin.Tuple.tupleIsExact _) ?_;unfold Builtin.Tuple.tupleIsExact;refine Wb (wpAny_typeOf g.typeIs (aA ?_));rw[if_pos AS]
 first
  |exact Wb (bO (aA ⟨_,rfl,wpAny_pure h⟩))
  |exact Wb (bO (aA (aA ⟨_,rfl,wpAny_pure h⟩)))
end HT
namespace L2
open PySem PySem.Spec PyProof.Rows
def ib(K:Fg):V->Option Int->Option Int->Hp->VK->Prop:=fun x lo hi H Q=>∃a xs,x=.ref a/\Ax K H a xs /\
 ((HT.BH xs.length 0 lo=0/\HT.BH xs.length xs.length hi=xs.length)->Q (.ref a) H)/\(¬(HT.BH xs.length 0 lo=0/\HT.BH xs.length xs.length hi=xs.length)->∀p,H p=none->Q (.ref p) (upd H p (.tup (EF xs lo hi))))
def jt{X:Cx}:Sl X (ib X.K):=by
 intro pins s σ H x v vl vu lo hi sl Q I T hs Y U h;obtain⟨a,xs,rfl,Z,q1,q2⟩:=h;by_cases M:HT.BH xs.length 0 lo=0/\HT.BH xs.length xs.length hi=xs.length
 .cases T;obtain⟨R,r,ht,hz⟩:=I.tuple Z;have g:R.toArray.size=xs.length:=by rw[(Dd)];exact r.length.symm
  refine⟨"tuple",_,PyProof.Rows.slot_tuple_getitem.lookup,ht.typeIs,?_⟩;exact HT.Nf ht hs Y U (by rw[g];exact M) ⟨.ref a,H,I,rfl,q1 M⟩
 .exact cN pins s σ H (.ref a) v vl vu lo hi sl Q I T hs Y U ⟨a,xs,rfl,Z,M,q2 M⟩
end L2
namespace Q22
open PySem L2
abbrev Fm:Stmt:=top 15
abbrev IZ:Stmt:=top 16
abbrev HM:Stmt:=top 17
abbrev Ih:Stmt:=top 18
abbrev KU:Stmt:=top 19
abbrev Cj:Stmt:=top 20
abbrev DV:Stmt:=top 21
abbrev Ip:Stmt:=top 22
abbrev FZ:Stmt:=top 23
abbrev KY:Stmt:=top 25
abbrev LG:Stmt:=top 26
abbrev HK:Stmt:=top 27
abbrev IC:Stmt:=top 28
abbrev Ny:Stmt:=top 29
abbrev N8:Stmt:=top 30
abbrev LM:Stmt:=top 31
abbrev G5:Stmt:=top 32
abbrev I0:Stmt:=top 33
abbrev Mu:Stmt:=top 34
abbrev IH:Stmt:=top 35
abbrev KP:Stmt:=top 36
abbrev NA:Stmt:=top 37
abbrev LF:Stmt:=top 38
abbrev Ob:Stmt:=top 40
abbrev FU:Stmt:=top 41
abbrev Gr:Stmt:=top 42
abbrev Mv:Stmt:=top 44
abbrev Lr:Stmt:=top 45
abbrev Jq:Stmt:=top 46
abbrev Lx:Stmt:=top 47
abbrev Gg:Stmt:=top 48
abbrev Kt:Stmt:=top 49
abbrev F6:Stmt:=top 50
abbrev FV:Stmt:=top 51
abbrev L7:Stmt:=top 53
abbrev Jt:Stmt:=top 54
abbrev Nk:Stmt:=top 55
abbrev Ec:Stmt:=top 56
abbrev LU:Stmt:=top 57
abbrev JH:Stmt:=top 58
abbrev Jy:Stmt:=top 59
abbrev MI:Stmt:=top 60
abbrev Ei:Stmt:=top 62
abbrev JU:Stmt:=top 63
abbrev KA:Stmt:=top 64
abbrev L6:Stmt:=top 65
abbrev JR:Stmt:=top 68
abbrev MJ:Stmt:=top 69
abbrev Jx:Stmt:=top 70
abbrev Kz:Stmt:=top 71
abbrev HJ:Stmt:=top 72
abbrev Hy:Stmt:=top 73
abbrev F4:Stmt:=top 74
abbrev Qu:Stmt:=top 75
def S6{n:String}:CT (.ty n)≠.none:=fun z=>nomatch z
def mulC{i j:Int}(h1:-18446744073709551616<j)(g:j<18446744073709551616):Ry i j\/Ow i j:=.inl (.inr ⟨h1,g⟩)
def mulL{i j:Int}(h1:-18446744073709551616<i)(g:i<18446744073709551616):Ry i j\/Ow i j:=.inl (.inl ⟨h1,g⟩)
def Pz:Sp:=fun vs H Q _=>∃a b,vs=[.int a,.int b]/\Q (.int (FM.gi a b)) H
def UT:Sp:=fun vs H Q _=>∃t b m,vs=[.int t,.int b]/\b≠0/\m<=9000/\b.natAbs<2^m/\∀l H',AJ H H'->H' l=some (.tup (Jp (Rat.divInt t b)))->Q (.ref l) H'
section
variable{P:F0b}{w:F0c}{K:Fg}{mg:tF}{base:Heap}{f g:AD}{fd gd:F0a}
def Nb:Ad ["one","other","greater","lesser","rest"] FI (AO Cj):=Bk
def sQ(σ:St):Nat:=match σ[3]? with|some (some (V.int l))=>l.natAbs|_=>0
def Nc(F:Fn K mg "greatest_divisor" Cj FI f fd)(T:mg "abs" = none):AI P w K mg base Ag 1 f fd FI Pz:=by
 have sc:=Nb;refine F.F.ok (k:=0) sc Do (fun cdv A outer s H vs Q E Z h=>?_)
 .obtain⟨a,b,rfl,_⟩:=h
  rfl
 obtain⟨a,b,rfl,q⟩:=h;refine⟨_,(AM (Ai (i:=2) sc.nd rfl AT (BM QF rfl T PyProof.Rows.boot_abs (AE Fa AQ)))
 (AM (Ai (i:=3) sc.nd rfl AT (BM QF rfl T PyProof.Rows.boot_abs (AE Fy AQ)))
 (AM (Po aP (Bn M7 (pv 3) AU (Ay _))
  (AM (Ai (i:=4) sc.nd rfl AT (Au Oz (pv 2) (pv 3)))
  (AM (Ai (i:=2) sc.nd rfl AT (pv 3))
  (AR (Ai (i:=3) sc.nd rfl AT (pv 4))))))
 (AR (Aw (pv 2)))))),?_⟩
 refine⟨_,rfl,_,rfl,_,rfl,_,rfl,?_⟩;refine P8 (fun σ H'=>∃g l r,σ=[some (.int a),some (.int b),some (.int g),some (.int l),r]/\H=H'/\Int.gcd g l=Int.gcd a b/\0<=g/\0<=l) (fun σ _=>sQ σ) ?_ ?_ ?_
 .exact⟨_,_,_,rfl,rfl,FM.jD a b,FM.abs_nonneg a,FM.abs_nonneg b⟩
 .rintro σ H' ⟨g,l,r,rfl,rfl,M,h0,R⟩;refine⟨_,rfl,rfl,_,rfl,Cm (fun c=>?_) (fun c=>?_)⟩
  .have I:l≠0:=fun z=>by subst z;simp at c
   refine⟨_,rfl,_,rfl,_,_,rfl,rfl,I,_,rfl,_,rfl,⟨_,_,_,rfl,rfl,?_,R,FM.fmod_nonneg I R⟩,?_⟩
   .rw[FM.Vc];exact M
   .exact FM.Sh g l I
  .have I:l=0:=by simpa using c
   subst I;refine⟨_,rfl,?_⟩;rw[FM.kA M h0];exact q
 .exact fun σ H Q Q' U ⟨v,e,s,k,Y,q⟩=>⟨v,e,s,k,Y,U _ _ q⟩
def Rt:Ad ["top","bottom","shared"] ["top","bottom"] (AO Fm):=Bk
def SV(F:Fn K mg "fraction_of" Fm ["top","bottom"] f fd)(A5:Fn K mg "greatest_divisor" Cj FI g gd) (B5:AI P w K mg base Ag 1 g gd FI Pz):AI P w K mg base Ag 2 f fd ["top","bottom"] UT:=by
 have sc:=Rt;refine F.F.ok (k:=1) sc Do (fun cdv A outer s H vs Q E Y h=>?_)
 .obtain⟨t,b,m,rfl,_⟩:=h
  rfl
 obtain⟨t,b,m,rfl,M,hm,U,q⟩:=h;refine⟨_,(AM (CO (Bn Qg Fy AU (Ay _))
  (AR ei)
  BX)
 (AM (Ai (i:=2) sc.nd rfl AT (A3 A5 B5 Y rfl (AE Fa (AE Fy AQ))))
 (AM (CO (Bn RC Fy AU (Ay _))
  (AR (Ai (i:=2) sc.nd rfl AT (gm Z6 (pv 2))))
  BX)
 (AR (Aw (JX (AE (Au Ek Fa (pv 2)) (AE (Au Ek Fy (pv 2)) AQ)))))))),?_⟩
 refine⟨_,rfl,rfl,_,rfl,Cm (fun c=>absurd c (by simpa using M)) (fun _=>?_)⟩;refine⟨_,rfl,_,rfl,t,b,rfl,?_⟩
 try dsimp only[Ea]
 refine Iy (fun I H'=>I=[some (.int t),some (.int b),some (.int (FM.gs t b))]/\H=H') (fun nx hn=>?_) ?_
 .refine⟨_,rfl,_,_,rfl,rfl,_,rfl,Cm (fun c=>?_) (fun c=>?_)⟩
  .have R:b<0:=ah c;refine⟨_,rfl,_,rfl,hn _ _ ⟨?_,rfl⟩⟩;unfold FM.gs;rw[if_pos R]
   rfl
  .have R:¬b<0:=bE (aj.mpr c);refine hn _ _ ⟨?_,rfl⟩;unfold FM.gs;rw[if_neg R]
   rfl
 .rintro I H' ⟨rfl,rfl⟩;have h0:FM.gs t b≠0:=FM.gp M;have T:(FM.gs t b).natAbs<2^m:=aQ (FM.gg M) U;refine⟨_,rfl,_,rfl,_,_,rfl,rfl,⟨h0,m,hm,T⟩,_,rfl,_,rfl,_,_,rfl,rfl,⟨h0,m,hm,T⟩,XZ,fun p Z=>?_⟩;refine q p _ (AZ Z _) ?_;rw[AN];show some (HO.tup [V.int (t.fdiv (FM.gs t b)),V.int (b.fdiv (FM.gs t b))])=_;rw[FM.Zp M,FM.b6 M]
  rfl
end
def V7:Sp:=fun vs H Q _=>∃(l:AD) (x n:Int),vs=[.ref l,.int n]/\H l=some (.lst [.int x])/\0<n/\n<2^64/\∀r y:Int,0<=r->r<n->Q (.int r) (upd H l (.lst [.int y]))
def Sa(K:Fg):Sp:=fun vs H Q _=>∃(a:AD) (ns:List Int) (k:Int),vs=[.ref a,.int k]/\Aj K H a (ns.map V.int)/\0<=k/\k<1000/\∀x:Int,Q (.int x) H
def Ru:Sp:=fun vs H Q _=>∃(l:AD) (x:Int),vs=[.ref l]/\H l=some (.lst [.int x])/\∀(p:AD) (r:Rat) (y:Int) (H':Hp),AJ (upd H l (.lst [.int y])) H'->H' p=some (.tup (Jp r))->r.num.natAbs<=6->r.den<=6->Q (.ref p) H'
def dF:∀i,i<13->∀j,j<6->(Rat.divInt ((i:Nat)-6:Int) (1+(j:Nat):Int)).num.natAbs<=6/\(Rat.divInt ((i:Nat)-6:Int) (1+(j:Nat):Int)).den<=6:=by decide +kernel
def W8{i j:Int}(h1:0<=i)(M:i<13)(g:0<=j)(I:j<6):(Rat.divInt (i-6) (1+j)).num.natAbs<=6/\(Rat.divInt (i-6) (1+j)).den<=6:=by
 have:=dF i.toNat AC j.toNat AC
 rwa [Int.toNat_of_nonneg h1,Int.toNat_of_nonneg g]at this
section
variable{P:F0b}{w:F0c}{K:Fg}{mg:tF}{base:Heap}{f g g1 g2:AD}{fd gd gd1 gd2:F0a}
def Vt:Ad ["_law_pile","_law_size","_law_digit"] ["_law_pile","_law_size"] (AO JU):=Bk
def U5(F:Fn K mg "_law_take" JU ["_law_pile","_law_size"] f fd):AI P w K mg base Ag 1 f fd ["_law_pile","_law_size"] V7:=by
 have sc:=Vt;refine F.F.ok (k:=0) sc Do (fun cdv A outer s H vs Q E M h=>?_)
 .obtain⟨l,x,n,rfl,_⟩:=h
  rfl
 obtain⟨l,x,n,rfl,I,h0,R,q⟩:=h;refine⟨_,(AM (Ai (i:=2) sc.nd rfl AT (Au Oz (B1 Kp Fa AU Da) Fy))
 (AM (VU (Au Ek (B1 Kp Fa AU Da) Fy) (Wh Fa AU set_list))
 (AR (Aw (pv 2))))),?_⟩
 refine⟨_,rfl,_,_,_,_,rfl,rfl,Aj.of I,rfl,_,rfl,_,_,rfl,rfl,(by show n≠0;lia),?_⟩;refine⟨_,rfl,_,_,_,_,rfl,rfl,Aj.of I,rfl,_,rfl,_,_,rfl,rfl,⟨by lia,64,by decide,by lia⟩,_,rfl,l,_,_,0,rfl,rfl,I,rfl,_,rfl,?_⟩;exact q _ _ (Int.fmod_nonneg_of_pos x h0) (Int.fmod_lt_of_pos x h0)
def Sd:Ad ["_law_one","_law_other"] ["_law_one","_law_other"] (AO KA):=Bk
def sg(σ:St):Nat:=match σ[1]? with|some (some (V.int l))=>l.natAbs|_=>0
def Rh(F:Fn K mg "_law_shared" KA ["_law_one","_law_other"] f fd)(U:mg "abs" = none):AI P w K mg base Ag 1 f fd ["_law_one","_law_other"] Pz:=by
 have sc:=Sd;refine F.F.ok (k:=0) sc Do (fun cdv A outer s H vs Q E Y h=>?_)
 .obtain⟨a,b,rfl,_⟩:=h
  rfl
 obtain⟨a,b,rfl,q⟩:=h;refine⟨_,(AM (Po aP (Bn M7 Fy AU (Ay _))
  (AR (mZ (i:=0) (j:=1) rfl sc.nd rfl rfl AS rfl rfl (AE Fy (AE (Au Oz Fa Fy) AQ)) rfl)))
 (AR (Aw (BM QF rfl U PyProof.Rows.boot_abs (AE Fa AQ))))),?_⟩
 refine P8 (fun σ H'=>∃g l,σ=[some (.int g),some (.int l)]/\H=H'/\Int.gcd g l=Int.gcd a b) (fun σ _=>sg σ) ⟨_,_,rfl,rfl,rfl⟩ ?_ ?_
 .rintro σ H' ⟨g,l,rfl,rfl,M⟩;refine⟨_,rfl,rfl,_,rfl,Cm (fun c=>?_) (fun c=>?_)⟩
  .have I:l≠0:=fun z=>by subst z;simp at c
   refine⟨_,rfl,_,rfl,_,rfl,_,_,rfl,rfl,I,_,_,rfl,⟨_,_,rfl,rfl,?_⟩,?_⟩
   .rw[FM.Vc];exact M
   .exact FM.Sh g l I
  .have I:l=0:=by simpa using c
   subst I;refine⟨_,rfl,_,rfl,?_⟩;rw[FM.jR M];exact q
 .exact fun σ H Q Z R ⟨v,e,s,k,T,q⟩=>⟨v,e,s,k,T,R _ _ q⟩
def U6:Ad ["_law_top","_law_bottom","_law_by_here"] ["_law_top","_law_bottom"] (AO L6):=Bk
def VT(F:Fn K mg "_law_frac" L6 ["_law_top","_law_bottom"] f fd)(HI:Fn K mg "_law_shared" KA ["_law_one","_law_other"] g gd) (Ti:AI P w K mg base Ag 1 g gd ["_law_one","_law_other"] Pz):AI P w K mg base Ag 2 f fd ["_law_top","_law_bottom"] UT:=by
 have sc:=U6;refine F.F.ok (k:=1) sc Do (fun cdv A outer s H vs Q E Y h=>?_)
 .obtain⟨t,b,m,rfl,_⟩:=h
  rfl
 obtain⟨t,b,m,rfl,M,hm,U,q⟩:=h;refine⟨_,(AM (Ai (i:=2) sc.nd rfl AT (A3 HI Ti Y rfl (AE Fa (AE Fy AQ))))
 (AM (CO (Bn RC Fy AU (Ay _))
  (AR (Ai (i:=2) sc.nd rfl AT (Au Jc AU (pv 2))))
  BX)
 (AR (Aw (JX (AE (Au Ek Fa (pv 2)) (AE (Au Ek Fy (pv 2)) AQ))))))),?_⟩
 refine⟨_,rfl,_,rfl,t,b,rfl,?_⟩
 try dsimp only[Ea]
 refine Iy (fun I H'=>I=[some (.int t),some (.int b),some (.int (FM.gs t b))]/\H=H') (fun nx hn=>?_) ?_
 .refine⟨_,rfl,_,_,rfl,rfl,_,rfl,Cm (fun c=>?_) (fun c=>?_)⟩
  .have R:b<0:=ah c;refine⟨_,rfl,_,_,rfl,rfl,hn _ _ ⟨?_,rfl⟩⟩;show [some (V.int t),some (V.int b),some (V.int (0-FM.gi t b))]=_;unfold FM.gs;rw[if_pos R,Int.zero_sub]
  .have R:¬b<0:=bE (aj.mpr c);refine hn _ _ ⟨?_,rfl⟩;unfold FM.gs;rw[if_neg R]
   rfl
 .rintro I H' ⟨rfl,rfl⟩;have h0:FM.gs t b≠0:=FM.gp M;have T:(FM.gs t b).natAbs<2^m:=aQ (FM.gg M) U;refine⟨_,rfl,_,rfl,_,_,rfl,rfl,⟨h0,m,hm,T⟩,_,rfl,_,rfl,_,_,rfl,rfl,⟨h0,m,hm,T⟩,XZ,fun p Z=>?_⟩;refine q p _ (AZ Z _) ?_;rw[AN];show some (HO.tup [V.int (t.fdiv (FM.gs t b)),V.int (b.fdiv (FM.gs t b))])=_;rw[FM.Zp M,FM.b6 M]
  rfl
def U3:Ad ["_law_script","_law_k","_law_cell_here","_law_number","_law_found","_law_turn"] ["_law_script","_law_k"] (AO Ei):=Bk
def UY(F:Fn K mg "_law_cell" Ei ["_law_script","_law_k"] f fd)(Bw:mg "len" = none)(Ct:mg "range" = none):AI P w K mg base Ag 1 f fd ["_law_script","_law_k"] (Sa K):=by
 have sc:=U3;refine F.F.ok (k:=0) sc Do DP
 .obtain⟨a,ns,k,rfl,_⟩:=h
  rfl
 obtain⟨a,ns,k,rfl,Y,h0,U,q⟩:=h;refine⟨_,(AM (Ai (i:=2) sc.nd rfl AT AU)
 (AM (CO (Bn RC Fy (BM D7 rfl Bw bM (AE Fa AQ)) (Ay _))
  (AR (Ai (i:=2) sc.nd rfl AT (B1 Kp Fa Fy Da)))
  BX)
 (AM (CO (Bn Yj (pv 2) (Au RA AU AU) (Ay _))
  (AR (Aw (Au Ma (Au Jc (pv 2) (Au RA AU AU)) (Au RA AU AU))))
  BX)
 (AM (Ai (i:=3) sc.nd rfl AT (Au Ma (Au Ff (Au Ff (Au Ci (pv 2) AU) (Au Ci Fy AU)) AU) AU))
 (AM (Ai (i:=4) sc.nd rfl AT AU)
 (AM (C0 aP rfl (Hj rfl Ct (AE AU AQ)) (Az (i:=5) sc.nd rfl AT)
  (AM (Ai (i:=3) sc.nd rfl AT (Au Ma (Au Ff (Au Ff (Au Ci (pv 3) (pv 3)) (Au Ci AU (pv 5))) AU) AU))
  (AR (Ai (i:=4) sc.nd rfl AT (Au Ff (Au Ci (pv 4) AU) (Au Ma (Au Ci (pv 3) (pv 3)) AU))))))
 (AR (Aw (pv 4))))))))),?_⟩
 try dsimp only[Ea]
 refine Iy (fun I H'=>∃c:Int,I=[some (.ref a),some (.int k),some (.int c),none,none,none]/\H=H') (fun nx hn=>?_) ?_
 .exact hn _ _ ⟨0,rfl,rfl⟩
 rintro _ _ ⟨_,rfl,rfl⟩
 try dsimp only[Ea]
 refine Iy (fun I H'=>∃c:Int,I=[some (.ref a),some (.int k),some (.int c),none,none,none]/\H=H') (fun nx hn=>?_) ?_
 .refine⟨_,rfl,_,rfl,a,_,rfl,.inl Y,_,_,rfl,rfl,_,rfl,Cm (fun c=>?_) (fun c=>?_)⟩
  .have c':k<(((ns.map V.int).length:Nat):Int):=ah c;rw[(Af)]at c';have U:k.toNat<ns.length:=by lia
   have R:GJ (ns.map V.int) k=some (.int ns[k.toNat]):=by
    have z:=Ew (xs:=ns.map V.int) (j:=k.toNat) (v:=.int ns[k.toNat]) (by rw[(BP),List.getElem?_eq_getElem U];rfl)
    rwa [show((k.toNat:Nat):Int)=k by lia]at z
   exact⟨_,rfl,_,rfl,a,_,_,_,rfl,rfl,Y,R,hn _ _ ⟨_,rfl,rfl⟩⟩
  .exact hn _ _ ⟨_,rfl,rfl⟩
 rintro _ _ ⟨c,rfl,rfl⟩;refine⟨_,rfl,_,_,rfl,rfl,⟨by decide,by decide,by decide⟩,_,_,rfl,rfl,_,rfl,Cm (fun _=>?_) (fun _=>?_)⟩
 .exact⟨_,rfl,_,_,rfl,rfl,⟨by decide,by decide,by decide⟩,_,_,rfl,rfl,_,_,rfl,rfl,⟨by decide,by decide,by decide⟩,_,_,rfl,rfl,(by show(0:Int)<10^60;decide),q _⟩
 .refine⟨_,rfl,_,_,rfl,rfl,mulC AS AS,_,rfl,_,_,rfl,rfl,mulC AS AS,_,_,rfl,rfl,_,_,rfl,rfl,_,_,rfl,rfl,(by show(0:Int)<2147483629;decide),?_⟩;have z0:0<=(c*48271+k*69621+11) % 2147483629:=Int.emod_nonneg _ AS;have Z:(c*48271+k*69621+11) % 2147483629<2147483629:=Int.emod_lt_of_pos _ AS;refine⟨8,rfl,by decide,by decide,Nt (n:=8) (fun _ σ H'=>∃(m T:Int) (M:Option V),σ=[some (.ref a),some (.int k),some (.int c),some (.int m),some (.int T),M]/\0<=m/\m<2147483629/\H=H') ⟨(c*48271+k*69621+11) % 2147483629,0,none,rfl,z0,Z,rfl⟩ ?_ ?_⟩
  .rintro i σ H' hi ⟨m,T,M,rfl,m0,m1,rfl⟩;refine⟨_,rfl,_,rfl,_,_,rfl,rfl,mulC AC AC,_,rfl,_,_,rfl,rfl,mulL AS AS,_,_,rfl,rfl,_,_,rfl,rfl,_,_,rfl,rfl,(by show(0:Int)<2147483587;decide),?_⟩;have y0:0<=(m*m+69621*(0+(i:Nat))+7) % 2147483587:=Int.emod_nonneg _ AS;have y1:(m*m+69621*(0+(i:Nat))+7) % 2147483587<2147483587:=Int.emod_lt_of_pos _ AS;exact⟨_,rfl,_,_,rfl,rfl,mulC AS AS,_,rfl,_,rfl,((m*m+69621*(0+(i:Nat))+7) % 2147483587:Int),((m*m+69621*(0+(i:Nat))+7) % 2147483587:Int),rfl,rfl,mulC AC AC,_,_,rfl,rfl,(by show(0:Int)<2147483563;decide),_,_,rfl,rfl,_,_,_,rfl,y0,by lia,rfl⟩
  .rintro σ H' ⟨m,T,M,rfl,m0,m1,rfl⟩;exact⟨_,rfl,q _⟩
def Uu:Ad ["_law_pile","_law_top"] ["_law_pile"] (AO JR):=Bk
def Wk(F:Fn K mg "_law_part" JR ["_law_pile"] f fd)(U:Fn K mg "_law_take" JU ["_law_pile","_law_size"] g1 gd1)(JW:Fn K mg "_law_frac" L6 ["_law_top","_law_bottom"] g2 gd2) (T:AI P w K mg base Ag 2 g1 gd1 ["_law_pile","_law_size"] V7)(W0:AI P w K mg base Ag 2 g2 gd2 ["_law_top","_law_bottom"] UT):AI P w K mg base Ag 3 f fd ["_law_pile"] Ru:=by
 have sc:=Uu;refine F.F.ok (k:=2) sc Do (fun cdv A outer s H vs Q E R h=>?_)
 .obtain⟨l,x,rfl,_⟩:=h
  rfl
 obtain⟨l,x,rfl,hl,q⟩:=h;refine⟨_,(AM (Ai (i:=1) sc.nd rfl AT (Au Jc (A3 U T R rfl (AE Fa (AE AU AQ))) AU))
 (AR (Aw (A3 JW W0 R rfl (AE Fy (AE (Au Ff AU (A3 U T R rfl (AE Fa (AE AU AQ)))) AQ)))))),?_⟩
 refine⟨_,rfl,l,x,13,rfl,hl,by decide,by decide,fun i y i0 i1=>⟨_,_,rfl,rfl,?_⟩⟩;refine⟨_,rfl,_,rfl,l,y,6,rfl,AN,by decide,by decide,fun j z Z Y=>⟨_,_,rfl,rfl,?_⟩⟩;have hd:=W8 i0 i1 Z Y;refine⟨i-6,1+j,8,rfl,by lia,by decide,by lia,fun p H' e hp=>?_⟩;refine q p _ z H' (fun b o M=>e _ _ ?_) hp hd.1 hd.2;by_cases I:b=l
 .subst I;rw[AN]at M ⊢;exact M
 .rw[AK I]at M;rw[AK I,AK I];exact M
end
def iT:Sp:=fun vs H Q _=>∃(a:AD) (bs:List Int) (k:Nat),vs=[.ref a]/\H a=some (.lst (bs.map V.int))/\(∀b∈bs,1<=b/\b.natAbs<2^k)/\k*bs.length<=4000 /\
 ∀c:Int,1<=c->c.natAbs<2^(k*bs.length+1)->(∀b∈bs,b ∣ c)->Q (.int c) H
def Mm{c b:Int}(T:1<=c)(U:1<=b):1<=c.fdiv (FM.gi c b)*b/\c ∣ c.fdiv (FM.gi c b)*b/\b ∣ c.fdiv (FM.gi c b)*b/\(c.fdiv (FM.gi c b)).natAbs<=c.natAbs:=by
 have R:0<FM.gi c b:=FM.LB AC;obtain⟨q,M⟩:=FM.MC c b;obtain⟨r,g⟩:=FM.OX c b;have e:=FM.Fd (Int.ne_of_gt R) M;refine⟨?_,?_,Int.dvd_mul_left _ _,FM.F7 _ _⟩
 .rw[e];have I:0<q:=by
   rcases Int.lt_or_le 0 q with h|h
   .exact h
   .have:=Int.mul_nonpos_of_nonneg_of_nonpos (Int.le_of_lt R) h
    lia
  exact Int.mul_pos I AC
 .rw[e];refine⟨r,?_⟩;rw[g]
  conv=>rhs;rw[M]
  rw[<-g,Int.mul_comm (FM.gi c b) q,Int.mul_assoc,Int.mul_comm (FM.gi c b) r]
  conv=>lhs;rw[g]
  rw[Int.mul_comm (FM.gi c b) r]
def div_add(x y:Int){c:Int}(g:c≠0):Rat.divInt (x+y) c=Rat.divInt x c+Rat.divInt y c:=by
 rw[Rat.divInt_add_divInt _ _ g g,<-Int.add_mul,Rat.divInt_mul_right g]
def div_one{t b c:Int}(I:b≠0)(g:c≠0)(h:b ∣ c):Rat.divInt (t*c.fdiv b) c=Rat.divInt t b:=by
 obtain⟨q,rfl⟩:=h;rw[FM.Fd I rfl,Rat.divInt_mul_right (fun z=>g (by rw[z,Int.mul_zero]))]
theorem X9{c:Int}(g:c≠0):∀ {ps:List (Int×Int)},(∀p∈ps,p.2≠0/\p.2 ∣ c)->Rat.divInt (ps.map fun p=>p.1*c.fdiv p.2).sum c=(ps.map fun p=>Rat.divInt p.1 p.2).sum
 |[],_=>by simp
 |p::ps,h=>by
  obtain⟨R,M⟩:=h p aO;rw[(BA),(GX),(BA),(GX),div_add _ _ g,div_one R g M,X9 g fun q I=>h q (aK _ I)]
def Q8:Sp:=fun vs H Q _=>∃(b:Int) (p k:Nat),vs=[.int b,.int p]/\b.natAbs<2^k/\k*p<=4000/\Q (.int (b^p)) H
def IK{b:Int}{k e p:Nat}(M:b.natAbs<2^k)(I:e<=p):(b^e).natAbs<2^(k*p+1):=by
 rw[Int.natAbs_pow];have g:b.natAbs^e<=(2^k)^e:=Nat.pow_le_pow_left (Nat.le_of_lt M) e;rw[<-Nat.pow_mul]at g;exact aQ g (Nat.pow_lt_pow_right AS (Nat.lt_succ_of_le (aR k I)))
def sL(σ:St):Nat:=match σ[4]? with|some (some (V.int l))=>l.natAbs|_=>0
section
variable{P:F0b}{w:F0c}{K:Fg}{mg:tF}{base:Heap}{f g:AD}{fd gd:F0a}
def LC:Ad ["bottoms","common","bottom"] ["bottoms"] (AO DV):=Bk
def QA(F:Fn K mg "common_bottom" DV ["bottoms"] f fd)(A5:Fn K mg "greatest_divisor" Cj FI g gd) (B5:AI P w K mg base Ag 1 g gd FI Pz):AI P w K mg base Ag 2 f fd ["bottoms"] iT:=by
 have sc:=LC;refine F.F.ok (k:=1) sc Do DP
 .obtain⟨a,bs,k,rfl,_⟩:=h
  rfl
 obtain⟨a,bs,k,rfl,ha,Y,hk,q⟩:=h;refine⟨_,(AM (Ai (i:=1) sc.nd rfl AT AU)
 (AM (C0 aP rfl (B4 Fa) (Az (i:=2) sc.nd rfl AT)
  (AR (Ai (i:=1) sc.nd rfl AT (Au Ci (Au Ek Fy (A3 A5 B5 hr rfl (AE Fy (AE (pv 2) AQ)))) (pv 2)))))
 (AR (Aw Fy)))),?_⟩
 refine⟨_,rfl,a,rfl,⟨_,Aj.of ha⟩,Em (xs:=bs.map V.int) (fun i σ H'=>∃(c:Int) (r:Option V),σ=[some (.ref a),some (.int c),r]/\H=H'/\1<=c/\c.natAbs<2^(k*i+1)/\∀j b,j<i->bs[j]? = some b->b ∣ c) ?_ ?_ ?_ ?_⟩
 .exact⟨1,_,rfl,rfl,by decide,by simp,fun j b h=>absurd h (av _)⟩
 .rintro i σ H' _ ⟨c,r,rfl,rfl,_⟩;exact Aj.of ha
 .rintro i x σ H' T ⟨c,r,rfl,rfl,Z,R,M⟩;have hi:i<bs.length:=by have:=(aB.mp T).1;simpa using this
  rw[(BP),List.getElem?_eq_getElem hi]at T;cases T;obtain⟨b1,b2⟩:=Y _ (List.getElem_mem hi);obtain⟨s1,s2,s3,s4⟩:=Mm Z b1;have hg:FM.gi c bs[i]≠0:=Int.ne_of_gt (FM.LB AC);have hki:k*i+k<=4000:=by
   have:k*(i+1)<=k*bs.length:=aR k hi;rw[Nat.mul_succ]at this
   lia
  have n1:(c.fdiv (FM.gi c bs[i])).natAbs<2^(k*i+1):=aQ s4 R;refine⟨_,rfl,_,rfl,_,rfl,c,bs[i],rfl,_,_,rfl,rfl,⟨hg,k,by have:k*1<=k*bs.length:=aR k AC;lia,Nat.lt_of_le_of_lt (FM.YW AC) b2⟩,_,rfl,_,_,rfl,rfl,MA n1 b2 AC,_,_,rfl,rfl,s1,?_,fun j b U I=>?_⟩
  .have:=FM.Dl n1 b2;rw[Nat.mul_succ,show k*i+k+1=k*i+1+k by lia];exact this
  .by_cases z:j=i
   .subst z;rw[List.getElem?_eq_getElem hi]at I;cases I;exact s3
   .exact Int.dvd_trans (M j b AC I) s2
 .rintro σ H' ⟨c,r,rfl,rfl,Z,R,M⟩;rw[(Af)]at R M;refine⟨_,rfl,q c Z R fun b Y=>?_⟩;obtain⟨j,U⟩:=bG Y;exact M j b (aB.mp U).1 U
def T5:Ad ["some","bottom"] ["some"] (AO Ip):=Bk
def W5:Ad ["base","power","product","square","left"] ["base","power"] (AO FZ):=Bk
def Ww(F:Fn K mg "power_of" FZ ["base","power"] f fd):AI P w K mg base Ag 1 f fd ["base","power"] Q8:=by
 have sc:=W5;refine F.F.ok (k:=0) sc Do DP
 .obtain⟨b,p,k,rfl,_⟩:=h
  rfl
 obtain⟨b,p,k,rfl,Z,hk,q⟩:=h;refine⟨_,(AM (Ai (i:=2) sc.nd rfl AT AU)
 (AM (Ai (i:=3) sc.nd rfl AT Fa)
 (AM (Ai (i:=4) sc.nd rfl AT Fy)
 (AM (Po aP (Bn UG (pv 4) AU (Ay _))
  (AM (CO (Bn Qg (Au Ma (pv 4) AU) AU (Ay _))
   (AR (Ai (i:=2) sc.nd rfl AT (Au Ci (pv 2) (pv 3))))
   BX)
  (AM (Ai (i:=4) sc.nd rfl AT (Au jg (pv 4) AU))
  (AR (CO (Bn UG (pv 4) AU (Ay _))
   (AR (Ai (i:=3) sc.nd rfl AT (Au Ci (pv 3) (pv 3))))
   BX)))))
 (AR (Aw (pv 2))))))),?_⟩
 refine⟨_,rfl,_,rfl,?_⟩;refine P8 (fun σ H'=>∃e f l:Nat,σ=[some (.int b),some (.int p),some (.int (b^e)),some (.int (b^f)),some (.int l)]/\H=H'/\e+f*l=p) (fun σ _=>sL σ) ?_ ?_ ?_
 .refine⟨0,1,p,?_,rfl,by lia⟩;rw[Int.pow_zero,Int.pow_succ,Int.pow_zero,Int.one_mul]
  rfl
 .rintro σ H' ⟨e,f,l,rfl,rfl,Y⟩;refine⟨_,rfl,_,_,rfl,rfl,_,rfl,Cm (fun c=>?_) (fun c=>?_)⟩
  .have hl:0<l:=by have:=ah c;lia
   have I:f<=p:=by
    have:f*1<=f*l:=aR f hl
    lia
   try dsimp only[Ea]
   refine Iy (fun T H'=>∃R:Nat,T=[some (.int b),some (.int p),some (.int (b^R)),some (.int (b^f)),some (.int l)]/\H=H'/\R+f*(2*(l / 2))=p) (fun nx U=>?_) ?_
   .refine⟨_,rfl,_,_,rfl,rfl,(by show(0:Int)<2;decide),rfl,_,rfl,Cm (fun c=>?_) (fun c=>?_)⟩
    .have hodd:l % 2=1:=by
      have:((l:Int) % 2)=1:=by simpa using c
      lia
     refine⟨_,rfl,_,rfl,_,_,rfl,rfl,MA (IK Z (show e<=p by lia)) (IK Z I) AC,U _ _ ⟨e+f,?_,rfl,?_⟩⟩
     .show [some (V.int b),some (V.int p),some (V.int (b^e*b^f)),some (V.int (b^f)),some (V.int l)]=_;rw[<-Int.pow_add]
     .have:l=2*(l / 2)+1:=by lia
      rw[<-Y]
      conv=>rhs;rw[this,Nat.mul_add,Nat.mul_one]
      lia
    .have hev:l % 2=0:=by
      have:¬((l:Int) % 2)=1:=by simpa using c
      lia
     refine U _ _ ⟨e,rfl,rfl,?_⟩;rw[show 2*(l / 2)=l by lia];exact Y
   .rintro T _ ⟨R,rfl,rfl,M⟩;refine⟨_,rfl,_,_,rfl,rfl,⟨by decide,by decide⟩,?_⟩;have el:((l:Int) / 2)=((l / 2:Nat):Int):=by lia
    refine⟨_,rfl,_,_,rfl,rfl,_,rfl,Cm (fun c=>?_) (fun c=>?_)⟩
    .refine⟨_,rfl,_,rfl,_,_,rfl,rfl,MA (IK Z I) (IK Z I) AC,⟨R,f+f,l / 2,?_,rfl,?_⟩,?_⟩
     .show [some (V.int b),some (V.int p),some (V.int (b^R)),some (V.int (b^f*b^f)),some (V.int ((l:Int) / 2))]=_;rw[el,<-Int.pow_add]
     .rw[<-M,<-Nat.two_mul,Nat.mul_assoc,Nat.mul_left_comm]
     .show((l:Int) / 2).natAbs<((l:Nat):Int).natAbs
      lia
    .refine⟨⟨R,f,l / 2,?_,rfl,?_⟩,?_⟩
     .show [some (V.int b),some (V.int p),some (V.int (b^R)),some (V.int (b^f)),some (V.int ((l:Int) / 2))]=_;rw[el]
     .have:l / 2=0:=by have:=bE (aj.mpr c);lia
      rw[this]at M ⊢
      simpa using M
     .show((l:Int) / 2).natAbs<((l:Nat):Int).natAbs
      lia
  .have hl:l=0:=by have:=bE (aj.mpr c);lia
   subst hl;rw[Nat.mul_zero,Nat.add_zero]at Y;subst Y;exact⟨_,rfl,q⟩
 .exact fun σ H Q Q' hq ⟨v,e,s,k,e2,e3,e4,q1,q2⟩=>⟨v,e,s,k,e2,e3,e4,q1,hq _ _ q2⟩
end
mutual
theorem fY{l p:AD}{H:Hp}(I:H p=none):∀ {d:PD} {v:V},Dt l H d v->Dt p H d v
 |.none,_,h=>by rw[Dt]at h ⊢;exact h
 |.bool _,_,h=>by rw[Dt]at h ⊢;exact h
 |.int _,_,h=>by rw[Dt]at h ⊢;exact h
 |.str _,_,h=>by rw[Dt]at h ⊢;exact h
 |.tuple _,_,h=>by
  rw[Dt]at h ⊢;obtain⟨a,xs,R,n,g,M⟩:=h;exact⟨a,xs,R,AV g I,g,JP I M⟩
 |.list _,_,h=>by
  rw[Dt]at h ⊢;obtain⟨a,xs,R,n,g,M⟩:=h;exact⟨a,xs,R,AV g I,g,JP I M⟩
 |.dict _,_,h=>by rw[Dt]at h;exact h.elim
theorem JP{l p:AD}{H:Hp}(g:H p=none):∀ {ds:List PD} {xs:List V},Aa l H ds xs->Aa p H ds xs
 |[],_,h=>by rw[Aa]at h ⊢;exact h
 |_::_,_,h=>by
  rw[Aa]at h ⊢;obtain⟨x,r,R,M,I⟩:=h;exact⟨x,r,R,fY g M,JP g I⟩
end
def DU(H:Hp)(d:PD)(v:V):Prop:=∃N:Nat,∀l,N<=l->Dt l H d v
def Bm(H:Hp)(ds:sx)(xs:tR):Prop:=∃N:Nat,∀l,N<=l->Aa l H ds xs
def DU.same{H H':Hp}{d:PD}{v:V}(h:DU H d v)(e:AJ H H'):DU H' d v:=let⟨N,k⟩:=h;⟨N,fun l g=>(k l g).same e⟩
def Bm.same{H H':Hp}{d:sx}{v:tR}(h:Bm H d v)(e:AJ H H'):Bm H' d v:=let⟨N,k⟩:=h;⟨N,fun l g=>(k l g).same e⟩
def DU.int{H:Hp}{i:Int}:DU H (.int i) (.int i):=⟨0,fun _ _=>.int⟩
def DU.bool{H:Hp}{i:Bool}:DU H (.bool i) (.bl i):=⟨0,fun _ _=>.bool⟩
def DU.Bf{H:Hp}:DU H .none .Bf:=⟨0,fun _ _=>.Bf⟩
def DU.str{H:Hp}{x:Str}:DU H (.str x) (.str x):=⟨0,fun _ _=>.str⟩
def Bm.nil{H:Hp}:Bm H [] []:=⟨0,fun _ _=>.nil⟩
def Bm.cons{H:Hp}{d:PD}{ds:sx}{x:V}{xs:tR}(h:DU H d x)(k:Bm H ds xs):Bm H (d::ds) (x::xs) :=
 let⟨N,a⟩:=h;let⟨M,b⟩:=k;⟨max N M,fun l g=>.cons (a l AC) (b l AC)⟩
def Bm.app{H:Hp}{ds es:sx}{xs ys:tR}(h:Bm H ds xs)(k:Bm H es ys):Bm H (ds++es) (xs++ys) :=
 let⟨N,a⟩:=h;let⟨M,b⟩:=k;⟨max N M,fun l g=>(a l AC).app (b l AC)⟩
def Bm.len{H:Hp}{ds:sx}{xs:tR}(h:Bm H ds xs):xs.length=ds.length:=let⟨N,a⟩:=h;(a N (aG _)).len
def Bm.get{H:Hp}{ds:sx}{xs:tR}{i:Nat}{d:PD}(h:Bm H ds xs)(e:ds[i]? = some d):∃v,xs[i]? = some v/\DU H d v:=by
 have g:=h.len;have hi:i<xs.length:=by rw[g];exact(aB.mp e).1
 have I:xs[i]? = some xs[i]:=by simp[hi]
 obtain⟨N,a⟩:=h;refine⟨xs[i],I,N,fun l g=>?_⟩;obtain⟨T,M,R⟩:=(a l g).get I;rw[e]at M;cases M;exact R
def DU.lst{H:Hp}{a:AD}{ds:sx}{xs:tR}(h:H a=some (.lst xs))(k:Bm H ds xs):DU H (.list ds) (.ref a) :=
 let⟨N,b⟩:=k;⟨max N (a+1),fun l g=>.lst (aM (show a<l from aH (Nat.lt_succ_self a) (aT (Nat.le_max_right _ _) g))) h (b l AC)⟩
def DU.tup{H:Hp}{a:AD}{ds:sx}{xs:tR}(h:H a=some (.tup xs))(k:Bm H ds xs):DU H (.tuple ds) (.ref a) :=
 let⟨N,b⟩:=k;⟨max N (a+1),fun l g=>.tup (aM (show a<l from aH (Nat.lt_succ_self a) (aT (Nat.le_max_right _ _) g))) h (b l AC)⟩
def DU.Vp{H:Hp}{ds:sx}{v:V}(h:DU H (.list ds) v):∃a xs,v=.ref a/\H a=some (.lst xs)/\Bm H ds xs:=by
 obtain⟨N,b⟩:=h;have h0:=b N (aG _);rw[Dt]at h0;obtain⟨a,xs,rfl,_,ha,_⟩:=h0;refine⟨a,xs,rfl,ha,N,fun l T=>?_⟩;have M:=b l T;rw[Dt]at M;obtain⟨U,R,e,_,g,I⟩:=M;cases e;rw[ha]at g;cases g;exact I
def DU.qN{H:Hp}{ds:sx}{v:V}(h:DU H (.tuple ds) v):∃a xs,v=.ref a/\H a=some (.tup xs)/\Bm H ds xs:=by
 obtain⟨N,b⟩:=h;have h0:=b N (aG _);rw[Dt]at h0;obtain⟨a,xs,rfl,_,ha,_⟩:=h0;refine⟨a,xs,rfl,ha,N,fun l T=>?_⟩;have M:=b l T;rw[Dt]at M;obtain⟨U,R,e,_,g,I⟩:=M;cases e;rw[ha]at g;cases g;exact I
def Bm.Ln{H:Hp}{d e:PD}{xs:tR}(h:Bm H [d,e] xs):∃x y,xs=[x,y]/\DU H d x/\DU H e y:=by
 obtain⟨x,I,R⟩:=h.get (i:=0) rfl;obtain⟨y,g,M⟩:=h.get (i:=1) rfl;have:=h.len
 match xs,this with
 |[a,b],_=>
  simp at I g;subst I g;exact⟨a,b,rfl,R,M⟩
mutual
theorem pJ{c:AD}{H:Hp}:∀ {d:PD} {v:V},Dt c H d v->DU H d v
 |.none,_,h=>by rw[Dt]at h;subst h;exact .Bf
 |.bool _,_,h=>by rw[Dt]at h;subst h;exact .bool
 |.int _,_,h=>by rw[Dt]at h;subst h;exact .int
 |.str _,_,h=>by rw[Dt]at h;subst h;exact .str
 |.tuple _,_,h=>by
  rw[Dt]at h;obtain⟨a,xs,rfl,n,I,g⟩:=h;exact .tup I (HP g)
 |.list _,_,h=>by
  rw[Dt]at h;obtain⟨a,xs,rfl,n,I,g⟩:=h;exact .lst I (HP g)
 |.dict _,_,h=>by rw[Dt]at h;exact h.elim
theorem HP{c:AD}{H:Hp}:∀ {ds:List PD} {xs:List V},Aa c H ds xs->Bm H ds xs
 |[],_,h=>by rw[Aa]at h;subst h;exact .nil
 |_::_,_,h=>by
  rw[Aa]at h;obtain⟨x,r,rfl,I,g⟩:=h;exact .cons (pJ I) (HP g)
end
def DU.ints{H:Hp}{ps:tJ}{v:V}(h:DU H (.tuple (ps.map .int)) v):∃a,v=.ref a/\H a=some (.tup (ps.map V.int)):=by
 obtain⟨a,xs,rfl,ha,M⟩:=h.qN;refine⟨a,rfl,?_⟩;rw[ha]
 congr 2
 obtain⟨N,b⟩:=M;have:=b N (aG _);clear b ha h
 induction ps generalizing xs with
 |nil=>rw[(Mw),Aa]at this;exact this
 |cons p ps I=>
  rw[(BA),Aa]at this;obtain⟨x,r,rfl,g,R⟩:=this;rw[Dt]at g;subst g;rw[(BA),I r R]
def EX:PD->Bool
 |.tuple [.int a,.int b]=>decide (1<=b)&&(FM.gi a b==1)
 |_=>false
def QG{ds:sx}(h:ds.length≠2\/∃I g,ds=[I,g]/\((Jb I && !Hn I)=false\/(Jb g && !Hn g)=false)):EX (.tuple ds)=false:=by
 rcases h with h|⟨I,g,rfl,h⟩
 .match ds,h with
  |[],_=>rfl
  |[a],_=>cases a<;>rfl
  |[_,_],h=>exact absurd rfl h
  |a::b::_::_,_=>cases a<;>first|rfl|(cases b<;>rfl)
 .cases I<;>first|rfl|(cases g<;>first|rfl|(exfalso;rcases h with h|h<;>exact absurd h (by simp[Jb,Hn])))
def WU:Sp:=fun vs H Q _=>∃l d v,vs=[v]/\Dt l H d v/\Q (.bl (Jb d && !Hn d)) H
def We:Sp:=fun vs H Q _=>∃l d v,vs=[v]/\Dt l H d v/\Q (.bl (EX d)) H
def Nx{d:PD}(h:(Jb d && !Hn d)=true):∃i,d=.int i:=by
 cases d<;>first|exact⟨_,rfl⟩|(exact absurd h (by simp[Jb,Hn]))|(rename_i b;cases b<;>exact absurd h AS)
section
variable{P:F0b}{w:F0c}{K:Fg}{mg:tF}{base:Heap}{f g1 g2:AD}{fd gd1 gd2:F0a}
def W3:Ad ["thing"] ["thing"] (AO KU):=Bk
def XA(F:Fn K mg "is_whole" KU ["thing"] f fd)(g:mg "isinstance" = none)(I:mg "int" = none)(M:mg "bool" = none):AI P w K mg base Ag 1 f fd ["thing"] WU:=by
 have sc:=W3;refine F.F.ok (k:=0) sc Do (fun cdv A outer s H vs Q E R h=>?_)
 .obtain⟨l,d,v,rfl,_⟩:=h
  rfl
 obtain⟨l,d,v,rfl,hd,q⟩:=h;refine⟨_,(AR (Aw (Qn (BM FY rfl g af (AE Fa (AE (Fw (v:=.ty "int") rfl I PyProof.Rows.boot_int rfl) AQ))) (RV (nX (BM FY rfl g af (AE Fa (AE (Fw (v:=.ty "bool") rfl M PyProof.Rows.boot_bool rfl) AQ)))))))),?_⟩;refine⟨_,rfl,_,_,_,_,rfl,S6,hd.ty,fV K d hd.nodict,_,rfl,Cm (fun c=>⟨_,rfl,_,_,_,_,rfl,S6,hd.ty,cV K d hd.nodict,_,rfl,?_⟩) (fun c=>?_)⟩
 .rw[c,(JA)]at q;exact q
 .rw[Bool.eq_false_iff.mpr c,(LH)]at q;exact q
def Rq:Ad ["thing"] ["thing"] (AO HM):=Bk
def SX(F:Fn K mg "is_fraction" HM ["thing"] f fd)(Ef:Fn K mg "is_whole" KU ["thing"] g1 gd1)(A5:Fn K mg "greatest_divisor" Cj FI g2 gd2) (Kg:AI P w K mg base Ag 1 g1 gd1 ["thing"] WU)(B5:AI P w K mg base Ag 1 g2 gd2 FI Pz)(AX:mg "isinstance" = none)(BZ:mg "tuple" = none)(Bw:mg "len" = none):AI P w K mg base Ag 2 f fd ["thing"] We:=by
 have sc:=Rq;refine F.F.ok (k:=1) sc Do DP
 .obtain⟨l,d,v,rfl,_⟩:=h
  rfl
 obtain⟨l,d,v,rfl,hd,q⟩:=h;refine⟨_,(AM (CO (PW.pt (KN (Ee (ER (BM FY rfl AX af (AE Fa (AE (Fw (v:=.ty "tuple") rfl BZ bA rfl) AQ))))) (Jd (Bn M7 (BM D7 rfl Bw bM (AE Fa AQ)) AU (Ay _)))))
  (AR (Aw Er))
  BX)
 (AM (CO (PW.pt (KN (Ee (ER (A3 Ef Kg hr rfl (AE (B1 Ce Fa AU Da) AQ)))) (Jd (Ee (ER (A3 Ef Kg hr rfl (AE (B1 Ce Fa AU Da) AQ)))))))
  (AR (Aw Er))
  BX)
 (AR (Aw (Qn (O1 Yj (B1 Ce Fa AU Da) AU (Ay _)) (RV (O1 Qg (A3 A5 B5 hr rfl (AE (B1 Ce Fa AU Da) (AE (B1 Ce Fa AU Da) AQ))) AU (Ay _)))))))),?_⟩
 refine⟨_,rfl,_,_,_,_,rfl,S6,hd.ty,NG K d hd.nodict,_,rfl,?_⟩;have no:Dj d=false->EX d=false:=fun z=>by cases d<;>first|rfl|exact absurd z (by simp[Dj])
 by_cases Z:Dj d=true
 .rw[Z];obtain⟨R,rfl⟩:∃R,d=.tuple R:=by cases d<;>first|exact⟨_,rfl⟩|exact absurd Z (by simp[Dj])
  rw[Dt]at hd;obtain⟨a,xs,rfl,na,ha,g⟩:=hd;have Y:=g.len;have s1:Ax K H a xs:=Ax.of ha;refine M1 ⟨_,rfl,a,xs,rfl,.inr s1,rfl,_,rfl,Cm (fun c=>?_) (fun c=>?_)⟩
  .have:R.length≠2:=by
    rw[<-Y];intro z;rw[z]at c;exact absurd c AS
   rw[QG (.inl this)]at q;exact q
  .have h2:xs.length=2:=by
    by_cases z:xs.length=2
    .exact z
    .exfalso
     refine c ?_;have:¬(V.int (xs.length:Nat)=V.int 2):=by simp;lia
     rw[decide_eq_false this];rfl
   obtain⟨U,T,rfl⟩:∃U T,R=[U,T]:=by
    match R,(show R.length=2 by lia) with
    |[x,y],_=>exact⟨x,y,rfl⟩
   rw[Aa]at g;obtain⟨x0,r,rfl,M,g⟩:=g;rw[Aa]at g;obtain⟨x1,r,rfl,I,g⟩:=g;rw[Aa]at g;subst g;refine⟨_,rfl,_,_,_,_,rfl,rfl,s1,rfl,l,U,x0,rfl,M,_,rfl,Cm (fun c0=>?_) (fun c0=>?_)⟩
   .rw[QG (.inr ⟨U,T,rfl,.inl (by simp at c0;rcases c0 with c|c<;>simp[c])⟩)]at q;exact q
   refine⟨_,rfl,_,_,_,_,rfl,rfl,s1,rfl,l,T,x1,rfl,I,_,rfl,Cm (fun c1=>?_) (fun c1=>?_)⟩
   .rw[QG (.inr ⟨U,T,rfl,.inr (by simp at c1;rcases c1 with c|c<;>simp[c])⟩)]at q;exact q
   obtain⟨i,rfl⟩:=Nx (d:=U) (by simpa using c0);obtain⟨j,rfl⟩:=Nx (d:=T) (by simpa using c1);rw[Dt]at M I;subst M I;refine⟨_,rfl,_,_,_,_,rfl,rfl,s1,rfl,_,_,rfl,rfl,_,rfl,Cm (fun c=>?_) (fun c=>?_)⟩
   .refine⟨_,rfl,_,_,_,_,rfl,rfl,s1,rfl,_,rfl,_,_,_,_,rfl,rfl,s1,rfl,i,j,rfl,rfl,?_⟩;have hj:1<=j:=by have:=ah c;lia
    have e:EX (.tuple [.int i,.int j])=decide (V.int (FM.gi i j)=V.int 1):=by
     rw[EX,decide_eq_true hj,(JA),(OZ)];simp
    rw[e]at q;exact q
   .have hj:¬1<=j:=fun z=>c (bL AC);have e:EX (.tuple [.int i,.int j])=false:=by rw[EX,decide_eq_false hj,(LH)]
    rw[e]at q;exact q
 .rw[Bool.eq_false_iff.mpr Z];rw[no (aj.mpr Z)]at q;exact C8 (C8 q)
end
def Cg:PD->Bool
 |.list g=>g.all EX
 |_=>false
def Ze{d:PD}(h:ED d=false):Cg d=false:=by cases d<;>first|rfl|exact absurd h (by simp[ED])
def QK{d:PD}(h:ED d=true):∃ds,d=.list ds:=by cases d<;>first|exact⟨_,rfl⟩|exact absurd h (by simp[ED])
def V3{d:PD}(h:Dj d=true):∃ds,d=.tuple ds:=by cases d<;>first|exact⟨_,rfl⟩|exact absurd h (by simp[Dj])
def jV:Sp:=fun vs H Q _=>∃l d v,vs=[v]/\Dt l H d v/\Q (.bl (Cg d)) H
section
variable{P:F0b}{w:F0c}{K:Fg}{mg:tF}{base:Heap}{f g1:AD}{fd gd1:F0a}
def QN:Ad ["thing","part"] ["thing"] (AO Ih):=Bk
def Px(F:Fn K mg "are_fractions" Ih ["thing"] f fd)(Df:Fn K mg "is_fraction" HM ["thing"] g1 gd1) (Js:AI P w K mg base Ag 2 g1 gd1 ["thing"] We)(AX:mg "isinstance" = none)(Ik:mg "list" = none):AI P w K mg base Ag 3 f fd ["thing"] jV:=by
 have sc:=QN;refine F.F.ok (k:=2) sc Do DP
 .obtain⟨l,d,v,rfl,_⟩:=h
  rfl
 obtain⟨l,d,v,rfl,hd,q⟩:=h;refine⟨_,(AM (CO (Ee (ER (BM FY rfl AX af (AE Fa (AE (Fw (v:=.ty "list") rfl Ik PyProof.Rows.boot_list rfl) AQ)))))
  (AR (Aw Er))
  BX)
 (AM (C0 aP rfl (B4 Fa) (Az (i:=1) sc.nd rfl AT)
  (AR (CO (Ee (ER (A3 Df Js hr rfl (AE Fy AQ))))
   (AR (Aw Er))
   BX)))
 (AR (Aw Er)))),?_⟩
 refine⟨_,rfl,_,_,_,_,rfl,S6,hd.ty,P4 K d hd.nodict,_,rfl,?_⟩;by_cases g:ED d=false
 .rw[g];rw[Ze g]at q;exact C8 q
 have g:ED d=true:=by simpa using g
 rw[g];refine M1 ?_;obtain⟨ds,rfl⟩:=QK g;rw[Dt]at hd;obtain⟨a,xs,rfl,na,ha,ht⟩:=hd;have I:=ht.len;refine⟨_,rfl,a,rfl,⟨_,Aj.of ha⟩,Em (xs:=xs) (fun i σ H'=>∃M,σ=[some (.ref a),M]/\H=H'/\∀j c,j<i->ds[j]? = some c->EX c=true) ?_ ?_ ?_ ?_⟩
 .exact⟨_,rfl,rfl,fun j c h=>absurd h (av _)⟩
 .rintro i σ H' _ ⟨M,rfl,rfl,_⟩;exact Aj.of ha
 .rintro i x σ H' hx ⟨M,rfl,rfl,Y⟩;obtain⟨c,R,tc⟩:=ht.get hx;refine⟨_,rfl,l,c,x,rfl,tc,_,rfl,Cm (fun b=>?_) (fun b=>?_)⟩
  .have T:EX c=false:=by simpa using b
   have e:Cg (.list ds)=false:=aj.mpr fun z=>by
    rw[Cg,(J6)]at z;rw[z c (aL R)]at T;cases T
   rw[e]at q;exact q
  .have T:EX c=true:=by simpa using b
   refine⟨_,rfl,rfl,fun j e U Z=>?_⟩;by_cases z:j=i
   .subst z;rw[R]at Z;cases Z;exact T
   .exact Y j e AC Z
 .rintro σ H' ⟨M,rfl,rfl,Y⟩;have e:Cg (.list ds)=true:=by
   rw[Cg,(J6)];intro c R;obtain⟨j,U⟩:=bG R;exact Y j c (by rw[I];exact(aB.mp U).1) U
  rw[e]at q;exact q
end
def kj{p:AD}{H H':Hp}{xs:tR}{ds:sx}(I:upd H p (.tup xs)=H')(g:H p=none)(k:Bm H ds xs):AJ H H'/\DU H' (.tuple ds) (.ref p)/\H' p=some (.tup xs):=by
 subst I;have es:=AZ g (.tup xs);exact⟨es,.tup AN (k.same es),AN⟩
def cu(r:Rat):EX (BG r)=true:=by
 have h:=r.den_nz;have k:=r.reduced;rw[BG,EX,decide_eq_true (show(1:Int)<=(r.den:Int) by lia),(JA)];rw[beq_iff_eq];unfold FM.gi;unfold Nat.Coprime at k;rw[show r.num.gcd (r.den:Int)=1 from k]
 rfl
def NF{i n:Nat}(h:i<n)(hn:n<=60):i<sizeLine:=aH (show i<60 by lia) (by rw[sizeLine_eq];decide)
def Io{n:Nat}(hn:n<=60):n<=sizeLine:=aT hn (by rw[sizeLine_eq];decide)
def AY(r:tQ):sx:=r.map BG
def Nn(r:tQ):(AY r).length=r.length:=List.length_map _
mutual
theorem i5{l c:AD}{H H':Hp}(e:SameBut c H H'):∀ {d:PD} {v:V},Dt l H d v->Dt c H d v->Dt l H' d v
 |.none,_,h,_=>by rw[Dt]at h ⊢;exact h
 |.bool _,_,h,_=>by rw[Dt]at h ⊢;exact h
 |.int _,_,h,_=>by rw[Dt]at h ⊢;exact h
 |.str _,_,h,_=>by rw[Dt]at h ⊢;exact h
 |.tuple _,_,h,k=>by
  rw[Dt]at h k ⊢;obtain⟨a,xs,Z,n,R,Y⟩:=h;obtain⟨a',T,M,U,g,I⟩:=k;subst Z;cases M;rw[R]at g;cases g;exact⟨a,xs,rfl,n,e _ _ U R,Kl e Y I⟩
 |.list _,_,h,k=>by
  rw[Dt]at h k ⊢;obtain⟨a,xs,Z,n,R,Y⟩:=h;obtain⟨a',T,M,U,g,I⟩:=k;subst Z;cases M;rw[R]at g;cases g;exact⟨a,xs,rfl,n,e _ _ U R,Kl e Y I⟩
 |.dict _,_,h,_=>by rw[Dt]at h;exact h.elim
theorem Kl{l c:AD}{H H':Hp}(e:SameBut c H H'):∀ {ds:List PD} {xs:List V},Aa l H ds xs->Aa c H ds xs->Aa l H' ds xs
 |[],_,h,_=>by rw[Aa]at h ⊢;exact h
 |_::_,_,h,k=>by
  rw[Aa]at h k ⊢;obtain⟨x,r,U,T,R⟩:=h;obtain⟨Y,Z,M,I,g⟩:=k;subst U;cases M;exact⟨x,r,rfl,i5 e T I,Kl e R g⟩
end
def Bm.iR{H:Hp}{d:PD}{ds:sx}{xs:tR}(h:Bm H (d::ds) xs):∃x r,xs=x::r/\DU H d x/\Bm H ds r:=by
 obtain⟨N,b⟩:=h;have h0:=b N (aG _);rw[Aa]at h0;obtain⟨x,r,rfl,_,_⟩:=h0;refine⟨x,r,rfl,⟨N,fun l g=>?_⟩,⟨N,fun l g=>?_⟩⟩
 .have:=b l g;rw[Aa]at this;obtain⟨_,_,e,I,_⟩:=this;cases e;exact I
 .have:=b l g;rw[Aa]at this;obtain⟨_,_,e,_,I⟩:=this;cases e;exact I
def DU.rat{H:Hp}{q:Rat}{v:V}(h:DU H (BG q) v):∃p,v=.ref p/\H p=some (.tup (Jp q)):=h.ints (ps:=[q.num,(q.den:Int)])
def kN{H:Hp}{q:Rat}{p:AD}(h:H p=some (.tup (Jp q))):DU H (BG q) (.ref p):=.tup h (.cons .int (.cons .int .nil))
theorem WB{c:AD}{zs:List V}{H:Hp}(I:H c=some (.lst zs)):∀ {g:List Rat} {xs:List V},Bm H (AY g) xs->Aa c H (AY g) xs
 |[],xs,h=>by
  have:=h.len;rw[show AY []=[] from rfl,List.length_nil]at this;rw[List.eq_nil_of_length_eq_zero this];exact .nil
 |q::g,xs,h=>by
  obtain⟨x,r,rfl,T,R⟩:=Bm.iR h;obtain⟨p,rfl,M⟩:=T.rat;exact .cons (.tup (fun z=>by subst z;rw[M]at I;cases I) M (.cons .int (.cons .int .nil))) (WB I R)
def TM{c:AD}{zs:tR}{H H':Hp}(I:H c=some (.lst zs))(e:SameBut c H H'){g:tQ}{xs:tR}(h:Bm H (AY g) xs):Bm H' (AY g) xs:=HP (.but e (WB I h))
def dw(a b:tQ):AY (a++b)=AY a++AY b:=List.map_append
def EM(c b:Int):Int:=c.fdiv (FM.gi c b)*b
def FN(bs:tJ):Int:=bs.foldl EM 1
theorem Us{k:Nat}:∀(bs:List Int) (c:Int) (n:Nat),1<=c->c.natAbs<2^n->(∀b∈bs,1<=b/\b.natAbs<2^k) ->
  1<=bs.foldl EM c/\(bs.foldl EM c).natAbs<2^(n+k*bs.length)/\c ∣ bs.foldl EM c/\∀b∈bs,b ∣ bs.foldl EM c
 |[],c,n,M,I,_=>⟨M,by simpa using I,Int.dvd_refl _,fun _ z=>(ay z).elim⟩
 |b::bs,c,n,M,I,h=>by
  obtain⟨b1,b2⟩:=h b aO;obtain⟨s1,s2,U,T⟩:=Mm M b1;have n1:(EM c b).natAbs<2^(n+k):=FM.Dl (aQ T I) b2;obtain⟨r1,Z,R,Y⟩:=Us bs (EM c b) (n+k) s1 n1 fun y g=>h y (aK _ g);refine⟨r1,?_,Int.dvd_trans s2 R,fun y g=>?_⟩
  .rw[(GU),Nat.mul_succ,show n+(k*bs.length+k)=n+k+k*bs.length by lia];exact Z
  .rcases aN.mp g with rfl|g
   .exact Int.dvd_trans U R
   .exact Y y g
def RY{k:Nat}{bs:tJ}(h:∀b∈bs,1<=b/\b.natAbs<2^k):1<=FN bs/\(FN bs).natAbs<2^(1+k*bs.length)/\∀b∈bs,b ∣ FN bs:=by
 obtain⟨a,b,_,d⟩:=Us bs 1 1 AS AS h;exact⟨a,b,d⟩
def Z4(bs:tJ)(b:Int):FN (bs++[b])=EM (FN bs) b:=by
 unfold FN;rw[List.foldl_append]
 rfl
def UU:Sp:=fun vs H Q _=>∃(a:AD) (bs:List Int) (k:Nat),vs=[.ref a]/\H a=some (.lst (bs.map V.int))/\(∀b∈bs,1<=b/\b.natAbs<2^k)/\k*bs.length<=4000/\Q (.int (FN bs)) H
def B3(rs:tQ):Int:=FN (rs.map fun r=>(r.den:Int))
def Xw:Sp:=fun vs H Q _=>∃(a:AD) (xs:List V) (rs:List Rat) (n:Nat),vs=[.ref a]/\H a=some (.lst xs)/\Bm H (AY rs) xs/\rs.length<=50/\(∀r∈rs,FM.Fits r n)/\n*rs.length<=4000/\∀H',AJ H H'->Q (.int (B3 rs)) H'
def Qw{H:Hp}{g:tQ}{xs:tR}{i:Nat}{q:Rat}(h:Bm H (AY g) xs)(I:g[i]? = some q):∃p,xs[i]? = some (.ref p)/\H p=some (.tup (Jp q)):=by
 obtain⟨v,T,R⟩:=h.get (i:=i) (d:=BG q) (by rw[AY,(BP),I];rfl);obtain⟨p,rfl,M⟩:=R.rat;exact⟨p,T,M⟩
def jC{rs:tQ}{n:Nat}(h:∀r∈rs,FM.Fits r n):∀b∈rs.map (fun r=>(r.den:Int)),1<=b/\b.natAbs<2^n:=fun b I=>by
 obtain⟨r,g,rfl⟩:=aI.mp I;have:=r.den_nz;exact⟨by lia,(h r g).d⟩
section
variable{P:F0b}{w:F0c}{K:Fg}{mg:tF}{base:Heap}{f g g1:AD}{fd gd gd1:F0a}
def PC(F:Fn K mg "common_bottom" DV ["bottoms"] f fd)(A5:Fn K mg "greatest_divisor" Cj FI g gd) (B5:AI P w K mg base Ag 1 g gd FI Pz):AI P w K mg base Ag 2 f fd ["bottoms"] UU:=by
 have sc:=LC;refine F.F.ok (k:=1) sc Do (fun cdv A outer s H vs Q E Y h=>?_)
 .obtain⟨a,bs,k,rfl,_⟩:=h
  rfl
 obtain⟨a,bs,k,rfl,ha,M,hk,q⟩:=h;refine⟨_,(AM (Ai (i:=1) sc.nd rfl AT AU)
 (AM (C0 aP rfl (B4 Fa) (Az (i:=2) sc.nd rfl AT)
  (AR (Ai (i:=1) sc.nd rfl AT (Au Ci (Au Ek Fy (A3 A5 B5 Y rfl (AE Fy (AE (pv 2) AQ)))) (pv 2)))))
 (AR (Aw Fy)))),?_⟩
 refine⟨_,rfl,a,rfl,⟨_,Aj.of ha⟩,Em (xs:=bs.map V.int) (fun i σ H'=>∃(r:Option V),σ=[some (.ref a),some (.int (FN (bs.take i))),r]/\H=H') ?_ ?_ ?_ ?_⟩
 .exact⟨_,rfl,rfl⟩
 .rintro i σ H' _ ⟨r,rfl,rfl⟩;exact Aj.of ha
 .rintro i x σ H' I ⟨r,rfl,rfl⟩;have hi:i<bs.length:=by have:=(aB.mp I).1;simpa using this
  rw[(BP),List.getElem?_eq_getElem hi]at I;cases I;obtain⟨b1,b2⟩:=M _ (List.getElem_mem hi);obtain⟨c1,R,_⟩:=RY (k:=k) (bs:=bs.take i) fun y U=>M y (List.mem_of_mem_take U);rw[(Fc),Nat.min_eq_left AC]at R;obtain⟨s1,s2,s3,T⟩:=Mm c1 b1;have hg:FM.gi (FN (bs.take i)) bs[i]≠0:=Int.ne_of_gt (FM.LB AC);have Z:k*i+k<=4000:=by
   have:k*(i+1)<=k*bs.length:=aR k hi;rw[Nat.mul_succ]at this
   lia
  have n1:((FN (bs.take i)).fdiv (FM.gi (FN (bs.take i)) bs[i])).natAbs<2^(1+k*i):=aQ T R;refine⟨_,rfl,_,rfl,_,rfl,FN (bs.take i),bs[i],rfl,_,_,rfl,rfl,⟨hg,k,by have:k*1<=k*bs.length:=aR k AC;lia,Nat.lt_of_le_of_lt (FM.YW AC) b2⟩,_,rfl,_,_,rfl,rfl,MA n1 b2 AC,some (.int bs[i]),?_,rfl⟩;rw[(HS),List.getElem?_eq_getElem hi];show _=[some (V.ref a),some (V.int (FN (bs.take i++[bs[i]]))),some (V.int bs[i])];rw[Z4]
  rfl
 .rintro σ H' ⟨r,rfl,rfl⟩;rw[(Af),(FT)];exact⟨_,rfl,q⟩
def Wv:Ad ["start"] ["start"] (AO Mv):=Bk
def W6(F:Fn K mg "grain_of" Mv ["start"] f fd)(Bg:Fn K mg "common_bottom" DV ["bottoms"] g1 gd1) (EY:AI P w K mg base Ag 2 g1 gd1 ["bottoms"] UU):AI P w K mg base Ag 3 f fd ["start"] Xw:=by
 have sc:=Wv;refine F.F.ok (k:=2) sc Do (fun cdv A outer s H vs Q E R h=>?_)
 .obtain⟨a,xs,rs,n,rfl,_⟩:=h
  rfl
 obtain⟨a,xs,rs,n,rfl,ha,dx,hl,hf,hn,q⟩:=h;have Y:xs.length=rs.length:=by rw[dx.len,Nn]
 refine⟨_,(AR (Aw (A3 Bg EY R rfl (AE (Dg [".0","place"] 1 [none,none] (B4 Fa) (fun _ _ _ _ _=>D4) (fun _ _ _ _ _=>(B1 MZ Fy AU Da))) AQ)))),?_⟩;refine⟨_,rfl,a,rfl,⟨_,Aj.of ha⟩,fun D hD=>E2 (n:=xs.length) (fun i ys H'=>AJ H H'/\ys=((rs.take i).map fun r=>(r.den:Int)).map V.int) ⟨AZ hD _,rfl⟩ ?_ ?_⟩
 .rintro i ys H1 hi ⟨M,rfl⟩ I;have R:rs[i]? = some (rs[i]' AC):=aV _;obtain⟨p,U,T⟩:=Qw dx R;generalize rs[i]' AC=r at R T;refine⟨⟨xs,.ref p,Aj.of (M _ _ ha),U⟩,NF (n:=60) (by simp;lia) AS,fun x H' y=>?_⟩;obtain⟨rfl,y⟩:=y;have Z:=y xs (Aj.of (M _ _ ha));rw[U]at Z;cases Z;unfold Gm;refine C8 ⟨_,rfl,_,_,_,_,rfl,rfl,Ax.of (M _ _ T),rfl,I,DZ hi ⟨fun b o z=>?_,?_⟩⟩
  .rw[AK (AV z hD)];exact M _ _ z
  .rw[(HS),R,(CN),(CN)]
   rfl
 .rintro ys H1 ⟨M,rfl⟩ I;rw[Y,(FT)]at I;exact⟨⟨xs,Aj.of (M _ _ ha),Nat.le_refl _⟩,D,_,n,rfl,I,jC hf,by rw[(Af)];exact hn,q H1 M⟩
end
abbrev AW:=List Int×Rat
def Bv(m:AW):PD:=.tuple [.tuple (m.1.map .int),BG m.2]
def AH(us:List AW):PD:=.list (us.map Bv)
def DU.mono{H:Hp}{m:AW}{v:V}(h:DU H (Bv m) v):∃c P F,v=.ref c/\H c=some (.tup [.ref P,.ref F])/\H P=some (.tup (m.1.map V.int))/\H F=some (.tup (Jp m.2)):=by
 obtain⟨c,xs,rfl,g,U⟩:=h.qN;obtain⟨x,y,rfl,T,R⟩:=U.Ln;obtain⟨P,rfl,I⟩:=T.ints;obtain⟨F,rfl,M⟩:=R.rat;exact⟨c,P,F,rfl,g,I,M⟩
def NH{H:Hp}{us:List AW}{xs:tR}{i:Nat}{m:AW}(d:Bm H (us.map Bv) xs)(h:us[i]? = some m):∃c P F,xs[i]? = some (.ref c)/\H c=some (.tup [.ref P,.ref F])/\H P=some (.tup (m.1.map V.int))/\H F=some (.tup (Jp m.2)):=by
 obtain⟨v,I,g⟩:=d.get (i:=i) (d:=Bv m) (by rw[(BP),h];rfl);obtain⟨c,P,F,rfl,a,b,e⟩:=g.mono;exact⟨c,P,F,I,a,b,e⟩
def Rb{H:Hp}{uss:FB}{cs:tR}{i:Nat}{us:List AW}(d:Bm H (uss.map AH) cs)(h:uss[i]? = some us):∃a xs,cs[i]? = some (.ref a)/\H a=some (.lst xs)/\Bm H (us.map Bv) xs:=by
 obtain⟨v,M,I⟩:=d.get (i:=i) (d:=AH us) (by rw[(BP),h];rfl);obtain⟨a,xs,rfl,ha,g⟩:=I.Vp;exact⟨a,xs,M,ha,g⟩
def Kk(us:List AW):tJ:=us.map fun m=>(m.2.den:Int)
def Es(uss:FB):tJ:=(uss.map Kk).flatten
def Dz(uss:FB):Int:=FN (Es uss)
def B0(m:AW):Int:=m.1.sum
def JI(g:Int)(us:List AW):Int:=us.foldl (fun g m=>if B0 m > g then B0 m else g) g
def E5(uss:FB):Int:=uss.foldl JI 1
structure Pd(H:Hp)(C:Addr)(cs:List V)(uss:FB)(n:Nat):Prop where
 at_:H C=some (.lst cs)
 du:Bm H (uss.map AH) cs
 len:uss.length<=4
 HU:∀us∈uss,us.length<=12/\∀m∈us,FM.Fits m.2 n
def Pd.same{H H':Hp}{C:AD}{cs:tR}{uss:FB}{n:Nat}(c:Pd H C cs uss n)(e:AJ H H'):Pd H' C cs uss n:=⟨e _ _ c.at_,c.du.same e,c.len,c.HU⟩
def Pd.cl{H:Hp}{C:AD}{cs:tR}{uss:FB}{n:Nat}(c:Pd H C cs uss n):cs.length=uss.length:=by rw[c.du.len,(Af)]
def QH{uss:FB}:∀(h:∀us∈uss,us.length<=12),(Es uss).length<=12*uss.length:=by
 induction uss with
 |nil=>intro _;simp[Es]
 |cons us uss g=>
  intro h;have R:=h us aO;have M:=g fun y I=>h y (aK _ I);unfold Es at M ⊢;rw[(BA),(P7),(De),(GU),Nat.mul_succ];have:(Kk us).length=us.length:=List.length_map _
  lia
def Z7{uss:FB}{us:List AW}{i:Nat}(h:uss[i]? = some us):Es (uss.take (i+1))=Es (uss.take i)++Kk us:=by
 unfold Es;rw[(HS),h,(CN),List.flatten_append];simp
def VI{uss:FB}{n:Nat}(h:∀us∈uss,us.length<=12/\∀m∈us,FM.Fits m.2 n):∀b∈Es uss,1<=b/\b.natAbs<2^n:=fun b g=>by
 unfold Es at g;obtain⟨l,M,g⟩:=List.mem_flatten.mp g;obtain⟨us,I,rfl⟩:=aI.mp M;obtain⟨m,hm,rfl⟩:=aI.mp g;have:=m.2.den_nz;exact⟨by lia,((h us I).2 m hm).d⟩
def eU:Sp:=fun vs H Q _=>∃(C:AD) (cs:List V) (uss:FB) (n:Nat),vs=[.ref C]/\Pd H C cs uss n/\n<=80/\∀H',AJ H H'->Q (.int (Dz uss)) H'
def eG:Sp:=fun vs H Q _=>∃(C:AD) (cs:List V) (uss:FB) (n:Nat),vs=[.ref C]/\Pd H C cs uss n/\Q (.int (E5 uss)) H
section
variable{P:F0b}{w:F0c}{K:Fg}{mg:tF}{base:Heap}{f g1:AD}{fd gd1:F0a}
def QT:Ad ["change","bottoms","some"] ["change"] (AO F6):=Bk
def QY(F:Fn K mg "speeds_bottom" F6 ["change"] f fd)(Bg:Fn K mg "common_bottom" DV ["bottoms"] g1 gd1) (EY:AI P w K mg base Ag 2 g1 gd1 ["bottoms"] UU):AI P w K mg base Ag 3 f fd ["change"] eU:=by
 have sc:=QT;refine F.F.ok (k:=2) sc Do DP
 .obtain⟨C,cs,uss,n,rfl,_⟩:=h
  rfl
 obtain⟨C,cs,uss,n,rfl,R,hn,q⟩:=h;have hcl:=R.cl;have hl4:=R.len;refine⟨_,(AM (Ai (i:=1) sc.nd rfl AT (IP AQ))
 (AM (C0 aP rfl (B4 Fa) (Az (i:=2) sc.nd rfl AT)
  (AR (EG (Oy bR PySem.F.slot_list_extend PySem.F.type_list_extend Zm Fy (AE (Lk [".0","powers","part"] 1 2 [none,none,none] (B4 (pv 2)) (fun _ _ _ _ _=>D4) (fun _ _ _ _ _=>(B1 MZ (pv 2) AU Da))) AQ)))))
 (AR (Aw (A3 Bg EY hr rfl (AE Fy AQ)))))),?_⟩
 refine⟨Io (show 0<=60 by decide),fun Z hZ=>?_⟩;have e1:=AZ hZ (.lst []);have hZ1:upd H Z (.lst []) Z=some (.lst []):=AN;generalize upd H Z (.lst [])=H1 at e1 hZ1;refine⟨_,rfl,C,rfl,⟨_,Aj.of (e1 _ _ R.at_)⟩,Em (xs:=cs) (fun i σ H'=>∃r2,σ=[some (.ref C),some (.ref Z),r2]/\AJ H H'/\H' Z=some (.lst ((Es (uss.take i)).map V.int))) ?_ ?_ ?_ ?_⟩
 .exact⟨_,rfl,e1,hZ1⟩
 .rintro i σ H' _ ⟨r2,rfl,e,_⟩;exact Aj.of (e _ _ R.at_)
 .rintro i x σ H2 hx ⟨r2,rfl,U,g⟩;have hi:i<uss.length:=by rw[<-hcl];exact(aB.mp hx).1
  have hu:uss[i]? = some uss[i]:=by simp[hi]
  obtain⟨a,xs,ha1,I,dx⟩:=Rb R.du hu;obtain⟨u12,_⟩:=R.HU _ (aL hu);generalize uss[i]=us at hu dx u12;rw[hx]at ha1;cases ha1;have hxl:xs.length=us.length:=by rw[dx.len,(Af)]
  refine⟨_,rfl,.inl ⟨rfl,_,Aj.of g⟩,_,rfl,a,rfl,⟨_,Aj.of (U _ _ I)⟩,fun D hD=>QR (n:=xs.length) (fun j ys H'=>AJ H2 H'/\ys=(Kk (us.take j)).map V.int) ⟨AZ hD _,rfl⟩ ?_ ?_⟩
  .rintro j ys H3 hj ⟨T,rfl⟩ M;have Y:=U.trans T;have hm:us[j]? = some (us[j]' AC):=aV _;obtain⟨c,Pw,Fr,k1,k2,k3,k4⟩:=NH dx hm;generalize us[j]' AC=m at hm k3 k4;refine⟨⟨xs,.ref c,Aj.of (Y _ _ I),k1⟩,NF (n:=60) (by unfold Kk;simp;lia) AS,fun x H' y=>?_⟩;obtain⟨rfl,y⟩:=y;have hx:=y xs (Aj.of (Y _ _ I));rw[k1]at hx;cases hx;refine⟨c,_,_,rfl,Ax.of (Y _ _ k2),?_⟩;unfold Gm;refine C8 ⟨_,rfl,_,_,_,_,rfl,rfl,Ax.of (Y _ _ k4),rfl,M,DZ hj ⟨fun b o z=>?_,?_⟩⟩
   .rw[AK (AV z hD)];exact T _ _ z
   .rw[(HS),hm,Kk,Kk,(CN),(CN)]
    rfl
  .rintro ys H3 ⟨T,rfl⟩ M;have Y:=U.trans T;rw[hxl,(FT)]at M;refine⟨⟨xs,Aj.of (Y _ _ I),Nat.le_refl _⟩,Z,D,_,_,rfl,rfl,T _ _ g,M,?_,_,rfl,fun b o z=>?_,?_⟩
   .have:=QH (uss:=uss.take i) fun y hy=>(R.HU y (List.mem_of_mem_take hy)).1;rw[(Fc),Nat.min_eq_left AC]at this;refine Io ?_;rw[(Af),(Af),show(Kk us).length=us.length from List.length_map _]
    lia
   .rw[AK (AV z hZ)];exact T _ _ (U _ _ z)
   .rw[AN,Z7 hu,(CN)]
 .rintro σ H2 ⟨r2,rfl,U,g⟩;rw[hcl,(FT)]at g;refine⟨_,rfl,Z,_,n,rfl,g,VI R.HU,?_,q H2 U⟩;have h1:=QH (uss:=uss) fun y hy=>(R.HU y hy).1;have h2:(Es uss).length<=48:=by lia
  exact aT (Nat.mul_le_mul hn h2) AS
def O8:Ad ["change","greatest","some","powers","part"] ["change"] (AO FV):=Bk
def PF(F:Fn K mg "greatest_power" FV ["change"] f fd)(Y8:mg "max" = none)(Gn:mg "sum" = none):AI P w K mg base Ag 1 f fd ["change"] eG:=by
 have sc:=O8;refine F.F.ok (k:=0) sc Do DP
 .obtain⟨C,cs,uss,n,rfl,_⟩:=h
  rfl
 obtain⟨C,cs,uss,n,rfl,Z,q⟩:=h;have R:=Z.cl;refine⟨_,(AM (Ai (i:=1) sc.nd rfl AT AU)
 (AM (C0 aP rfl (B4 Fa) (Az (i:=2) sc.nd rfl AT)
  (AR (C0 aP rfl (B4 (pv 2)) (Fj rfl (BN (Az (i:=3) sc.nd rfl AT) (BN (Az (i:=4) sc.nd rfl AT) EN)))
   (AR (Ai (i:=1) sc.nd rfl AT (BM (eB rfl) rfl Y8 PyProof.Rows.boot_max (AE Fy (AE (BM (OW rfl) rfl Gn PyProof.Rows.boot_sum (AE (pv 3) AQ)) AQ))))))))
 (AR (Aw Fy)))),?_⟩
 refine⟨_,rfl,C,rfl,⟨_,Aj.of Z.at_⟩,Em (xs:=cs) (fun i σ H'=>∃(Y I g:Option V),σ=[some (.ref C),some (.int (E5 (uss.take i))),Y,I,g]/\H=H') ?_ ?_ ?_ ?_⟩
 .exact⟨_,_,_,rfl,rfl⟩
 .rintro i σ H' _ ⟨Y,I,g,rfl,rfl⟩;exact Aj.of Z.at_
 .rintro i x σ H2 hx ⟨Y,I,g,rfl,rfl⟩;have hi:i<uss.length:=by rw[<-R];exact(aB.mp hx).1
  have hu:uss[i]? = some uss[i]:=by simp[hi]
  obtain⟨a,xs,U,T,dx⟩:=Rb Z.du hu;generalize uss[i]=us at hu dx;rw[hx]at U;cases U;have M:xs.length=us.length:=by rw[dx.len,(Af)]
  refine⟨_,rfl,a,rfl,⟨_,Aj.of T⟩,Em (xs:=xs) (fun j σ H'=>∃(I g:Option V),σ=[some (.ref C),some (.int (JI (E5 (uss.take i)) (us.take j))),some (.ref a),I,g]/\H=H') ?_ ?_ ?_ ?_⟩
  .exact⟨_,_,rfl,rfl⟩
  .rintro j σ H' _ ⟨I,g,rfl,rfl⟩;exact Aj.of T
  .rintro j y σ H' hy ⟨I,g,rfl,rfl⟩;have hj:j<us.length:=by rw[<-M];exact(aB.mp hy).1
   have hm:us[j]? = some us[j]:=by simp[hj]
   obtain⟨c,Pw,Fr,k1,k2,k3,k4⟩:=NH dx hm;generalize us[j]=m at hm k3 k4;rw[hy]at k1;cases k1;refine⟨c,_,rfl,Ax.of k2,rfl,_,_,rfl,_,_,rfl,rfl,?_⟩;refine⟨_,rfl,_,rfl,Pw,m.1,rfl,Ax.of k3,_,_,rfl,some (.ref Pw),some (.ref Fr),?_,rfl⟩;rw[(HS),hm];show _=[some (V.ref C),some (V.int (JI (E5 (uss.take i)) (us.take j++[m]))),some (V.ref a),some (V.ref Pw),some (V.ref Fr)];unfold JI;rw[List.foldl_append]
   rfl
  .rintro σ H' ⟨I,g,rfl,rfl⟩;refine⟨some (.ref a),I,g,?_,rfl⟩;rw[M,(FT),(HS),hu];show _=[some (V.ref C),some (V.int (E5 (uss.take i++[us]))),some (V.ref a),I,g];unfold E5;rw[List.foldl_append]
   rfl
 .rintro σ H' ⟨Y,I,g,rfl,rfl⟩;rw[R,(FT)];exact⟨_,rfl,q⟩
end
theorem Py{c:AD}{U:List V}{H:Hp}(I:H c=some (.lst U)):∀ {us:List AW} {zs:List V},Bm H (us.map Bv) zs->Aa c H (us.map Bv) zs
 |[],zs,h=>by
  have:=h.len;rw[(Mw),List.length_nil]at this;rw[List.eq_nil_of_length_eq_zero this];exact .nil
 |m::us,zs,h=>by
  obtain⟨x,t,rfl,h1,h2⟩:=Bm.iR h;obtain⟨a,P,F,rfl,T,R,M⟩:=DU.mono h1;have ne:∀ {p:AD} {xs:List V},H p=some (.tup xs)->p≠c:=fun Z z=>by subst z;rw[Z]at I;cases I
  have g:∀ps:List Int,Aa c H (ps.map .int) (ps.map V.int):=fun ps=>by
   induction ps with
   |nil=>exact .nil
   |cons p ps Y=>exact .cons .int Y
  exact .cons (.tup (ne T) T (.cons (.tup (ne R) R (g _)) (.cons (.tup (ne M) M (.cons .int (.cons .int .nil))) .nil))) (Py I h2)
def jM{H:Hp}{P:AD}{ps:tJ}(h:H P=some (.tup (ps.map V.int))):DU H (.tuple (ps.map .int)) (.ref P):=by
 refine .tup h ?_;clear h
 induction ps with
 |nil=>exact .nil
 |cons p ps g=>exact .cons .int g
def bz(B G:Int)(g:Nat)(m:AW):AW:=(m.1,((m.2.num*B.fdiv (m.2.den:Int)*G^(g-(B0 m).toNat):Int):Rat))
def Ia(B G:Int)(g:Nat)(us:List AW):List AW:=us.map (bz B G g)
def nM:Sp:=fun vs H Q _=>∃(a:AD) (xs:List V) (us:List AW) (B G:Int) (g n b k:Nat),vs=[.ref a,.int B,.int G,.int (g:Nat)]/\H a=some (.lst xs)/\Bm H (us.map Bv) xs/\us.length<=12/\g<=3/\(∀m∈us,FM.Fits m.2 n/\0<=B0 m/\B0 m<=g) /\
 B.natAbs<2^b/\G.natAbs<2^k/\n+b+3*k<=3900/\∀Z H' I,AJ H H'->H Z=none->H' Z=some (.lst I)->Bm H' ((Ia B G g us).map Bv) I->Q (.ref Z) H'
section
variable{P:F0b}{w:F0c}{K:Fg}{mg:tF}{base:Heap}{f g1:AD}{fd gd1:F0a}
def Tw:Ad ["some","bottom","grain","greatest","terms","powers","part","top"] ["some","bottom","grain","greatest"] (AO Kt):=Bk
def T8(F:Fn K mg "whole_poly" Kt ["some","bottom","grain","greatest"] f fd)(Be:Fn K mg "power_of" FZ ["base","power"] g1 gd1) (CF:AI P w K mg base Ag 1 g1 gd1 ["base","power"] Q8)(Gn:mg "sum" = none):AI P w K mg base Ag 2 f fd ["some","bottom","grain","greatest"] nM:=by
 have sc:=Tw;refine F.F.ok (k:=1) sc Do DP
 .obtain⟨a,xs,us,B,G,g,n,b,k,rfl,_⟩:=h
  rfl
 obtain⟨a,xs,us,B,G,g,n,b,k,rfl,ha,dx,h12,hgr,hus,hB,hG,hsz,q⟩:=h;have U:xs.length=us.length:=by rw[dx.len,(Af)]
 refine⟨_,(AM (Ai (i:=4) sc.nd rfl AT (IP AQ))
 (AM (C0 aP rfl (B4 Fa) (Fj rfl (BN (Az (i:=5) sc.nd rfl AT) (BN (Az (i:=6) sc.nd rfl AT) EN)))
  (AM (Ai (i:=7) sc.nd rfl AT (Au Ci (Au Ci (B1 Ce (pv 6) AU Da) (Au Ek Fy (B1 Ce (pv 6) AU Da))) (A3 Be CF hr rfl (AE (pv 2) (AE (Au Jc (pv 3) (BM (OW rfl) rfl Gn PyProof.Rows.boot_sum (AE (pv 5) AQ))) AQ)))))
  (AR (EG (Oy bR bf bg Hl (pv 4) (AE (JX (AE (pv 5) (AE (JX (AE (pv 7) (AE AU AQ))) AQ))) AQ))))))
 (AR (Aw (pv 4))))),?_⟩
 refine⟨Io (show 0<=60 by decide),fun Z hZ=>?_⟩;have e1:=AZ hZ (.lst []);have hZ1:upd H Z (.lst []) Z=some (.lst []):=AN;generalize upd H Z (.lst [])=H1 at e1 hZ1;refine⟨_,rfl,a,rfl,⟨_,Aj.of (e1 _ _ ha)⟩,Em (xs:=xs) (fun i σ H'=>∃(r5 r6 r7:Option V) (I:List V),σ=[some (.ref a),some (.int B),some (.int G),some (.int (g:Nat)),some (.ref Z),r5,r6,r7]/\AJ H H'/\H' Z=some (.lst I)/\Bm H' ((Ia B G g (us.take i)).map Bv) I) ?_ ?_ ?_ ?_⟩
 .exact⟨_,_,_,[],rfl,e1,hZ1,.nil⟩
 .rintro i σ H' _ ⟨r5,r6,r7,I,rfl,e,_⟩;exact Aj.of (e _ _ ha)
 .rintro i x σ H2 hx ⟨r5,r6,r7,I,rfl,R,M,dz⟩;have hi:i<us.length:=by rw[<-U];exact(aB.mp hx).1
  have hm:us[i]? = some us[i]:=by simp[hi]
  obtain⟨c,Pw,Fr,k1,k2,k3,k4⟩:=NH dx hm;obtain⟨fm,s0,s1⟩:=hus _ (aL hm);generalize us[i]=m at hm k3 k4 fm s0 s1;rw[hx]at k1;cases k1;have hd:=m.2.den_nz;have hzl:I.length=i:=by rw[dz.len,(Af),Ia,(Af),(Fc)];lia
  have n2:(B.fdiv (m.2.den:Int)).natAbs<2^b:=aQ (FM.F7 _ _) hB;have n3:=FM.Dl fm.1 n2;have n4:(G^(g-(B0 m).toNat)).natAbs<2^(k*3+1):=IK (p:=3) hG AC;refine⟨c,_,rfl,Ax.of (R _ _ k2),rfl,_,_,rfl,_,_,rfl,rfl,?_⟩;refine⟨_,rfl,_,_,_,_,rfl,rfl,Ax.of (R _ _ k4),rfl,_,rfl,_,rfl,_,_,_,_,rfl,rfl,Ax.of (R _ _ k4),rfl,_,_,rfl,rfl,⟨by lia,n,by lia,fm.d⟩,_,_,rfl,rfl,MA fm.1 n2 AC,_,rfl,_,rfl,_,rfl,Pw,m.1,rfl,Ax.of (R _ _ k3),_,_,rfl,rfl,G,g-(B0 m).toNat,k,?_,hG,?_,_,_,rfl,rfl,MA n3 n4 AC,?_⟩
  .show [V.int G,V.int ((g:Int)-m.1.sum)]=[V.int G,V.int ((g-(B0 m).toNat:Nat):Int)]
   congr 3
   unfold B0 at s0 s1 ⊢
   lia
  .have:k*(g-(B0 m).toNat)<=k*3:=aR k AC
   lia
  refine⟨_,rfl,.inl ⟨rfl,_,Aj.of M⟩,_,rfl,_,rfl,Io (show 2<=60 by decide),fun t1 ht1=>?_⟩;generalize hH:upd _ t1 _=H3;obtain⟨e3,d3,_⟩:=kj (ds:=[.int (m.2.num*B.fdiv (m.2.den:Int)*G^(g-(B0 m).toNat)),.int 1]) hH ht1 (.cons .int (.cons .int .nil));clear hH;refine⟨Io (show 2<=60 by decide),fun t2 ht2=>?_⟩;generalize hH:upd _ t2 _=H4;obtain⟨e4,d4,_⟩:=kj hH ht2 (.cons ((jM (R _ _ k3)).same e3) (.cons d3 .nil));clear hH;have T:=e3.trans e4;have Y:=T _ _ M;have d4:DU H4 (Bv (bz B G g m)) (.ref t2):=d4;refine⟨Z,I,_,rfl,rfl,Y,NF (n:=60) AC AS,?_⟩;refine⟨_,_,_,I++[.ref t2],rfl,fun b o zz=>?_,AN,?_⟩
  .rw[AK (AV zz hZ)];exact T _ _ (R _ _ zz)
  .rw[(HS),hm];have dn:Bm H4 ((Ia B G g (us.take i++[m])).map Bv) (I++[.ref t2]):=by
    unfold Ia;rw[(CN),(CN)];exact(dz.same T).app (.cons d4 .nil)
   exact HP (.but .upd (Py Y dn))
 .rintro σ H2 ⟨r5,r6,r7,I,rfl,R,M,dz⟩;rw[U,(FT)]at dz;exact⟨_,rfl,q Z H2 I R hZ M dz⟩
end
def Yh{H H':Hp}{a:AD}(e:AJ H H')(h:H' a=none):H a=none:=by
 cases g:H a with
 |none=>rfl
 |some o=>have:=e _ _ g;rw[h]at this;cases this
theorem X3:∀(us:List AW) (g:Int),g<=JI g us/\(∀m∈us,B0 m<=JI g us)/\∀c,g<=c->(∀m∈us,B0 m<=c)->JI g us<=c
 |[],g=>⟨Int.le_refl _,fun _ z=>(ay z).elim,fun _ h _=>h⟩
 |m::us,g=>by
  obtain⟨M,T,R⟩:=X3 us (if B0 m > g then B0 m else g);have e:JI g (m::us)=JI (if B0 m > g then B0 m else g) us:=rfl;rw[e];have s1:g<=(if B0 m > g then B0 m else g):=by split<;>lia
  have s2:B0 m<=(if B0 m > g then B0 m else g):=by split<;>lia
  refine⟨Int.le_trans s1 M,fun y I=>?_,fun c U hm=>?_⟩
  .rcases aN.mp I with rfl|I
   .exact Int.le_trans s2 M
   .exact T y I
  .refine R c ?_ fun y I=>hm y (aK _ I);have:=hm m aO;split<;>lia
theorem TU:∀(uss:FB) (g:Int),g<=uss.foldl JI g/\(∀us∈uss,∀m∈us,B0 m<=uss.foldl JI g)/\∀c,g<=c->(∀us∈uss,∀m∈us,B0 m<=c)->uss.foldl JI g<=c
 |[],g=>⟨Int.le_refl _,fun _ z=>(ay z).elim,fun _ h _=>h⟩
 |us::uss,g=>by
  obtain⟨a1,a2,a3⟩:=X3 us g;obtain⟨M,U,T⟩:=TU uss (JI g us);rw[List.foldl_cons];refine⟨Int.le_trans a1 M,fun y I m hm=>?_,fun c R hm=>?_⟩
  .rcases aN.mp I with rfl|I
   .exact Int.le_trans (a2 m hm) M
   .exact U y I m hm
  .exact T c (a3 c R (hm us aO)) fun y I=>hm y (aK _ I)
def Pu{uss:FB}{c:Int}(g:1<=c)(h:∀us∈uss,∀m∈us,B0 m<=c):1<=E5 uss/\E5 uss<=c/\∀us∈uss,∀m∈us,B0 m<=E5 uss:=by
 obtain⟨R,M,I⟩:=TU uss 1;exact⟨R,I c g h,M⟩
def CK(uss:FB):Nat:=(E5 uss).toNat
def D8(G:Int)(uss:FB):List (List AW):=uss.map (Ia (Dz uss) G (CK uss))
def Ke(uss:FB)(G:Int):Int:=Dz uss*G^(CK uss-1)
def Qz{uss:FB}{n:Nat}(M:uss.length<=4)(h:∀us∈uss,us.length<=12/\∀m∈us,FM.Fits m.2 n):1<=Dz uss/\(Dz uss).natAbs<2^(1+n*48)/\∀us∈uss,∀m∈us,(m.2.den:Int) ∣ Dz uss:=by
 obtain⟨a,b,c⟩:=RY (VI h);have R:=QH (uss:=uss) fun y I=>(h y I).1;refine⟨a,FM.EL b ?_,fun us g m hm=>c _ ?_⟩
 .have:=aR n (show(Es uss).length<=48 by lia)
  lia
 .unfold Es;exact List.mem_flatten.mpr ⟨Kk us,List.mem_map.mpr ⟨us,g,rfl⟩,List.mem_map.mpr ⟨m,hm,rfl⟩⟩
def ml:Sp:=fun vs H Q _=>∃(C:AD) (cs:List V) (uss:FB) (G:Int) (k:Nat),vs=[.ref C,.int G]/\Pd H C cs uss 4/\(∀us∈uss,∀m∈us,0<=B0 m/\B0 m<=3)/\G.natAbs<2^k/\k<=1200 /\
 ∀D H' g,AJ H H'->H D=none->H' D=some (.lst g)->Bm H' ((D8 G uss).map AH) g->(∀z∈g,∃a,z=.ref a/\H a=none)->Q (.ref D) H'
def cT:Sp:=fun vs H Q _=>∃(C:AD) (cs:List V) (uss:FB) (G:Int) (k:Nat),vs=[.ref C,.int G]/\Pd H C cs uss 4/\(∀us∈uss,∀m∈us,0<=B0 m/\B0 m<=3)/\G.natAbs<2^k/\k<=1200/\∀H',AJ H H'->Q (.int (Ke uss G)) H'
section
variable{P:F0b}{w:F0c}{K:Fg}{mg:tF}{base:Heap}{f g1 g2 g3:AD}{fd gd1 gd2 gd3:F0a}
def Q3:Ad ["change","grain","bottom","greatest"] ["change","grain"] (AO Gg):=Bk
def RH(F:Fn K mg "whole_change" Gg ["change","grain"] f fd)(Co:Fn K mg "speeds_bottom" F6 ["change"] g1 gd1)(CU:Fn K mg "greatest_power" FV ["change"] g2 gd2)(IW:Fn K mg "whole_poly" Kt ["some","bottom","grain","greatest"] g3 gd3) (IJ:AI P w K mg base Ag 3 g1 gd1 ["change"] eU)(HQ:AI P w K mg base Ag 3 g2 gd2 ["change"] eG)(Vb:AI P w K mg base Ag 3 g3 gd3 ["some","bottom","grain","greatest"] nM):AI P w K mg base Ag 4 f fd ["change","grain"] ml:=by
 have sc:=Q3;refine F.F.ok (k:=3) sc Do DP
 .obtain⟨C,cs,uss,G,k,rfl,_⟩:=h
  rfl
 obtain⟨C,cs,uss,G,k,rfl,I,hs,hG,hk,q⟩:=h;obtain⟨g1',g3',g2'⟩:=Pu (c:=3) AS fun us hus m hm=>(hs us hus m hm).2;obtain⟨b1,b2,_⟩:=Qz I.len I.HU;have Y:E5 uss=(CK uss:Int):=by unfold CK;lia
 have hl4:=I.len;refine⟨_,(AM (Ai (i:=2) sc.nd rfl (Or.inr rfl) (A3 Co IJ hr rfl (AE Fa AQ)))
 (AM (Ai (i:=3) sc.nd rfl (Or.inr rfl) (A3 CU HQ hr rfl (AE Fa AQ)))
 (AR (Aw (Dg [".0","some","bottom","grain","greatest"] 1 [none,none,some 2,some 1,some 3] (B4 Fa) (fun _ _ _ _ _=>D4) (fun _ _ _ _ _=>(A3 IW Vb hr rfl (AE Fy (AE (pv 2) (AE (pv 3) (AE (pv 4) AQ))))))))))),?_⟩
 refine⟨_,rfl,C,cs,uss,4,rfl,I,by decide,fun H1 e1=>?_⟩;refine⟨_,rfl,C,cs,uss,4,rfl,I.same e1,?_⟩;rw[Y];have I:=I.same e1;have hcl:=I.cl;refine⟨_,rfl,C,rfl,⟨_,Aj.of I.at_⟩,fun D hD=>E2 (n:=cs.length) (fun i ys H'=>AJ H1 H'/\ys.length=i/\Aa D H' (((uss.take i).map (Ia (Dz uss) G (CK uss))).map AH) ys/\∀z∈ys,∃a,z=.ref a/\H1 a=none) ⟨AZ hD _,rfl,.nil,fun _ h=>nomatch h⟩ ?_ ?_⟩
 .rintro i ys H2 hi ⟨R,U,dy,hn⟩ M;have hu:uss[i]? = some (uss[i]' AC):=aV _;obtain⟨a,xs,k1,k2,k3⟩:=Rb I.du hu;have g:=aL hu;generalize uss[i]' AC=us at hu k3 g;obtain⟨u12,uf⟩:=I.HU us g;refine⟨⟨cs,.ref a,Aj.of (R _ _ I.at_),k1⟩,NF (n:=60) AC AS,fun x H' y=>?_⟩;obtain⟨rfl,y⟩:=y;have hx:=y cs (Aj.of (R _ _ I.at_));rw[k1]at hx;cases hx;unfold Gm;refine C8 ⟨_,rfl,_,rfl,_,rfl,_,rfl,a,xs,us,Dz uss,G,CK uss,4,1+4*48,k,rfl,R _ _ k2,k3.same R,u12,by lia,fun m hm=>⟨uf m hm,(hs us g m hm).1,by rw[<-Y];exact g2' us g m hm⟩,b2,hG,by lia,fun Z H3 zs e3 hZ hZ3 dz=>?_⟩;have hD3:=e3 _ _ M;have nZ:Z≠D:=fun z=>by subst z;rw[M]at hZ;cases hZ
  refine⟨hD3,DZ hi ⟨fun b o z=>?_,by simp[U],?_,fun z T=>?_⟩⟩
  .rw[AK (AV z hD)];exact e3 _ _ (R _ _ z)
  .rw[(HS),hu,(CN),(CN)];exact .but .upd ((dy.same e3).app (.cons (.lst nZ hZ3 (Py hD3 dz)) .nil))
  .rcases aW.mp T with T|T
   .exact hn z T
   .rw[List.mem_singleton.mp T];exact⟨Z,rfl,Yh R hZ⟩
 .rintro ys H2 ⟨R,U,dy,hn⟩ M;rw[hcl,(FT)]at dy;exact⟨⟨cs,Aj.of (R _ _ I.at_),Nat.le_refl _⟩,q D H2 ys (e1.trans R) (Yh e1 hD) M (HP dy) fun z T=>let⟨a,h1,h2⟩:=hn z T;⟨a,h1,Yh e1 h2⟩⟩
def Yp:Ad ["change","grain"] ["change","grain"] (AO Lr):=Bk
def Yv(F:Fn K mg "pace_of" Lr ["change","grain"] f fd)(Co:Fn K mg "speeds_bottom" F6 ["change"] g1 gd1)(CU:Fn K mg "greatest_power" FV ["change"] g2 gd2)(Be:Fn K mg "power_of" FZ ["base","power"] g3 gd3) (IJ:AI P w K mg base Ag 3 g1 gd1 ["change"] eU)(HQ:AI P w K mg base Ag 3 g2 gd2 ["change"] eG)(CF:AI P w K mg base Ag 3 g3 gd3 ["base","power"] Q8):AI P w K mg base Ag 4 f fd ["change","grain"] cT:=by
 have sc:=Yp;refine F.F.ok (k:=3) sc Do (fun cdv A outer s H vs Q E M h=>?_)
 .obtain⟨C,cs,uss,G,k,rfl,_⟩:=h
  rfl
 obtain⟨C,cs,uss,G,k,rfl,g,Y,R,hk,q⟩:=h;obtain⟨g1',g3',g2'⟩:=Pu (c:=3) AS fun us I m hm=>(Y us I m hm).2;obtain⟨b1,b2,_⟩:=Qz g.len g.HU;have Z:E5 uss=(CK uss:Int):=by unfold CK;lia
 have U:(G^(CK uss-1)).natAbs<2^(k*3+1):=IK (p:=3) R AC;refine⟨_,(AR (Aw (Au Ci (A3 Co IJ M rfl (AE Fa AQ)) (A3 Be CF M rfl (AE Fy (AE (Au Jc (A3 CU HQ M rfl (AE Fa AQ)) AU) AQ)))))),?_⟩;refine⟨_,rfl,C,cs,uss,4,rfl,g,by decide,fun H1 T=>?_⟩;refine⟨_,rfl,_,rfl,C,cs,uss,4,rfl,g.same T,_,_,rfl,rfl,G,CK uss-1,k,?_,R,?_,_,_,rfl,rfl,MA b2 U AC,?_⟩
 .show [V.int G,V.int (E5 uss-1)]=[V.int G,V.int ((CK uss-1:Nat):Int)]
  congr 3
  lia
 .have:k*(CK uss-1)<=k*3:=aR k AC
  lia
 .exact q H1 T
end
def kM{J:It}{g:TG}{tb:TS}{D:Ends}{σ:St}{H:Hp}(n:Nat)(Pv:Nat->St->Hp->Prop)(h0:Pv 0 σ H) (hs:∀i σ H,i<n->Pv i σ H->J.go i H/\∀x H',J.EU i H x H'->g x σ H' fun I T=>tb {D with nx:=Pv (i+1),ct:=Pv (i+1),bk:=D.nx} I T)(hd:∀σ H,Pv n σ H->J.stop n H/\D.nx σ H):∃W:Nat->Nat->St->Hp->Prop,(∃m,W 0 m σ H)/\∀i m σ H,W i m σ H ->(J.stop i H/\D.nx σ H)\/(J.go i H/\∃N:St->Hp->Prop,(∀M H',N M H'->∃U,U<m/\W (i+1) U M H')/\∀x H',J.EU i H x H'->g x σ H' fun I T=>tb {D with nx:=N,ct:=N,bk:=D.nx} I T):=by
 refine⟨fun i m σ H=>m=n-i/\i<=n/\Pv i σ H,⟨n,by simp,Nat.zero_le _,h0⟩,?_⟩;rintro i m σ H ⟨rfl,hi,p⟩;by_cases R:i<n
 .obtain⟨k1,Z⟩:=hs i σ H R p;exact .inr ⟨k1,Pv (i+1),fun M H' Y=>⟨n-(i+1),by lia,rfl,R,Y⟩,Z⟩
 .have e:i=n:=by lia
  subst e;exact .inl (hd σ H p)
def JF(x:Rat):Nat->Rat
 |0=>1
 |n+1=>JF x n*x
theorem VW(x:Rat):∀n,Rat.divInt (x.num^n) ((x.den:Int)^n)=JF x n
 |0=>by rw[Int.pow_zero,Int.pow_zero,JF];rfl
 |n+1=>by
  rw[Int.pow_succ,Int.pow_succ,JF,<-VW x n,<-Rat.divInt_mul_divInt,FM.Fu]
def FP(zs:List (Int×Rat)):Rat:=zs.foldl (fun a z=>a*JF z.2 z.1.toNat) 1
def ZF(zs:List (Int×Rat))(z:Int×Rat):FP (zs++[z])=FP zs*JF z.2 z.1.toNat:=by unfold FP;rw[List.foldl_append];rfl
def fI{ps:tJ}{rs:tQ}{i:Nat}{p:Int}{x:Rat}(h1:ps[i]? = some p)(g:rs[i]? = some x):(ps.zip rs).take (i+1)=(ps.zip rs).take i++[(p,x)]:=by
 rw[List.take_succ]
 congr 1
 rw[(List.getElem?_zip_eq_some (z:=(p,x))).mpr ⟨h1,g⟩]
 rfl
def ej{d:Nat}(h:d≠0)(n:Nat):(1:Int)<=(d:Int)^n:=by
 have:0<(d:Int)^n:=Int.pow_pos AC
 lia
def VY:Sp:=fun vs H Q _=>∃(a:AD) (xs:List V) (ps:List (Int×Int)) (kt k:Nat),vs=[.ref a]/\H a=some (.lst xs)/\xs.length=ps.length/\ps.length<=1000/\(∀(j:Nat) x p,xs[j]? = some x->ps[j]? = some p->∃c,x=.ref c/\H c=some (.tup [.int p.1,.int p.2])) /\
 (∀p∈ps,1<=p.2/\p.1.natAbs<2^kt/\p.2.natAbs<2^k)/\k*ps.length<=4000/\kt<=100000/\∀l H',AJ H H'->H' l=some (.tup (Jp (ps.map fun p=>Rat.divInt p.1 p.2).sum))->Q (.ref l) H'
structure Zi(H:Hp)(S:Addr)(xs:List V)(rs:List Rat)(many k kd:Nat):Prop where
 at_:H S=some (.lst xs)
 du:Bm H (AY rs) xs
 len:rs.length=many
 fit:∀x∈rs,x.num.natAbs<2^k/\((x.den:Int)).natAbs<2^kd
def Zi.same{H H':Hp}{S:AD}{xs:tR}{rs:tQ}{many k kd:Nat}(s:Zi H S xs rs many k kd)(e:AJ H H'):Zi H' S xs rs many k kd:=⟨e _ _ s.at_,s.du.same e,s.len,s.fit⟩
def iI:Sp:=fun vs H Q _=>∃(P F S:AD) (ps:List Int) (r:Rat) (rs:List Rat) (xs:List V) (many k kd n nd:Nat),vs=[.ref P,.ref F,.ref S]/\H P=some (.tup (ps.map V.int))/\H F=some (.tup (Jp r))/\Zi H S xs rs many k kd/\ps.length=many/\many<=4/\k<=1300/\kd<=1300/\n<=20000/\nd<=20000 /\
 (∀p∈ps,(0:Int)<=p/\p<=3)/\r.num.natAbs<2^n/\((r.den:Int)).natAbs<2^nd/\∀c H' t b,AJ H H'->H' c=some (.tup [.int t,.int b])->1<=b->t.natAbs<2^(n+(3*k+1)*4)->b.natAbs<2^(nd+(3*kd+1)*4)->Rat.divInt t b=r*FP (ps.zip rs)->Q (.ref c) H'
def Je(us:List AW)(rs:tQ):Rat:=(us.map fun m=>m.2*FP (m.1.zip rs)).sum
def UZ:Sp:=fun vs H Q _=>∃(a S:AD) (xs ys:List V) (us:List AW) (rs:List Rat) (many k kd n nd:Nat),vs=[.ref a,.ref S]/\H a=some (.lst xs)/\Bm H (us.map Bv) xs/\us.length<=12/\(∀m∈us,m.1.length=many/\(∀p∈m.1,(0:Int)<=p/\p<=3)/\m.2.num.natAbs<2^n/\((m.2.den:Int)).natAbs<2^nd) /\
 Zi H S ys rs many k kd/\many<=4/\k<=1300/\kd<=1300/\n<=20000/\(nd+(3*kd+1)*4)*12<=4000/\∀l H',AJ H H'->H' l=some (.tup (Jp (Je us rs)))->Q (.ref l) H'
section
variable{P:F0b}{w:F0c}{K:Fg}{mg:tF}{base:Heap}{f g g1 g2:AD}{fd gd gd1 gd2:F0a}
def Rn(F:Fn K mg "frac_total" Ip ["some"] f fd)(Bg:Fn K mg "common_bottom" DV ["bottoms"] g1 gd1)(B8:Fn K mg "fraction_of" Fm ["top","bottom"] g2 gd2) (EY:AI P w K mg base Ag 2 g1 gd1 ["bottoms"] iT)(Cu:AI P w K mg base Ag 2 g2 gd2 ["top","bottom"] UT)(Gn:mg "sum" = none):AI P w K mg base Ag 3 f fd ["some"] VY:=by
 have sc:=T5;refine F.F.ok (k:=2) sc Do DP
 .obtain⟨a,xs,ps,kt,k,rfl,_⟩:=h
  rfl
 obtain⟨a,xs,ps,kt,k,rfl,ha,hl,h1000,hx,hp,hk,hkt,q⟩:=h;have hk1:ps≠[]->k<=4000:=fun hne=>by
  have:k*1<=k*ps.length:=aR k (List.length_pos_iff.mpr hne)
  lia
 have at_:∀(i:Nat) (hi:i<xs.length),∃(p:Int×Int) (c:AD),ps[i]? = some p/\xs[i]=.ref c/\H c=some (.tup [.int p.1,.int p.2]):=fun i hi=>by
  have hpi:ps[i]? = some (ps[i]' AC):=aV _;obtain⟨c,Y,h2⟩:=hx i xs[i] _ (aV hi) hpi;exact⟨_,c,hpi,Y,h2⟩
 refine⟨_,(AM (Ai (i:=1) sc.nd rfl (Or.inr rfl) (A3 Bg EY hr rfl (AE (Dg [".0","part"] 1 [none,none] (B4 Fa) (fun _ _ _ _ _=>D4) (fun _ _ _ _ _=>(B1 MZ Fy AU Da))) AQ)))
 (AR (Aw (A3 B8 Cu hr rfl (AE (BM (Vr rfl) rfl Gn PyProof.Rows.boot_sum (AE (Dg [".0","part","bottom"] 1 [none,none,some 1] (B4 Fa) (fun _ _ _ _ _=>D4) (fun _ _ _ _ _=>(Au Ci (B1 MZ Fy AU Da) (Au Ek (pv 2) (B1 MZ Fy AU Da))))) AQ)) (AE Fy AQ)))))),?_⟩
 refine⟨_,rfl,a,rfl,⟨_,Aj.of ha⟩,fun D hD=>E2 (n:=xs.length) (fun i ys H'=>AJ H H'/\ys=((ps.take i).map (·.2)).map V.int) ?_ ?_ ?_⟩
 .exact⟨AZ hD _,rfl⟩
 .rintro i ys H0 hi ⟨R,rfl⟩ U;obtain⟨p,c,Y,h2,h3⟩:=at_ i hi;refine⟨⟨xs,xs[i],Aj.of (R _ _ ha),by simp[hi]⟩,?_,fun x H' y=>?_⟩
  .rw[(Af),(Af),(Fc)];exact aQ (Nat.min_le_left _ _) (aH (show i<1000 by lia) (by rw[sizeLine_eq];decide))
  .obtain⟨rfl,y⟩:=y;have I:=y xs (Aj.of (R _ _ ha));rw[List.getElem?_eq_getElem hi,h2]at I;cases I;unfold Gm;refine C8 ⟨_,rfl,_,_,_,_,rfl,rfl,Ax.of (R _ _ h3),rfl,U,DZ hi ⟨fun b o z=>?_,?_⟩⟩
   .rw[AK (AV z hD)];exact R _ _ z
   .rw[List.take_succ,Y];simp
 rintro ys H0 ⟨R,rfl⟩ U;refine⟨⟨xs,Aj.of (R _ _ ha),Nat.le_refl _⟩,?_⟩;rw[hl,(FT)]at U;refine⟨D,ps.map (·.2),k,rfl,U,fun b hb=>?_,by rw[(Af)];exact hk,fun c c1 c2 c3=>?_⟩
 .obtain⟨p,M,rfl⟩:=aI.mp hb;exact⟨(hp p M).1,(hp p M).2.2⟩
 rw[(Af)]at c2;refine⟨_,rfl,a,rfl,⟨_,Aj.of (R _ _ ha)⟩,fun D2 hD2=>E2 (n:=xs.length) (fun i ys H'=>AJ H0 H'/\ys=((ps.take i).map fun p=>p.1*c.fdiv p.2).map V.int) ?_ ?_ ?_⟩
 .exact⟨AZ hD2 _,rfl⟩
 .rintro i ys H1 hi ⟨e1,rfl⟩ T;have E1:=R.trans e1;obtain⟨p,d,Y,h2,h3⟩:=at_ i hi;have Z:=aL Y;have hkk:=hk1 (List.ne_nil_of_mem Z);obtain⟨p1,p2,p3⟩:=hp p Z;refine⟨⟨xs,xs[i],Aj.of (E1 _ _ ha),by simp[hi]⟩,?_,fun x H' y=>?_⟩
  .rw[(Af),(Af),(Fc)];exact aQ (Nat.min_le_left _ _) (aH (show i<1000 by lia) (by rw[sizeLine_eq];decide))
  .obtain⟨rfl,y⟩:=y;have I:=y xs (Aj.of (E1 _ _ ha));rw[List.getElem?_eq_getElem hi,h2]at I;cases I;unfold Gm;refine C8 ⟨_,rfl,_,_,_,_,rfl,rfl,Ax.of (E1 _ _ h3),rfl,_,rfl,_,rfl,_,_,_,_,rfl,rfl,Ax.of (E1 _ _ h3),rfl,_,_,rfl,rfl,⟨by lia,k,by lia,p3⟩,_,_,rfl,rfl,MA p2 (aQ (FM.F7 c p.2) c2) AC,T,DZ hi ⟨fun b o z=>?_,?_⟩⟩
   .rw[AK (AV z hD2)];exact e1 _ _ z
   .rw[List.take_succ,Y];simp
 rintro ys H1 ⟨e1,rfl⟩ T;refine⟨⟨xs,Aj.of ((R.trans e1) _ _ ha),Nat.le_refl _⟩,?_⟩;rw[hl,(FT)]at T;refine⟨D2,_,rfl,Aj.of T,_,rfl,_,c,k*ps.length+1,rfl,by lia,by lia,c2,fun l H' e2 hl'=>?_⟩;refine q l H' (R.trans (e1.trans e2)) ?_;rw[X9 AC fun p M=>⟨by have:=(hp p M).1;lia,c3 _ (List.mem_map_of_mem M)⟩]at hl';exact hl'
def Tn:Ad ["powers","part","start","top","bottom","power","place"] ["powers","part","start"] (AO LF):=Bk
def SG(F:Fn K mg "term_worth" LF ["powers","part","start"] f fd)(Be:Fn K mg "power_of" FZ ["base","power"] g gd) (CF:AI P w K mg base Ag 1 g gd ["base","power"] Q8)(Kc:mg "zip" = none):AI P w K mg base Ag 2 f fd ["powers","part","start"] iI:=by
 have sc:=Tn;refine F.F.ok (k:=1) sc Do DP
 .obtain⟨P,F,S,ps,r,rs,xs,many,k,kd,n,nd,rfl,_⟩:=h
  rfl
 obtain⟨P,F,S,ps,r,rs,xs,many,k,kd,n,nd,rfl,hP,hF,st,M,R,hk,hkd,hn,hnd,hps,rn,rd,q⟩:=h;refine⟨_,(AM (Ai (i:=3) sc.nd rfl AT (B1 Ce Fy AU Da))
 (AM (Ai (i:=4) sc.nd rfl AT (B1 Ce Fy AU Da))
 (AM (C0 aP rfl (cZ rfl Kc (AE Fa (AE (pv 2) AQ))) (Fj rfl (BN (Az (i:=5) sc.nd rfl AT) (BN (Az (i:=6) sc.nd rfl AT) EN)))
  (AM (Ai (i:=3) sc.nd rfl AT (Au Ci (pv 3) (A3 Be CF hr rfl (AE (B1 Ce (pv 6) AU Da) (AE (pv 5) AQ)))))
  (AR (Ai (i:=4) sc.nd rfl AT (Au Ci (pv 4) (A3 Be CF hr rfl (AE (B1 Ce (pv 6) AU Da) (AE (pv 5) AQ))))))))
 (AR (Aw (JX (AE (pv 3) (AE (pv 4) AQ)))))))),?_⟩
 refine⟨_,rfl,_,_,_,_,rfl,rfl,Ax.of hF,rfl,_,rfl,_,_,_,_,rfl,rfl,Ax.of hF,rfl,?_⟩;refine⟨_,rfl,_,rfl,true,false,P,S,rfl,⟨_,hP⟩,⟨_,st.at_⟩,kM many (fun i σ H'=>∃(t b:Int) (r5 r6:Option V),σ=[some (.ref P),some (.ref F),some (.ref S),some (.int t),some (.int b),r5,r6]/\AJ H H'/\1<=b/\t.natAbs<2^(n+(3*k+1)*i)/\b.natAbs<2^(nd+(3*kd+1)*i)/\Rat.divInt t b=r*FP ((ps.zip rs).take i)) ?_ ?_ ?_⟩
 .refine⟨_,_,_,_,rfl,.refl _,?_,rn,rd,?_⟩
  .have:=r.den_nz;show(1:Int)<=(r.den:Int)
   lia
  .show Rat.divInt r.num (r.den:Int)=r*1;rw[FM.Fu,Rat.mul_one]
 .rintro i σ H1 hi ⟨t,b,r5,r6,rfl,I,b1,Z,nb,hv⟩;have hp:ps[i]? = some (ps[i]' AC):=aV _;have hx:rs[i]? = some (rs[i]'(by have:=st.len;lia)):=aV _;generalize ps[i]' AC=p at hp;generalize rs[i]'(by have:=st.len;lia)=x at hx;obtain⟨c,U,T⟩:=Qw st.du hx;obtain⟨p0,p3⟩:=hps p (aL hp);obtain⟨xn,xd⟩:=st.fit x (aL hx);have Y:(ps.map V.int)[i]? = some (.int p):=by rw[(BP),hp];rfl
  refine⟨⟨_,_,_,_,I _ _ hP,I _ _ st.at_,Y,U⟩,fun v H' y=>?_⟩;obtain⟨pp,x1,x2,rfl,np,rfl,q1,q2⟩:=y;have w1:=q1 _ (I _ _ hP);have w2:=q2 _ (I _ _ st.at_);rw[Y]at w1;rw[U]at w2;cases w1;cases w2;have sp:=AZ np (.tup [.int p,.ref c]);have E:=I.trans sp;obtain⟨pn,rfl⟩:∃pn:Nat,p=(pn:Int):=⟨p.toNat,by lia⟩;have n1:=IK (k:=k) (e:=pn) (p:=3) xn AC;have n2:=IK (k:=kd) (e:=pn) (p:=3) xd AC;have ki:(3*k+1)*i<=(3*k+1)*4:=aR _ AC;have kdi:(3*kd+1)*i<=(3*kd+1)*4:=aR _ AC;have kp:k*pn<=k*3:=aR _ AC;have kdp:kd*pn<=kd*3:=aR _ AC;refine⟨pp,_,rfl,Ax.of AN,rfl,_,_,rfl,_,_,rfl,rfl,?_⟩;refine⟨_,rfl,_,rfl,_,_,_,_,rfl,rfl,Ax.of (E _ _ T),rfl,_,rfl,x.num,pn,k,rfl,xn,by lia,_,_,rfl,rfl,MA Z n1 AC,?_⟩;refine⟨_,rfl,_,rfl,_,_,_,_,rfl,rfl,Ax.of (E _ _ T),rfl,_,rfl,(x.den:Int),pn,kd,rfl,xd,by lia,_,_,rfl,rfl,MA nb n2 AC,?_⟩;refine⟨_,_,_,_,rfl,E,?_,?_,?_,?_⟩
  .have:=Int.mul_le_mul b1 (ej x.den_nz pn) AS AC
   simpa using this
  .have:=FM.Dl Z n1;refine FM.EL this ?_;have e:(3*k+1)*(i+1)=(3*k+1)*i+(3*k+1):=Nat.mul_succ _ _
   lia
  .have:=FM.Dl nb n2;refine FM.EL this ?_;have e:(3*kd+1)*(i+1)=(3*kd+1)*i+(3*kd+1):=Nat.mul_succ _ _
   lia
  .rw[fI hp hx,ZF,<-Rat.mul_assoc,<-hv,(N3),<-VW,Rat.divInt_mul_divInt]
 .rintro σ H1 ⟨t,b,r5,r6,rfl,I,b1,Z,nb,hv⟩;refine⟨⟨_,_,I _ _ hP,I _ _ st.at_,.inl (by rw[(Af),M])⟩,_,rfl,_,rfl,Io (show 2<=60 by decide),fun c hc=>?_⟩;rw[List.take_of_length_le (by rw[List.length_zip,st.len,M,Nat.min_self];exact aG _)]at hv;have ki:(3*k+1)*many<=(3*k+1)*4:=aR _ R;have kdi:(3*kd+1)*many<=(3*kd+1)*4:=aR _ R;exact q c _ t b (I.trans (AZ hc _)) AN b1 (FM.EL Z AC) (FM.EL nb AC) hv
def W2:Ad ["some","start"] ["some","start"] (AO NA):=Bk
def VM(F:Fn K mg "worth_at" NA ["some","start"] f fd)(D6:Fn K mg "frac_total" Ip ["some"] g1 gd1)(Il:Fn K mg "term_worth" LF ["powers","part","start"] g2 gd2) (K0:AI P w K mg base Ag 3 g1 gd1 ["some"] VY)(Vg:AI P w K mg base Ag 3 g2 gd2 ["powers","part","start"] iI):AI P w K mg base Ag 4 f fd ["some","start"] UZ:=by
 have sc:=W2;refine F.F.ok (k:=3) sc Do DP
 .obtain⟨a,S,xs,ys,us,rs,many,k,kd,n,nd,rfl,_⟩:=h
  rfl
 obtain⟨a,S,xs,ys,us,rs,many,k,kd,n,nd,rfl,ha,dx,h12,hus,st,hm4,hk,hkd,hn,hsz,q⟩:=h;have hxl:xs.length=us.length:=by rw[dx.len,(Af)]
 refine⟨_,(AR (Aw (A3 D6 K0 hr rfl (AE (Lk [".0","powers","part","start"] 1 2 [none,none,none,some 1] (B4 Fa) (fun _ _ _ _ _=>D4) (fun _ _ _ _ _=>(A3 Il Vg hr rfl (AE Fy (AE (pv 2) (AE (pv 3) AQ)))))) AQ)))),?_⟩;refine⟨_,rfl,a,rfl,⟨_,Aj.of ha⟩,fun D hD=>QR (n:=xs.length) (fun i U H'=>AJ H H'/\∃R:List (Int×Int),R.length=i/\U.length=i/\(∀(j:Nat) z p,U[j]? = some z->R[j]? = some p->∃c,z=.ref c/\H' c=some (.tup [.int p.1,.int p.2]))/\(∀p∈R,1<=p.2/\p.1.natAbs<2^(n+(3*k+1)*4)/\p.2.natAbs<2^(nd+(3*kd+1)*4))/\R.map (fun p=>Rat.divInt p.1 p.2)=(us.take i).map fun m=>m.2*FP (m.1.zip rs)) ?_ ?_ ?_⟩
 .exact⟨AZ hD _,[],rfl,rfl,fun j z p h=>by simp at h,fun _ z=>(ay z).elim,rfl⟩
 .rintro i U H1 hi ⟨T,R,hql,hzl,hz,hb,hv⟩ M;obtain⟨t,ht⟩:∃t,us[i]? = some t:=⟨us[i]' AC,List.getElem?_eq_getElem _⟩;obtain⟨c,P,F,k1,k2,k3,k4⟩:=NH dx ht;obtain⟨u1,u2,u3,u4⟩:=hus t (aL ht);refine⟨⟨xs,xs[i],Aj.of (T _ _ ha),by simp[hi]⟩,NF (n:=60) AC AS,fun x H' y=>?_⟩;obtain⟨rfl,y⟩:=y;have hx:=y xs (Aj.of (T _ _ ha));rw[k1]at hx;cases hx;refine⟨c,_,_,rfl,Ax.of (T _ _ k2),?_⟩;unfold Gm;refine C8 ⟨_,rfl,_,rfl,_,rfl,P,F,S,t.1,t.2,rs,ys,many,k,kd,n,nd,rfl,T _ _ k3,T _ _ k4,st.same T,u1,hm4,hk,hkd,hn,by lia,u2,u3,u4,fun c' H2 tt bb e2 hc' b1 nt nb hv'=>?_⟩;refine⟨e2 _ _ M,DZ hi ⟨fun b o z=>?_,R++[(tt,bb)],by simp[hql],by simp[hzl],fun j z p Y I=>?_,fun p I=>?_,?_⟩⟩
  .rw[AK (AV z hD)];exact e2 _ _ (T _ _ z)
  .by_cases hjl:j<U.length
   .rw[List.getElem?_append_left hjl]at Y;rw[List.getElem?_append_left AC]at I;obtain⟨c1,rfl,Z⟩:=hz j z p Y I;refine⟨c1,rfl,?_⟩;rw[AK (fun zz=>by rw[zz,M]at Z;cases Z)];exact e2 _ _ Z
   .rw[List.getElem?_append_right AC]at Y I;have hk:j-U.length=0:=by
     have:=(aB.mp Y).1;simp at this;lia
    rw[show j-R.length=0 by lia]at I;rw[hk]at Y;simp at Y I;subst Y I;exact⟨c',rfl,by rw[AK (fun zz=>by rw[zz,e2 _ _ M]at hc';cases hc')];exact hc'⟩
  .rcases aW.mp I with I|I
   .exact hb p I
   .rw[List.mem_singleton.mp I];exact⟨b1,nt,nb⟩
  .rw[(CN),hv,List.take_succ,ht,(CN)];simp only[List.map_cons,List.map_nil,Option.toList_some];rw[hv']
 .rintro U H1 ⟨T,R,hql,hzl,hz,hb,hv⟩ M;refine⟨⟨xs,Aj.of (T _ _ ha),Nat.le_refl _⟩,?_⟩;have hq12:(nd+(3*kd+1)*4)*R.length<=(nd+(3*kd+1)*4)*12:=aR _ AC;refine⟨D,U,R,n+(3*k+1)*4,nd+(3*kd+1)*4,rfl,M,by lia,by lia,hz,hb,by lia,by lia,fun l H' e2 hl'=>q l H' (T.trans e2) ?_⟩;rw[hv,hxl,(FT)]at hl';exact hl'
end
def snocInd{α:Type}{P:List α->Prop}(h0:P [])(h1:∀l a,P l->P (l++[a]))(l:List α):P l:=by
 have:∀r:List α,P r.reverse:=fun r=>by
  induction r with
  |nil=>exact h0
  |cons a r g=>rw[List.reverse_cons];exact h1 _ _ g
 have:=this l.reverse
 rwa [List.reverse_reverse]at this
def Ml{H H':Hp}{p:AD}(e:AJ H H')(h:H' p=none):H p=none:=by
 cases k:H p with
 |none=>rfl
 |some o=>rw[e _ _ k]at h;cases h
abbrev T3:=List Int×Int×Int
def CP(ts:List T3):List tJ:=ts.foldl (fun g t=>if t.1∈g then g else g++[t.1]) []
def Gf(ts:List T3)(t:T3):CP (ts++[t])=if t.1∈CP ts then CP ts else CP ts++[t.1]:=by unfold CP;rw[List.foldl_append];rfl
def QB:∀ts:List T3,(CP ts).Nodup:=snocInd .nil fun l t g=>by
 rw[Gf];split
 .exact g
 .rename_i z;exact List.nodup_append.mpr ⟨g,by simp,fun a ha b I e=>z (by rw[List.mem_singleton.mp I]at e;exact e ▸ ha)⟩
def Nq{k:tJ}:∀ts:List T3,k∈CP ts->∃t∈ts,t.1=k:=snocInd (fun h=>by cases h) fun l t g h=>by
 rw[Gf]at h;split at h
 .obtain⟨u,a,b⟩:=g h;exact⟨u,List.mem_append_left _ a,b⟩
 .rcases aW.mp h with h|h
  .obtain⟨u,a,b⟩:=g h;exact⟨u,List.mem_append_left _ a,b⟩
  .exact⟨t,List.mem_append_right _ (.head _),(List.mem_singleton.mp h).symm⟩
def Zf(ts:List T3):(CP ts).length<=ts.length:=by
 refine snocInd (P:=fun ts:List T3=>(CP ts).length<=ts.length) (aG _) (fun l t g=>?_) ts;rw[Gf,(De)];split
 .lia
 .rw[(De)];exact Nat.add_le_add_right g 1
def KH(k:tJ)(ts:List T3):List (Int×Int):=(ts.filter fun t=>decide (t.1=k)).map (·.2)
def Mt(k:tJ)(ts:List T3)(t:T3):KH k (ts++[t])=if t.1=k then KH k ts++[t.2] else KH k ts:=by
 unfold KH;rw[List.filter_append,(CN)];by_cases z:t.1=k
 .rw[if_pos z,List.filter_cons_of_pos (by simpa using z)];rfl
 .rw[if_neg z,List.filter_cons_of_neg (by simpa using z)];exact List.append_nil _
def ji{k:tJ}{ts:List T3}(h:k ∉ CP ts):KH k ts=[]:=by
 revert h
 refine snocInd (P:=fun ts:List T3=>k ∉ CP ts->KH k ts=[]) (fun _=>rfl) (fun l t g h=>?_) ts;rw[Gf]at h;rw[Mt];split at h
 .rename_i z;rw[if_neg fun e:t.1=k=>h (e ▸ z)];exact g h
 .rw[if_neg fun e=>h (ag _ (by rw[e];exact .head _))];exact g fun z=>h (List.mem_append_left _ z)
def YE{k:tJ}{ts:List T3}{p:Int×Int}(h:p∈KH k ts):∃t∈ts,t.2=p:=by
 obtain⟨t,I,g⟩:=aI.mp h;exact⟨t,(List.mem_filter.mp I).1,g⟩
def O3(k:tJ)(ts:List T3):(KH k ts).length<=ts.length:=by unfold KH;rw[(Af)];exact List.length_filter_le _ _
def sumK(ts:List T3)(k:tJ):Rat:=((KH k ts).map fun p=>Rat.divInt p.1 p.2).sum
def desc(a b:tJ):Bool:=!IT.lt a b
def Kj(ts:List T3):List tJ:=(CP ts).mergeSort desc
def Oq(ts:List T3)(k:tJ):Option AW:=if sumK ts k=0 then none else some (k,sumK ts k)
def N6(ts:List T3):List AW:=(Kj ts).filterMap (Oq ts)
def eg{ts:List T3}{l:List tJ}(p:l.Perm (CP ts))(s:l.Pairwise fun a b=>IT.ord.kle b a):l=Kj ts:=by
 have e:∀a b:List Int,IT.ord.kle b a ↔ desc a b=true:=fun a b=>by
  unfold desc;show IT.lt a b=false ↔ _;cases IT.lt a b<;>simp
 refine List.Perm.eq_of_pairwise (le:=fun a b=>IT.ord.kle b a) (fun a b _ _ I g=>PyProof.Rows.KeyOrd.kle_antisymm (O:=IT.ord) g I) s ?_ (p.trans (List.mergeSort_perm _ _).symm);refine(List.pairwise_mergeSort (le:=desc) (fun a b c I g=>(e a c).mp (PyProof.Rows.KeyOrd.kle_trans (O:=IT.ord) ((e b c).mpr g) ((e a b).mpr I))) (fun a b=>?_) (CP ts)).imp fun h=>(e _ _).mpr h;unfold desc;cases h:IT.lt a b with
 |false=>rfl
 |true=>
  cases g:IT.lt b a with
  |false=>rfl
  |true=>have:=IT.lt_trans a b a h g;rw[IT.lt_irrefl]at this;cases this
def Vm{α β:Type}{f:α->β}{l:List α}(h:(l.map f).Nodup){a b:α}(ha:a∈l)(g:b∈l)(e:f a=f b):a=b:=by
 induction l with
 |nil=>cases ha
 |cons x l M=>
  rw[(BA),List.nodup_cons]at h;rcases aN.mp ha with ea|ha
  .rcases aN.mp g with I|g
   .rw[ea,I]
   .exact absurd (aI.mpr ⟨b,g,by rw[<-e,ea]⟩) h.1
  .rcases aN.mp g with I|g
   .exact absurd (aI.mpr ⟨a,ha,by rw[e,I]⟩) h.1
   .exact M h.2 ha g
def Fs(H:Hp)(ps:List (Int×Int))(ys:tR):Prop:=ys.length=ps.length/\∀(j:Nat) x p,ys[j]? = some x->ps[j]? = some p->∃c,x=.ref c/\H c=some (.tup [.int p.1,.int p.2])
def Fs.but{H:Hp}{ps:List (Int×Int)}{ys:tR}{a:AD}{o:HO}(h:Fs H ps ys)(k:∀xs,H a≠some (.tup xs)):Fs (upd H a o) ps ys:=⟨h.1,fun j x p g I=>let⟨c,e,q⟩:=h.2 j x p g I;⟨c,e,by rw[AK (fun z=>k _ (z ▸ q))];exact q⟩⟩
def Fs.snoc{H:Hp}{ps:List (Int×Int)}{ys:tR}{p:Int×Int}{F:AD}(h:Fs H ps ys)(k:H F=some (.tup [.int p.1,.int p.2])):Fs H (ps++[p]) (ys++[.ref F]):=by
 refine⟨by rw[(De),(De),h.1];rfl,fun j x q I g=>?_⟩;by_cases z:j<ps.length
 .rw[List.getElem?_append_left z]at g;rw[List.getElem?_append_left (by rw[h.1];exact z)]at I;exact h.2 j x q I g
 .rw[List.getElem?_append_right AC]at g;rw[List.getElem?_append_right (by rw[h.1];lia),h.1]at I;have:=(aB.mp g).1;rw[(QM)]at this;rw[show j-ps.length=0 by lia]at g I;cases g;cases I;exact⟨F,rfl,k⟩
abbrev kvsOf(kls:List (List Int×AD)):List (List Key×V):=kls.map fun q=>(q.1.map Sum.inl,V.ref q.2)
structure GI(H0:Hp)(A:Addr)(ts:List T3)(H:Hp)(kls:List (List Int×Addr)):Prop where
 at_:H A=some (.dT (kvsOf kls))
 keys:kls.map (·.1)=CP ts
 Sk:∀q∈kls,∃ys,H q.2=some (.lst ys)/\Fs H (KH q.1 ts) ys
 new:∀q∈kls,H0 q.2=none
 nd:(kls.map (·.2)).Nodup
 same:AJ H0 H
def jH{a b:tJ}:a.map (Sum.inl (β:=Str))=b.map Sum.inl ↔ a=b:=⟨fun h=>by
 induction a generalizing b with
 |nil=>cases b with
  |nil=>rfl
  |cons y b=>cases h
 |cons x a I=>cases b with
  |nil=>cases h
  |cons y b=>
   rw[(BA),(BA)]at h
   injection h with g M
   injection g with g
   rw[g,I M],fun h=>by rw[h]⟩
theorem Om{k:List Int}:∀kls:List (List Int×AD),C7 (kvsOf kls) (k.map Sum.inl)=(kls.find? fun q=>decide (q.1=k)).map fun q=>V.ref q.2
 |[]=>rfl
 |q::kls=>by
  have g:=Om (k:=k) kls;unfold C7 at g ⊢;rw[show kvsOf (q::kls)=(q.1.map Sum.inl,V.ref q.2)::kvsOf kls from rfl,List.find?_cons,List.find?_cons];by_cases z:q.1=k
  .rw[decide_eq_true z,decide_eq_true (by rw[z])];rfl
  .rw[decide_eq_false z,decide_eq_false (fun e=>z (jH.mp e))];exact g
def GI.old{H0 H:Hp}{A p F:AD}{ts:List T3}{kls:List (tJ×AD)}{t:T3}{v:V}(g:GI H0 A ts H kls)(hA:H0 A=none)(hp:H p=none)(hF:H F=some (.tup [.int t.2.1,.int t.2.2]))(hv:C7 (kvsOf kls) (t.1.map Sum.inl)=some v):∃l ys,v=.ref l/\upd H p (.lst []) l=some (.lst ys)/\ys.length<=ts.length/\GI H0 A (ts++[t]) (upd (upd H p (.lst [])) l (.lst (ys++[.ref F]))) kls:=by
 rw[Om]at hv;obtain⟨q,h1,rfl⟩:=aC.mp hv;have R:=List.mem_of_find?_eq_some h1;have hk:q.1=t.1:=by simpa using List.find?_some h1
 obtain⟨ys,U,fs⟩:=g.Sk q R;have npl:q.2≠p:=AV U hp;have Y:t.1∈CP ts:=by rw[<-g.keys,<-hk];exact aI.mpr ⟨q,R,rfl⟩
 have M:=AZ hp (.lst []);have T:upd H p (.lst []) q.2=some (.lst ys):=M _ _ U;have nlA:q.2≠A:=fun z=>by rw[z,g.at_]at U;cases U
 refine⟨q.2,ys,rfl,T,by rw[fs.1];exact O3 _ _,?_⟩;have tup:∀xs,upd H p (.lst []) q.2≠some (.tup xs):=fun xs z=>by rw[T]at z;cases z
 have I:∀ {ps Z},Fs H ps Z->Fs (upd (upd H p (.lst [])) q.2 (.lst (ys++[.ref F]))) ps Z:=fun h=>(h.but (fun xs z=>by rw[hp]at z;cases z)).but tup;refine⟨?_,by rw[Gf,if_pos Y];exact g.keys,fun r hr=>?_,g.new,g.nd,fun b o z=>?_⟩
 .rw[AK (Ne.symm nlA)];exact M _ _ g.at_
 .obtain⟨Z,hz,fz⟩:=g.Sk r hr;rw[Mt];by_cases e:r.2=q.2
  .have er:r=q:=Vm g.nd hr R e;subst er;rw[U]at hz;cases hz;rw[if_pos hk.symm];exact⟨_,by rw[AN],(I fz).snoc (by rw[AK (fun z=>tup _ (z ▸ M _ _ hF))];exact M _ _ hF)⟩
  .rw[if_neg fun z=>e (ai Prod.snd (Vm (f:=Prod.fst) (by rw[g.keys];exact QB ts) hr R (z.symm.trans hk.symm)))];exact⟨Z,by rw[AK e];exact M _ _ hz,I fz⟩
 .rw[AK (AV z (g.new q R))];exact M _ _ (g.same _ _ z)
def GI.fresh{H0 H:Hp}{A p F:AD}{ts:List T3}{kls:List (tJ×AD)}{t:T3}(g:GI H0 A ts H kls)(hA:H0 A=none)(M:H p=none)(hF:H F=some (.tup [.int t.2.1,.int t.2.2]))(hv:C7 (kvsOf kls) (t.1.map Sum.inl)=none):GI H0 A (ts++[t]) (upd (upd (upd H p (.lst [])) A (.dT (kvsOf kls++[(t.1.map Sum.inl,.ref p)]))) p (.lst ([]++[.ref F]))) (kls++[(t.1,p)]):=by
 rw[Om]at hv;have hn:t.1 ∉ CP ts:=fun z=>by
  rw[<-g.keys]at z;obtain⟨q,h1,h2⟩:=aI.mp z;rw[Option.map_eq_none_iff,List.find?_eq_none]at hv;exact hv q h1 (by simpa using h2)
 have Y:A≠p:=AV g.at_ M;have e1:=AZ M (.lst []);have hA1:=e1 _ _ g.at_;have R:∀xs,upd H p (.lst []) A≠some (.tup xs):=fun xs z=>by rw[hA1]at z;cases z
 have tupP:∀xs,upd (upd H p (.lst [])) A (.dT (kvsOf kls++[(t.1.map Sum.inl,.ref p)])) p≠some (.tup xs):=fun xs z=>by rw[AK (Ne.symm Y),AN]at z;cases z
 have Z:∀ {ps U},Fs H ps U->Fs (upd (upd (upd H p (.lst [])) A (.dT (kvsOf kls++[(t.1.map Sum.inl,.ref p)]))) p (.lst ([]++[.ref F]))) ps U:=fun h=>((h.but (fun xs z=>by rw[M]at z;cases z)).but R).but tupP;have hF3:(upd (upd (upd H p (.lst [])) A (.dT (kvsOf kls++[(t.1.map Sum.inl,.ref p)]))) p (.lst ([]++[.ref F]))) F=some (.tup [.int t.2.1,.int t.2.2]):=by
  rw[AK (fun z=>by subst z;rw[hF]at M;cases M),AK (fun z=>R _ (z ▸ e1 _ _ hF))];exact e1 _ _ hF
 refine⟨?_,?_,fun r I=>?_,fun r I=>?_,?_,fun b o z=>?_⟩
 .rw[AK Y,AN];unfold kvsOf;rw[(CN)];rfl
 .rw[(CN),g.keys,Gf,if_neg hn];rfl
 .rcases aW.mp I with I|I
  .obtain⟨U,T,fz⟩:=g.Sk r I;have hr1:r.1∈CP ts:=by rw[<-g.keys];exact aI.mpr ⟨r,I,rfl⟩
   rw[Mt,if_neg fun e:t.1=r.1=>hn (e ▸ hr1)];refine⟨U,?_,Z fz⟩;rw[AK (AV T M),AK (fun e=>by rw[e,g.at_]at T;cases T)];exact e1 _ _ T
  .rw[List.mem_singleton.mp I];refine⟨[]++[.ref F],AN,?_⟩;rw[Mt,if_pos rfl,ji hn];exact Fs.snoc (ps:=[]) (ys:=[]) ⟨rfl,fun j x p hx=>by cases hx⟩ hF3
 .rcases aW.mp I with I|I
  .exact g.new r I
  .rw[List.mem_singleton.mp I];exact Ml g.same M
 .rw[(CN),List.nodup_append];refine⟨g.nd,by simp,fun a ha b hb e=>?_⟩;obtain⟨r,I,rfl⟩:=aI.mp ha;obtain⟨U,T,_⟩:=g.Sk r I;rw[(BA),(Mw),List.mem_singleton]at hb;rw[e,hb,M]at T;cases T
 .rw[AK (AV z (Ml g.same M)),AK (AV z hA)];exact e1 _ _ (g.same _ _ z)
def Vf{n:Nat}(h:n<=1000):n<sizeLine:=aQ h AS
def GI.but{H0 H H':Hp}{A S:AD}{ts:List T3}{kls:List (tJ×AD)}(g:GI H0 A ts H kls)(e:SameBut S H H')(T:A≠S)(R:∀q∈kls,q.2≠S)(Z:∀xs,H S≠some (.tup xs))(h0:H0 S=none):GI H0 A ts H' kls :=
 ⟨e _ _ T g.at_,g.keys,fun q I=>let⟨ys,h1,M⟩:=g.Sk q I;⟨ys,e _ _ (R q I) h1,M.1,fun j x p U Y=>let⟨c,a,b⟩:=M.2 j x p U Y;⟨c,a,e _ _ (fun z=>Z _ (z ▸ b)) b⟩⟩,g.new,g.nd,fun b o z=>e _ _ (AV z h0) (g.same _ _ z)⟩
def GI.up{H0 H H':Hp}{A:AD}{ts:List T3}{kls:List (tJ×AD)}(g:GI H0 A ts H kls)(e:AJ H H'):GI H0 A ts H' kls :=
 ⟨e _ _ g.at_,g.keys,fun q R=>let⟨ys,U,I⟩:=g.Sk q R;⟨ys,e _ _ U,I.1,fun j x p M T=>let⟨c,a,b⟩:=I.2 j x p M T;⟨c,a,e _ _ b⟩⟩,g.new,g.nd,fun b o z=>e _ _ (g.same _ _ z)⟩
def Lf(H:Hp)(ts:List T3)(xs:tR):Prop:=xs.length=ts.length/\∀(j:Nat) t,ts[j]? = some t->∃c P F,xs[j]? = some (.ref c)/\H c=some (.tup [.ref P,.ref F])/\H P=some (.tup (t.1.map V.int))/\H F=some (.tup [.int t.2.1,.int t.2.2])
def NK(m:AW):T3:=(m.1,m.2.num,(m.2.den:Int))
def Lf.but{H H':Hp}{ts:List T3}{xs:tR}{S:AD}(h:Lf H ts xs)(e:SameBut S H H')(g:∀xs,H S≠some (.tup xs)):Lf H' ts xs:=⟨h.1,fun j t I=>let⟨c,P,F,a,b,d,f⟩:=h.2 j t I;⟨c,P,F,a,e _ _ (fun z=>g _ (z ▸ b)) b,e _ _ (fun z=>g _ (z ▸ d)) d,e _ _ (fun z=>g _ (z ▸ f)) f⟩⟩
def Lf.same{H H':Hp}{ts:List T3}{xs:tR}(h:Lf H ts xs)(e:AJ H H'):Lf H' ts xs:=⟨h.1,fun j t g=>let⟨c,P,F,a,b,d,f⟩:=h.2 j t g;⟨c,P,F,a,e _ _ b,e _ _ d,e _ _ f⟩⟩
def Lf.snoc{H:Hp}{ts:List T3}{xs:tR}{t:T3}{c P F:AD}(h:Lf H ts xs)(b:H c=some (.tup [.ref P,.ref F]))(d:H P=some (.tup (t.1.map V.int)))(f:H F=some (.tup [.int t.2.1,.int t.2.2])):Lf H (ts++[t]) (xs++[.ref c]):=by
 refine⟨by rw[(De),(De),h.1];rfl,fun j u g=>?_⟩;by_cases z:j<ts.length
 .rw[List.getElem?_append_left z]at g;rw[List.getElem?_append_left (by rw[h.1];exact z)];exact h.2 j u g
 .rw[List.getElem?_append_right AC]at g;have:=(aB.mp g).1;rw[(QM)]at this;rw[show j-ts.length=0 by lia]at g;cases g;exact⟨c,P,F,by rw[List.getElem?_append_right (by rw[h.1];lia),h.1,show j-ts.length=0 by lia];rfl,b,d,f⟩
def dh:Sp:=fun vs H Q _=>∃(T:AD) (xs:List V) (ts:List T3) (kt k:Nat),vs=[.ref T]/\H T=some (.lst xs)/\Lf H ts xs/\ts.length<=1000/\(∀t∈ts,t.1≠[]/\1<=t.2.2/\t.2.1.natAbs<2^kt/\t.2.2.natAbs<2^k)/\k*ts.length<=4000/\kt<=100000/\(CP ts).length<64 /\
 ∀D H' g,AJ H H'->H D=none->H' D=some (.lst g)->Lf H' ((N6 ts).map NK) g->Q (.ref D) H'
section
variable{P:F0b}{w:F0c}{K:Fg}{mg:tF}{base:Heap}{f g1:AD}{fd gd1:F0a}
def Wy:Ad ["terms","alike","powers","part","some","total"] ["terms"] (AO KP):=Bk
def Ws{k:Nat}(F:Fn K mg "gathered" KP ["terms"] f fd)(D6:Fn K mg "frac_total" Ip ["some"] g1 gd1)(K0:AI P w K mg base Ag k g1 gd1 ["some"] VY)(JL:mg "sorted" = none):AI P w K mg base Ag (k+1) f fd ["terms"] dh:=by
 have sc:=Wy;refine F.F.ok (k:=k) sc Do DP
 .obtain⟨T,xs,ts,kt,kk,rfl,_⟩:=h
  rfl
 obtain⟨T,xs,ts,kt,kk,rfl,hT,tm,h1000,Al,hk4,hkt,h64,q⟩:=h;refine⟨_,(AM (Ai (i:=1) sc.nd rfl AT VV)
  (AM (C0 aP rfl (B4 Fa) (Fj rfl (BN (Az (i:=2) sc.nd rfl AT) (BN (Az (i:=3) sc.nd rfl AT) EN)))
   (AR (EG (Oy bR bf bg Hl (cn (by have:=hr.units;exact aQ (Nat.add_le_add_left (show 1<=64 by decide) _) this) Fy (pv 2) (IP AQ) ⟨rfl,rfl,rfl,rfl⟩) (AE (pv 3) AQ)))))
  (AM (Ai (i:=4) sc.nd rfl AT (IP AQ))
  (AM (C0 aP rfl (B4 (eJ (by have:=hr.units;exact this) rfl rfl JL Fy)) (Az (i:=2) sc.nd rfl AT)
   (AM (Ai (i:=5) sc.nd rfl AT (A3 D6 K0 hr rfl (AE (ip (by have:=hr.units;exact aQ (Nat.add_le_add_left (show 1<=64 by decide) _) this) Fy (pv 2) Da) AQ)))
   (AR (CO (Bn M7 (B1 Ce (pv 5) AU Da) AU (Ay _))
    (AR (EG (Oy bR bf bg Hl (pv 4) (AE (JX (AE (pv 2) (AE (pv 5) AQ))) AQ))))
    BX))))
  (AR (Aw (pv 4))))))),?_⟩
 refine fun A hA=>?_;have e1:=AZ hA (.dT []);have g1:GI H A [] (upd H A (.dT [])) []:=⟨AN,rfl,(fun _ z=>(ay z).elim),(fun _ z=>(ay z).elim),List.nodup_nil,e1⟩;generalize upd H A (.dT [])=H1 at e1 g1;refine⟨_,rfl,T,rfl,⟨_,Aj.of (e1 _ _ hT)⟩,Em (xs:=xs) (fun i σ H'=>∃(U r3:Option V) (kls:List (List Int×AD)),σ=[some (.ref T),some (.ref A),U,r3,none,none]/\GI H A (ts.take i) H' kls) ?_ ?_ ?_ ?_⟩
 .exact⟨_,_,[],rfl,g1⟩
 .rintro i σ H' _ ⟨U,r3,kls,rfl,g⟩;exact Aj.of (g.same _ _ hT)
 .rintro i x σ H2 hx ⟨U,r3,kls,rfl,g⟩;have hi:i<ts.length:=by rw[<-tm.1];exact(aB.mp hx).1
  have hti:ts[i]? = some ts[i]:=by simp[hi]
  obtain⟨c,Pw,Fr,q1,q2,q3,q4⟩:=tm.2 i _ hti;have tk:ts.take (i+1)=ts.take i++[ts[i]]:=by rw[(HS),hti];rfl
  rw[tk];generalize ts[i]=t at q3 q4;rw[hx]at q1;cases q1;have hkl:kls.length<=i:=by
   have:=ai List.length g.keys;rw[(Af)]at this;have:=Zf (ts.take i);rw[(Fc)]at this
   lia
  refine⟨c,_,rfl,Ax.of (g.same _ _ q2),rfl,_,_,rfl,_,_,rfl,rfl,?_⟩;refine⟨_,rfl,A,rfl,.inr ⟨_,.inl g.at_⟩,_,rfl,(by show 0<=sizeLine;decide),fun p hp=>?_⟩;have nAp:A≠p:=AV g.at_ hp;have e3:=AZ hp (.lst []);refine⟨kvsOf kls,t.1.map Sum.inl,Pw,e3 _ _ g.at_,rfl,(by rw[(CZ)];exact e3 _ _ (g.same _ _ q3)),(by rw[(Af)];exact Vf AC),fun v hv=>?_,fun hv=>?_⟩
  .obtain⟨l,ys,rfl,I,hyl,g'⟩:=g.old hA hp (g.same _ _ q4) hv;refine⟨.inl ⟨rfl,_,Aj.of I⟩,_,rfl,l,ys,_,rfl,rfl,I,Vf (by rw[(Fc)]at hyl;lia),?_⟩;exact⟨_,_,kls,rfl,g'⟩
  .have g':=g.fresh hA hp (g.same _ _ q4) hv;have I:upd (upd H2 p (.lst [])) A (.dT (kvsOf kls++[(t.1.map Sum.inl,.ref p)])) p=some (.lst []):=by rw[AK (Ne.symm nAp)];exact AN
   refine⟨.inl ⟨rfl,_,Aj.of I⟩,_,rfl,p,[],_,rfl,rfl,I,(by show 0<sizeLine;decide),?_⟩;exact⟨_,_,_,rfl,g'⟩
 .rintro σ H2 ⟨U,r3,kls,rfl,g⟩;rw[tm.1,(FT)]at g;refine⟨(by show 0<=sizeLine;decide),fun S hS=>?_⟩;have e3:=AZ hS (.lst []);have hS3:upd H2 S (.lst []) S=some (.lst []):=AN;have g3:=g.up e3;have nAS:A≠S:=AV g.at_ hS;have nqS:∀q∈kls,q.2≠S:=fun q hq=>let⟨ys,h1,_⟩:=g.Sk q hq;AV h1 hS;have hS0:H S=none:=Ml g.same hS;generalize upd H2 S (.lst [])=H3 at e3 hS3 g3;have hkl:kls.length=(CP ts).length:=by rw[<-g.keys,(Af)]
  refine⟨_,rfl,A,kvsOf kls,CP ts,rfl,g3.at_,(by rw[(Af)];lia),fun prog w=>GS.Ms (O:=IT.ord) (ks:=(CP ts).reverse) (aQ (Nat.le_of_eq List.length_reverse) h64),fun p hp=>?_,(by rw[(CZ),<-g.keys,(CZ)];rfl),fun D L hD perm pw hL=>?_⟩
  .obtain⟨t,ht,rfl⟩:=Nq ts hp;exact(Al t ht).1
  have e4:=AZ hD (.lst (L.map fun l=>V.ref l.2));have hD4:upd H3 D (.lst (L.map fun l=>V.ref l.2)) D=some (.lst (L.map fun l=>V.ref l.2)):=AN;have g4:=g3.up e4;have Y:=e4 _ _ hS3;have nDS:D≠S:=(AV hS3 hD).symm;have hL4:∀l∈L,upd H3 D (.lst (L.map fun l=>V.ref l.2)) l.2=some (.tup (l.1.map V.int)):=fun l I=>e4 _ _ (hL l I);have hLk:L.map (·.1)=Kj ts:=eg perm (List.pairwise_map.mpr pw);generalize upd H3 D (.lst (L.map fun l=>V.ref l.2))=H4 at e4 hD4 g4 Y hL4;refine⟨D,rfl,⟨_,Aj.of hD4⟩,Em (xs:=L.map fun l=>V.ref l.2) (fun i σ H'=>∃(U r5:Option V) (R:List V),σ=[some (.ref T),some (.ref A),U,r3,some (.ref S),r5]/\SameBut S H4 H'/\GI H A ts H' kls/\H' S=some (.lst R)/\R.length<=i/\Lf H' ((((Kj ts).take i).filterMap (Oq ts)).map NK) R) ?_ ?_ ?_ ?_⟩
  .exact⟨_,_,[],rfl,fun _ _ _ z=>z,g4,Y,Nat.le_refl _,rfl,fun j t ht=>by cases ht⟩
  .rintro i σ H' _ ⟨U,r5,R,rfl,e,_⟩;exact Aj.of (e _ _ nDS hD4)
  .rintro i x σ H5 hx ⟨U,r5,R,rfl,e5,g5,hS5,hzl,tz⟩;rw[(BP)]at hx;obtain⟨l,I,rfl⟩:=aC.mp hx;have hi:i<L.length:=(aB.mp I).1;have hLm:=aL I;have hki:(Kj ts)[i]? = some l.1:=by rw[<-hLk,(BP),I];rfl
   have tk:(Kj ts).take (i+1)=(Kj ts).take i++[l.1]:=by rw[(HS),hki];rfl
   have hP5:=e5 _ _ (fun z=>by rw[<-z,hL4 l hLm]at Y;cases Y) (hL4 l hLm);have hmem:l.1∈kls.map (·.1):=by
    rw[g.keys];have:l.1∈L.map (·.1):=aI.mpr ⟨l,hLm,rfl⟩;exact perm.mem_iff.mp this
   obtain⟨kq,hkq,M⟩:=aI.mp hmem;obtain⟨ys,hy,fs⟩:=g5.Sk kq hkq;have hval:C7 (kvsOf kls) (l.1.map Sum.inl)=some (.ref kq.2):=by
    rw[Om];cases hf:kls.find? fun q=>decide (q.1=l.1) with
    |none=>
     rw[List.find?_eq_none]at hf;exact absurd (by simpa using M) (hf kq hkq)
    |some r=>
     have:=Vm (f:=Prod.fst) (by rw[g.keys];exact QB ts) (List.mem_of_find?_eq_some hf) hkq ((show r.1=l.1 by simpa using List.find?_some hf).trans M.symm);rw[this];rfl
   have hget:Pq H5 A (.ref l.2) (some (.ref kq.2)):=by
    have:=Pq.t (k:=l.1.map Sum.inl) (b:=l.2) g5.at_ (by rw[(CZ)];exact hP5);rw[hval]at this;exact this
   rw[tk,List.filterMap_append,(CN)];rw[M]at fs;refine⟨_,rfl,_,rfl,A,.ref kq.2,rfl,hget,kq.2,ys,KH l.1 ts,kt,kk,rfl,hy,fs.1,Nat.le_trans (O3 _ _) h1000,fs.2,fun p hp=>?_,Nat.le_trans (aR _ (O3 _ _)) hk4,hkt,fun Fo H6 e6 Z=>?_⟩
   .obtain⟨t,ht,rfl⟩:=YE hp;exact(Al t ht).2
   have Z:H6 Fo=some (.tup (Jp (sumK ts l.1))):=Z;have g6:=g5.up e6;have tz6:=tz.same e6;have hS6:=e6 _ _ hS5;have hP6:=e6 _ _ hP5;have sb6:SameBut S H4 H6:=e5.trans (.of e6);refine⟨_,rfl,_,_,_,_,rfl,rfl,Ax.of Z,rfl,rfl,_,rfl,Cm (fun cc=>?_) (fun cc=>?_)⟩
   .have hne:sumK ts l.1≠0:=fun z=>by
     rw[z]at cc;simp at cc
    have hgo:Oq ts l.1=some (l.1,sumK ts l.1):=if_neg hne;rw[(Rz),hgo];refine⟨_,rfl,.inl ⟨rfl,_,Aj.of hS6⟩,_,rfl,_,rfl,(by show 2<=sizeLine;decide),fun c hc=>?_⟩;have e7:=AZ hc (.tup [.ref l.2,.ref Fo]);have hc7:upd H6 c (.tup [.ref l.2,.ref Fo]) c=some (.tup [.ref l.2,.ref Fo]):=AN;generalize upd H6 c (.tup [.ref l.2,.ref Fo])=H7 at e7 hc7;have hS7:=e7 _ _ hS6;refine⟨S,R,_,rfl,rfl,hS7,Vf (by have:L.length<=1000:=(by have:=perm.length_eq;rw[(Af)]at this;lia);lia),?_⟩;have hSt:∀xs,H7 S≠some (.tup xs):=fun xs z=>by rw[hS7]at z;cases z
    refine⟨_,_,R++[.ref c],rfl,sb6.trans ((SameBut.of e7).trans .upd),(g6.up e7).but .upd nAS nqS hSt hS0,AN,by rw[(De)];exact Nat.add_le_add_right hzl 1,?_⟩;exact((tz6.same e7).snoc (t:=NK (l.1,sumK ts l.1)) hc7 (e7 _ _ hP6) (e7 _ _ Z)).but .upd hSt
   .have hz:sumK ts l.1=0:=by
     refine Rat.num_eq_zero.mp (Decidable.byContradiction fun z=>cc ?_)
     simpa using z
    have hgo:Oq ts l.1=none:=if_pos hz;rw[(Rz),hgo];refine⟨_,_,R,rfl,sb6,g6,hS6,by lia,?_⟩;rw[show List.filterMap (Oq ts) []=[] from rfl,(Mw),(J5)];exact tz6
  .rintro σ H5 ⟨U,r5,R,rfl,e5,g5,hS5,hzl,tz⟩;have hll:(L.map fun l=>V.ref l.2).length=(Kj ts).length:=by rw[<-hLk,(Af),(Af)]
   rw[hll,(FT)]at tz;exact⟨_,rfl,q S H5 R g5.same hS0 hS5 tz⟩
end
mutual
theorem M6{H:Hp}:∀ {d:PD} {v:V},d.canLay0=true->Du H d v->DU H d v
 |.none,_,_,h=>by rw[Du]at h;subst h;exact .Bf
 |.bool _,_,_,h=>by rw[Du]at h;subst h;exact .bool
 |.int _,_,_,h=>by rw[Du]at h;subst h;exact .int
 |.str _,_,_,h=>by rw[Du]at h;subst h;exact .str
 |.tuple _,_,c,h=>by
  rw[Du]at h;obtain⟨a,xs,rfl,I,g⟩:=h;exact .tup I (SN (by simpa only[PyData.canLay0]using c) g)
 |.list _,_,c,h=>by
  rw[Du]at h;obtain⟨a,xs,rfl,I,g⟩:=h;exact .lst I (SN (by simpa only[PyData.canLay0]using c) g)
 |.dict _,_,c,h=>by simp[PyData.canLay0]at c
theorem SN{H:Hp}:∀ {ds:List PD} {xs:List V},PyData.canLayAll0 ds=true->Aq H ds xs->Bm H ds xs
 |[],_,_,h=>by rw[h.nil_eq];exact .nil
 |_::_,_,c,h=>by
  obtain⟨x,r,rfl,I,g⟩:=h.un;simp only[PyData.canLayAll0,Bool.and_eq_true]at c;exact .cons (M6 c.1 I) (SN c.2 g)
end
mutual
theorem gk{l:AD}{H:Hp}:∀ {d:PD} {v:V},Dt l H d v->Du H d v
 |.none,_,h=>by rw[Dt]at h;rw[Du];exact h
 |.bool _,_,h=>by rw[Dt]at h;rw[Du];exact h
 |.int _,_,h=>by rw[Dt]at h;rw[Du];exact h
 |.str _,_,h=>by rw[Dt]at h;rw[Du];exact h
 |.tuple _,_,h=>by
  rw[Dt]at h;rw[Du];obtain⟨a,xs,rfl,n,I,g⟩:=h;exact⟨a,xs,rfl,I,SF g⟩
 |.list _,_,h=>by
  rw[Dt]at h;rw[Du];obtain⟨a,xs,rfl,n,I,g⟩:=h;exact⟨a,xs,rfl,I,SF g⟩
 |.dict _,_,h=>by rw[Dt]at h;exact h.elim
theorem SF{l:AD}{H:Hp}:∀ {ds:List PD} {xs:List V},Aa l H ds xs->Aq H ds xs
 |[],_,h=>by rw[Aa]at h;subst h;exact .nil
 |_::_,_,h=>by
  rw[Aa]at h;obtain⟨x,r,rfl,I,g⟩:=h;exact .cons (gk I) (SF g)
end
def DU.du{H:Hp}{d:PD}{v:V}(h:DU H d v):Du H d v:=let⟨N,k⟩:=h;gk (k N (aG _))
def iQ{G H H':Hp}{l:AD}{vs:tR}{ds:sx}(R:AJ G H)(e:AJ H H')(I:H' l=some (.tup vs))(d:Aq G ds vs):∃g,AJ G g/\Nw G H g/\AJ g H'/\Du g (.tuple ds) (.ref l):=by
 have M:AJ G (upd G l (.tup vs)):=fun a o h=>by
  by_cases ha:a=l
  .subst ha;have:=e _ _ (R _ _ h);rw[I]at this;rw[AN];exact this
  .rw[AK ha];exact h
 refine⟨upd G l (.tup vs),M,fun a u h=>?_,fun a u h=>?_,?_⟩
 .by_cases ha:a=l
  .subst ha;rw[AN]at h;cases h;exact .inr (.inr ⟨_,rfl⟩)
  .rw[AK ha]at h;exact .inl h
 .by_cases ha:a=l
  .subst ha;rw[AN]at h;rw[I];exact h
  .rw[AK ha]at h;exact e _ _ (R _ _ h)
 .rw[Du];exact⟨l,vs,rfl,AN,d.same M⟩
theorem Hg{G:Hp}:∀ps:List Int,Aq G (ps.map .int) (ps.map V.int)
 |[]=>.nil
 |p::ps=>.cons (by rw[Du]) (Hg ps)
section
variable{P:F0b}{w:F0c}{K:Fg}{mg:tF}{base:Heap}{CX:GL}{k:Nat}{f:AD}{fd:F0a}{ps:tK}
def mB(q:PD->Bool):MD
 |[d]=>if d.canLay0=true then some (.bool (q d)) else none
 |_=>none
def pq{q:PD->Bool}{d:PD}(h:d.canLay0=true):mB q [d]=some (.bool (q d)):=if_pos h
def Uo{q:PD->Bool}{d:PD}{b:Bool}(h:d.canLay0=true)(e:q d=b):mB q [d]=some (.bool b):=(pq h).trans (by rw[e])
def qD{sp:Sp}{q:PD->Bool}(F:AI P w K mg base CX k f fd ps sp)(h:∀(l:AD) d v H Q E,Dt l H d v->(∀H',AJ H H'->Q (.bl (q d)) H')->sp [v] H Q E):AI P w K mg base CX k f fd ps (BI (mB q)) :=
 Rl F fun T x hm G H vs Q E d e I=>by
  unfold mB at hm;split at hm
  .split at hm
   .rename_i U M;cases hm;obtain⟨v,rfl,R⟩:=d.Lv;obtain⟨N,b⟩:=M6 M (R.same e);exact h N _ v H Q E (b N (aG _)) fun H' g=>I _ G H' (.refl _) Nw.refl (e.trans g) g (by rw[Du])
   .cases hm
  .cases hm
end
theorem VB:∀ps:List Int,PyData.canLayAll0 (ps.map .int)=true
 |[]=>by simp[PyData.canLayAll0]
 |p::ps=>by rw[(BA)];simp only[PyData.canLayAll0,PyData.canLay0];rw[VB ps];rfl
def Su{ds:sx}(h:∀d∈ds,d.canLay0=true):PyData.canLayAll0 ds=true:=by
 induction ds with
 |nil=>simp[PyData.canLayAll0]
 |cons d ds g=>simp only[PyData.canLayAll0];rw[h d (.head _),g fun e I=>h e (.tail _ I)];rfl
def GZ{ds:sx}(h:∀d∈ds,d.canLay0=true):(PyData.list ds).canLay0=true:=by simp only[PyData.canLay0];exact Su h
def UE{ds:sx}(h:∀d∈ds,d.canLay0=true):(PyData.tuple ds).canLay0=true:=by simp only[PyData.canLay0];exact Su h
def Iz(G H H':Hp):Hp:=fun b=>match H' b with
 |some (.tup xs)=>some (.tup xs)
 |some o=>if H b=none then some o else G b
 |none=>none
def MW{G H H':Hp}{a:AD}{xs:tR}(h:H' a=some (.tup xs)):Iz G H H' a=some (.tup xs):=by unfold Iz;rw[h]
def WV{G H H':Hp}{a:AD}{xs:tR}(h:H' a=some (.lst xs))(h0:H a=none):Iz G H H' a=some (.lst xs):=by unfold Iz;rw[h];exact if_pos h0
def YI{G H H':Hp}(I:AJ G H)(e:AJ H H'):AJ G (Iz G H H')/\Nw G H (Iz G H H')/\AJ (Iz G H H') H':=by
 refine⟨fun a o h=>?_,fun a o h=>?_,fun a o h=>?_⟩
 .have g:=I _ _ h;have M:=e _ _ g;unfold Iz;rw[M];cases o with
  |tup xs=>rfl
  |_=>simp only[g];exact h
 .unfold Iz at h;split at h
  .cases h;exact .inr (.inr ⟨_,rfl⟩)
  .split at h
   .rename_i z;exact .inr (.inl z)
   .exact .inl h
  .cases h
 .unfold Iz at h;cases z:H' a with
  |none=>rw[z]at h;cases h
  |some u=>
   rw[z]at h;cases u with
   |tup xs=>exact h
   |_=>
    simp only at h;split at h
    .exact h
    .rw[<-z];exact e _ _ (I _ _ h)
open Classical in
noncomputable def LV{α:Type}(hand:α->List PD)(ok:α->Prop)(tell:α->PD)(ds:sx):tG:=if h:∃a,ds=hand a/\ok a then some (tell (choose h)) else none
def N0{α:Type}{hand:α->List PD}{ok:α->Prop}{tell:α->PD}{a:α}(inj:∀b,hand a=hand b->a=b)(h:ok a):LV hand ok tell (hand a)=some (tell a):=by
 have e:∃b,hand a=hand b/\ok b:=⟨a,rfl,h⟩;unfold LV;rw[dif_pos e,<-inj _ (bW e).1]
def Wi{P:F0b}{w:F0c}{K:Fg}{mg:tF}{base:Heap}{CX:GL}{k:Nat}{f:AD}{fd:F0a}{ps:tK}{sp:Sp}{α:Type}{hand:α->List PD}{ok:α->Prop}{tell:α->PD}(F:AI P w K mg base CX k f fd ps sp) (h:∀a,ok a->∀G H vs Q E,Aq G (hand a) vs->AJ G H->(∀v g H',AJ G g->Nw G H g->AJ g H'->AJ H H'->Du g (tell a) v->Q v H')->sp vs H Q E):AI P w K mg base CX k f fd ps (BI (LV hand ok tell)) :=
 F.imp fun vs H Q E ⟨R,x,G,hm,d,e,I⟩=>by
  unfold LV at hm;split at hm
  .rename_i M;cases hm;have c:=bW M;refine h _ c.2 G H vs Q E ?_ e I;rw[<-c.1];exact d
  .cases hm
def GF(t:T3):PD:=.tuple [.tuple (t.1.map .int),.tuple [.int t.2.1,.int t.2.2]]
theorem Lz:∀ {a b:List Int},a.map PyData.int=b.map PyData.int->a=b
 |[],[],_=>rfl
 |[],_::_,h=>by cases h
 |_::_,[],h=>by cases h
 |x::a,y::b,h=>by
  rw[(BA),(BA)]at h
  injection h with g I
  injection g with g
  rw[g,Lz I]
def ja{a b:T3}(h:GF a=GF b):a=b:=by
 obtain⟨a1,a2,a3⟩:=a;obtain⟨b1,b2,g⟩:=b;unfold GF at h;simp only[PyData.tuple.injEq,List.cons.injEq,PyData.int.injEq,and_true]at h;rw[Lz h.1,h.2.1,h.2.2]
theorem map_inj{α β:Type}{f:α->β}(g:∀a b,f a=f b->a=b):∀ {a b:List α},a.map f=b.map f->a=b
 |[],[],_=>rfl
 |[],_::_,h=>by cases h
 |_::_,[],h=>by cases h
 |x::a,y::b,h=>by
  rw[(BA),(BA)]at h
  injection h with M I
  rw[g _ _ M,map_inj g I]
structure gQ(ts:List T3):Prop where
 B2:ts.length<=1000
 sY:∃kt k,(∀t∈ts,t.1≠[]/\1<=t.2.2/\t.2.1.natAbs<2^kt/\t.2.2.natAbs<2^k)/\k*ts.length<=4000/\kt<=100000
 keys:(CP ts).length<64
noncomputable abbrev ig:MD:=LV (fun ts:List T3=>[.list (ts.map GF)]) gQ fun ts=>AH (N6 ts)
def Zv{ts:List T3}(h:gQ ts):ig [.list (ts.map GF)]=some (AH (N6 ts)):=N0 (hand:=fun ts:List T3=>[.list (ts.map GF)]) (fun b e=>map_inj (fun _ _=>ja) (by injection e with e;injection e)) h
def jr(m:AW):Bv m=GF (NK m):=rfl
def iW{G:Hp}{t:T3}{v:V}(h:Du G (GF t) v):∃c P F,v=.ref c/\G c=some (.tup [.ref P,.ref F])/\G P=some (.tup (t.1.map V.int))/\G F=some (.tup [.int t.2.1,.int t.2.2]):=by
 unfold GF at h;rw[Du]at h;obtain⟨c,xs,rfl,Z,d⟩:=h;obtain⟨x,y,rfl,T,R⟩:=d.Ln;rw[Du]at T R;obtain⟨P,ps,rfl,hP,dp⟩:=T;obtain⟨F,fs,rfl,hF,df⟩:=R;obtain⟨u,v,rfl,M,I⟩:=df.Ln;rw[Du]at M I;subst M I;refine⟨c,P,F,rfl,Z,?_,hF⟩;have:∀ {is:List Int} {us:List V},Aq G (is.map .int) us->us=is.map V.int:=fun {is}=>by
  induction is with
  |nil=>intro us h;exact h.nil_eq
  |cons i is Y=>
   intro us h;obtain⟨x,r,rfl,g,U⟩:=h.un;rw[Du]at g;subst g;rw[Y U];rfl
 rw[<-this dp];exact hP
theorem Z0{G:Hp}:∀ {ts:List T3} {xs:List V},Aq G (ts.map GF) xs->Lf G ts xs
 |[],xs,h=>by rw[h.nil_eq];exact⟨rfl,fun j t M=>by cases M⟩
 |t::ts,xs,h=>by
  obtain⟨x,r,rfl,T,R⟩:=h.un;obtain⟨c,P,F,rfl,a,b,d⟩:=iW T;have g:=Z0 R;refine⟨ai (· + 1) g.1,fun j u I=>?_⟩;cases j with
  |zero=>cases I;exact⟨c,P,F,rfl,a,b,d⟩
  |succ j=>exact g.2 j u I
theorem WJ{G H H':Hp}:∀ {ts:List T3} {xs:List V},Lf H' ts xs->Aq (Iz G H H') (ts.map GF) xs
 |[],xs,h=>by rw[List.eq_nil_of_length_eq_zero h.1];exact .nil
 |t::ts,[],h=>by cases h.1
 |t::ts,x::xs,h=>by
  obtain⟨c,P,F,e,a,b,d⟩:=h.2 0 t rfl;cases e;refine .cons ?_ (WJ ⟨by simpa using h.1,fun j u g=>h.2 (j+1) u g⟩);unfold GF;rw[Du];refine⟨c,_,rfl,MW a,.cons ?_ (.cons ?_ .nil)⟩
  .rw[Du];exact⟨P,_,rfl,MW b,Hg t.1⟩
  .rw[Du];exact⟨F,_,rfl,MW d,Hg [t.2.1,t.2.2]⟩
def qQ{P:F0b}{w:F0c}{K:Fg}{mg:tF}{base:Heap}{CX:GL}{k:Nat}{f:AD}{fd:F0a}{ps:tK}(F:AI P w K mg base CX k f fd ps dh):AI P w K mg base CX k f fd ps (BI ig):=Wi F fun ts o G H vs Q E d e Z=>by
 obtain⟨v,rfl,R⟩:=d.Lv;rw[Du]at R;obtain⟨T,xs,rfl,hT,dx⟩:=R;obtain⟨kt,g,hb,h4,ht⟩:=o.sY;refine⟨T,xs,ts,kt,g,rfl,e _ _ hT,(Z0 dx).same e,o.B2,hb,h4,ht,o.keys,fun D H' U M hD I tz=>?_⟩;obtain⟨n1,Y,n3⟩:=YI e M;refine Z (.ref D) _ H' n1 Y n3 M ?_;unfold AH;rw[Du];refine⟨D,U,rfl,WV I hD,?_⟩;have:=WJ (G:=G) (H:=H) tz;rw[(CZ)]at this;exact this
section
variable{P:F0b}{w:F0c}{K:Fg}{mg:tF}{base:Heap}{f:AD}{fd:F0a}
def K5:Ad ["powers","more"] ["powers","more"] (AO IH):=Bk
def Qh:DF :=
 (C9 (Ae LS (AB (Gk (Cy 1 2) IG (Ap EB (nm 1) (nm 2)) [none,none,none] (Hz zip2 (AB (nm 0) (AB (nm 1) AL)))) AL)))
def Bo:MD:=Ds ["powers","more"] ["powers","more"] (Qh)
def Pt{k:Nat}(F:Fn K mg "powers_joined" IH ["powers","more"] f fd)(I:mg "tuple" = none)(g:mg "zip" = none):AI P w K mg base Ag (k+1) f fd ["powers","more"] (BI (Bo)):=Jl F K5 fun cdv A outer s H E M=>by
 have sc:=K5;exact(Ar (Bs (N5 QJ rfl I bA (AA (gM [".0","power","other"] 1 2 [none,none,none] (cQ rfl g (AA (AF Fa) (AA (AF Fy) AG))) (fun _ _ _ _ _=>JM) (fun _ _ _ _ _=>(A8 Di (AF Fy) (AF (pv 2))))) AG))))
def Pb:Ad ["powers","k"] ["powers","k"] (AO Mu):=Bk
def YZ:DF :=
 (C9 (Ap EB (Ap EB (Mi (nm 0) KW (Km (nm 1))) (BW (AB (Ap Vo (Ap DQ (nm 0) (nm 1)) (fC (.int 1))) AL))) (Mi (nm 0) (Km (Ap EB (nm 1) (fC (.int 1)))) KW)))
def Cs:MD:=Ds ["powers","k"] ["powers","k"] (YZ)
def W9{k:Nat}(F:Fn K mg "one_less" Mu ["powers","k"] f fd):AI P w K mg base Ag (k+1) f fd ["powers","k"] (BI (Cs)):=Jl F Pb fun cdv A outer s H E g=>by
 have sc:=Pb;exact(Ar (Bs (A8 Di (A8 Di (Mr (AF Fa) O2 (Oo (AF Fy))) (A7 (AA (A8 Ov (Cp (AF Fa) (AF Fy) Da) Ah) AG))) (Mr (AF Fa) (Oo (A8 Di (AF Fy) Ah)) O2))))
def NW:Ad FI FI (AO IZ):=Bk
def US(g:MD):DF :=
 (C9 (Ae g (AB (Ap Dw (Ap DQ (nm 0) (fC (.int 0))) (Ap DQ (nm 1) (fC (.int 0)))) (AB (Ap Dw (Ap DQ (nm 0) (fC (.int 1))) (Ap DQ (nm 1) (fC (.int 1)))) AL))))
def BK(g:MD):MD:=Ds FI FI (US g)
def Tg{k:Nat}{M:MD}(F:Fn K mg "frac_times" IZ FI f fd) {g:AD}{I:F0a}(U:Fn K mg "fraction_of" Fm ["top","bottom"] g I)(T:AI P w K mg base Ag k g I ["top","bottom"] (BI M)):AI P w K mg base Ag (k+1) f fd FI (BI (BK M)):=Jl F NW fun cdv A outer s H E R=>by
 have sc:=NW;exact(Ar (Bs (Am U T R rfl (AA (A8 E9 (Cp (AF Fa) Ah Da) (Cp (AF Fy) Ah Da)) (AA (A8 E9 (Cp (AF Fa) Ah Da) (Cp (AF Fy) Ah Da)) AG)))))
def PQ:Ad FI FI (AO KY):=Bk
def Yy(g:MD):DF :=
 (C9 (Ae g (AB (Ap EB (nm 0) (nm 1)) AL)))
def BE(g:MD):MD:=Ds FI FI (Yy g)
def Wr{k:Nat}{M:MD}(F:Fn K mg "poly_sum" KY FI f fd) {g:AD}{I:F0a}(U:Fn K mg "gathered" KP ["terms"] g I)(T:AI P w K mg base Ag k g I ["terms"] (BI M)):AI P w K mg base Ag (k+1) f fd FI (BI (BE M)):=Jl F PQ fun cdv A outer s H E R=>by
 have sc:=PQ;exact(Ar (Bs (Am U T R rfl (AA (A8 Di (AF Fa) (AF Fy)) AG))))
def NS:Ad ["one","other","terms","powers","part","more","share"] FI (AO LG):=Bk
def OC(g:MD)(Bo:MD):DF :=
 (BF (rk 2 AL)
 (BF (IE (GD (nm 0)) (Cy 3 4)
  (IE (GD (nm 1)) (Cy 5 6)
   (nW 2 (BW (AB (Ae Bo (AB (nm 3) (AB (nm 5) AL))) (AB (BW (AB (Ap Dw (Ap DQ (nm 4) (fC (.int 0))) (Ap DQ (nm 6) (fC (.int 0)))) (AB (Ap Dw (Ap DQ (nm 4) (fC (.int 1))) (Ap DQ (nm 6) (fC (.int 1)))) AL))) AL))))))
 (qe 2 (C9 (Ae g (AB (nm 2) AL))))))
def Bc(g:MD)(Bo:MD):MD:=Ds FI ["one","other","terms","powers","part","more","share"] (OC g Bo)
def Tz{k:Nat}{U:MD}{Bo:MD}(F:Fn K mg "poly_times" LG FI f fd) {R:AD}{T:F0a}(FX:Fn K mg "gathered" KP ["terms"] R T)(Gb:AI P w K mg base Ag k R T ["terms"] (BI U)) {I:AD}{M:F0a}(F8:Fn K mg "powers_joined" IH ["powers","more"] I M)(Z:AI P w K mg base Ag k I M ["powers","more"] (BI Bo)):AI P w K mg base Ag (k+1) f fd FI (BI (Bc U Bo)):=Jl F NS fun cdv A outer s H E g=>by
 have sc:=NS;exact(Ak (mm (i:=2) sc.nd rfl AT AG)
 (Ak (LW aP rfl (HD (AF Fa)) (Nv (Fj rfl (BN (Az (i:=3) sc.nd rfl AT) (BN (Az (i:=4) sc.nd rfl AT) EN))))
  (Ar (LW aP rfl (HD (AF Fy)) (Nv (Fj rfl (BN (Az (i:=5) sc.nd rfl AT) (BN (Az (i:=6) sc.nd rfl AT) EN))))
   (Ar (cX (pv 2) (A7 (AA (Am F8 Z g rfl (AA (AF (pv 3)) (AA (AF (pv 5)) AG))) (AA (A7 (AA (A8 E9 (Cp (AF (pv 4)) Ah Da) (Cp (AF (pv 6)) Ah Da)) (AA (A8 E9 (Cp (AF (pv 4)) Ah Da) (Cp (AF (pv 6)) Ah Da)) AG))) AG))) (fun Y ha=>EG (Oy bR bf bg Hl Y ha)))))))
 (Ar (kB 2 (Bs (Am FX Gb g rfl (AA (AF (pv 2)) AG)))))))
def MQ:Ad ["some","part"] ["some","part"] (AO HK):=Bk
def HL(BK:MD):DF :=
 (BF (IL (Cn (F3 false) (Ap DQ (nm 1) (fC (.int 0))) (fC (.int 0)))
  (C9 (CH AL))
  EZ)
 (Lp (Cz (Cy 1 2) IG (BW (AB (nm 1) (AB (Ae BK (AB (nm 2) (AB (nm 3) AL))) AL))) [none,none,none,some 1] (GD (nm 0)))))
def BD(BK:MD):MD:=Ds ["some","part"] ["some","part"] (HL BK)
def Rr{k:Nat}{BK:MD}(F:Fn K mg "poly_scaled" HK ["some","part"] f fd) {I:AD}{M:F0a}(T:Fn K mg "frac_times" IZ FI I M)(R:AI P w K mg base Ag k I M FI (BI BK)):AI P w K mg base Ag (k+1) f fd ["some","part"] (BI (BD BK)):=Jl F MQ fun cdv A outer s H E g=>by
 have sc:=MQ;exact(Ak (FW (CI (RP (by have:=g.units;exact this)) (Cp (AF Fy) Ah Da) Ah (Ay _))
  (Ar (Bs (BQ AG)))
  C6)
 (Ar (VX [".0","powers","share","part"] 1 2 [none,none,none,some 1] (HD (AF Fa)) (fun _ _ _ _ _=>JM) (fun _ _ _ _ _=>(A7 (AA (AF Fy) (AA (Am T R g rfl (AA (AF (pv 2)) (AA (AF (pv 3)) AG))) AG)))))))
def NN:Ad ["some","k"] ["some","k"] (AO IC):=Bk
def OY(BK:MD)(Cs:MD):DF :=
 (Lp (Cz (Cy 1 2) (Cn (HR fun i j=>decide (j<i)) (Ap DQ (nm 1) (nm 3)) (fC (.int 0))) (BW (AB (Ae Cs (AB (nm 1) (AB (nm 3) AL))) (AB (Ae BK (AB (nm 2) (AB (BW (AB (Ap DQ (nm 1) (nm 3)) (AB (fC (.int 1)) AL))) AL))) AL))) [none,none,none,some 1] (GD (nm 0))))
def A2(BK:MD)(Cs:MD):MD:=Ds ["some","k"] ["some","k"] (OY BK Cs)
def Tt{k:Nat}{BK:MD}{Cs:MD}(F:Fn K mg "poly_slope" IC ["some","k"] f fd) {R:AD}{T:F0a}(EC:Fn K mg "frac_times" IZ FI R T)(Z:AI P w K mg base Ag k R T FI (BI BK)) {I:AD}{M:F0a}(Y:Fn K mg "one_less" Mu ["powers","k"] I M)(U:AI P w K mg base Ag k I M ["powers","k"] (BI Cs)):AI P w K mg base Ag (k+1) f fd ["some","k"] (BI (A2 BK Cs)):=Jl F NN fun cdv A outer s H E g=>by
 have sc:=NN;exact(Ar (VX [".0","powers","part","k"] 1 2 [none,none,none,some 1] (HD (AF Fa)) (fun _ _ _ _ _=>(X2 (CI Qm (Cp (AF Fy) (AF (pv 3)) Da) Ah (Ay _)))) (fun _ _ _ _ _=>(A7 (AA (Am Y U g rfl (AA (AF Fy) (AA (AF (pv 3)) AG))) (AA (Am EC Z g rfl (AA (AF (pv 2)) (AA (A7 (AA (Cp (AF Fy) (AF (pv 3)) Da) (AA Ah AG))) AG))) AG))))))
def Q4:Ad ["some","boughs","total","k","place","slope"] ["some","boughs"] (AO JH):=Bk
def E8(A2:MD)(BE:MD)(Bc:MD)(D3:MD):DF :=
 (BF (IL (Cn (F3 false) (Ae J4 (AB (nm 1) AL)) (fC (.int 0)))
  (C9 (nm 0))
  EZ)
 (BF (B6 2 (CH AL))
 (BF (IE (Hz KO (AB (Ap DQ (nm 1) (fC (.int 0))) AL)) (Cy 3 4)
  (BF (B6 5 (Ae A2 (AB (nm 0) (AB (nm 3) AL))))
  (IL (YU (Cn (HR fun i j=>decide (j<i)) (Ae J4 (AB (nm 5) AL)) (fC (.int 0))) (Cn (HR fun i j=>decide (j<i)) (Ae J4 (AB (nm 4) AL)) (fC (.int 0))))
   (B6 2 (Ae BE (AB (nm 2) (AB (Ae Bc (AB (Ae D3 (AB (nm 5) (AB (Mi (nm 1) (Km (fC (.int 1))) KW) AL))) (AB (nm 4) AL))) AL))))
   EZ)))
 (C9 (nm 2)))))
def D3(A2:MD)(BE:MD)(Bc:MD):Nat->MD
 |0=>fun _=>none
 |n+1=>Ds ["some","boughs"] ["some","boughs","total","k","place","slope"] (E8 A2 BE Bc (D3 A2 BE Bc n))
theorem Ld{k:Nat}{A2:MD}{BE:MD}{Bc:MD}(U:Fn K mg "along_boughs" JH ["some","boughs"] f fd)
 {GY:AD}{Fl:F0a}(DJ:Fn K mg "poly_slope" IC ["some","k"] GY Fl)(R:AI P w K mg base Ag k GY Fl ["some","k"] (BI A2))
 {IY:AD}{HC:F0a}(Ed:Fn K mg "poly_sum" KY FI IY HC)(M:AI P w K mg base Ag k IY HC FI (BI BE))
 {Z:AD}{Y:F0a}(GW:Fn K mg "poly_times" LG FI Z Y)(I:AI P w K mg base Ag k Z Y FI (BI Bc))(BJ:mg "enumerate" = none)(T:mg "len" = none):∀n,
  AI P w K mg base Ag (k+n+1) f fd ["some","boughs"] (BI (D3 A2 BE Bc n))
 |0=>Jf fun _ _ _ _ ⟨_,_,_,h,_⟩=>by cases h
 |n+1=>by
  have sc:=Q4;have FA:=Ld (k:=k) (A2:=A2) (BE:=BE) (Bc:=Bc) U DJ R Ed M GW I BJ T n;have R:=R.mono (show k<=k+n+1 by lia);have M:=M.mono (show k<=k+n+1 by lia);have I:=I.mono (show k<=k+n+1 by lia);refine Jl (k:=k+n+1) (F:=E8 A2 BE Bc (D3 A2 BE Bc n)) U sc fun cdv A outer s H E g=>?_;exact(Ak (FW (CI (RP (by have:=g.units;exact this)) (HV Me rfl T bM (AA (AF Fy) AG)) Ah (Ay _))
  (Ar (Bs (AF Fa)))
  C6)
 (Ak (Bl (i:=2) sc.nd rfl AT (BQ AG))
 (Ak (LW aP rfl (SO rfl BJ (AA (Cp (AF Fy) Ah Da) AG)) (Nv (Fj rfl (BN (Az (i:=3) sc.nd rfl AT) (BN (Az (i:=4) sc.nd rfl AT) EN))))
  (Ak (Bl (i:=5) sc.nd rfl AT (Am DJ R g rfl (AA (AF Fa) (AA (AF (pv 3)) AG))))
  (Ar (FW (DW.dt (VH (CI Qm (HV Me rfl T bM (AA (AF (pv 5)) AG)) Ah (Ay _)) (Ja (CI Qm (HV Me rfl T bM (AA (AF (pv 4)) AG)) Ah (Ay _)))))
   (Ar (Bl (i:=2) sc.nd rfl AT (Am Ed M g rfl (AA (AF (pv 2)) (AA (Am GW I g rfl (AA (Am U FA g rfl (AA (AF (pv 5)) (AA (Mr (AF Fy) (Oo Ah) O2) AG))) (AA (AF (pv 4)) AG))) AG)))))
   C6))))
 (Ar (Bs (AF (pv 2)))))))
def Oa:Ad ["some","speeds","total","k","speed"] ["some","speeds"] (AO MI):=Bk
def Wo(BD:MD)(A2:MD)(BE:MD):DF :=
 (BF (B6 2 (CH AL))
 (BF (IE (Hz KO (AB (nm 1) AL)) (Cy 3 4)
  (B6 2 (Ae BE (AB (nm 2) (AB (Ae BD (AB (Ae A2 (AB (nm 0) (AB (nm 3) AL))) (AB (nm 4) AL))) AL)))))
 (C9 (nm 2))))
def Pa(BD:MD)(A2:MD)(BE:MD):MD:=Ds ["some","speeds"] ["some","speeds","total","k","speed"] (Wo BD A2 BE)
def WY{k:Nat}{BD:MD}{A2:MD}{BE:MD}(F:Fn K mg "pushed_by" MI ["some","speeds"] f fd) {U:AD}{Y:F0a}(Dh:Fn K mg "poly_scaled" HK ["some","part"] U Y)(EH:AI P w K mg base Ag k U Y ["some","part"] (BI BD)) {R:AD}{T:F0a}(DJ:Fn K mg "poly_slope" IC ["some","k"] R T)(Cr:AI P w K mg base Ag k R T ["some","k"] (BI A2)) {I:AD}{M:F0a}(Z:Fn K mg "poly_sum" KY FI I M)(Dr:AI P w K mg base Ag k I M FI (BI BE))(BJ:mg "enumerate" = none):AI P w K mg base Ag (k+1) f fd ["some","speeds"] (BI (Pa BD A2 BE)):=Jl F Oa fun cdv A outer s H E g=>by
 have sc:=Oa;exact(Ak (Bl (i:=2) sc.nd rfl AT (BQ AG))
 (Ak (LW aP rfl (SO rfl BJ (AA (AF Fy) AG)) (Nv (Fj rfl (BN (Az (i:=3) sc.nd rfl AT) (BN (Az (i:=4) sc.nd rfl AT) EN))))
  (Ar (Bl (i:=2) sc.nd rfl AT (Am Z Dr g rfl (AA (AF (pv 2)) (AA (Am Dh EH g rfl (AA (Am DJ Cr g rfl (AA (AF Fa) (AA (AF (pv 3)) AG))) (AA (AF (pv 4)) AG))) AG))))))
 (Ar (Bs (AF (pv 2))))))
end
def MN(d:AD)(H H':Hp):Prop:=∀a o,a≠d->H a=some o->H' a=some o
def MN.of{d:AD}{H H':Hp}(e:AJ H H'):MN d H H':=fun a o _ h=>e a o h
def MN.trans{d:AD}{H I g:Hp}(e:MN d H I)(M:MN d I g):MN d H g:=fun a o n h=>M a o n (e a o n h)
def Vj{d:AD}{r:List KR}{xs:tR}:dN d r≠.lst xs:=by unfold dN;intro z;cases z
def mH{d:AD}{r:List KR}{xs:tR}:dN d r≠.tup xs:=by unfold dN;intro z;cases z
structure ZV(Dm:List Tr)(c:Nat):Prop where
 len:Dm.length<=1000
 inj:∀a∈Dm,∀b∈Dm,TH.Bp (some a)=TH.Bp (some b)->a=b
 bs:∀t∈Dm,∀b∈t.bs,b∈Dm
 deep:∀t∈Dm,t.deep<8
 size:∀t∈Dm,c*t.ES+1<=1000000
theorem OI{α:Type}[DecidableEq α]:∀ {a b:List α},a.Nodup->(∀x∈a,x∈b)->a.length<=b.length
 |[],_,_,_=>bP _
 |x::a,b,hn,h=>by
  have I:=h x (.head _);obtain⟨R,M⟩:=bo.mp hn;have:=OI (a:=a) (b:=b.erase x) M fun y g=>(List.mem_erase_of_ne (show y≠x from fun e=>R (by rw[<-e];exact g))).mpr (h y (.tail _ g));rw[List.length_erase_of_mem I]at this;have:=List.length_pos_of_mem I;rw[(GU)]
  lia
def Vy(r:List KR)(k:Option Tr)(kv v:V):∃q,(Ju r k kv v).find? (fun q=>decide (q.1=k))=some q:=by
 have:∃q∈Ju r k kv v,q.1=k:=by
  unfold Ju;split
  .rename_i h;obtain⟨q,R⟩:=Option.isSome_iff_exists.mp h;obtain⟨I,g⟩:=find_key R;exact⟨_,List.mem_map_of_mem I,by rw[if_pos g];exact g⟩
  .exact⟨_,List.mem_append_right _ (.head _),rfl⟩
 obtain⟨q,I,g⟩:=this;cases z:(Ju r k kv v).find? (fun q=>decide (q.1=k)) with
 |some M=>exact⟨M,rfl⟩
 |none=>exact absurd g (by simpa using List.find?_eq_none.mp z q I)
structure GH(Dm:List Tr)(B:Tr->PyData)(Γ H:Hp)(d:Addr)(r:List KR):Prop where
 at_:H d=some (dN d r)
 nd:(r.map (·.1)).Nodup
 all:∀q∈r,∃t:Tr,q.1=some t/\t∈Dm/\Tv Γ t q.2.1/\Du Γ (B t) q.2.2
 out:Γ d=none
 sm:AJ Γ H
section
variable{Dm:List Tr}{B:Tr->PD}{Γ Γ' H H':Hp}{d:AD}{r:List KR}{c:Nat}
def GH.ok(h:GH Dm B Γ H d r)(D:ZV Dm c){t:Tr}(T:t∈Dm):Wd H d r (some t):=by
 refine⟨h.at_,fun q g=>?_,h.nd,fun q g R=>?_⟩
 .obtain⟨u,M,I,U,_⟩:=h.all q g;rw[M];exact⟨D.deep u I,U.same h.sm⟩
 .obtain⟨u,M,I,_⟩:=h.all q g;rw[M]at R ⊢;rw[D.inj u I t T R]
def GH.len(h:GH Dm B Γ H d r):r.length<=Dm.length:=by
 have:=OI (b:=Dm.map some) h.nd fun x g=>by
  obtain⟨q,I,rfl⟩:=aI.mp g;obtain⟨u,R,M,_⟩:=h.all q I;rw[R];exact List.mem_map_of_mem M
 simpa using this
def Qt(nw:Nw Γ H Γ')(sm:AJ Γ' H'){a:AD}{o:HO}(h0:Γ a=none)(h:H a=some o)(h':∀xs,H' a≠some (.tup xs)):Γ' a=none:=by
 cases z:Γ' a with
 |none=>rfl
 |some u=>
  rcases nw a u z with k|k|⟨xs,rfl⟩
  .rw[h0]at k;cases k
  .rw[h]at k;cases k
  .exact absurd (sm _ _ z) (h' xs)
def GH.up(h:GH Dm B Γ H d r)(e:AJ Γ Γ')(nw:Nw Γ H Γ')(sm:AJ Γ' H')(hd:H' d=some (dN d r)):GH Dm B Γ' H' d r :=
 ⟨hd,h.nd,fun q g=>let⟨t,a,b,c,x⟩:=h.all q g;⟨t,a,b,c.same e,x.same e⟩,Qt nw sm h.out h.at_ (fun xs z=>by rw[hd]at z;injection z with z;exact mH z),sm⟩
def GK{I g:Hp}(n1:Nw Γ H I)(M:Nw I H' g)(e:MN d H H'){o:HO}(hd:H' d=some o):Nw Γ H g:=fun a u h=>by
 rcases M a u h with k|k|k
 .exact n1 a u k
 .refine .inr (.inl ?_);cases z:H a with
  |none=>rfl
  |some v=>
   by_cases n:a=d
   .subst n;rw[hd]at k;cases k
   .rw[e _ _ n z]at k;cases k
 .exact .inr (.inr k)
def VS{g:Hp}(n1:Nw Γ H g){D:AD}{o:HO}(I:H D=none):Nw Γ H (upd g D o):=fun a u h=>by
 by_cases z:a=D
 .subst z;exact .inr (.inl I)
 .rw[AK z]at h;exact n1 a u h
def Mo{D:AD}{o:HO}(h:AJ Γ H)(g:H D=some o):AJ (upd Γ D o) H:=fun a u k=>by
 by_cases z:a=D
 .subst z;rw[AN]at k;cases k;exact g
 .rw[AK z]at k;exact h _ _ k
def GR{D:AD}{o:HO}(h:AJ Γ H)(g:Γ D=none):AJ Γ (upd H D o):=fun a u k=>by
 rw[AK (AV k g)];exact h _ _ k
def GH.put(h:GH Dm B Γ H d r){t:Tr}{v u:V}(U:t∈Dm)(Y:Tv Γ t v)(du:Du Γ (B t) u):GH Dm B Γ (upd H d (dN d (Ju r (some t) v u))) d (Ju r (some t) v u):=by
 refine⟨AN,?_,fun q g=>?_,h.out,GR h.sm h.out⟩
 .unfold Ju;split
  .rw[(CZ)];rw[show((fun x:KR=>x.1) ∘ fun q:KR=>if q.1=some t then(q.1,q.2.1,u) else q)=fun x=>x.1 from funext fun q=>by
    show(if q.1=some t then(q.1,q.2.1,u) else q).1=q.1;split<;>rfl]
   exact h.nd
  .rename_i hn;rw[(CN)];refine List.nodup_append.mpr ⟨h.nd,by simp,fun a ha b I=>?_⟩;obtain⟨q,g,rfl⟩:=aI.mp ha;have I:b=some t:=by simpa using I
   subst I;have hn:r.find? (fun q=>decide (q.1=some t))=none:=by
    cases z:r.find? (fun q=>decide (q.1=some t)) with
    |none=>rfl
    |some x=>rw[z]at hn;exact absurd rfl hn
   have:=List.find?_eq_none.mp hn q g
   simpa using this
 .unfold Ju at g;split at g
  .obtain⟨Z,h1,R⟩:=aI.mp g;obtain⟨s,M,k2,T,k4⟩:=h.all Z h1;split at R
   .rename_i z;subst R;rw[z]at M;cases M;exact⟨t,z,U,T,du⟩
   .subst R;exact⟨s,M,k2,T,k4⟩
  .rcases aW.mp g with g|g
   .exact h.all q g
   .rw[List.mem_singleton.mp g];exact⟨t,rfl,U,Y,du⟩
end
structure kT(Dm:List Tr)(m:MD)(C:List PyData)(B:Tr->PyData)(BT:Tr->List PyData):Prop where
 is:∀t,B t=.list (BT t)
 len:∀t∈Dm,(BT t).length=C.length
 at_:∀t∈Dm,∀(i:Nat) c,C[i]? = some c->∃x,(BT t)[i]? = some x/\m [c,.list (t.bs.map B)]=some x
 B2:C.length<=100
 sF:∀t∈Dm,t.bs.length<=100
def dQ(Dm:List Tr)(B:Tr->PD)(C:sx)(n:Nat):Sp:=fun vs H Q _=>∃(M v:V) (t:Tr) (d:AD) (r:List KR) (Γ:Hp),vs=[M,v,.ref d]/\Du Γ (.list C) M/\Tv Γ t v/\t∈Dm/\t.deep<n/\GH Dm B Γ H d r /\
 ∀g H' R I,AJ Γ g->Nw Γ H g->MN d H H'->GH Dm B g H' d R->Du g (B t) I->Q I H'
theorem O0{Γ:Hp}:∀ {ds:List PD} {xs:List V} {i:Nat} {x:V},Aq Γ ds xs->xs[i]? = some x->∃d,ds[i]? = some d/\Du Γ d x
 |[],xs,i,x,h,e=>by rw[h.nil_eq]at e;cases e
 |d::ds,xs,i,x,h,e=>by
  obtain⟨y,r,rfl,R,M⟩:=h.un;cases i with
  |zero=>cases e;exact⟨d,rfl,R⟩
  |succ i=>
   obtain⟨T,I,g⟩:=O0 M e;exact⟨T,I,g⟩
section
variable{P:F0b}{w:F0c}{K:Fg}{mg:tF}{base:Heap}{f g1:AD}{fd gd1:F0a}
def Tx:Ad ["change","tree","known","boughs"] ["change","tree","known"] (AO LU):=Bk
theorem NV{Dm:List Tr}{c k:Nat}{m:MD}{C:List PD}{B:Tr->PD}{BT:Tr->List PD}(DO:ZV Dm c)(BO:kT Dm m C B BT)(DM:Fn K mg "bent_polys" LU ["change","tree","known"] f fd)(CD:Fn K mg "along_boughs" JH ["some","boughs"] g1 gd1)(Uy:AI P w K mg base Ag k g1 gd1 ["some","boughs"] (BI m)) :
  ∀n,AI P w K mg base Ag (k+n+1) f fd ["change","tree","known"] (dQ Dm B C n)
 |0=>Jf fun _ _ _ _ ⟨_,_,_,_,_,_,_,_,_,_,h,_⟩=>absurd h (av _)
 |n+1=>by
  have sc:=Tx;have GO:=NV DO BO DM CD Uy n;have FA:=Uy.mono (show k<=k+n+1 by lia);refine DM.F.ok (k:=k+n+1) sc Do DP
  .obtain⟨cv,v,t,d,r,Γ,rfl,_⟩:=h
   rfl
  obtain⟨cv,v,t,d,r,Γ,rfl,dc,tv,Z,hdp,me,q⟩:=h;refine⟨_,(AM (CO (Bn (cM (by have:=hr.units;exact this) true) Fy (pv 2) rfl)
   (AM (Ai (i:=3) sc.nd rfl (Or.inr rfl) (Dg [".0","bough","change","known"] 1 [none,none,some 0,some 2] (Vh Fy) (fun _ _ _ _ _=>D4) (fun _ _ _ _ _=>(A3 DM GO hr rfl (AE (pv 2) (AE Fy (AE (pv 3) AQ)))))))
   (AR (VU (Dg [".0","some","boughs"] 1 [none,none,some 3] (B4 Fa) (fun _ _ _ _ _=>D4) (fun _ _ _ _ _=>(A3 CD FA hr rfl (AE Fy (AE (pv 2) AQ))))) (Wh (pv 2) Fy (Z5 (by have:=hr.units;exact this))))))
   BX)
   (AR (Aw (cW (by have:=hr.units;exact this) (pv 2) Fy Da)))),?_⟩
  have key:Jz H (some t) v:=⟨DO.deep t Z,tv.same me.sm⟩;cases hz:r.find? (fun q=>decide (q.1=some t)) with
  |some q'=>
   refine⟨_,rfl,_,rfl,d,r,some t,rfl,key,me.ok DO Z,false,by rw[hz];rfl,M1 ?_⟩;obtain⟨hm,hk⟩:=find_key hz;obtain⟨u,h1,h2,h3,h4⟩:=me.all q' hm;rw[hk]at h1;cases h1;exact⟨_,rfl,_,rfl,d,r,some t,q',rfl,key,me.ok DO Z,hz,q Γ H r _ (.refl _) Nw.refl (fun a o _ h=>h) me h4⟩
  |none=>
   refine⟨_,rfl,_,rfl,d,r,some t,rfl,key,me.ok DO Z,true,by rw[hz];rfl,C8 ?_⟩;obtain⟨a,ys,rfl,ha,hts⟩:=tv;have hyl:=hts.len;have haH:=me.sm _ _ ha;rw[Du]at dc;obtain⟨R,cs,rfl,hR,dcs⟩:=dc;refine⟨_,rfl,a,rfl,⟨_,Ax.of haH⟩,fun D hD=>E2 (n:=ys.length) (fun i us H'=>∃g ρ,AJ Γ g/\Nw Γ H g/\MN d H H'/\GH Dm B g H' d ρ/\Aq g ((t.bs.take i).map B) us/\g D=none) ?_ ?_ ?_⟩
   .have hDΓ:=Ml me.sm hD;exact⟨Γ,r,.refl _,Nw.refl,.of (AZ hD _),me.up (.refl _) Nw.refl (GR me.sm hDΓ) (AZ hD _ _ _ me.at_),by rw[(MB)];exact .nil,hDΓ⟩
   .rintro i us H3 hi ⟨Γ3,ρ,s3,n3,b3,me3,du3,hD3Γ⟩ hD3;have ha3:=me3.sm _ _ (s3 _ _ ha);have hul:us.length<=100:=by
     have h1:=du3.len;have h2:=BO.sF t Z;rw[(Af),(Fc)]at h1
     lia
    refine⟨⟨_,_,Ax.of ha3,List.getElem?_eq_getElem hi⟩,Vf AC,fun x H' y=>?_⟩;obtain⟨rfl,y⟩:=y;have hx:=y _ (Ax.of ha3);obtain⟨b,hb,tb⟩:=hts.get hx;have hbm:b∈t.bs:=aL hb;have hbd:=Tr.VQ hbm;unfold Gm;refine C8 ⟨_,rfl,_,rfl,_,rfl,.ref R,x,b,d,ρ,Γ3,rfl,by rw[Du];exact⟨R,cs,rfl,s3 _ _ hR,dcs.same s3⟩,tb.same s3,DO.bs t Z b hbm,by lia,me3,fun Γ4 H4 r4 v4 s4 n4 b4 me4 du4=>?_⟩;have nDd:D≠d:=fun z=>by rw[z,me3.at_]at hD3;injection hD3 with z';exact Vj z'
    have hD4:=b4 _ _ nDd hD3;have hD4Γ:=Qt n4 me4.sm hD3Γ hD3 (fun xs z=>by rw[hD4]at z;cases z);refine⟨hD4,DZ hi ⟨Γ4,r4,s3.trans s4,GK n3 n4 b3 me3.at_,fun c o n z=>?_,me4.up (.refl _) Nw.refl (GR me4.sm hD4Γ) (by rw[AK (Ne.symm nDd)];exact me4.at_),?_,hD4Γ⟩⟩
    .rw[AK (AV z hD)];exact b4 _ _ n (b3 _ _ n z)
    .rw[(HS),hb,(CN)];exact(du3.same s4).app (.cons du4 .nil)
   .rintro us H5 ⟨T,ρ,s5,n5,b5,U,du5,hD5Γ⟩ hD5;rw[hyl,(FT)]at du5;have nDd:D≠d:=fun z=>by rw[z,U.at_]at hD5;injection hD5 with z';exact Vj z'
    have s6:AJ T (upd T D (.lst us)):=AZ hD5Γ _;have sm6:AJ (upd T D (.lst us)) H5:=Mo U.sm hD5;have n6:Nw Γ H (upd T D (.lst us)):=VS n5 hD;have duB:Du (upd T D (.lst us)) (.list (t.bs.map B)) (.ref D):=by rw[Du];exact⟨D,us,rfl,AN,du5.same s6⟩
    have me6:GH Dm B (upd T D (.lst us)) H5 d ρ:=⟨U.at_,U.nd,fun q hq=>let⟨t,a,b,c,x⟩:=U.all q hq;⟨t,a,b,c.same s6,x.same s6⟩,by rw[AK (Ne.symm nDd)];exact U.out,sm6⟩;have s06:=s5.trans s6;generalize upd T D (.lst us)=Γ6 at s6 sm6 n6 duB me6 s06;have ha5:=sm6 _ _ (s06 _ _ ha);have hR6:=s06 _ _ hR;have dcs6:=dcs.same s06;have hcl:cs.length=C.length:=dcs.len;refine⟨⟨_,Ax.of ha5,Nat.le_refl _⟩,_,rfl,R,rfl,⟨_,Aj.of (sm6 _ _ hR6)⟩,fun D2 hD2=>E2 (n:=cs.length) (fun j us H'=>∃g,AJ Γ6 g/\Nw Γ6 H5 g/\AJ H5 H'/\AJ g H'/\Aq g ((BT t).take j) us/\g D2=none) ?_ ?_ ?_⟩
    .have:=Ml sm6 hD2;exact⟨Γ6,.refl _,Nw.refl,AZ hD2 _,GR sm6 this,by rw[(MB)];exact .nil,this⟩
    .rintro j us H7 hj ⟨Γ7,s7,n7,e7,sm7,du7,hD7Γ⟩ hD7;have hR7:=sm7 _ _ (s7 _ _ hR6);have hul:us.length<=100:=by
      have h1:=du7.len;have h2:=BO.B2;rw[(Fc),BO.len t Z]at h1
      lia
     refine⟨⟨_,_,Aj.of hR7,List.getElem?_eq_getElem hj⟩,Vf AC,fun x H' y=>?_⟩;obtain⟨rfl,y⟩:=y;have hx:=y _ (Aj.of hR7);obtain⟨cd,hcd,dcd⟩:=O0 dcs6 hx;obtain⟨xd,hxd,hm⟩:=BO.at_ t Z j cd hcd;unfold Gm;refine C8 ⟨_,rfl,_,rfl,[cd,.list (t.bs.map B)],xd,Γ7,hm,.cons (dcd.same s7) (.cons (duB.same s7) .nil),sm7,fun v G8 H8 a1 a2 a3 a4 a5=>?_⟩;have hD8:=a4 _ _ hD7;have I:=Qt a2 a3 hD7Γ hD7 (fun xs z=>by rw[hD8]at z;cases z);refine⟨hD8,DZ hj ⟨G8,s7.trans a1,GK (d:=D2) n7 a2 (.of e7) hD7,fun c o z=>?_,GR a3 I,?_,I⟩⟩
     .rw[AK (AV z hD2)];exact a4 _ _ (e7 _ _ z)
     .rw[(HS),hxd];exact(du7.same a1).app (.cons a5 .nil)
    .rintro us H8 ⟨M,s8,n8,e8,sm8,du8,I⟩ hD8;rw[hcl,<-BO.len t Z,(FT)]at du8;have hd8:=e8 _ _ me6.at_;have nD2d:D2≠d:=fun z=>by rw[z,hd8]at hD8;injection hD8 with z';exact Vj z'
     have s9:AJ M (upd M D2 (.lst us)):=AZ I _;have sm9:AJ (upd M D2 (.lst us)) H8:=Mo sm8 hD8;have n9:Nw Γ6 H5 (upd M D2 (.lst us)):=VS n8 hD2;have duT:Du (upd M D2 (.lst us)) (B t) (.ref D2):=by rw[BO.is,Du];exact⟨D2,us,rfl,AN,du8.same s9⟩
     have me9:=me6.up (s8.trans s9) n9 sm9 hd8;have s09:=s06.trans (s8.trans s9);have n09:Nw Γ H (upd M D2 (.lst us)):=GK n6 n9 b5 U.at_;generalize upd M D2 (.lst us)=Γ9 at s9 sm9 n9 duT me9 s09 n09;have tv9:Tv Γ9 t (.ref a):=⟨a,ys,rfl,s09 _ _ ha,hts.same s09⟩;refine⟨⟨_,Aj.of (sm8 _ _ (s8 _ _ hR6)),Nat.le_refl _⟩,_,rfl,_,rfl,d,ρ,some t,rfl,⟨DO.deep t Z,tv9.same sm9⟩,me9.ok DO Z,Nat.le_trans me9.len DO.len,?_⟩;have Y:=me9.put Z tv9 duT;obtain⟨q',hq'⟩:=Vy ρ (some t) (.ref a) (.ref D2);obtain⟨hm,hk⟩:=find_key hq';obtain⟨u,h1,h2,h3,h4⟩:=Y.all q' hm;rw[hk]at h1;cases h1;refine⟨_,rfl,_,rfl,d,_,some t,q',rfl,⟨DO.deep t Z,tv9.same Y.sm⟩,Y.ok DO Z,hq',?_⟩;exact q Γ9 _ _ _ s09 n09 (fun c o n z=>by rw[AK n];exact e8 _ _ (b5 _ _ n z)) Y h4
end
def j3(xs:tR)(p:Nat):EF xs none (some (p:Int))=xs.take p:=by
 unfold EF;rw[HT.LJ,HT.Hs,List.drop_zero,Nat.sub_zero];by_cases h:p<=xs.length
 .rw[Nat.min_eq_left h]
 .rw[Nat.min_eq_right AC,List.take_of_length_le (aG _),List.take_of_length_le AC]
def sN{K:Fg}{a:AD}{xs:tR}{p:Nat}{H:Hp}{Q:VK}(ha:H a=some (.tup xs))(k:∀b H',AJ H H'->H' b=some (.tup (xs.take p))->(H b=none\/H b=some (.tup (xs.take p)))->Q (.ref b) H'):ib K (.ref a) none (some (p:Int)) H Q:=by
 refine⟨a,xs,rfl,Ax.of ha,fun g=>?_,fun g c I=>?_⟩
 .have e:xs.take p=xs:=by
   have:=g.2;rw[HT.Hs]at this;exact List.take_of_length_le AC
  exact k a H (.refl _) (by rw[e];exact ha) (.inr (by rw[e];exact ha))
 .rw[j3];exact k c _ (AZ I _) AN (.inl I)
theorem Xu{H:Hp}:∀ {t:Tr} {ys:List V} (i:Nat),Ts H t ys->Ts H (Tr.of (t.bs.take i)) (ys.take i)
 |.nil,ys,i,h=>by
  rw[Ts]at h;rw[h,Tr.bs,List.take_nil,List.take_nil];exact rfl
 |.cons b r,ys,0,h=>by
  rw[(MB),(MB)];exact rfl
 |.cons b r,ys,i+1,h=>by
  rw[Ts]at h;obtain⟨a,us,R,rfl,M,I,g⟩:=h;rw[Tr.bs,List.take_succ_cons,List.take_succ_cons,Tr.of,Ts];exact⟨a,us,_,rfl,M,I,Xu i g⟩
structure ll(Dm:List Tr)(mP mW:MD)(C:List PyData)(S:PyData)(PT WT:Tr->List PyData):Prop where
 nil:PT .nil=C
 eX:∀t∈Dm,(PT t).length=C.length
 push:∀t∈Dm,∀(i:Nat) b,t.bs[i]? = some b->∀(j:Nat) c,(PT (Tr.of (t.bs.take i)))[j]? = some c->∃x,(PT (Tr.of (t.bs.take (i+1))))[j]? = some x/\mP [c,.list (WT b)]=some x
 mh:∀t∈Dm,(WT t).length=C.length
 worth:∀t∈Dm,∀(j:Nat) c,(PT t)[j]? = some c->∃x,(WT t)[j]? = some x/\mW [c,S]=some x
 B2:C.length<=100
 pre:∀t∈Dm,∀i,Tr.of (t.bs.take i)∈Dm
abbrev pD(PT:Tr->List PD)(t:Tr):PD:=.list (PT t)
def lU(Dm:List Tr)(PT WT:Tr->List PD)(C:sx)(S:PD)(n:Nat):Sp:=fun vs H Q _=>∃(R v M:V) (t:Tr) (d:AD) (r:List KR) (Γ:Hp),vs=[R,v,M,.ref d]/\Du Γ (.list C) R/\Tv Γ t v/\Du Γ S M/\t∈Dm/\t.deep<n/\GH Dm (pD PT) Γ H d r /\
 ∀g H' T I,AJ Γ g->Nw Γ H g->MN d H H'->GH Dm (pD PT) g H' d T->Du g (.list (WT t)) I->Q I H'
def Zz(Γ H:Hp)(D:AD)(xs:sx)(j:Nat)(us:tR)(H':Hp):Prop:=∃g,AJ Γ g/\Nw Γ H g/\AJ H H'/\AJ g H'/\Aq g (xs.take j) us/\g D=none
def ij{Γ H:Hp}{D:AD}{xs:sx}(sm:AJ Γ H)(g:H D=none):Zz Γ H D xs 0 [] (upd H D (.lst [])):=by
 have:=Ml sm g;exact⟨Γ,.refl _,Nw.refl,AZ g _,GR sm this,by rw[(MB)];exact .nil,this⟩
def Vw{Γ H g U Z Y:Hp}{D:AD}{xs:sx}{j:Nat}{us:tR}{x:PD}{v:V}(hD:H D=none)(s7:AJ Γ g)(n7:Nw Γ H g)(e7:AJ H Z)(du7:Aq g (xs.take j) us)(M:g D=none)(R:Z D=some (.lst us))(a1:AJ g U)(a2:Nw g Z U)(a3:AJ U Y)(a4:AJ Z Y)(a5:Du U x v)(hx:xs[j]? = some x):Y D=some (.lst us)/\Zz Γ H D xs (j+1) (us++[v]) (upd Y D (.lst (us++[v]))):=by
 have T:=a4 _ _ R;have I:=Qt a2 a3 M R (fun xs z=>by rw[T]at z;cases z);refine⟨T,U,s7.trans a1,GK (d:=D) n7 a2 (.of e7) R,fun c o z=>?_,GR a3 I,?_,I⟩
 .rw[AK (AV z hD)];exact a4 _ _ (e7 _ _ z)
 .rw[(HS),hx];exact(du7.same a1).app (.cons a5 .nil)
def Xg{Γ H H':Hp}{D:AD}{xs:sx}{j:Nat}{us:tR}(h:Zz Γ H D xs j us H')(hj:xs.length<=j)(hD:H D=none)(U:H' D=some (.lst us)):∃g,AJ Γ g/\Nw Γ H g/\AJ H H'/\AJ g H'/\Du g (.list xs) (.ref D):=by
 obtain⟨I,Z,n8,e8,T,R,M⟩:=h;rw[List.take_of_length_le hj]at R;have Y:AJ I (upd I D (.lst us)):=AZ M _;exact⟨upd I D (.lst us),Z.trans Y,VS n8 hD,e8,Mo T U,by rw[Du];exact⟨D,us,rfl,AN,R.same Y⟩⟩
section
variable{P:F0b}{w:F0c}{K:Fg}{mg:tF}{base:Heap}{f g1 g2:AD}{fd gd1 gd2:F0a}
def SE:Ad ["change","tree","start","known","pushed","k","bough","ahead","speeds"] ["change","tree","start","known"] (AO Jy):=Bk
theorem MR{Dm:List Tr}{c k:Nat}{mP mW:MD}{C:List PD}{S:PD}{PT WT:Tr->List PD}(DO:ZV Dm c)(WO:ll Dm mP mW C S PT WT)(Cv:Fn K mg "bent_worths" Jy ["change","tree","start","known"] f fd)(G6:Fn K mg "pushed_by" MI ["some","speeds"] g1 gd1)(IX:Fn K mg "worth_at" NA ["some","start"] g2 gd2)(S7:AI P w K mg base Ag k g1 gd1 ["some","speeds"] (BI mP))(Wa:AI P w K mg base Ag k g2 gd2 ["some","start"] (BI mW))(BJ:mg "enumerate" = none) :
  ∀n,AI P w K mg base Ag (k+n+1) f fd ["change","tree","start","known"] (lU Dm PT WT C S n)
 |0=>Jf fun _ _ _ _ ⟨_,_,_,_,_,_,_,_,_,_,_,_,h,_⟩=>absurd h (av _)
 |n+1=>by
  have sc:=SE;have Fq:=MR DO WO Cv G6 IX S7 Wa BJ n;have L5:=S7.mono (show k<=k+n+1 by lia);have NJ:=Wa.mono (show k<=k+n+1 by lia);refine Cv.F.ok (k:=k+n+1) sc Do DP
  .obtain⟨cv,v,sv,t,d,r,Γ,rfl,_⟩:=h
   rfl
  obtain⟨cv,v,sv,t,d,r,Γ,rfl,dc,tv,ds,ht,hdp,me,q⟩:=h;refine⟨_,(AM (Ai (i:=4) sc.nd rfl AT Fa)
   (AM (C0 aP rfl (XY rfl BJ (AE Fy AQ)) (Fj rfl (BN (Az (i:=5) sc.nd rfl AT) (BN (Az (i:=6) sc.nd rfl AT) EN)))
    (AM (Ai (i:=7) sc.nd rfl AT (Mx jt Fy O6 (Og (Au Ff (pv 5) AU))))
    (AM (CO (Bn (cM (by have:=hr.units;exact this) true) (pv 7) (pv 3) rfl)
     (AM (Ai (i:=8) sc.nd rfl (Or.inr rfl) (A3 Cv Fq hr rfl (AE Fa (AE (pv 6) (AE (pv 2) (AE (pv 3) AQ))))))
     (AR (VU (Dg [".0","some","speeds"] 1 [none,none,some 8] (B4 (pv 4)) (fun _ _ _ _ _=>D4) (fun _ _ _ _ _=>(A3 G6 L5 hr rfl (AE Fy (AE (pv 2) AQ))))) (Wh (pv 3) (pv 7) (Z5 (by have:=hr.units;exact this))))))
     BX)
    (AR (Ai (i:=4) sc.nd rfl AT (cW (by have:=hr.units;exact this) (pv 3) (pv 7) Da))))))
   (AR (Aw (Dg [".0","some","start"] 1 [none,none,some 2] (B4 (pv 4)) (fun _ _ _ _ _=>D4) (fun _ _ _ _ _=>(A3 IX NJ hr rfl (AE Fy (AE (pv 2) AQ))))))))),?_⟩
  obtain⟨a,ys,rfl,ha,hts⟩:=tv;have hyl:=hts.len;refine⟨_,rfl,?_⟩;refine⟨_,rfl,a,rfl,⟨_,Ax.of (me.sm _ _ ha)⟩,fG (xs:=ys) (fun i σ H'=>∃(r5 r6 r7 r8:Option V) (pw:V) (Γ':Hp) (ρ:List KR),σ=[some cv,some (.ref a),some sv,some (.ref d),some pw,r5,r6,r7,r8]/\AJ Γ Γ'/\Nw Γ H Γ'/\MN d H H'/\GH Dm (pD PT) Γ' H' d ρ/\Du Γ' (pD PT (Tr.of (t.bs.take i))) pw) ?_ ?_ ?_ ?_⟩
  .exact⟨_,_,_,_,cv,Γ,r,rfl,.refl _,Nw.refl,fun _ _ _ z=>z,me,by rw[(MB)];show Du Γ (.list (PT .nil)) cv;rw[WO.nil];exact dc⟩
  .rintro i σ H' _ ⟨r5,r6,r7,r8,pw,Γ',ρ,rfl,s1,n1,b1,I,d1⟩;exact Ax.of (I.sm _ _ (s1 _ _ ha))
  .rintro i x σ H1 hx ⟨r5,r6,r7,r8,pw,M,ρ,rfl,s1,n1,b1,I,d1⟩ p hp;have hi:i<ys.length:=(aB.mp hx).1;obtain⟨b,hb,tb⟩:=hts.get hx;have hbm:b∈t.bs:=aL hb;have hbd:=Tr.VQ hbm;have g:=WO.pre t ht (i+1);have e2:=AZ hp (.tup [.int (i:Nat),x]);have hp2:upd H1 p (.tup [.int (i:Nat),x]) p=some (.tup [.int (i:Nat),x]):=AN;generalize upd H1 p (.tup [.int (i:Nat),x])=H2 at e2 hp2;have ha2:=e2 _ _ (I.sm _ _ (s1 _ _ ha));refine⟨p,_,rfl,Ax.of hp2,rfl,_,_,rfl,_,_,rfl,rfl,?_⟩;refine⟨_,rfl,_,rfl,_,_,rfl,rfl,_,rfl,?_⟩;refine sN (p:=i+1) ha2 fun u H3 e3 hu hnew=>?_;have e13:=e2.trans e3;have hΓu:M u=none\/M u=some (.tup (ys.take (i+1))):=by
    cases z:M u with
    |none=>exact .inl rfl
    |some o=>
     have:=e13 _ _ (I.sm _ _ z);rw[hu]at this;cases this;exact .inr rfl
   have s3:AJ M (upd M u (.tup (ys.take (i+1)))):=fun c o z=>by
    by_cases n:c=u
    .subst n;rcases hΓu with k|k
     .rw[k]at z;cases z
     .rw[k]at z;cases z;exact AN
    .rw[AK n];exact z
   have n3:Nw M H1 (upd M u (.tup (ys.take (i+1)))):=fun c o z=>by
    by_cases n:c=u
    .subst n;rw[AN]at z;cases z;exact .inr (.inr ⟨_,rfl⟩)
    .rw[AK n]at z;exact .inl z
   have sm3:AJ (upd M u (.tup (ys.take (i+1)))) H3:=Mo (I.sm.trans e13) hu;have T:=I.up s3 n3 sm3 (e13 _ _ I.at_);have tvu:Tv (upd M u (.tup (ys.take (i+1)))) (Tr.of (t.bs.take (i+1))) (.ref u):=⟨u,_,rfl,AN,(Xu (i+1) hts).same (s1.trans s3)⟩;have s03:=s1.trans s3;have n03:Nw Γ H (upd M u (.tup (ys.take (i+1)))):=GK n1 n3 b1 I.at_;have b03:MN d H H3:=b1.trans (.of e13);have d3:=d1.same s3;generalize upd M u (.tup (ys.take (i+1)))=Γ3 at s3 n3 sm3 T tvu s03 n03 d3;have key:Jz H3 (some (Tr.of (t.bs.take (i+1)))) (.ref u):=⟨DO.deep _ g,tvu.same sm3⟩;cases hz:ρ.find? (fun q=>decide (q.1=some (Tr.of (t.bs.take (i+1))))) with
   |some q'=>
    refine⟨_,rfl,_,rfl,d,ρ,some _,rfl,key,T.ok DO g,false,by rw[hz];rfl,M1 ?_⟩;obtain⟨hm,hk⟩:=find_key hz;obtain⟨u',h1,h2,h3,h4⟩:=T.all q' hm;rw[hk]at h1;cases h1;exact⟨_,rfl,_,rfl,d,ρ,some _,q',rfl,key,T.ok DO g,hz,_,_,_,_,_,Γ3,ρ,rfl,s03,n03,b03,T,h4⟩
   |none=>
    refine⟨_,rfl,_,rfl,d,ρ,some _,rfl,key,T.ok DO g,true,by rw[hz];rfl,C8 ?_⟩;refine⟨_,rfl,_,rfl,_,rfl,_,rfl,cv,x,sv,b,d,ρ,Γ3,rfl,dc.same s03,tb.same s03,ds.same s03,DO.bs t ht b hbm,by lia,T,fun Γ4 H4 r4 v4 s4 n4 b4 me4 d4=>?_⟩;have d34:=d3.same s4;rw[Du]at d34;obtain⟨R,cs,rfl,hR,dcs⟩:=d34;have hcl:cs.length=(PT (Tr.of (t.bs.take i))).length:=dcs.len;have hpl:(PT (Tr.of (t.bs.take i))).length=C.length:=WO.eX _ (WO.pre t ht i);have hpl':(PT (Tr.of (t.bs.take (i+1)))).length=C.length:=WO.eX _ g;have B2:=WO.B2;refine⟨_,rfl,R,rfl,⟨_,Aj.of (me4.sm _ _ hR)⟩,fun D hD=>E2 (n:=cs.length) (Zz Γ4 H4 D (PT (Tr.of (t.bs.take (i+1))))) (ij me4.sm hD) ?_ ?_⟩
    .rintro j us H7 hj ⟨Γ7,s7,n7,e7,sm7,du7,U⟩ hD7;have hR7:=sm7 _ _ (s7 _ _ hR);have hul:us.length<=100:=by
      have h1:=du7.len;rw[(Fc)]at h1
      lia
     refine⟨⟨_,_,Aj.of hR7,List.getElem?_eq_getElem hj⟩,Vf AC,fun y H' yy=>?_⟩;obtain⟨rfl,yy⟩:=yy;have hy:=yy _ (Aj.of hR7);obtain⟨cd,hcd,dcd⟩:=O0 dcs hy;obtain⟨xd,hxd,hm⟩:=WO.push t ht i b hb j cd hcd;unfold Gm;refine C8 ⟨_,rfl,_,rfl,[cd,.list (WT b)],xd,Γ7,hm,.cons (dcd.same s7) (.cons (d4.same s7) .nil),sm7,fun v G8 H8 a1 a2 a3 a4 a5=>?_⟩;obtain⟨k1,k2⟩:=Vw hD s7 n7 e7 du7 U hD7 a1 a2 a3 a4 a5 hxd;exact⟨k1,DZ hj k2⟩
    .rintro us H8 hc hD8;obtain⟨Γ9,s9,n9,e9,Z,d9⟩:=Xg hc AC hD hD8;have hd9:=e9 _ _ me4.at_;have me9:=me4.up s9 n9 Z hd9;have s09:=s03.trans (s4.trans s9);have n09:Nw Γ H Γ9:=GK (GK n03 n4 b03 T.at_) n9 (b03.trans b4) me4.at_;have tv9:=tvu.same (s4.trans s9);refine⟨⟨_,Aj.of (Z _ _ (s9 _ _ hR)),Nat.le_refl _⟩,_,rfl,_,rfl,d,r4,some _,rfl,⟨DO.deep _ g,tv9.same Z⟩,me9.ok DO g,Nat.le_trans me9.len DO.len,?_⟩;have Y:=me9.put g tv9 d9;obtain⟨q',hq'⟩:=Vy r4 (some (Tr.of (t.bs.take (i+1)))) (.ref u) (.ref D);obtain⟨hm,hk⟩:=find_key hq';obtain⟨u',h1,h2,h3,h4⟩:=Y.all q' hm;rw[hk]at h1;cases h1;exact⟨_,rfl,_,rfl,d,_,some _,q',rfl,⟨DO.deep _ g,tv9.same Y.sm⟩,Y.ok DO g,hq',_,_,_,_,_,Γ9,_,rfl,s09,n09,(b03.trans (b4.trans (.of e9))).trans (fun c o n z=>by rw[AK n];exact z),Y,h4⟩
  .rintro σ H1 ⟨r5,r6,r7,r8,pw,M,ρ,rfl,s1,n1,b1,I,d1⟩;rw[hyl,(FT),Tr.UP]at d1;have d1':=d1;unfold pD at d1';rw[Du]at d1';obtain⟨R,cs,rfl,hR,dcs⟩:=d1';have hcl:cs.length=(PT t).length:=dcs.len;have hpl:(PT t).length=C.length:=WO.eX _ ht;have hwl:(WT t).length=C.length:=WO.mh _ ht;have B2:=WO.B2;refine⟨_,rfl,R,rfl,⟨_,Aj.of (I.sm _ _ hR)⟩,fun D hD=>E2 (n:=cs.length) (Zz M H1 D (WT t)) (ij I.sm hD) ?_ ?_⟩
   .rintro j us H7 hj ⟨Γ7,s7,n7,e7,sm7,du7,U⟩ hD7;have hR7:=sm7 _ _ (s7 _ _ hR);have hul:us.length<=100:=by
     have h1:=du7.len;rw[(Fc)]at h1
     lia
    refine⟨⟨_,_,Aj.of hR7,List.getElem?_eq_getElem hj⟩,Vf AC,fun y H' yy=>?_⟩;obtain⟨rfl,yy⟩:=yy;have hy:=yy _ (Aj.of hR7);obtain⟨cd,hcd,dcd⟩:=O0 dcs hy;obtain⟨xd,hxd,hm⟩:=WO.worth t ht j cd hcd;unfold Gm;refine C8 ⟨_,rfl,_,rfl,[cd,S],xd,Γ7,hm,.cons (dcd.same s7) (.cons (ds.same (s1.trans s7)) .nil),sm7,fun v G8 H8 a1 a2 a3 a4 a5=>?_⟩;obtain⟨k1,k2⟩:=Vw hD s7 n7 e7 du7 U hD7 a1 a2 a3 a4 a5 hxd;exact⟨k1,DZ hj k2⟩
   .rintro us H8 hc hD8;obtain⟨Γ9,s9,n9,e9,Z,d9⟩:=Xg hc AC hD hD8;exact⟨⟨_,Aj.of (Z _ _ (s9 _ _ hR)),Nat.le_refl _⟩,q Γ9 H8 ρ (.ref D) (s1.trans s9) (GK n1 n9 b1 I.at_) (b1.trans (.of e9)) (I.up s9 n9 Z (e9 _ _ I.at_)) d9⟩
end
def Xi(r:Rat):(BG r).canLay0=true:=by unfold BG;simp only[PyData.canLay0];exact VB [r.num,(r.den:Int)]
section
variable{P:F0b}{w:F0c}{K:Fg}{mg:tF}{base:Heap}{CX:GL}{k:Nat}{f:AD}{fd:F0a}{ps:tK}
def Xe(ds:sx):tG:=match ds with
 |[.int t,.int b]=>if b≠0/\b.natAbs<2^400 then some (BG (Rat.divInt t b)) else none
 |_=>none
def rT(F:AI P w K mg base CX k f fd ps UT):AI P w K mg base CX k f fd ps (BI Xe) :=
 Rl F fun ds x hm G H vs Q E d e Z=>by
  unfold Xe at hm;split at hm
  .split at hm
   .rename_i I;cases hm;obtain⟨v1,v2,rfl,T,R⟩:=d.Ln;rw[Du]at T R;subst T R;refine⟨_,_,400,rfl,I.1,by decide,I.2,fun l H' M g=>?_⟩;obtain⟨G',n1,Y,n3,U⟩:=iQ e M g (Hg [(Rat.divInt _ _).num,((Rat.divInt _ _).den:Int)]);exact Z _ G' H' n1 Y n3 M U
   .cases hm
  .cases hm
end
def Rm(x y:Int):F3 false (.int x) (.int y)=some (.bool (decide (x=y))):=by
 have h:SeqAt.shaped (.int x)=true/\SeqAt.shaped (.int y)=true:=⟨(Ok.int (n:=0)).shaped AS,(Ok.int (n:=0)).shaped AS⟩;refine(if_pos h).trans ?_;simp[PyData.eqv];exact Bool.eq_iff_iff.mpr BY
def Yw{i j:Int}{n:Nat}(h1:i.natAbs<2^n)(g:j.natAbs<2^n)(hn:n<=9000):Dw (.int i) (.int j)=some (.int (i*j)):=Vk (by
 unfold Mj;rw[OH (n:=9000) (aH h1 (aS AS hn)),OH (n:=9000) (aH g (aS AS hn))];simp)
def div_is{i j:Int}(h:0<j)(g:j.natAbs<2^64):Za (.int i) (.int j)=some (.int (i / j)):=by
 refine(if_pos ⟨by lia,OH (aH g (aS AS AS))⟩).trans ?_;rw[Int.fdiv_eq_ediv_of_nonneg _ AC]
def nR{t b:Int}(h:b≠0)(g:b.natAbs<2^400):Xe [.int t,.int b]=some (BG (Rat.divInt t b)):=if_pos ⟨h,g⟩
abbrev tD(t:Tr):PD:=.tuple (L2.K3 t)
def N9{α:Type}{i j:Nat}{f:sr}{fs:sq}{δ:Dv}{fr:tW}{zs:List α}{a b g:α->PD}(R:fs δ=some (zs.map fun z=>.tuple [a z,b z]))(T:zs.length<=DH) (h:∀z∈zs,f (((Bu fr δ).set i (.d (a z))).set j (.d (b z)))=some (g z)):Cz (Cy i j) IG f fr fs δ=some (zs.map g):=by
 unfold Cz;rw[R,(Fz)];have:∀zs:List α,(∀z∈zs,f (((Bu fr δ).set i (.d (a z))).set j (.d (b z)))=some (g z))->L2.collect (Jv (Cy i j) IG f (Bu fr δ)) (zs.map fun z=>.tuple [a z,b z])=some (zs.map g):=fun zs=>by
  induction zs with
  |nil=>intro _;rfl
  |cons z zs I=>
   intro h;rw[(BA),(BA)];unfold L2.collect;rw[I fun y M=>h y (.tail _ M)];have e:Jv (Cy i j) IG f (Bu fr δ) (.tuple [a z,b z])=some (some (g z)):=by
    unfold Jv Cy;rw[(Fz)];show(some true).bind _=_;rw[(Fz),if_pos rfl,h z (.head _)]
    rfl
   rw[e];rfl
 rw[this zs h,(Fz),B2,if_pos (by rw[(Af)];exact T)]
def cnt:Nat->Nat
 |0=>1|1=>4|2=>10|3=>20|4=>35|_=>56
def Pw(n D:Nat)(ps:tJ):Prop:=ps.length=n/\(∀p∈ps,0<=p)/\ps.sum<=(D:Int)
theorem Q1:∀ {ps:List Int},(∀p∈ps,0<=p)->0<=ps.sum
 |[],_=>by simp
 |p::ps,h=>by
  have a:=h p (.head _);have b:=Q1 fun q g=>h q (.tail _ g);rw[(GX)];lia
def fR(D:Nat):Nat->List (List Int)
 |0=>[[]]
 |n+1=>(List.range (D+1)).flatMap fun a=>(fR (D-a) n).map fun ps=>(a:Int)::ps
theorem VA:∀ {n D:Nat} {ps:List Int},Pw n D ps->ps∈fR D n
 |0,D,ps,h=>by rw[List.eq_nil_of_length_eq_zero h.1];exact .head _
 |n+1,D,[],h=>by cases h.1
 |n+1,D,p::ps,h=>by
  obtain⟨T,I,R⟩:=h;have M:=I p (.head _);have s0:=Q1 fun q g=>I q (.tail _ g);rw[(GX)]at R;exact List.mem_flatMap.mpr ⟨p.toNat,List.mem_range.mpr AC,List.mem_map.mpr ⟨ps,VA ⟨by simpa using T,fun q g=>I q (.tail _ g),by lia⟩,by rw[Int.toNat_of_nonneg M]⟩⟩
def f9:∀n,n<=3->∀D,D<=5->(fR D n).length<=cnt D:=by decide +kernel
def Wj(D:Nat):cnt D<=56:=by
 unfold cnt;split<;>decide
structure TB(n D K:Nat)(ts:List T3):Prop where
 at_:∀t∈ts,Pw n D t.1/\t.2.2=1/\t.2.1.natAbs<2^K
 B2:ts.length<=1000
structure PB(n D K L:Nat)(us:List AW):Prop where
 at_:∀m∈us,Pw n D m.1/\m.2.den=1/\m.2.num.natAbs<2^K
 B2:us.length<=L
def Pw.mono{n D g:Nat}{ps:tJ}(h:Pw n D ps)(l:D<=g):Pw n g ps:=⟨h.1,h.2.1,by have:=h.2.2;lia⟩
def PB.up{n D K L I g L':Nat}{us:List AW}(h:PB n D K L us)(T:D<=I)(R:K<=g)(M:L<=L'):PB n I g L' us :=
 ⟨fun m hm=>let⟨a,b,c⟩:=h.at_ m hm;⟨a.mono T,b,Nat.lt_of_lt_of_le c (aS AS R)⟩,Nat.le_trans h.B2 M⟩
theorem XM:∀ {l:List (Int×Int)},(∀p∈l,p.2=1)->(l.map fun p=>Rat.divInt p.1 p.2).sum=(((l.map Prod.fst).sum:Int):Rat)
 |[],_=>rfl
 |p::l,h=>by
  rw[(BA),(BA),(GX),(GX),XM fun q g=>h q (.tail _ g),h p (.head _),Rat.intCast_add]
  congr 1
  exact FM.Fu (p.1:Rat)
theorem Xd{M:Nat}:∀ {l:List (Int×Int)},(∀p∈l,p.1.natAbs<M)->((l.map Prod.fst).sum).natAbs<=l.length*M
 |[],_=>by simp
 |p::l,h=>by
  have a:=h p (.head _);have b:=Xd fun q g=>h q (.tail _ g);rw[(BA),(GX),(GU),Nat.add_mul];have:=Int.natAbs_add_le p.1 (l.map Prod.fst).sum
  lia
def Ss{n D K:Nat}{ts:List T3}(h:TB n D K ts)(hn:n<=3)(M:D<=5):(CP ts).length<=cnt D :=
 aT (OI (QB ts) fun k I=>by
  obtain⟨t,g,rfl⟩:=Nq ts I;exact VA (h.at_ t g).1) (f9 n hn D M)
def TB.ga{n D K:Nat}{ts:List T3}(h:TB n D K ts)(h1:1<=n)(hn:n<=3)(I:D<=5)(M:K<=90000):gQ ts:=by
 have:=Ss h hn I;have:=Wj D;refine⟨h.B2,⟨K,1,fun t g=>?_,by have:=h.B2;lia,by lia⟩,by lia⟩;obtain⟨a,b,c⟩:=h.at_ t g;refine⟨fun z=>?_,by lia,c,by rw[b];decide⟩;have:=a.1;rw[z]at this;simp at this
 lia
theorem TB.N6{n D K:Nat}{ts:List T3}(h:TB n D K ts)(hn:n<=3)(T:D<=5):PB n D (K+10) (cnt D) (N6 ts):=by
 have g:(Kj ts).Perm (CP ts):=List.mergeSort_perm _ _;refine⟨fun m hm=>?_,?_⟩
 .obtain⟨k,R,e⟩:=List.mem_filterMap.mp hm;unfold Oq at e;split at e
  .cases e
  .cases e;obtain⟨t,M,rfl⟩:=Nq ts (g.mem_iff.mp R);have a:∀p∈KH t.1 ts,p.2=1/\p.1.natAbs<2^K:=fun p g=>by
    obtain⟨u,I,rfl⟩:=YE g;exact(h.at_ u I).2
   have e:sumK ts t.1=((((KH t.1 ts).map Prod.fst).sum:Int):Rat):=XM fun p g=>(a p g).1;refine⟨(h.at_ t M).1,by show(sumK ts t.1).den=1;rw[e];rfl,?_⟩;show(sumK ts t.1).num.natAbs<_;rw[e];show((KH t.1 ts).map Prod.fst).sum.natAbs<_;have l:=O3 t.1 ts;have f:=h.B2;refine aQ (Xd fun p g=>(a p g).2) ?_;rw[Nat.pow_add];have:0<2^K:=Nat.pow_pos AS
   calc (KH t.1 ts).length*2^K<=1000*2^K:=Nat.mul_le_mul_right _ AC
    _<2^K*2^10:=by rw[Nat.mul_comm];exact Nat.mul_lt_mul_of_pos_left AS this
 .unfold Q22.N6;refine aT (List.length_filterMap_le _ _) ?_;rw[g.length_eq];exact Ss h hn T
def PB.tb{n D K L:Nat}{us:List AW}(h:PB n D K L us)(I:L<=1000):TB n D K (us.map NK):=by
 refine⟨fun t g=>?_,by rw[(Af)];exact aT h.B2 I⟩;obtain⟨m,hm,rfl⟩:=aI.mp g;obtain⟨a,b,c⟩:=h.at_ m hm;exact⟨a,by show(m.2.den:Int)=1;rw[b];rfl,c⟩
def Vu(us:List AW):AH us=.list ((us.map NK).map GF):=by unfold AH;rw[(CZ)];rfl
noncomputable abbrev SI:MD:=BE ig
section
variable{n D K L1 L2:Nat}{a b:List AW}(h1:1<=n)(hn:n<=3)
include h1 hn
theorem dI(ha:PB n D K L1 a)(I:PB n D K L2 b)(T:L1+L2<=1000)(M:D<=5)(R:K<=90000):∃r,SI [AH a,AH b]=some (AH r)/\PB n D (K+10) (cnt D) r:=by
 have tb:TB n D K ((a++b).map NK):=⟨fun t g=>by
  rw[(CN)]at g;rcases aW.mp g with g|g
  .exact(ha.tb AC).at_ t g
  .exact(I.tb AC).at_ t g,by rw[(Af),(De)];have:=ha.B2;have:=I.B2;lia⟩
 refine⟨_,DN rfl (E6 (Ac (xs:=[.list (((a++b).map NK).map GF)]) (Ab ?_ rfl) (Zv (tb.ga h1 hn M R)))),tb.N6 hn M⟩;rw[(CN),(CN)];exact A4 (x:=AH a) (y:=AH b) rfl rfl ((by rw[Vu,Vu];exact add_l (by rw[(Af),(Af),(Af),(Af)];have:=ha.B2;have:=I.B2;unfold DH;lia)))
end
theorem Tf:∀a b:List Int,OO (a.map PyData.int) (b.map PyData.int)=(a.zip b).map fun z=>.tuple [.int z.1,.int z.2]
 |[],_=>rfl
 |_::_,[]=>rfl
 |x::a,y::b=>by
  show PyData.tuple [.int x,.int y]::OO (a.map PyData.int) (b.map PyData.int)=_;rw[Tf a b];rfl
def Kf(a b:tJ):tJ:=(a.zip b).map fun z=>z.1+z.2
def oV{a b:tJ}(h:a.length<=100):Bo [.tuple (a.map .int),.tuple (b.map .int)]=some (.tuple ((Kf a b).map .int)):=by
 refine DN rfl (E6 (Ac (xs:=[.list ((Kf a b).map .int)]) (Ab ?_ rfl) rfl));show(Cz _ _ _ _ _ _).map _=_;rw[N9 (zs:=a.zip b) (a:=fun z=>.int z.1) (b:=fun z=>.int z.2) (g:=fun z=>.int (z.1+z.2)) (by
  show some (OO (a.map PyData.int) (b.map PyData.int))=_;rw[Tf]) (by rw[List.length_zip];unfold DH;lia) (fun z _=>rfl)]
 unfold Kf;rw[(CZ)];rfl
def fH{n R M:Nat}{a b:tJ}(ha:Pw n R a)(g:Pw n M b):Pw n (R+M) (Kf a b):=by
 refine⟨?_,fun p U=>?_,?_⟩
 .unfold Kf;rw[(Af),List.length_zip,ha.1,g.1,Nat.min_self]
 .obtain⟨z,I,rfl⟩:=aI.mp U;have:=ha.2.1 z.1 (List.of_mem_zip I).1;have:=g.2.1 z.2 (List.of_mem_zip I).2
  lia
 .have key:∀ {a b:List Int},a.length=b.length->(Kf a b).sum=a.sum+b.sum:=fun {a}=>by
   induction a with
   |nil=>intro b g;rw[List.eq_nil_of_length_eq_zero g.symm];rfl
   |cons x a T=>
    intro b g;cases b with
    |nil=>cases g
    |cons y b=>
     show(x+y+(Kf a b).sum)=_;rw[T (by simpa using g),(GX),(GX)];lia
  rw[key (ha.1.trans g.1.symm)];have:=ha.2.2;have:=g.2.2
  lia
def tt(m g:AW):T3:=(Kf m.1 g.1,m.2.num*g.2.num,(m.2.den:Int)*(g.2.den:Int))
noncomputable abbrev iZ:MD:=Bc ig Bo
def kW{i:Nat}{f:sr}{δ:Dv}{y:PD}{xs:sx}(h:f δ=some y)(o:ow i δ=some xs)(g:xs.length<DH):nW i f δ=some (.nx (δ.set i (.own (.lst (xs++[y]))))):=by
 show(f δ).bind _=_;rw[h];show(ow i δ).bind _=_;rw[o];exact if_pos g
section
variable{n D1 D2 K1 K2 L1 L2:Nat}{a b:List AW}(h1:1<=n)(hn:n<=3)
include h1 hn
theorem et(ha:PB n D1 K1 L1 a)(hb:PB n D2 K2 L2 b)(hL:L1*L2<=1000)(hD:D1+D2<=5)(hK1:K1<=4000)(hK2:K2<=4000):∃r,iZ [AH a,AH b]=some (AH r)/\PB n (D1+D2) (K1+K2+10) (cnt (D1+D2)) r:=by
 have T:∀i,((a.take i).flatMap fun m=>b.map (tt m)).length<=i*b.length:=fun i=>by
  have:∀l:List AW,(l.flatMap fun m=>b.map (tt m)).length=l.length*b.length:=fun l=>by
   induction l with
   |nil=>simp
   |cons x l ih=>rw[List.flatMap_cons,(De),ih,(Af),(GU),Nat.add_mul];lia
  rw[this,(Fc)];exact Nat.mul_le_mul_right _ (Nat.min_le_left _ _)
 have hab:a.length*b.length<=1000:=aT (Nat.mul_le_mul ha.B2 hb.B2) hL;have tb:TB n (D1+D2) (K1+K2) (a.flatMap fun m=>b.map (tt m)):=by
  refine⟨fun t ht=>?_,by have:=T a.length;rw[(FT)]at this;lia⟩;obtain⟨m,hm,ht⟩:=List.mem_flatMap.mp ht;obtain⟨g,I,rfl⟩:=aI.mp ht;obtain⟨a1,a2,a3⟩:=ha.at_ m hm;obtain⟨b1,b2,b3⟩:=hb.at_ g I;exact⟨fH a1 b1,by show(m.2.den:Int)*(g.2.den:Int)=1;rw[a2,b2];rfl,FM.Dl a3 b3⟩
 refine⟨_,DN (N:=["one","other","terms","powers","part","more","share"]) rfl ?_,tb.N6 hn hD⟩;unfold OC;refine Av rfl ?_;refine VJ (xs:=a.map Bv) (fun i δ=>∃Y U R M:L,δ=[.d (AH a),.d (AH b),.own (.lst (((a.take i).flatMap fun m=>b.map (tt m)).map GF)),Y,U,R,M]) rfl ⟨_,_,_,_,rfl⟩ ?_ ?_
 .rintro i x δ hx ⟨Y,U,R,M,rfl⟩;rw[(BP)]at hx;obtain⟨m,hm,rfl⟩:=aC.mp hx;have hi:i<a.length:=(aB.mp hm).1;obtain⟨a1,a2,a3⟩:=ha.at_ m (aL hm);refine⟨_,rfl,?_⟩;refine jI (xs:=b.map Bv) (fun j δ=>∃R M:L,δ=[.d (AH a),.d (AH b),.own (.lst ((((a.take i).flatMap fun m=>b.map (tt m))++(b.take j).map (tt m)).map GF)),.d (.tuple (m.1.map .int)),.d (BG m.2),R,M]) rfl ⟨_,_,by rw[(MB),(Mw),(J5)];rfl⟩ ?_ fun δ Z=>?_
  .rintro j y δ hy ⟨R,M,rfl⟩;rw[(BP)]at hy;obtain⟨g,I,rfl⟩:=aC.mp hy;have hj:j<b.length:=(aB.mp I).1;obtain⟨b1,b2,b3⟩:=hb.at_ g (aL I);have hl:((((a.take i).flatMap fun m=>b.map (tt m))++(b.take j).map (tt m)).map GF).length<DH:=by
    rw[(Af),(De),(Af),(Fc)];have h1:=T i;have h2:i*b.length+b.length<=1000:=by
     have:(i+1)*b.length<=a.length*b.length:=Nat.mul_le_mul_right _ hi;rw[Nat.add_mul]at this
     lia
    unfold DH
    lia
   refine⟨_,rfl,_,kW (y:=GF (tt m g)) (Gj (xs:=[.tuple ((Kf m.1 g.1).map .int),.tuple [.int (m.2.num*g.2.num),.int ((m.2.den:Int)*(g.2.den:Int))]]) (Ab (Ac (xs:=[.tuple (m.1.map .int),.tuple (g.1.map .int)]) rfl (oV (by rw[a1.1];lia))) (Ab (Gj (Ab (A4 (x:=.int m.2.num) (y:=.int g.2.num) rfl rfl (Yw (aH a3 (aS AS hK1)) (aH b3 (aS AS hK2)) AS)) (Ab (A4 (x:=.int (m.2.den:Int)) (y:=.int (g.2.den:Int)) rfl rfl (Yw (n:=10) (by rw[a2];decide) (by rw[b2];decide) AS)) rfl)) (show 2<=1000 by decide)) rfl)) (show 2<=1000 by decide)) rfl hl,.d (.tuple (g.1.map .int)),.d (BG g.2),?_⟩;have e:((((a.take i).flatMap fun m=>b.map (tt m))++(b.take (j+1)).map (tt m)).map GF)=((((a.take i).flatMap fun m=>b.map (tt m))++(b.take j).map (tt m)).map GF)++[GF (tt m g)]:=by
    rw[(HS),I];simp
   rw[e]
   rfl
  .obtain⟨R,M,rfl⟩:=Z;refine⟨.d (.tuple (m.1.map .int)),.d (BG m.2),R,M,?_⟩;rw[(Af),(FT),(HS),hm,List.flatMap_append];simp
 .rintro δ ⟨Y,U,R,M,rfl⟩;rw[(Af),(FT)];exact E6 (Ac (xs:=[.list ((a.flatMap fun m=>b.map (tt m)).map GF)]) rfl (Zv (tb.ga h1 hn hD AC)))
end
def Ud{α:Type}{i j:Nat}{f:sr}{tif:su}{fs:sq}{δ:Dv}{fr:tW}{zs:List α}{a b g:α->PD}(t:α->Bool)(U:fs δ=some (zs.map fun z=>.tuple [a z,b z]))(Y:zs.length<=DH) (M:∀z∈zs,tif (((Bu fr δ).set i (.d (a z))).set j (.d (b z)))=some (t z))(h:∀z∈zs,t z=true->f (((Bu fr δ).set i (.d (a z))).set j (.d (b z)))=some (g z)):Cz (Cy i j) tif f fr fs δ=some ((zs.filter t).map g):=by
 unfold Cz;rw[U,(Fz)];have:∀zs:List α,(∀z∈zs,tif (((Bu fr δ).set i (.d (a z))).set j (.d (b z)))=some (t z))->(∀z∈zs,t z=true->f (((Bu fr δ).set i (.d (a z))).set j (.d (b z)))=some (g z))->L2.collect (Jv (Cy i j) tif f (Bu fr δ)) (zs.map fun z=>.tuple [a z,b z])=some ((zs.filter t).map g):=fun zs=>by
  induction zs with
  |nil=>intro _ _;rfl
  |cons z zs T=>
   intro M h;rw[(BA)];unfold L2.collect;rw[T (fun y R=>M y (.tail _ R)) fun y R=>h y (.tail _ R)];have e:Jv (Cy i j) tif f (Bu fr δ) (.tuple [a z,b z])=some (if t z=true then some (g z) else none):=by
    unfold Jv Cy;rw[(Fz)];show(tif _).bind _=_;rw[M z (.head _),(Fz)];cases I:t z with
    |true=>rw[if_pos rfl,if_pos rfl,h z (.head _) I];rfl
    |false=>rfl
   rw[e];cases I:t z with
   |true=>rw[List.filter_cons_of_pos I];rfl
   |false=>rw[List.filter_cons_of_neg (by rw[I];decide)];rfl
 rw[this zs M h,(Fz),B2,if_pos (by rw[(Af)];exact aT (List.length_filter_le _ _) Y)]
def Lu(ps:tJ)(k:Nat):tJ:=ps.take k++[ps.getD k 0-1]++ps.drop (k+1)
def iM{a b:sx}(h:a.length+b.length<=DH):EB (.tuple a) (.tuple b)=some (.tuple (a++b)):=by
 show KG Y3 (KG QZ (KG M3 U9)) (.tuple a) (.tuple b)=_;have:M3 (.tuple a) (.tuple b)=some (.tuple (a++b)):=if_pos h;unfold KG;show(match M3 (.tuple a) (.tuple b) with|some z=>some z|none=>_)=_;rw[this]
def pE{ps:tJ}{k:Nat}(g:k<ps.length)(T:ps.length<=100):Cs [.tuple (ps.map .int),.int (k:Nat)]=some (.tuple ((Lu ps k).map .int)):=by
 have I:(ps.map PyData.int)[k]? = some (.int (ps.getD k 0)):=by
  rw[(BP),List.getElem?_eq_getElem g,(Ky),List.getElem?_eq_getElem g];rfl
 have R:Mi (nm 0) KW (Km (nm 1)) [.d (.tuple (ps.map .int)),.d (.int (k:Nat))]=some (.tuple ((ps.take k).map .int)):=by
  show QL (.tuple (ps.map .int)) none (some (k:Int))=_;unfold QL;refine(if_pos (fun z=>?_)).trans (by rw[lT,List.map_take]);have:=z.2;rw[HT.Hs,(Af)]at this
  lia
 have M:Mi (nm 0) (Km (Ap EB (nm 1) (fC (.int 1)))) KW [.d (.tuple (ps.map .int)),.d (.int (k:Nat))]=some (.tuple ((ps.drop (k+1)).map .int)):=by
  show QL (.tuple (ps.map .int)) (some ((k:Int)+1)) none=_;rw[show(k:Int)+1=((k+1:Nat):Int) from rfl];unfold QL;refine(if_pos (fun z=>?_)).trans (by rw[WM,List.map_drop]);have:=z.1;rw[HT.Hs,(Af)]at this
  lia
 refine DN rfl (E6 ?_);unfold Lu;rw[(CN),(CN)];refine A4 (A4 R (Gj (xs:=[.int (ps.getD k 0-1)]) (Ab (A4 (x:=.int (ps.getD k 0)) (y:=.int 1) (A4 (x:=.tuple (ps.map .int)) (y:=.int (k:Nat)) rfl rfl (Ew I)) rfl rfl) rfl) (show 1<=1000 by decide)) (iM ?_)) M (iM ?_)
 .rw[(Af),(Fc)];show _+1<=1000;lia
 .rw[(De),(Af),(Fc),(Af),(Ro)];show _+1+_<=1000;lia
def jQ{n D:Nat}{ps:tJ}{k:Nat}(h:Pw n (D+1) ps)(U:k<n)(T:0<ps.getD k 0):Pw n D (Lu ps k):=by
 obtain⟨Y,R,M⟩:=h;have I:k<ps.length:=by lia
 have e:ps=ps.take k++[ps.getD k 0]++ps.drop (k+1):=by
  rw[(Ky),List.getElem?_eq_getElem I];show ps=ps.take k++[ps[k]]++ps.drop (k+1);rw[List.append_assoc,List.singleton_append,List.getElem_cons_drop,List.take_append_drop]
 refine⟨?_,fun p g=>?_,?_⟩
 .unfold Lu;rw[(De),(De),(Fc),(Ro),(QM)]
  lia
 .unfold Lu at g;rcases aW.mp g with g|g
  .rcases aW.mp g with g|g
   .exact R p (List.mem_of_mem_take g)
   .rw[List.mem_singleton.mp g];lia
  .exact R p (List.mem_of_mem_drop g)
 .rw[e]at M;unfold Lu;rw[List.sum_append,List.sum_append]at M ⊢;simp only[List.sum_cons,List.sum_nil]at M ⊢
  lia
abbrev YK:MD:=BK Xe
abbrev XR:MD:=A2 YK Cs
def ZR{r:Rat}{t b:Int}{K:Nat}(I:r.den=1)(T:r.num.natAbs<2^K)(M:t.natAbs<2^K)(R:b≠0)(g:b.natAbs<2^400)(U:K<=9000):YK [BG r,.tuple [.int t,.int b]]=some (BG (Rat.divInt (r.num*t) b)):=by
 refine DN rfl (E6 (Ac (xs:=[.int (r.num*t),.int b]) (Ab (A4 (x:=.int r.num) (y:=.int t) rfl rfl (Yw T M U)) (Ab ((A4 (x:=.int (r.den:Int)) (y:=.int b) rfl rfl (Yw (n:=400) (by rw[I];exact aH (show 1<2^1 by decide) (aS AS AS)) g AS)).trans (by rw[I];show some (PyData.int (1*b))=_;rw[Int.one_mul])) rfl)) (nR R g)))
section
variable{n D K L:Nat}{us:List AW}(h1:1<=n)(hn:n<=3)
include h1 hn
theorem Wf(h:PB n D K L us){k:Nat}(hk:k<n)(hD:D<=5)(hK:K<=8000)(hL:L<=1000):∃r,XR [AH us,.int (k:Nat)]=some (AH r)/\PB n (D-1) (K+3) L r/\(D=0->r=[]):=by
 have I:∀m∈us,(m.1.map PyData.int)[k]? = some (.int (m.1.getD k 0))/\0<=m.1.getD k 0/\m.1.getD k 0<=D:=fun m hm=>by
  obtain⟨⟨a1,a2,a3⟩,_,_⟩:=h.at_ m hm;have R:k<m.1.length:=by lia
  have e:m.1.getD k 0=m.1[k]:=by rw[(Ky),List.getElem?_eq_getElem R];rfl
  have mem:m.1[k]∈m.1:=List.getElem_mem R;refine⟨by rw[(BP),List.getElem?_eq_getElem R,e];rfl,by rw[e];exact a2 _ mem,?_⟩;rw[e];have:∀ {ps:List Int} {p:Int},(∀q∈ps,0<=q)->p∈ps->p<=ps.sum:=fun {ps p} U T=>by
   induction ps with
   |nil=>cases T
   |cons x ps ih=>
    rw[(GX)];have x0:=U x (.head _);have s0:=Q1 fun q h=>U q (.tail _ h);rcases aN.mp T with rfl|T
    .lia
    .have:=ih (fun q h=>U q (.tail _ h)) T;lia
  exact Int.le_trans (this a2 mem) a3
 let g:AW->AW:=fun m=>(Lu m.1 k,Rat.divInt (m.2.num*m.1.getD k 0) 1)
 let t:AW->Bool:=fun m=>decide (0<m.1.getD k 0)
 refine⟨(us.filter t).map g,Mf rfl ?_,⟨fun m hm=>?_,?_⟩,fun z=>?_⟩
 .unfold OY;have:=Ud (i:=1) (j:=2) (δ:=[.d (AH us),.d (.int (k:Nat))]) (fs:=GD (nm 0)) (fr:=[none,none,none,some 1]) (f:=(BW (AB (Ae Cs (AB (nm 1) (AB (nm 3) AL))) (AB (Ae YK (AB (nm 2) (AB (BW (AB (Ap DQ (nm 1) (nm 3)) (AB (fC (.int 1)) AL))) AL))) AL)))) (tif:=(Cn (HR fun i j=>decide (j<i)) (Ap DQ (nm 1) (nm 3)) (fC (.int 0)))) (zs:=us) (a:=fun m=>.tuple (m.1.map .int)) (b:=fun m=>BG m.2) (g:=fun m=>Bv (g m)) t rfl (aT h.B2 hL) (fun m hm=>?_) (fun m hm M=>?_)
  .exact(ai (Option.map Ou.rn) this).trans (by rw[Option.map_some,(CZ)];rfl)
  .exact Cb (x:=.int (m.1.getD k 0)) (y:=.int 0) (A4 (x:=.tuple (m.1.map .int)) (y:=.int (k:Nat)) rfl rfl (Ew (I m hm).1)) rfl rfl
  .obtain⟨⟨a1,a2,a3⟩,b1,Z⟩:=h.at_ m hm;obtain⟨e1,e2,e3⟩:=I m hm;refine Gj (xs:=[.tuple ((Lu m.1 k).map .int),BG (Rat.divInt (m.2.num*m.1.getD k 0) 1)]) (Ab (Ac (xs:=[.tuple (m.1.map .int),.int (k:Nat)]) rfl (pE AC AC)) (Ab (Ac (xs:=[BG m.2,.tuple [.int (m.1.getD k 0),.int 1]]) (Ab rfl (Ab (Gj (Ab (A4 (x:=.tuple (m.1.map .int)) (y:=.int (k:Nat)) rfl rfl (Ew e1)) rfl) (show 2<=1000 by decide)) rfl)) (ZR (K:=K+3) b1 (aH Z (aS AS AC)) ?_ AS AS AC)) rfl)) (show 2<=1000 by decide);have:(m.1.getD k 0).natAbs<2^3:=by show _<8;lia
   exact aH this (aS AS AC)
 .obtain⟨m,Y,rfl⟩:=aI.mp hm;clear hm;obtain⟨hm,M⟩:=List.mem_filter.mp Y;have M:0<m.1.getD k 0:=ah M;obtain⟨a,b1,Z⟩:=h.at_ m hm;obtain⟨_,e2,e3⟩:=I m hm;have ed:Rat.divInt (m.2.num*m.1.getD k 0) 1=((m.2.num*m.1.getD k 0:Int):Rat):=FM.Fu ((m.2.num*m.1.getD k 0:Int):Rat);refine⟨jQ (D:=D-1) (a.mono AC) hk M,by show(Rat.divInt _ 1).den=1;rw[ed];rfl,?_⟩;show(Rat.divInt _ 1).num.natAbs<_;rw[ed];show(m.2.num*m.1.getD k 0).natAbs<_;exact FM.Dl Z (show(m.1.getD k 0).natAbs<2^3 by show _<8;lia)
 .rw[(Af)];exact aT (List.length_filter_le _ _) h.B2
 .rw[List.filter_eq_nil_iff.mpr fun m hm M=>?_];rfl;have M:0<m.1.getD k 0:=ah M;have:=(I m hm).2.2
  lia
end
abbrev bD(b:FB):PD:=.list (b.map AH)
noncomputable abbrev Q6(f:Nat):MD:=D3 XR SI iZ f
structure BB(n D K:Nat)(b:FB):Prop where
 len:b.length=n
 at_:∀p∈b,PB n D K 56 p
def cj{f:Nat}(us:List AW):Q6 (f+1) [AH us,.list []]=some (AH us):=by
 refine DN rfl ?_;unfold E8;exact RZ (Q2 rfl rfl)
def pf{f:sr}{δ:Dv}{x:PD}{R:sx}(h:f δ=some (.list (x::R))):Mi f (Km (fC (.int 1))) KW δ=some (.list R):=by
 show(f δ).bind _=_;rw[h,(Fz)];show some (PyData.list (cutD (x::R) (some ((1:Nat):Int)) none))=_;rw[WM];rfl
section
variable{n D K L:Nat}{us:List AW}(h1:1<=n)(hn:n<=3)
include h1 hn
theorem YG{f E X L' Db M:Nat}{b:FB}{rest:sx}(h:PB n D K L us)(hD:D<=5)(hK:K<=8000)(hL:L<=1000)(hb:BB n Db M b) (hrec:∀r,PB n (D-1) (K+3) L r->∃r',Q6 f [AH r,.list rest]=some (AH r')/\PB n E X L' r')(hL':L'*56<=1000)(hE:E+Db<=5)(hX:X<=4000)(hKb:M<=4000)(hrl:rest.length<=100):∃r,Q6 (f+1) [AH us,.list (bD b::rest)]=some (AH r)/\PB n (E+Db) (X+M+40) (cnt (E+Db)) r:=by
 suffices hh:∃r,E8 XR SI iZ (Q6 f) [.d (AH us),.d (.list (bD b::rest)),.no,.no,.no,.no]=some (.rt (AH r))/\PB n (E+Db) (X+M+40) (cnt (E+Db)) r by
  obtain⟨r,e,p⟩:=hh;exact⟨r,DN rfl e,p⟩
 have loop:∃R,IE (Hz KO (AB (Ap DQ (nm 1) (fC (.int 0))) AL)) (Cy 3 4)
  (BF (B6 5 (Ae XR (AB (nm 0) (AB (nm 3) AL))))
  (IL (YU (Cn (HR fun i j=>decide (j<i)) (Ae J4 (AB (nm 5) AL)) (fC (.int 0))) (Cn (HR fun i j=>decide (j<i)) (Ae J4 (AB (nm 4) AL)) (fC (.int 0))))
   (B6 2 (Ae SI (AB (nm 2) (AB (Ae iZ (AB (Ae (Q6 f) (AB (nm 5) (AB (Mi (nm 1) (Km (fC (.int 1))) KW) AL))) (AB (nm 4) AL))) AL))))
   EZ)) [.d (AH us),.d (.list (bD b::rest)),.d (AH []),.no,.no,.no]=some (.nx R)/\∃(I:List AW) (Z Y U:L2.L),R=[.d (AH us),.d (.list (bD b::rest)),.d (AH I),Z,Y,U]/\PB n (E+Db) (X+M+10+10*(EE (b.map AH)).length) (cnt (E+Db)) I:=by
  have hx0:Hz KO (AB (Ap DQ (nm 1) (fC (.int 0))) AL) [.d (AH us),.d (.list (bD b::rest)),.d (AH []),.no,.no,.no]=some (EE (b.map AH)):=by
   have e0:Ap DQ (nm 1) (fC (.int 0)) [.d (AH us),.d (.list (bD b::rest)),.d (AH []),.no,.no,.no]=some (bD b):=A4 (x:=.list (bD b::rest)) (y:=.int ((0:Nat):Int)) rfl rfl (Ew rfl);show(AB _ _ _).bind KO=_;rw[Ab e0 rfl];rfl
  refine RO (xs:=EE (b.map AH)) (fun i δ=>∃(I:List AW) (Z Y U:L2.L),δ=[.d (AH us),.d (.list (bD b::rest)),.d (AH I),Z,Y,U]/\PB n (E+Db) (X+M+10+10*i) (cnt (E+Db)) I) hx0 ⟨[],_,_,_,rfl,⟨(fun m hm=>by cases hm),Nat.zero_le _⟩⟩ ?_;rintro i x δ hx ⟨I,Z,Y,U,rfl,pt⟩;obtain⟨y,hy,rfl⟩:=Hv hx;rw[(BP)]at hy;obtain⟨T,hpl,rfl⟩:=aC.mp hy;have hi:i<n:=by rw[<-hb.len];exact(aB.mp hpl).1
  have pp:=hb.at_ T (aL hpl);obtain⟨sl,e1,p1,_⟩:=Wf h1 hn h hi hD hK hL;obtain⟨al,e2,p2⟩:=hrec sl p1;obtain⟨ti,e3,p3⟩:=et h1 hn p2 pp hL' hE hX hKb;obtain⟨sm,e4,p4⟩:=dI h1 hn pt (p3.up (aG _) (show X+M+10<=X+M+10+10*i by lia) (aG _)) (by have:=Wj (E+Db);lia) hE AC;have p4':=p4.up (aG _) (show X+M+10+10*i+10<=X+M+10+10*(i+1) by lia) (aG _);have ln:∀(q:List AW) (δ:Dv) (g:Dv->Option PD),g δ=some (AH q)->Cn (HR fun i j=>decide (j<i)) (Ae J4 (AB g AL)) (fC (.int 0)) δ=some (decide (0<q.length)):=fun q δ g hg=>(Cb (x:=.int ((q.map Bv).length:Nat)) (y:=.int 0) (Ac (xs:=[AH q]) (Ab hg rfl) rfl) rfl rfl).trans (ai some (decide_eq_decide.mpr (by rw[(Af)];lia)));refine⟨_,rfl,?_⟩;by_cases z:0<sl.length/\0<T.length
  .refine⟨_,Av (Ck (Ac (xs:=[AH us,.int (i:Nat)]) rfl e1)) (Q2 ?_ (Ck (Ac (xs:=[AH I,AH ti]) (Ab rfl (Ab (Ac (xs:=[AH al,AH T]) (Ab (Ac (xs:=[AH sl,.list rest]) (Ab rfl (Ab (pf rfl) rfl)) e2) (Ab rfl rfl)) e3) rfl)) e4))),sm,_,_,_,rfl,p4'⟩;show(Cn _ _ _ _).bind _=_;rw[ln sl _ _ rfl,decide_eq_true z.1];rw[(Fz),if_pos rfl];exact(ln T _ (nm 4) rfl).trans (by rw[decide_eq_true z.2])
  .refine⟨_,Av (Ck (Ac (xs:=[AH us,.int (i:Nat)]) rfl e1)) (ID ?_ rfl),I,_,_,_,rfl,pt.up (aG _) AC (aG _)⟩;show(Cn _ _ _ _).bind _=_;rw[ln sl _ _ rfl];by_cases z1:0<sl.length
   .rw[decide_eq_true z1];rw[(Fz),if_pos rfl];exact(ln T _ (nm 4) rfl).trans (by rw[decide_eq_false fun z2=>z ⟨z1,z2⟩])
   .rw[decide_eq_false z1];rfl
 obtain⟨R,e,I,Z,Y,U,rfl,pt⟩:=loop;have hel:(EE (b.map AH)).length=n:=by unfold EE;rw[(Af),List.length_zipIdx,(Af),hb.len]
 rw[hel]at pt;refine⟨I,?_,pt.up (aG _) AC (aG _)⟩;unfold E8;refine Av (ID ?_ rfl) (Av rfl (Av e rfl));exact Cb (x:=.int ((bD b::rest).length:Nat)) (y:=.int 0) rfl rfl ((Rm _ _).trans (by rw[decide_eq_false (by rw[(GU)];lia)]))
end
abbrev X6:MD:=BD YK
noncomputable abbrev iJ:MD:=Pa X6 XR SI
def Wn(K:Nat)(r:Rat):Prop:=r.den=1/\r.num.natAbs<2^K
def Zo{z:Int}{K:Nat}(h:z.natAbs<2^K):Wn K (Rat.divInt z 1):=by
 rw[show Rat.divInt z 1=(z:Rat) from FM.Fu (z:Rat)];exact⟨rfl,h⟩
def Zj{n D K L R:Nat}{us:List AW}{r:Rat}(h:PB n D K L us)(I:Wn R r)(Y:L<=1000)(Z:K+R<=9000):∃U,X6 [AH us,BG r]=some (AH U)/\PB n D (K+R) L U:=by
 by_cases z:r.num=0
 .refine⟨[],DN rfl ?_,⟨(fun m hm=>by cases hm),Nat.zero_le _⟩⟩;unfold HL;exact RZ (Q2 (Cb (x:=.int r.num) (y:=.int 0) rfl rfl ((Rm _ _).trans (by rw[decide_eq_true z]))) rfl)
 .refine⟨us.map fun m=>(m.1,Rat.divInt (m.2.num*r.num) 1),Mf rfl ?_,⟨fun m' hm=>?_,by rw[(Af)];exact h.B2⟩⟩
  .unfold HL;refine Av (ID (Cb (x:=.int r.num) (y:=.int 0) rfl rfl ((Rm _ _).trans (by rw[decide_eq_false z]))) rfl) ?_;have:=N9 (i:=1) (j:=2) (δ:=[.d (AH us),.d (BG r)]) (fs:=GD (nm 0)) (fr:=[none,none,none,some 1]) (f:=(BW (AB (nm 1) (AB (Ae YK (AB (nm 2) (AB (nm 3) AL))) AL)))) (zs:=us) (a:=fun m=>.tuple (m.1.map .int)) (b:=fun m=>BG m.2) (g:=fun m=>Bv (m.1,Rat.divInt (m.2.num*r.num) 1)) rfl (aT h.B2 Y) (fun m hm=>?_)
   .exact(ai (Option.map Ou.rn) this).trans (by rw[Option.map_some,(CZ)];rfl)
   .obtain⟨_,b1,M⟩:=h.at_ m hm;have e:BG r=.tuple [.int r.num,.int 1]:=by unfold BG;rw[I.1];rfl
    exact Gj (xs:=[.tuple (m.1.map .int),BG (Rat.divInt (m.2.num*r.num) 1)]) (Ab rfl (Ab (Ac (xs:=[BG m.2,BG r]) rfl (by rw[e];exact ZR (K:=K+R) b1 (aH M (aS AS AC)) (aH I.2 (aS AS AC)) AS AS Z)) rfl)) (show 2<=1000 by decide)
  .obtain⟨m,T,rfl⟩:=aI.mp hm;obtain⟨a1,b1,M⟩:=h.at_ m T;exact⟨a1,(Zo (FM.Dl M I.2)).1,(Zo (FM.Dl M I.2)).2⟩
def YS{n D K L:Nat}{us:List AW}{b:Int}(h:PB n D K L us)(R:L<=1000)(T:K<=9000)(h1:1<=K)(M:b≠0)(I:b.natAbs<2^400):∃x,X6 [AH us,.tuple [.int 1,.int b]]=some x:=by
 refine⟨_,Mf (xs:=us.map fun m=>Bv (m.1,Rat.divInt (m.2.num*1) b)) rfl ?_⟩;unfold HL;refine Av (ID rfl rfl) ?_;have:=N9 (i:=1) (j:=2) (δ:=[.d (AH us),.d (.tuple [.int 1,.int b])]) (fs:=GD (nm 0)) (fr:=[none,none,none,some 1]) (f:=(BW (AB (nm 1) (AB (Ae YK (AB (nm 2) (AB (nm 3) AL))) AL)))) (zs:=us) (a:=fun m=>.tuple (m.1.map .int)) (b:=fun m=>BG m.2) (g:=fun m=>Bv (m.1,Rat.divInt (m.2.num*1) b)) rfl (aT h.B2 R) (fun m hm=>?_)
 .exact ai (Option.map Ou.rn) this
 .obtain⟨_,b1,U⟩:=h.at_ m hm;exact Gj (xs:=[.tuple (m.1.map .int),BG (Rat.divInt (m.2.num*1) b)]) (Ab rfl (Ab (Ac (xs:=[BG m.2,.tuple [.int 1,.int b]]) rfl (ZR (K:=K) b1 U (aH (show(1:Int).natAbs<2^1 by decide) (aS AS h1)) M I T)) rfl)) (show 2<=1000 by decide)
section
variable{n D K L:Nat}{us:List AW}(h1:1<=n)(hn:n<=3)
include h1 hn
theorem cC{M:Nat}{rs:tQ}(h:PB n D K L us)(hD:D<=5)(hK:K+M<=4000)(hL:L<=500)(hl:rs.length=n)(hr:∀r∈rs,Wn M r):∃r,iJ [AH us,.list (AY rs)]=some (AH r)/\PB n (D-1) (K+M+40) (cnt (D-1)) r:=by
 have loop:∃I,IE (Hz KO (AB (nm 1) AL)) (Cy 3 4)
  (B6 2 (Ae SI (AB (nm 2) (AB (Ae X6 (AB (Ae XR (AB (nm 0) (AB (nm 3) AL))) (AB (nm 4) AL))) AL)))) [.d (AH us),.d (.list (AY rs)),.d (AH []),.no,.no]=some (.nx I)/\∃(g:List AW) (T R:L2.L),I=[.d (AH us),.d (.list (AY rs)),.d (AH g),T,R]/\PB n (D-1) (K+M+3+10*(EE (AY rs)).length) (cnt (D-1)) g:=by
  refine RO (xs:=EE (AY rs)) (fun i δ=>∃(g:List AW) (T R:L2.L),δ=[.d (AH us),.d (.list (AY rs)),.d (AH g),T,R]/\PB n (D-1) (K+M+3+10*i) (cnt (D-1)) g) rfl ⟨[],_,_,rfl,⟨(fun m hm=>by cases hm),Nat.zero_le _⟩⟩ ?_;rintro i x δ hx ⟨g,T,R,rfl,pt⟩;have Z:i<n:=by
   have:=(aB.mp hx).1;unfold EE at this;rw[(Af),List.length_zipIdx,Nn,hl]at this;exact this
  obtain⟨y,U,rfl⟩:=Hv hx;unfold AY at U;rw[(BP)]at U;obtain⟨r,Y,rfl⟩:=aC.mp U;have wr:=hr r (aL Y);obtain⟨sl,e1,p1,_⟩:=Wf h1 hn h Z hD AC AC;obtain⟨sc,e2,p2⟩:=Zj p1 wr AC AC;obtain⟨sm,e4,p4⟩:=dI h1 hn pt (p2.up (aG _) (show K+3+M<=K+M+3+10*i by lia) (aG _)) (by have:=Wj (D-1);lia) AC AC;exact⟨_,rfl,_,Ck (Ac (xs:=[AH g,AH sc]) (Ab rfl (Ab (Ac (xs:=[AH sl,BG r]) (Ab (Ac (xs:=[AH us,.int (i:Nat)]) rfl e1) rfl) e2) rfl)) e4),sm,_,_,rfl,p4.up (aG _) AC (aG _)⟩
 obtain⟨I,e,g,T,R,rfl,pt⟩:=loop;have hel:(EE (AY rs)).length=n:=by unfold EE;rw[(Af),List.length_zipIdx,Nn,hl]
 rw[hel]at pt;exact⟨g,DN rfl (Av rfl (Av e rfl)),pt.up (aG _) AC (aG _)⟩
end
theorem ZE:∀(zs:List (Int×Rat)) (a:Rat),zs.foldl (fun a z=>a*JF z.2 z.1.toNat) a=a*FP zs
 |[],a=>by unfold FP;rw[List.foldl_nil,List.foldl_nil,Rat.mul_one]
 |z::zs,a=>by
  unfold FP;rw[List.foldl_cons,List.foldl_cons,ZE zs,ZE zs (1*JF z.2 z.1.toNat),Rat.one_mul,Rat.mul_assoc]
def ZS(z:Int×Rat)(zs:List (Int×Rat)):FP (z::zs)=JF z.2 z.1.toNat*FP zs:=by
 show(z::zs).foldl _ 1=_;rw[List.foldl_cons,ZE,Rat.one_mul]
theorem Ut(b:Int):∀n,JF (b:Rat) n=((b^n:Int):Rat)
 |0=>by rw[JF,Int.pow_zero];rfl
 |n+1=>by rw[JF,Ut b n,Int.pow_succ,Rat.intCast_mul]
def jL{c b:Int}(T:1<=c)(U:1<=b):EM c b=(Int.lcm c b:Int):=by
 have I:FM.gi c b≠0:=Int.ne_of_gt (FM.LB AC);obtain⟨q,g⟩:=FM.MC c b;unfold EM;rw[FM.Fd I g];have h:=Int.gcd_mul_lcm c b;have R:(FM.gi c b)*(Int.lcm c b:Int)=c*b:=by
  have:((Int.gcd c b*Int.lcm c b:Nat):Int)=((c*b).natAbs:Int):=by rw[h,Int.natAbs_mul]
  rw[Int.natCast_mul,Int.natAbs_of_nonneg (Int.mul_nonneg AC AC)]at this;exact this
 have M:FM.gi c b*(q*b)=FM.gi c b*(Int.lcm c b:Int):=by
  rw[R,<-Int.mul_assoc,<-g]
 exact Int.eq_of_mul_eq_mul_left I M
theorem YH{n:Nat}:∀(bs:List Int) (c:Int),1<=c->c ∣ (n:Int)->(∀b∈bs,1<=b/\b ∣ (n:Int))->bs.foldl EM c ∣ (n:Int)
 |[],c,_,h,_=>h
 |b::bs,c,g,h,k=>by
  obtain⟨b1,b2⟩:=k b aO;obtain⟨s1,_,_,_⟩:=Mm g b1;refine YH bs (EM c b) s1 ?_ fun y I=>k y (aK _ I);rw[jL g b1];exact Int.ofNat_dvd.mpr (Int.lcm_dvd h b2)
def rO{d:Nat}(h0:d≠0)(g:d<=6):(d:Int) ∣ ((60:Nat):Int):=by
 match d,h0,g with
 |1,_,_=>exact⟨60,by decide⟩
 |2,_,_=>exact⟨30,by decide⟩
 |3,_,_=>exact⟨20,by decide⟩
 |4,_,_=>exact⟨15,by decide⟩
 |5,_,_=>exact⟨12,by decide⟩
 |6,_,_=>exact⟨10,by decide⟩
def iA{bs:tJ}(h:∀b∈bs,1<=b/\b<=6):1<=FN bs/\FN bs<=60:=by
 have M:=(RY (k:=3) (bs:=bs) fun b g=>⟨(h b g).1,by have:=h b g;lia⟩).1;have I:=YH (n:=60) bs 1 AS ⟨60,by decide⟩ fun b g=>⟨(h b g).1,by
  obtain⟨a,c⟩:=h b g;have:=rO (d:=b.toNat) AC AC
  rwa [show((b.toNat:Nat):Int)=b by lia]at this⟩
 exact⟨M,Int.le_of_dvd AS I⟩
def Eb(ts:tJ):tQ:=ts.map fun t:Int=>(t:Rat)
def Ii(ps ts:tJ):Int:=(List.zipWith (fun p t=>t^p.toNat) ps ts).foldr (· * ·) 1
theorem Ux:∀(ps ts:List Int),FP (ps.zip (Eb ts))=((Ii ps ts:Int):Rat)
 |[],_=>by simp[FP,Ii]
 |_::_,[]=>by simp[FP,Ii,Eb]
 |p::ps,t::ts=>by
  have g:=Ux ps ts;unfold Eb at g ⊢;rw[(BA),(Nr),ZS,g];show JF (t:Rat) p.toNat*_=_;rw[Ut];unfold Ii;rw[List.zipWith_cons_cons,List.foldr_cons,<-Rat.intCast_mul]
theorem YQ{n:Nat}:∀(zs:List Int),(∀z∈zs,z.natAbs<2^n)->zs.sum.natAbs<=zs.length*2^n
 |[],_=>by simp
 |z::zs,h=>by
  have I:=YQ zs fun y g=>h y (aK _ g);have M:=h z aO;rw[(GX),(GU),Nat.succ_mul];have:=Int.natAbs_add_le z zs.sum
  lia
def Z1{n:Nat}{zs:tJ}(g:zs.length<=15)(h:∀z∈zs,z.natAbs<2^n):zs.sum.natAbs<2^(n+4):=by
 have R:=YQ zs h;have M:zs.length*2^n<=15*2^n:=Nat.mul_le_mul_right _ g;have I:0<2^n:=Nat.two_pow_pos n;rw[Nat.pow_add]
 lia
theorem QW{tb:Nat}:∀(ps ts:List Int),(∀p∈ps,0<=p)->(∀t∈ts,t.natAbs<2^tb)->(Ii ps ts).natAbs<2^(tb*ps.sum.toNat+ps.length+1)/\0<=ps.sum
 |[],ts,_,_=>⟨by simp[Ii],by simp⟩
 |p::ps,[],I,_=>by
  have Y:=(QW (tb:=tb) ps [] (fun y g=>I y (aK _ g)) fun _ z=>(ay z).elim).2;have:=I p aO;refine⟨?_,by rw[(GX)];lia⟩;show(1:Int).natAbs<_;exact aH AS (aS AS (show 1<=_ by lia))
 |p::ps,t::ts,I,M=>by
  obtain⟨Z,Y⟩:=QW ps ts (fun y g=>I y (aK _ g)) fun y g=>M y (aK _ g);have R:=I p aO;have U:=IK (k:=tb) (e:=p.toNat) (p:=p.toNat) (M t aO) (aG _);have e:Ii (p::ps) (t::ts)=t^p.toNat*Ii ps ts:=rfl;rw[e,(GX),(GU)];refine⟨?_,by lia⟩;have T:=FM.Dl U Z;refine FM.EL T ?_;rw[show(p+ps.sum).toNat=p.toNat+ps.sum.toNat by lia,Nat.mul_add]
  lia
def Ul{p q:Rat}(h:BG p=BG q):p=q:=by
 unfold BG at h;simp only[PyData.tuple.injEq,List.cons.injEq,PyData.int.injEq,and_true]at h;exact FM.YF h.1 h.2
def eN{a b:AW}(h:Bv a=Bv b):a=b:=by
 obtain⟨a1,a2⟩:=a;obtain⟨b1,b2⟩:=b;unfold Bv at h;simp only[PyData.tuple.injEq,List.cons.injEq,and_true]at h;rw[Lz h.1,Ul h.2]
def WG{a b:List AW}(h:AH a=AH b):a=b:=map_inj (fun _ _=>eN) (by unfold AH at h;injection h)
def Sj{a b:tQ}(h:AY a=AY b):a=b:=map_inj (fun _ _=>Ul) h
def mQ(a:List AW×tQ):Prop:=∃many k kd n nd:Nat,a.1.length<=12/\(∀m∈a.1,m.1.length=many/\(∀p∈m.1,(0:Int)<=p/\p<=3)/\m.2.num.natAbs<2^n/\((m.2.den:Int)).natAbs<2^nd)/\a.2.length=many/\(∀x∈a.2,x.num.natAbs<2^k/\((x.den:Int)).natAbs<2^kd)/\many<=4/\k<=1300/\kd<=1300/\n<=20000/\(nd+(3*kd+1)*4)*12<=4000
noncomputable abbrev Xm:MD:=LV (fun a:List AW×List Rat=>[AH a.1,.list (AY a.2)]) mQ fun a=>BG (Je a.1 a.2)
def mS{us:List AW}{rs:tQ}(h:mQ (us,rs)):Xm [AH us,.list (AY rs)]=some (BG (Je us rs)):=N0 (hand:=fun a:List AW×List Rat=>[AH a.1,.list (AY a.2)]) (a:=(us,rs)) (fun b e=>by
 injection e with I g
 injection g with g
 injection g with g
 obtain⟨b1,b2⟩:=b;exact Prod.ext (WG I) (Sj g)) h
def gB(m:AW):(Bv m).canLay0=true:=UE fun d hd=>by
 rcases aN.mp hd with rfl|hd
 .exact UE fun d hd=>by obtain⟨p,_,rfl⟩:=aI.mp hd;simp[PyData.canLay0]
 .rw[List.mem_singleton.mp hd];exact Xi _
def Um(us:List AW):(AH us).canLay0=true:=GZ fun d hd=>by obtain⟨p,_,rfl⟩:=aI.mp hd;exact gB p
def Ht(uss:FB):∀d∈uss.map AH,d.canLay0=true:=fun d hd=>by
 obtain⟨us,_,rfl⟩:=aI.mp hd;exact Um us
def Lb(rs:tQ):∀d∈AY rs,d.canLay0=true:=fun d hd=>by
 unfold AY at hd;obtain⟨p,_,rfl⟩:=aI.mp hd;exact Xi p
def rH{P:F0b}{w:F0c}{K:Fg}{mg:tF}{base:Heap}{CX:GL}{k:Nat}{f:AD}{fd:F0a}{ps:tK}(F:AI P w K mg base CX k f fd ps UZ):AI P w K mg base CX k f fd ps (BI Xm):=Wi F fun a o G H vs Q E d e kk=>by
 obtain⟨many,k,kd,n,nd,o1,o2,Z,Y,U,T,R,M,I⟩:=o;obtain⟨v1,v2,rfl,d1,d2⟩:=d.Ln;obtain⟨A,xs,rfl,hA,dx⟩:=(M6 (Um _) (d1.same e)).Vp;obtain⟨S,ss,rfl,hS,dS⟩:=(M6 (GZ (Lb _)) (d2.same e)).Vp;refine⟨A,S,xs,ss,a.1,a.2,many,k,kd,n,nd,rfl,hA,dx,o1,o2,⟨hS,dS,Z,Y⟩,U,T,R,M,I,fun l H' g hl=>?_⟩;obtain⟨G',n1,n2,n3,n4⟩:=iQ e g hl (Hg [(Je a.1 a.2).num,((Je a.1 a.2).den:Int)]);exact kk _ G' H' n1 n2 n3 g n4
theorem Ql:∀ {ps:List Int} {p:Int},(∀q∈ps,0<=q)->p∈ps->p<=ps.sum
 |x::ps,p,g,I=>by
  rw[(GX)];have M:=g x (.head _);have s0:=Q1 fun q h=>g q (.tail _ h);rcases aN.mp I with rfl|I
  .lia
  .have:=Ql (fun q h=>g q (.tail _ h)) I;lia
def gL{n D K L tb:Nat}{us:List AW}{ts:tJ}(h:PB n D K L us)(U:L<=15)(hn:n<=3)(hD:D<=2)(R:∀t∈ts,t.natAbs<2^tb):Wn (K+tb*2+8) (Je us (Eb ts)):=by
 have e:∀us:List AW,(∀m∈us,m.2.den=1)->Je us (Eb ts)=(((us.map fun m=>m.2.num*Ii m.1 ts).sum:Int):Rat):=fun us=>by
  induction us with
  |nil=>intro _;rfl
  |cons m us g=>
   intro hd;have hm:=hd m (.head _);unfold Je at g ⊢;rw[(BA),(BA),(GX),(GX),g fun q T=>hd q (.tail _ T),Ux,Rat.intCast_add,Rat.intCast_mul]
   congr 2
   exact FM.YF rfl (by show(m.2.den:Int)=1;rw[hm];rfl)
 rw[e us fun m hm=>(h.at_ m hm).2.1];refine⟨rfl,?_⟩;show((us.map fun m=>m.2.num*Ii m.1 ts).sum).natAbs<_;have:∀z∈us.map fun m=>m.2.num*Ii m.1 ts,z.natAbs<2^(K+tb*2+4):=fun z M=>by
  obtain⟨m,hm,rfl⟩:=aI.mp M;obtain⟨⟨a1,a2,a3⟩,_,c⟩:=h.at_ m hm;obtain⟨I,Z⟩:=QW (tb:=tb) m.1 ts a2 R;refine FM.EL (FM.Dl c I) ?_;have Y:m.1.sum.toNat<=2:=by lia
  have h2:tb*m.1.sum.toNat<=tb*2:=aR _ Y
  lia
 have k:=Z1 (by rw[(Af)];exact aT h.B2 U) this;exact k
def p6{n D K L tb:Nat}{us:List AW}{ts:tJ}(h:PB n D K L us)(U:L<=12)(hn:n<=3)(Z:D<=2)(Y:K<=20000)(I:tb<=1300)(g:ts.length=n)(M:∀t∈ts,t.natAbs<2^tb):∃r,Xm [AH us,.list (AY (Eb ts))]=some (BG r)/\Wn (K+tb*2+8) r:=by
 refine⟨_,mS ⟨n,tb,1,K,1,Nat.le_trans h.B2 U,fun m hm=>?_,by unfold Eb;rw[(Af)];exact g,fun x T=>?_,by lia,I,by decide,Y,by decide⟩,gL h AC hn Z M⟩
 .obtain⟨⟨a1,a2,a3⟩,b,c⟩:=h.at_ m hm;refine⟨a1,fun p R=>⟨a2 p R,?_⟩,c,by rw[b];decide⟩;have:=Ql a2 R
  lia
 .obtain⟨t,h1,rfl⟩:=aI.mp T;exact⟨M t h1,by show(1:Int).natAbs<2^1;decide⟩
abbrev T0:Tr:=.nil
abbrev T1:Tr:=.cons .nil .nil
abbrev T2:Tr:=.cons .nil (.cons .nil .nil)
abbrev cE:Tr:=.cons T1 .nil
abbrev T4:Tr:=.cons T1 (.cons .nil .nil)
abbrev Eo:List Tr:=[T0,T1,T2,cE,T4]
def K7{t:Tr}(h:t∈Eo):t=T0\/t=T1\/t=T2\/t=cE\/t=T4:=by simpa using h
def qI:ZV Eo 1:=⟨by decide,fun a ha b g e=>by
 have all:∀a∈Eo,∀b∈Eo,TH.Bp (some a)=TH.Bp (some b)->a=b:=by decide +kernel
 exact all a ha b g e,by decide +kernel,by decide +kernel,by decide +kernel⟩
def TJ(v0 M I g v4:sx)(t:Tr):sx:=if t=T1 then M else if t=T2 then I else if t=cE then g else if t=T4 then v4 else v0
section
variable(v0 v1 v2 v3 v4:sx)
def fy:TJ v0 v1 v2 v3 v4 T0=v0:=rfl
def ZC:TJ v0 v1 v2 v3 v4 T1=v1:=rfl
def ZG:TJ v0 v1 v2 v3 v4 T2=v2:=rfl
def ZK:TJ v0 v1 v2 v3 v4 cE=v3:=rfl
def Y6:TJ v0 v1 v2 v3 v4 T4=v4:=rfl
end
open Classical in
def Ho{P:List AW->List AW->Prop}{U:FB}(h:∀us∈U,∃r,P us r):∃f:List AW->List AW,∀us∈U,P us (f us):=by
 refine⟨fun us=>if k:∃r,P us r then choose k else [],fun us g=>?_⟩;have k:=h us g;show P us (dite _ _ _);rw[dif_pos k];exact choose_spec k
def Dk{α β:Type}{f g:α->β}{U:List α}{i:Nat}{c:β}(h:(U.map f)[i]? = some c):∃u∈U,c=f u/\(U.map g)[i]? = some (g u):=by
 rw[(BP)]at h;obtain⟨u,I,rfl⟩:=aC.mp h;exact⟨u,List.mem_of_getElem? I,rfl,by rw[(BP),I];rfl⟩
section
variable{n K:Nat}{U:FB}(h1:1<=n)(hn:n<=3)
include h1 hn
theorem jv(hl:U.length=n)(Z:∀us∈U,PB n 2 K 12 us)(hK:K<=500):∃BT:Tr->List PD,kT Eo (Q6 3) (U.map AH) (fun t=>.list (BT t)) BT/\∀t∈Eo,∃V:List (List AW),BT t=V.map AH/\∀us∈V,PB n 5 4000 56 us:=by
 have bU:BB n 2 K U:=⟨hl,fun p hp=>(Z p hp).up (aG _) (aG _) AS⟩;have one:∀ {D K' Db R:Nat} {us:List AW} {b:FB} {f:Nat},PB n D K' 12 us->D-1+Db<=5->D<=5->K'<=3900->BB n Db R b->R<=4000->∃r,Q6 (f+2) [AH us,.list [bD b]]=some (AH r)/\PB n (D-1+Db) (K'+3+R+40) (cnt (D-1+Db)) r:=fun {D K' Db R us b f} h h5 hD5 hK' hb Y=>
  YG h1 hn (f:=f+1) (E:=D-1) (X:=K'+3) (L':=12) h hD5 AC AS hb (fun r hr=>⟨r,cj r,hr⟩) AS h5 AC Y AS
 obtain⟨f1,T⟩:=Ho fun us I=>one (f:=1) (Z us I) AS AS AC bU AC;have b1:BB n 3 (K+3+K+40) (U.map f1):=⟨by rw[(Af)];exact hl,fun p hp=>by obtain⟨u,I,rfl⟩:=aI.mp hp;exact(T u I).2.up (aG _) (aG _) AS⟩;have two:∀ {Db R:Nat} {us:List AW} {b:FB},PB n 2 K 12 us->2+Db<=5->BB n Db R b->R<=4000->∃r,Q6 3 [AH us,.list [bD b,bD U]]=some (AH r)/\PB n (2+Db) (K+3+3+K+40+R+40) (cnt (2+Db)) r:=fun {Db R us b} h h5 hb Y=>
  YG h1 hn (f:=2) (E:=2) (X:=K+3+3+K+40) (L':=10) h AS AC AS hb (fun r hr=>one (D:=1) (f:=0) hr AS AS AC bU AC) AS h5 AC Y (show 1<=100 by decide)
 obtain⟨f2,h_2⟩:=Ho fun us I=>two (Z us I) AS bU AC;obtain⟨f3,h_3⟩:=Ho fun us I=>one (f:=1) (Z us I) AS AS AC b1 AC;obtain⟨f4,h_4⟩:=Ho fun us I=>two (Z us I) AS b1 AC;refine⟨TJ (U.map AH) (U.map fun u=>AH (f1 u)) (U.map fun u=>AH (f2 u)) (U.map fun u=>AH (f3 u)) (U.map fun u=>AH (f4 u)),⟨fun _=>rfl,fun t ht=>?_,fun t ht i c hc=>?_,by rw[(Af)];lia,by decide +kernel⟩,fun t ht=>?_⟩
 .rcases K7 ht with rfl|rfl|rfl|rfl|rfl<;>simp[fy,ZC,ZG,ZK,Y6]
 .have e1:bD (U.map f1)=.list (U.map fun u=>AH (f1 u)):=by unfold bD;rw[(CZ)];rfl
  rcases K7 ht with rfl|rfl|rfl|rfl|rfl
  .obtain⟨u,I,rfl,e⟩:=Dk (g:=AH) hc;exact⟨_,e,cj u⟩
  .obtain⟨u,I,rfl,e⟩:=Dk (g:=fun u=>AH (f1 u)) hc;exact⟨_,e,(T u I).1⟩
  .obtain⟨u,I,rfl,e⟩:=Dk (g:=fun u=>AH (f2 u)) hc;exact⟨_,e,(h_2 u I).1⟩
  .obtain⟨u,I,rfl,e⟩:=Dk (g:=fun u=>AH (f3 u)) hc;refine⟨_,e,?_⟩;have:=(h_3 u I).1;rw[e1]at this;exact this
  .obtain⟨u,I,rfl,e⟩:=Dk (g:=fun u=>AH (f4 u)) hc;refine⟨_,e,?_⟩;have:=(h_4 u I).1;rw[e1]at this;exact this
 .rcases K7 ht with rfl|rfl|rfl|rfl|rfl
  .exact⟨U,rfl,fun us I=>(Z us I).up AS AC AS⟩
  .exact⟨U.map f1,by rw[ZC,(CZ)];rfl,fun us I=>by obtain⟨u,M,rfl⟩:=aI.mp I;exact(T u M).2.up AS AC AS⟩
  .exact⟨U.map f2,by rw[ZG,(CZ)];rfl,fun us I=>by obtain⟨u,M,rfl⟩:=aI.mp I;exact(h_2 u M).2.up AS AC AS⟩
  .exact⟨U.map f3,by rw[ZK,(CZ)];rfl,fun us I=>by obtain⟨u,M,rfl⟩:=aI.mp I;exact(h_3 u M).2.up AS AC AS⟩
  .exact⟨U.map f4,by rw[Y6,(CZ)];rfl,fun us I=>by obtain⟨u,M,rfl⟩:=aI.mp I;exact(h_4 u M).2.up AS AC AS⟩
end
open Classical in
def MU{P:List AW->Rat->Prop}{U:FB}(h:∀us∈U,∃r,P us r):∃f:List AW->Rat,∀us∈U,P us (f us):=by
 refine⟨fun us=>if k:∃r,P us r then choose k else 0,fun us g=>?_⟩;have k:=h us g;show P us (dite _ _ _);rw[dif_pos k];exact choose_spec k
def qd:∀t∈Eo,∀i,Tr.of (t.bs.take i)∈Eo:=fun t g i=>by
 have all:∀t∈Eo,∀i,i<3->Tr.of (t.bs.take i)∈Eo:=by decide +kernel
 have len:∀t∈Eo,t.bs.length<=2:=by decide +kernel
 by_cases z:i<3
 .exact all t g i z
 .have:=all t g 2 AS;rw[List.take_of_length_le (len t g)]at this;rw[List.take_of_length_le (by have:=len t g;lia)];exact this
section
variable{n K tb:Nat}{U:FB}{ts:tJ}(h1:1<=n)(hn:n<=3)
include h1 hn
theorem dB(hl:U.length=n)(hU:∀us∈U,PB n 2 K 12 us)(hK:K<=200)(htb:tb<=50)(htl:ts.length=n)(T:∀t∈ts,t.natAbs<2^tb):∃PT WT:Tr->List PD,ll Eo iJ Xm (U.map AH) (.list (AY (Eb ts))) PT WT/\∀t∈Eo,∃rs:tQ,WT t=AY rs:=by
 have wo:∀ {D Y:Nat} {us:List AW},PB n D Y 12 us->D<=2->Y<=3000->∃r,Xm [AH us,.list (AY (Eb ts))]=some (BG r)/\Wn (Y+108) r:=fun h hD hK'=>by
  obtain⟨r,a,b⟩:=p6 h AS hn hD AC AC htl T;exact⟨r,a,b.1,Nat.lt_of_lt_of_le b.2 (aS AS AC)⟩
 have pu:∀ {D Y Ks:Nat} {us:List AW} {w:List AW->Rat},PB n D Y 12 us->D<=2->Y+Ks<=4000->(∀u∈U,Wn Ks (w u))->∃r,iJ [AH us,.list (AY (U.map w))]=some (AH r)/\PB n (D-1) (Y+Ks+40) 12 r:=fun {D Y Ks us w} h hD hk hw=>by
  obtain⟨r,a,b⟩:=cC h1 hn (rs:=U.map w) h AC hk AS (by rw[(Af)];exact hl) (fun r hr=>by obtain⟨u,I,rfl⟩:=aI.mp hr;exact hw u I);refine⟨r,a,b.up (aG _) (aG _) ?_⟩;have:∀D,D<=2->cnt (D-1)<=12:=by decide
  exact this D hD
 obtain⟨Z,g0⟩:=MU fun us I=>wo (hU us I) AS AC;obtain⟨p1,q1⟩:=Ho fun us I=>pu (w:=Z) (hU us I) AS AC (fun u I=>(g0 u I).2);obtain⟨w1,g1⟩:=MU fun us I=>wo (q1 us I).2 AS AC;obtain⟨p2,q2⟩:=Ho fun us I=>pu (w:=Z) (q1 us I).2 AS AC (fun u I=>(g0 u I).2);obtain⟨w2,g2⟩:=MU fun us I=>wo (q2 us I).2 AS AC;obtain⟨p3,q3⟩:=Ho fun us I=>pu (w:=w1) (hU us I) AS AC (fun u I=>(g1 u I).2);obtain⟨w3,g3⟩:=MU fun us I=>wo (q3 us I).2 AS AC;obtain⟨p4,q4⟩:=Ho fun us I=>pu (w:=Z) (q3 us I).2 AS AC (fun u I=>(g0 u I).2);obtain⟨w4,g4⟩:=MU fun us I=>wo (q4 us I).2 AS AC;have fe:∀w:List AW->Rat,AY (U.map w)=U.map fun u=>BG (w u):=fun w=>by unfold AY;rw[(CZ)];rfl
 refine⟨TJ (U.map AH) (U.map fun u=>AH (p1 u)) (U.map fun u=>AH (p2 u)) (U.map fun u=>AH (p3 u)) (U.map fun u=>AH (p4 u)),TJ (U.map fun u=>BG (Z u)) (U.map fun u=>BG (w1 u)) (U.map fun u=>BG (w2 u)) (U.map fun u=>BG (w3 u)) (U.map fun u=>BG (w4 u)),⟨rfl,fun t T=>?_,fun t T i b M j c R=>?_,fun t T=>?_,fun t T j c R=>?_,by rw[(Af)];lia,qd⟩,fun t T=>?_⟩
 .rcases K7 T with rfl|rfl|rfl|rfl|rfl<;>simp[fy,ZC,ZG,ZK,Y6]
 .simp only[fe]at q1 q2 q3 q4;rcases K7 T with rfl|rfl|rfl|rfl|rfl
  .cases M
  .match i,M with
   |0,M=>
    cases M;obtain⟨u,I,rfl,e⟩:=Dk (g:=fun u=>AH (p1 u)) (show(U.map AH)[j]? = some c from R);exact⟨_,e,(q1 u I).1⟩
  .match i,M with
   |0,M=>
    cases M;obtain⟨u,I,rfl,e⟩:=Dk (g:=fun u=>AH (p1 u)) (show(U.map AH)[j]? = some c from R);exact⟨_,e,(q1 u I).1⟩
   |1,M=>
    cases M;obtain⟨u,I,rfl,e⟩:=Dk (g:=fun u=>AH (p2 u)) (show(U.map fun u=>AH (p1 u))[j]? = some c from R);exact⟨_,e,(q2 u I).1⟩
  .match i,M with
   |0,M=>
    cases M;obtain⟨u,I,rfl,e⟩:=Dk (g:=fun u=>AH (p3 u)) (show(U.map AH)[j]? = some c from R);exact⟨_,e,(q3 u I).1⟩
  .match i,M with
   |0,M=>
    cases M;obtain⟨u,I,rfl,e⟩:=Dk (g:=fun u=>AH (p3 u)) (show(U.map AH)[j]? = some c from R);exact⟨_,e,(q3 u I).1⟩
   |1,M=>
    cases M;obtain⟨u,I,rfl,e⟩:=Dk (g:=fun u=>AH (p4 u)) (show(U.map fun u=>AH (p3 u))[j]? = some c from R);exact⟨_,e,(q4 u I).1⟩
 .rcases K7 T with rfl|rfl|rfl|rfl|rfl<;>simp[fy,ZC,ZG,ZK,Y6]
 .rcases K7 T with rfl|rfl|rfl|rfl|rfl
  .obtain⟨u,I,rfl,e⟩:=Dk (g:=fun u=>BG (Z u)) (show(U.map AH)[j]? = some c from R);exact⟨_,e,(g0 u I).1⟩
  .obtain⟨u,I,rfl,e⟩:=Dk (g:=fun u=>BG (w1 u)) (show(U.map fun u=>AH (p1 u))[j]? = some c from R);exact⟨_,e,(g1 u I).1⟩
  .obtain⟨u,I,rfl,e⟩:=Dk (g:=fun u=>BG (w2 u)) (show(U.map fun u=>AH (p2 u))[j]? = some c from R);exact⟨_,e,(g2 u I).1⟩
  .obtain⟨u,I,rfl,e⟩:=Dk (g:=fun u=>BG (w3 u)) (show(U.map fun u=>AH (p3 u))[j]? = some c from R);exact⟨_,e,(g3 u I).1⟩
  .obtain⟨u,I,rfl,e⟩:=Dk (g:=fun u=>BG (w4 u)) (show(U.map fun u=>AH (p4 u))[j]? = some c from R);exact⟨_,e,(g4 u I).1⟩
 .rcases K7 T with rfl|rfl|rfl|rfl|rfl
  .exact⟨_,(fe Z).symm⟩
  .exact⟨_,(fe w1).symm⟩
  .exact⟨_,(fe w2).symm⟩
  .exact⟨_,(fe w3).symm⟩
  .exact⟨_,(fe w4).symm⟩
end
def iP(X:Cx)(es:tL)(f:sq):Prop:=∃t,PA X es t/\∀δ xs,f δ=some xs->∀G0 H0 G H σ ts (Q:List V->Hp->Prop),Rw G0 H0 G H σ δ ts->(∀vs d g H',Rw G0 H0 g H' σ δ (xs.zip vs++ts)->vs.length=xs.length->H' d=none->Q (vs++[.ref d]) (upd H' d (dN d [])))->t σ H Q
def WN(g:MD):Sp:=fun vs H Q _=>∃M x G d us,vs=us++[.ref d]/\g M=some x/\Aq G M us/\AJ G H/\H d=some (dN d [])/\G d=none/\∀v I H',AJ G I->Nw G H I->AJ I H'->MN d H H'->Du I x v->Q v H'
section
variable{X:Cx}{e:Expr}{es:tL}{f:sr}{fs:sq}{pos p:Pos}
def XW(g:starEach [.Dict [] [] pos] X.env=(false,eval (.Dict [] [] pos) X.env)::starEach [] X.env:=by rfl):iP X [.Dict [] [] pos] (fun _=>some []) :=
 ⟨_,AE gH AQ g,fun δ xs h G0 H0 G H σ ts Q M k=>by cases h;exact fun q I=>k [] q G H (by simpa using M) rfl I⟩
def Kr(ha:DE X e f)(Y:iP X es fs)(U:starEach (e::es) X.env=(false,eval e X.env)::starEach es X.env:=by rfl):iP X (e::es) (fun δ=>(f δ).bind fun x=>(fs δ).map fun xs=>x::xs):=by
 obtain⟨ta,I,R⟩:=ha;obtain⟨tr,pr,M⟩:=Y;refine⟨_,AE I pr U,fun δ z T G0 H0 G H σ ts Q R0 k=>?_⟩;obtain⟨x,h1,h2⟩:=aD.mp T;obtain⟨xs,h3,rfl⟩:=aC.mp h2;refine R δ x h1 G0 H0 G H σ ts _ R0 fun u G1 H1 R1=>?_;refine M δ xs h3 G0 H0 G1 H1 σ _ _ R1 fun vs d G2 H2 R2 Z hd=>?_;refine k (u::vs) d G2 H2 (R2.less fun q g=>?_) (by simp[Z]) hd;simp only[List.zip_cons_cons,List.cons_append,List.mem_cons,List.mem_append]at g ⊢;rcases g with h|h|h
 .exact .inr (.inl h)
 .exact .inl h
 .exact .inr (.inr h)
def Ve{k:Nat}{R:AD}{fd:F0a}{ps:tK}{m:MD}{x:Str}{st:Stmt}(T:Fn X.K X.mg x st ps R fd)(F:AI X.prog X.w X.K X.mg X.base Ag k R fd ps (WN m))(hr:CS k X.A)(hg:Gl X x)(ha:iP X (e::es) fs) (I:FS=false:=by decide)(he:starEach (e::es) X.env=(false,eval e X.env)::starEach es X.env:=by rfl)(g:(backTo pos (starEach es X.env)).any (·.1)=false:=by rfl):DE X Fi (fun δ=>(fs δ).bind m):=by
 obtain⟨ta,U,Y⟩:=ha;refine⟨_,A3 T F hr hg U I he g,fun δ z Z G0 H0 G H σ ts Q R0 k=>?_⟩;obtain⟨xs,h1,h2⟩:=aD.mp Z;refine Y δ _ h1 G0 H0 G H σ ts _ R0 fun vs d G1 H1 R1 hv hd=>?_;obtain⟨dv,R2⟩:=R1.args hv;have M:=Ml R2.ins hd;refine⟨xs,z,G1,d,vs,by rw[(J5)],h2,dv,GR R2.ins M,AN,M,fun v G' H' h3 h4 h5 h6 h7=>?_⟩;refine k _ _ _ ((R2.lift h3 (fun a o q=>?_) h5 fun a o q=>h6 a o (AV q hd) ?_).put h7)
 .rcases h4 a o q with w|w|w
  .exact .inl w
  .refine .inr (.inl ?_);by_cases n:a=d
   .subst n;exact hd
   .rw[AK n]at w;exact w
  .exact .inr (.inr w)
 .rw[AK (AV q hd)];exact q
end
def XF{ι:Type}{P:F0b}{w:F0c}{K:Fg}{mg:tF}{base:Heap}{CX:GL}{k:Nat}{f:AD}{fd:F0a}{ps:tK}{sp:ι->Sp}(F:∀i,AI P w K mg base CX k f fd ps (sp i)):AI P w K mg base CX k f fd ps (fun vs H Q E=>∃i,sp i vs H Q E) :=
 ⟨fun vs H Q E ⟨i,h⟩=>(F i).len _ _ _ _ h,fun A outer s H args us vs Q E I M R g ⟨i,h⟩=>(F i).run A outer s H args us vs Q E I M R g h⟩
section
variable{P:F0b}{w:F0c}{K:Fg}{mg:tF}{base:Heap}{f:AD}{fd:F0a}
def N4:Ad ["_law_script","_law_k","_law_cell_here","_law_number","_law_found","_law_turn"] ["_law_script","_law_k"] (AO Ei):=Bk
def L9:DF :=
 (BF (B6 2 (fC (.int 0)))
 (BF (IL (Cn (HR fun i j=>decide (i<j)) (nm 1) (Ae J4 (AB (nm 0) AL)))
  (B6 2 (Ap DQ (nm 0) (nm 1)))
  EZ)
 (BF (IL (Cn (HR fun i j=>decide (j<=i)) (nm 2) (Ap QP (fC (.int 10)) (fC (.int 18))))
  (C9 (Ap JG (Ap Vo (nm 2) (Ap QP (fC (.int 10)) (fC (.int 18)))) (Ap QP (fC (.int 10)) (fC (.int 60)))))
  EZ)
 (BF (B6 3 (Ap JG (Ap EB (Ap EB (Ap Dw (nm 2) (fC (.int 48271))) (Ap Dw (nm 1) (fC (.int 69621)))) (fC (.int 11))) (fC (.int 2147483629))))
 (BF (B6 4 (fC (.int 0)))
 (BF (IE (Hz Rk (AB (fC (.int 8)) AL)) (fj 5)
  (BF (B6 3 (Ap JG (Ap EB (Ap EB (Ap Dw (nm 3) (nm 3)) (Ap Dw (fC (.int 69621)) (nm 5))) (fC (.int 7))) (fC (.int 2147483587))))
  (B6 4 (Ap EB (Ap Dw (nm 4) (fC (.int 2147483563))) (Ap JG (Ap Dw (nm 3) (nm 3)) (fC (.int 2147483563)))))))
 (C9 (nm 4))))))))
def B9:MD:=Ds ["_law_script","_law_k"] ["_law_script","_law_k","_law_cell_here","_law_number","_law_found","_law_turn"] (L9)
def Ur{k:Nat}(F:Fn K mg "_law_cell" Ei ["_law_script","_law_k"] f fd)(I:mg "len" = none)(g:mg "range" = none):AI P w K mg base Ag (k+1) f fd ["_law_script","_law_k"] (BI (B9)):=Jl F N4 fun cdv A outer s H E M=>by
 have sc:=N4;exact(Ak (Bl (i:=2) sc.nd rfl AT Ah)
 (Ak (FW (CI oZ (AF Fy) (HV Me rfl I bM (AA (AF Fa) AG)) (Ay _))
  (Ar (Bl (i:=2) sc.nd rfl AT (Cp (AF Fa) (AF Fy) Da)))
  C6)
 (Ak (FW (CI pB (AF (pv 2)) (A8 R7 Ah Ah) (Ay _))
  (Ar (Bs (A8 Hx (A8 Ov (AF (pv 2)) (A8 R7 Ah Ah)) (A8 R7 Ah Ah))))
  C6)
 (Ak (Bl (i:=3) sc.nd rfl AT (A8 Hx (A8 Di (A8 Di (A8 E9 (AF (pv 2)) Ah) (A8 E9 (AF Fy) Ah)) Ah) Ah))
 (Ak (Bl (i:=4) sc.nd rfl AT Ah)
 (Ak (LW aP rfl (bq rfl g (AA Ah AG)) (XT (Az (i:=5) sc.nd rfl AT))
  (Ak (Bl (i:=3) sc.nd rfl AT (A8 Hx (A8 Di (A8 Di (A8 E9 (AF (pv 3)) (AF (pv 3))) (A8 E9 Ah (AF (pv 5)))) Ah) Ah))
  (Ar (Bl (i:=4) sc.nd rfl AT (A8 Di (A8 E9 (AF (pv 4)) Ah) (A8 Hx (A8 E9 (AF (pv 3)) (AF (pv 3))) Ah))))))
 (Ar (Bs (AF (pv 4))))))))))
end
abbrev My(ns:List Int):PD:=ND ns
def gR{ns:tJ}{k:Nat}(h:k<ns.length):GJ (ns.map PyData.int) (k:Int)=some (.int ns[k]):=Ew (by rw[(BP),List.getElem?_eq_getElem h];rfl)
def O4(ns:tJ)(k:Nat)(hk:k<1000):∃x:Int,B9 [My ns,.int k]=some (.int x):=by
 suffices h:∃x:Int,L9 [.d (My ns),.d (.int k),.no,.no,.no,.no]=some (.rt (.int x)) by
  obtain⟨x,R⟩:=h;exact⟨x,DN rfl R⟩
 have M:∃c:Int,(IL (Cn (HR fun i j=>decide (i<j)) (nm 1) (Ae J4 (AB (nm 0) AL))) (B6 2 (Ap DQ (nm 0) (nm 1))) EZ) [.d (My ns),.d (.int k),.d (.int 0),.no,.no,.no]=some (.nx [.d (My ns),.d (.int k),.d (.int c),.no,.no,.no]):=by
  by_cases h:k<ns.length
  .refine⟨ns[k],Q2 ?_ (Ck (y:=.int ns[k]) (gR h))⟩;show some (decide ((k:Int)<((ns.map PyData.int).length:Nat)))=_;rw[(Af),decide_eq_true AC]
  .refine⟨0,ID ?_ rfl⟩;show some (decide ((k:Int)<((ns.map PyData.int).length:Nat)))=_;rw[(Af),decide_eq_false AC]
 obtain⟨c,M⟩:=M;unfold L9;have I:QP (.int 10) (.int 18)=some (.int (10^18)):=cK (n:=18) AS AS;have T:QP (.int 10) (.int 60)=some (.int (10^60)):=cK (n:=60) AS AS;by_cases h:(10:Int)^18<=c
 .refine⟨(c-10^18) % 10^60,Av rfl (Av M (RZ (Q2 ?_ (E6 ?_))))⟩
  .refine Cb (x:=.int c) (y:=.int (10^18)) rfl I ?_;show some (PyData.bool (decide ((10:Int)^18<=c)))=_;rw[decide_eq_true h]
  .exact A4 (A4 (x:=.int c) rfl I rfl) T (mod_is AS)
 .have Z:=Int.emod_nonneg (c*48271+(k:Int)*69621+11) (show(2147483629:Int)≠0 by decide);have Y:=Int.emod_lt_of_pos (c*48271+(k:Int)*69621+11) (show(0:Int)<2147483629 by decide);have step:∃g,(IE (Hz Rk (AB (fC (.int 8)) AL)) (fj 5)
    (BF (B6 3 (Ap JG (Ap EB (Ap EB (Ap Dw (nm 3) (nm 3)) (Ap Dw (fC (.int 69621)) (nm 5))) (fC (.int 7))) (fC (.int 2147483587))))
    (B6 4 (Ap EB (Ap Dw (nm 4) (fC (.int 2147483563))) (Ap JG (Ap Dw (nm 3) (nm 3)) (fC (.int 2147483563))))))) [.d (My ns),.d (.int k),.d (.int c),.d (.int ((c*48271+(k:Int)*69621+11) % 2147483629)),.d (.int 0),.no]=some (.nx g) /\
    ∃(a b:Int) (l:L),g=[.d (My ns),.d (.int k),.d (.int c),.d (.int a),.d (.int b),l]/\0<=a/\a<2147483629:=by
   refine Vi (xs:=M9 0 8) (fun _ g=>∃(a b:Int) (l:L),g=[.d (My ns),.d (.int k),.d (.int c),.d (.int a),.d (.int b),l]/\0<=a/\a<2147483629) (nu (j:=8) rfl AS AS) ⟨_,_,_,rfl,Z,Y⟩ ?_;rintro i x δ R ⟨a,b,l,rfl,a0,a1⟩;obtain⟨hi,_⟩:=jk R;subst hi;have f1:=Int.emod_nonneg (a*a+69621*(0+(i:Int))+7) (show(2147483587:Int)≠0 by decide);have f2:=Int.emod_lt_of_pos (a*a+69621*(0+(i:Int))+7) (show(0:Int)<2147483587 by decide);refine⟨_,_,rfl,Av (Ck (y:=.int ((a*a+69621*(0+(i:Int))+7) % 2147483587)) ?_) (Ck (y:=.int (b*2147483563+((a*a+69621*(0+(i:Int))+7) % 2147483587)*((a*a+69621*(0+(i:Int))+7) % 2147483587) % 2147483563)) ?_),⟨_,_,_,rfl,f1,by lia⟩⟩
   .exact A4 (A4 (A4 (A4 (x:=.int a) (y:=.int a) rfl rfl (mul_r AC)) (A4 (x:=.int 69621) (y:=.int (0+(i:Int))) rfl rfl (Yn AS)) rfl) rfl rfl) rfl (mod_is AS)
   .exact A4 (A4 (x:=.int b) rfl rfl (mul_r AS)) (A4 (A4 (x:=.int ((a*a+69621*(0+(i:Int))+7) % 2147483587)) (y:=.int ((a*a+69621*(0+(i:Int))+7) % 2147483587)) rfl rfl (mul_r AC)) rfl (mod_is AS)) rfl
  obtain⟨g,U,a,b,l,rfl,_⟩:=step;refine⟨b,Av rfl (Av M (Av (ID ?_ rfl) (Av (Ck ?_) (Av rfl (Av U rfl)))))⟩
  .refine Cb (x:=.int c) (y:=.int (10^18)) rfl I ?_;show some (PyData.bool (decide ((10:Int)^18<=c)))=_;rw[decide_eq_false h]
  .exact A4 (A4 (A4 (A4 (x:=.int c) rfl rfl (mul_r AS)) (A4 (x:=.int k) rfl rfl (mul_r AS)) rfl) rfl rfl) rfl (mod_is AS)
section
variable{P:F0b}{w:F0c}{K:Fg}{mg:tF}{base:Heap}{f:AD}{fd:F0a}
def ZJ:Ad ["thing","k","bough"] ["thing"] (AO Ob):=Bk
def TK(BV:MD):DF :=
 (BF (IL (Rj (OL (q8 Dj (nm 0))))
  (C9 (fC (.bool false)))
  EZ)
 (BF (IE (Hz KO (AB (nm 0) AL)) (Cy 1 2)
  (BF (IL (YU (Cn (HR fun i j=>decide (j<i)) (nm 1) (fC (.int 0))) (Cn (F3 false) (nm 2) (Ap DQ (nm 0) (Ap Vo (nm 1) (fC (.int 1))))))
   oE
   EZ)
  (IL (VE (Rj (OL (Ae BV (AB (nm 2) AL)))) (YU (Cn (HR fun i j=>decide (j<i)) (nm 1) (fC (.int 0))) (Cn ik (nm 2) (Ap DQ (nm 0) (Ap Vo (nm 1) (fC (.int 1)))))))
   (C9 (fC (.bool false)))
   EZ)))
 (C9 (fC (.bool true)))))
def BV:Nat->MD
 |0=>fun _=>none
 |n+1=>Ds ["thing"] ["thing","k","bough"] (TK (BV n))
theorem RF{k:Nat}(I:Fn K mg "is_tree" Ob ["thing"] f fd)(R:mg "enumerate" = none)(T:mg "isinstance" = none)(M:mg "tuple" = none):∀n,
  AI P w K mg base Ag (k+n+1) f fd ["thing"] (BI (BV n))
 |0=>Jf fun _ _ _ _ ⟨_,_,_,h,_⟩=>by cases h
 |n+1=>by
  have sc:=ZJ;have U:=RF (k:=k) I R T M n;refine Jl (k:=k+n+1) (F:=TK (BV n)) I sc fun cdv A outer s H E g=>?_;exact(Ak (FW (OJ (Kx (mF (NG _) rfl T rfl M bA (AF Fa))))
  (Ar (Bs KQ))
  C6)
 (Ak (LW aP rfl (SO rfl R (AA (AF Fa) AG)) (Nv (Fj rfl (BN (Az (i:=1) sc.nd rfl AT) (BN (Az (i:=2) sc.nd rfl AT) EN))))
  (Ak (FW (DW.dt (VH (CI Qm (AF Fy) Ah (Ay _)) (Ja (CI (RP (by have:=g.units;exact this)) (AF (pv 2)) (Cp (AF Fa) (A8 Ov (AF Fy) Ah) Da) (Ay _)))))
   (Ar ir)
   C6)
  (Ar (FW (DW.dt (Qj (OJ (Kx (Am I U g rfl (AA (AF (pv 2)) AG)))) (Ja (DW.dt (VH (CI Qm (AF Fy) Ah (Ay _)) (Ja (CI (jT (by have:=g.units;exact this)) (AF (pv 2)) (Cp (AF Fa) (A8 Ov (AF Fy) Ah) Da) (Ay _))))))))
   (Ar (Bs KQ))
   C6))))
 (Ar (Bs KQ))))
def Qr:Ad ["tree"] ["tree"] (AO Gr):=Bk
def MM(Ao:MD):DF :=
 (C9 (Ap EB (fC (.int 1)) (Ae gK (AB (Gk (Gu 1) IG (Ae Ao (AB (nm 1) AL)) [none,none] (GD (nm 0))) AL))))
def Ao:Nat->MD
 |0=>fun _=>none
 |n+1=>Ds ["tree"] ["tree"] (MM (Ao n))
theorem Ll{k:Nat}(g:Fn K mg "knots_within" Gr ["tree"] f fd)(I:mg "sum" = none):∀n,
  AI P w K mg base Ag (k+n+1) f fd ["tree"] (BI (Ao n))
 |0=>Jf fun _ _ _ _ ⟨_,_,_,h,_⟩=>by cases h
 |n+1=>by
  have sc:=Qr;have R:=Ll (k:=k) g I n;refine Jl (k:=k+n+1) (F:=MM (Ao n)) g sc fun cdv A outer s H E M=>?_;exact(Ar (Bs (A8 Di Ah (HV (ma rfl) rfl I PyProof.Rows.boot_sum (AA (iq [".0","bough"] 1 [none,none] (HD (AF Fa)) (fun _ _ _ _ _=>JM) (fun _ _ _ _ _=>(Am g R M rfl (AA (AF Fy) AG)))) AG)))))
def OE:Ad ["some","bottom"] ["some","bottom"] (AO Lx):=Bk
def PK:DF :=
 (Lp (Cz (Gu 1) IG (Ap Dw (Ap DQ (nm 1) (fC (.int 0))) (Ap Za (nm 2) (Ap DQ (nm 1) (fC (.int 1))))) [none,none,some 1] (GD (nm 0))))
def Bz:MD:=Ds ["some","bottom"] ["some","bottom"] (PK)
def VZ{k:Nat}(F:Fn K mg "tops_over" Lx ["some","bottom"] f fd):AI P w K mg base Ag (k+1) f fd ["some","bottom"] (BI (Bz)):=Jl F OE fun cdv A outer s H E g=>by
 have sc:=OE;exact(Ar (O5 [".0","part","bottom"] 1 [none,none,some 1] (HD (AF Fa)) (fun _ _ _ _ _=>JM) (fun _ _ _ _ _=>(A8 E9 (Cp (AF Fy) Ah Da) (A8 jh (AF (pv 2)) (Cp (AF Fy) Ah Da))))))
def MO:Ad ["start","grain"] ["start","grain"] (AO Jq):=Bk
def NM(Bz:MD):DF :=
 (Lp (Cz (Gu 1) IG (BW (AB (nm 1) (AB (fC (.int 1)) AL))) [none,none] (GD (Ae Bz (AB (nm 0) (AB (nm 1) AL))))))
def CA(Bz:MD):MD:=Ds ["start","grain"] ["start","grain"] (NM Bz)
def SS{k:Nat}{Bz:MD}(F:Fn K mg "whole_start" Jq ["start","grain"] f fd) {g:AD}{I:F0a}(T:Fn K mg "tops_over" Lx ["some","bottom"] g I)(R:AI P w K mg base Ag k g I ["some","bottom"] (BI Bz)):AI P w K mg base Ag (k+1) f fd ["start","grain"] (BI (CA Bz)):=Jl F MO fun cdv A outer s H E M=>by
 have sc:=MO;exact(Ar (O5 [".0","top"] 1 [none,none] (HD (Am T R M rfl (AA (AF Fa) (AA (AF Fy) AG)))) (fun _ _ _ _ _=>JM) (fun _ _ _ _ _=>(A7 (AA (AF Fy) (AA Ah AG))))))
def Iw:Ad ["thing"] ["thing"] (AO Ec):=Bk
def GV(I:MD)(g:AD):HB :=
 (YB (Rj (OL (Ae I (AB (nm 0) AL))))
  (Q0 g (fC (.str (Str.ofString "a change is a list of n polynomials in n unknowns, n from 1 on"))))
  (fun δ=>some (.inl (.nx δ))))
def An(I:MD)(g:AD):rW:=HW ["thing"] ["thing"] (GV I g)
def Nd{k:Nat}{T:MD}{g:AD}(F:Fn K mg "refuse_no_change" Ec ["thing"] f fd) {M:AD}{R:F0a}(Z:Fn K mg "is_change" L7 ["thing"] M R)(Y:AI P w K mg base Ag k M R ["thing"] (BI T))(I:Exc K mg "NoChange" g):AI P w K mg base (C3 P w) (k+1) f fd ["thing"] (G7 (An T g)):=Xn F Iw fun cdv A outer s H E U=>by
 have sc:=Iw;exact(JK (YV (OJ (Kx (Am Z Y U rfl (AA (AF Fa) AG))))
  (JK (by exact QE I Yu Bt))
  Se))
def KI:Ad ["thing"] ["thing"] (AO FU):=Bk
def Hf(BV:MD)(g:AD):HB :=
 (YB (Rj (OL (Ae BV (AB (nm 0) AL))))
  (Q0 g (fC (.str (Str.ofString "a tree is told by the tuple of its boughs in falling order"))))
  (fun δ=>some (.inl (.nx δ))))
def A0(BV:MD)(g:AD):rW:=HW ["thing"] ["thing"] (Hf BV g)
def PH{k:Nat}{BV:MD}{g:AD}(F:Fn K mg "refuse_no_tree" FU ["thing"] f fd) {M:AD}{R:F0a}(Y:Fn K mg "is_tree" Ob ["thing"] M R)(U:AI P w K mg base Ag k M R ["thing"] (BI BV))(I:Exc K mg "NoTree" g):AI P w K mg base (C3 P w) (k+1) f fd ["thing"] (G7 (A0 BV g)):=Xn F KI fun cdv A outer s H E T=>by
 have sc:=KI;exact(JK (YV (OJ (Kx (Am Y U T rfl (AA (AF Fa) AG))))
  (JK (by exact QE I Yu Bt))
  Se))
def Lm:Ad [] [] (AO I0):=Bk
def MX(g:AD):HB :=
 (Q0 g (fC (.str (Str.ofString "a start is a list of as many fractions as there are unknowns"))))
def Bb(g:AD):rW:=HW [] [] (MX g)
def RE{k:Nat}{g:AD}(F:Fn K mg "refuse_start" I0 [] f fd)(I:Exc K mg "NoStart" g):AI P w K mg base (C3 P w) (k+1) f fd [] (G7 (Bb g)):=Xn F Lm fun cdv A outer s H E M=>by
 have sc:=Lm;exact(JK (by exact QE I Yu Bt))
def Jj:Ad Fh Fh (AO G5):=Bk
def Ep(g:MD)(Bb:rW):HB :=
 (YB (VE (Rj (OL (Ae g (AB (nm 0) AL)))) (Cn (F3 true) (Ae J4 (AB (nm 0) AL)) (nm 1)))
  (JS Bb AL fun _ δ=>.nx δ)
  (fun δ=>some (.inl (.nx δ))))
def BL(g:MD)(Bb:rW):rW:=HW Fh Fh (Ep g Bb)
def OD{k:Nat}{U:MD}{Bb:rW}(F:Fn K mg "refuse_no_start" G5 Fh f fd) {R:AD}{T:F0a}(F5:Fn K mg "are_fractions" Ih ["thing"] R T)(Z:AI P w K mg base Ag k R T ["thing"] (BI U)) {I:AD}{M:F0a}(Gi:Fn K mg "refuse_start" I0 [] I M)(Y:AI P w K mg base (C3 P w) k I M [] (G7 Bb))(Bw:mg "len" = none):AI P w K mg base (C3 P w) (k+1) f fd Fh (G7 (BL U Bb)):=Xn F Jj fun cdv A outer s H E g=>by
 have sc:=Jj;exact(JK (YV (DW.dt (Qj (OJ (Kx (Am F5 Z g rfl (AA (AF Fa) AG)))) (Ja (CI (Ka (by have:=g.units;exact this)) (HV Me rfl Bw bM (AA (AF Fa) AG)) (AF Fy) (Ay _)))))
  (JK (by exact fU Gi Y g Oi (fun h=>EG h)))
  Se))
def Mb:Ad ["change","tree","part"] ["change","tree"] (AO Jt):=Bk
def HH(g:MD)(Ao:MD)(I:MD)(BD:MD)(M:MD)(An:rW)(A0:rW)(R:MD):HB :=
 (LK (JS An (AB (nm 0) AL) fun _ δ=>.nx δ)
 (LK (JS A0 (AB (nm 1) AL) fun _ δ=>.nx δ)
 (iY (BF (B6 2 (BW (AB (fC (.int 1)) (AB (Ae M (AB (Ae I (AB (nm 0) (AB (fC (.int 1)) AL))) (AB (Ae Ao (AB (nm 1) AL)) AL))) AL))))
 (Lp (Cz (Gu 1) IG (Ae BD (AB (nm 1) (AB (nm 2) AL))) [none,none,some 2] (GD (Ae g (AB (Ae R (AB (nm 0) (AB (fC (.int 1)) AL))) (AB (nm 1) AL))))))))))
def CB(g:MD)(Ao:MD)(I:MD)(BD:MD)(M:MD)(An:rW)(A0:rW)(R:MD):rW:=HW ["change","tree"] ["change","tree","part"] (HH g Ao I BD M An A0 R)
def SW{k:Nat}{FJ:MD}{Ao:MD}{Cd:MD}{BD:MD}{CC:MD}{An:rW}{A0:rW}{BR:MD}(F:Fn K mg "bent_change" Jt ["change","tree"] f fd) {I:AD}{M:F0a}(DM:Fn K mg "bent_polys" LU ["change","tree","known"] I M)(GO:AI P w K mg base Ag k I M ["change","tree","known"] (WN FJ)) {FG:AD}{Eg:F0a}(Bj:Fn K mg "knots_within" Gr ["tree"] FG Eg)(Cc:AI P w K mg base Ag k FG Eg ["tree"] (BI Ao)) {R:AD}{T:F0a}(GQ:Fn K mg "pace_of" Lr ["change","grain"] R T)(Hr:AI P w K mg base Ag k R T ["change","grain"] (BI Cd)) {Z:AD}{Ex:F0a}(Dh:Fn K mg "poly_scaled" HK ["some","part"] Z Ex)(EH:AI P w K mg base Ag k Z Ex ["some","part"] (BI BD)) {U:AD}{Y:F0a}(Be:Fn K mg "power_of" FZ ["base","power"] U Y)(CF:AI P w K mg base Ag k U Y ["base","power"] (BI CC)) {DK:AD}{C2:F0a}(B7:Fn K mg "refuse_no_change" Ec ["thing"] DK C2)(Ca:AI P w K mg base (C3 P w) k DK C2 ["thing"] (G7 An)) {EA:AD}{Dp:F0a}(CY:Fn K mg "refuse_no_tree" FU ["thing"] EA Dp)(C5:AI P w K mg base (C3 P w) k EA Dp ["thing"] (G7 A0)) {FC:AD}{EW:F0a}(C4:Fn K mg "whole_change" Gg ["change","grain"] FC EW)(D0:AI P w K mg base Ag k FC EW ["change","grain"] (BI BR)):AI P w K mg base (C3 P w) (k+1) f fd ["change","tree"] (G7 (CB FJ Ao Cd BD CC An A0 BR)):=Xn F Mb fun cdv A outer s H E g=>by
 have sc:=Mb;exact(LX (by exact MS B7 Ca g Oi (by exact(AA (AF Fa) AG)) (fun h=>EG h))
 (LX (by exact MS CY C5 g Oi (by exact(AA (AF Fy) AG)) (fun h=>EG h))
 (cH (Ak (Bl (i:=2) sc.nd rfl (Or.inr rfl) (A7 (AA Ah (AA (Am Be CF g rfl (AA (Am GQ Hr g rfl (AA (AF Fa) (AA Ah AG))) (AA (Am Bj Cc g rfl (AA (AF Fy) AG)) AG))) AG))))
 (Ar (O5 [".0","some","part"] 1 [none,none,some 2] (HD (Ve DM GO g rfl (Kr (Am C4 D0 g rfl (AA (AF Fa) (AA Ah AG))) (Kr (AF Fy) XW)))) (fun _ _ _ _ _=>JM) (fun _ _ _ _ _=>(Am Dh EH g rfl (AA (AF Fy) (AA (AF (pv 2)) AG))))))))))
def Qi:Ad ["change","tree","start","grain","bottom","worths"] ["change","tree","start"] (AO Nk):=Bk
def JY(I:MD)(T:MD)(g:MD)(Ao:MD)(M:MD)(R:MD)(An:rW)(BL:rW)(A0:rW)(U:MD)(CA:MD):HB :=
 (LK (JS An (AB (nm 0) AL) fun _ δ=>.nx δ)
 (LK (JS A0 (AB (nm 1) AL) fun _ δ=>.nx δ)
 (LK (JS BL (AB (nm 2) (AB (Ae J4 (AB (nm 0) AL)) AL)) fun _ δ=>.nx δ)
 (iY (BF (B6 3 (Ae g (AB (nm 2) AL)))
 (BF (B6 4 (Ap Dw (nm 3) (Ae R (AB (Ae M (AB (nm 0) (AB (nm 3) AL))) (AB (Ae Ao (AB (nm 1) AL)) AL)))))
 (BF (B6 5 (Ae I (AB (Ae U (AB (nm 0) (AB (nm 3) AL))) (AB (nm 1) (AB (Ae CA (AB (nm 2) (AB (nm 3) AL))) AL)))))
 (Lp (Cz (Gu 1) IG (Ae T (AB (Ap DQ (nm 1) (fC (.int 0))) (AB (nm 2) AL))) [none,none,some 4] (GD (nm 5)))))))))))
def Dx(I:MD)(T:MD)(g:MD)(Ao:MD)(M:MD)(R:MD)(An:rW)(BL:rW)(A0:rW)(U:MD)(CA:MD):rW:=HW ["change","tree","start"] ["change","tree","start","grain","bottom","worths"] (JY I T g Ao M R An BL A0 U CA)
def Yg{k:Nat}{EI:MD}{Ba:MD}{Gp:MD}{Ao:MD}{Cd:MD}{CC:MD}{An:rW}{BL:rW}{A0:rW}{BR:MD}{CA:MD}(F:Fn K mg "bent_at" Nk ["change","tree","start"] f fd) {R:AD}{Y:F0a}(Cv:Fn K mg "bent_worths" Jy ["change","tree","start","known"] R Y)(Fq:AI P w K mg base Ag k R Y ["change","tree","start","known"] (WN EI)) {Fp:AD}{FH:F0a}(B8:Fn K mg "fraction_of" Fm ["top","bottom"] Fp FH)(Cu:AI P w K mg base Ag k Fp FH ["top","bottom"] (BI Ba)) {I:AD}{M:F0a}(Kd:Fn K mg "grain_of" Mv ["start"] I M)(M5:AI P w K mg base Ag k I M ["start"] (BI Gp)) {FG:AD}{Eg:F0a}(Bj:Fn K mg "knots_within" Gr ["tree"] FG Eg)(Cc:AI P w K mg base Ag k FG Eg ["tree"] (BI Ao)) {Jg:AD}{Ig:F0a}(GQ:Fn K mg "pace_of" Lr ["change","grain"] Jg Ig)(Hr:AI P w K mg base Ag k Jg Ig ["change","grain"] (BI Cd)) {Ic:AD}{HA:F0a}(Be:Fn K mg "power_of" FZ ["base","power"] Ic HA)(CF:AI P w K mg base Ag k Ic HA ["base","power"] (BI CC)) {DK:AD}{C2:F0a}(B7:Fn K mg "refuse_no_change" Ec ["thing"] DK C2)(Ca:AI P w K mg base (C3 P w) k DK C2 ["thing"] (G7 An)) {Z:AD}{Ji:F0a}(Eu:Fn K mg "refuse_no_start" G5 Fh Z Ji)(Gw:AI P w K mg base (C3 P w) k Z Ji Fh (G7 BL)) {EA:AD}{Dp:F0a}(CY:Fn K mg "refuse_no_tree" FU ["thing"] EA Dp)(C5:AI P w K mg base (C3 P w) k EA Dp ["thing"] (G7 A0)) {FC:AD}{EW:F0a}(C4:Fn K mg "whole_change" Gg ["change","grain"] FC EW)(D0:AI P w K mg base Ag k FC EW ["change","grain"] (BI BR)) {T:AD}{U:F0a}(HG:Fn K mg "whole_start" Jq ["start","grain"] T U)(J3:AI P w K mg base Ag k T U ["start","grain"] (BI CA))(Bw:mg "len" = none):AI P w K mg base (C3 P w) (k+1) f fd ["change","tree","start"] (G7 (Dx EI Ba Gp Ao Cd CC An BL A0 BR CA)):=Xn F Qi fun cdv A outer s H E g=>by
 have sc:=Qi;exact(LX (by exact MS B7 Ca g Oi (by exact(AA (AF Fa) AG)) (fun h=>EG h))
 (LX (by exact MS CY C5 g Oi (by exact(AA (AF Fy) AG)) (fun h=>EG h))
 (LX (by exact MS Eu Gw g Oi (by exact(AA (AF (pv 2)) (AA (HV Me rfl Bw bM (AA (AF Fa) AG)) AG))) (fun h=>EG h))
 (cH (Ak (Bl (i:=3) sc.nd rfl AT (Am Kd M5 g rfl (AA (AF (pv 2)) AG)))
 (Ak (Bl (i:=4) sc.nd rfl (Or.inr rfl) (A8 E9 (AF (pv 3)) (Am Be CF g rfl (AA (Am GQ Hr g rfl (AA (AF Fa) (AA (AF (pv 3)) AG))) (AA (Am Bj Cc g rfl (AA (AF Fy) AG)) AG)))))
 (Ak (Bl (i:=5) sc.nd rfl AT (Ve Cv Fq g rfl (Kr (Am C4 D0 g rfl (AA (AF Fa) (AA (AF (pv 3)) AG))) (Kr (AF Fy) (Kr (Am HG J3 g rfl (AA (AF (pv 2)) (AA (AF (pv 3)) AG))) XW)))))
 (Ar (O5 [".0","worth","bottom"] 1 [none,none,some 4] (HD (AF (pv 5))) (fun _ _ _ _ _=>JM) (fun _ _ _ _ _=>(Am B8 Cu g rfl (AA (Cp (AF Fy) Ah Da) (AA (AF (pv 2)) AG)))))))))))))
def MK:Ad ["_law_caught","_law_some","_law_names","_law_found"] ["_law_caught"] (AO HJ):=Bk
def Th(T:E3)(R:E3)(kt_NoLine:E3)(kt_NoName:E3)(kt_NoParts:E3)(Z:E3)(Y:E3)(kt_NoText:E3)(kt_NoTree:E3)(I:E3)(M:E3)(U:E3)(g:E3):DF :=
 (BF (IL (Cn (mJ false) (nm 0) (fC .none))
  (C9 (CH AL))
  EZ)
 (BF (B6 1 (CH (AB (Iu T (nm 0)) (AB (Iu kt_NoTree (nm 0)) (AB (Iu R (nm 0)) AL)))))
 (BF (B6 1 (Ap EB (nm 1) (CH (AB (Iu Z (nm 0)) (AB (Iu Y (nm 0)) (AB (Iu kt_NoName (nm 0)) AL))))))
 (BF (B6 1 (Ap EB (nm 1) (CH (AB (Iu I (nm 0)) (AB (Iu M (nm 0)) (AB (Iu kt_NoParts (nm 0)) AL))))))
 (BF (B6 1 (Ap EB (nm 1) (CH (AB (Iu U (nm 0)) (AB (Iu kt_NoText (nm 0)) (AB (Iu kt_NoLine (nm 0)) AL))))))
 (BF (B6 2 (CH (AB (fC (.str (Str.ofString "bottom"))) (AB (fC (.str (Str.ofString "tree"))) (AB (fC (.str (Str.ofString "change"))) (AB (fC (.str (Str.ofString "start"))) (AB (fC (.str (Str.ofString "table"))) (AB (fC (.str (Str.ofString "name"))) (AB (fC (.str (Str.ofString "weighing"))) (AB (fC (.str (Str.ofString "alike"))) (AB (fC (.str (Str.ofString "parts"))) (AB (fC (.str (Str.ofString "many"))) (AB (fC (.str (Str.ofString "text"))) (AB (fC (.str (Str.ofString "line"))) AL))))))))))))))
 (BF (B6 3 (Gk (Cy 1 2) (OL (nm 2)) (nm 1) [none,none,none] (Hz zip2 (AB (nm 2) (AB (nm 1) AL)))))
 (BF (IL (OL (Iu g (nm 0)))
  (C9 (nm 3))
  EZ)
 (C9 (CH (AB (fC (.str (Str.ofString "none"))) AL)))))))))))
def BC(T:E3)(R:E3)(kt_NoLine:E3)(kt_NoName:E3)(kt_NoParts:E3)(Z:E3)(Y:E3)(kt_NoText:E3)(kt_NoTree:E3)(I:E3)(M:E3)(U:E3)(g:E3):MD:=Ds ["_law_caught"] ["_law_caught","_law_some","_law_names","_law_found"] (Th T R kt_NoLine kt_NoName kt_NoParts Z Y kt_NoText kt_NoTree I M U g)
def R8{k:Nat}{U:AD}{T:AD}{C_NoLine:AD}{C_NoName:AD}{C_NoParts:AD}{C_NoStart:AD}{Z:AD}{C_NoText:AD}{C_NoTree:AD}{g:AD}{R:AD}{Y:AD}{kt_NoBottom:E3}{kt_NoChange:E3}{kt_NoLine:E3}{kt_NoName:E3}{kt_NoParts:E3}{kt_NoStart:E3}{kt_NoTable:E3}{kt_NoText:E3}{kt_NoTree:E3}{M:E3}{kt_NotAlike:E3}{kt_TooMany:E3}{I:E3}(F:Fn K mg "_law_called" HJ ["_law_caught"] f fd)(K4:mg "ValueError" = none)(AX:mg "isinstance" = none)(Kc:mg "zip" = none)(M8:mg "NoBottom" = some (.ref U))(Kn:mg "NoChange" = some (.ref T))(QQ:mg "NoLine" = some (.ref C_NoLine))(P5:mg "NoName" = some (.ref C_NoName))(Nh:mg "NoParts" = some (.ref C_NoParts))(LZ:mg "NoStart" = some (.ref C_NoStart))(OB:mg "NoTable" = some (.ref Z))(QV:mg "NoText" = some (.ref C_NoText))(Mn:mg "NoTree" = some (.ref C_NoTree))(K9:mg "NoWeighing" = some (.ref g))(NI:mg "NotAlike" = some (.ref R))(OG:mg "TooMany" = some (.ref Y))(kh_NoBottom:∀C b,kt_NoBottom C=some b->CM K C/\PySem.W.kitOne K (.ref C) (CT (.ref U))=some b)(kh_NoChange:∀C b,kt_NoChange C=some b->CM K C/\PySem.W.kitOne K (.ref C) (CT (.ref T))=some b)(kh_NoLine:∀C b,kt_NoLine C=some b->CM K C/\PySem.W.kitOne K (.ref C) (CT (.ref C_NoLine))=some b)(kh_NoName:∀C b,kt_NoName C=some b->CM K C/\PySem.W.kitOne K (.ref C) (CT (.ref C_NoName))=some b)(kh_NoParts:∀C b,kt_NoParts C=some b->CM K C/\PySem.W.kitOne K (.ref C) (CT (.ref C_NoParts))=some b)(kh_NoStart:∀C b,kt_NoStart C=some b->CM K C/\PySem.W.kitOne K (.ref C) (CT (.ref C_NoStart))=some b)(kh_NoTable:∀C b,kt_NoTable C=some b->CM K C/\PySem.W.kitOne K (.ref C) (CT (.ref Z))=some b)(kh_NoText:∀C b,kt_NoText C=some b->CM K C/\PySem.W.kitOne K (.ref C) (CT (.ref C_NoText))=some b)(kh_NoTree:∀C b,kt_NoTree C=some b->CM K C/\PySem.W.kitOne K (.ref C) (CT (.ref C_NoTree))=some b)(kh_NoWeighing:∀C b,M C=some b->CM K C/\PySem.W.kitOne K (.ref C) (CT (.ref g))=some b)(kh_NotAlike:∀C b,kt_NotAlike C=some b->CM K C/\PySem.W.kitOne K (.ref C) (CT (.ref R))=some b)(kh_TooMany:∀C b,kt_TooMany C=some b->CM K C/\PySem.W.kitOne K (.ref C) (CT (.ref Y))=some b)(kh_ValueError:∀C b,I C=some b->CM K C/\PySem.W.kitOne K (.ref C) (CT (.ty "ValueError"))=some b):AI P w K mg base Ag (k+1) f fd ["_law_caught"] (BI (BC kt_NoBottom kt_NoChange kt_NoLine kt_NoName kt_NoParts kt_NoStart kt_NoTable kt_NoText kt_NoTree M kt_NotAlike kt_TooMany I)):=Jl F MK fun cdv A outer s H E hr=>by
 have sc:=MK;exact(Ak (FW (CI pd (AF Fa) LD (Ay _))
  (Ar (Bs (BQ AG)))
  C6)
 (Ak (Bl (i:=1) sc.nd rfl AT (BQ (AA (E7 kh_NoBottom GE rfl AX (EK (v:=.ref U) rfl M8 rfl) (AF Fa)) (AA (E7 kh_NoTree GE rfl AX (EK (v:=.ref C_NoTree) rfl Mn rfl) (AF Fa)) (AA (E7 kh_NoChange GE rfl AX (EK (v:=.ref T) rfl Kn rfl) (AF Fa)) AG)))))
 (Ak (Bl (i:=1) sc.nd rfl AT (A8 Di (AF Fy) (BQ (AA (E7 kh_NoStart GE rfl AX (EK (v:=.ref C_NoStart) rfl LZ rfl) (AF Fa)) (AA (E7 kh_NoTable GE rfl AX (EK (v:=.ref Z) rfl OB rfl) (AF Fa)) (AA (E7 kh_NoName GE rfl AX (EK (v:=.ref C_NoName) rfl P5 rfl) (AF Fa)) AG))))))
 (Ak (Bl (i:=1) sc.nd rfl AT (A8 Di (AF Fy) (BQ (AA (E7 kh_NoWeighing GE rfl AX (EK (v:=.ref g) rfl K9 rfl) (AF Fa)) (AA (E7 kh_NotAlike GE rfl AX (EK (v:=.ref R) rfl NI rfl) (AF Fa)) (AA (E7 kh_NoParts GE rfl AX (EK (v:=.ref C_NoParts) rfl Nh rfl) (AF Fa)) AG))))))
 (Ak (Bl (i:=1) sc.nd rfl AT (A8 Di (AF Fy) (BQ (AA (E7 kh_TooMany GE rfl AX (EK (v:=.ref Y) rfl OG rfl) (AF Fa)) (AA (E7 kh_NoText GE rfl AX (EK (v:=.ref C_NoText) rfl QV rfl) (AF Fa)) (AA (E7 kh_NoLine GE rfl AX (EK (v:=.ref C_NoLine) rfl QQ rfl) (AF Fa)) AG))))))
 (Ak (Bl (i:=2) sc.nd rfl AT (BQ (AA Bt (AA Bt (AA Bt (AA Bt (AA Bt (AA Bt (AA Bt (AA Bt (AA Bt (AA Bt (AA Bt (AA Bt AG))))))))))))))
 (Ak (XD (i:=3) [".0","_law_name","_law_truth"] 1 2 [none,none,none] sc.nd rfl rfl (cQ rfl Kc (AA (AF (pv 2)) (AA (AF Fy) AG))) (fun _ _ _ _ _=>(X2 (Kx (AF (pv 2))))) (fun _ _ _ _ _=>(AF Fy)))
 (Ak (FW (Kx (E7 kh_ValueError GE rfl AX (Fw (v:=.ty "ValueError") rfl K4 PyProof.Rows.Boot.«ValueError» rfl) (AF Fa)))
  (Ar (Bs (AF (pv 3))))
  C6)
 (Ar (Bs (BQ (AA Bt AG))))))))))))
def NX:Ad ["_law_change_here","_law_tree","_law_caught","e"] ["_law_change_here","_law_tree"] (AO Hy):=Bk
def LQ(BC:MD)(CB:rW):DF :=
 (BF (B6 2 (fC .none))
 (BF (WH 2 3 CB (AB (nm 0) (AB (nm 1) AL)))
 (C9 (Ae BC (AB (nm 2) AL)))))
def CJ(BC:MD)(CB:rW):MD:=Ds ["_law_change_here","_law_tree"] ["_law_change_here","_law_tree","_law_caught","e"] (LQ BC CB)
def Tp{k:Nat}{BC:MD}{CB:rW}{I:AD}(F:Fn K mg "_law_flags" Hy ["_law_change_here","_law_tree"] f fd) {U:AD}{Y:F0a}(Dc:Fn K mg "_law_called" HJ ["_law_caught"] U Y)(EJ:AI P w K mg base Ag k U Y ["_law_caught"] (BI BC)) {R:AD}{T:F0a}(HE:Fn K mg "bent_change" Jt ["change","tree"] R T)(Z:AI P w K mg base (C3 P w) k R T ["change","tree"] (G7 CB))(FD:mg "GroveError" = some (.ref I))(g:∀ds C,CB ds=some (.inr C)->Fx K C I true):AI P w K mg base Ag (k+1) f fd ["_law_change_here","_law_tree"] (BI (CJ BC CB)):=Jl F NX fun cdv A outer s H E M=>by
 have sc:=NX;exact(Ak (Bl (i:=2) sc.nd rfl AT LD)
 (Ak (dP (j:=2) (k:=3) HE Z M rfl (AA (AF Fa) (AA (AF Fy) AG)) g (fun h=>WZ (j:=2) (k:=3) h sc.nd rfl rfl rfl rfl rfl rfl FD AS ⟨_,rfl⟩ rfl))
 (Ar (Bs (Am Dc EJ M rfl (AA (AF (pv 2)) AG))))))
def Kv:Ad ["_law_change_here","_law_tree","_law_start_here","_law_caught","e"] ["_law_change_here","_law_tree","_law_start_here"] (AO F4):=Bk
def IB(BC:MD)(Dx:rW):DF :=
 (BF (B6 3 (fC .none))
 (BF (WH 3 4 Dx (AB (nm 0) (AB (nm 1) (AB (nm 2) AL))))
 (C9 (Ae BC (AB (nm 3) AL)))))
def BS(BC:MD)(Dx:rW):MD:=Ds ["_law_change_here","_law_tree","_law_start_here"] ["_law_change_here","_law_tree","_law_start_here","_law_caught","e"] (IB BC Dx)
def Pr{k:Nat}{BC:MD}{Dx:rW}{I:AD}(F:Fn K mg "_law_flags_at" F4 ["_law_change_here","_law_tree","_law_start_here"] f fd) {U:AD}{Y:F0a}(Dc:Fn K mg "_law_called" HJ ["_law_caught"] U Y)(EJ:AI P w K mg base Ag k U Y ["_law_caught"] (BI BC)) {R:AD}{T:F0a}(Ls:Fn K mg "bent_at" Nk ["change","tree","start"] R T)(Z:AI P w K mg base (C3 P w) k R T ["change","tree","start"] (G7 Dx))(FD:mg "GroveError" = some (.ref I))(g:∀ds C,Dx ds=some (.inr C)->Fx K C I true):AI P w K mg base Ag (k+1) f fd ["_law_change_here","_law_tree","_law_start_here"] (BI (BS BC Dx)):=Jl F Kv fun cdv A outer s H E M=>by
 have sc:=Kv;exact(Ak (Bl (i:=3) sc.nd rfl AT LD)
 (Ak (dP (j:=3) (k:=4) Ls Z M rfl (AA (AF Fa) (AA (AF Fy) (AA (AF (pv 2)) AG))) g (fun h=>WZ (j:=3) (k:=4) h sc.nd rfl rfl rfl rfl rfl rfl FD AS ⟨_,rfl⟩ rfl))
 (Ar (Bs (Am Dc EJ M rfl (AA (AF (pv 3)) AG))))))
def b8:Ad ["_law_script","_law_many","_law_change_here","_law_start_here","_law_none","_law_trees","_law_odd","_law_tree","_law_wrong","_law_bad"] ["_law_script"] (AO Qu):=Bk
def SK(B9:MD)(CJ:MD)(BS:MD):DF :=
 (BF (B6 4 (Ap DQ (CH (AB (fC .none) (AB (BW AL) (AB (fC (.int 0)) (AB (fC (.str (Str.ofString "x"))) (AB (Ae LS (AB (nm 2) AL)) (AB (Ap EB (nm 2) (CH (AB (fC (.int 0)) AL))) (AB (CH (AB (CH (AB (BW (AB (fC (.int 0)) (AB (fC (.int 0)) AL))) AL)) AL)) AL)))))))) (Ap JG (Ae B9 (AB (nm 0) (AB (fC (.int 6)) AL))) (fC (.int 7)))))
 (BF (B6 5 (CH (AB (BW (AB (BW AL) (AB (BW (AB (BW AL) AL)) AL))) (AB (CH AL) (AB (fC (.int 0)) (AB (fC .none) (AB (fC (.str (Str.ofString "()"))) (AB (BW (AB (BW AL) (AB (fC (.int 1)) AL))) (AB (BW (AB (CH AL) AL)) (AB (BW (AB (BW (AB (BW AL) (AB (BW (AB (BW AL) AL)) AL))) AL)) (AB (BW (AB (BW (AB (fC .none) AL)) AL)) (AB (fC (.bool true)) AL))))))))))))
 (BF (B6 6 (Ap DQ (nm 5) (Ap JG (Ae B9 (AB (nm 0) (AB (fC (.int 7)) AL))) (fC (.int 10)))))
 (BF (B6 7 (Ap DQ (CH (AB (BW AL) (AB (BW (AB (BW AL) AL)) (AB (BW (AB (BW AL) (AB (BW AL) AL))) (AB (BW (AB (BW (AB (BW AL) AL)) AL)) (AB (BW (AB (BW (AB (BW AL) AL)) (AB (BW AL) AL))) AL)))))) (Ap JG (Ae B9 (AB (nm 0) (AB (fC (.int 8)) AL))) (fC (.int 5)))))
 (BF (B6 8 (Ap DQ (CH (AB (Ap EB (nm 3) (CH (AB (BW (AB (fC (.int 0)) (AB (fC (.int 1)) AL))) AL))) (AB (Mi (nm 3) (Km (fC (.int 1))) KW) (AB (fC .none) (AB (Ae LS (AB (nm 3) AL)) (AB (Ap Dw (CH (AB (BW (AB (fC (.int 2)) (AB (fC (.int 2)) AL))) AL)) (nm 1)) AL)))))) (Ap JG (Ae B9 (AB (nm 0) (AB (fC (.int 9)) AL))) (fC (.int 5)))))
 (BF (IL (VE (Cn (F3 true) (Ae CJ (AB (nm 4) (AB (nm 6) AL))) (CH (AB (fC (.str (Str.ofString "change"))) AL))) (Cn (F3 true) (Ae CJ (AB (nm 4) (AB (nm 7) AL))) (CH (AB (fC (.str (Str.ofString "change"))) AL))))
  (C9 (fC (.bool false)))
  EZ)
 (BF (IL (Cn (F3 true) (Ae CJ (AB (nm 2) (AB (nm 6) AL))) (CH (AB (fC (.str (Str.ofString "tree"))) AL)))
  (C9 (fC (.bool false)))
  EZ)
 (BF (IE (GD (CH (AB (nm 6) (AB (nm 7) AL)))) (fj 9)
  (IL (VE (Cn (F3 true) (Ae BS (AB (nm 4) (AB (nm 9) (AB (nm 8) AL)))) (CH (AB (fC (.str (Str.ofString "change"))) AL))) (Cn (F3 true) (Ae BS (AB (nm 4) (AB (nm 9) (AB (nm 3) AL)))) (CH (AB (fC (.str (Str.ofString "change"))) AL))))
   (C9 (fC (.bool false)))
   EZ))
 (BF (IL (VE (Cn (F3 true) (Ae BS (AB (nm 2) (AB (nm 6) (AB (nm 8) AL)))) (CH (AB (fC (.str (Str.ofString "tree"))) AL))) (Cn (F3 true) (Ae BS (AB (nm 2) (AB (nm 6) (AB (nm 3) AL)))) (CH (AB (fC (.str (Str.ofString "tree"))) AL))))
  (C9 (fC (.bool false)))
  EZ)
 (BF (IL (Cn (F3 true) (Ae BS (AB (nm 2) (AB (nm 7) (AB (nm 8) AL)))) (CH (AB (fC (.str (Str.ofString "start"))) AL)))
  (C9 (fC (.bool false)))
  EZ)
 (C9 (mU (Ap (F3 false) (Ae CJ (AB (nm 2) (AB (nm 7) AL))) (CH AL)) (Ap (F3 false) (Ae BS (AB (nm 2) (AB (nm 7) (AB (nm 3) AL)))) (CH AL))))))))))))))
def fx{k:Nat}{B9:MD}{CJ:MD}{BS:MD} {Z:AD}{OV:F0a}(Y:Fn K mg "_law_cell" Ei ["_law_script","_law_k"] Z OV)(T:AI P w K mg base Ag k Z OV ["_law_script","_law_k"] (BI B9)) {Nz:AD}{NP:F0a}(U:Fn K mg "_law_flags" Hy ["_law_change_here","_law_tree"] Nz NP)(R:AI P w K mg base Ag k Nz NP ["_law_change_here","_law_tree"] (BI CJ)) {Lg:AD}{LO:F0a}(M:Fn K mg "_law_flags_at" F4 ["_law_change_here","_law_tree","_law_start_here"] Lg LO)(I:AI P w K mg base Ag k Lg LO ["_law_change_here","_law_tree","_law_start_here"] (BI BS))(BZ:mg "tuple" = none)(cdv:VL)(A:F0d)(outer:tV)(s:SD)(H:Hp)(E:XK)(g:CS k (A.deeper (PyProof.Rows.envOfC "law" (AO Qu) s.heap.objs.size f cdv))):Pl (CV Ag P w K mg base ["_law_script","_law_many","_law_change_here","_law_start_here","_law_none","_law_trees","_law_odd","_law_tree","_law_wrong","_law_bad"] "law" (AO Qu) f cdv A outer s H E).KJ ((DY Qu).drop 3) (SK B9 CJ BS):=by
 have sc:=b8;exact(Ak (Bl (i:=4) sc.nd rfl AT (Cp (BQ (AA LD (AA (A7 AG) (AA Ah (AA Bt (AA (N5 QJ rfl BZ bA (AA (AF (pv 2)) AG)) (AA (A8 Di (AF (pv 2)) (BQ (AA Ah AG))) (AA (BQ (AA (BQ (AA (A7 (AA Ah (AA Ah AG))) AG)) AG)) AG)))))))) (A8 Hx (Am Y T g rfl (AA (AF Fa) (AA Ah AG))) Ah) Da))
 (Ak (Bl (i:=5) sc.nd rfl AT (BQ (AA (A7 (AA (A7 AG) (AA (A7 (AA (A7 AG) AG)) AG))) (AA (BQ AG) (AA Ah (AA LD (AA Bt (AA (A7 (AA (A7 AG) (AA Ah AG))) (AA (A7 (AA (BQ AG) AG)) (AA (A7 (AA (A7 (AA (A7 AG) (AA (A7 (AA (A7 AG) AG)) AG))) AG)) (AA (A7 (AA (A7 (AA LD AG)) AG)) (AA KQ AG))))))))))))
 (Ak (Bl (i:=6) sc.nd rfl AT (Cp (AF (pv 5)) (A8 Hx (Am Y T g rfl (AA (AF Fa) (AA Ah AG))) Ah) Da))
 (Ak (Bl (i:=7) sc.nd rfl AT (Cp (BQ (AA (A7 AG) (AA (A7 (AA (A7 AG) AG)) (AA (A7 (AA (A7 AG) (AA (A7 AG) AG))) (AA (A7 (AA (A7 (AA (A7 AG) AG)) AG)) (AA (A7 (AA (A7 (AA (A7 AG) AG)) (AA (A7 AG) AG))) AG)))))) (A8 Hx (Am Y T g rfl (AA (AF Fa) (AA Ah AG))) Ah) Da))
 (Ak (Bl (i:=8) sc.nd rfl AT (Cp (BQ (AA (A8 Di (AF (pv 3)) (BQ (AA (A7 (AA Ah (AA Ah AG))) AG))) (AA (Mr (AF (pv 3)) (Oo Ah) O2) (AA LD (AA (N5 QJ rfl BZ bA (AA (AF (pv 3)) AG)) (AA (A8 E9 (BQ (AA (A7 (AA Ah (AA Ah AG))) AG)) (AF Fy)) AG)))))) (A8 Hx (Am Y T g rfl (AA (AF Fa) (AA Ah AG))) Ah) Da))
 (Ak (FW (DW.dt (Qj (CI (Ka (by have:=g.units;exact this)) (Am U R g rfl (AA (AF (pv 4)) (AA (AF (pv 6)) AG))) (BQ (AA Bt AG)) (Ay _)) (Ja (CI (Ka (by have:=g.units;exact this)) (Am U R g rfl (AA (AF (pv 4)) (AA (AF (pv 7)) AG))) (BQ (AA Bt AG)) (Ay _)))))
  (Ar (Bs KQ))
  C6)
 (Ak (FW (CI (Ka (by have:=g.units;exact this)) (Am U R g rfl (AA (AF (pv 2)) (AA (AF (pv 6)) AG))) (BQ (AA Bt AG)) (Ay _))
  (Ar (Bs KQ))
  C6)
 (Ak (LW aP rfl (HD (BQ (AA (AF (pv 6)) (AA (AF (pv 7)) AG)))) (XT (Az (i:=9) sc.nd rfl AT))
  (Ar (FW (DW.dt (Qj (CI (Ka (by have:=g.units;exact this)) (Am M I g rfl (AA (AF (pv 4)) (AA (AF (pv 9)) (AA (AF (pv 8)) AG)))) (BQ (AA Bt AG)) (Ay _)) (Ja (CI (Ka (by have:=g.units;exact this)) (Am M I g rfl (AA (AF (pv 4)) (AA (AF (pv 9)) (AA (AF (pv 3)) AG)))) (BQ (AA Bt AG)) (Ay _)))))
   (Ar (Bs KQ))
   C6)))
 (Ak (FW (DW.dt (Qj (CI (Ka (by have:=g.units;exact this)) (Am M I g rfl (AA (AF (pv 2)) (AA (AF (pv 6)) (AA (AF (pv 8)) AG)))) (BQ (AA Bt AG)) (Ay _)) (Ja (CI (Ka (by have:=g.units;exact this)) (Am M I g rfl (AA (AF (pv 2)) (AA (AF (pv 6)) (AA (AF (pv 3)) AG)))) (BQ (AA Bt AG)) (Ay _)))))
  (Ar (Bs KQ))
  C6)
 (Ak (FW (CI (Ka (by have:=g.units;exact this)) (Am M I g rfl (AA (AF (pv 2)) (AA (AF (pv 7)) (AA (AF (pv 8)) AG)))) (BQ (AA Bt AG)) (Ay _))
  (Ar (Bs KQ))
  C6)
 (Ar (Bs (l8 (b9 (RP (by have:=g.units;exact this)) (Am U R g rfl (AA (AF (pv 2)) (AA (AF (pv 7)) AG))) (BQ AG) (Ay _)) (kU (b9 (RP (by have:=g.units;exact this)) (Am M I g rfl (AA (AF (pv 2)) (AA (AF (pv 7)) (AA (AF (pv 3)) AG)))) (BQ AG) (Ay _))))))))))))))))
end
def Hi:PD->Bool
 |.int i=>decide (0<=i)
 |_=>false
def Gz(n:Int):PD->Bool
 |.tuple g=>decide ((g.length:Int)=n)&&g.all Hi
 |_=>false
def lh:PD->Int
 |.tuple (.int a::_)=>a
 |_=>0
def Ge(n:Int):PD->Bool
 |.tuple [p,f]=>Gz n p&&(EX f && !decide (lh f=0))
 |_=>false
def intD:PD->Int
 |.int i=>i
 |_=>0
def UL:PD->List Int
 |.tuple g=>g.map intD
 |_=>[]
def Uq:PD->List Int
 |.tuple (p::_)=>UL p
 |_=>[]
def IU(n:Int)(ds:sx)(k:Nat):Bool:=match ds[k]? with
 |some d=>Ge n d&&(decide (k=0)||(match ds[k-1]? with
  |some e=>IT.lt (Uq d) (Uq e)
  |none=>true))
 |none=>true
def FO(n:Int):PD->Bool
 |.list g=>(List.range g.length).all (IU n g)
 |_=>false
def Eh:PD->Bool
 |.list g=>!decide (g.length=0)&&g.all (FO g.length)
 |_=>false
def ju{n:Int}{d:PD}(h:Dj d=false):Gz n d=false:=by cases d<;>first|rfl|exact absurd h (by simp[Dj])
def eO{n:Int}{d:PD}(h:Dj d=false):Ge n d=false:=by cases d<;>first|rfl|exact absurd h (by simp[Dj])
def eL{n:Int}{d:PD}(h:ED d=false):FO n d=false:=by cases d<;>first|rfl|exact absurd h (by simp[ED])
def jW{d:PD}(h:ED d=false):Eh d=false:=by cases d<;>first|rfl|exact absurd h (by simp[ED])
def dH{n:Int}{ds:sx}(h:ds.length≠2):Ge n (.tuple ds)=false:=by
 match ds,h with
 |[],_=>rfl
 |[_],_=>rfl
 |[_,_],h=>exact absurd rfl h
 |_::_::_::_,_=>rfl
def lH:Sp:=fun vs H Q _=>∃l d v n,vs=[v,.int n]/\Dt l H d v/\Q (.bl (Gz n d)) H
def kL:Sp:=fun vs H Q _=>∃l d v n,vs=[v,.int n]/\Dt l H d v/\Q (.bl (Ge n d)) H
def j4:Sp:=fun vs H Q _=>∃l d v n,vs=[v,.int n]/\Dt l H d v/\∀H',AJ H H'->Q (.bl (FO n d)) H'
def oh:Sp:=fun vs H Q _=>∃l d v,vs=[v]/\Dt l H d v/\∀H',AJ H H'->Q (.bl (Eh d)) H'
section
variable{P:F0b}{w:F0c}{K:Fg}{mg:tF}{base:Heap}{f g1 g2:AD}{fd gd1 gd2:F0a}
def Tj:Ad ["thing","unknowns","power"] Fh (AO LM):=Bk
def T6(F:Fn K mg "are_powers" LM Fh f fd)(Ef:Fn K mg "is_whole" KU ["thing"] g1 gd1) (Kg:AI P w K mg base Ag 1 g1 gd1 ["thing"] WU)(AX:mg "isinstance" = none)(BZ:mg "tuple" = none)(Bw:mg "len" = none):AI P w K mg base Ag 2 f fd Fh lH:=by
 have sc:=Tj;refine F.F.ok (k:=1) sc Do DP
 .obtain⟨l,d,v,n,rfl,_⟩:=h
  rfl
 obtain⟨l,d,v,n,rfl,hd,q⟩:=h;refine⟨_,(AM (CO (PW.pt (KN (Ee (ER (BM FY rfl AX af (AE Fa (AE (Fw (v:=.ty "tuple") rfl BZ bA rfl) AQ))))) (Jd (Bn M7 (BM D7 rfl Bw bM (AE Fa AQ)) Fy (Ay _)))))
  (AR (Aw Er))
  BX)
 (AM (C0 aP rfl (Vh Fa) (Az (i:=2) sc.nd rfl AT)
  (AR (CO (PW.pt (KN (Ee (ER (A3 Ef Kg hr rfl (AE (pv 2) AQ)))) (Jd (Bn RC (pv 2) AU (Ay _)))))
   (AR (Aw Er))
   BX)))
 (AR (Aw Er)))),?_⟩
 refine⟨_,rfl,_,_,_,_,rfl,S6,hd.ty,NG K d hd.nodict,_,rfl,?_⟩;by_cases M:Dj d=false
 .rw[M];rw[ju M]at q;exact C8 (C8 q)
 have M:Dj d=true:=by simpa using M
 rw[M];refine M1 ?_;obtain⟨R,rfl⟩:=V3 M;rw[Dt]at hd;obtain⟨a,xs,rfl,na,ha,ht⟩:=hd;have g:=ht.len;refine⟨_,rfl,a,xs,rfl,.inr (Ax.of ha),_,rfl,rfl,_,rfl,Cm (fun c=>?_) (fun c=>?_)⟩
 .have Y:¬(R.length:Int)=n:=by
   rw[<-g];intro z;rw[z]at c;simp at c
  rw[Gz,decide_eq_false Y,(LH)]at q;exact q
 have hn:(R.length:Int)=n:=by
  rw[<-g];by_cases z:(xs.length:Int)=n
  .exact z
  .exact absurd (by simp[z]) c
 rw[Gz,decide_eq_true hn,(JA)]at q;refine⟨_,rfl,a,rfl,⟨_,Ax.of ha⟩,jJ (xs:=xs) (fun i σ H'=>∃I,σ=[some (.ref a),some (.int n),I]/\H=H'/\∀j c,j<i->R[j]? = some c->Hi c=true) ?_ ?_ ?_ ?_⟩
 .exact⟨_,rfl,rfl,fun j c h=>absurd h (av _)⟩
 .rintro i σ H' _ ⟨I,rfl,rfl,_⟩;exact Ax.of ha
 .rintro i x σ H' hx ⟨I,rfl,rfl,hf⟩;obtain⟨c,T,U⟩:=ht.get hx;have no:Hi c=false->R.all Hi=false:=fun z=>aj.mpr fun y=>by
   rw[(J6)]at y;rw[y c (aL T)]at z;cases z
  have next:Hi c=true->∃I,[some (V.ref a),some (V.int n),some x]=[some (.ref a),some (.int n),I]/\H=H/\∀j c,j<i+1->R[j]? = some c->Hi c=true:=fun hb=>by
   refine⟨_,rfl,rfl,fun j e Z he=>?_⟩;by_cases z:j=i
   .subst z;rw[T]at he;cases he;exact hb
   .exact hf j e AC he
  refine⟨_,rfl,l,c,x,rfl,U,_,rfl,Cm (fun b=>?_) (fun b=>?_)⟩
  .have:Hi c=false:=by cases c<;>first|rfl|(simp[Jb,Hn]at b)
   rw[no this]at q;exact C8 q
  .obtain⟨i',rfl⟩:=Nx (d:=c) (by simpa using b);rw[Dt]at U;subst U;refine⟨_,rfl,_,_,rfl,rfl,_,rfl,Cm (fun b=>?_) (fun b=>?_)⟩
   .have:Hi (.int i')=false:=by
     have:=ah b;rw[Hi];exact au AC
    rw[no this]at q;exact q
   .have:Hi (.int i')=true:=by
     have:=bE (aj.mpr b);rw[Hi];exact bL AC
    exact next this
 .rintro σ H' ⟨I,rfl,rfl,hf⟩;have e:R.all Hi=true:=by
   rw[(J6)];intro c T;obtain⟨j,Z⟩:=bG T;exact hf j c (by rw[g];exact(aB.mp Z).1) Z
  rw[e]at q;exact q
def ZP:Ad Fh Fh (AO N8):=Bk
def Yz(F:Fn K mg "is_term" N8 Fh f fd)(Im:Fn K mg "are_powers" LM Fh g1 gd1)(Df:Fn K mg "is_fraction" HM ["thing"] g2 gd2) (U2:AI P w K mg base Ag 2 g1 gd1 Fh lH)(Js:AI P w K mg base Ag 2 g2 gd2 ["thing"] We)(AX:mg "isinstance" = none)(BZ:mg "tuple" = none)(Bw:mg "len" = none):AI P w K mg base Ag 3 f fd Fh kL:=by
 have sc:=ZP;refine F.F.ok (k:=2) sc Do DP
 .obtain⟨l,d,v,n,rfl,_⟩:=h
  rfl
 obtain⟨l,d,v,n,rfl,hd,q⟩:=h;refine⟨_,(AM (CO (PW.pt (KN (Ee (ER (BM FY rfl AX af (AE Fa (AE (Fw (v:=.ty "tuple") rfl BZ bA rfl) AQ))))) (KN (Bn M7 (BM D7 rfl Bw bM (AE Fa AQ)) AU (Ay _)) (Jd (Ee (ER (A3 Im U2 hr rfl (AE (B1 Ce Fa AU Da) (AE Fy AQ)))))))))
  (AR (Aw Er))
  BX)
 (AR (Aw (Qn (A3 Df Js hr rfl (AE (B1 Ce Fa AU Da) AQ)) (RV (O1 M7 (B1 Ce (B1 Ce Fa AU Da) AU Da) AU (Ay _))))))),?_⟩
 refine⟨_,rfl,_,_,_,_,rfl,S6,hd.ty,NG K d hd.nodict,_,rfl,?_⟩;by_cases R:Dj d=false
 .rw[R];rw[eO R]at q;exact C8 (C8 q)
 have R:Dj d=true:=by simpa using R
 rw[R];refine M1 ?_;obtain⟨ds,rfl⟩:=V3 R;rw[Dt]at hd;obtain⟨a,xs,rfl,na,ha,g⟩:=hd;have Y:=g.len;have s1:Ax K H a xs:=Ax.of ha;refine⟨_,rfl,a,xs,rfl,.inr s1,rfl,_,rfl,Cm (fun c=>?_) (fun c=>?_)⟩
 .have:ds.length≠2:=by
   rw[<-Y];intro z;rw[z]at c;exact absurd c AS
  rw[dH this]at q;exact C8 q
 have h2:xs.length=2:=by
  by_cases z:xs.length=2
  .exact z
  .exfalso
   refine c ?_;have:¬(V.int (xs.length:Nat)=V.int 2):=by simp;lia
   rw[decide_eq_false this];rfl
 obtain⟨Z,d1,rfl⟩:∃Z d1,ds=[Z,d1]:=by
  match ds,(show ds.length=2 by lia) with
  |[x,y],_=>exact⟨x,y,rfl⟩
 rw[Aa]at g;obtain⟨x0,r,rfl,hx0,g⟩:=g;rw[Aa]at g;obtain⟨x1,r,rfl,M,g⟩:=g;rw[Aa]at g;subst g;rw[Ge]at q;refine⟨_,rfl,_,_,_,_,rfl,rfl,s1,rfl,_,rfl,l,Z,x0,n,rfl,hx0,_,rfl,Cm (fun c0=>?_) (fun c0=>?_)⟩
 .have:Gz n Z=false:=by simpa using c0
  rw[this,(LH)]at q;exact q
 have hp:Gz n Z=true:=by simpa using c0
 rw[hp,(JA)]at q;refine⟨_,rfl,_,_,_,_,rfl,rfl,s1,rfl,l,d1,x1,rfl,M,_,rfl,Cm (fun T=>?_) (fun T=>?_)⟩
 .rw[T,(JA)]at q;obtain⟨i,j,rfl⟩:∃i j,d1=.tuple [.int i,.int j]:=by
   unfold EX at T;split at T
   .exact⟨_,_,rfl⟩
   .cases T
  rw[Dt]at M;obtain⟨b,ys,rfl,nb,hb,I⟩:=M;rw[Aa]at I;obtain⟨y0,r,rfl,U,I⟩:=I;rw[Aa]at I;obtain⟨y1,r,rfl,hy1,I⟩:=I;rw[Aa]at I;subst I;rw[Dt]at U;subst U;refine⟨_,rfl,_,_,_,_,rfl,rfl,s1,rfl,_,_,_,_,rfl,rfl,Ax.of hb,rfl,rfl,?_⟩;rw[lh]at q;have e:decide (V.int i=V.int 0)=decide (i=0):=by rw[(OZ)];simp
  show Q (.bl (!decide (V.int i=V.int 0))) H;rw[e];exact q
 .rw[Bool.eq_false_iff.mpr T,(LH)]at q;exact q
def Yl:Ad ["thing","unknowns","k","term"] Fh (AO Ny):=Bk
def dY{l:AD}{H:Hp}{n:Int}{d:PD}{v:V}(h:Dt l H d v)(k:Gz n d=true):∃a,v=.ref a/\H a=some (.tup ((UL d).map V.int)):=by
 cases d with
 |tuple M=>
  rw[Gz,(Jr)]at k;rw[Dt]at h;obtain⟨a,xs,rfl,na,ha,g⟩:=h;refine⟨a,rfl,?_⟩;rw[ha]
  congr 2
  rw[UL];clear ha
  replace k:=k.2
  induction M generalizing xs with
  |nil=>rw[Aa]at g;subst g;rfl
  |cons d M R=>
   rw[Aa]at g;obtain⟨x,r,rfl,I,T⟩:=g;rw[List.all_cons,(Jr)]at k;rw[(BA),(BA),<-R r T k.2]
   congr 1
   cases d<;>first|(rw[Dt]at I;subst I;rfl)|(have:=k.1;simp[Hi]at this)
 |none=>simp[Gz]at k
 |bool _=>simp[Gz]at k
 |int _=>simp[Gz]at k
 |str _=>simp[Gz]at k
 |list _=>simp[Gz]at k
 |dict _=>simp[Gz]at k
def WQ{l:AD}{H:Hp}{n:Int}{d:PD}{v:V}(h:Dt l H d v)(k:Ge n d=true):∃a b c,v=.ref a/\H a=some (.tup [.ref b,c])/\H b=some (.tup ((Uq d).map V.int)):=by
 unfold Ge at k;split at k
 .rename_i p f;rw[(Jr)]at k;rw[Dt]at h;obtain⟨a,xs,rfl,na,ha,g⟩:=h;rw[Aa]at g;obtain⟨U,r,rfl,I,g⟩:=g;rw[Aa]at g;obtain⟨M,r,rfl,R,g⟩:=g;rw[Aa]at g;subst g;obtain⟨b,rfl,T⟩:=dY I k.1;exact⟨a,b,M,rfl,ha,T⟩
 .cases k
def Yt(F:Fn K mg "is_poly" Ny Fh f fd)(La:Fn K mg "is_term" N8 Fh g1 gd1) (Z2:AI P w K mg base Ag 3 g1 gd1 Fh kL)(AX:mg "isinstance" = none)(Ik:mg "list" = none)(BJ:mg "enumerate" = none):AI P w K mg base Ag 4 f fd Fh j4:=by
 have sc:=Yl;refine F.F.ok (k:=3) sc Do DP
 .obtain⟨l,d,v,n,rfl,_⟩:=h
  rfl
 obtain⟨l,d,v,n,rfl,hd,q⟩:=h;refine⟨_,(AM (CO (Ee (ER (BM FY rfl AX af (AE Fa (AE (Fw (v:=.ty "list") rfl Ik PyProof.Rows.boot_list rfl) AQ)))))
  (AR (Aw Er))
  BX)
 (AM (C0 aP rfl (WA rfl BJ (AE Fa AQ)) (Fj rfl (BN (Az (i:=2) sc.nd rfl AT) (BN (Az (i:=3) sc.nd rfl AT) EN)))
  (AR (CO (PW.pt (KN (Ee (ER (A3 La Z2 hr rfl (AE (pv 3) (AE Fy AQ))))) (Jd (PW.pt (dM (Bn UG (pv 2) AU (Ay _)) (XU (Bn (lB (by have:=hr.units;exact this)) (B1 Ce (pv 3) AU Da) (B1 Ce (B1 Kp Fa (Au Jc (pv 2) AU) Da) AU Da) (Ay _))))))))
   (AR (Aw Er))
   BX)))
 (AR (Aw Er)))),?_⟩
 refine⟨_,rfl,_,_,_,_,rfl,S6,hd.ty,P4 K d hd.nodict,_,rfl,?_⟩;by_cases Y:ED d=false
 .rw[Y];have:=q H (.refl H);rw[eL Y]at this;exact C8 this
 have Y:ED d=true:=by simpa using Y
 rw[Y];refine M1 ?_;obtain⟨g,rfl⟩:=QK Y;rw[Dt]at hd;obtain⟨a,xs,rfl,na,ha,ht⟩:=hd;have hlen:=ht.len;refine⟨_,rfl,a,rfl,⟨_,Aj.of ha⟩,Zh (xs:=xs) (fun i σ H'=>∃U T,σ=[some (.ref a),some (.int n),U,T]/\AJ H H'/\∀j,j<i->IU n g j=true) ?_ ?_ ?_ ?_⟩
 .exact⟨_,_,rfl,.refl _,fun j h=>absurd h (av _)⟩
 .rintro i σ H' _ ⟨U,T,rfl,e,_⟩;exact Aj.of (e _ _ ha)
 .rintro i x σ H0 hx ⟨U,T,rfl,e0,hf⟩ p hp;obtain⟨c,hc,tc⟩:=ht.get hx;have hi:i<g.length:=(aB.mp hc).1;have s1:=AZ hp (.tup [.int (i:Nat),x]);have I:=e0.trans s1;have Z:(upd H0 p (.tup [.int (i:Nat),x])) p=some (.tup [.int (i:Nat),x]):=AN;generalize upd H0 p (.tup [.int (i:Nat),x])=H1 at s1 I Z;have tc:=tc.same I;have no:IU n g i=false->Q (.bl false) H1:=fun z=>by
   have:=q H1 I;have e:FO n (.list g)=false:=aj.mpr fun y=>by
    rw[FO,(J6)]at y;rw[y i (List.mem_range.mpr hi)]at z;cases z
   rw[e]at this;exact this
  have next:IU n g i=true->∃U T,[some (V.ref a),some (V.int n),some (V.int (i:Nat)),some x]=[some (.ref a),some (.int n),U,T]/\AJ H H1/\∀j,j<i+1->IU n g j=true:=fun z=>by
   refine⟨_,_,rfl,I,fun j hj=>?_⟩;by_cases zz:j=i
   .subst zz;exact z
   .exact hf j AC
  have M:IU n g i=(Ge n c&&(decide (i=0)||(match g[i-1]? with
    |some e=>IT.lt (Uq c) (Uq e)
    |none=>true))):=by unfold IU;rw[hc];all_goals rfl
  refine⟨p,_,rfl,Ax.of Z,rfl,_,_,rfl,_,_,rfl,rfl,?_⟩;refine⟨_,rfl,_,rfl,l,c,x,n,rfl,tc,_,rfl,Cm (fun b=>?_) (fun b=>?_)⟩
  .have hb:Ge n c=false:=by simpa using b
   exact C8 (no (by rw[M,hb,(LH)]))
  have hb:Ge n c=true:=by simpa using b
  rw[hb,(JA)]at M;refine⟨_,rfl,_,_,rfl,rfl,_,rfl,Cm (fun b=>?_) (fun b=>?_)⟩
  .have hi0:0<i:=by have:=ah b;lia
   rw[decide_eq_false (show ¬i=0 by lia),Bool.false_or]at M;have R:xs[i-1]? = some (xs[i-1]' AC):=by simp[show i-1<xs.length by lia]
   obtain⟨e,he,te⟩:=ht.get R;have hpe:Ge n e=true:=by
    have:=hf (i-1) AC;unfold IU at this;rw[he]at this;rw[(Jr)]at this;exact this.1
   generalize xs[i-1]' AC=v1 at R te;obtain⟨a1,b1,c1,rfl,ha1,hb1⟩:=WQ (te.same I) hpe;obtain⟨a2,b2,c2,rfl,ha2,hb2⟩:=WQ tc hb;have hat:GJ xs ((i:Int)-1)=some (.ref a1):=by
    have:=Ew (xs:=xs) (j:=i-1) R
    rwa [show((i-1:Nat):Int)=(i:Int)-1 by lia]at this
   rw[he]at M;refine⟨_,rfl,_,_,_,_,rfl,rfl,Ax.of ha2,rfl,_,rfl,_,rfl,_,_,rfl,rfl,_,_,_,_,rfl,rfl,Aj.of (I _ _ ha),hat,_,_,_,_,rfl,rfl,Ax.of ha1,rfl,b2,b1,_,_,rfl,rfl,hb2,hb1,_,rfl,Cm (fun z=>?_) (fun z=>?_)⟩
   .exact no (by rw[M];simpa using z)
   .exact next (by rw[M];simpa using z)
  .have hi0:i=0:=by have:=bE (aj.mpr b);lia
   exact M1 (next (by rw[M,decide_eq_true hi0,Bool.true_or]))
 .rintro σ H' ⟨U,T,rfl,I,hf⟩;have:=q H' I;have e:FO n (.list g)=true:=by
   rw[FO,(J6)];intro j hj;exact hf j (by rw[hlen];exact List.mem_range.mp hj)
  rw[e]at this;exact this
def Vv:Ad ["thing","some"] ["thing"] (AO L7):=Bk
def Uz(F:Fn K mg "is_change" L7 ["thing"] f fd)(Lo:Fn K mg "is_poly" Ny Fh g1 gd1) (Zr:AI P w K mg base Ag 4 g1 gd1 Fh j4)(AX:mg "isinstance" = none)(Ik:mg "list" = none)(Bw:mg "len" = none):AI P w K mg base Ag 5 f fd ["thing"] oh:=by
 have sc:=Vv;refine F.F.ok (k:=4) sc Do DP
 .obtain⟨l,d,v,rfl,_⟩:=h
  rfl
 obtain⟨l,d,v,rfl,hd,q⟩:=h;refine⟨_,(AM (CO (PW.pt (KN (Ee (ER (BM FY rfl AX af (AE Fa (AE (Fw (v:=.ty "list") rfl Ik PyProof.Rows.boot_list rfl) AQ))))) (Jd (Bn Qg (BM D7 rfl Bw bM (AE Fa AQ)) AU (Ay _)))))
  (AR (Aw Er))
  BX)
 (AM (C0 aP rfl (B4 Fa) (Az (i:=1) sc.nd rfl AT)
  (AR (CO (Ee (ER (A3 Lo Zr hr rfl (AE Fy (AE (BM D7 rfl Bw bM (AE Fa AQ)) AQ)))))
   (AR (Aw Er))
   BX)))
 (AR (Aw Er)))),?_⟩
 refine⟨_,rfl,_,_,_,_,rfl,S6,hd.ty,P4 K d hd.nodict,_,rfl,?_⟩;by_cases M:ED d=false
 .rw[M];have:=q H (.refl H);rw[jW M]at this;exact C8 (C8 this)
 have M:ED d=true:=by simpa using M
 rw[M];refine M1 ?_;obtain⟨I,rfl⟩:=QK M;rw[Dt]at hd;obtain⟨a,xs,rfl,na,ha,ht⟩:=hd;have g:=ht.len;refine⟨_,rfl,a,xs,rfl,.inl (Aj.of ha),rfl,_,rfl,Cm (fun c=>?_) (fun c=>?_)⟩
 .have:I.length=0:=by rw[<-g];have:=ah c;simpa using this
  have q:=q H (.refl H);rw[Eh,decide_eq_true this,Bool.not_true,(LH)]at q;exact q
 have h0:¬I.length=0:=by
  rw[<-g];intro z;exact c (by simp[z])
 rw[Eh,decide_eq_false h0,Bool.not_false,(JA)]at q;refine⟨_,rfl,a,rfl,⟨_,Aj.of ha⟩,Em (xs:=xs) (fun i σ H'=>∃T,σ=[some (.ref a),T]/\AJ H H'/\∀j c,j<i->I[j]? = some c->FO I.length c=true) ?_ ?_ ?_ ?_⟩
 .exact⟨_,rfl,.refl _,fun j c h=>absurd h (av _)⟩
 .rintro i σ H' _ ⟨T,rfl,e,_⟩;exact Aj.of (e _ _ ha)
 .rintro i x σ H1 hx ⟨T,rfl,R,hf⟩;obtain⟨c,U,tc⟩:=ht.get hx;refine⟨_,rfl,_,rfl,a,xs,rfl,.inl (Aj.of (R _ _ ha)),l,c,x,_,rfl,tc.same R,fun H2 e2=>⟨_,rfl,Cm (fun b=>?_) (fun b=>?_)⟩⟩
  .have Y:FO I.length c=false:=by rw[<-g];simpa using b
   have:=q H2 (R.trans e2);have e:I.all (FO I.length)=false:=aj.mpr fun y=>by
    rw[(J6)]at y;rw[y c (aL U)]at Y;cases Y
   rw[e]at this;exact this
  .have Y:FO I.length c=true:=by rw[<-g];simpa using b
   refine⟨_,rfl,R.trans e2,fun j e Z he=>?_⟩;by_cases z:j=i
   .subst z;rw[U]at he;cases he;exact Y
   .exact hf j e AC he
 .rintro σ H' ⟨T,rfl,R,hf⟩;have e:I.all (FO I.length)=true:=by
   rw[(J6)];intro c U;obtain⟨j,Z⟩:=bG U;exact hf j c (by rw[g];exact(aB.mp Z).1) Z
  have:=q H' R;rw[e]at this;exact this
end
structure Le(uss:FB)(many:Nat):Prop where
 len:uss.length<=4
 HU:∀us∈uss,us.length<=12/\∀m∈us,FM.Fits m.2 3/\m.2.den<=6/\m.1.length=many/\(∀p∈m.1,(0:Int)<=p/\p<=3)/\0<=B0 m/\B0 m<=2
def Le.great{uss:FB}{many:Nat}(h:Le uss many):1<=CK uss/\CK uss<=2/\∀us∈uss,∀m∈us,(B0 m).toNat<=CK uss:=by
 obtain⟨a,b,c⟩:=Pu (c:=2) (uss:=uss) AS fun us g m hm=>((h.HU us g).2 m hm).2.2.2.2.2;unfold CK;refine⟨by lia,by lia,fun us g m hm=>?_⟩;have:=c us g m hm
 lia
def Le.d8{uss:FB}{many:Nat}(h:Le uss many):1<=Dz uss/\(Dz uss).natAbs<2^6:=by
 obtain⟨a,b⟩:=iA (bs:=Es uss) fun b g=>by
  unfold Es at g;obtain⟨l,M,g⟩:=List.mem_flatten.mp g;obtain⟨us,I,rfl⟩:=aI.mp M;obtain⟨m,hm,rfl⟩:=aI.mp g;have:=m.2.den_nz;have:=((h.HU us I).2 m hm).2.1;exact⟨by lia,by lia⟩
 exact⟨a,by show(FN (Es uss)).natAbs<_;lia⟩
abbrev A6(uss:FB):PD:=.list (uss.map AH)
def YD{α:Type}{hand:α->List PD}{ok:α->Prop}{tell:α->PD}{a:α}(h:ok a):∃b,hand a=hand b/\ok b/\LV hand ok tell (hand a)=some (tell b):=by
 have e:∃b,hand a=hand b/\ok b:=⟨a,rfl,h⟩;unfold LV;rw[dif_pos e];exact⟨_,(bW e).1,(bW e).2,rfl⟩
def Y9(a:List (List AW)×Tr×(Tr->List PD)):Prop:=kT Eo (Q6 3) (a.1.map AH) (fun t=>.list (a.2.2 t)) a.2.2/\a.2.1∈Eo/\∃(n:Nat) (V:FB),a.2.2 a.2.1=V.map AH/\∀us∈V,PB n 5 4000 56 us
noncomputable abbrev Xh:MD:=LV (fun a:List (List AW)×Tr×(Tr->List PD)=>[A6 a.1,tD a.2.1]) Y9 fun a=>.list (a.2.2 a.2.1)
def YT(a:List (List AW)×Tr×tJ×(Tr->List PD)×(Tr->List PD)):Prop:=ll Eo iJ Xm (a.1.map AH) (.list (AY (Eb a.2.2.1))) a.2.2.2.1 a.2.2.2.2/\a.2.1∈Eo/\∃rs:List Rat,a.2.2.2.2 a.2.1=AY rs
noncomputable abbrev ie:MD:=LV (fun a:List (List AW)×Tr×List Int×(Tr->List PD)×(Tr->List PD)=>[A6 a.1,tD a.2.1,.list (AY (Eb a.2.2.1))]) YT fun a=>.list (a.2.2.2.2 a.2.1)
def qJ{t:Tr}(h:t∈Eo):He (tD t)=some t/\t.deep<3:=by
 rcases K7 h with rfl|rfl|rfl|rfl|rfl<;>exact⟨by kernel_rfl,by decide⟩
def V9(a:List (List AW)×Int):Prop:=(∃many,Le a.1 many)/\a.2.natAbs<2^6
noncomputable abbrev Zu:MD:=LV (fun a:List (List AW)×Int=>[A6 a.1,.int a.2]) V9 fun a=>A6 (D8 a.2 a.1)
noncomputable abbrev a7:MD:=LV (fun a:List (List AW)×Int=>[A6 a.1,.int a.2]) V9 fun a=>.int (Ke a.1 a.2)
def dJ{a b:List (List AW)×Int}(h:[A6 a.1,.int a.2]=[A6 b.1,.int b.2]):a=b:=by
 obtain⟨a1,a2⟩:=a;obtain⟨b1,b2⟩:=b
 injection h with I g
 injection I with I
 injection g with g
 injection g with g
 have R:a1=b1:=map_inj (fun _ _=>WG) I;have M:a2=b2:=g;rw[R,M]
def ia{uss:FB}{G:Int}(h:V9 (uss,G)):Zu [A6 uss,.int G]=some (A6 (D8 G uss)):=N0 (hand:=fun a:List (List AW)×Int=>[A6 a.1,.int a.2]) (a:=(uss,G)) (fun b e=>dJ e) h
def oD{uss:FB}{G:Int}(h:V9 (uss,G)):a7 [A6 uss,.int G]=some (.int (Ke uss G)):=N0 (hand:=fun a:List (List AW)×Int=>[A6 a.1,.int a.2]) (a:=(uss,G)) (fun b e=>dJ e) h
def fq(rs:tQ):Prop:=rs.length<=3/\∀r∈rs,FM.Fits r 3
noncomputable abbrev kC:MD:=LV (fun rs:List Rat=>[.list (AY rs)]) fq fun rs=>.int (B3 rs)
def pC{rs:tQ}(h:fq rs):kC [.list (AY rs)]=some (.int (B3 rs)):=N0 (hand:=fun rs:List Rat=>[.list (AY rs)]) (fun b e=>Sj (by injection e with e;injection e)) h
theorem RS{G H H':Hp}:∀ {uss:FB} {xs:List V},Bm H' (uss.map AH) xs->(∀z∈xs,∃a,z=.ref a/\H a=none)->Aq (Iz G H H') (uss.map AH) xs
 |[],xs,h,_=>by
  have:=h.len;have e:xs=[]:=List.eq_nil_of_length_eq_zero (by simpa using this);rw[e];exact .nil
 |q::qs,xs,h,hn=>by
  obtain⟨x,r,rfl,h1,h2⟩:=Bm.iR (d:=AH q) (ds:=qs.map AH) h;obtain⟨a,ys,e,ha,dy⟩:=h1.Vp;obtain⟨b,e2,hb⟩:=hn x (.head _);rw[e]at e2;cases e2;subst e;refine .cons ?_ (RS h2 fun z hz=>hn z (.tail _ hz));unfold AH;rw[Du];exact⟨a,ys,rfl,WV ha hb,monos_newG dy⟩
where
 monos_newG {G H H':Hp}:∀ {us:List AW} {xs:List V},Bm H' (us.map Bv) xs->Aq (Iz G H H') (us.map Bv) xs
 |[],xs,h=>by
  have:=h.len;have e:xs=[]:=List.eq_nil_of_length_eq_zero (by simpa using this);rw[e];exact .nil
 |m::us,xs,h=>by
  obtain⟨x,r,rfl,h1,h2⟩:=Bm.iR (d:=Bv m) (ds:=us.map Bv) h;refine .cons ?_ (monos_newG h2);have d:=iW (G:=H') (t:=NK m) (v:=x) h1.du;obtain⟨c,P,F,rfl,k1,k2,k3⟩:=d;rw[jr];unfold GF;rw[Du];refine⟨c,_,rfl,MW k1,.cons ?_ (.cons ?_ .nil)⟩
  .rw[Du];exact⟨P,_,rfl,MW k2,Hg (NK m).1⟩
  .rw[Du];exact⟨F,_,rfl,MW k3,Hg [(NK m).2.1,(NK m).2.2]⟩
section
variable{P:F0b}{w:F0c}{K:Fg}{mg:tF}{base:Heap}{CX:GL}{k:Nat}{f:AD}{fd:F0a}{ps:tK}
def rZ(F:∀a,Y9 a->AI P w K mg base CX k f fd ps (dQ Eo (fun t=>.list (a.2.2 t)) (a.1.map AH) 3)):AI P w K mg base CX k f fd ps (WN Xh) :=
 (XF (ι:={a // Y9 a}) fun i=>F i.1 i.2).imp fun vs H Q E ⟨ds,x,G,d,us,hv,hm,du,e,hd,hG,I⟩=>by
  unfold Xh LV at hm;split at hm
  .rename_i M;cases hm;have c:=bW M;generalize Classical.choose M=a at c I;refine⟨⟨a,c.2⟩,?_⟩;rw[c.1]at du;obtain⟨T,R,rfl,d1,d2⟩:=du.Ln;obtain⟨t1,Y⟩:=qJ c.2.2.1;exact⟨T,R,a.2.1,d,[],G,hv,d1,UN t1 d2,c.2.2.1,Y,⟨hd,List.nodup_nil,fun q hq=>(nomatch hq),hG,e⟩,fun g H' r' U s n b Z dv=>I U g H' s n Z.sm b dv⟩
  .cases hm
def rY(F:∀a,YT a->AI P w K mg base CX k f fd ps (lU Eo a.2.2.2.1 a.2.2.2.2 (a.1.map AH) (.list (AY (Eb a.2.2.1))) 3)):AI P w K mg base CX k f fd ps (WN ie) :=
 (XF (ι:={a // YT a}) fun i=>F i.1 i.2).imp fun vs H Q E ⟨ds,x,G,d,us,hv,hm,du,e,hd,hG,I⟩=>by
  unfold ie LV at hm;split at hm
  .rename_i M;cases hm;have c:=bW M;generalize Classical.choose M=a at c I;refine⟨⟨a,c.2⟩,?_⟩;rw[c.1]at du;obtain⟨U,r1,rfl,d1,du⟩:=du.un;obtain⟨T,R,rfl,d2,d3⟩:=du.Ln;obtain⟨t1,Z⟩:=qJ c.2.2.1;exact⟨U,T,R,a.2.1,d,[],G,hv,d1,UN t1 d2,d3,c.2.2.1,Z,⟨hd,List.nodup_nil,fun q hq=>(nomatch hq),hG,e⟩,fun g H' r' Y s n b me dv=>I Y g H' s n me.sm b dv⟩
  .cases hm
def Zx{H:Hp}{C:AD}{cs:tR}{uss:FB}{many:Nat}(o:Le uss many)(I:H C=some (.lst cs))(M:Bm H (uss.map AH) cs):Pd H C cs uss 4/\∀us∈uss,∀m∈us,0<=B0 m/\B0 m<=3 :=
 ⟨⟨I,M,o.len,fun us g=>⟨(o.HU us g).1,fun m hm=>((o.HU us g).2 m hm).1.mono⟩⟩,fun us g m hm=>by
  obtain⟨_,_,_,_,a,b⟩:=(o.HU us g).2 m hm;exact⟨a,by lia⟩⟩
def rB(F:AI P w K mg base CX k f fd ps ml):AI P w K mg base CX k f fd ps (BI Zu):=Wi F fun a ⟨⟨many,o⟩,Z⟩ G H vs Q E d e Y=>by
 obtain⟨v1,v2,rfl,d1,M⟩:=d.Ln;rw[Du]at M;subst M;obtain⟨C,cs,rfl,hC,dc⟩:=(M6 (GZ (Ht _)) (d1.same e)).Vp;obtain⟨c1,c2⟩:=Zx o hC dc;refine⟨C,cs,a.1,a.2,6,rfl,c1,c2,Z,by decide,fun D H' R I hD g dz T=>?_⟩;obtain⟨n1,U,n3⟩:=YI e I;refine Y (.ref D) _ H' n1 U n3 I ?_;rw[Du];exact⟨D,R,rfl,WV g hD,RS dz T⟩
def qr(F:AI P w K mg base CX k f fd ps cT):AI P w K mg base CX k f fd ps (BI a7):=Wi F fun a ⟨⟨many,o⟩,R⟩ G H vs Q E d e M=>by
 obtain⟨v1,v2,rfl,Y,I⟩:=d.Ln;rw[Du]at I;subst I;obtain⟨C,cs,rfl,T,U⟩:=(M6 (GZ (Ht _)) (Y.same e)).Vp;obtain⟨c1,Z⟩:=Zx o T U;exact⟨C,cs,a.1,a.2,6,rfl,c1,Z,R,by decide,fun H' g=>M _ G H' (.refl _) Nw.refl (e.trans g) g (by rw[Du])⟩
def rN(F:AI P w K mg base CX k f fd ps Xw):AI P w K mg base CX k f fd ps (BI kC):=Wi F fun rs o G H vs Q E d e I=>by
 obtain⟨T,rfl,R⟩:=d.Lv;obtain⟨A,xs,rfl,M,dx⟩:=(M6 (GZ (Lb _)) (R.same e)).Vp;exact⟨A,xs,rs,3,rfl,M,dx,by have:=o.1;lia,o.2,by have:=o.1;lia,fun H' g=>I _ G H' (.refl _) Nw.refl (e.trans g) g (by rw[Du])⟩
def d7(ds:sx):tG:=match ds with
 |[.int b,.int p]=>if b.natAbs<2^20/\0<=p/\p<=10 then some (.int (b^p.toNat)) else none
 |_=>none
def qW(F:AI P w K mg base CX k f fd ps Q8):AI P w K mg base CX k f fd ps (BI d7) :=
 Rl F fun Y x hm G H vs Q E d e M=>by
  unfold d7 at hm;split at hm
  .split at hm
   .rename_i R;cases hm;obtain⟨U,T,rfl,I,g⟩:=d.Ln;rw[Du]at I g;subst I g;rename_i b p;refine⟨b,p.toNat,20,?_,R.1,by lia,M _ G H (.refl _) Nw.refl e (.refl _) (by rw[Du])⟩;rw[show((p.toNat:Nat):Int)=p by lia]
   .cases hm
  .cases hm
end
def Qe{α:Type}{ix:Nat}{f:sr}{fs:sq}{fr:tW}{δ:Dv}{zs:List α}{a g:α->PD}(M:fs δ=some (zs.map a))(R:zs.length<=DH)(h:∀z∈zs,f ((Bu fr δ).set ix (.d (a z)))=some (g z)):Cz (Gu ix) IG f fr fs δ=some (zs.map g):=by
 rw[Sw (g:=fun x=>(f ((Bu fr δ).set ix (.d x))).getD .none) M (by rw[(Af)];exact R) fun x M=>?_,(CZ)]
 .exact ai some (az fun z I=>by show(f _).getD _=_;rw[h z I];rfl)
 .obtain⟨z,I,rfl⟩:=aI.mp M;rw[h z I];rfl
def WL{ix:Nat}{f:sr}{fs:sq}{fr:tW}{δ:Dv}{xs:sx}(I:fs δ=some xs)(R:xs.length<=DH)(h:∀x∈xs,∃y,f ((Bu fr δ).set ix (.d x))=some y):∃ys,Cz (Gu ix) IG f fr fs δ=some ys :=
 ⟨_,Sw (g:=fun x=>(f ((Bu fr δ).set ix (.d x))).getD .none) I R fun x I=>by
  obtain⟨y,M⟩:=h x I;rw[M];rfl⟩
def sS{t:Tr}(h:t∈Eo):∃k:Nat,k<=4/\Ao 4 [tD t]=some (.int (k:Nat)):=by
 rcases K7 h with rfl|rfl|rfl|rfl|rfl
 .exact⟨1,by decide,by kernel_rfl⟩
 .exact⟨2,by decide,by kernel_rfl⟩
 .exact⟨3,by decide,by kernel_rfl⟩
 .exact⟨3,by decide,by kernel_rfl⟩
 .exact⟨4,by decide,by kernel_rfl⟩
structure Gd(uss:FB)(rs:List Rat)(n:Nat):Prop where
 chg:Le uss n
 n1:1<=n
 n3:n<=3
 ul:uss.length=n
 rl:rs.length=n
 rf:∀r∈rs,FM.Fits r 3/\r.den<=6
 good:Eh (A6 uss)=true
def lI{G:Int}{a b:Nat}(h:G.natAbs<2^a)(ha:1<=a):∀ {p:Nat},p<=b->(G^p).natAbs<2^(a*b+1):=fun {p} g=>by
 rw[Int.natAbs_pow];refine aQ (Nat.pow_le_pow_left (Nat.le_of_lt h) p) ?_;rw[<-Nat.pow_mul];exact Nat.pow_lt_pow_right AS (Nat.lt_succ_of_le (aR a g))
section
variable{uss:FB}{rs:tQ}{n:Nat}(g:Gd uss rs n)
include g
theorem Gd.whole{G:Int}(hG:G.natAbs<2^6):(D8 G uss).length=n/\∀us∈D8 G uss,PB n 2 22 12 us:=by
 obtain⟨b1,b2⟩:=g.chg.d8;obtain⟨g1,g2,g3⟩:=g.chg.great;refine⟨by unfold D8;rw[(Af)];exact g.ul,fun us R=>?_⟩;unfold D8 at R;obtain⟨vs,Y,rfl⟩:=aI.mp R;obtain⟨I,Z⟩:=g.chg.HU vs Y;refine⟨fun m hm=>?_,by unfold Ia;rw[(Af)];exact I⟩;unfold Ia at hm;obtain⟨m,M,rfl⟩:=aI.mp hm;obtain⟨c1,c2,c3,c4,c5,c6⟩:=Z m M;refine⟨⟨c3,fun p hp=>(c4 p hp).1,?_⟩,Rat.den_intCast _,?_⟩
 .show m.1.sum<=2;exact c6
 .show((((m.2.num*(Dz uss).fdiv (m.2.den:Int)*G^(CK uss-(B0 m).toNat):Int):Rat)).num).natAbs<_;rw[Rat.num_intCast];have U:((Dz uss).fdiv (m.2.den:Int)).natAbs<2^6:=aQ (FM.F7 _ _) b2;have T:(G^(CK uss-(B0 m).toNat)).natAbs<2^(6*2+1):=lI hG AS AC;exact FM.EL (FM.Dl (FM.Dl c1.1 U) T) AS
theorem Gd.qq{G:Int}(h1:1<=G)(M:G.natAbs<2^6):1<=Ke uss G/\(Ke uss G).natAbs<2^13:=by
 obtain⟨b1,b2⟩:=g.chg.d8;obtain⟨U,T,R⟩:=g.chg.great;have I:0<G^(CK uss-1):=Int.pow_pos AC;refine⟨?_,?_⟩
 .have:0<Dz uss*G^(CK uss-1):=Int.mul_pos AC I;exact this
 .exact FM.Dl b2 (lI (b:=1) M AS (p:=CK uss-1) AC)
theorem Gd.pG:1<=B3 rs/\(B3 rs).natAbs<2^6:=by
 obtain⟨a,b⟩:=iA (bs:=rs.map fun r=>(r.den:Int)) fun b M=>by
  obtain⟨r,I,rfl⟩:=aI.mp M;have:=r.den_nz;have:=(g.rf r I).2;exact⟨by lia,by lia⟩
 exact⟨a,by show(FN _).natAbs<_;lia⟩
theorem Gd.wc{G:Int}(I:G.natAbs<2^6):V9 (uss,G):=⟨⟨n,g.chg⟩,I⟩
theorem Gd.pow{t:Tr}(U:t∈Eo){G:Int}(h1:1<=G)(T:G.natAbs<2^6){fc ft fg:sr}{δ:Dv}(hc:fc δ=some (A6 uss))(Z:fg δ=some (.int G))(I:ft δ=some (tD t)):∃b:Int,1<=b/\b.natAbs<2^60/\Ae d7 (AB (Ae a7 (AB fc (AB fg AL))) (AB (Ae (Ao 4) (AB ft AL)) AL)) δ=some (.int b):=by
 obtain⟨k,Y,M⟩:=sS U;obtain⟨p1,R⟩:=g.qq h1 T;have hp:0<Ke uss G^k:=Int.pow_pos AC;refine⟨Ke uss G^k,by lia,Nat.lt_of_lt_of_le (lI R AS Y) (aS AS AS),?_⟩;refine Ac (xs:=[.int (Ke uss G),.int (k:Nat)]) (Ab (Ac (xs:=[A6 uss,.int G]) (Ab hc (Ab Z rfl)) (oD (g.wc T))) (Ab (Ac (xs:=[tD t]) (Ab I rfl) M) rfl)) ?_;show(if(Ke uss G).natAbs<2^20/\0<=((k:Nat):Int)/\((k:Nat):Int)<=10 then _ else _)=_;rw[if_pos ⟨aH R AS,by lia,by lia⟩,(N3)]
end
def Xf(x y:Int):F3 true (.int x) (.int y)=some (.bool (!decide (x=y))):=by
 have h:SeqAt.shaped (.int x)=true/\SeqAt.shaped (.int y)=true:=⟨(Ok.int (n:=0)).shaped AS,(Ok.int (n:=0)).shaped AS⟩;refine(if_pos h).trans ?_;simp[PyData.eqv];exact Bool.eq_iff_iff.mpr BY
def gb(s:PD)(n:Nat):Bool:=match s with
 |.list ss=>decide (ss.length=n)
 |_=>false
def D5(s:PD)(n:Nat):Bool:=Cg s&&gb s n
def OM{C:AD}{c:PD}(g:c.canLay0=true)(h:Eh c=true):An (mB Eh) C [c]=some (.inl .none):=by
 refine R9 (δ:=[.d c]) rfl ?_;unfold GV;exact Y2 (JJ (JD (Ac (xs:=[c]) rfl (Uo g h)))) rfl
def cA{C:AD}{c:PD}(g:c.canLay0=true)(h:Eh c=false):An (mB Eh) C [c]=some (.inr C):=by
 refine Fv rfl ?_;unfold GV;exact UA (JJ (JD (Ac (xs:=[c]) rfl (Uo g h)))) rfl
def gf{C:AD}:Bb C []=some (.inr C):=by
 refine Fv rfl ?_;unfold MX;exact rfl
def ni{C:AD}{s:PD}{n:Nat}(M:s.canLay0=true)(h:D5 s n=true):BL (mB Cg) (Bb C) [s,.int (n:Nat)]=some (.inl .none):=by
 unfold D5 at h;rw[(Jr)]at h;obtain⟨R,g⟩:=h;unfold gb at g;split at g
 .rename_i ss;have I:=ah g;refine R9 (δ:=[.d (.list ss),.d (.int (n:Nat))]) rfl ?_;unfold Ep;refine(Y2 (RJ (JJ (JD (Ac (xs:=[.list ss]) rfl (Uo M R)))) (Cb (x:=.int (ss.length:Nat)) (y:=.int (n:Nat)) rfl rfl ?_)) rfl);rw[Xf,I];simp
 .cases g
def mf{C:AD}{s:PD}{n:Nat}(I:s.canLay0=true)(h:D5 s n=false):BL (mB Cg) (Bb C) [s,.int (n:Nat)]=some (.inr C):=by
 unfold D5 at h;cases g:Cg s with
 |false=>
  refine Fv rfl ?_;unfold Ep;exact(UA (p7 (JJ (JD (Ac (xs:=[s]) rfl (Uo I g))))) (Hh (ds:=[]) rfl gf))
 |true=>
  rw[g,(JA)]at h;cases s with
  |list ss=>
   have R:¬ss.length=n:=bE h;refine Fv rfl ?_;unfold Ep;refine(UA (RJ (JJ (JD (Ac (xs:=[.list ss]) rfl (Uo I g)))) (Cb (x:=.int (ss.length:Nat)) (y:=.int (n:Nat)) rfl rfl ?_)) (Hh (ds:=[]) rfl gf));rw[Xf,decide_eq_false AC];rfl
  |none=>simp[Cg]at g
  |bool _=>simp[Cg]at g
  |int _=>simp[Cg]at g
  |str _=>simp[Cg]at g
  |tuple _=>simp[Cg]at g
  |dict _=>simp[Cg]at g
def bw{q:PD->Bool}{ds:sx}{e:PD}(h:e∈ds)(k:q e=false):ds.all q=false:=aj.mpr fun z=>by
 rw[(J6)]at z;rw[z e h]at k;cases k
def pK{ds:sx}{e:PD}{n:Nat}(h:e∈ds)(k:EX e=false):D5 (.list ds) n=false:=by
 unfold D5;rw[show Cg (.list ds)=false from bw h k,(LH)]
def cP{ds:sx}{n:Nat}(h:ds.length≠n):D5 (.list ds) n=false:=by
 unfold D5;rw[show gb (.list ds) n=false from au h,Bool.and_false]
def kO{ds:sx}{e:PD}(h:e∈ds)(k:FO ds.length e=false):Eh (.list ds)=false:=by
 rw[Eh,bw h k,Bool.and_false]
def Jw(rs:tQ)(G:Int):tJ:=rs.map fun r=>r.num*(G / (r.den:Int))
section
variable{uss:FB}{rs:tQ}{n:Nat}(g:Gd uss rs n)
include g
theorem Gd.rL(G:Int):Bz [.list (AY rs),.int G]=some (.list ((Jw rs G).map .int)):=by
 refine Mf rfl ?_;unfold PK;have:=Qe (ix:=1) (δ:=[.d (.list (AY rs)),.d (.int G)]) (fs:=GD (nm 0)) (fr:=[none,none,some 1]) (f:=(Ap Dw (Ap DQ (nm 1) (fC (.int 0))) (Ap Za (nm 2) (Ap DQ (nm 1) (fC (.int 1)))))) (zs:=rs) (a:=BG) (g:=fun r=>.int (r.num*(G / (r.den:Int)))) rfl (by have:=g.rl;have:=g.n3;show rs.length<=1000;lia) (fun r R=>?_)
 .exact(ai (Option.map Ou.rn) this).trans (by unfold Jw;rw[Option.map_some,(CZ)];rfl)
 .obtain⟨f1,f2⟩:=g.rf r R;have hd:=r.den_nz;have M:((r.den:Nat):Int).natAbs<=6:=by lia
  have I:((r.den:Nat):Int).natAbs<2^64:=aQ M AS;exact A4 (x:=.int r.num) (y:=.int (G / (r.den:Int))) rfl (A4 (x:=.int G) (y:=.int (r.den:Int)) rfl rfl (div_is AC I)) (Yn (aH f1.1 AS))
theorem Gd.start(G:Int):CA Bz [.list (AY rs),.int G]=some (.list (AY (Eb (Jw rs G)))):=by
 refine Mf rfl ?_;unfold NM;have:=Qe (ix:=1) (δ:=[.d (.list (AY rs)),.d (.int G)]) (fs:=GD (Ae Bz (AB (nm 0) (AB (nm 1) AL)))) (fr:=[none,none]) (f:=(BW (AB (nm 1) (AB (fC (.int 1)) AL)))) (zs:=Jw rs G) (a:=.int) (g:=fun t=>BG (t:Rat)) ?_ (by have:=g.rl;have:=g.n3;unfold Jw;rw[(Af)];show rs.length<=1000;lia) (fun t M=>?_)
 .exact(ai (Option.map Ou.rn) this).trans (by unfold Eb AY;rw[Option.map_some,(CZ)];rfl)
 .show(Ae Bz _ _).bind _=_;rw[Ac (xs:=[.list (AY rs),.int G]) rfl (g.rL G)];rfl
 .exact Gj (xs:=[.int t,.int 1]) (Ab rfl (Ab rfl rfl)) (show 2<=1000 by decide)
theorem Gd.sP{G:Int}(h1:1<=G)(R:G.natAbs<2^6):∀t∈Jw rs G,t.natAbs<2^9:=fun t I=>by
 unfold Jw at I;obtain⟨r,M,rfl⟩:=aI.mp I;obtain⟨f1,f2⟩:=g.rf r M;have k:(G / (r.den:Int)).natAbs<2^6:=by
  have a:=Int.ediv_nonneg (show 0<=G by lia) (show 0<=(r.den:Int) by lia);have b:=Int.ediv_le_self (r.den:Int) (show 0<=G by lia)
  lia
 exact FM.Dl f1.1 k
end
abbrev p8:List PD->Option Xr:=An (mB Eh) 61
abbrev iK:List PD->Option Xr:=A0 (BV 4) 49
abbrev sf:List PD->Option Xr:=BL (mB Cg) (Bb 73)
noncomputable abbrev qG:List PD->Option Xr:=CB Xh (Ao 4) a7 X6 d7 p8 iK Zu
noncomputable abbrev p9:List PD->Option Xr:=Dx ie Xe kC (Ao 4) a7 d7 p8 sf iK Zu (CA Bz)
def Yb{t:PD}(h:BV 4 [t]=some (.bool true)):iK [t]=some (.inl .none):=by
 refine R9 (δ:=[.d t]) rfl ?_;unfold Hf;exact Y2 (JJ (JD (Ac (xs:=[t]) rfl h))) rfl
def gn{t:PD}(h:BV 4 [t]=some (.bool false)):iK [t]=some (.inr 49):=by
 refine Fv rfl ?_;unfold Hf;exact UA (JJ (JD (Ac (xs:=[t]) rfl h))) rfl
def lR{t:Tr}(h:t∈Eo):BV 4 [tD t]=some (.bool true):=by
 rcases K7 h with rfl|rfl|rfl|rfl|rfl<;>kernel_rfl
def cb{d:DF}{δ:Dv}{xs:sx}(h:d δ=some (.rn xs)):iY d δ=some (.inl (.rn xs)):=by
 show(d δ).map Sum.inl=_;rw[h];rfl
section
variable{uss:FB}{rs:tQ}{n:Nat}(g:Gd uss rs n)
include g
theorem Gd.bc{t:Tr}(M:t∈Eo):∃x,qG [A6 uss,tD t]=some (.inl x):=by
 obtain⟨b,b1,b2,hb⟩:=g.pow (G:=1) M AS AS (fc:=nm 0) (ft:=nm 1) (fg:=fC (.int 1)) (δ:=[.d (A6 uss),.d (tD t),.no]) rfl rfl rfl;obtain⟨wl,wp⟩:=g.whole (G:=1) AS;obtain⟨BT,BO,hV⟩:=jv g.n1 g.n3 wl wp AS;obtain⟨V,e1,e2⟩:=hV t M;obtain⟨⟨U',t',BT'⟩,hh,ok,hm⟩:=YD (hand:=fun a:List (List AW)×Tr×(Tr->List PD)=>[A6 a.1,tD a.2.1]) (ok:=Y9) (tell:=fun a=>.list (a.2.2 a.2.1)) (a:=(D8 1 uss,t,BT)) ⟨BO,M,n,V,e1,e2⟩;obtain⟨BO',U,n',R,k1,k2⟩:=ok;have Y:Xh [A6 (D8 1 uss),tD t]=some (.list (R.map AH)):=hm.trans (ai (fun l=>some (PyData.list l)) k1);have I:(R.map AH).length<=1000:=by
  have e:U'.map AH=(D8 1 uss).map AH:=by
   injection hh with Z _
   injection Z with Z
   exact Z.symm
  have:=g.n3;have k3:(R.map AH).length=(U'.map AH).length:=(ai List.length k1).symm.trans (BO'.len t' U);rw[k3,e,(Af),wl]
  lia
 obtain⟨ys,T⟩:=WL (ix:=1) (δ:=[.d (A6 uss),.d (tD t),.d (.tuple [.int 1,.int b])]) (fs:=GD (Ae Xh (AB (Ae Zu (AB (nm 0) (AB (fC (.int 1)) AL))) (AB (nm 1) AL)))) (fr:=[none,none,some 2]) (f:=(Ae X6 (AB (nm 1) (AB (nm 2) AL)))) (xs:=R.map AH) (by
   show(Ae Xh _ _).bind _=_;rw[Ac (xs:=[A6 (D8 1 uss),tD t]) (Ab (Ac (xs:=[A6 uss,.int 1]) rfl (ia (g.wc AS))) (Ab rfl rfl)) Y];rfl) I (fun x hx=>by
   obtain⟨us,hu,rfl⟩:=aI.mp hx;obtain⟨y,hy⟩:=YS (k2 us hu) AS AS AS (show b≠0 by lia) (aH b2 (aS AS AS));exact⟨y,Ac (xs:=[AH us,.tuple [.int 1,.int b]]) rfl hy⟩)
 refine⟨.list ys,YC rfl ?_⟩;unfold HH;refine Gq (Fb (ds:=[A6 uss]) rfl (OM (GZ (Ht _)) g.good)) (Gq (Fb (ds:=[tD t]) rfl (Yb (lR M))) (cb (Av (Ck (Gj (xs:=[.int 1,.int b]) (Ab rfl (Ab hb rfl)) (show 2<=1000 by decide))) ?_)));exact ai (Option.map Ou.rn) T
end
section
variable{uss:FB}{rs:tQ}{n:Nat}(g:Gd uss rs n)
include g
theorem Gd.sT:D5 (.list (AY rs)) (uss.map AH).length=true:=by
 unfold D5;rw[show Cg (.list (AY rs))=true from List.all_eq_true.mpr fun d hd=>by
  unfold AY at hd;obtain⟨r,_,rfl⟩:=aI.mp hd;exact cu r,(JA)]
 show decide ((AY rs).length=_)=true;have e:(AY rs).length=rs.length:=by unfold AY;rw[(Af)]
 rw[e,(Af),g.ul,g.rl];exact bL rfl
theorem Gd.ba{t:Tr}(T:t∈Eo):∃x,p9 [A6 uss,tD t,.list (AY rs)]=some (.inl x):=by
 obtain⟨G1,M⟩:=g.pG;have Z:fq rs:=⟨by rw[g.rl];exact g.n3,fun r hr=>(g.rf r hr).1⟩;obtain⟨b,b1,b2,hb⟩:=g.pow (G:=B3 rs) T G1 M (fc:=nm 0) (ft:=nm 1) (fg:=nm 3) (δ:=[.d (A6 uss),.d (tD t),.d (.list (AY rs)),.d (.int (B3 rs)),.no,.no]) rfl rfl rfl;obtain⟨wl,wp⟩:=g.whole (G:=B3 rs) M;have tl:(Jw rs (B3 rs)).length=n:=by unfold Jw;rw[(Af)];exact g.rl
 obtain⟨PT,WT,WO,hV⟩:=dB (K:=22) (tb:=9) g.n1 g.n3 wl wp AS AS tl (g.sP G1 M);obtain⟨vs,e1⟩:=hV t T;obtain⟨⟨U',t',ts',PT',WT'⟩,hh,ok,hm⟩:=YD (hand:=fun a:List (List AW)×Tr×List Int×(Tr->List PD)×(Tr->List PD)=>[A6 a.1,tD a.2.1,.list (AY (Eb a.2.2.1))]) (ok:=YT) (tell:=fun a=>.list (a.2.2.2.2 a.2.1)) (a:=(D8 (B3 rs) uss,t,Jw rs (B3 rs),PT,WT)) ⟨WO,T,vs,e1⟩;obtain⟨WO',Y,I,k1⟩:=ok;have hbe:ie [A6 (D8 (B3 rs) uss),tD t,.list (AY (Eb (Jw rs (B3 rs))))]=some (.list (AY I)):=hm.trans (ai (fun l=>some (PyData.list l)) k1);have R:(AY I).length<=1000:=by
  have e:U'.map AH=(D8 (B3 rs) uss).map AH:=by
   injection hh with h1 _
   injection h1 with h1
   exact h1.symm
  have:=g.n3;have k3:(AY I).length=(U'.map AH).length:=(ai List.length k1).symm.trans (WO'.mh t' Y);rw[k3,e,(Af),wl]
  lia
 have bb:(B3 rs*b)≠0:=Int.mul_ne_zero AC AC;have bn:(B3 rs*b).natAbs<2^400:=aH (FM.Dl M b2) (aS AS AS);obtain⟨ys,U⟩:=WL (ix:=1) (δ:=[.d (A6 uss),.d (tD t),.d (.list (AY rs)),.d (.int (B3 rs)),.d (.int (B3 rs*b)),.d (.list (AY I))]) (fs:=GD (nm 5)) (fr:=[none,none,some 4]) (f:=(Ae Xe (AB (Ap DQ (nm 1) (fC (.int 0))) (AB (nm 2) AL)))) (xs:=AY I) rfl R (fun x hx=>by
   unfold AY at hx;obtain⟨r,hr,rfl⟩:=aI.mp hx;exact⟨_,Ac (xs:=[.int r.num,.int (B3 rs*b)]) rfl (if_pos ⟨bb,bn⟩)⟩)
 refine⟨.list ys,YC rfl ?_⟩;unfold JY;refine Gq (Fb (ds:=[A6 uss]) rfl (OM (GZ (Ht _)) g.good)) (Gq (Fb (ds:=[tD t]) rfl (Yb (lR T))) (Gq (Fb (ds:=[.list (AY rs),.int ((uss.map AH).length:Nat)]) rfl (ni (GZ (Lb _)) g.sT)) (cb ?_)));refine Av (Ck (Ac (xs:=[.list (AY rs)]) rfl (pC Z))) ?_;refine Av (Ck (A4 (x:=.int (B3 rs)) (y:=.int b) rfl hb (Yn (aH M AS)))) ?_;refine Av (Ck (Ac (xs:=[A6 (D8 (B3 rs) uss),tD t,.list (AY (Eb (Jw rs (B3 rs))))]) (Ab (Ac (xs:=[A6 uss,.int (B3 rs)]) rfl (ia (g.wc M))) (Ab rfl (Ab (Ac (xs:=[.list (AY rs),.int (B3 rs)]) rfl (g.start _)) rfl))) hbe)) ?_;exact ai (Option.map Ou.rn) U
end
def Lw(c:Nat):AD->Option Bool:=fun(C:Nat)=>if C=49 then some (decide (49=c)) else if C=61 then some (decide (61=c)) else if C=73 then some (decide (73=c)) else none
def mE:AD->Option Bool:=fun(C:Nat)=>if C=49\/C=61\/C=73 then some true else none
def HN{K:Fg}{c:Nat}{g:V}(R:CM K 49)(M:CM K 61)(I:CM K 73)(k1:PySem.W.kitOne K (.ref 49) (CT g)=some (decide (49=c)))(k2:PySem.W.kitOne K (.ref 61) (CT g)=some (decide (61=c)))(k3:PySem.W.kitOne K (.ref 73) (CT g)=some (decide (73=c))):∀C z,Lw c C=some z->CM K C/\PySem.W.kitOne K (.ref C) (CT g)=some z:=fun C z h=>by
 unfold Lw at h;split at h
 .rename_i e;cases e;cases h;exact⟨R,k1⟩
 split at h
 .rename_i e;cases e;cases h;exact⟨M,k2⟩
 split at h
 .rename_i e;cases e;cases h;exact⟨I,k3⟩
 cases h
def oj{K:Fg}{g:V}(R:CM K 49)(M:CM K 61)(I:CM K 73)(k1:PySem.W.kitOne K (.ref 49) (CT g)=some true)(k2:PySem.W.kitOne K (.ref 61) (CT g)=some true)(k3:PySem.W.kitOne K (.ref 73) (CT g)=some true):∀C z,mE C=some z->CM K C/\PySem.W.kitOne K (.ref C) (CT g)=some z:=fun C z h=>by
 unfold mE at h;split at h
 .rename_i e;cases h;rcases e with e|e|e<;>cases e
  .exact⟨R,k1⟩
  .exact⟨M,k2⟩
  .exact⟨I,k3⟩
 .cases h
abbrev Hu:MD:=BC (Lw 37) (Lw 61) (Lw 169) (Lw 97) (Lw 133) (Lw 73) (Lw 85) (Lw 157) (Lw 49) (Lw 109) (Lw 121) (Lw 145) mE
abbrev word(x:String):PD:=.list [.str (Str.ofString x)]
def S0:Hu [JN 49]=some (word "tree"):=by kernel_rfl
def Ta:Hu [JN 61]=some (word "change"):=by kernel_rfl
def bx:Hu [JN 73]=some (word "start"):=by kernel_rfl
def Ua:Hu [.none]=some (.list []):=by kernel_rfl
abbrev refs:List AD:=[49,61,73]
noncomputable abbrev oC:List PD->Option Xr:=only refs qG
noncomputable abbrev oA:List PD->Option Xr:=only refs p9
noncomputable abbrev X1:MD:=CJ Hu oC
noncomputable abbrev VC:MD:=BS Hu oA
section
variable{c t s x y:PD}{cs:sx}{C:AD}
def gz(h:oC [c,t]=some (.inr C))(k:Hu [JN C]=some x):X1 [c,t]=some x:=by
 refine DN rfl ?_;unfold LQ;exact Av rfl (Av (XO (ds:=[c,t]) rfl h) (E6 (Ac (xs:=[JN C]) rfl k)))
def oH(h:oC [c,t]=some (.inl y)):X1 [c,t]=some (.list []):=by
 refine DN rfl ?_;unfold LQ;exact Av rfl (Av (XQ (ds:=[c,t]) rfl h) (E6 (Ac (xs:=[.none]) rfl Ua)))
def Yi(h:oA [c,t,s]=some (.inr C))(k:Hu [JN C]=some x):VC [c,t,s]=some x:=by
 refine DN rfl ?_;unfold IB;exact Av rfl (Av (XO (ds:=[c,t,s]) rfl h) (E6 (Ac (xs:=[JN C]) rfl k)))
def oJ(h:oA [c,t,s]=some (.inl y)):VC [c,t,s]=some (.list []):=by
 refine DN rfl ?_;unfold IB;exact Av rfl (Av (XQ (ds:=[c,t,s]) rfl h) (E6 (Ac (xs:=[.none]) rfl Ua)))
def dW(g:c.canLay0=true)(h:Eh c=false):X1 [c,t]=some (word "change") :=
 gz (Mh (Fv rfl (by unfold HH;exact MT (Hh (ds:=[c]) rfl (cA g h)))) (.tail _ (.head _))) Ta
def jG(I:c.canLay0=true)(h:Eh c=true)(g:BV 4 [t]=some (.bool false)):X1 [c,t]=some (word "tree") :=
 gz (Mh (Fv rfl (by unfold HH;exact Gq (Fb (ds:=[c]) rfl (OM I h)) (MT (Hh (ds:=[t]) rfl (gn g))))) (.head _)) S0
def Zb(g:c.canLay0=true)(h:Eh c=false):VC [c,t,s]=some (word "change") :=
 Yi (Mh (Fv rfl (by unfold JY;exact MT (Hh (ds:=[c]) rfl (cA g h)))) (.tail _ (.head _))) Ta
def Xo(I:c.canLay0=true)(h:Eh c=true)(g:BV 4 [t]=some (.bool false)):VC [c,t,s]=some (word "tree") :=
 Yi (Mh (Fv rfl (by unfold JY;exact Gq (Fb (ds:=[c]) rfl (OM I h)) (MT (Hh (ds:=[t]) rfl (gn g))))) (.head _)) S0
def fX(R:(PyData.list cs).canLay0=true)(h:Eh (.list cs)=true)(I:BV 4 [t]=some (.bool true))(M:s.canLay0=true)(T:D5 s cs.length=false):VC [.list cs,t,s]=some (word "start") :=
 Yi (Mh (Fv rfl (by unfold JY;exact Gq (Fb (ds:=[.list cs]) rfl (OM R h)) (Gq (Fb (ds:=[t]) rfl (Yb I)) (MT (Hh (ds:=[s,.int (cs.length:Nat)]) rfl (mf M T)))))) (.tail _ (.tail _ (.head _)))) bx
end
def GC(a b:Int):PD:=.tuple [.int a,.int b]
def eE(C:sx):sx:=[.none,.tuple [],.int 0,.str (Str.ofString "x"),.tuple C,.list (C++[.int 0]),.list [.list [GC 0 0]]]
def dm(S:sx)(n:Nat):sx:=[.list (S++[GC 0 1]),.list (S.drop 1),.none,.tuple S,.list (List.replicate n [GC 2 2]).flatten]
abbrev u0:PD:=.tuple []
abbrev u1:PD:=.tuple [u0]
def ZN:sx:=[.tuple [u0,u1],.list [],.int 0,.none,.str (Str.ofString "()"),.tuple [u0,.int 1],.tuple [.list []],.tuple [.tuple [u0,u1]],.tuple [.tuple [.none]],.bool true]
def Vz(a b:Int):(GC a b).canLay0=true:=by simp[GC,PyData.canLay0,PyData.canLayAll0]
def V0{ds:sx}{e:PD}(h:∀d∈ds,d.canLay0=true)(k:e.canLay0=true):∀d∈ds++[e],d.canLay0=true:=fun d hd=>by
 rcases aW.mp hd with hd|hd
 .exact h d hd
 .rw[List.mem_singleton.mp hd];exact k
def jX{C:List PD}(g:∀d∈C,d.canLay0=true):∀j,j<7->∃N,(eE C)[j]? = some N/\N.canLay0=true/\Eh N=false
 |0,_=>⟨_,rfl,by decide +kernel,rfl⟩
 |1,_=>⟨_,rfl,by decide +kernel,rfl⟩
 |2,_=>⟨_,rfl,by decide +kernel,rfl⟩
 |3,_=>⟨_,rfl,by decide +kernel,rfl⟩
 |4,_=>⟨_,rfl,UE g,rfl⟩
 |5,_=>⟨_,rfl,GZ (V0 g (by decide +kernel)),kO (e:=.int 0) (ag _ (.head _)) rfl⟩
 |6,_=>⟨_,rfl,by decide +kernel,by decide +kernel⟩
def fZ{S:List PD}{n:Nat}(g:∀d∈S,d.canLay0=true)(M:S.length=n)(h1:1<=n):∀j,j<5->∃W,(dm S n)[j]? = some W/\W.canLay0=true/\D5 W n=false
 |0,_=>⟨_,rfl,GZ (V0 g (Vz _ _)),cP (by simp;lia)⟩
 |1,_=>⟨_,rfl,GZ fun d hd=>g d (List.mem_of_mem_drop hd),cP (by simp;lia)⟩
 |2,_=>⟨_,rfl,by decide +kernel,rfl⟩
 |3,_=>⟨_,rfl,UE g,rfl⟩
 |4,_=>by
  have hm:∀d∈(List.replicate n [GC 2 2]).flatten,d=GC 2 2:=fun d hd=>by
   obtain⟨l,h1,I⟩:=List.mem_flatten.mp hd;rw[List.eq_of_mem_replicate h1]at I;exact List.mem_singleton.mp I
  refine⟨_,rfl,GZ fun d hd=>by rw[hm d hd];exact Vz _ _,pK (e:=GC 2 2) (List.mem_flatten.mpr ⟨[GC 2 2],List.mem_replicate.mpr ⟨by lia,rfl⟩,.head _⟩) (by decide +kernel)⟩
def lX:∀j,j<10->∃O,ZN[j]? = some O/\BV 4 [O]=some (.bool false)
 |0,_=>⟨_,rfl,by kernel_rfl⟩
 |1,_=>⟨_,rfl,by kernel_rfl⟩
 |2,_=>⟨_,rfl,by kernel_rfl⟩
 |3,_=>⟨_,rfl,by kernel_rfl⟩
 |4,_=>⟨_,rfl,by kernel_rfl⟩
 |5,_=>⟨_,rfl,by kernel_rfl⟩
 |6,_=>⟨_,rfl,by kernel_rfl⟩
 |7,_=>⟨_,rfl,by kernel_rfl⟩
 |8,_=>⟨_,rfl,by kernel_rfl⟩
 |9,_=>⟨_,rfl,by kernel_rfl⟩
def jZ:∀j,j<5->∃t,(Eo.map tD)[j]? = some (tD t)/\t∈Eo
 |0,_=>⟨T0,rfl,.head _⟩
 |1,_=>⟨T1,rfl,.tail _ (.head _)⟩
 |2,_=>⟨T2,rfl,.tail _ (.tail _ (.head _))⟩
 |3,_=>⟨cE,rfl,.tail _ (.tail _ (.tail _ (.head _)))⟩
 |4,_=>⟨T4,rfl,.tail _ (.tail _ (.tail _ (.tail _ (.head _))))⟩
def SQ(many:Nat)(t:IT.Tm):Prop:=(t.1.length=many/\t.1.sum<=2)/\(∀p∈t.1,(0:Int)<=p/\p<=3)/\∃r:Rat,t.2=[r.num,(r.den:Int)]/\r≠0/\r.num.natAbs<=6/\r.den<=6
def PZ(t:IT.Tm):PD:=.tuple [.tuple (t.1.map .int),.tuple (t.2.map .int)]
def Jk(many:Nat)(us:List IT.Tm):Prop:=us.length<=12/\(∀t∈us,SQ many t)/\us.Pairwise (fun x y=>IT.lt y.1 x.1=true)
def fL{κ:Type}[DecidableEq κ]{kvs:List (κ×V)}{k:κ}{v:V}{x:κ×V}(h:x∈putK kvs k v):x∈kvs\/x=(k,v):=by
 unfold putK at h;split at h
 .obtain⟨y,g,e⟩:=aI.mp h;split at e
  .rename_i z
   right;rw[<-e,<-z]
  .left;rw[<-e];exact g
 .rcases aW.mp h with h|h
  .exact .inl h
  .exact .inr (List.mem_singleton.mp h)
def Yx{κ:Type}[DecidableEq κ]{kvs:List (κ×V)}{k:κ}(v:V)(h:(kvs.map (·.1)).Nodup):((putK kvs k v).map (·.1)).Nodup:=by
 cases e:C7 kvs k with
 |none=>exact jn v h e
 |some y=>
  unfold putK;rw[Ku,e,if_pos (show(some y).isSome=true from rfl),(CZ)];have:(kvs.map ((fun x:κ×V=>x.1) ∘ fun kv=>if kv.1=k then(kv.1,v) else kv))=kvs.map (·.1):=by
   apply az;intro x _;simp only[Function.comp];split<;>rfl
  rw[this];exact h
def Jm(many:Nat)(H:Hp)(kv:List Key×V):Prop:=∃t:IT.Tm,kv.1=t.1.map Sum.inl/\(∃c,kv.2=.ref c/\H c=some (.tup (t.2.map V.int)))/\SQ many t
def Jm.step{many:Nat}{H H':Hp}{kv:List Key×V}(e:∀c ys,H c=some (.tup ys)->H' c=some (.tup ys))(h:Jm many H kv):Jm many H' kv:=by
 obtain⟨t,R,⟨c,M,I⟩,g⟩:=h;exact⟨t,R,⟨c,M,e _ _ I⟩,g⟩
theorem TR{many:Nat}{H:Hp}:∀ {kvs:List (List Key×V)},(∀kv∈kvs,Jm many H kv)->∃ts:List IT.Tm,ts.length=kvs.length/\(∀t∈ts,SQ many t)/\kvs.map (·.1)=ts.map (fun t=>t.1.map Sum.inl) /\
  ∀(j:Nat) k v t,kvs[j]? = some (k,v)->ts[j]? = some t->k=t.1.map Sum.inl/\∃c,v=.ref c/\H c=some (.tup (t.2.map V.int))
 |[],_=>⟨[],rfl,fun _ z=>(ay z).elim,rfl,fun j k v t h=>by simp at h⟩
 |kv::kvs,h=>by
  obtain⟨ts,h1,h2,h3,Z⟩:=TR (kvs:=kvs) fun x g=>h x (aK _ g);obtain⟨t,R,Y,U⟩:=h kv aO;refine⟨t::ts,by simp[h1],fun x g=>?_,by rw[(BA),(BA),h3,R],fun j k v T M I=>?_⟩
  .rcases aN.mp g with rfl|g
   .exact U
   .exact h2 x g
  .cases j with
   |zero=>
    simp at M I;subst M I;exact⟨R,Y⟩
   |succ j=>exact Z j k v T (by simpa using M) (by simpa using I)
def T7{us ts:List IT.Tm}(T:us.Perm ts)(hn:(ts.map fun t=>t.1.map (Sum.inl:Int->Key)).Nodup)(R:us.Pairwise (fun x y=>IT.K8.kle y x)):us.Pairwise (fun x y=>IT.lt y.1 x.1=true):=by
 have I:(us.map fun t=>t.1.map (Sum.inl:Int->Key)).Nodup:=(T.map _).nodup_iff.mpr hn;rw[List.Nodup,List.pairwise_map]at I;refine(R.and I).imp fun {x y} h=>?_;obtain⟨Z,Y⟩:=h;have g:x.1≠y.1:=fun z=>Y (by rw[z]);have M:IT.Hk x y=false:=Z;unfold IT.Hk at M;rw[if_neg g]at M;cases U:IT.lt y.1 x.1 with
 |true=>rfl
 |false=>exact absurd (IT.JB _ _ M U) g
theorem Rg{c:AD}{H:Hp}:∀(ps:List Int),Aa c H (ps.map .int) (ps.map V.int)
 |[]=>.nil
 |p::ps=>.cons .int (Rg ps)
theorem WK{c:AD}{zc:List V}{g H':Hp}(e:AJ g H')(M:g c=some (.lst zc)):∀ {us:List IT.Tm} {zs:List V},zs.length=us.length ->
  (∀(j:Nat) z t,zs[j]? = some z->us[j]? = some t->∃p b d,z=.ref p/\g p=none/\H' p=some (.tup [.ref b,.ref d])/\g b=some (.tup (t.1.map V.int))/\g d=some (.tup (t.2.map V.int)))->Aa c H' (us.map PZ) zs
 |[],[],_,_=>.nil
 |[],_::_,h,_=>by simp at h
 |_::_,[],h,_=>by simp at h
 |t::us,z::zs,hl,h=>by
  obtain⟨p,b,d,rfl,Z,h2,Y,U⟩:=h 0 z t rfl rfl;have R:∀ {x:AD} {ys:List V},g x=some (.tup ys)->x≠c:=fun T I=>by rw[I,M]at T;cases T
  exact .cons (.tup (fun I=>by rw[I,M]at Z;cases Z) h2 (.cons (.tup (R Y) (e _ _ Y) (Rg _)) (.cons (.tup (R U) (e _ _ U) (Rg _)) .nil)))
   (WK e M (by simpa using hl) fun j z' t' hz ht=>h (j+1) z' t' (by simpa using hz) (by simpa using ht))
def dR:Sp:=fun vs H Q _=>∃(l:AD) (x:Int) (many:Nat),vs=[.ref l,.int many,.int 2]/\H l=some (.lst [.int x])/\1<=many/\many<=4 /\
 ∀v H' us,SameBut l H H'->Jk many us->(∀c g,H c=some (.lst g)->Dt c H' (.list (us.map PZ)) v)->Q v H'
def i6{ps:tJ}{r:Int}(h0:0<=r)(h1:r<=(ps.length:Nat)):EF (ps.map V.int) (some r) none++EF (ps.map V.int) none (some r)=(ps.drop r.toNat++ps.take r.toNat).map V.int:=by
 have e:(some r)=some ((r.toNat:Nat):Int):=by rw[show((r.toNat:Nat):Int)=r by lia]
 unfold EF;rw[e,HT.LJ,HT.LJ,HT.Hs,HT.Hs,(Af),Nat.min_eq_left AC,List.drop_zero,Nat.sub_zero,(CN),List.map_drop,List.map_take]
 congr 1
 rw[List.take_of_length_le (by rw[(Ro),(Af)];lia)]
section
variable{P:F0b}{w:F0c}{K:Fg}{mg:tF}{base:Heap}{f g g1 g2 g4 g5:AD}{fd gd gd1 gd2:F0a}
def Vx:Ad ["_law_pile","_law_many","_law_most","_law_counts","_law_count","_law_k","_law_powers","_law_left","_law_j","_law_turn","_law_part_here"] ["_law_pile","_law_many","_law_most"] (AO MJ):=Bk
structure JC(H:Hp)(l C:Addr)(kvs:List (List Key×V))(many n:Nat)(H':Hp):Prop where
 tr:SameBut l H H'
 IV:∃y,H' l=some (.lst [.int y])
 Na:H' C=some (.dT kvs)
 len:kvs.length<=n
 nd:(kvs.map (·.1)).Nodup
 ok:∀kv∈kvs,Jm many H' kv
def JC.same{H:Hp}{l C:AD}{kvs:List (List Key×V)}{many n:Nat}{M I:Hp}(g:JC H l C kvs many n M)(e:AJ M I):JC H l C kvs many n I :=
 ⟨g.tr.trans (.of e),let⟨y,h⟩:=g.IV;⟨y,e _ _ h⟩,e _ _ g.Na,g.len,g.nd,fun kv h=>(g.ok kv h).step fun c ys=>e c _⟩
def JC.take{H:Hp}{l C:AD}{kvs:List (List Key×V)}{many n:Nat}{M:Hp}(g:JC H l C kvs many n M)(R:C≠l)(y:Int):JC H l C kvs many n (upd M l (.lst [.int y])) :=
 let⟨_,T⟩:=g.IV
 ⟨g.tr.trans .upd,⟨y,AN⟩,by rw[AK R];exact g.Na,g.len,g.nd,fun kv h=>(g.ok kv h).step fun c ys I=>by rw[AK (fun z=>by rw[z,T]at I;cases I)];exact I⟩
def JC.list{H:Hp}{l C p:AD}{kvs:List (List Key×V)}{many n:Nat}{M:Hp}{ys zs:tR}(g:JC H l C kvs many n M)(U:H p=none)(np:p≠l)(R:p≠C)(h:M p=some (.lst ys)):JC H l C kvs many n (upd M p (.lst zs)) :=
 ⟨fun b o nb z=>by rw[AK (AV z U)];exact g.tr _ _ nb z,let⟨y,T⟩:=g.IV;⟨y,by rw[AK np.symm];exact T⟩,by rw[AK R.symm];exact g.Na,g.len,g.nd,fun kv Y=>(g.ok kv Y).step fun c Z I=>by rw[AK (fun z=>by rw[z,h]at I;cases I)];exact I⟩
def Uh(F:Fn K mg "_law_poly" MJ ["_law_pile","_law_many","_law_most"] f fd)(CL:Fn K mg "_law_take" JU ["_law_pile","_law_size"] g1 gd1)(El:Fn K mg "_law_part" JR ["_law_pile"] g2 gd2) (Ej:AI P w K mg base Ag 3 g1 gd1 ["_law_pile","_law_size"] V7)(MF:AI P w K mg base Ag 3 g2 gd2 ["_law_pile"] Ru)(Ct:mg "range" = none)(JL:mg "sorted" = none)(BZ:mg "tuple" = none):AI P w K mg base Ag 4 f fd ["_law_pile","_law_many","_law_most"] dR:=by
 have sc:=Vx;refine F.F.ok (k:=3) sc Do DP
 .obtain⟨l,x,many,rfl,_⟩:=h
  rfl
 obtain⟨l,x,many,rfl,hl,hm1,hm4,q⟩:=h;refine⟨_,(AM (Ai (i:=3) sc.nd rfl AT VV)
 (AM (Ai (i:=4) sc.nd rfl AT (A3 CL Ej hr rfl (AE Fa (AE AU AQ))))
 (AM (CO (Bn Qg (pv 4) AU (Ay _))
  (AR (Ai (i:=4) sc.nd rfl AT (Au Ff (pv 4) (A3 CL Ej hr rfl (AE Fa (AE AU AQ))))))
  BX)
 (AM (C0 aP rfl (Hj rfl Ct (AE (pv 4) AQ)) (Az (i:=5) sc.nd rfl AT)
  (AM (Ai (i:=6) sc.nd rfl AT (IP AQ))
  (AM (Ai (i:=7) sc.nd rfl AT (pv 2))
  (AM (C0 aP rfl (Hj rfl Ct (AE Fy AQ)) (Az (i:=8) sc.nd rfl AT)
   (AM (EG (Oy bR bf bg Hl (pv 6) (AE (A3 CL Ej hr rfl (AE Fa (AE (Au Ff (pv 7) AU) AQ))) AQ)))
   (AR (Ai (i:=7) sc.nd rfl AT (Au Jc (pv 7) (B1 Kp (pv 6) (gm Z6 AU) Da))))))
  (AM (Ai (i:=9) sc.nd rfl AT (A3 CL Ej hr rfl (AE Fa (AE Fy AQ))))
  (AM (Ai (i:=10) sc.nd rfl AT (A3 El MF hr rfl (AE Fa AQ)))
  (AR (CO (Bn (Z9 (by have:=hr.units;exact this)) (pv 10) (JX (AE AU (AE AU AQ))) (Ay _))
   (AR (je (by have:=hr.units;exact aQ (Nat.add_le_add_left (show 1<=64 by decide) _) this) (pv 3) (S4 NU rfl BZ bA (AE (Au Z8 (Mx R5 (pv 6) (Og (pv 9)) O6) (Mx R5 (pv 6) O6 (Og (pv 9)))) AQ)) (pv 10) rfl))
   BX))))))))
 (AR (Aw (fB rfl (by have:=hr.units;exact this) rfl JL (pv 3)))))))),?_⟩
 refine fun C hC=>?_;have nC:C≠l:=(AV hl hC).symm;have U:JC H l C [] many 0 (upd H C (.dT [])):=⟨.of (AZ hC _),⟨x,AZ hC _ _ _ hl⟩,AN,Nat.le_refl _,List.nodup_nil,fun _ z=>(ay z).elim⟩;generalize upd H C (.dT [])=H1 at U;obtain⟨x1,hl1⟩:=U.IV;refine⟨_,rfl,l,x1,5,rfl,hl1,by decide,by decide,fun cnt y0 c0 c1=>?_⟩;have U:=U.take nC y0;generalize upd H1 l (.lst [.int y0])=H2 at U
 try dsimp only[Ea]
 refine Iy (fun σ' H'=>∃n:Nat,n<=12/\σ'=[some (.ref l),some (.int many),some (.int 2),some (.ref C),some (.int n),none,none,none,none,none,none]/\JC H l C [] many 0 H') (fun nx hnx=>?_) ?_
 .refine⟨_,rfl,rfl,_,rfl,Cm (fun c=>?_) (fun c=>?_)⟩
  .obtain⟨x2,hl2⟩:=U.IV;have e4:cnt=4:=by simpa using c
   refine⟨_,rfl,_,rfl,l,x2,9,rfl,hl2,by decide,by decide,fun r y1 r0 r1=>⟨_,_,rfl,rfl,hnx _ _ ⟨(cnt+r).toNat,by lia,?_,U.take nC y1⟩⟩⟩;show [some (V.ref l),some (V.int many),some (V.int 2),some (V.ref C),some (V.int (cnt+r)),none,none,none,none,none,none]=_;rw[show(((cnt+r).toNat:Nat):Int)=cnt+r by lia]
  .refine hnx _ _ ⟨cnt.toNat,by lia,?_,U⟩;show [some (V.ref l),some (V.int many),some (V.int 2),some (V.ref C),some (V.int cnt),none,none,none,none,none,none]=_;rw[show((cnt.toNat:Nat):Int)=cnt by lia]
 rintro σ' H3 ⟨n,hn,rfl,U⟩;refine⟨_,rfl,(n:Int),rfl,by lia,by lia,Nt (n:=(n:Int).toNat) (fun i σ H'=>∃(r5 r6 r7 r8 r9 Y:Option V) (kvs:List (List Key×V)),σ=[some (.ref l),some (.int many),some (.int 2),some (.ref C),some (.int n),r5,r6,r7,r8,r9,Y]/\JC H l C kvs many i H') ?_ ?_ ?_⟩
 .exact⟨_,_,_,_,_,_,[],rfl,U⟩
 .rintro i σ H4 hi ⟨r5,r6,r7,r8,r9,Y,kvs,rfl,g4⟩;refine⟨Io AS,fun p T=>?_⟩;have hpn:H p=none:=by
   cases z:H p with
   |none=>rfl
   |some o=>
    have np:p≠l:=fun zz=>by
     obtain⟨y,hy⟩:=g4.IV;rw[zz,hy]at T;cases T
    rw[g4.tr _ _ np z]at T;cases T
  have np:p≠l:=let⟨y,hy⟩:=g4.IV;(AV hy T).symm;have npC:p≠C:=(AV g4.Na T).symm;have g5:=g4.same (AZ T (.lst []));have h5:upd H4 p (.lst []) p=some (.lst []):=AN;generalize upd H4 p (.lst [])=H5 at g5 h5;refine⟨_,rfl,?_⟩;refine⟨_,rfl,(many:Int),rfl,by lia,by lia,Nt (n:=(many:Int).toNat) (fun j σ H'=>∃(r8:Option V) (left:Int) (ps:List Int),σ=[some (.ref l),some (.int many),some (.int 2),some (.ref C),some (.int n),some (.int (0+(i:Nat))),some (.ref p),some (.int left),r8,r9,Y]/\JC H l C kvs many i H'/\H' p=some (.lst (ps.map V.int))/\ps.length=j/\(∀z∈ps,(0:Int)<=z/\z<=3)/\0<=left/\left<=3/\ps.sum+left=2) ?_ ?_ ?_⟩
  .exact⟨_,2,[],rfl,g5,h5,rfl,fun _ z=>(ay z).elim,by decide,by decide,by decide⟩
  .rintro j σ H6 hj ⟨r8,left,ps,rfl,g6,h6,hpl,Z,l0,l3,lsum⟩;obtain⟨x6,hl6⟩:=g6.IV;refine⟨_,rfl,.inl ⟨rfl,_,Aj.of h6⟩,_,rfl,_,rfl,_,_,rfl,rfl,l,x6,left+1,rfl,hl6,by lia,by lia,fun r y r0 r1=>?_⟩;have g7:=g6.take nC y;have h7:upd H6 l (.lst [.int y]) p=some (.lst (ps.map V.int)):=by rw[AK np];exact h6
   generalize upd H6 l (.lst [.int y])=H7 at g7 h7;refine⟨p,_,_,rfl,rfl,h7,NF (n:=60) (by rw[(Af)];lia) AS,?_⟩;have g8:=g7.list hpn np npC h7 (zs:=ps.map V.int++[.int r]);have h8:upd H7 p (.lst (ps.map V.int++[.int r])) p=some (.lst ((ps++[r]).map V.int)):=by rw[AN,(CN)];rfl
   generalize upd H7 p (.lst (ps.map V.int++[.int r]))=H8 at g8 h8;have hat:GJ ((ps++[r]).map V.int) (-1)=some (.int r):=by
    unfold GJ Td;rw[if_neg AS,if_pos (by rw[(Af),(De),(QM)];lia)];rw[(Af),(De),(QM),show((-1:Int)+((ps.length+1:Nat):Int)).toNat=ps.length by lia];simp
   refine⟨_,rfl,_,rfl,_,rfl,_,_,_,_,rfl,rfl,Aj.of h8,hat,_,_,rfl,rfl,_,left-r,ps++[r],rfl,g8,h8,by simp[hpl],fun z I=>?_,by lia,by lia,by rw[List.sum_append,List.sum_singleton];lia⟩;rcases aW.mp I with I|I
   .exact Z z I
   .rw[List.mem_singleton.mp I];exact⟨r0,by lia⟩
  .rintro σ H6 ⟨r8,left,ps,rfl,g6,h6,hpl,Z,l0,l3,lsum⟩;obtain⟨x6,hl6⟩:=g6.IV;refine⟨_,rfl,_,rfl,l,x6,(many:Int),rfl,hl6,by lia,by lia,fun turn y t0 t1=>?_⟩;have g7:=g6.take nC y;have h7:upd H6 l (.lst [.int y]) p=some (.lst (ps.map V.int)):=by rw[AK np];exact h6
   generalize upd H6 l (.lst [.int y])=H7 at g7 h7;obtain⟨x7,hl7⟩:=g7.IV;refine⟨_,rfl,l,x7,rfl,hl7,fun c fr y8 H8 e8 hc r6 d6=>?_⟩;have g8:=(g7.take nC y8).same e8;have h8:H8 p=some (.lst (ps.map V.int)):=e8 _ _ (by rw[AK np];exact h7);obtain⟨ta,R⟩:∃ta,ta=fr.num:=⟨_,rfl⟩;obtain⟨tb,M⟩:∃tb,tb=(fr.den:Int):=⟨_,rfl⟩
   replace hc:H8 c=some (.tup [.int ta,.int tb]):=by rw[R,M];exact hc
   refine⟨_,rfl,Io (show 2<=60 by decide),fun q0 hq=>?_⟩;have e9:=AZ hq (.tup [.int 0,.int 1]);have hq9:upd H8 q0 (.tup [.int 0,.int 1]) q0=some (.tup [.int 0,.int 1]):=AN;generalize upd H8 q0 (.tup [.int 0,.int 1])=H9 at e9 hq9;have g9:=g8.same e9;have h9:=e9 _ _ h8;have hc9:=e9 _ _ hc;have sh:∀a b:Int,SeqAt.shaped (.tuple [.int a,.int b])=true:=fun a b=>(Sm.tup (n:=0) (ds:=[.int a,.int b]) (show 2<=60 by decide) (fun x hx=>by
    rcases aN.mp hx with rfl|hx
    .trivial
    .rw[List.mem_singleton.mp hx];trivial)).ok.shaped AS
   obtain⟨x9,hl9⟩:=g9.IV;have ntl:∀ {b:AD} {ys:List V},H9 b=some (.tup ys)->b≠l:=fun hb z=>by rw[z,hl9]at hb;cases hb
   refine⟨.tuple [.int ta,.int tb],.tuple [.int 0,.int 1],(Dt.tup (ntl hc9) hc9 (.cons .int (.cons .int .nil))).br,(Dt.tup (ntl hq9) hq9 (.cons .int (.cons .int .nil))).br,sh _ _,sh _ _,_,rfl,Cm (fun b=>?_) (fun b=>?_)⟩
   .have hfr0:fr≠0:=fun z=>by
     have e1:ta=0:=by rw[R,z];rfl
     have e2:tb=1:=by rw[M,z];rfl
     subst e1 e2;exact absurd b (by simp[PyData.eqv,PyData.eqvAll])
    refine⟨_,rfl,_,rfl,_,rfl,_,rfl,_,rfl,p,_,rfl,Aj.of h9,fun p1 hp1=>?_⟩;have ea:=AZ hp1 (.lst (EF (ps.map V.int) (some turn) none));have ha1:upd H9 p1 (.lst (EF (ps.map V.int) (some turn) none)) p1=some (.lst (EF (ps.map V.int) (some turn) none)):=AN;generalize upd H9 p1 (.lst (EF (ps.map V.int) (some turn) none))=Ha at ea ha1;refine⟨_,rfl,_,rfl,_,rfl,p,_,rfl,Aj.of (ea _ _ h9),fun p2 hp2=>?_⟩;have eb:=AZ hp2 (.lst (EF (ps.map V.int) none (some turn)));have hb2:upd Ha p2 (.lst (EF (ps.map V.int) none (some turn))) p2=some (.lst (EF (ps.map V.int) none (some turn))):=AN;generalize upd Ha p2 (.lst (EF (ps.map V.int) none (some turn)))=Hb at eb hb2;refine⟨p1,p2,_,_,rfl,rfl,eb _ _ ha1,hb2,?_,fun p3 hp3=>?_⟩
    .have z1:=JT (ps.map V.int) (some turn) none;have z2:=JT (ps.map V.int) none (some turn);rw[(Af)]at z1 z2;exact Io AC
    rw[i6 t0 AC]at *;have ec:=AZ hp3 (.lst ((ps.drop turn.toNat++ps.take turn.toNat).map V.int));have hc3:upd Hb p3 (.lst ((ps.drop turn.toNat++ps.take turn.toNat).map V.int)) p3=some (.lst ((ps.drop turn.toNat++ps.take turn.toNat).map V.int)):=AN;generalize upd Hb p3 (.lst ((ps.drop turn.toNat++ps.take turn.toNat).map V.int))=Hc at ec hc3;refine⟨p3,_,rfl,.inl ⟨Aj.of hc3,fun p4 hp4=>?_⟩⟩;have ed:=AZ hp4 (.tup ((ps.drop turn.toNat++ps.take turn.toNat).map V.int));have hd4:upd Hc p4 (.tup ((ps.drop turn.toNat++ps.take turn.toNat).map V.int)) p4=some (.tup ((ps.drop turn.toNat++ps.take turn.toNat).map V.int)):=AN;generalize upd Hc p4 (.tup ((ps.drop turn.toNat++ps.take turn.toNat).map V.int))=Hd at ed hd4;have E:=ea.trans (eb.trans (ec.trans ed));have gd:=g9.same E;have hcd:=E _ _ hc9;refine⟨C,_,rfl,Vl.t gd.Na (k:=(ps.drop turn.toNat++ps.take turn.toNat).map Sum.inl) (by rw[VD];exact hd4) (NF (n:=60) (by have:=gd.len;lia) AS),?_⟩;have hCn:∀c ys,Hd c=some (.tup ys)->c≠C:=fun c ys hh z=>by rw[z,gd.Na]at hh;cases hh
    refine⟨_,_,_,_,_,_,_,rfl,⟨fun b o nb z=>by rw[AK (AV z hC)];exact gd.tr _ _ nb z,let⟨y,hy⟩:=gd.IV;⟨y,by rw[AK nC.symm];exact hy⟩,AN,Nat.le_trans (MH _ _ _) (Nat.succ_le_succ gd.len),Yx _ gd.nd,fun kv hk=>?_⟩⟩;rcases fL hk with hk|rfl
    .exact(gd.ok kv hk).step fun c ys hh=>by rw[AK (hCn c ys hh)];exact hh
    .refine⟨(ps.drop turn.toNat++ps.take turn.toNat,[ta,tb]),rfl,⟨c,rfl,by rw[AK (hCn _ _ hcd)];exact hcd⟩,?_,fun z I=>?_,fr,by rw[R,M],hfr0,r6,d6⟩
     .refine⟨by simp only[List.length_append,List.length_drop,List.length_take];lia,?_⟩;show(ps.drop turn.toNat++ps.take turn.toNat).sum<=2;have es:(ps.take turn.toNat++ps.drop turn.toNat).sum=ps.sum:=by rw[List.take_append_drop]
      rw[List.sum_append]at es;rw[List.sum_append]
      lia
     .rcases aW.mp I with I|I
      .exact Z z (List.mem_of_mem_drop I)
      .exact Z z (List.mem_of_mem_take I)
   .exact⟨_,_,_,_,_,_,kvs,rfl,⟨g9.tr,g9.IV,g9.Na,Nat.le_succ_of_le g9.len,g9.nd,g9.ok⟩⟩
 .rintro σ H4 ⟨r5,r6,r7,r8,r9,Y,kvs,rfl,g4⟩;obtain⟨ts,k1,k2,k3,k4⟩:=TR g4.ok;have hlen:=g4.len;refine⟨_,rfl,C,kvs,ts,rfl,g4.Na,by lia,k1,k4,fun D H' zs us e hD hD' T hs hzl I=>?_⟩;obtain⟨y4,hl4⟩:=g4.IV;refine q _ H' us (g4.tr.trans (.of e)) ⟨by rw[T.length_eq,k1];lia,fun t ht=>k2 t (T.mem_iff.mp ht),T7 T (by rw[<-k3];exact g4.nd) hs⟩ fun c zc hc=>?_;have hc4:∃zc',H4 c=some (.lst zc'):=by
   by_cases z:c=l
   .subst z;exact⟨_,hl4⟩
   .exact⟨_,g4.tr _ _ z hc⟩
  obtain⟨zc',hc4⟩:=hc4;exact .lst (AV hc4 hD).symm hD' (WK e hc4 hzl I)
end
def Jh(us:List IT.Tm):PD:=.list (us.map PZ)
def VO(K:Fg):Sp:=fun vs H Q _=>∃(a:AD) (ns:List Int) (many:Nat),vs=[.ref a,.int 1,.int many,.int 2]/\Aj K H a (ns.map V.int)/\1<=many/\many<=4 /\
 ∀v H' (uss:List (List IT.Tm)),AJ H H'->uss.length=many->(∀us∈uss,Jk many us)->DU H' (.list (uss.map Jh)) v->Q v H'
def Lj(t:IT.Tm):AW:=(t.1,Rat.divInt (t.2.getD 0 0) (t.2.getD 1 1))
def cq{many:Nat}{t:IT.Tm}(ok:SQ many t):PZ t=Bv (Lj t)/\FM.Fits (Lj t).2 3/\(Lj t).2.den<=6/\(Lj t).2≠0:=by
 obtain⟨_,_,r,I,R,M,g⟩:=ok;have e:(Lj t).2=r:=by
  unfold Lj;rw[I];exact FM.Fu r
 refine⟨?_,?_,by rw[e];exact g,by rw[e];exact R⟩
 .unfold PZ Bv;rw[e,I]
  rfl
 .rw[e];exact⟨aQ M AS,Nat.lt_of_le_of_lt g AS⟩
theorem RK:∀ {ps:List Int},(∀p∈ps,0<=p)->0<=ps.sum
 |[],_=>by simp
 |p::ps,h=>by
  have:=RK (ps:=ps) fun y g=>h y (aK _ g);have:=h p aO;rw[(GX)]
  lia
def X0{many:Nat}{us:List IT.Tm}(ok:Jk many us):Jh us=AH (us.map Lj):=by
 unfold Jh AH;rw[(CZ)]
 congr 1
 exact az fun t g=>(cq (ok.2.1 t g)).1
def mT{many:Nat}{uss:List (List IT.Tm)}(T:uss.length<=4)(ok:∀us∈uss,Jk many us):Le (uss.map fun us=>us.map Lj) many:=by
 refine⟨by rw[(Af)];exact T,fun ms I=>?_⟩;obtain⟨us,g,rfl⟩:=aI.mp I;refine⟨by rw[(Af)];exact(ok us g).1,fun m hm=>?_⟩;obtain⟨t,M,rfl⟩:=aI.mp hm;have tk:=(ok us g).2.1 t M;obtain⟨_,f,d,_⟩:=cq tk;obtain⟨⟨l,sm⟩,ps,_⟩:=tk;exact⟨f,d,l,ps,RK fun p R=>(ps p R).1,sm⟩
section
variable{P:F0b}{w:F0c}{K:Fg}{mg:tF}{base:Heap}{f g1 g2:AD}{fd gd1 gd2:F0a}
def SU:Ad ["_law_script","_law_start_here","_law_many","_law_most"] ["_law_script","_law_start_here","_law_many","_law_most"] (AO Jx):=Bk
def SR(F:Fn K mg "_law_change" Jx ["_law_script","_law_start_here","_law_many","_law_most"] f fd)(Bi:Fn K mg "_law_cell" Ei ["_law_script","_law_k"] g1 gd1)(JO:Fn K mg "_law_poly" MJ ["_law_pile","_law_many","_law_most"] g2 gd2) (DC:AI P w K mg base Ag 4 g1 gd1 ["_law_script","_law_k"] (Sa K))(XB:AI P w K mg base Ag 4 g2 gd2 ["_law_pile","_law_many","_law_most"] dR)(Ct:mg "range" = none):AI P w K mg base Ag 5 f fd ["_law_script","_law_start_here","_law_many","_law_most"] (VO K):=by
 have sc:=SU;refine F.F.ok (k:=4) sc Do DP
 .obtain⟨a,ns,many,rfl,_⟩:=h
  rfl
 obtain⟨a,ns,many,rfl,hS,hm1,hm4,q⟩:=h;refine⟨_,(AR (Aw (Dg [".0","_law_k","_law_many","_law_most","_law_script","_law_start_here"] 1 [none,none,some 2,some 3,some 0,some 1] (Hj rfl Ct (AE (pv 2) AQ)) (fun _ _ _ _ _=>D4) (fun _ _ _ _ _=>(A3 JO XB hr rfl (AE (IP (AE (A3 Bi DC hr rfl (AE (pv 4) (AE (Au Ff (pv 5) Fy) AQ))) AQ)) (AE (pv 2) (AE (pv 3) AQ)))))))),?_⟩;refine⟨_,rfl,(many:Int),rfl,by lia,by lia,fun D hD=>E2 (n:=(many:Int).toNat) (fun i ys H'=>AJ H H'/\∃uss:List (List IT.Tm),uss.length=i/\(∀us∈uss,Jk many us)/\Aa D H' (uss.map Jh) ys) ?_ ?_ ?_⟩
 .exact⟨AZ hD _,[],rfl,fun _ z=>(ay z).elim,.nil⟩
 .rintro i ys H0 hi ⟨Z,uss,R,I,hd⟩ g;refine⟨hi,NF (n:=60) (by rw[hd.len,(Af)];lia) AS,fun x H' y=>?_⟩;obtain⟨rfl,rfl⟩:=y;unfold Gm;refine C8 ⟨_,rfl,_,rfl,_,rfl,_,_,rfl,rfl,a,ns,_,rfl,Z.seq hS,by lia,by lia,fun cell=>?_⟩;refine⟨Io (show 1<=60 by decide),fun l Y=>?_⟩;have M:=AZ Y (.lst [.int cell]);have U:upd H' l (.lst [.int cell]) l=some (.lst [.int cell]):=AN;have nl:D≠l:=AV g Y;have hln:∀o,H l≠some o:=fun o z=>by rw[Z _ _ z]at Y;cases Y
  have dl:Aa l (upd H' l (.lst [.int cell])) (uss.map Jh) ys:=(JP Y hd).same M;generalize upd H' l (.lst [.int cell])=H1 at M U dl;refine⟨_,rfl,_,rfl,l,cell,many,rfl,U,hm1,hm4,fun v H2 us e2 ok dt=>?_⟩;have hD2:H2 D=some (.lst ys):=e2 _ _ nl (M _ _ g);have k1:Aa D H2 ((uss++[us]).map Jh) (ys++[v]):=by
   rw[(CN)];exact(Kl e2 (hd.same M) dl).app (.cons (dt D _ (M _ _ g)) .nil)
  refine⟨hD2,DZ hi ⟨fun b o z=>?_,uss++[us],by simp[R],fun u T=>?_,.but .upd k1⟩⟩
  .rw[AK (AV z hD)];exact e2 _ _ (fun zz=>hln o (zz ▸ z)) (M _ _ (Z _ _ z))
  .rcases aW.mp T with T|T
   .exact I u T
   .rw[List.mem_singleton.mp T];exact ok
 .rintro ys H0 ⟨Z,uss,R,I,hd⟩ g;exact⟨aG _,q _ H0 uss Z AC I (.lst g (HP hd))⟩
end
def qA(r:Rat):Prop:=FM.Fits r 3/\r.den<=6
def Qq(l:AD)(g:Hp)(i:Nat)(ys:tR)(H':Hp):Prop:=SameBut l g H'/\(∃y,H' l=some (.lst [.int y]))/\ys.length=i/\∃rs:List Rat,rs.length=i/\(∀r∈rs,qA r)/\Bm H' (AY rs) ys
def gG{l D:AD}{g:Hp}{y:Int}(M:g l=some (.lst [.int y]))(I:g D=none):Qq l g 0 [] (upd g D (.lst [])):=⟨.of (AZ I _),⟨y,AZ I _ _ _ M⟩,rfl,[],rfl,fun _ z=>(ay z).elim,.nil⟩
def W4{l D p:AD}{T U I:Hp}{yb Y:Int}{i:Nat}{ys:tR}{r:Rat}(hl:T l=some (.lst [.int yb]))(hD:T D=none)(d:Qq l T i ys U)(hD1:U D=some (.lst ys))(e2:AJ (upd U l (.lst [.int Y])) I)(hp:I p=some (.tup (Jp r)))(h6:r.num.natAbs<=6)(h7:r.den<=6):I D=some (.lst ys)/\Qq l T (i+1) (ys++[.ref p]) (upd I D (.lst (ys++[.ref p]))):=by
 obtain⟨e1,⟨y1,hl1⟩,Z,rs,hrl,hrs,dr⟩:=d;have nl:l≠D:=AV hl hD;have hl2:I l=some (.lst [.int Y]):=e2 _ _ AN;have g:SameBut l U I:=SameBut.upd.trans (.of e2);have R:=g _ _ nl.symm hD1;have d2:Bm I (AY (rs++[r])) (ys++[.ref p]):=by
  rw[dw];exact(TM hl1 g dr).app (.cons (kN hp) .nil)
 refine⟨R,fun b o nb z=>?_,⟨Y,by rw[AK nl];exact hl2⟩,by simp[Z],rs++[r],by simp[hrl],fun x M=>?_,TM R .upd d2⟩
 .rw[AK (AV z hD)];exact g _ _ nb (e1 _ _ nb z)
 .rcases aW.mp M with M|M
  .exact hrs x M
  .rw[List.mem_singleton.mp M];exact⟨⟨aQ h6 AS,Nat.lt_of_le_of_lt h7 AS⟩,h7⟩
def VP:Sp:=fun vs H Q _=>∃(cell:Int) (many:Nat),vs=[.int cell,.int many]/\many<=4/\∀(S:AD) H' xs rs,AJ H H'->H' S=some (.lst xs)->Bm H' (AY rs) xs->rs.length=many->(∀r∈rs,qA r)->Q (.ref S) H'
section
variable{P:F0b}{w:F0c}{K:Fg}{mg:tF}{base:Heap}{f g:AD}{fd gd:F0a}
def T9:Ad ["_law_cell_here","_law_many","_law_pile"] ["_law_cell_here","_law_many"] (AO Kz):=Bk
def Sg(F:Fn K mg "_law_start" Kz ["_law_cell_here","_law_many"] f fd)(El:Fn K mg "_law_part" JR ["_law_pile"] g gd) (MF:AI P w K mg base Ag 3 g gd ["_law_pile"] Ru)(Ct:mg "range" = none):AI P w K mg base Ag 4 f fd ["_law_cell_here","_law_many"] VP:=by
 have sc:=T9;refine F.F.ok (k:=3) sc Do DP
 .obtain⟨cell,many,rfl,_⟩:=h
  rfl
 obtain⟨cell,many,rfl,hm4,q⟩:=h;refine⟨_,(AM (Ai (i:=2) sc.nd rfl (Or.inr rfl) (IP (AE Fa AQ)))
 (AR (Aw (Dg [".0","_law_k","_law_pile"] 1 [none,none,some 2] (Hj rfl Ct (AE Fy AQ)) (fun _ _ _ _ _=>D4) (fun _ _ _ _ _=>(A3 El MF hr rfl (AE (pv 2) AQ))))))),?_⟩
 refine⟨_,rfl,Io (show 1<=60 by decide),fun l U=>?_⟩;have Z:=AZ U (.lst [.int cell]);have I:upd H l (.lst [.int cell]) l=some (.lst [.int cell]):=AN;generalize upd H l (.lst [.int cell])=H0 at Z I;refine⟨_,rfl,(many:Int),rfl,by lia,by lia,fun D Y=>E2 (n:=(many:Int).toNat) (Qq l H0) (gG I Y) ?_ ?_⟩
 .rintro i ys H1 hi d M;refine⟨hi,NF (n:=60) (by rw[d.2.2.1];lia) AS,fun x H' y=>?_⟩;obtain⟨rfl,rfl⟩:=y;obtain⟨y1,T⟩:=d.2.1;unfold Gm;refine C8 ⟨_,rfl,l,y1,rfl,T,fun p r y2 H2 e2 hp r6 r7=>?_⟩;obtain⟨k1,k2⟩:=W4 I Y d M e2 hp r6 r7;exact⟨k1,DZ hi k2⟩
 .rintro ys H1 ⟨e1,_,hyl,rs,hrl,R,dr⟩ M;exact⟨aG _,q D H1 ys rs (fun b o z=>e1 _ _ (AV z U) (Z _ _ z)) M dr AC R⟩
end
theorem Vn:∀ {ps:List Int},(∀p∈ps,(0:Int)<=p)->(ps.map PyData.int).all Hi=true
 |[],_=>rfl
 |p::ps,h=>by
  rw[(BA),List.all_cons,Vn (fun q g=>h q (aK _ g)),Bool.and_true,Hi];exact bL (h p aO)
def SQ.is{many:Nat}{t:IT.Tm}(h:SQ many t):Ge many (PZ t)=true:=by
 obtain⟨⟨T,_⟩,R,r,M,I,_,_⟩:=h;have hn:r.num≠0:=fun z=>I (Rat.num_eq_zero.mp z);rw[PZ,Ge,Gz,Vn fun p g=>(R p g).1,(Af),decide_eq_true (by rw[T]),M];show(true&&true&&(EX (BG r) && !decide (r.num=0)))=true;rw[cu,decide_eq_false hn];rfl
theorem U8:∀ps:List Int,(ps.map PyData.int).map intD=ps
 |[]=>rfl
 |p::ps=>by rw[(BA),(BA),U8 ps,intD]
def cg(t:IT.Tm):Uq (PZ t)=t.1:=by rw[PZ,Uq,UL,U8]
def Jk.is{many:Nat}{us:List IT.Tm}(h:Jk many us):FO many (.list (us.map PZ))=true:=by
 obtain⟨_,M,I⟩:=h;rw[FO,(J6)];intro k g;rw[List.mem_range,(Af)]at g;unfold IU;rw[(BP),List.getElem?_eq_getElem g,Option.map_some];simp only;rw[(M _ (List.getElem_mem g)).is,(JA)];by_cases z:k=0
 .rw[decide_eq_true z,Bool.true_or]
 .rw[(BP),List.getElem?_eq_getElem (show k-1<us.length by lia),Option.map_some];simp only;rw[cg,cg,List.pairwise_iff_getElem.mp I (k-1) k AC g AC,Bool.or_true]
def eV{many:Nat}{uss:List (List IT.Tm)}(I:uss.length=many)(h1:1<=many)(h:∀us∈uss,Jk many us):Eh (.list ((uss.map fun us=>us.map Lj).map AH))=true:=by
 have e:(uss.map fun us=>us.map Lj).map AH=uss.map Jh:=by
  rw[(CZ)];exact az fun us g=>(X0 (h us g)).symm
 rw[e,Eh,(Af),I,decide_eq_false AC,Bool.not_false,(JA),(J6)];intro e M;obtain⟨us,g,rfl⟩:=aI.mp M;exact(h us g).is
def mO{f g:sr}{δ:Dv}{q:tG}(h:f δ=some (.bool true))(k:g δ=q):mU f g δ=q:=by
 show(f δ).bind _=q;rw[h];show(if true=true then g δ else some (.bool false))=q;rw[if_pos rfl];exact k
def ZQ:F3 true (word "change") (word "change")=some (.bool false):=by kernel_rfl
def qT:F3 true (word "start") (word "start")=some (.bool false):=by kernel_rfl
def gE:F3 true (word "tree") (word "tree")=some (.bool false):=by kernel_rfl
def eq_nil:F3 false (.list []) (.list [])=some (.bool true):=by kernel_rfl
def iH{x b:Int}{j:Nat}{f:sr}{δ:Dv}(h:f δ=some (.int x))(g:0<b)(e:x % b=j):Ap JG f (fC (.int b)) δ=some (.int (j:Nat)):=(A4 h rfl (mod_is g)).trans (by rw[e])
def lS{f:sr}{δ:Dv}{R:sx}(h:f δ=some (.list R)):Mi f (Km (fC (.int 1))) KW δ=some (.list (R.drop 1)):=by
 show(f δ).bind _=_;rw[h,(Fz)];show some (PyData.list (cutD R (some ((1:Nat):Int)) none))=_;rw[WM]
def RX(x:Int)(b:Nat)(h:0<b):∃j:Nat,j<b/\x % (b:Int)=(j:Nat):=by
 have I:=Int.emod_nonneg x (show(b:Int)≠0 by lia);have g:=Int.emod_lt_of_pos x (show(0:Int)<b by lia);exact⟨(x % (b:Int)).toNat,by lia,by lia⟩
section
variable{uss:FB}{rs:tQ}{n:Nat}(g:Gd uss rs n)
include g
theorem Gd.sU(ns:tJ):SK B9 X1 VC [.d (ND ns),.d (.int (n:Nat)),.d (A6 uss),.d (.list (AY rs)),.no,.no,.no,.no,.no,.no]=some (.rt (.bool true)):=by
 obtain⟨x6,hx6⟩:=O4 ns 6 AS;obtain⟨x7,hx7⟩:=O4 ns 7 AS;obtain⟨x8,hx8⟩:=O4 ns 8 AS;obtain⟨x9,hx9⟩:=O4 ns 9 AS;have I:(uss.map AH).length=n:=by rw[(Af)];exact g.ul
 have M:(AY rs).length=n:=by unfold AY;rw[(Af)];exact g.rl
 have n3:=g.n3;obtain⟨j6,h6,e6⟩:=RX x6 7 AS;obtain⟨j7,h7,e7⟩:=RX x7 10 AS;obtain⟨j8,h8,e8⟩:=RX x8 5 AS;obtain⟨j9,h9,e9⟩:=RX x9 5 AS;obtain⟨N,hN,U,T⟩:=jX (Ht uss) j6 h6;obtain⟨O,hO,Z⟩:=lX j7 h7;obtain⟨t,hT,ht⟩:=jZ j8 h8;obtain⟨W,hW,w1,w2⟩:=fZ (Lb rs) M g.n1 j9 h9;have R:(A6 uss).canLay0=true:=GZ (Ht uss);have Y:D5 W (uss.map AH).length=false:=by rw[I];exact w2
 obtain⟨y1,d1⟩:=g.bc ht;obtain⟨y2,d2⟩:=g.ba ht;have rep:Dw (.list [GC 2 2]) (.int (n:Nat))=some (.list (List.replicate n [GC 2 2]).flatten):=by
  show Uj (.list [GC 2 2]) (.int (n:Nat))=_;refine(if_pos ⟨?_,by lia,by lia⟩).trans (by rw[(N3)]);rw[(N3)];show 1*n<=1000
  lia
 unfold SK;refine Av (Ck (y:=N) (A4 (x:=.list (eE (uss.map AH))) (y:=.int (j6:Nat)) (Xs (Ab rfl (Ab rfl (Ab rfl (Ab rfl (Ab rfl (Ab (A4 (x:=A6 uss) (y:=.list [.int 0]) rfl rfl (add_l (by rw[I];show n+1<=1000;lia))) rfl)))))) (show 7<=1000 by decide)) (iH (Ac (xs:=[ND ns,.int (6:Nat)]) rfl hx6) AS e6) (Ew hN))) ?_;refine Av (Ck (y:=.list ZN) rfl) ?_;refine Av (Ck (y:=O) (A4 (x:=.list ZN) (y:=.int (j7:Nat)) rfl (iH (Ac (xs:=[ND ns,.int (7:Nat)]) rfl hx7) AS e7) (Ew hO))) ?_;refine Av (Ck (y:=tD t) (A4 (x:=.list (Eo.map tD)) (y:=.int (j8:Nat)) rfl (iH (Ac (xs:=[ND ns,.int (8:Nat)]) rfl hx8) AS e8) (Ew hT))) ?_;refine Av (Ck (y:=W) (A4 (x:=.list (dm (AY rs) n)) (y:=.int (j9:Nat)) (Xs (Ab (A4 (x:=.list (AY rs)) (y:=.list [GC 0 1]) rfl rfl (add_l (by rw[M];show n+1<=1000;lia))) (Ab (lS rfl) (Ab rfl (Ab rfl (Ab (A4 (x:=.list [GC 2 2]) (y:=.int (n:Nat)) rfl rfl rep) rfl))))) (show 5<=1000 by decide)) (iH (Ac (xs:=[ND ns,.int (9:Nat)]) rfl hx9) AS e9) (Ew hW))) ?_;refine Av (ID (RJ (Cb (x:=word "change") (y:=word "change") (Ac (xs:=[N,O]) rfl (dW U T)) rfl ZQ) (Cb (x:=word "change") (y:=word "change") (Ac (xs:=[N,tD t]) rfl (dW U T)) rfl ZQ)) rfl) ?_;refine Av (ID (Cb (x:=word "tree") (y:=word "tree") (Ac (xs:=[A6 uss,O]) rfl (jG R g.good Z)) rfl gE) rfl) ?_;refine VJ (xs:=[O,tD t]) (fun i δ=>∃l9:L,δ=[.d (ND ns),.d (.int (n:Nat)),.d (A6 uss),.d (.list (AY rs)),.d N,.d (.list ZN),.d O,.d (tD t),.d W,l9]) rfl ⟨_,rfl⟩ ?_ ?_
 .rintro i y δ hy ⟨l9,rfl⟩;exact⟨_,rfl,_,ID (RJ (Cb (x:=word "change") (y:=word "change") (Ac (xs:=[N,y,W]) rfl (Zb U T)) rfl ZQ) (Cb (x:=word "change") (y:=word "change") (Ac (xs:=[N,y,.list (AY rs)]) rfl (Zb U T)) rfl ZQ)) rfl,_,rfl⟩
 .rintro δ ⟨l9,rfl⟩;refine Av (ID (RJ (Cb (x:=word "tree") (y:=word "tree") (Ac (xs:=[A6 uss,O,W]) rfl (Xo R g.good Z)) rfl gE) (Cb (x:=word "tree") (y:=word "tree") (Ac (xs:=[A6 uss,O,.list (AY rs)]) rfl (Xo R g.good Z)) rfl gE)) rfl) ?_;refine Av (ID (Cb (x:=word "start") (y:=word "start") (Ac (xs:=[A6 uss,tD t,W]) rfl (fX R g.good (lR ht) w1 Y)) rfl qT) rfl) ?_;exact E6 (mO (A4 (x:=.list []) (y:=.list []) (Ac (xs:=[A6 uss,tD t]) rfl (oH (Xc d1))) rfl eq_nil) (A4 (x:=.list []) (y:=.list []) (Ac (xs:=[A6 uss,tD t,.list (AY rs)]) rfl (oJ (Xc d2))) rfl eq_nil))
end
def Y7(K:Fg):Sp:=fun vs H Q _=>∃(a:AD) (ns:List Int),vs=[.ref a]/\Aj K H a (ns.map V.int)/\ns.length<=63/\∀H',Q (.bl true) H'
section
variable{P:F0b}{w:F0c}{K:Fg}{mg:tF}{base:Heap}{f g1 g2 g3 g4 g5:AD}{fd gd1 gd2 gd3 gd4 gd5:F0a}
def mC{k:Nat}(hK:UI K=true)(F:Fn K mg "law" Qu ["_law_script"] f fd)(Bi:Fn K mg "_law_cell" Ei ["_law_script","_law_k"] g1 gd1)(HF:Fn K mg "_law_change" Jx ["_law_script","_law_start_here","_law_many","_law_most"] g2 gd2)(Ij:Fn K mg "_law_start" Kz ["_law_cell_here","_law_many"] g3 gd3)(Cq:Fn K mg "_law_flags" Hy ["_law_change_here","_law_tree"] g4 gd4)(Bd:Fn K mg "_law_flags_at" F4 ["_law_change_here","_law_tree","_law_start_here"] g5 gd5) (DC:AI P w K mg base Ag k g1 gd1 ["_law_script","_law_k"] (Sa K))(I:AI P w K mg base Ag k g1 gd1 ["_law_script","_law_k"] (BI B9))(Tq:AI P w K mg base Ag k g2 gd2 ["_law_script","_law_start_here","_law_many","_law_most"] (VO K))(VF:AI P w K mg base Ag k g3 gd3 ["_law_cell_here","_law_many"] VP)(DL:AI P w K mg base Ag k g4 gd4 ["_law_change_here","_law_tree"] (BI X1))(Bq:AI P w K mg base Ag k g5 gd5 ["_law_change_here","_law_tree","_law_start_here"] (BI VC)) (BZ:mg "tuple" = none):AI P w K mg base Ag (k+1) f fd ["_law_script"] (Y7 K):=by
 have sc:=b8;refine F.F.ok (k:=k) sc Do (fun cdv A outer s H vs Q E Y h=>?_)
 .obtain⟨a,ns,rfl,_⟩:=h
  rfl
 obtain⟨a,ns,rfl,hS,h63,q⟩:=h;obtain⟨tt,pt,kt⟩:=fx Bi I Cq DL Bd Bq BZ cdv A outer s H E Y;refine⟨_,(AM (Ai (i:=1) sc.nd rfl AT (Au Ff AU (Au Ma (A3 Bi DC Y rfl (AE Fa (AE AU AQ))) AU)))
  (AM (Ai (i:=2) sc.nd rfl AT (A3 HF Tq Y rfl (AE Fa (AE AU (AE Fy (AE AU AQ))))))
  (AM (Ai (i:=3) sc.nd rfl AT (A3 Ij VF Y rfl (AE (A3 Bi DC Y rfl (AE Fa (AE AU AQ))) (AE Fy AQ)))) pt))),?_⟩
 refine⟨_,rfl,a,ns,0,rfl,hS,by decide,by decide,fun x0=>⟨_,_,rfl,rfl,(by show(0:Int)<3;decide),_,_,rfl,rfl,?_⟩⟩;obtain⟨many,R,hm3,em⟩:∃many:Nat,1<=many/\many<=3/\1+x0 % 3=(many:Int):=⟨(1+x0 % 3).toNat,by lia,by lia,by lia⟩;rw[show((fun i j:Int=>V.int (i+j)) 1 (x0 % 3))=V.int (many:Int) from ai V.int em];have Z:many<=4:=by lia
 refine⟨_,rfl,_,rfl,a,ns,many,rfl,hS,R,Z,fun vC H1 M e1 U Al dC=>?_⟩;have hcd:=eV U R Al;have co:=mT (many:=many) AC Al;have T:(M.map fun us=>us.map Lj).length=many:=by rw[(Af)];exact U
 have dC:DU H1 (.list ((M.map fun us=>us.map Lj).map AH)) vC:=by
  have e:(M.map fun us=>us.map Lj).map AH=M.map Jh:=by
   rw[(CZ)];exact az fun us hu=>(X0 (Al us hu)).symm
  rw[e];exact dC
 generalize M.map (fun us=>us.map Lj)=uss at hcd co T dC;refine⟨_,rfl,a,ns,5,rfl,e1.seq hS,by decide,by decide,fun x5=>⟨_,rfl,x5,many,rfl,Z,fun S H3 xs rs e3 hS3 dS hrl hrf=>?_⟩⟩;have g:Gd uss rs many:=⟨co,R,hm3,T,hrl,hrf,hcd⟩;refine kt _ _ (g.sU ns) H3 H3 H3 H3 _ _ ⟨.refl _,Nw.refl,.refl _,.refl _,rfl,fun i x h=>?_,fun i xs h=>?_,fun i j xs ys _ h=>?_,fun q hq=>by cases hq⟩ fun v G' H' _ _ _ _ dv=>?_
 .rcases i with _|_|_|_|_|_|_|_|_|_|i
  .cases h;exact⟨_,rfl,lj ((kF hK hS).same (e1.trans e3))⟩
  .cases h;exact⟨_,rfl,by rw[Du]⟩
  .cases h;exact⟨_,rfl,(dC.same e3).du⟩
  .cases h;exact⟨_,rfl,(DU.lst hS3 dS).du⟩
  all_goals first|(cases h;done)|(simp at h)
 .rcases i with _|_|_|_|_|_|_|_|_|_|i
  all_goals first|(cases h;done)|(simp at h)
 .rcases i with _|_|_|_|_|_|_|_|_|_|i
  all_goals first|(cases h;done)|(simp at h)
 .rw[Du]at dv;subst dv;exact q H'
end
section
open PySem.W
def fnX{w:F0c}{mg:tF}{h:Heap}(X:(kH w.params).In h)(G:h.Ns mainGlobals mg)(n:String)(i:Nat)(m:String)(t c f:Nat)(ps:tK)
 (ha:nsIn Cl mainGlobals (Str.ofString n)=some (some (.ref f)):=by kernel_rfl)(g:(kH w.params).lookup f=some (fO n i m t c):=by kernel_rfl)(M:codeIn Cl (.ref c) (Str.ofString n)=true:=by kernel_rfl)(I:keepIn Cl (.ref f)=true:=by kernel_rfl)
 (R:∀(kV doc pm:VL) (an:Option AD) (cdv ct:VL) (us:sy),us.length=ps.length->bindArgs (fnOf (Str.ofString n) (Str.ofString n) (Gh (top i)) (DY (top i)) (AO (top i)) .none kV doc pm an cdv ct) ⟨us,[]⟩=pure (ps.zip us):=by first|(exact fun _ _ _ _ _ _ us g=>match us,g with|[_],_=>rfl)|(exact fun _ _ _ _ _ _ us g=>match us,g with|[_,_],_=>rfl)|(exact fun _ _ _ _ _ _ us g=>match us,g with|[_,_,_],_=>rfl)|(exact fun _ _ _ _ _ _ us g=>match us,g with|[_,_,_,_],_=>rfl)|(exact fun _ _ _ _ _ _ us g=>match us,g with|[_,_,_,_,_],_=>rfl)|(exact fun _ _ _ _ _ _ us g=>match us,g with|[],_=>rfl)) :
  Fn Cl mg (Str.ofString n) (top i) ps f (fnOf (Str.ofString n) (Str.ofString n) (Gh (top i)) (DY (top i)) (AO (top i)) .none .none .none (.str (Str.ofString m) t) none (.ref c) .none) :=
 ⟨Zs g M I,(Zs (st:=top i) g M I).binds R,mg_of X G ha⟩
set_option maxHeartbeats 4000000 in
def qb(w:F0c)(mg:tF)(fa:AD)(h:Heap)(X:(kH w.params).In h)(G:h.Ns mainGlobals mg)(hfa:mg "law" = some (.ref fa)):∃fd:F0a,(∀(s:SD) (v:VL),BindsTo s fd ⟨[v],[]⟩ [("_law_script",v)])/\∀base:Heap,(kH w.params).In base->base.Ns mainGlobals mg->AI CQ.prog w Cl mg base Ag 19 fa fd ["_law_script"] (Y7 Cl):=by
 have e:=hfa.symm.trans (mg_of X G (v:=.ref 527) (by kernel_rfl));cases e;have B8:=fnX X G "fraction_of" 15 "stepgrove.fracs" 399 177 178 ["top","bottom"];have EC:=fnX X G "frac_times" 16 "stepgrove.fracs" 399 184 185 FI;have Df:=fnX X G "is_fraction" 17 "stepgrove.fracs" 399 191 192 ["thing"];have F5:=fnX X G "are_fractions" 18 "stepgrove.fracs" 399 198 199 ["thing"];have Ef:=fnX X G "is_whole" 19 "stepgrove.fracs" 399 205 206 ["thing"];have A5:=fnX X G "greatest_divisor" 20 "stepgrove.fracs" 399 212 213 FI;have Bg:=fnX X G "common_bottom" 21 "stepgrove.fracs" 399 219 220 ["bottoms"];have D6:=fnX X G "frac_total" 22 "stepgrove.fracs" 399 224 225 ["some"];have Be:=fnX X G "power_of" 23 "stepgrove.fracs" 399 231 232 ["base","power"];have Ed:=fnX X G "poly_sum" 25 "stepgrove.polys" 477 238 239 FI;have GW:=fnX X G "poly_times" 26 "stepgrove.polys" 477 245 246 FI;have Dh:=fnX X G "poly_scaled" 27 "stepgrove.polys" 477 250 251 ["some","part"];have DJ:=fnX X G "poly_slope" 28 "stepgrove.polys" 477 255 256 ["some","k"];have Lo:=fnX X G "is_poly" 29 "stepgrove.polys" 477 262 263 Fh;have La:=fnX X G "is_term" 30 "stepgrove.polys" 477 269 270 Fh;have Im:=fnX X G "are_powers" 31 "stepgrove.polys" 477 276 277 Fh;have Eu:=fnX X G "refuse_no_start" 32 "stepgrove.polys" 477 283 284 Fh;have Gi:=fnX X G "refuse_start" 33 "stepgrove.polys" 477 290 291 [];have KS:=fnX X G "one_less" 34 "stepgrove.polys" 477 297 298 ["powers","k"];have F8:=fnX X G "powers_joined" 35 "stepgrove.polys" 477 302 303 ["powers","more"];have FX:=fnX X G "gathered" 36 "stepgrove.polys" 477 309 310 ["terms"];have IX:=fnX X G "worth_at" 37 "stepgrove.polys" 477 314 315 ["some","start"];have Il:=fnX X G "term_worth" 38 "stepgrove.polys" 477 321 322 ["powers","part","start"];have FL:=fnX X G "is_tree" 40 "stepgrove.trees" 598 328 329 ["thing"];have CY:=fnX X G "refuse_no_tree" 41 "stepgrove.trees" 598 335 336 ["thing"];have Bj:=fnX X G "knots_within" 42 "stepgrove.trees" 598 340 341 ["tree"];have Kd:=fnX X G "grain_of" 44 "stepgrove.wholes" 622 345 346 ["start"];have GQ:=fnX X G "pace_of" 45 "stepgrove.wholes" 622 352 353 ["change","grain"];have HG:=fnX X G "whole_start" 46 "stepgrove.wholes" 622 357 358 ["start","grain"];have JQ:=fnX X G "tops_over" 47 "stepgrove.wholes" 622 362 363 ["some","bottom"];have C4:=fnX X G "whole_change" 48 "stepgrove.wholes" 622 367 368 ["change","grain"];have IW:=fnX X G "whole_poly" 49 "stepgrove.wholes" 622 374 375 ["some","bottom","grain","greatest"];have Co:=fnX X G "speeds_bottom" 50 "stepgrove.wholes" 622 379 380 ["change"];have CU:=fnX X G "greatest_power" 51 "stepgrove.wholes" 622 386 387 ["change"];have JV:=fnX X G "is_change" 53 "stepgrove.changes" 687 393 394 ["thing"];have HE:=fnX X G "bent_change" 54 "stepgrove.changes" 687 398 399 ["change","tree"];have Ls:=fnX X G "bent_at" 55 "stepgrove.changes" 687 403 404 ["change","tree","start"]
 have B7:=fnX X G "refuse_no_change" 56 "stepgrove.changes" 687 410 411 ["thing"];have DM:=fnX X G "bent_polys" 57 "stepgrove.changes" 687 415 416 ["change","tree","known"];have CD:=fnX X G "along_boughs" 58 "stepgrove.changes" 687 422 423 ["some","boughs"];have Cv:=fnX X G "bent_worths" 59 "stepgrove.changes" 687 427 428 ["change","tree","start","known"];have G6:=fnX X G "pushed_by" 60 "stepgrove.changes" 687 434 435 ["some","speeds"];have Bi:=fnX X G "_law_cell" 62 "law_stepgrove_k22_refused_bending" 751 441 442 ["_law_script","_law_k"];have CL:=fnX X G "_law_take" 63 "law_stepgrove_k22_refused_bending" 751 448 449 ["_law_pile","_law_size"];have HI:=fnX X G "_law_shared" 64 "law_stepgrove_k22_refused_bending" 751 455 456 ["_law_one","_law_other"];have JW:=fnX X G "_law_frac" 65 "law_stepgrove_k22_refused_bending" 751 462 463 ["_law_top","_law_bottom"];have El:=fnX X G "_law_part" 68 "law_stepgrove_k22_refused_bending" 751 483 484 ["_law_pile"];have JO:=fnX X G "_law_poly" 69 "law_stepgrove_k22_refused_bending" 751 490 491 ["_law_pile","_law_many","_law_most"];have HF:=fnX X G "_law_change" 70 "law_stepgrove_k22_refused_bending" 751 495 496 ["_law_script","_law_start_here","_law_many","_law_most"];have Ij:=fnX X G "_law_start" 71 "law_stepgrove_k22_refused_bending" 751 500 501 ["_law_cell_here","_law_many"];have Dc:=fnX X G "_law_called" 72 "law_stepgrove_k22_refused_bending" 751 505 506 ["_law_caught"];have Cq:=fnX X G "_law_flags" 73 "law_stepgrove_k22_refused_bending" 751 512 513 ["_law_change_here","_law_tree"];have Bd:=fnX X G "_law_flags_at" 74 "law_stepgrove_k22_refused_bending" 751 519 520 ["_law_change_here","_law_tree","_law_start_here"];have pM:=fnX X G "law" 75 "law_stepgrove_k22_refused_bending" 751 526 527 ["_law_script"];have Bw:mg "len" = none:=mg_none_of X G (by kernel_rfl);have Ct:mg "range" = none:=mg_none_of X G (by kernel_rfl);have NB:mg "abs" = none:=mg_none_of X G (by kernel_rfl);have AX:mg "isinstance" = none:=mg_none_of X G (by kernel_rfl);have ZU:mg "int" = none:=mg_none_of X G (by kernel_rfl);have WE:mg "bool" = none:=mg_none_of X G (by kernel_rfl);have BZ:mg "tuple" = none:=mg_none_of X G (by kernel_rfl);have Ik:mg "list" = none:=mg_none_of X G (by kernel_rfl);have BJ:mg "enumerate" = none:=mg_none_of X G (by kernel_rfl);have Gn:mg "sum" = none:=mg_none_of X G (by kernel_rfl);have Kc:mg "zip" = none:=mg_none_of X G (by kernel_rfl);have JL:mg "sorted" = none:=mg_none_of X G (by kernel_rfl);have sk:mg "all" = none:=mg_none_of X G (by kernel_rfl);have Y8:mg "max" = none:=mg_none_of X G (by kernel_rfl);have K4:mg "ValueError" = none:=mg_none_of X G (by kernel_rfl);have a_GroveError:PySem.W.nsIn Cl mainGlobals "GroveError" = some (some (.ref 24)):=by kernel_rfl
 have a_NoBottom:PySem.W.nsIn Cl mainGlobals "NoBottom" = some (some (.ref 37)):=by kernel_rfl
 have a_NoTree:PySem.W.nsIn Cl mainGlobals "NoTree" = some (some (.ref 49)):=by kernel_rfl
 have a_NoChange:PySem.W.nsIn Cl mainGlobals "NoChange" = some (some (.ref 61)):=by kernel_rfl
 have a_NoStart:PySem.W.nsIn Cl mainGlobals "NoStart" = some (some (.ref 73)):=by kernel_rfl
 have a_NoTable:PySem.W.nsIn Cl mainGlobals "NoTable" = some (some (.ref 85)):=by kernel_rfl
 have a_NoName:PySem.W.nsIn Cl mainGlobals "NoName" = some (some (.ref 97)):=by kernel_rfl
 have a_NoWeighing:PySem.W.nsIn Cl mainGlobals "NoWeighing" = some (some (.ref 109)):=by kernel_rfl
 have a_NotAlike:PySem.W.nsIn Cl mainGlobals "NotAlike" = some (some (.ref 121)):=by kernel_rfl
 have a_NoParts:PySem.W.nsIn Cl mainGlobals "NoParts" = some (some (.ref 133)):=by kernel_rfl
 have a_TooMany:PySem.W.nsIn Cl mainGlobals "TooMany" = some (some (.ref 145)):=by kernel_rfl
 have a_NoText:PySem.W.nsIn Cl mainGlobals "NoText" = some (some (.ref 157)):=by kernel_rfl
 have a_NoLine:PySem.W.nsIn Cl mainGlobals "NoLine" = some (some (.ref 169)):=by kernel_rfl
 have FD:=bK X G a_GroveError;have M8:=bK X G a_NoBottom;have Mn:=bK X G a_NoTree;have Kn:=bK X G a_NoChange;have LZ:=bK X G a_NoStart;have OB:=bK X G a_NoTable;have P5:=bK X G a_NoName;have K9:=bK X G a_NoWeighing;have NI:=bK X G a_NotAlike;have Nh:=bK X G a_NoParts;have OG:=bK X G a_TooMany;have QV:=bK X G a_NoText;have QQ:=bK X G a_NoLine;have X_NoChange:Exc Cl mg "NoChange" 61:=⟨Kn,by kernel_rfl⟩;have be_NoChange:Fx Cl 61 24 true:=⟨by kernel_rfl,by kernel_rfl,by kernel_rfl,by kernel_rfl⟩;have g:CM Cl 61:=⟨by kernel_rfl,by kernel_rfl,by kernel_rfl,by kernel_rfl,by kernel_rfl,by kernel_rfl,by kernel_rfl,by kernel_rfl⟩;have tV_NoChange:PySem.W.kitOne Cl (.ref 61) (.type "ValueError")=some true:=by kernel_rfl
 have t_NoChange_GroveError:PySem.W.kitOne Cl (.ref 61) (.ref 24)=some true:=by kernel_rfl
 have t_NoChange_NoBottom:PySem.W.kitOne Cl (.ref 61) (.ref 37)=some false:=by kernel_rfl
 have t_NoChange_NoTree:PySem.W.kitOne Cl (.ref 61) (.ref 49)=some false:=by kernel_rfl
 have Z:PySem.W.kitOne Cl (.ref 61) (.ref 61)=some true:=by kernel_rfl
 have t_NoChange_NoStart:PySem.W.kitOne Cl (.ref 61) (.ref 73)=some false:=by kernel_rfl
 have t_NoChange_NoTable:PySem.W.kitOne Cl (.ref 61) (.ref 85)=some false:=by kernel_rfl
 have t_NoChange_NoName:PySem.W.kitOne Cl (.ref 61) (.ref 97)=some false:=by kernel_rfl
 have R:PySem.W.kitOne Cl (.ref 61) (.ref 109)=some false:=by kernel_rfl
 have Y:PySem.W.kitOne Cl (.ref 61) (.ref 121)=some false:=by kernel_rfl
 have t_NoChange_NoParts:PySem.W.kitOne Cl (.ref 61) (.ref 133)=some false:=by kernel_rfl
 have t_NoChange_TooMany:PySem.W.kitOne Cl (.ref 61) (.ref 145)=some false:=by kernel_rfl
 have t_NoChange_NoText:PySem.W.kitOne Cl (.ref 61) (.ref 157)=some false:=by kernel_rfl
 have t_NoChange_NoLine:PySem.W.kitOne Cl (.ref 61) (.ref 169)=some false:=by kernel_rfl
 have X_NoStart:Exc Cl mg "NoStart" 73:=⟨LZ,by kernel_rfl⟩;have be_NoStart:Fx Cl 73 24 true:=⟨by kernel_rfl,by kernel_rfl,by kernel_rfl,by kernel_rfl⟩;have I:CM Cl 73:=⟨by kernel_rfl,by kernel_rfl,by kernel_rfl,by kernel_rfl,by kernel_rfl,by kernel_rfl,by kernel_rfl,by kernel_rfl⟩;have tV_NoStart:PySem.W.kitOne Cl (.ref 73) (.type "ValueError")=some true:=by kernel_rfl
 have t_NoStart_GroveError:PySem.W.kitOne Cl (.ref 73) (.ref 24)=some true:=by kernel_rfl
 have t_NoStart_NoBottom:PySem.W.kitOne Cl (.ref 73) (.ref 37)=some false:=by kernel_rfl
 have t_NoStart_NoTree:PySem.W.kitOne Cl (.ref 73) (.ref 49)=some false:=by kernel_rfl
 have t_NoStart_NoChange:PySem.W.kitOne Cl (.ref 73) (.ref 61)=some false:=by kernel_rfl
 have t_NoStart_NoStart:PySem.W.kitOne Cl (.ref 73) (.ref 73)=some true:=by kernel_rfl
 have t_NoStart_NoTable:PySem.W.kitOne Cl (.ref 73) (.ref 85)=some false:=by kernel_rfl
 have t_NoStart_NoName:PySem.W.kitOne Cl (.ref 73) (.ref 97)=some false:=by kernel_rfl
 have T:PySem.W.kitOne Cl (.ref 73) (.ref 109)=some false:=by kernel_rfl
 have t_NoStart_NotAlike:PySem.W.kitOne Cl (.ref 73) (.ref 121)=some false:=by kernel_rfl
 have t_NoStart_NoParts:PySem.W.kitOne Cl (.ref 73) (.ref 133)=some false:=by kernel_rfl
 have t_NoStart_TooMany:PySem.W.kitOne Cl (.ref 73) (.ref 145)=some false:=by kernel_rfl
 have t_NoStart_NoText:PySem.W.kitOne Cl (.ref 73) (.ref 157)=some false:=by kernel_rfl
 have t_NoStart_NoLine:PySem.W.kitOne Cl (.ref 73) (.ref 169)=some false:=by kernel_rfl
 have X_NoTree:Exc Cl mg "NoTree" 49:=⟨Mn,by kernel_rfl⟩;have be_NoTree:Fx Cl 49 24 true:=⟨by kernel_rfl,by kernel_rfl,by kernel_rfl,by kernel_rfl⟩;have M:CM Cl 49:=⟨by kernel_rfl,by kernel_rfl,by kernel_rfl,by kernel_rfl,by kernel_rfl,by kernel_rfl,by kernel_rfl,by kernel_rfl⟩;have tV_NoTree:PySem.W.kitOne Cl (.ref 49) (.type "ValueError")=some true:=by kernel_rfl
 have t_NoTree_GroveError:PySem.W.kitOne Cl (.ref 49) (.ref 24)=some true:=by kernel_rfl
 have t_NoTree_NoBottom:PySem.W.kitOne Cl (.ref 49) (.ref 37)=some false:=by kernel_rfl
 have t_NoTree_NoTree:PySem.W.kitOne Cl (.ref 49) (.ref 49)=some true:=by kernel_rfl
 have t_NoTree_NoChange:PySem.W.kitOne Cl (.ref 49) (.ref 61)=some false:=by kernel_rfl
 have t_NoTree_NoStart:PySem.W.kitOne Cl (.ref 49) (.ref 73)=some false:=by kernel_rfl
 have t_NoTree_NoTable:PySem.W.kitOne Cl (.ref 49) (.ref 85)=some false:=by kernel_rfl
 have t_NoTree_NoName:PySem.W.kitOne Cl (.ref 49) (.ref 97)=some false:=by kernel_rfl
 have U:PySem.W.kitOne Cl (.ref 49) (.ref 109)=some false:=by kernel_rfl
 have t_NoTree_NotAlike:PySem.W.kitOne Cl (.ref 49) (.ref 121)=some false:=by kernel_rfl
 have t_NoTree_NoParts:PySem.W.kitOne Cl (.ref 49) (.ref 133)=some false:=by kernel_rfl
 have t_NoTree_TooMany:PySem.W.kitOne Cl (.ref 49) (.ref 145)=some false:=by kernel_rfl
 have t_NoTree_NoText:PySem.W.kitOne Cl (.ref 49) (.ref 157)=some false:=by kernel_rfl
 have t_NoTree_NoLine:PySem.W.kitOne Cl (.ref 49) (.ref 169)=some false:=by kernel_rfl
 have hK:UI Cl=true:=by kernel_rfl
 refine⟨fnOf (Str.ofString "law") (Str.ofString "law") (Gh (top 75)) (DY (top 75)) (AO (top 75)) .none .none .none (.str (Str.ofString "law_stepgrove_k22_refused_bending") 751) none (.ref 526) .none,fun s v=>.of_eq rfl,fun base _ _=>?_⟩;have ZY:=Nc (P:=CQ.prog) (w:=w) (base:=base) A5 NB;have lu:=SV B8 A5 ZY;have kf:=XA (P:=CQ.prog) (w:=w) (base:=base) Ef AX ZU WE;have Zc:=SX Df Ef A5 kf ZY AX BZ Bw;have q9:=Px F5 Df Zc AX Ik;have oB:=T6 Im Ef kf AX BZ Bw;have qk:=Yz La Im Df oB Zc AX BZ Bw;have qj:=Yt Lo La qk AX Ik BJ;have rj:=Uz JV Lo qj AX Ik Bw;have mM:=PC Bg A5 ZY;have UH:=Ww (P:=CQ.prog) (w:=w) (base:=base) Be;have qa:=W6 Kd Bg mM;have lA:=QY Co Bg mM;have m9:=PF (P:=CQ.prog) (w:=w) (base:=base) CU Y8 Gn;have rS:=T8 IW Be UH Gn;have rV:=RH C4 Co CU IW lA (m9.mono) (rS.mono);have rp:=Yv GQ Co CU Be lA (m9.mono) (UH.mono);have p5:=QA Bg A5 ZY;have gy:=Rn D6 Bg B8 p5 lu Gn;have rC:=SG Il Be UH Kc;have ql:=VM IX D6 Il gy (rC.mono);have rD:=Ws (k:=6) FX D6 (gy.mono) JL;have dG:=U5 (P:=CQ.prog) (w:=w) (base:=base) CL;have fi:=Rh (P:=CQ.prog) (w:=w) (base:=base) HI NB;have lE:=VT JW HI fi;have Zn:=UY (P:=CQ.prog) (w:=w) (base:=base) Bi Bw Ct;have d_cell:=Ur (P:=CQ.prog) (w:=w) (base:=base) (k:=9) Bi Bw Ct;have a9:=Wk El CL JW (dG.mono) lE;have rG:=Uh JO CL El (dG.mono) a9 Ct JL BZ;have qU:=SR HF Bi JO (Zn.mono) rG Ct;have rA:=Sg Ij El a9 Ct;have Ly:=qD (q:=Eh) rj (fun l d v H Q E hd hq=>⟨l,d,v,rfl,hd,hq⟩);have IM:=qD (q:=Cg) q9 (fun l d v H Q E hd hq=>⟨l,d,v,rfl,hd,hq H (.refl H)⟩);have Cu:=rT lu;have Gb:=qQ rD;have NJ:=rH ql;have D0:=rB rV;have Hr:=qr rp;have M5:=rN qa;have CF:=qW UH;have IA:=Pt (P:=CQ.prog) (w:=w) (base:=base) (k:=0) F8 BZ Kc;have Mz:=W9 (P:=CQ.prog) (w:=w) (base:=base) (k:=0) KS;have Ez:=Tg (P:=CQ.prog) (w:=w) (base:=base) (k:=6) EC B8 (Cu.mono);have Dr:=Wr (P:=CQ.prog) (w:=w) (base:=base) (k:=7) Ed FX (Gb.mono);have E4:=Tz (P:=CQ.prog) (w:=w) (base:=base) (k:=7) GW FX (Gb.mono) F8 (IA.mono);have EH:=Rr (P:=CQ.prog) (w:=w) (base:=base) (k:=7) Dh EC (Ez.mono);have Cr:=Tt (P:=CQ.prog) (w:=w) (base:=base) (k:=7) DJ EC (Ez.mono) KS (Mz.mono);have FA:=Ld (P:=CQ.prog) (w:=w) (base:=base) (k:=8) CD DJ (Cr.mono) Ed (Dr.mono) GW (E4.mono) BJ Bw 3;have L5:=WY (P:=CQ.prog) (w:=w) (base:=base) (k:=8) G6 Dh (EH.mono) DJ (Cr.mono) Ed (Dr.mono) BJ;have JZ:=RF (P:=CQ.prog) (w:=w) (base:=base) (k:=0) FL BJ AX BZ 4;have Cc:=Ll (P:=CQ.prog) (w:=w) (base:=base) (k:=0) Bj Gn 4;have L3:=VZ (P:=CQ.prog) (w:=w) (base:=base) (k:=0) JQ;have J3:=SS (P:=CQ.prog) (w:=w) (base:=base) (k:=1) HG JQ (L3.mono);have GO:=rZ (fun a o=>NV (k:=12) qI o.1 DM CD (FA.mono) 3);have Fq:=rY (fun a o=>MR (k:=9) qI o.1 Cv G6 IX (L5.mono) (NJ.mono) BJ 3);have Ca:=Nd (P:=CQ.prog) (w:=w) (base:=base) (k:=6) B7 JV (Ly.mono) X_NoChange;have C5:=PH (P:=CQ.prog) (w:=w) (base:=base) (k:=6) CY FL (JZ.mono) X_NoTree;have JE:=RE (P:=CQ.prog) (w:=w) (base:=base) (k:=5) Gi X_NoStart;have Gw:=OD (P:=CQ.prog) (w:=w) (base:=base) (k:=6) Eu F5 (IM.mono) Gi (JE.mono) Bw;have J7:=SW (P:=CQ.prog) (w:=w) (base:=base) (k:=16) HE DM (GO.mono) Bj (Cc.mono) GQ (Hr.mono) Dh (EH.mono) Be (CF.mono) B7 (Ca.mono) CY (C5.mono) C4 (D0.mono)
 have Ni:=Yg (P:=CQ.prog) (w:=w) (base:=base) (k:=16) Ls Cv (Fq.mono) B8 (Cu.mono) Kd (M5.mono) Bj (Cc.mono) GQ (Hr.mono) Be (CF.mono) B7 (Ca.mono) Eu (Gw.mono) CY (C5.mono) C4 (D0.mono) HG (J3.mono) Bw;have EJ:=R8 (P:=CQ.prog) (w:=w) (base:=base) (k:=7) Dc K4 AX Kc M8 Kn QQ P5 Nh LZ OB QV Mn K9 NI OG (HN (c:=37) M g I t_NoTree_NoBottom t_NoChange_NoBottom t_NoStart_NoBottom) (HN (c:=61) M g I t_NoTree_NoChange Z t_NoStart_NoChange) (HN (c:=169) M g I t_NoTree_NoLine t_NoChange_NoLine t_NoStart_NoLine) (HN (c:=97) M g I t_NoTree_NoName t_NoChange_NoName t_NoStart_NoName) (HN (c:=133) M g I t_NoTree_NoParts t_NoChange_NoParts t_NoStart_NoParts) (HN (c:=73) M g I t_NoTree_NoStart t_NoChange_NoStart t_NoStart_NoStart) (HN (c:=85) M g I t_NoTree_NoTable t_NoChange_NoTable t_NoStart_NoTable) (HN (c:=157) M g I t_NoTree_NoText t_NoChange_NoText t_NoStart_NoText) (HN (c:=49) M g I t_NoTree_NoTree t_NoChange_NoTree t_NoStart_NoTree) (HN (c:=109) M g I U R T) (HN (c:=121) M g I t_NoTree_NotAlike Y t_NoStart_NotAlike) (HN (c:=145) M g I t_NoTree_TooMany t_NoChange_TooMany t_NoStart_TooMany) (oj M g I tV_NoTree tV_NoChange tV_NoStart);have bb:∀C:AD,C∈refs->Fx Cl C 24 true:=fun C h=>by
  rcases aN.mp h with rfl|h
  .exact be_NoTree
  rcases aN.mp h with rfl|h
  .exact be_NoChange
  rw[List.mem_singleton.mp h];exact be_NoStart
 have DL:=Tp (k:=17) Cq Dc (EJ.mono) HE (V5 refs J7) FD (fun ds C h=>bb C (XX h));have Bq:=Pr (k:=17) Bd Dc (EJ.mono) Ls (V5 refs Ni) FD (fun ds C h=>bb C (XX h));exact mC (k:=18) hK pM Bi HF Ij Cq Bd (Zn.mono) (d_cell.mono) (qU.mono) (rA.mono) (DL.mono) (Bq.mono) BZ
def walkX:WalkO qX [] (XL qX []) hX.says CQ.row.toRowW dX [] (fun f vs=>PySem.call f vs) :=
 L2.jf (l:=CQ) (n:=63) (k:=19) (x := "_law_script") (CX:=fun _=>Ag) (K:=kH) (sp:=fun w=>Y7 Cl) rfl AS rfl ⟨rfl,by decide,by decide⟩ (fun w mg h X G H d e=>by rw[mg_none_of X G (by kernel_rfl)]at e;cases e) (fun w h Y=>kIn_of Y) qb (fun _ _ a ns g _ I=>⟨a,ns,rfl,I,g,fun _=>rfl⟩) fun _ _ _ _ _ z=>z
end
end Q22
open PySem PySem.W PyProof.Rows
set_option maxRecDepth 100000 in
theorem PySem.Challenge.cw_stepgrove_k22_refused_bending_holds : PySem.Challenge.rw_stepgrove_k22_refused_bending.Holds := by
  refine Q22.openX ?hw Q22.walkX
  w_witness2
#print axioms PySem.Challenge.cw_stepgrove_k22_refused_bending_holds
