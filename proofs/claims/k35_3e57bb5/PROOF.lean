import PyProof.Rows.All
import Wide.All
import OpenK.AllK
import Wide.FinOn
import Lean
import PyProof.EqAt
import PyProof.EqKinds
import PyProof.TupleCall
import PySem.Challenge.RW_stepgrove_k35_steps_power_by_power
set_option Elab.async false
set_option linter.all false
set_option maxRecDepth 100000
set_option maxHeartbeats 4000000
abbrev aA:=@PySem.wpAny_bind
abbrev aB:=@List.getElem?_eq_some_iff
abbrev aC:=@PySem.wpAny_pure
abbrev aD:=@PySem.Heap.get?_push_of_some
abbrev aE:=@Option.bind_eq_some_iff
abbrev aF:=@PySem.Heap.lt_size
abbrev aG:=@Nat.le_refl
abbrev aH:=@Option.map_eq_some_iff
abbrev aI:=@List.getElem?_eq_getElem
abbrev aJ:=@List.mem_of_getElem?
abbrev aK:=@PySem.PassesOwn.never
abbrev aL:=@List.mem_map
abbrev aM:=@Bool.false_ne_true
abbrev aN:=@PyProof.Rows.boot_isinstance
abbrev aO:=@Nat.ne_of_lt
abbrev aP:=@Nat.lt_of_lt_of_le
abbrev aQ:=@Nat.lt_of_le_of_lt
abbrev aR:=@Nat.le_trans
abbrev aS:=@List.mem_cons
abbrev aT:=@List.mem_append
abbrev aU:=@PySem.Heap.get?_push_size
abbrev aV:=@List.mem_cons_of_mem
abbrev aW:=@List.map_congr_left
abbrev aX:=@Nat.mul_le_mul_left
abbrev aY:=@Option.some.inj
abbrev aZ:=@PySem.wpAny_newObj_type
abbrev aa:=@List.getElem_mem
abbrev ab:=@PySem.F.plainAttrs_list
abbrev ae:=@of_decide_eq_true
abbrev af:=@Bool.eq_false_iff
abbrev ag:=@List.mem_cons_self
abbrev ah:=@List.mem_append_right
abbrev ai:=@PySem.boot_len
abbrev aj:=@PySem.wpAny_mono
abbrev ak:=@PyProof.Rows.boot_list
abbrev ao:=@PySem.wpAny_setField_rec
abbrev aq:=@PySem.wpAny_field
abbrev ar:=@Nat.zero_le
abbrev au:=@PySem.wpAny_callSpecial?_slot
abbrev av:=@List.mem_range
abbrev ax:=@List.getElem?_of_mem
abbrev ay:=@PySem.F.slot_list_append
abbrev az:=@PySem.F.type_list_append
abbrev bA:=@PySem.wpAny_call_entry
abbrev bC:=@Nat.ne_of_gt
abbrev bD:=@congrArg
abbrev bE:=@PyProof.Rows.boot_tuple
abbrev bF:=@List.mem_append_left
abbrev bG:=@PySem.wpAny_typeNameOfWhole_itemiter
abbrev bH:=@of_decide_eq_false
abbrev bI:=@PySem.wpAny_isOneOf_itemiter
abbrev bJ:=@PySem.F.slot_dict_itemiterator_next
abbrev bK:=@PySem.Heap.SameBut.update
abbrev bL:=@PySem.W.kia_one
abbrev bM:=@PyProof.Rows.callWith_type1
abbrev bN:=@Nat.pow_le_pow_right
abbrev bO:=@List.not_mem_nil
abbrev bP:=@Nat.le_of_lt
abbrev bQ:=@PySem.wpAny_holding
abbrev bR:=@decide_eq_false
abbrev bS:=@PySem.wpAny_typeNameOf_itemiter
abbrev bT:=@decide_eq_true
abbrev bU:=@List.mem_of_mem_take
abbrev bV:=@Nat.lt_succ_of_lt
abbrev bW:=@List.length_map
abbrev bX:=@Nat.add_le_add_left
abbrev bY:=@Nat.mul_le_mul
abbrev bZ:=@PyProof.Rows.boot_sum
abbrev ba:=@PySem.F.plain_extend_loop
abbrev bb:=@PyProof.Rows.KeyOrd.kle_refl
abbrev bc:=@PySem.wpAny_truthy_bool
abbrev bf:=@PySem.wpAny_dictEntries
abbrev bg:=@List.eq_nil_of_length_eq_zero
abbrev bh:=@PySem.wpAny_seqItems
abbrev bj:=@PySem.wpAny_fieldsOf
abbrev bo:=@List.nodup_cons
namespace Opn
open PySem PySem.W PyProof.Rows PySem.Calls
noncomputable def q0:Pos:=⟨0,0,0,0⟩
noncomputable def jA:Obj:={ cls:=.type "tuple",data:=.seq #[]}
noncomputable def iw:Obj:={ cls:=.none,data:=.fields #[]}
noncomputable def jC:Obj:={ cls:=.type "code",data:=.fields #[.str (Str.ofString "<module>") 182,.str (Str.ofString "<module>") 183,.str (Str.ofString "/claim/cut.py") 184,.int 1 0,.int 0 0,.int 0 0,.int 0 0,.int 0 0,.ref 11,.bool false,.int 181 0,.ref 12,.none,.none,.none,.none,.int 185 0,.int 1 0,.str (Str.ofString "/claim/cut.py") 186]}
noncomputable def jD:Obj:={ cls:=.type "frame",slots:=#[some (.ref 13),some (.ref 3),some (.ref 3),none,some (.str (Str.ofString "__main__") 164),none,some (.ref 0)]}
noncomputable def ie(P:Params):List Obj:=(boot_heap P).objs.toList++[jA,iw,jC,jD]
noncomputable def nN(P:Params)(o:Params->Obj)(l r:BT):BT:=.node (o P) l r
noncomputable def lN(P:Params)(o:Params->Obj):BT:=.node (o P) .nil .nil
noncomputable def ia(P:Params):BT :=
 nN P boot_o_0 (nN P boot_o_1 (nN P boot_o_3 (lN P boot_o_7) (.node jA .nil .nil)) (nN P boot_o_5 (lN P boot_o_9) (.node jC .nil .nil)))
  (nN P boot_o_2 (nN P boot_o_4 (lN P boot_o_8) (.node iw .nil .nil)) (nN P boot_o_6 (lN P boot_o_10) (.node jD .nil .nil)))
noncomputable def Za:Life:=Life.mk [] [] [] 0 [] [] false #[] [] 0 false false false 0 [2000,10,10] false 0 true [] [] 0 false
noncomputable def sA(w:World)(os:OsState):Shared:=⟨⟨⟨ie w.params⟩,Za⟩,#[],boot_drawn,187,os⟩
noncomputable def sB(w:World)(os:OsState):SharedT:=⟨ia w.params,15,Za,#[],boot_drawn,187,os⟩
noncomputable def NF(p:Program):Env:={ scope:=p.main.scope,locals:=mainNs,globals:=mainNs,cells:=[],code:=.ref 13,frame:=some 14}
noncomputable def cB(p:Program):Code:=.body (behindTheImports p) (NF p)
noncomputable abbrev Hw:Option Value:=some (.ref 6)
noncomputable abbrev bB:List Frame:=[topFrame q0]
noncomputable def Uz(p:Program)(M:Nat)(w:World)(os:OsState):Option (Flow×SharedT×Code×Pos) :=
 PySem.W.Fast.tw10110043849684766642 PySem.W.Fast.tw14364793385576792824 p w 11 Hw 1 M (sB w os) (piecesOf (behindTheImports p) (NF p) (cB p) q0 bB)
noncomputable def U6(p:Program)(M:Nat)(w:World)(os:OsState):SharedT:=match Uz p M w os with|some (_,s,_)=>s|none=>sB w os
theorem Zm{p:Program}{M:Nat}{w:World}{os:OsState}{r:Option (Flow×SharedT×Code×Pos)}(h:Uz p M w os=r) :
  segRunT treeTable p w 11 Hw 1 M (sB w os) (piecesOf (behindTheImports p) (NF p) (cB p) q0 bB)=r:=by
 have e:segRunT treeTable=PySem.W.Fast.tw10110043849684766642 PySem.W.Fast.tw14364793385576792824:=congr PySem.W.Fast.te10110043849684766642 PySem.W.Fast.te14364793385576792824;rw[e];exact h
theorem fc{p:Program}{M T:Nat}{I:Pos}{w:World}{os:OsState}
 (pre:topGo treeTable p w 11 Hw 12 ⟨boot_heap w.params,#[],boot_drawn,boot_toks,os⟩ (topStub p)=some (sA w os,⟨denote treeTable (cB p),cB p,q0,bB⟩))
 (R:segRun treeTable p w 11 Hw 1 1 (sA w os) (blockOf (behindTheImports p) (NF p) (cB p) q0 bB)=some (.next,(sB w os).abs,cB p,q0))
 (seg:Uz p M w os=some (.next,U6 p M w os,cB p,I))
 (fin:∀s,topRun treeTable p w 11 Hw 2 s (restOf [] (NF p) (cB p) I bB)=some s)(U:T=12+(1+(M+2))) :
  topRun treeTable p w 11 Hw T ⟨boot_heap w.params,#[],boot_drawn,boot_toks,os⟩ (topStub p)=some (U6 p M w os).abs:=by
 subst U;refine go_top pre (piece_block R ?_);have h:=piece_app (rest:=[]) (segRun_of (Zm seg)) (fin _);rw[List.append_nil]at h;exact h
theorem Zh{p q:Program}{loose:List Str}{Xt:Shared->Bool}{α:Type}{Yf:Shared->α}{Ya:World->α}{N M:Nat}{S:World->OsState->Shared}
 (I:∀w:World,(fencedOpening treeTable p w N).map (fun s=>(s.heap,s.gens,s.drawn,s.toks))=some (boot_heap w.params,#[],boot_drawn,boot_toks))
 (size:∀w:World,((boot_heap w.params).isNs mainGlobals&&(#[]:Array GenState).size==0,(boot_heap w.params).objs.size,(boot_heap w.params).nsMap mainGlobals "__annotations__")=(true,11,Hw))
 (run:∀w os,topRun treeTable p w 11 Hw M ⟨boot_heap w.params,#[],boot_drawn,boot_toks,os⟩ (topStub p)=some (S w os))(le:Nat.ble M N=true)
 (ok:∀w os,(staticsOk (importedModules p.main.body) (boot_heap w.params) (S w os).heap&&namesBound p (S w os).heap&&gensDone (S w os)&&laidKept (boot_heap w.params) (S w os).heap)=true)
 (seen:∀w os,openSeen q loose (importedModules p.main.body) Xt true (S w os)=openGood q loose)
 (Z:∀w os,Yf (S w os)=Ya w):LeftO p q loose Xt Yf Ya N:=fun w=>by
 obtain⟨⟨h,gs,d,k,os⟩,e,e'⟩:=aH.mp (I w);obtain⟨rfl,rfl,rfl,rfl⟩:h=boot_heap w.params/\gs=#[]/\d=boot_drawn/\k=boot_toks:=by simpa using e'
 obtain⟨U,T,R⟩:_/\_/\_:=by simpa only[Prod.mk.injEq]using size w
 have Y:=ok w os;have r:=topRun_mono (N-M) _ _ _ _ (run w os);rw[show M+(N-M)=N by have:=Nat.le_of_ble_eq_true le;lia]at r;have t:topFrom treeTable p w N ⟨boot_heap w.params,#[],boot_drawn,boot_toks,os⟩=some (S w os):=by
  unfold topFrom;dsimp only;rw[U,T,R,r];show(match staticsOk (importedModules p.main.body) (boot_heap w.params) (S w os).heap&&namesBound p (S w os).heap&&gensDone (S w os)&&laidKept (boot_heap w.params) (S w os).heap with|true=>_|false=>_)=_;rw[Y]
 unfold openEnds;rw[e];show(topFrom treeTable p w N _).map _=_;rw[t];exact bD some (Prod.ext (seen w os) (Z w os))
theorem ig(w:World):((boot_heap w.params).isNs mainGlobals&&(#[]:Array GenState).size==0,(boot_heap w.params).objs.size,(boot_heap w.params).nsMap mainGlobals "__annotations__")=(true,11,Hw):=by kernel_rfl
end Opn
namespace Q35
open PySem
def top(i:Nat):Stmt:=PySem.Challenge.pw_stepgrove_k35_steps_power_by_power.main.body.getD i (.Pass ⟨0,0,0,0⟩)
end Q35
namespace L2
open PySem
def FO(s:Stmt):Arguments:=match s with
 |.FunctionDef _ a _ _ _ _ _ _ _ _=>a
 |_=>{ posonlyargs:=[],args:=[],vararg:=none,kwonlyargs:=[],kw_defaults:=[],kwarg:=none,defaults:=[]}
def De(s:Stmt):List Stmt:=match s with
 |.FunctionDef _ _ b _ _ _ _ _ _ _=>b
 |_=>[]
def AO(s:Stmt):Scope:=match s with
 |.FunctionDef _ _ _ _ _ _ sc _ _ _=>sc
 |_=>{ kind:=.function,names:=[],isGenerator:=false,isCoroutine:=false}
end L2
namespace Q35
open PySem L2
section
open PySem.W PyProof.Rows PySem.Calls
abbrev Eb:Program:=PySem.Challenge.pw_stepgrove_k35_steps_power_by_power
abbrev C3:OpenLaw:=PySem.Challenge.rw_stepgrove_k35_steps_power_by_power
noncomputable abbrev dE(P:Params)(x:String)(t:Nat)(v:Value):DictEntry:=⟨PyData.keyHash P (Str.ofString x),.str (Str.ofString x) t,v⟩
noncomputable abbrev sV(x:String)(t:Nat):Value:=.str (Str.ofString x) t
noncomputable abbrev fO(n:String)(i:Nat)(m:String)(t c:Nat):Obj:=⟨.type "function",none,.func (fnOf n n (FO (top i)) (De (top i)) (AO (top i)) .none .none .none (.str (Str.ofString m) t) none (.ref c) .none),#[]⟩
noncomputable abbrev cO(n:String)(t l a k r:Nat)(b:Bool)(U:Nat)(T R M v4:Value)(I:Nat):Obj:=⟨.type "code",none,.fields #[sV n t,sV n (t+1),sV "/claim/cut.py" (t+2),.int l 0,.int a 0,.int 0 0,.int 0 0,.int k 0,.ref r,.bool b,.int 181 0,.ref U,T,R,M,v4,.int I 0,.int l 0,sV "/claim/cut.py" (I+1)],#[]⟩
noncomputable def kH:Params->Frag:=fun P=>
 (nat_lit 2,⟨.none,none,(.dict #[] 0),#[]⟩) ::
 (nat_lit 3,⟨(.type "dict"),none,(.dict #[dE P "__name__" 165 (sV "law_stepgrove_k35_steps_power_by_power" 608),dE P "__doc__" 166 .none,dE P "__package__" 167 .none,dE P "__loader__" 168 (.builtin "__main__.__loader__#opaque"),dE P "__spec__" 169 .none,dE P "__annotations__" 170 (.ref 6),dE P "__builtins__" 171 (.ref 4),dE P "__file__" 173 (sV "/claim/cut.py" 172),dE P "__cached__" 174 .none,dE P "GroveError" 206 (.ref 24),dE P "NoBottom" 222 (.ref 37),dE P "NoChange" 238 (.ref 49),dE P "NoStart" 254 (.ref 61),dE P "NoTable" 270 (.ref 73),dE P "TooMany" 286 (.ref 85),dE P "fraction_of" 297 (.ref 94),dE P "is_fraction" 304 (.ref 101),dE P "are_fractions" 312 (.ref 108),dE P "is_whole" 319 (.ref 115),dE P "greatest_divisor" 330 (.ref 122),dE P "common_bottom" 339 (.ref 129),dE P "power_of" 350 (.ref 136),dE P "is_poly" 362 (.ref 143),dE P "is_term" 370 (.ref 150),dE P "are_powers" 379 (.ref 157),dE P "refuse_no_start" 387 (.ref 164),dE P "refuse_start" 393 (.ref 171),dE P "one_less" 401 (.ref 178),dE P "grain_of" 409 (.ref 183),dE P "pace_of" 417 (.ref 190),dE P "tops_over" 423 (.ref 195),dE P "table_bottom" 429 (.ref 200),dE P "whole_change" 435 (.ref 205),dE P "whole_poly" 449 (.ref 212),dE P "speeds_bottom" 455 (.ref 217),dE P "greatest_power" 466 (.ref 224),dE P "is_change" 476 (.ref 231),dE P "refuse_no_change" 483 (.ref 238),dE P "MOST_POWER" 487 (.int 7 486),dE P "refuse_too_many" 494 (.ref 245),dE P "row_of_fractions" 506 (.ref 252),dE P "powers_needed" 518 (.ref 259),dE P "first_unknown" 526 (.ref 266),dE P "product_at" 532 (.ref 271),dE P "speed_at" 538 (.ref 276),dE P "MOST_ROWS" 542 (.int 40 541),dE P "is_table" 549 (.ref 283),dE P "refuse_no_table" 556 (.ref 290),dE P "are_rows" 565 (.ref 297),dE P "step_rows" 573 (.ref 302),dE P "refuse_no_step" 582 (.ref 309),dE P "rows_that_read" 589 (.ref 316),dE P "whole_step" 595 (.ref 321),dE P "speed_rows" 601 (.ref 326),dE P "read_at" 607 (.ref 331),dE P "_law_cell" 621 (.ref 338),dE P "_law_take" 630 (.ref 345),dE P "_law_shared" 638 (.ref 352),dE P "_law_frac" 647 (.ref 359),dE P "_law_plus" 655 (.ref 366),dE P "_law_by" 663 (.ref 373),dE P "_law_part" 671 (.ref 380),dE P "_law_poly" 688 (.ref 387),dE P "_law_change" 694 (.ref 392),dE P "_law_start" 700 (.ref 397),dE P "_law_table" 706 (.ref 402),dE P "_law_row_product" 712 (.ref 407),dE P "_law_row_of" 718 (.ref 412),dE P "_law_led_rows" 724 (.ref 417),dE P "_law_step_rows" 730 (.ref 422),dE P "_law_same" 736 (.ref 427),dE P "law" 742 (.ref 432)] 72),#[]⟩) ::
 (nat_lit 15,⟨(.type "tuple"),none,(.seq #[(.type "ValueError")] 0),#[]⟩) ::
 (nat_lit 22,⟨(.type "tuple"),none,(.seq #[] 0),#[]⟩) ::
 (nat_lit 23,⟨(.type "dict"),none,(.dict #[dE P "__module__" 196 (sV "stepgrove.errors" 187),dE P "__firstlineno__" 200 (.int 2 199),dE P "__static_attributes__" 201 (.ref 22),dE P "__weakref__" 203 (.ref 25),dE P "__doc__" 204 .none] 3),#[]⟩) ::
 (nat_lit 24,⟨(.type "type"),none,(.cls ⟨Str.ofString "GroveError",[(.type "ValueError")],[(.ref 24),(.type "ValueError"),(.type "Exception"),(.type "BaseException"),(.type "object")],23,Str.ofString "GroveError",true,[],[(.ref 37),(.ref 49),(.ref 61),(.ref 73),(.ref 85)],false,none,false⟩),#[some (.ref 15),none,some (sV "GroveError" 189),some (sV "GroveError" 197),some (.builtin "ValueError.__new__"),some (.bool true)]⟩) ::
 (nat_lit 25,⟨(.type "getset_descriptor"),none,(.fields #[(sV "__weakref__" 202),(.ref 24),(.builtin "ExceptionGroup.__weakref__"),.none]),#[]⟩) ::
 (nat_lit 28,⟨(.type "tuple"),none,(.seq #[(.ref 24)] 0),#[]⟩) ::
 (nat_lit 35,⟨(.type "tuple"),none,(.seq #[] 0),#[]⟩) ::
 (nat_lit 36,⟨(.type "dict"),none,(.dict #[dE P "__module__" 214 (sV "stepgrove.errors" 187),dE P "__firstlineno__" 218 (.int 4 217),dE P "__static_attributes__" 219 (.ref 35),dE P "__doc__" 220 .none] 2),#[]⟩) ::
 (nat_lit 37,⟨(.type "type"),none,(.cls ⟨Str.ofString "NoBottom",[(.ref 24)],[(.ref 37),(.ref 24),(.type "ValueError"),(.type "Exception"),(.type "BaseException"),(.type "object")],36,Str.ofString "NoBottom",true,[],[],false,none,false⟩),#[some (.ref 28),none,some (sV "NoBottom" 207),some (sV "NoBottom" 215),some (.builtin "ValueError.__new__"),some (.bool true)]⟩) ::
 (nat_lit 40,⟨(.type "tuple"),none,(.seq #[(.ref 24)] 0),#[]⟩) ::
 (nat_lit 47,⟨(.type "tuple"),none,(.seq #[] 0),#[]⟩) ::
 (nat_lit 48,⟨(.type "dict"),none,(.dict #[dE P "__module__" 230 (sV "stepgrove.errors" 187),dE P "__firstlineno__" 234 (.int 6 233),dE P "__static_attributes__" 235 (.ref 47),dE P "__doc__" 236 .none] 2),#[]⟩) ::
 (nat_lit 49,⟨(.type "type"),none,(.cls ⟨Str.ofString "NoChange",[(.ref 24)],[(.ref 49),(.ref 24),(.type "ValueError"),(.type "Exception"),(.type "BaseException"),(.type "object")],48,Str.ofString "NoChange",true,[],[],false,none,false⟩),#[some (.ref 40),none,some (sV "NoChange" 223),some (sV "NoChange" 231),some (.builtin "ValueError.__new__"),some (.bool true)]⟩) ::
 (nat_lit 52,⟨(.type "tuple"),none,(.seq #[(.ref 24)] 0),#[]⟩) ::
 (nat_lit 59,⟨(.type "tuple"),none,(.seq #[] 0),#[]⟩) ::
 (nat_lit 60,⟨(.type "dict"),none,(.dict #[dE P "__module__" 246 (sV "stepgrove.errors" 187),dE P "__firstlineno__" 250 (.int 8 249),dE P "__static_attributes__" 251 (.ref 59),dE P "__doc__" 252 .none] 2),#[]⟩) ::
 (nat_lit 61,⟨(.type "type"),none,(.cls ⟨Str.ofString "NoStart",[(.ref 24)],[(.ref 61),(.ref 24),(.type "ValueError"),(.type "Exception"),(.type "BaseException"),(.type "object")],60,Str.ofString "NoStart",true,[],[],false,none,false⟩),#[some (.ref 52),none,some (sV "NoStart" 239),some (sV "NoStart" 247),some (.builtin "ValueError.__new__"),some (.bool true)]⟩) ::
 (nat_lit 64,⟨(.type "tuple"),none,(.seq #[(.ref 24)] 0),#[]⟩) ::
 (nat_lit 71,⟨(.type "tuple"),none,(.seq #[] 0),#[]⟩) ::
 (nat_lit 72,⟨(.type "dict"),none,(.dict #[dE P "__module__" 262 (sV "stepgrove.errors" 187),dE P "__firstlineno__" 266 (.int 10 265),dE P "__static_attributes__" 267 (.ref 71),dE P "__doc__" 268 .none] 2),#[]⟩) ::
 (nat_lit 73,⟨(.type "type"),none,(.cls ⟨Str.ofString "NoTable",[(.ref 24)],[(.ref 73),(.ref 24),(.type "ValueError"),(.type "Exception"),(.type "BaseException"),(.type "object")],72,Str.ofString "NoTable",true,[],[],false,none,false⟩),#[some (.ref 64),none,some (sV "NoTable" 255),some (sV "NoTable" 263),some (.builtin "ValueError.__new__"),some (.bool true)]⟩) ::
 (nat_lit 76,⟨(.type "tuple"),none,(.seq #[(.ref 24)] 0),#[]⟩) ::
 (nat_lit 83,⟨(.type "tuple"),none,(.seq #[] 0),#[]⟩) ::
 (nat_lit 84,⟨(.type "dict"),none,(.dict #[dE P "__module__" 278 (sV "stepgrove.errors" 187),dE P "__firstlineno__" 282 (.int 12 281),dE P "__static_attributes__" 283 (.ref 83),dE P "__doc__" 284 .none] 2),#[]⟩) ::
 (nat_lit 85,⟨(.type "type"),none,(.cls ⟨Str.ofString "TooMany",[(.ref 24)],[(.ref 85),(.ref 24),(.type "ValueError"),(.type "Exception"),(.type "BaseException"),(.type "object")],84,Str.ofString "TooMany",true,[],[],false,none,false⟩),#[some (.ref 76),none,some (sV "TooMany" 271),some (sV "TooMany" 279),some (.builtin "ValueError.__new__"),some (.bool true)]⟩) ::
 (nat_lit 93,cO "fraction_of" 289 15 2 3 88 true 89 .none (.ref 90) (.ref 91) (.ref 92) 295) ::
 (nat_lit 94,fO "fraction_of" 8 "stepgrove.fracs" 287 93) ::
 (nat_lit 100,cO "is_fraction" 298 22 1 3 95 true 96 .none (.ref 97) (.ref 98) (.ref 99) 302) ::
 (nat_lit 101,fO "is_fraction" 9 "stepgrove.fracs" 287 100) ::
 (nat_lit 107,cO "are_fractions" 305 28 1 3 102 true 103 .none (.ref 104) (.ref 105) (.ref 106) 310) ::
 (nat_lit 108,fO "are_fractions" 10 "stepgrove.fracs" 287 107) ::
 (nat_lit 114,cO "is_whole" 313 35 1 3 109 true 110 .none (.ref 111) (.ref 112) (.ref 113) 317) ::
 (nat_lit 115,fO "is_whole" 11 "stepgrove.fracs" 287 114) ::
 (nat_lit 121,cO "greatest_divisor" 320 37 2 3 116 true 117 .none (.ref 118) (.ref 119) (.ref 120) 328) ::
 (nat_lit 122,fO "greatest_divisor" 12 "stepgrove.fracs" 287 121) ::
 (nat_lit 128,cO "common_bottom" 331 45 1 3 123 true 124 .none (.ref 125) (.ref 126) (.ref 127) 337) ::
 (nat_lit 129,fO "common_bottom" 13 "stepgrove.fracs" 287 128) ::
 (nat_lit 135,cO "power_of" 340 50 2 3 130 true 131 .none (.ref 132) (.ref 133) (.ref 134) 348) ::
 (nat_lit 136,fO "power_of" 14 "stepgrove.fracs" 287 135) ::
 (nat_lit 142,cO "is_poly" 353 62 2 3 137 true 138 .none (.ref 139) (.ref 140) (.ref 141) 360) ::
 (nat_lit 143,fO "is_poly" 16 "stepgrove.polys" 351 142) ::
 (nat_lit 149,cO "is_term" 363 69 2 3 144 true 145 .none (.ref 146) (.ref 147) (.ref 148) 368) ::
 (nat_lit 150,fO "is_term" 17 "stepgrove.polys" 351 149) ::
 (nat_lit 156,cO "are_powers" 371 73 2 3 151 true 152 .none (.ref 153) (.ref 154) (.ref 155) 377) ::
 (nat_lit 157,fO "are_powers" 18 "stepgrove.polys" 351 156) ::
 (nat_lit 163,cO "refuse_no_start" 380 80 2 3 158 true 159 .none (.ref 160) (.ref 161) (.ref 162) 385) ::
 (nat_lit 164,fO "refuse_no_start" 19 "stepgrove.polys" 351 163) ::
 (nat_lit 170,cO "refuse_start" 388 83 0 3 165 true 166 .none (.ref 167) (.ref 168) (.ref 169) 391) ::
 (nat_lit 171,fO "refuse_start" 20 "stepgrove.polys" 351 170) ::
 (nat_lit 177,cO "one_less" 394 85 2 3 172 true 173 .none (.ref 174) (.ref 175) (.ref 176) 399) ::
 (nat_lit 178,fO "one_less" 21 "stepgrove.polys" 351 177) ::
 (nat_lit 182,cO "grain_of" 404 88 1 3 179 true 180 .none .none .none (.ref 181) 407) ::
 (nat_lit 183,fO "grain_of" 23 "stepgrove.wholes" 402 182) ::
 (nat_lit 189,cO "pace_of" 410 90 2 3 184 true 185 .none (.ref 186) (.ref 187) (.ref 188) 415) ::
 (nat_lit 190,fO "pace_of" 24 "stepgrove.wholes" 402 189) ::
 (nat_lit 194,cO "tops_over" 418 92 2 3 191 true 192 .none .none .none (.ref 193) 421) ::
 (nat_lit 195,fO "tops_over" 25 "stepgrove.wholes" 402 194) ::
 (nat_lit 199,cO "table_bottom" 424 94 1 3 196 true 197 .none .none .none (.ref 198) 427) ::
 (nat_lit 200,fO "table_bottom" 26 "stepgrove.wholes" 402 199) ::
 (nat_lit 204,cO "whole_change" 430 99 2 3 201 true 202 .none .none .none (.ref 203) 433) ::
 (nat_lit 205,fO "whole_change" 27 "stepgrove.wholes" 402 204) ::
 (nat_lit 211,cO "whole_poly" 436 103 4 3 206 true 207 .none (.ref 208) (.ref 209) (.ref 210) 447) ::
 (nat_lit 212,fO "whole_poly" 28 "stepgrove.wholes" 402 211) ::
 (nat_lit 216,cO "speeds_bottom" 450 109 1 3 213 true 214 .none .none .none (.ref 215) 453) ::
 (nat_lit 217,fO "speeds_bottom" 29 "stepgrove.wholes" 402 216) ::
 (nat_lit 223,cO "greatest_power" 456 114 1 3 218 true 219 .none (.ref 220) (.ref 221) (.ref 222) 464) ::
 (nat_lit 224,fO "greatest_power" 30 "stepgrove.wholes" 402 223) ::
 (nat_lit 230,cO "is_change" 469 121 1 3 225 true 226 .none (.ref 227) (.ref 228) (.ref 229) 474) ::
 (nat_lit 231,fO "is_change" 32 "stepgrove.changes" 467 230) ::
 (nat_lit 237,cO "refuse_no_change" 477 128 1 3 232 true 233 .none (.ref 234) (.ref 235) (.ref 236) 481) ::
 (nat_lit 238,fO "refuse_no_change" 33 "stepgrove.changes" 467 237) ::
 (nat_lit 244,cO "refuse_too_many" 488 133 1 3 239 true 240 .none (.ref 241) (.ref 242) (.ref 243) 492) ::
 (nat_lit 245,fO "refuse_too_many" 36 "stepgrove.growth" 484 244) ::
 (nat_lit 251,cO "row_of_fractions" 495 136 3 3 246 true 247 .none (.ref 248) (.ref 249) (.ref 250) 504) ::
 (nat_lit 252,fO "row_of_fractions" 37 "stepgrove.growth" 484 251) ::
 (nat_lit 258,cO "powers_needed" 507 143 1 3 253 true 254 .none (.ref 255) (.ref 256) (.ref 257) 516) ::
 (nat_lit 259,fO "powers_needed" 38 "stepgrove.growth" 484 258) ::
 (nat_lit 265,cO "first_unknown" 519 153 1 3 260 true 261 .none (.ref 262) (.ref 263) (.ref 264) 524) ::
 (nat_lit 266,fO "first_unknown" 39 "stepgrove.growth" 484 265) ::
 (nat_lit 270,cO "product_at" 527 158 4 3 267 true 268 .none .none .none (.ref 269) 530) ::
 (nat_lit 271,fO "product_at" 40 "stepgrove.growth" 484 270) ::
 (nat_lit 275,cO "speed_at" 533 164 3 3 272 true 273 .none .none .none (.ref 274) 536) ::
 (nat_lit 276,fO "speed_at" 41 "stepgrove.growth" 484 275) ::
 (nat_lit 282,cO "is_table" 543 168 1 3 277 true 278 .none (.ref 279) (.ref 280) (.ref 281) 547) ::
 (nat_lit 283,fO "is_table" 44 "stepgrove.tables" 539 282) ::
 (nat_lit 289,cO "refuse_no_table" 550 172 1 3 284 true 285 .none (.ref 286) (.ref 287) (.ref 288) 554) ::
 (nat_lit 290,fO "refuse_no_table" 45 "stepgrove.tables" 539 289) ::
 (nat_lit 296,cO "are_rows" 557 175 1 3 291 true 292 .none (.ref 293) (.ref 294) (.ref 295) 563) ::
 (nat_lit 297,fO "are_rows" 46 "stepgrove.tables" 539 296) ::
 (nat_lit 301,cO "step_rows" 568 183 4 3 298 true 299 .none .none .none (.ref 300) 571) ::
 (nat_lit 302,fO "step_rows" 48 "stepgrove.steps" 566 301) ::
 (nat_lit 308,cO "refuse_no_step" 574 192 3 3 303 true 304 .none (.ref 305) (.ref 306) (.ref 307) 580) ::
 (nat_lit 309,fO "refuse_no_step" 49 "stepgrove.steps" 566 308) ::
 (nat_lit 315,cO "rows_that_read" 583 196 1 3 310 true 311 .none (.ref 312) (.ref 313) (.ref 314) 587) ::
 (nat_lit 316,fO "rows_that_read" 50 "stepgrove.steps" 566 315) ::
 (nat_lit 320,cO "whole_step" 590 198 4 3 317 true 318 .none .none .none (.ref 319) 593) ::
 (nat_lit 321,fO "whole_step" 51 "stepgrove.steps" 566 320) ::
 (nat_lit 325,cO "speed_rows" 596 206 4 3 322 true 323 .none .none .none (.ref 324) 599) ::
 (nat_lit 326,fO "speed_rows" 52 "stepgrove.steps" 566 325) ::
 (nat_lit 330,cO "read_at" 602 216 4 3 327 true 328 .none .none .none (.ref 329) 605) ::
 (nat_lit 331,fO "read_at" 53 "stepgrove.steps" 566 330) ::
 (nat_lit 337,cO "_law_cell" 610 223 2 3 332 true 333 .none (.ref 334) (.ref 335) (.ref 336) 619) ::
 (nat_lit 338,fO "_law_cell" 55 "law_stepgrove_k35_steps_power_by_power" 608 337) ::
 (nat_lit 344,cO "_law_take" 622 235 2 3 339 true 340 .none (.ref 341) (.ref 342) (.ref 343) 628) ::
 (nat_lit 345,fO "_law_take" 56 "law_stepgrove_k35_steps_power_by_power" 608 344) ::
 (nat_lit 351,cO "_law_shared" 631 239 2 3 346 true 347 .none (.ref 348) (.ref 349) (.ref 350) 636) ::
 (nat_lit 352,fO "_law_shared" 57 "law_stepgrove_k35_steps_power_by_power" 608 351) ::
 (nat_lit 358,cO "_law_frac" 639 243 2 3 353 true 354 .none (.ref 355) (.ref 356) (.ref 357) 645) ::
 (nat_lit 359,fO "_law_frac" 58 "law_stepgrove_k35_steps_power_by_power" 608 358) ::
 (nat_lit 365,cO "_law_plus" 648 248 2 3 360 true 361 .none (.ref 362) (.ref 363) (.ref 364) 653) ::
 (nat_lit 366,fO "_law_plus" 59 "law_stepgrove_k35_steps_power_by_power" 608 365) ::
 (nat_lit 372,cO "_law_by" 656 250 2 3 367 true 368 .none (.ref 369) (.ref 370) (.ref 371) 661) ::
 (nat_lit 373,fO "_law_by" 60 "law_stepgrove_k35_steps_power_by_power" 608 372) ::
 (nat_lit 379,cO "_law_part" 664 252 1 3 374 true 375 .none (.ref 376) (.ref 377) (.ref 378) 669) ::
 (nat_lit 380,fO "_law_part" 61 "law_stepgrove_k35_steps_power_by_power" 608 379) ::
 (nat_lit 386,cO "_law_poly" 672 255 3 3 381 true 382 .none (.ref 383) (.ref 384) (.ref 385) 686) ::
 (nat_lit 387,fO "_law_poly" 62 "law_stepgrove_k35_steps_power_by_power" 608 386) ::
 (nat_lit 391,cO "_law_change" 689 271 4 3 388 true 389 .none .none .none (.ref 390) 692) ::
 (nat_lit 392,fO "_law_change" 63 "law_stepgrove_k35_steps_power_by_power" 608 391) ::
 (nat_lit 396,cO "_law_start" 695 273 2 3 393 true 394 .none .none .none (.ref 395) 698) ::
 (nat_lit 397,fO "_law_start" 64 "law_stepgrove_k35_steps_power_by_power" 608 396) ::
 (nat_lit 401,cO "_law_table" 701 276 3 3 398 true 399 .none .none .none (.ref 400) 704) ::
 (nat_lit 402,fO "_law_table" 65 "law_stepgrove_k35_steps_power_by_power" 608 401) ::
 (nat_lit 406,cO "_law_row_product" 707 284 2 3 403 true 404 .none .none .none (.ref 405) 710) ::
 (nat_lit 407,fO "_law_row_product" 66 "law_stepgrove_k35_steps_power_by_power" 608 406) ::
 (nat_lit 411,cO "_law_row_of" 713 290 3 3 408 true 409 .none .none .none (.ref 410) 716) ::
 (nat_lit 412,fO "_law_row_of" 67 "law_stepgrove_k35_steps_power_by_power" 608 411) ::
 (nat_lit 416,cO "_law_led_rows" 719 299 4 3 413 true 414 .none .none .none (.ref 415) 722) ::
 (nat_lit 417,fO "_law_led_rows" 68 "law_stepgrove_k35_steps_power_by_power" 608 416) ::
 (nat_lit 421,cO "_law_step_rows" 725 307 4 3 418 true 419 .none .none .none (.ref 420) 728) ::
 (nat_lit 422,fO "_law_step_rows" 69 "law_stepgrove_k35_steps_power_by_power" 608 421) ::
 (nat_lit 426,cO "_law_same" 731 313 2 3 423 true 424 .none .none .none (.ref 425) 734) ::
 (nat_lit 427,fO "_law_same" 70 "law_stepgrove_k35_steps_power_by_power" 608 426) ::
 (nat_lit 431,cO "law" 737 323 1 3 428 true 429 .none .none .none (.ref 430) 740) ::
 (nat_lit 432,fO "law" 71 "law_stepgrove_k35_steps_power_by_power" 608 431)::[]
abbrev qX:Program:=view Eb [1,2,3,4,5,6,8,9,10,11,12,13,14,16,17,18,19,20,21,23,24,25,26,27,28,29,30,32,33,35,36,37,38,39,40,41,43,44,45,46,48,49,50,51,52,53,55,56,57,58,59,60,61,62,63,64,65,66,67,68,69,70,71]
noncomputable abbrev hX:Hook:=kHook kH [nat_lit 2,nat_lit 3,nat_lit 15,nat_lit 22,nat_lit 23,nat_lit 24,nat_lit 25,nat_lit 28,nat_lit 35,nat_lit 36,nat_lit 37,nat_lit 40,nat_lit 47,nat_lit 48,nat_lit 49,nat_lit 52,nat_lit 59,nat_lit 60,nat_lit 61,nat_lit 64,nat_lit 71,nat_lit 72,nat_lit 73,nat_lit 76,nat_lit 83,nat_lit 84,nat_lit 85,nat_lit 93,nat_lit 94,nat_lit 100,nat_lit 101,nat_lit 107,nat_lit 108,nat_lit 114,nat_lit 115,nat_lit 121,nat_lit 122,nat_lit 128,nat_lit 129,nat_lit 135,nat_lit 136,nat_lit 142,nat_lit 143,nat_lit 149,nat_lit 150,nat_lit 156,nat_lit 157,nat_lit 163,nat_lit 164,nat_lit 170,nat_lit 171,nat_lit 177,nat_lit 178,nat_lit 182,nat_lit 183,nat_lit 189,nat_lit 190,nat_lit 194,nat_lit 195,nat_lit 199,nat_lit 200,nat_lit 204,nat_lit 205,nat_lit 211,nat_lit 212,nat_lit 216,nat_lit 217,nat_lit 223,nat_lit 224,nat_lit 230,nat_lit 231,nat_lit 237,nat_lit 238,nat_lit 244,nat_lit 245,nat_lit 251,nat_lit 252,nat_lit 258,nat_lit 259,nat_lit 265,nat_lit 266,nat_lit 270,nat_lit 271,nat_lit 275,nat_lit 276,nat_lit 282,nat_lit 283,nat_lit 289,nat_lit 290,nat_lit 296,nat_lit 297,nat_lit 301,nat_lit 302,nat_lit 308,nat_lit 309,nat_lit 315,nat_lit 316,nat_lit 320,nat_lit 321,nat_lit 325,nat_lit 326,nat_lit 330,nat_lit 331,nat_lit 337,nat_lit 338,nat_lit 344,nat_lit 345,nat_lit 351,nat_lit 352,nat_lit 358,nat_lit 359,nat_lit 365,nat_lit 366,nat_lit 372,nat_lit 373,nat_lit 379,nat_lit 380,nat_lit 386,nat_lit 387,nat_lit 391,nat_lit 392,nat_lit 396,nat_lit 397,nat_lit 401,nat_lit 402,nat_lit 406,nat_lit 407,nat_lit 411,nat_lit 412,nat_lit 416,nat_lit 417,nat_lit 421,nat_lit 422,nat_lit 426,nat_lit 427,nat_lit 431,nat_lit 432] (fun _=>by kernel_rfl)
noncomputable def dX:DefRec:=⟨Str.ofString "law",FO (top 71),De (top 71),AO (top 71),⟨323,0,346,100⟩⟩
theorem iX:C3.wellSaid=true:=(congrFun PySem.W.Fast.te9446332074065402090 _).trans (by kernel_rfl)
theorem jd(w:World)(os:OsState):topGo treeTable Eb w 11 Opn.Hw 12 ⟨boot_heap w.params,#[],boot_drawn,boot_toks,os⟩ (topStub Eb)=some (Opn.sA w os,⟨denote treeTable (Opn.cB Eb),Opn.cB Eb,Opn.q0,Opn.bB⟩):=by kernel_rfl
theorem jV(w:World)(os:OsState):segRun treeTable Eb w 11 Opn.Hw 1 1 (Opn.sA w os) (blockOf (behindTheImports Eb) (Opn.NF Eb) (Opn.cB Eb) Opn.q0 Opn.bB)=some (.next,(Opn.sB w os).abs,Opn.cB Eb,Opn.q0):=by kernel_rfl
theorem jg(w:World)(s:Shared):topRun treeTable Eb w 11 Opn.Hw 2 s (restOf [] (Opn.NF Eb) (Opn.cB Eb) ⟨323,0,346,100⟩ Opn.bB)=some s:=by kernel_rfl
theorem jk(w:World)(os:OsState):Opn.Uz Eb 2957 w os=some (.next,Opn.U6 Eb 2957 w os,Opn.cB Eb,⟨323,0,346,100⟩):=by kernel_rfl
noncomputable abbrev sX(w:World)(os:OsState):Shared:=(Opn.U6 Eb 2957 w os).abs
theorem jh(w:World)(os:OsState):(staticsOk (importedModules Eb.main.body) (boot_heap w.params) (sX w os).heap&&namesBound Eb (sX w os).heap&&gensDone (sX w os)&&laidKept (boot_heap w.params) (sX w os).heap)=true:=by kernel_rfl
theorem iG(w:World)(os:OsState):hX.obs (sX w os)=hX.val w:=by kernel_rfl
noncomputable abbrev eN:Shared->Bool:=fun s=>xlAt qX [] s&&recOk (RowW.records C3.row.toRowW) s
theorem iM(w:World)(os:OsState):openSeen qX [] (importedModules Eb.main.body) eN true (sX w os)=openGood qX []:=by kernel_rfl
theorem iZ(w:World):(fencedOpening treeTable Eb w 6038).map (fun s=>(s.heap,s.gens,s.drawn,s.toks))=some (boot_heap w.params,#[],boot_drawn,boot_toks):=boot_open (p:=Eb) (N:=6038) (by kernel_rfl) (by kernel_rfl) (fun _=>by kernel_rfl) w
theorem iR:LeftO Eb qX [] eN hX.obs hX.val 6038:=Opn.Zh (M:=2972) (S:=sX) iZ Opn.ig (fun w os=>Opn.fc (jd w os) (jV w os) (jk w os) (jg w) (by kernel_rfl)) (by kernel_rfl) jh iM iG
theorem kU:defOf qX C3.row.name=some (dX,[]):=by kernel_rfl
theorem jw:Eb.theDef C3.row.name=some (dX.params,dX.body,dX.scope):=by kernel_rfl
theorem kn:kwWritten? dX.params.kwonlyargs dX.params.kw_defaults=some []:=by kernel_rfl
theorem je:(chainsOk qX&&opensWell C3.row.prog&&(frees C3.row.toRowW&&C3.row.within.isEmpty))=true:=by kernel_rfl
theorem ip:Eb.bare:=⟨rfl,rfl,rfl,rfl,rfl,by decide +kernel⟩
theorem openX(T:C3.row.toRowW.promised)(U:WalkO qX [] (XL qX []) hX.says C3.row.toRowW dX [] (fun f vs=>PySem.call f vs)):C3.Holds :=
 holds_law iX fun I=>holds_open (r:=C3.row) (q:=qX) (loose:=[]) (Xt:=eN) (XP:=XL qX []) (Yf:=hX.obs) (Ya:=hX.val) (YP:=hX.says) (d:=dX) (kwd:=[]) (N:=6038) iR hX.of hX.keeps (fun s e=>xl_of s (Bool.and_eq_true_iff.mp e).1) XL.keeps kU jw kn (fun s e=>recFacts_of (Bool.and_eq_true_iff.mp e).2) rfl I je ip T U
end
end Q35
namespace L2
open PySem PySem.Spec PyProof.Rows
abbrev Key:=Sum Int Str
def MR:Key->Value->Bool
 |.inl k,v=>Value.isInt k v
 |.inr x,v=>Value.isStrOf x v
def jU(w:World):Key->Int
 |.inl k=>hashInt k
 |.inr x=>hashStr w x
theorem Cm:∀ {k:Key} {v:Value},MR k v=true->(∃i t,k=Sum.inl i/\v=Value.int i t)\/(∃x t,k=Sum.inr x/\v=Value.str x t)
 |.inl i,v,h=>by
  obtain⟨t,e⟩:=Value.isInt_shape (k:=i) (v:=v) h;exact .inl ⟨i,t,rfl,e⟩
 |.inr x,v,h=>by
  obtain⟨t,e⟩:=Value.isStrOf_shape (x:=x) (v:=v) h;exact .inr ⟨x,t,rfl,e⟩
theorem V4(i:Int)(t:Tok):MR (.inl i) (.int i t)=true:=by simp[MR,Value.isInt]
theorem WJ(x:Str)(t:Tok):MR (.inr x) (.str x t)=true:=by simp[MR,Value.isStrOf]
theorem ei(a b:Int):decide ((Sum.inl a:Key)=Sum.inl b)=(a==b):=by
 by_cases e:a=b
 .subst e;simp
 .have h:¬(Sum.inl a:Key)=Sum.inl b:=fun q=>e (Sum.inl.inj q);rw[decide_eq_false h];exact(beq_eq_false_iff_ne.mpr e).symm
theorem dh(a b:Str):decide ((Sum.inr a:Key)=Sum.inr b)=decide (a=b):=by
 by_cases e:a=b
 .subst e;simp
 .have h:¬(Sum.inr a:Key)=Sum.inr b:=fun q=>e (Sum.inr.inj q);rw[decide_eq_false h,decide_eq_false e]
theorem gC(a:Int)(b:Str):decide ((Sum.inl a:Key)=Sum.inr b)=false:=bR (fun q=>nomatch q)
theorem gA(a:Str)(b:Int):decide ((Sum.inr a:Key)=Sum.inl b)=false:=bR (fun q=>nomatch q)
def DL(prog:Program)(w:World):PySem.KeyKind prog w Key where
 is:=MR
 hash:=jU w
 inj:=fun v a b ha hb=>by
  rcases Cm ha with ⟨i,t,rfl,rfl⟩|⟨x,t,rfl,rfl⟩
  .rcases Cm hb with ⟨j,u,rfl,e⟩|⟨y,u,rfl,e⟩
   .injection e with e1 _;rw[e1]
   .exact nomatch e
  .rcases Cm hb with ⟨j,u,rfl,e⟩|⟨y,u,rfl,e⟩
   .exact nomatch e
   .injection e with e1 _;rw[e1]
 byValue:=fun k v h=>by
  rcases Cm h with ⟨i,t,rfl,rfl⟩|⟨x,t,rfl,rfl⟩<;>rfl
 pyHash:=fun hv h=>by
  rcases Cm hv with ⟨i,t,rfl,rfl⟩|⟨x,t,rfl,rfl⟩
  .exact wpAny_pyHash_int h
  .exact wpAny_pyHash_str h
 eqBool:=fun hu hv h=>by
  rcases Cm hu with ⟨i,t,rfl,rfl⟩|⟨x,t,rfl,rfl⟩
  .rcases Cm hv with ⟨j,u,rfl,rfl⟩|⟨y,u,rfl,rfl⟩
   .rw[ei]at h;exact wpAny_eqBool_int h
   .rw[gC]at h;exact SeqAt.EqAt.int_str i t y u _ _ _ _ h
  .rcases Cm hv with ⟨j,u,rfl,rfl⟩|⟨y,u,rfl,rfl⟩
   .rw[gA]at h;exact SeqAt.EqAt.str_int x t j u _ _ _ _ h
   .rw[dh]at h;exact wpAny_eqBool_str h
 «strs»:=fun k x t v h=>by
  rcases Cm h with ⟨i,u,rfl,e⟩|⟨y,u,rfl,e⟩
  .exact nomatch e
  .injection e with e1 _
   subst e1;cases v<;>rfl
theorem TC(prog:Program)(w:World)(i:Int)(t:Tok):(DL prog w).is (.inl i) (.int i t)=true:=V4 i t
theorem Td(prog:Program)(w:World)(x:Str)(t:Tok):(DL prog w).is (.inr x) (.str x t)=true:=WJ x t
inductive V where
 |BJ|bl (b:Bool)|int (i:Int)|str (x:Str)|La (b:Array UInt8)|UY (b:UInt64)|ref (a:Addr)|ty (n:String)
 deriving DecidableEq
def RelV:V->Value->Prop
 |.BJ,u=>u=Value.none
 |.bl b,u=>u=Value.bool b
 |.int i,u=>∃t,u=Value.int i t
 |.str x,u=>∃t,u=Value.str x t
 |.La b,u=>∃t,u=Value.bytes b t
 |.UY b,u=>∃t,u=Value.float b t
 |.ref a,u=>u=Value.ref a
 |.ty n,u=>u=Value.type n
abbrev Vals:List V->List Value->Prop:=Paired RelV
theorem Vals.length{xs:List V}{us:List Value}(r:Vals xs us):xs.length=us.length:=Paired.length r
theorem Vals.get:∀ {xs:List V} {us:List Value} {i:Nat} {x:V},Vals xs us->xs[i]? = some x->∃u,us[i]? = some u/\RelV x u
 |_,_,_,_,.nil,e=>by simp at e
 |_,_,0,_,.cons r _,e=>by simp at e;subst e;exact⟨_,rfl,r⟩
 |_,_,i+1,x,.cons _ t,e=>by
  obtain⟨u,M,I⟩:=Vals.get (i:=i) (x:=x) t (by simpa using e);exact⟨u,by simpa using M,I⟩
theorem Vals.set{x:V}{u:Value}(r:RelV x u):∀ {xs:List V} {us:List Value} (i:Nat),Vals xs us->Vals (xs.set i x) (us.set i u)
 |_,_,_,.nil=>.nil
 |_,_,0,.cons _ t=>.cons r t
 |_,_,i+1,.cons q t=>.cons q (Vals.set r i t)
theorem Vals.append:∀ {xs ys:List V} {us I:List Value},Vals xs us->Vals ys I->Vals (xs++ys) (us++I)
 |_,_,_,_,.nil,s=>s
 |_,_,_,_,.cons r t,s=>.cons r (Vals.append t s)
theorem Vals.take:∀ {xs:List V} {us:List Value} (n:Nat),Vals xs us->Vals (xs.take n) (us.take n)
 |_,_,0,_=>.nil
 |_,_,_+1,.nil=>.nil
 |_,_,n+1,.cons r t=>.cons r (Vals.take n t)
theorem Vals.drop:∀ {xs:List V} {us:List Value} (n:Nat),Vals xs us->Vals (xs.drop n) (us.drop n)
 |_,_,0,r=>r
 |_,_,_+1,.nil=>.nil
 |_,_,n+1,.cons _ t=>Vals.drop n t
def JV:Option V->Option Value->Prop
 |some v,some u=>RelV v u
 |none,none=>True
 |_,_=>False
def KV{κ:Type}:List (κ×V)->List (κ×Value)->Prop:=Paired fun(p:κ×V) (q:κ×Value)=>p.1=q.1/\RelV p.2 q.2
def kV:Key->V
 |.inl i=>.int i
 |.inr x=>.str x
inductive HO where
 |lst (xs:List V)
 |tup (xs:List V)
 |dK (kvs:List (Key×V))|dT (kvs:List (List Key×V))
 |set (S:Int->Bool) (n:Nat)
 |ins (C dx:Addr) (fs:List (Str×V))
 |own (x:Addr)
 |xd (fs:List (Str×V))
 |met (f x:Addr)
 |fG (lo hi:Int)
 |Im (o:Obj) (u:HO)
 |SY (ps:Array Value)
 |ext (φ:Heap->Prop)
abbrev Hp:=Addr->Option HO
def upd(H:Hp)(a:Addr)(o:HO):Hp:=fun b=>if b=a then some o else H b
theorem AF{H:Hp}{a:Addr}{o:HO}:upd H a o a=some o:=by unfold upd;rw[if_pos rfl]
theorem AE{H:Hp}{a b:Addr}{o:HO}(h:b≠a):upd H a o b=H b:=by unfold upd;rw[if_neg h]
theorem iq{H:Hp}{a b:Addr}{o u:HO}(h:H a=some o)(h':H b=some u)(d:o≠u):a≠b:=by
 intro e;subst e;rw[h]at h';exact d (aY h')
theorem AJ{H:Hp}{a b:Addr}{o:HO}(h:H a=some o)(h':H b=none):a≠b:=by
 intro e;subst e;rw[h]at h';cases h'
section
variable(P:Program)(w:World)
def Bv(H:Hp)(h:Heap)(a:Addr):HO->Prop
 |.lst xs=>xs.length<=sizeLine/\∃(I:List Value) (n:Nat),Vals xs I/\h.get? a=some { cls:=.type "list",data:=.seq I.toArray n}
 |.tup xs=>xs.length<=sizeLine/\∃I:List Value,Vals xs I/\IsTup h a I.toArray
 |.dK kvs=>kvs.length<=sizeLine/\(a==sysModules)=false/\∃vs,KV kvs vs/\h.DictOf (DL P w) a vs
 |.dT kvs=>kvs.length<=sizeLine/\(a==sysModules)=false/\∃xs:List (List Key×Addr×Value),
   Paired (fun(p:List Key×V) (q:List Key×Addr×Value)=>p.1=q.1/\H q.2.1=some (.tup (p.1.map kV))/\RelV p.2 q.2.2) kvs xs /\
   ∃o T U,h.get? a=some o/\o.ExactDict/\o.data=.dict T U/\T.toList=xs.map (entryOfKey (tupleKind (DL P w)))/\(xs.map (·.1)).Nodup
 |.set S n=>h.SetOf (intKind P w) a S n
 |.ins C dx fs=>H dx=some (.own a)/\fs.length<=1000/\dx≠a/\h.get? a=some (PySem.W.instObj C dx) /\
   ∃mA,h.Ns1 dx mA/\(∀f,JV (fs.lookup f) (mA f))/\PySem.Within mA (fs.map (·.1))
 |.own _=>∃o,h.get? a=some o
 |.xd fs=>∃mA,h.Ns1 a mA/\∀f,JV (fs.lookup f) (mA f)
 |.fG lo hi=>∃t u v,h.get? a=some { cls:=.type "range",data:=.fields #[.int lo t,.int hi u,.int 1 v]}
 |.Im o u=>h.get? a=some o/\Bv H h a u
 |.SY ps=>h.get? a=some { cls:=.none,data:=.fields ps}
 |.met f x=>h.get? a=some (PySem.W.methodObj (.ref f) (.ref x))
 |.ext φ=>φ h/\(∃o,h.get? a=some o)/\∀R M:Heap,φ R->(∀o,R.get? a=some o->M.get? a=some o)->φ M
def C2(H:Hp)(h:Heap):Prop:=∀a o,H a=some o->Bv P w H h a o
end
section
variable{P:Program}{w:World}{H H':Hp}{h h':Heap}{a:Addr}{o:HO}
theorem Bv.lt(x:Bv P w H h a o):a<h.objs.size:=by
 cases o with
 |lst xs=>obtain⟨_,_,_,_,e⟩:=x;exact aF e
 |tup xs=>obtain⟨_,_,_,p⟩:=x;exact p.lt
 |dK kvs=>obtain⟨_,_,_,_,o,_,_,e,_⟩:=x;exact aF e
 |dT kvs=>obtain⟨_,_,_,_,o,_,_,e,_⟩:=x;exact aF e
 |set S n=>obtain⟨o,_,_,_,e,_⟩:=x;exact aF e
 |ins C dx fs=>obtain⟨_,_,_,e,_⟩:=x;exact aF e
 |own y=>obtain⟨_,e⟩:=x;exact aF e
 |xd fs=>obtain⟨_,⟨_,_,_,e,_⟩,_⟩:=x;exact aF e
 |fG lo hi=>obtain⟨_,_,_,e⟩:=x;exact aF e
 |Im I u=>obtain⟨e,_⟩:=x;exact aF e
 |SY ps=>exact aF (show h.get? a=some _ from x)
 |met f y=>exact aF (show h.get? a=some _ from x)
 |ext φ=>obtain⟨_,⟨_,e⟩,_⟩:=x;exact aF e
theorem Paired.YT{α β:Type}{F G:α->β->Prop}:∀ {M:List α} {I:List β},Paired F M I->(∀a b,F a b->G a b)->Paired G M I
 |_,_,.nil,_=>.nil
 |_,_,.cons r t,f=>.cons (f _ _ r) (Paired.YT t f)
theorem Bv.IC(x:Bv P w H h a o)(k:∀b u,(b=a\/H b=some (.own a))->h.get? b=some u->h'.get? b=some u)
 (Z:∀b,H b=some (.own a)->H' b=some (.own a))(Y:∀b xs,H b=some (.tup xs)->H' b=some (.tup xs)):Bv P w H' h' a o:=by
 induction o with
 |lst xs=>obtain⟨z,T,n,r,e⟩:=x;exact⟨z,T,n,r,k _ _ (.inl rfl) e⟩
 |tup xs=>obtain⟨z,T,r,I,e,c⟩:=x;exact⟨z,T,r,I,k _ _ (.inl rfl) e,c⟩
 |dK kvs=>obtain⟨z,y,vs,r,I,M,R,e,c⟩:=x;exact⟨z,y,vs,r,I,M,R,k _ _ (.inl rfl) e,c⟩
 |dT kvs=>
  obtain⟨z,y,xs,r,I,M,R,e,c⟩:=x;exact⟨z,y,xs,Paired.YT r fun p q z=>⟨z.1,Y _ _ z.2.1,z.2.2⟩,I,M,R,k _ _ (.inl rfl) e,c⟩
 |set S n=>obtain⟨I,M,R,t,e,c⟩:=x;exact⟨I,M,R,t,k _ _ (.inl rfl) e,c⟩
 |ins C dx fs=>
  obtain⟨d,z,ne,e,mA,⟨od,M,R,e2,c⟩,r⟩:=x;exact⟨Z _ d,z,ne,k _ _ (.inl rfl) e,mA,⟨od,M,R,k _ _ (.inr d) e2,c⟩,r⟩
 |own y=>obtain⟨I,e⟩:=x;exact⟨I,k _ _ (.inl rfl) e⟩
 |xd fs=>obtain⟨mA,⟨od,M,R,e,c⟩,r⟩:=x;exact⟨mA,⟨od,M,R,k _ _ (.inl rfl) e,c⟩,r⟩
 |fG lo hi=>obtain⟨t,u,v,e⟩:=x;exact⟨t,u,v,k _ _ (.inl rfl) e⟩
 |Im I u U=>obtain⟨e,q⟩:=x;exact⟨k _ _ (.inl rfl) e,U q⟩
 |SY ps=>
  have e:h.get? a=some { cls:=.none,data:=.fields ps}:=x;show h'.get? a=some { cls:=.none,data:=.fields ps};exact k a _ (.inl rfl) e
 |met f y=>
  have e:h.get? a=some (PySem.W.methodObj (.ref f) (.ref y)):=x;show h'.get? a=some (PySem.W.methodObj (.ref f) (.ref y));exact k a _ (.inl rfl) e
 |ext φ=>obtain⟨p,⟨o,e⟩,st⟩:=x;exact⟨st _ _ p fun o q=>k _ _ (.inl rfl) q,⟨o,k _ _ (.inl rfl) e⟩,st⟩
theorem C2.lt(x:C2 P w H h)(e:H a=some o):a<h.objs.size:=(x a o e).lt
theorem C2.fresh(x:C2 P w H h)(e:h.objs.size<=a):H a=none:=by
 cases q:H a with
 |none=>rfl
 |some u=>exact absurd (aP (x.lt q) e) (Nat.lt_irrefl _)
theorem C2.kept(x:C2 P w H h)(k:∀b u,h.get? b=some u->h'.get? b=some u):C2 P w H h':=fun a o e=>
 (x a o e).IC (fun b u _ q=>k b u q) (fun _ q=>q) fun _ _ q=>q
theorem C2.laid(x:C2 P w H h)(k:∀b u,h.get? b=some u->h'.get? b=some u)(M:h.objs.size<=a)(new:Bv P w (upd H a o) h' a o):C2 P w (upd H a o) h':=fun b u e=>by
 have hn:=x.fresh M;by_cases I:b=a
 .subst I;rw[AF]at e;cases e;exact new
 .rw[AE I]at e;exact(x b u e).IC (fun c v _ q=>k c v q) (fun c q=>by rw[AE (AJ q hn)];exact q) fun c xs q=>by rw[AE (AJ q hn)];exact q
end
def Rd(H:Hp)(a:Addr)(u:HO):Prop:=H a=some u\/∃o,H a=some (.Im o u)
theorem Rd.ok{P:Program}{w:World}{H:Hp}{h:Heap}{a:Addr}{u:HO}(r:Rd H a u)(x:C2 P w H h):Bv P w H h a u:=by
 rcases r with r|⟨o,r⟩
 .exact x a u r
 .obtain⟨_,q⟩:=x a _ r;exact q
def Xd:Option HO->Prop
 |some (.lst _)=>True
 |some (.dK _)=>True
 |some (.dT _)=>True
 |some (.set _ _)=>True
 |some (.ins _ _ _)=>True
 |some (.ext _)=>True
 |_=>False
section
variable{P:Program}{w:World}{H:Hp}{h h':Heap}{x e:Addr}{o':HO}
theorem C2.write(ok:C2 P w H h)(R:Xd (H x))(he:e=x\/H e=some (.own x))(k:∀b u,b≠e->h.get? b=some u->h'.get? b=some u)(Y:∃u,h'.get? e=some u)
 (new:Bv P w (upd H x o') h' x o'):C2 P w (upd H x o') h':=fun b u q=>by
 have M:∀c y,H c=some (.own y)->c≠x:=fun c y r z=>by subst z;rw[r]at R;exact R
 have Vs:∀c xs,H c=some (.tup xs)->c≠x:=fun c xs r z=>by subst z;rw[r]at R;exact R
 by_cases U:b=x
 .subst U;rw[AF]at q;cases q;exact new
 .rw[AE U]at q;by_cases I:b=e
  .have Z:H b=some (.own x):=by
    rcases he with z|z
    .exact absurd (I.trans z) U
    .rw[I];exact z
   rw[q]at Z;cases Z;obtain⟨v,hv⟩:=Y;exact⟨v,by rw[I];exact hv⟩
  .refine(ok b u q).IC (fun c v T r=>k c v ?_ r) (fun c r=>by rw[AE (M c b r)];exact r) fun c xs r=>by rw[AE (Vs c xs r)];exact r
   rcases T with rfl|T
   .exact I
   .rintro rfl;rcases he with z|z
    .exact M c b T z
    .rw[T]at z;cases z;exact U rfl
end
structure Un(fs ex:List Addr)(H H':Hp)(h h':Heap):Prop where
 keep:∀b o,h.get? b=some o->H b=none->b ∉ fs->b ∉ ex->h'.get? b=some o
 slot:∀b o,h.get? b=some o->H b=none->b∈fs->b ∉ ex->∃sl,h'.get? b=some {o with slots:=sl}
 free:∀b o,h.get? b=some o->H b=none->b ∉ ex->H' b=none
 there:∀b o,h.get? b=some o->b ∉ ex->∃o',h'.get? b=some o'
 JC:∀b xs,H b=some (.tup xs)->H' b=some (.tup xs)
 JX:∀b o u,H b=some (.Im o u)->H' b=some (.Im o u)
 KJ:∀b ps,H b=some (.SY ps)->∃more,H' b=some (.SY (ps++more))
 Ka:∀b xs o,H b=some (.tup xs)->h.get? b=some o->b ∉ ex->h'.get? b=some o
section
variable{fs ex:List Addr}{H H1:Hp}{h h1 h':Heap}{a x e:Addr}{o:HO}
theorem Un.any(u:Un fs ex H H1 h h1){b:Addr}{I:Obj}(q:h.get? b=some I)(n:H b=none)(M:b ∉ ex):∃sl,h1.get? b=some {I with slots:=sl}:=by
 by_cases R:b∈fs
 .exact u.slot b I q n R M
 .exact⟨I.slots,u.keep b I q n R M⟩
theorem Un.kept(k:∀b u,h.get? b=some u->h'.get? b=some u):Un fs ex H H h h' :=
 ⟨fun b I q _ _ _=>k b I q,fun b I q _ _ _=>⟨I.slots,k b I q⟩,fun _ _ _ n _=>n,fun b I q _=>⟨I,k b I q⟩,fun _ _ q=>q,fun _ _ _ q=>q,fun _ ps q=>⟨#[],by rw[q];simp⟩,fun _ _ I _ e _=>k _ I e⟩
theorem Un.refl:Un fs ex H H h h:=Un.kept fun _ _ q=>q
theorem Un.laid(k:∀b u,h.get? b=some u->h'.get? b=some u)(hp:h.objs.size<=a)(hn:H a=none):Un fs ex H (upd H a o) h h' where
 keep:=fun b u q _ _ _=>k b u q
 slot:=fun b u q _ _ _=>⟨u.slots,k b u q⟩
 free:=fun b u q n _=>by rw[AE (aO (aP (aF q) hp))];exact n
 there:=fun b u q _=>⟨u,k b u q⟩
 JC:=fun b xs q=>by rw[AE (AJ q hn)];exact q
 JX:=fun b u xs q=>by rw[AE (AJ q hn)];exact q
 KJ:=fun b ps q=>⟨#[],by rw[AE (AJ q hn),q];simp⟩
 Ka:=fun b _ u _ e _=>k b u e
theorem Un.write(M:Xd (H x))(U:e=x\/H e=some (.own x))(k:∀b u,b≠e->h.get? b=some u->h'.get? b=some u)(R:∃u,h'.get? e=some u):Un fs ex H (upd H x o) h h':=by
 have T:∀b,H b=none->b≠x:=fun b n z=>by subst z;rw[n]at M;exact M
 have Y:∀b,H b=none->b≠e:=fun b n z=>by
  subst z;rcases U with r|r
  .exact T b n r
  .rw[n]at r;cases r
 have hm:∀b u,H b=some u->¬Xd (some u)->b≠x:=fun b u q nm z=>by subst z;rw[q]at M;exact nm M
 refine⟨fun b u q n _ _=>k b u (Y b n) q,fun b u q n _ _=>⟨u.slots,k b u (Y b n) q⟩,fun b u q n _=>by rw[AE (T b n)];exact n,fun b u q _=>?_,
  fun b xs q=>by rw[AE (hm b _ q fun z=>z)];exact q,fun b u xs q=>by rw[AE (hm b _ q fun z=>z)];exact q,fun b ps q=>⟨#[],by rw[AE (hm b _ q fun z=>z),q];simp⟩,fun b xs u q e _=>k b u (fun z=>by
   rcases U with r|r
   .exact hm b _ q (fun z=>z) (z.trans r)
   .rw[<-z,q]at r;cases r) e⟩
 by_cases I:b=e
 .subst I;exact R
 .exact⟨u,k b u I q⟩
end
def GB(h:Heap)(H:Hp):List Addr:=(List.range h.objs.size).filter fun a=>(H a).isSome
def Kd(h:Heap)(H:Hp):Heap:=PySem.W.hideAll h (GB h H)
theorem XQ(h:Heap)(H:Hp):(Kd h H).objs.size=h.objs.size:=PySem.W.hideAll_size _ _
theorem Y7{h:Heap}{H:Hp}{b:Addr}{o:Obj}(e:h.get? b=some o)(n:H b=none):(Kd h H).get? b=some o :=
 PySem.W.hideAll_get _ e fun hm=>by
  have q:(H b).isSome=true:=(List.mem_filter.mp hm).2;rw[n]at q;simp at q
theorem Zp{h:Heap}{H:Hp}{b:Addr}{o:Obj}(e:(Kd h H).get? b=some o):h.get? b=some o/\H b=none:=by
 have I:h.get? b=some o:=PySem.W.of_hideAll (GB h H) e;refine⟨I,?_⟩;cases q:H b with
 |none=>rfl
 |some x=>
  have hm:b∈GB h H:=List.mem_filter.mpr ⟨av.mpr (aF I),by simp[q]⟩;have z:(Kd h H).get? b=none:=PySem.W.hideAll_none (GB h H) hm;rw[z]at e;cases e
structure Mod(K:PySem.W.Frag)(mg:Str->Option Value)(base:Heap):Prop where
 ej:K.In base
 glob:base.Ns mainGlobals mg
 blt:∃mb,base.Ns builtinsNs mb/\∀x:Str,x ≠ "__name__" -> mb x=bootBuiltins x
 nolimit:base.NoLimit
def kY(d:Nat):List (List V):=[[],[.ref (d+1)],[.int 1,.int 1],[.ref (d+3)],[.ref (d+2),.ref (d+4)],[],[.int 1,.int 2],[.ref (d+7)],[.ref (d+6),.ref (d+8)],[.int 0,.int 1],[.int 1,.int 1],[.ref (d+10),.ref (d+11)],[.ref (d+9),.ref (d+12)],[],[.int 1,.int 1],[.ref (d+15)],[.ref (d+14),.ref (d+16)],[.int 1,.int 2],[.int 1,.int 2],[.ref (d+18),.ref (d+19)],[.ref (d+17),.ref (d+20)],[],[.int 1,.int 3],[.ref (d+23)],[.int 0,.int 1],[.int 2,.int 3],[.ref (d+25),.ref (d+26)],[.ref (d+22),.ref (d+24),.ref (d+27)],[.int 1,.int 4],[.int 0,.int 1],[.int 3,.int 4],[.ref (d+29),.ref (d+30),.ref (d+31)],[.ref (d+28),.ref (d+32)],[],[.int 1,.int 2],[.ref (d+35)],[.int 0,.int 1],[.int 1,.int 2],[.ref (d+37),.ref (d+38)],[.int 0,.int 1],[.int 0,.int 1],[.int 1,.int 1],[.ref (d+40),.ref (d+41),.ref (d+42)],[.ref (d+34),.ref (d+36),.ref (d+39),.ref (d+43)],[.int 1,.int 6],[.int 1,.int 3],[.int 1,.int 3],[.int 1,.int 6],[.ref (d+45),.ref (d+46),.ref (d+47),.ref (d+48)],[.ref (d+44),.ref (d+49)]]
def lD(d:Nat):List (Key×V):=[(.inr "plain",.ref (d+5)),(.inr "middle",.ref (d+13)),(.inr "heel",.ref (d+21)),(.inr "third",.ref (d+33)),(.inr "fourth",.ref (d+50))]
def KTb(mg:Str->Option Value)(H:Hp):Prop:=∀d:Addr,mg "NAMED_TABLES" = some (.ref d)->(∃o,H d=some (.Im o (.dK (lD d))))/\∀j xs,(kY d)[j]? = some xs->H (d+1+j)=some (.tup xs)
theorem KTb.un{mg:Str->Option Value}{fs ex:List Addr}{H H':Hp}{h h':Heap}(k:KTb mg H)(u:Un fs ex H H' h h'):KTb mg H':=fun d e=>by
 obtain⟨⟨o,M⟩,I⟩:=k d e;exact⟨⟨o,u.JX _ _ _ M⟩,fun j xs q=>u.JC _ _ (I j xs q)⟩
structure Cx where
 prog:Program
 w:World
 K:PySem.W.Frag
 mg:Str->Option Value
 base:Heap
 A:Around
 N:List Str
 s₀:Shared
 H₀:Hp
 env:Env
 outer:List Env
 stack:List Env
 ex:List Addr
 fn:Str->Bool
 calm:Bool
 pn:List (Addr×Obj)
 xe:Value->Shared->Prop
def K5(l:List Env):List Addr:=l.filterMap (·.frame)
abbrev Cx.fs(X:Cx):List Addr:=K5 X.outer
def dP(sc:Scope)(x:Str):Prop:=sc.names.lookup x=some .local\/sc.names.lookup x=some .cell\/sc.names.lookup x=some .free
def Loc(sc:Scope)(x:Str):Prop:=sc.names.lookup x=some .local\/sc.names.lookup x=some .cell
def Look(env:Env)(h:Heap)(m:Str->Option Value)(x:Str)(u:Value):Prop :=
 (env.kindOf x=some .local/\m x=some u)\/((env.kindOf x=some .cell\/env.kindOf x=some .free)/\∃c,env.cells.lookup x=some c/\h.IsCell c (some u))
structure Cx.Ok(X:Cx):Prop where
 mod:Mod X.K X.mg X.base
 kind:X.env.scope.kind=.function
 glob:X.env.globals=mainGlobals
 blt:X.env.builtins=builtinsNs
 above:X.s₀.heap.objs.size<=X.env.locals
 inj:∀x y c,X.env.cells.lookup x=some c->X.env.cells.lookup y=some c->x=y
 has:∀x,(X.env.kindOf x=some .cell\/X.env.kindOf x=some .free)->∃c,X.env.cells.lookup x=some c
 Tz:∀x c,X.fn x=true->X.env.cells.lookup x=some c->X.s₀.heap.objs.size<=c
 hd:X.calm=true->X.A.handled=none
 frames:X.A.frames=some X.stack
 ZM:X.stack=X.outer\/(X.stack=X.env::X.outer/\X.env.frame=some X.env.locals)
 jB:∀b∈X.ex,b≠X.env.locals/\∀x c,X.env.cells.lookup x=some c->c≠b
 bs:∀b o,X.base.get? b=some o->X.s₀.heap.get? b=some o/\X.H₀ b=none
 QJ:X.base.objs.size<=X.s₀.heap.objs.size
 SX:∀b o,X.base.get? b=some o->b ∉ X.ex
 Sd:∀b∈X.ex,b ∉ X.fs
 JR:X.s₀.heap.FunFrames X.base X.outer
 T1:∀b∈X.fs,X.H₀ b=none
 kt:KTb X.mg X.H₀
structure Inv(X:Cx)(pins:List (Addr×Obj))(σ:List (Option V))(H:Hp)(s:Shared):Prop where
 ok:X.Ok
 os:s.os=X.s₀.os
 bare:AllBare s.gens
 base:Un X.fs X.ex X.H₀ H X.s₀.heap s.heap
 loc:∃m,s.heap.Ns X.env.locals m/\∀(i:Nat) (x:Str) (v:V),X.N[i]? = some x->σ[i]? = some (some v)->dP X.env.scope x->∃u,RelV v u/\Look X.env s.heap m x u
 cell:∀x c,X.env.cells.lookup x=some c->∃v,s.heap.IsCell c v
 free:H X.env.locals=none
 HI:∀x c,X.env.cells.lookup x=some c->H c=none
 pin:∀p∈X.pn++pins,s.heap.get? p.1=some p.2/\H p.1=none/\p.1≠X.env.locals/\p.1 ∉ X.fs/\∀v,p.2.data≠.cell v
 Al:C2 X.prog X.w H s.heap
 len:σ.length=X.N.length
theorem Inv.kt{X:Cx}{pins:List (Addr×Obj)}{σ:List (Option V)}{H:Hp}{s:Shared}(I:Inv X pins σ H s):KTb X.mg H:=I.ok.kt.un I.base
section
variable{X:Cx}{pins:List (Addr×Obj)}{σ:List (Option V)}{H H':Hp}{s:Shared}{h':Heap}
theorem Cx.Ok.jy(ok:X.Ok){b:Addr}{o:Obj}(e:X.base.get? b=some o):b ∉ X.fs:=fun I=>by
 have:=(ok.JR.mem I).1;rw[e]at this;cases this
theorem Inv.bs(I:Inv X pins σ H s):∀b o,X.base.get? b=some o->s.heap.get? b=some o/\H b=none:=fun b o e=>
 ⟨I.base.keep b o (I.ok.bs b o e).1 (I.ok.bs b o e).2 (I.ok.jy e) (I.ok.SX b o e),I.base.free b o (I.ok.bs b o e).1 (I.ok.bs b o e).2 (I.ok.SX b o e)⟩
theorem Inv.bk(I:Inv X pins σ H s):∀b o,X.base.get? b=some o->s.heap.get? b=some o:=fun b o e=>(I.bs b o e).1
theorem Inv.mod(I:Inv X pins σ H s):Mod X.K X.mg X.base:=I.ok.mod
theorem Inv.HZ(I:Inv X pins σ H s):X.K.In s.heap:=I.ok.mod.ej.keeps I.bk
theorem Inv.lt(I:Inv X pins σ H s):X.env.locals<s.heap.objs.size:=let⟨_,hn,_⟩:=I.loc;hn.lt
theorem Inv.sz(I:Inv X pins σ H s):X.s₀.heap.objs.size<=s.heap.objs.size:=aR I.ok.above (bP I.lt)
theorem Inv.j5(I:Inv X pins σ H s){a:Addr}(h:s.heap.objs.size<=a):a ∉ X.fs:=fun R=>by
 obtain⟨_,o,M,_⟩:=I.ok.JR.mem R;exact absurd (aP (aF M) (aR I.sz h)) (Nat.lt_irrefl _)
theorem Inv.Sn(I:Inv X pins σ H s):∀x c,X.env.cells.lookup x=some c->c≠X.env.locals:=fun x c e z=>by
 obtain⟨v,o,T,hd⟩:=I.cell x c e;obtain⟨m,⟨o',U,Y,M,R,_⟩,_⟩:=I.loc;rw[z,M]at T;cases T;rw[R]at hd;cases hd
theorem Inv.JR(I:Inv X pins σ H s):s.heap.FunFrames X.base X.outer:=by
 have all:∀(l:List Env),(∀b∈K5 l,b∈X.fs)->X.s₀.heap.FunFrames X.base l->s.heap.FunFrames X.base l:=by
  intro l
  induction l with
  |nil=>intro _ _;trivial
  |cons env r Y=>
   intro U hl;obtain⟨hk,⟨L,o,M,hn,ho,hd⟩,Z⟩:=hl;have T:L∈X.fs:=U L (by unfold K5;rw[List.filterMap_cons,M];exact ag);obtain⟨sl,e⟩:=I.base.slot L o ho (I.ok.T1 L T) T fun z=>I.ok.Sd L z T;exact⟨hk,⟨L,_,M,hn,e,hd⟩,Y (fun b R=>U b (by unfold K5;rw[List.filterMap_cons,M];exact aV _ R)) Z⟩
 exact all X.outer (fun _ R=>R) I.ok.JR
theorem Inv.stack(I:Inv X pins σ H s):s.heap.FunFrames X.base X.stack:=by
 rcases I.ok.ZM with e|⟨e,M⟩
 .rw[e];exact I.JR
 .rw[e];obtain⟨m,hn,_⟩:=I.loc;refine .cons (by rw[I.ok.kind];decide) M hn ?_ I.JR;exact Heap.get?_none_of_le (aR I.ok.QJ I.ok.above)
theorem Inv.RG(I:Inv X pins σ H s):∀b∈K5 X.stack,b∈X.env.locals::X.fs:=fun b M=>by
 rcases I.ok.ZM with e|⟨e,R⟩
 .rw[e]at M;exact aV _ M
 .rw[e]at M;unfold K5 at M;rw[List.filterMap_cons,R]at M;exact M
theorem Inv.UE(I:Inv X pins σ H s):∀b∈K5 X.stack,H b=none:=fun b M=>by
 rcases aS.mp (I.RG b M) with e|M
 .rw[e];exact I.free
 .obtain⟨_,o,R,_⟩:=I.ok.JR.mem M;exact I.base.free b o R (I.ok.T1 b M) fun z=>I.ok.Sd b z M
theorem Inv.step{g':Array GenState}{t':Nat}{d':Drawn}{ch:List Addr}(I:Inv X pins σ H s)
 (U:∀b∈ch,(b∈X.ex\/X.s₀.heap.objs.size<=b)/\b≠X.env.locals/\(∀x c,X.env.cells.lookup x=some c->c≠b)/\∀p∈X.pn++pins,p.1≠b)
 (keep:∀b o,b≠X.env.locals->b ∉ X.fs->b ∉ ch->s.heap.get? b=some o->H b=none->h'.get? b=some o)
 (slot:∀b o,b≠X.env.locals->b∈X.fs->b ∉ ch->s.heap.get? b=some o->H b=none->∃sl,h'.get? b=some {o with slots:=sl})(free:∀b o,b ∉ ch->s.heap.get? b=some o->H b=none->H' b=none)
 (there:∀b o,b ∉ ch->s.heap.get? b=some o->∃o',h'.get? b=some o')
 (JC:∀b xs,H b=some (.tup xs)->H' b=some (.tup xs))(JX:∀b o u,H b=some (.Im o u)->H' b=some (.Im o u))(KJ:∀b ps,H b=some (.SY ps)->∃more,H' b=some (.SY (ps++more)))
 (Ka:∀b xs o,b ∉ ch->H b=some (.tup xs)->s.heap.get? b=some o->h'.get? b=some o)
 (ns:∀m,s.heap.Ns X.env.locals m->h'.Ns X.env.locals m)(Al:C2 X.prog X.w H' h')(hg:AllBare g') :
  Inv X pins σ H' {s with heap:=h',gens:=g',drawn:=d',toks:=t'}:=by
 have neL:∀b o,X.s₀.heap.get? b=some o->b≠X.env.locals:=fun b o e=>aO (aP (aF e) I.ok.above);have R:∀b o,X.s₀.heap.get? b=some o->b ∉ X.ex->b ∉ ch:=fun b o e M Z=>by
  rcases(U b Z).1 with z|z
  .exact M z
  .exact absurd (aP (aF e) z) (Nat.lt_irrefl _)
 have cellK:∀x c,X.env.cells.lookup x=some c->∀v,s.heap.IsCell c v->h'.IsCell c v:=fun x c e v ⟨o,ho,hd⟩=>by
  have T:c ∉ ch:=fun z=>(U c z).2.2.1 x c e rfl;by_cases hc:c∈X.fs
  .obtain⟨sl,q⟩:=slot c o (I.Sn x c e) hc T ho (I.HI x c e);exact⟨_,q,hd⟩
  .exact⟨o,keep c o (I.Sn x c e) hc T ho (I.HI x c e),hd⟩
 refine⟨I.ok,I.os,hg,⟨fun b o e n Z M=>?_,fun b o e n Z M=>?_,fun b o e n M=>?_,fun b o e M=>?_,fun b xs e=>JC b xs (I.base.JC b xs e),fun b o xs e=>JX b o xs (I.base.JX b o xs e),fun b ps e=>?_,fun b xs o q e M=>Ka b xs o (R b o e M) (I.base.JC b xs q) (I.base.Ka b xs o q e M)⟩,?_,fun x c e=>?_,?_,fun x c e=>?_,fun p hp=>?_,Al,I.len⟩
 .exact keep b o (neL b o e) Z (R b o e M) (I.base.keep b o e n Z M) (I.base.free b o e n M)
 .obtain⟨sl,Y⟩:=I.base.slot b o e n Z M;obtain⟨sl',e2⟩:=slot b _ (neL b o e) Z (R b o e M) Y (I.base.free b o e n M);exact⟨sl',e2⟩
 .obtain⟨o',Y⟩:=I.base.there b o e M;exact free b o' (R b o e M) Y (I.base.free b o e n M)
 .obtain⟨o',Y⟩:=I.base.there b o e M;exact there b o' (R b o e M) Y
 .obtain⟨m1,Y⟩:=I.base.KJ b ps e;obtain⟨m2,e2⟩:=KJ b _ Y;exact⟨m1++m2,by rw[e2,Array.append_assoc]⟩
 .obtain⟨m,hn,hl⟩:=I.loc;refine⟨m,ns m hn,fun i x v Y e2 e3=>?_⟩;obtain⟨u,r,l⟩:=hl i x v Y e2 e3;refine⟨u,r,?_⟩;rcases l with l|⟨k,c,e,z⟩
  .exact .inl l
  .exact .inr ⟨k,c,e,cellK x c e _ z⟩
 .obtain⟨v,z⟩:=I.cell x c e;exact⟨v,cellK x c e v z⟩
 .obtain⟨m,⟨o,_,_,ho,_⟩,_⟩:=I.loc;exact free _ o (fun z=>(U _ z).2.1 rfl) ho I.free
 .obtain⟨v,o,ho,hd⟩:=I.cell x c e;exact free c o (fun z=>(U c z).2.2.1 x c e rfl) ho (I.HI x c e)
 .obtain⟨e,n,ne,nf,d⟩:=I.pin p hp;have T:p.1 ∉ ch:=fun z=>(U p.1 z).2.2.2 p hp rfl;exact⟨keep p.1 p.2 ne nf T e n,free p.1 p.2 T e n,ne,nf,d⟩
theorem Inv.un{t':Nat}(I:Inv X pins σ H s)(u:Un X.fs [] H H' s.heap h')(Al:C2 X.prog X.w H' h'):Inv X pins σ H' {s with heap:=h',toks:=t'}:=by
 obtain⟨m,⟨o,es,ep,Y,r⟩,_⟩:=id I.loc;obtain⟨sl,hL⟩:=u.any Y I.free (by simp);exact I.step (g':=s.gens) (d':=s.drawn) (ch:=[]) (fun _ z=>nomatch z) (fun b o _ R _ e n=>u.keep b o e n R (by simp)) (fun b o _ R _ e n=>u.slot b o e n R (by simp)) (fun b o _ e n=>u.free b o e n (by simp)) (fun b o _ e=>u.there b o e (by simp)) u.JC u.JX u.KJ (fun b xs o _ q e=>u.Ka b xs o q e (by simp)) (fun m' hm=>by
  obtain⟨o',T,U,M,Z⟩:=hm;rw[Y]at M;cases M;exact⟨_,T,U,hL,Z⟩) Al I.bare
theorem Inv.call{g':Array GenState}{t':Nat}{d':Drawn}{ch:List Addr}(I:Inv X pins σ H s)(u:Un (K5 X.stack) ch H H' s.heap h')(Al:C2 X.prog X.w H' h')(hg:AllBare g')
 (T:∀b∈ch,(b∈X.ex\/X.s₀.heap.objs.size<=b)/\b≠X.env.locals/\(∀x c,X.env.cells.lookup x=some c->c≠b)/\∀p∈X.pn++pins,p.1≠b) :
  Inv X pins σ H' {s with heap:=h',gens:=g',drawn:=d',toks:=t'}:=by
 obtain⟨m,⟨o,es,ep,ho,r⟩,_⟩:=id I.loc;obtain⟨sl,U⟩:=u.any ho I.free fun z=>(T _ z).2.1 rfl;exact I.step (ch:=ch) T (fun b o U hb M e n=>u.keep b o e n (fun z=>(aS.mp (I.RG b z)).elim U hb) M) (fun b o _ _ M e n=>u.any e n M) (fun b o M e n=>u.free b o e n M) (fun b o M e=>u.there b o e M) u.JC u.JX u.KJ (fun b xs o M q e=>u.Ka b xs o q e M) (fun m' hm=>by
  obtain⟨o',Y,Z,R,r'⟩:=hm;rw[ho]at R;cases R;exact⟨_,Y,Z,U,r'⟩) Al hg
theorem Inv.turned{t':Nat}{it:Addr}(I:Inv X pins σ H s)(k:∀b o,b≠it->s.heap.get? b=some o->h'.get? b=some o)(hn:H it=none)(T:it≠X.env.locals)
 (h1:it∈X.ex\/X.s₀.heap.objs.size<=it)(h2:∀x c,X.env.cells.lookup x=some c->c≠it)(Z:∀p∈X.pn++pins,p.1≠it):Inv X pins σ H {s with heap:=h',toks:=t'}:=by
 have R:∀b u,H b=some u->b≠it:=fun b u e z=>by rw[z,hn]at e;cases e
 refine I.step (g':=s.gens) (d':=s.drawn) (ch:=[it]) (fun b Y=>?_) (fun b o _ _ M e _=>k b o (fun z=>M (by simp[z])) e) (fun b o _ _ M e _=>⟨o.slots,k b o (fun z=>M (by simp[z])) e⟩) (fun _ _ _ _ n=>n)
  (fun b o M e=>⟨o,k b o (fun z=>M (by simp[z])) e⟩) (fun _ _ e=>e) (fun _ _ _ e=>e) (fun b ps e=>⟨#[],by rw[e];simp⟩) (fun b xs o M _ e=>k b o (fun z=>M (by simp[z])) e) (fun m hm=>?_) (fun b u e=>?_) I.bare
 .have e:b=it:=by simpa using Y
  subst e;exact⟨h1,T,h2,Z⟩
 .obtain⟨o,es,ep,U,r⟩:=hm;exact⟨o,es,ep,k _ o (Ne.symm T) U,r⟩
 .refine(I.Al b u e).IC (fun c v M q=>k c v ?_ q) (fun _ q=>q) fun _ _ q=>q;rcases M with z|z
  .rw[z];exact R b u e
  .exact R c _ z
theorem Inv.tok(I:Inv X pins σ H s)(t:Nat):Inv X pins σ H {s with toks:=t}:=I.un (h':=s.heap) (t':=t) Un.refl I.Al
theorem Inv.kept{t':Nat}(I:Inv X pins σ H s)(k:∀b u,s.heap.get? b=some u->h'.get? b=some u):Inv X pins σ H {s with heap:=h',toks:=t'}:=I.un (Un.kept k) (I.Al.kept k)
theorem Inv.laid{a:Addr}{o:HO}{t':Nat}(I:Inv X pins σ H s)(k:∀b u,s.heap.get? b=some u->h'.get? b=some u)(M:s.heap.objs.size<=a)(new:Bv X.prog X.w (upd H a o) h' a o) :
  Inv X pins σ (upd H a o) {s with heap:=h',toks:=t'}:=I.un (Un.laid k M (I.Al.fresh M)) (I.Al.laid k M new)
theorem Inv.write{x e:Addr}{o:HO}{t':Nat}(I:Inv X pins σ H s)(R:Xd (H x))(T:e=x\/H e=some (.own x))(k:∀b u,b≠e->s.heap.get? b=some u->h'.get? b=some u)(M:∃u,h'.get? e=some u)
 (new:Bv X.prog X.w (upd H x o) h' x o):Inv X pins σ (upd H x o) {s with heap:=h',toks:=t'}:=I.un (Un.write R T k M) (I.Al.write R T k M new)
theorem Inv.UO{M:List (Addr×Obj)}(I:Inv X pins σ H s)(h:∀p∈M,s.heap.get? p.1=some p.2/\H p.1=none/\p.1≠X.env.locals/\p.1 ∉ X.fs/\∀v,p.2.data≠.cell v):Inv X M σ H s :=
 ⟨I.ok,I.os,I.bare,I.base,I.loc,I.cell,I.free,I.HI,fun p R=>(aT.mp R).elim (fun z=>I.pin p (bF _ z)) (h p),I.Al,I.len⟩
theorem Q7{N:List Str}(I:N.Nodup){i j:Nat}{x:Str}(a:N[i]? = some x)(b:N[j]? = some x):i=j:=by
 obtain⟨U,R⟩:=aB.mp a;obtain⟨T,M⟩:=aB.mp b;exact(List.getElem_inj I).mp (R.trans M.symm)
theorem Li{M:Model}{A:Around}{E:Value->Shared->Prop}{i:Nat}{x:Str}{v:V}{u:Value}{Q:Unit->Shared->Prop}(I:Inv X pins σ H s)(hN:X.N.Nodup)(hi:X.N[i]? = some x)(T:Loc X.env.scope x)(r:RelV v u)
 (h:∀s',Inv X pins (σ.set i (some v)) H s'->(∃a,Heap.SameBut a s.heap s'.heap/\(a=X.env.locals\/X.env.cells.lookup x=some a))->Q () s')(hf:X.fn x=true\/X.env.scope.names.lookup x=some .local:=by first|exact .inl rfl|exact .inr rfl|assumption):wpAny M A (storeName X.env x u) Q E s:=by
 obtain⟨m,hn,hl⟩:=id I.loc;have hcls:(X.env.scope.kind==.class||(X.env.scope.kind==.module&&X.env.locals != X.env.globals))=false:=by rw[I.ok.kind];rfl
 have hiσ:i<σ.length:=by rw[I.len];exact(aB.mp hi).1
 have Sn:=I.Sn;have tracked:∀ {a:Addr} {h':Heap},(∃o,s.heap.get? a=some o/\H a=none)->Heap.SameBut a s.heap h'->C2 X.prog X.w H h':=fun {a h'} ha R b ob e=>by
  obtain⟨_,_,Z⟩:=ha;refine(I.Al b ob e).IC (fun c w' Y q=>(R.2 c ?_).trans q) (fun _ q=>q) fun _ _ q=>q;rintro rfl;rcases Y with rfl|Y
  .rw[Z]at e;cases e
  .rw[Z]at Y;cases Y
 rcases T with hk|hk
 .refine wpAny_storeName_local hk hn (fun h' hn' R=>?_) hcls;obtain⟨oL,_,_,hoL,_⟩:=id hn;refine h _ ⟨I.ok,I.os,I.bare,⟨fun b o e n hb T=>?_,fun b o e n hb T=>?_,I.base.free,fun b o e T=>?_,I.base.JC,I.base.JX,I.base.KJ,fun b xs o q e T=>(R.2 b (aO (aP (aF e) I.ok.above))).trans (I.base.Ka b xs o q e T)⟩,⟨_,hn',fun j y v' U e2 e3=>?_⟩,fun y c e=>?_,I.free,I.HI,fun p hp=>?_,tracked ⟨oL,hoL,I.free⟩ R,by simpa using I.len⟩ ⟨_,R,.inl rfl⟩
  .exact(R.2 b (aO (aP (aF e) I.ok.above))).trans (I.base.keep b o e n hb T)
  .obtain⟨sl,U⟩:=I.base.slot b o e n hb T;exact⟨sl,(R.2 b (aO (aP (aF e) I.ok.above))).trans U⟩
  .obtain⟨o',U⟩:=I.base.there b o e T;exact⟨o',(R.2 b (aO (aP (aF e) I.ok.above))).trans U⟩
  .by_cases hj:j=i
   .subst hj;rw[hi]at U;cases U;rw[List.getElem?_set_self hiσ]at e2;cases e2;exact⟨u,r,.inl ⟨hk,by simp⟩⟩
   .rw[List.getElem?_set_ne (Ne.symm hj)]at e2;obtain⟨u',r',q⟩:=hl j y v' U e2 e3;refine⟨u',r',?_⟩;rcases q with ⟨k,e⟩|⟨k,c,e,z⟩
    .refine .inl ⟨k,?_⟩;have:y≠x:=fun e=>hj (Q7 hN U (e ▸ hi));simp[this,e]
    .exact .inr ⟨k,c,e,z.sameBut R (Sn y c e)⟩
  .obtain⟨w',z⟩:=I.cell y c e;exact⟨w',z.sameBut R (Sn y c e)⟩
  .obtain⟨e,n,ne,nf,d⟩:=I.pin p hp;exact⟨(R.2 p.1 ne).trans e,n,ne,nf,d⟩
 .have hfn:X.fn x=true:=by
   rcases hf with z|z
   .exact z
   .rw[z]at hk;cases hk
  obtain⟨c,Y⟩:=I.ok.has x (.inl hk);obtain⟨w',z⟩:=I.cell x c Y;refine wpAny_storeName_cell I.ok.kind hk Y z (fun h' hc' R=>?_);obtain⟨oc,hoc,hocd⟩:=id z;refine h {s with heap:=h'} ⟨I.ok,I.os,I.bare,⟨fun b o e n hb T=>?_,fun b o e n hb T=>?_,I.base.free,fun b o e T=>?_,I.base.JC,I.base.JX,I.base.KJ,fun b xs o q e T=>(R.2 b (aO (aP (aF e) (I.ok.Tz x c hfn Y)))).trans (I.base.Ka b xs o q e T)⟩,⟨m,hn.sameBut R (Ne.symm (Sn x c Y)),fun j y v' U e2 e3=>?_⟩,fun y c' e=>?_,I.free,I.HI,fun p hp=>?_,tracked ⟨oc,hoc,I.HI x c Y⟩ R,by simpa using I.len⟩ ⟨c,R,.inr Y⟩
  .exact(R.2 b (aO (aP (aF e) (I.ok.Tz x c hfn Y)))).trans (I.base.keep b o e n hb T)
  .obtain⟨sl,U⟩:=I.base.slot b o e n hb T;exact⟨sl,(R.2 b (aO (aP (aF e) (I.ok.Tz x c hfn Y)))).trans U⟩
  .obtain⟨o',U⟩:=I.base.there b o e T;exact⟨o',(R.2 b (aO (aP (aF e) (I.ok.Tz x c hfn Y)))).trans U⟩
  .by_cases hj:j=i
   .subst hj;rw[hi]at U;cases U;rw[List.getElem?_set_self hiσ]at e2;cases e2;exact⟨u,r,.inr ⟨.inl hk,c,Y,hc'⟩⟩
   .rw[List.getElem?_set_ne (Ne.symm hj)]at e2;obtain⟨u',r',q⟩:=hl j y v' U e2 e3;refine⟨u',r',?_⟩;rcases q with q|⟨k,c',e,z'⟩
    .exact .inl q
    .refine .inr ⟨k,c',e,z'.sameBut R ?_⟩;rintro rfl;exact hj (Q7 hN U (I.ok.inj _ _ _ e Y ▸ hi))
  .by_cases hcc:c'=c
   .subst hcc;exact⟨_,hc'⟩
   .obtain⟨w2,z2⟩:=I.cell y c' e;exact⟨w2,z2.sameBut R hcc⟩
  .obtain⟨e,n,ne,nf,d⟩:=I.pin p hp;refine⟨(R.2 p.1 ?_).trans e,n,ne,nf,d⟩;intro q;rw[q,hoc]at e;have q':oc=p.2:=aY e;exact d w' (by rw[<-q'];exact hocd)
theorem Km{M:Model}{A:Around}{E:Value->Shared->Prop}{i:Nat}{x:Str}{v:V}{u:Value}{Q:Unit->Shared->Prop}(I:Inv X pins σ H s)(U:X.N.Nodup)(hi:X.N[i]? = some x)(R:Loc X.env.scope x)(r:RelV v u)
 (h:∀s',Inv X pins (σ.set i (some v)) H s'->Q () s')(T:X.fn x=true\/X.env.scope.names.lookup x=some .local:=by first|exact .inl rfl|exact .inr rfl|assumption):wpAny M A (storeName X.env x u) Q E s :=
 Li I U hi R r (fun s' Y _=>h s' Y) T
theorem Inv.iK{s':Shared}{ch:List Addr}(I:Inv X pins σ H s)(Y:s'.os=s.os)(u:Un (K5 X.stack) ch H H' s.heap s'.heap)(Al:C2 X.prog X.w H' s'.heap)(Z:AllBare s'.gens)
 (M:∀b∈ch,(b∈X.ex\/X.s₀.heap.objs.size<=b)/\b≠X.env.locals/\(∀x c,X.env.cells.lookup x=some c->c≠b)/\∀p∈X.pn++pins,p.1≠b):Inv X pins σ H' s':=by
 obtain⟨h',T,U,R,o'⟩:=s';have e:o'=s.os:=Y;subst e;exact I.call (g':=T) (t':=R) (d':=U) u Al Z M
end
abbrev XK:=Value->Option Addr->Hp->Prop
abbrev St:=List (Option V)
abbrev VK:=V->Hp->Prop
abbrev TE:=St->Hp->VK->Prop
abbrev TT:=St->Hp->(Bool->Hp->Prop)->Prop
abbrev TA:=St->Hp->(List V->Hp->Prop)->Prop
structure Ends where
 nx:St->Hp->Prop
 rt:VK
 bk:St->Hp->Prop:=fun _ _=>False
 ct:St->Hp->Prop:=fun _ _=>False
abbrev TS:=Ends->St->Hp->Prop
def EP(X:Cx)(pins:List (Addr×Obj))(σ:St)(Q:VK)(u:Value)(s':Shared):Prop:=∃v H',Inv X pins σ H' s'/\RelV v u/\Q v H'
def TP(X:Cx)(pins:List (Addr×Obj))(σ:St)(Q:Bool->Hp->Prop)(b:Bool)(s':Shared):Prop:=∃H',Inv X pins σ H' s'/\Q b H'
def AP(X:Cx)(pins:List (Addr×Obj))(σ:St)(Q:List V->Hp->Prop)(us:List Value)(s':Shared):Prop:=∃vs H',Inv X pins σ H' s'/\Vals vs us/\Q vs H'
def SP(X:Cx)(pins:List (Addr×Obj))(D:Ends)(f:Flow)(s':Shared):Prop :=
 match f with
 |.next=>∃I H',Inv X pins I H' s'/\D.nx I H'
 |.brk=>∃I H',Inv X pins I H' s'/\D.bk I H'
 |.cont=>∃I H',Inv X pins I H' s'/\D.ct I H'
 |.ret u=>∃v I H',Inv X pins I H' s'/\RelV v u/\D.rt v H'
def PE(X:Cx)(e:Expr)(t:TE):Prop :=
 ∀(pins:List (Addr×Obj)) (s:Shared) (σ:St) (H:Hp) (Q:VK),Inv X pins σ H s->t σ H Q->wpAny (model X.prog X.w) X.A (eval e X.env) (EP X pins σ Q) X.xe s
def PT(X:Cx)(e:Expr)(t:TT):Prop :=
 ∀(pins:List (Addr×Obj)) (s:Shared) (σ:St) (H:Hp) (Q:Bool->Hp->Prop),Inv X pins σ H s->t σ H Q->wpAny (model X.prog X.w) X.A (isTrue e X.env (eval e X.env)) (TP X pins σ Q) X.xe s
def PW(X:Cx)(e:Expr)(t:TT):Prop :=
 ∀(I:Sem Value) (pins:List (Addr×Obj)) (s:Shared) (σ:St) (H:Hp) (Q:Bool->Hp->Prop),Inv X pins σ H s->t σ H Q->wpAny (model X.prog X.w) X.A (isTrue e X.env I) (TP X pins σ Q) X.xe s
theorem PW.pt{X:Cx}{e:Expr}{t:TT}(h:PW X e t):PT X e t:=h _
def PA(X:Cx)(es:List Expr)(t:TA):Prop :=
 ∀(pos:Pos) (pins:List (Addr×Obj)) (s:Shared) (σ:St) (H:Hp) (Q:List V->Hp->Prop),Inv X pins σ H s->t σ H Q->wpAny (model X.prog X.w) X.A (spliced (backTo pos (starEach es X.env))) (AP X pins σ Q) X.xe s
def PS(X:Cx)(st:Stmt)(t:TS):Prop :=
 ∀(pins:List (Addr×Obj)) (s:Shared) (σ:St) (H:Hp) (D:Ends),Inv X pins σ H s->t D σ H->wpAny (model X.prog X.w) X.A (exec st X.env) (SP X pins D) X.xe s
def Ij(X:Cx)(st:List Stmt)(t:TS):Prop :=
 ∀(pins:List (Addr×Obj)) (s:Shared) (σ:St) (H:Hp) (D:Ends),Inv X pins σ H s->t D σ H->wpAny (model X.prog X.w) X.A (execs st X.env) (SP X pins D) X.xe s
theorem A5{α:Type}{t:Sem α}{Q I:α->Shared->Prop}{M:Model}{A:Around}{E:Value->Shared->Prop}{s:Shared}(h:wpAny M A t Q E s)(R:∀a s,Q a s->I a s):wpAny M A t I E s:=aj h R fun _ _ x=>x
section
variable{X:Cx}
def NV(i:Nat):TE:=fun σ H Q=>∃v,σ[i]? = some (some v)/\Q v H
def tC(v:V):TE:=fun _ H Q=>Q v H
theorem ef{i:Nat}{x:Str}{pos:Pos}(hN:X.N[i]? = some x)(Y:dP X.env.scope x)(hd:(x==("__debug__" : Str))=false:=by decide)(T:(x==("__classdict__" : Str))=false:=by decide):PE X (.Name x pos) (NV i):=by
 intro pins s σ H Q I h;obtain⟨v,e,h⟩:=h;obtain⟨m,hn,Z⟩:=I.loc;obtain⟨u,r,l⟩:=Z i x v hN e Y;have fin:EP X pins σ Q u s:=⟨v,H,I,r,h⟩;rcases l with ⟨R,hm⟩|⟨R,c,U,M⟩
 .exact wpAny_Name (wpAny_loadName_local I.ok.kind R hn hm fin) hd
 .rcases R with R|R
  .exact wpAny_Name (wpAny_loadName_cell I.ok.kind R U M fin) hd
  .exact wpAny_Name (wpAny_loadName_free I.ok.kind R U M fin T) hd
theorem AI{i j pos}:PE X (.Constant (.int i) j pos) (tC (.int i)):=fun _ _ _ H _ I h=>wpAny_Constant_int ⟨.int i,H,I.tok _,⟨_,rfl⟩,h⟩
theorem CL{b j pos}:PE X (.Constant (.bool b) j pos) (tC (.bl b)):=fun _ _ _ H _ I h=>Constant_bool ⟨.bl b,H,I,rfl,h⟩
theorem XE{j pos}:PE X (.Constant .none j pos) (tC .BJ):=fun _ _ _ H _ I h=>Constant_none ⟨.BJ,H,I,rfl,h⟩
def Gl(X:Cx)(x:Str):Prop:=X.env.kindOf x=some .globalImplicit
theorem Ul{E:Value->Shared->Prop}{pins:List (Addr×Obj)}{s:Shared}{σ:St}{H:Hp}{x:Str}{u:Value}{pos:Pos}{Q:Value->Shared->Prop}(I:Inv X pins σ H s)(M:Gl X x)(hm:X.mg x=some u)(h:Q u s)
 (hd:(x==("__debug__" : Str))=false:=by decide):wpAny (model X.prog X.w) X.A (eval (.Name x pos) X.env) Q E s :=
 Calls.Name_function_global I.ok.kind M (Calls.loadGlobal_global (by rw[I.ok.glob];exact I.mod.glob.keeps I.bk) hm h) hd
theorem FC{E:Value->Shared->Prop}{pins:List (Addr×Obj)}{s:Shared}{σ:St}{H:Hp}{x:Str}{u:Value}{pos:Pos}{Q:Value->Shared->Prop}(I:Inv X pins σ H s)(R:Gl X x)(hm:X.mg x=none)(M:bootBuiltins x=some u)(h:Q u s)
 (hn:x ≠ "__name__":=by decide)(hd:(x==("__debug__" : Str))=false:=by decide):wpAny (model X.prog X.w) X.A (eval (.Name x pos) X.env) Q E s:=by
 obtain⟨mb,U,T⟩:=I.mod.blt;exact Calls.Name_function_global I.ok.kind R (Calls.loadGlobal_builtin (by rw[I.ok.glob];exact I.mod.glob.keeps I.bk) hm (by rw[I.ok.blt];exact U.keeps I.bk) ((T x hn).trans M) h) hd
theorem Ud{x:Str}{v:V}{u:Value}{pos:Pos}(M:Gl X x)(hm:X.mg x=some u)(r:RelV v u)(hd:(x==("__debug__" : Str))=false:=by decide):PE X (.Name x pos) (tC v) :=
 fun _ _ _ H _ I h=>Ul I M hm ⟨v,H,I,r,h⟩ hd
theorem B3{x:Str}{v:V}{u:Value}{pos:Pos}(R:Gl X x)(hm:X.mg x=none)(M:bootBuiltins x=some u)(r:RelV v u)(hn:x ≠ "__name__":=by decide)(hd:(x==("__debug__" : Str))=false:=by decide):PE X (.Name x pos) (tC v) :=
 fun _ _ _ H _ I h=>FC I R hm M ⟨v,H,I,r,h⟩ hn hd
variable{a b:Expr}{ta tb:TE}{pos:Pos}
def PC(X:Cx)(op:CmpOp)(a b:Expr)(t:TE):Prop :=
 ∀(pins:List (Addr×Obj)) (s:Shared) (σ:St) (H:Hp) (Q:VK),Inv X pins σ H s->t σ H Q ->
  wpAny (model X.prog X.w) X.A (eval a X.env) (fun v M=>wpAny (model X.prog X.w) X.A (eval b X.env) (fun u I=>wpAny (model X.prog X.w) X.A (compareOp op v u) (EP X pins σ Q) X.xe I) X.xe M) X.xe s
def tB(t:TE):TT:=fun σ H Q=>t σ H fun x H1=>∃c,x=.bl c/\Q c H1
theorem eQ{op:CmpOp}{t:TE}(h:PC X op a b t)(h1:behindInMarks op b=false:=by first|exact M _ (by decide) (by decide)|rfl):PT X (.Compare a [op] [b] pos) (tB t):=by
 intro pins s σ H Q I U;refine wpAny_isTrue_Compare1 (A5 (h pins s σ H _ I U) fun v s1 h1=>A5 h1 fun u s2 Y=>A5 Y fun c s3 ⟨x,H1,Z,R,T⟩=>?_) h1;obtain⟨d,rfl,q⟩:=T;cases R;exact bc ⟨H1,Z,q⟩
theorem Bt{e : Expr}{t : TE}(h : PE X e t)(he : ∀ whole,isTrue e X.env whole = (do let v <- whole; standAt e.pos; holding [v] (truthy v)):=by intro _; rfl):PT X e (tB t):=by
  intro pins s σ H Q I hw
  refine isTrue_plain (A5 (h pins s σ H _ I hw) fun v s1 ⟨x,H1,I1,r1,q1⟩ => ?_) (he _)
  obtain ⟨d,rfl,q⟩:=q1
  cases r1
  exact bc ⟨H1,I1,q⟩
variable{tA tB':TT}{rest:List Expr}
def kJ(t u:TT):TT:=fun σ H Q=>t σ H fun c H1=>if c=true then u σ H1 Q else Q false H1
def kx(t u:TT):TT:=fun σ H Q=>t σ H fun c H1=>if c=true then Q true H1 else u σ H1 Q
def ji(t:TT):TT:=fun σ H Q=>t σ H fun c H1=>Q (!c) H1
theorem b8(ha:PT X a tA):PW X (.BoolOp .And [a] pos) tA:=by
 intro M pins s σ H Q I h;refine isTrue_and (A5 (ha pins s σ H Q I h) fun c s1 e=>?_);cases c with
 |true=>exact isTrue_and_nil e
 |false=>exact e
theorem DQ(ha:PT X a tA):PW X (.BoolOp .Or [a] pos) tA:=by
 intro M pins s σ H Q I h;refine isTrue_or (A5 (ha pins s σ H Q I h) fun c s1 e=>?_);cases c with
 |false=>exact isTrue_or_nil e
 |true=>exact e
theorem cZ(ha:PT X a tA)(U:PW X (.BoolOp .And (b::rest) pos) tB'):PW X (.BoolOp .And (a::b::rest) pos) (kJ tA tB'):=by
 intro T pins s σ H Q I h;refine isTrue_and (A5 (ha pins s σ H _ I h) fun c s1 ⟨H1,R,M⟩=>?_);cases c with
 |true=>exact U T pins s1 σ H1 Q R M
 |false=>exact⟨H1,R,M⟩
theorem Dk(ha:PT X a tA)(U:PW X (.BoolOp .Or (b::rest) pos) tB'):PW X (.BoolOp .Or (a::b::rest) pos) (kx tA tB'):=by
 intro T pins s σ H Q I h;refine isTrue_or (A5 (ha pins s σ H _ I h) fun c s1 ⟨H1,R,M⟩=>?_);cases c with
 |true=>exact⟨H1,R,M⟩
 |false=>exact U T pins s1 σ H1 Q R M
theorem CB(ha:PT X a tA):PT X (.UnaryOp .Not a pos) (ji tA):=by
 intro pins s σ H Q I h;exact isTrue_not (ha pins s σ H (fun c H1=>Q (!c) H1) I h)
def gy(ta tb:TE):TE:=fun σ H Q=>ta σ H fun x H1=>∃c,x=.bl c/\if c=true then tb σ H1 Q else Q (.bl false) H1
def iV(ta:TE):TE:=fun σ H Q=>ta σ H fun x H1=>∃c,x=.bl c/\Q (.bl (!c)) H1
theorem LU{op}{t:TE}(h:PE X a t):PE X (.BoolOp op [a] pos) t:=fun pins s σ H Q I M=>BoolOp_one (h pins s σ H Q I M)
theorem JE(ha:PE X a ta)(U:PE X (.BoolOp .And (b::rest) pos) tb):PE X (.BoolOp .And (a::b::rest) pos) (gy ta tb):=by
 intro pins s σ H Q I h;refine BoolOp_and (A5 (ha pins s σ H _ I h) fun v s1 ⟨x,H1,R,T,M⟩=>?_);obtain⟨c,rfl,M⟩:=M;cases T;refine bc ?_;cases c with
 |true=>exact U pins s1 σ H1 Q R M
 |false=>exact⟨.bl false,H1,R,rfl,M⟩
theorem WN(ha:PE X a ta):PE X (.UnaryOp .Not a pos) (iV ta):=by
 intro pins s σ H Q I h;refine UnaryOp_ (A5 (ha pins s σ H _ I h) fun v s1 ⟨x,H1,T,R,M⟩=>?_);obtain⟨c,rfl,M⟩:=M;cases R;exact not_of (bc ⟨.bl (!c),H1,T,rfl,M⟩)
def k8(t:TT)(ta tb:TE):TE:=fun σ H Q=>t σ H fun c H1=>if c=true then ta σ H1 Q else tb σ H1 Q
theorem Xw{c:Expr}(T:PT X c tA)(ha:PE X a ta)(U:PE X b tb):PE X (.IfExp c a b pos) (k8 tA ta tb):=by
 intro pins s σ H Q I h;refine wpAny_IfExp (A5 (T pins s σ H _ I h) fun d s1 ⟨H1,R,M⟩=>?_);cases d with
 |true=>exact ha pins s1 σ H1 Q R M
 |false=>exact U pins s1 σ H1 Q R M
end
def AQ(K:PySem.W.Frag)(H:Hp)(a:Addr)(xs:List V):Prop :=
 Rd H a (.lst xs) \/
  ∃(o:Obj) (I:Array Value) (n:Nat),K.lookup a=some o/\o.cls=.type "list" /\ o.dict=none/\o.data=.seq I n/\I.size<=sizeLine/\Vals xs I.toList
def Ao(K:PySem.W.Frag)(H:Hp)(a:Addr)(xs:List V):Prop :=
 Rd H a (.tup xs) \/
  ∃(o:Obj) (I:Array Value) (n:Nat),K.lookup a=some o/\o.cls=.type "tuple" /\ o.data=.seq I n/\I.size<=sizeLine/\Vals xs I.toList
def jr:Value->Option V
 |.none=>some .BJ
 |.bool b=>some (.bl b)
 |.int i _=>some (.int i)
 |.str x _=>some (.str x)
 |.bytes b _=>some (.La b)
 |.float b _=>some (.UY b)
 |.ref a=>some (.ref a)
 |.type n=>some (.ty n)
 |_=>none
theorem RelV.abs{x:V}{u:Value}(r:RelV x u):jr u=some x:=by
 cases x with
 |BJ=>cases r;rfl
 |bl _=>cases r;rfl
 |int _=>obtain⟨t,rfl⟩:=r;rfl
 |str _=>obtain⟨t,rfl⟩:=r;rfl
 |La _=>obtain⟨t,rfl⟩:=r;rfl
 |UY _=>obtain⟨t,rfl⟩:=r;rfl
 |ref _=>cases r;rfl
 |ty _=>cases r;rfl
theorem RelV.inj{x y:V}{u:Value}(r:RelV x u)(q:RelV y u):x=y:=aY (r.abs.symm.trans q.abs)
theorem Vals.inj:∀ {xs ys:List V} {us:List Value},Vals xs us->Vals ys us->xs=ys
 |_,_,_,.nil,.nil=>rfl
 |_,_,_,.cons r t,.cons M I=>by rw[r.inj M,Vals.inj t I]
section
variable{X:Cx}{pins:List (Addr×Obj)}{σ:St}{H:Hp}{s:Shared}{a:Addr}{xs ys:List V}
theorem AQ.of{K:PySem.W.Frag}(h:H a=some (.lst xs)):AQ K H a xs:=.inl (.inl h)
theorem Ao.of{K:PySem.W.Frag}(h:H a=some (.tup xs)):Ao K H a xs:=.inl (.inl h)
theorem Inv.list(I:Inv X pins σ H s)(h:AQ X.K H a xs):∃M:List Value,Vals xs M/\PlainL s.heap a M.toArray/\xs.length<=sizeLine:=by
 rcases h with h|⟨o,M,n,T,U,hd,R,Y,r⟩
 .obtain⟨z,M,n,r,e⟩:=h.ok I.Al;exact⟨M,r,⟨_,n,e,rfl,rfl,rfl⟩,z⟩
 .refine⟨M.toList,r,⟨o,n,I.HZ a o T,U,hd,by simpa using R⟩,?_⟩;have e:=r.length;simp only[Array.length_toList]at e
  lia
theorem Inv.tuple(I:Inv X pins σ H s)(h:Ao X.K H a xs):∃M:List Value,Vals xs M/\IsTup s.heap a M.toArray/\xs.length<=sizeLine:=by
 rcases h with h|⟨o,M,n,T,U,R,Y,r⟩
 .obtain⟨z,M,r,p⟩:=h.ok I.Al;exact⟨M,r,p,z⟩
 .refine⟨M.toList,r,⟨o,I.HZ a o T,U,n,by simpa using R⟩,?_⟩;have e:=r.length;simp only[Array.length_toList]at e
  lia
theorem Inv.RU(I:Inv X pins σ H s)(h:AQ X.K H a xs)(h':AQ X.K H a ys):xs=ys:=by
 obtain⟨R,r,⟨o,n,e,_,_,d⟩,_⟩:=I.list h;obtain⟨M,Y,⟨o',n',T,_,_,U⟩,_⟩:=I.list h';rw[e]at T;cases T;rw[d]at U
 injection U with Z _
 have:R=M:=by simpa using bD Array.toList Z
 subst this;exact r.inj Y
theorem Inv.P4(I:Inv X pins σ H s)(h:Ao X.K H a xs)(h':Ao X.K H a ys):xs=ys:=by
 obtain⟨R,r,⟨o,e,_,n,d⟩,_⟩:=I.tuple h;obtain⟨M,Y,⟨o',T,_,n',U⟩,_⟩:=I.tuple h';rw[e]at T;cases T;rw[d]at U
 injection U with Z _
 have:R=M:=by simpa using bD Array.toList Z
 subst this;exact r.inj Y
end
abbrev Cx.J4(X:Cx)(E:Value->Shared->Prop):Cx:={X with xe:=E}
abbrev Cx.UR(X:Cx):Cx:=X.J4 fun _ _=>False
theorem Cx.Ok.J4{X:Cx}(ok:X.Ok)(E:Value->Shared->Prop):(X.J4 E).Ok :=
 ⟨ok.mod,ok.kind,ok.glob,ok.blt,ok.above,ok.inj,ok.has,ok.Tz,ok.hd,ok.frames,ok.ZM,ok.jB,ok.bs,ok.QJ,ok.SX,ok.Sd,ok.JR,ok.T1,ok.kt⟩
theorem Cx.Ok.HW{X:Cx}{E:Value->Shared->Prop}(ok:(X.J4 E).Ok):X.Ok :=
 ⟨ok.mod,ok.kind,ok.glob,ok.blt,ok.above,ok.inj,ok.has,ok.Tz,ok.hd,ok.frames,ok.ZM,ok.jB,ok.bs,ok.QJ,ok.SX,ok.Sd,ok.JR,ok.T1,ok.kt⟩
section
variable{X:Cx}{pins:List (Addr×Obj)}{σ:St}{H:Hp}{s:Shared}{E:Value->Shared->Prop}
theorem Inv.J4(I:Inv X pins σ H s)(E:Value->Shared->Prop):Inv (X.J4 E) pins σ H s:=⟨I.ok.J4 E,I.os,I.bare,I.base,I.loc,I.cell,I.free,I.HI,I.pin,I.Al,I.len⟩
theorem Inv.HW(I:Inv (X.J4 E) pins σ H s):Inv X pins σ H s:=⟨I.ok.HW,I.os,I.bare,I.base,I.loc,I.cell,I.free,I.HI,I.pin,I.Al,I.len⟩
theorem SP.HW{D:Ends}{f:Flow}{s':Shared}(h:SP (X.J4 E) pins D f s'):SP X pins D f s':=by
 cases f with
 |next=>obtain⟨M,H',I,q⟩:=h;exact⟨M,H',I.HW,q⟩
 |brk=>obtain⟨M,H',I,q⟩:=h;exact⟨M,H',I.HW,q⟩
 |cont=>obtain⟨M,H',I,q⟩:=h;exact⟨M,H',I.HW,q⟩
 |ret u=>obtain⟨v,M,H',I,r,q⟩:=h;exact⟨v,M,H',I.HW,r,q⟩
theorem Ij.UR{st:List Stmt}{t:TS}(h:Ij X.UR st t):Ij X st t:=fun pins s σ H D I M=>
 aj (h pins s σ H D (I.J4 _) M) (fun _ _ q=>q.HW) fun _ _ z=>False.elim z
end
section
variable{X:Cx}{st:Stmt}{rest:List Stmt}{t u:TS}{e:Expr}{te:TE}{pos:Pos}
def ij:TS:=fun D σ H=>D.nx σ H
def F5(t u:TS):TS:=fun D σ H=>t {D with nx:=u D} σ H
theorem Ax:Ij X [] ij:=fun _ _ σ H _ I h=>wpAny_execs_nil ⟨σ,H,I,h⟩
theorem AD(h1:PS X st t)(R:Ij X rest u):Ij X (st::rest) (F5 t u):=by
 intro pins s σ H D I h;refine wpAny_execs_cons (A5 (h1 pins s σ H {D with nx:=u D} I h) fun f s1 q=>?_);cases f with
 |next=>
  obtain⟨M,H',T,q⟩:=q;exact R pins s1 M H' D T q
 |ret v=>exact q
 |brk=>exact q
 |cont=>exact q
theorem AH(h1:PS X st t):Ij X [st] t:=by
 intro pins s σ H D I h;refine wpAny_execs_cons (A5 (h1 pins s σ H D I h) fun f s1 q=>?_);cases f with
 |next=>exact wpAny_execs_nil q
 |ret v=>exact q
 |brk=>exact q
 |cont=>exact q
theorem Inv.quiet{pins:List (Addr×Obj)}{σ:St}{H:Hp}{s:Shared}(I:Inv X pins σ H s):interactive X.env=false:=by simp[interactive,I.ok.kind]
def Zb(te:TE):TS:=fun D σ H=>te σ H fun _ H1=>D.nx σ H1
theorem B2(T:PE X e te)(R:swapsWith e none pos.line X.env=pure false:=by rfl):PS X (.Expr e pos) (Zb te):=by
 intro pins s σ H D I h;exact wpAny_Expr_any (A5 (T pins s σ H _ I h) fun v s1 ⟨x,H1,U,Y,M⟩=>⟨σ,H1,U,M⟩) I.quiet R
def jc(te:TE):TS:=fun D σ H=>te σ H D.rt
theorem Ae(T:PE X e te):PS X (.Return (some e) pos) (jc te):=by
 intro pins s σ H D I h;exact wpAny_Return_some (A5 (T pins s σ H _ I h) fun v s1 ⟨x,H1,U,M,R⟩=>⟨x,σ,H1,U,M,R⟩)
def j8(c:TT)(t u:TS):TS:=fun D σ H=>c σ H fun b H1=>if b=true then t D σ H1 else u D σ H1
theorem BL{c:Expr}{a b:List Stmt}{M:TT}(U:PT X c M)(ha:Ij X a t)(Y:Ij X b u):PS X (.If c a b pos) (j8 M t u):=by
 intro pins s σ H D I h;refine wpAny_If (A5 (U pins s σ H _ I h) fun d s1 ⟨H1,T,R⟩=>?_);cases d with
 |true=>exact ha pins s1 σ H1 D T R
 |false=>exact Y pins s1 σ H1 D T R
def cb:TS:=fun _ _ _=>False
theorem KI:PS X st cb:=fun _ _ _ _ _ _ h=>h.elim
end
abbrev TG:=V->St->Hp->(St->Hp->Prop)->Prop
abbrev SE:=List V->St->Hp->(St->Hp->Prop)->Prop
def PG(X:Cx)(target:Expr)(t:TG):Prop :=
 ∀(pins:List (Addr×Obj)) (s:Shared) (σ:St) (H:Hp) (v:V) (u:Value) (Q:St->Hp->Prop),Inv X pins σ H s->RelV v u->t v σ H Q ->
  wpAny (model X.prog X.w) X.A (assign target X.env u) (fun _ M=>∃I H',Inv X pins I H' M/\Q I H') X.xe s
def Y9(X:Cx)(ts:List Expr)(t:SE):Prop :=
 ∀(pins:List (Addr×Obj)) (s:Shared) (σ:St) (H:Hp) (vs:List V) (us:List Value) (Q:St->Hp->Prop),Inv X pins σ H s->Vals vs us->t vs σ H Q ->
  wpAny (model X.prog X.w) X.A (assignInOrder ((assignEach ts X.env).map (·.2)) us) (fun _ M=>∃I H',Inv X pins I H' M/\Q I H') X.xe s
abbrev Yk:=V->V->V->Hp->(Hp->Prop)->Prop
def eP(X:Cx)(t:Yk):Prop :=
 ∀(pins:List (Addr×Obj)) (s:Shared) (σ:St) (H:Hp) (o i v:V) (I M u:Value) (Q:Hp->Prop),Inv X pins σ H s->RelV o I->RelV i M->RelV v u->t o i v H Q ->
  wpAny (model X.prog X.w) X.A (setItem I M u) (fun _ R=>∃H',Inv X pins σ H' R/\Q H') X.xe s
section
variable{X:Cx}{pos:Pos}
def C1(i:Nat):TG:=fun v σ H Q=>Q (σ.set i (some v)) H
theorem Am{i:Nat}{x:Str}(T:X.N.Nodup)(hi:X.N[i]? = some x)(M:Loc X.env.scope x)(R:X.fn x=true\/X.env.scope.names.lookup x=some .local:=by first|exact .inl rfl|exact .inr rfl|assumption):PG X (.Name x pos) (C1 i):=by
 intro pins s σ H v u Q I r h;exact wpAny_assign_Name (Km I T hi M r (fun Y U=>⟨_,H,U,h⟩) R)
def YS:SE:=fun vs σ H Q=>vs=[]/\Q σ H
def Nq(t:TG)(u:SE):SE:=fun vs σ H Q=>∃v r,vs=v::r/\t v σ H fun I H'=>u r I H' Q
theorem EC:Y9 X [] YS:=by
 intro pins s σ H vs us Q I r h;obtain⟨e,h⟩:=h;subst e;cases r;exact assignInOrder_nil ⟨σ,H,I,h⟩
theorem BM{e:Expr}{es:List Expr}{t:TG}{u:SE}(h1:PG X e t)(Y:Y9 X es u)
 (U:(assignEach (e::es) X.env).map (·.2)=assign e X.env::(assignEach es X.env).map (·.2):=by rfl):Y9 X (e::es) (Nq t u):=by
 intro pins s σ H vs us Q I r h;obtain⟨v,vr,Z,h⟩:=h;subst Z;cases r with
 |cons r R=>
  rw[U];refine assignInOrder_cons (A5 (h1 pins s σ H _ _ _ I r h) fun _ s1 ⟨M,H1,I1,T⟩=>?_);exact Y pins s1 M H1 _ _ Q I1 R T
def Yw(K:PySem.W.Frag)(n:Nat)(t:SE):TG:=fun v σ H Q=>∃a xs,v=.ref a/\Ao K H a xs/\xs.length=n/\t xs σ H Q
theorem Eu{es:List Expr}{k:Nat}{t:SE}{n:Nat}(hc:X.calm=true)(h:Y9 X es t)
 (hn:(assignEach es X.env).length=n:=by rfl)(R:(assignEach es X.env).findIdx? (·.1)=none:=by rfl):PG X (.Tuple es k pos) (Yw X.K n t):=by
 intro pins s σ H v u Q I r M;obtain⟨a,xs,e1,hq,hl,M⟩:=M;subst e1;cases r;obtain⟨U,T,Z,hz⟩:=I.tuple hq;refine assign_Tuple_tuple (I.ok.hd hc) Z (by simp[hn,<-hl,T.length]) R fun h' Y=>?_;have I1:Inv X pins σ H {s with heap:=h'}:=I.kept (t':=s.toks) fun b o e=>Y b o (aO (aF e)) e;exact h pins _ σ H xs _ Q I1 (by simpa using T) M
def dm(I M:TE)(t:Yk):TG:=fun v σ H Q=>I σ H fun o H1=>M σ H1 fun i T=>t o i v T fun R=>Q σ R
theorem WR{o i:Expr}{to ti:TE}{t:Yk}(ho:PE X o to)(hi:PE X i ti)(hs:eP X t)
 (ha:∀v,assign (.Subscript o i pos) X.env v=(do
      let ov <-holding [v] (eval o X.env)
      let iv <-holding [v,ov] (eval i X.env)
      standAt pos
      holding [v,ov,iv] (setItem ov iv v)
      release [v,ov,iv] []):=by intro _;rfl):PG X (.Subscript o i pos) (dm to ti t):=by
  intro pins s σ H v u Q I r h
  rw[ha]
  refine aA (bQ (A5 (ho pins s σ H _ I h) fun ov s1 ⟨x,H1,I1,r1,q1⟩=>?_))
  refine aA (bQ (A5 (hi pins s1 σ H1 _ I1 q1) fun iv s2 ⟨y,H2,I2,r2,q2⟩=>?_))
  refine aA (wpAny_standAt (aA (bQ (A5 (hs pins s2 σ H2 x y v ov iv u _ I2 r1 r2 r q2) fun _ s3 ⟨H3,I3,q3⟩=>?_))))
  exact wpAny_release ⟨σ,H3,I3,q3⟩
def M9(I:TE)(g:TG):TS:=fun D σ H=>I σ H fun x H1=>g x σ H1 D.nx
theorem XM{tg e:Expr}{M:TE}{g:TG}(he:PE X e M)(Z:PG X tg g)(Y:swapsWithSole [tg] e pos.line X.env=pure false:=by rfl)(U:swappedStores [tg] e X.env=pure none:=by rfl)
 (h1:(assignEach [tg] X.env).map (·.2)=[assign tg X.env]:=by rfl):PS X (.Assign [tg] e pos) (M9 M g):=by
 intro pins s σ H D I h;refine wpAny_Assign_stores (A5 (he pins s σ H _ I h) fun v s1 ⟨x,H1,I1,R,T⟩=>?_) Y U;rw[h1];exact A5 (Z pins s1 σ H1 x v _ I1 R T) fun _ s2 q=>q
theorem AX{i:Nat}{x:Str}{e:Expr}{R:TE}{M:Pos}(hN:X.N.Nodup)(hi:X.N[i]? = some x)(Y:Loc X.env.scope x)(he:PE X e R)(Z:swapsWith e (some (.Name x M)) pos.line X.env=pure false:=by rfl)(hf:X.fn x=true\/X.env.scope.names.lookup x=some .local:=by first|exact .inl rfl|exact .inr rfl|assumption) :
  PS X (.Assign [.Name x M] e pos) (M9 R (C1 i)):=by
 intro pins s σ H D I h;refine wpAny_Assign_Name (A5 (he pins s σ H _ I h) fun v s1 ⟨y,H1,I1,T,U⟩=>?_) Z;exact Km I1 hN hi Y T (fun s2 I2=>⟨_,H1,I2,U⟩) hf
def jL(i j:Nat)(I:TA):TS:=fun D σ H=>I σ H fun vs H1=>∃v w,vs=[v,w]/\D.nx ((σ.set i (some v)).set j (some w)) H1
theorem gI{i j:Nat}{x y:Str}{a b:Expr}{ta:TA}{px py pt:Pos}{kt k2 R}(hc:X.calm=true)(hN:X.N.Nodup)(hi:X.N[i]? = some x)(hj:X.N[j]? = some y)(hij:i≠j)
 (hx:X.env.scope.names.lookup x=some .local)(hy:X.env.scope.names.lookup y=some .local)(ha:PA X [a,b] ta)
 (hw:swappedStores [.Tuple [.Name x px,.Name y py] kt pt] (.Tuple [a,b] k2 R) X.env=pure (some [x,y]))
 (hs:swapsWithSole [.Tuple [.Name x px,.Name y py] kt pt] (.Tuple [a,b] k2 R) pos.line X.env=pure false:=by rfl) :
  PS X (.Assign [.Tuple [.Name x px,.Name y py] kt pt] (.Tuple [a,b] k2 R) pos) (jL i j ta):=by
 intro pins s σ H D I h;rw[exec_Assign_arm];refine aA (wpAny_standAt ?_);rw[hs];refine aA (aC ?_);rw[if_neg (by decide)];refine aA (Tuple_ (A5 (ha _ pins s σ H _ I h) fun us s1 ⟨vs,H1,I1,r1,Z⟩=>?_));obtain⟨v,w,e1,Z⟩:=Z;subst e1;obtain⟨U,T,rfl,rv,Y⟩:∃U T,us=[U,T]/\RelV v U/\RelV w T:=by
  cases r1 with
  |cons p q=>
   cases q with
   |cons p' q'=>
    cases q';exact⟨_,_,rfl,p,p'⟩
 refine aZ ?_ (by show 2<=sizeLine;decide);have I2:Inv X pins σ H1 {s1 with heap:=s1.heap.push { cls:=.type "tuple",data:=.seq [U,T].toArray} }:=I1.kept (t':=s1.toks) fun b o e=>aD _ e;rw[hw];refine aA (aC ?_);show wpAny (model X.prog X.w) X.A (do rule "assign.swapped-stores"; let M <-unpackItems (.ref s1.heap.objs.size) 2 none;assignInOrder [fun v=>bindName X.env y v,fun v=>bindName X.env x v] M.reverse;pure Flow.next) _ _ _;refine aA (wpAny_rule (aA (unpackItems_tuple (items:=#[U,T]) (I.ok.hd hc) (IsTup.new s1.heap _) fun h' hx'=>?_)));have I3:=I2.kept (h':=h') (t':=s1.toks) fun b o e=>hx' b o (aO (aF e)) e;show wpAny _ _ (assignInOrder [fun v=>bindName X.env y v,fun v=>bindName X.env x v] [T,U]>>=fun _=>pure Flow.next) _ _ _;refine aA (assignInOrder_cons (wpAny_bindName (Km I3 hN hj (.inl hy) Y (fun s2 I4=>?_) (.inr hy))));refine assignInOrder_cons (wpAny_bindName (Km I4 hN hi (.inl hx) rv (fun s3 I5=>assignInOrder_nil (aC ?_)) (.inr hx)));rw[List.set_comm _ _ (Ne.symm hij)]at I5;exact⟨_,H1,I5,Z⟩
end
section
variable{X:Cx}{pos:Pos}
def Wv(c:TT)(R:TS):TS:=fun D σ H=>∃W:Nat->St->Hp->Prop,(∃m,W m σ H)/\∀m σ H,W m σ H ->
 c σ H fun b H1=>if b=true then ∃N:St->Hp->Prop,(∀I H',N I H'->∃M,M<m/\W M I H')/\R {D with nx:=N,ct:=N,bk:=D.nx} σ H1 else D.nx σ H1
theorem JF{c:Expr}{T:List Stmt}{tc:TT}{tb:TS}(hp:PassesOwn (model X.prog X.w) X.A X.env X.xe)(hc:PT X c tc)(hb:Ij X T tb):PS X (.While c T [] pos) (Wv tc tb):=by
 intro pins s σ H D I h;obtain⟨W,⟨m0,w0⟩,turn⟩:=h;refine wpAny_While (codeAny_whileLoop (fun n s'=>∃U H',Inv X pins U H' s'/\W n U H') ?_ m0 ⟨σ,H,I,w0⟩);rintro n s1 ⟨R,H1,I1,w1⟩;refine wpAny_passesOwn hp (A5 (hc pins s1 R H1 _ I1 (turn n R H1 w1)) fun b s2 ⟨H2,I2,q2⟩=>?_);cases b with
 |true=>
  obtain⟨N,hN,q2⟩:=q2;rw[if_pos rfl];refine wpAny_passesOwn hp (A5 (hb pins s2 R H2 _ I2 q2) fun f s3 Z=>?_);cases f with
  |next=>
   obtain⟨M,Y,I3,n3⟩:=Z;obtain⟨m',hm,w3⟩:=hN M Y n3;exact⟨m',hm,M,Y,I3,w3⟩
  |cont=>
   obtain⟨M,Y,I3,n3⟩:=Z;obtain⟨m',hm,w3⟩:=hN M Y n3;exact⟨m',hm,M,Y,I3,w3⟩
  |brk=>exact Z
  |ret v=>exact Z
 |false=>
  rw[if_neg aM];exact wpAny_execs_nil ⟨R,H2,I2,q2⟩
end
structure It where
 go:Nat->Hp->Prop
 EJ:Nat->Hp->V->Hp->Prop
 stop:Nat->Hp->Prop
def Jv(X:Cx)(pins:List (Addr×Obj))(H:Hp)(b:Addr):Prop :=
 H b=none/\b≠X.env.locals/\b ∉ X.fs/\(b∈X.ex\/X.s₀.heap.objs.size<=b)/\(∀x c,X.env.cells.lookup x=some c->c≠b)/\∀p∈X.pn++pins,p.1≠b
theorem Inv.PL{X:Cx}{pins:List (Addr×Obj)}{σ:St}{H H':Hp}{s:Shared}{b:Addr}(I:Inv X pins σ H s)(M:s.heap.objs.size<=b)(hn:H' b=none):Jv X pins H' b:=by
 refine⟨hn,Nat.ne_of_gt (aP I.lt M),I.j5 M,.inr (aR I.sz M),fun x c e z=>?_,fun p R z=>?_⟩
 .obtain⟨v,q⟩:=I.cell x c e;exact absurd (aP q.lt (by rw[z];exact M)) (Nat.lt_irrefl _)
 .exact absurd (aP (aF (I.pin p R).1) (by rw[z];exact M)) (Nat.lt_irrefl _)
structure Turn(P:Program)(w:World)(K:PySem.W.Frag)(tg:Expr)(J:It)(fp:List Addr)(it:Addr)(tn:Nat->Heap->Prop):Prop where
 mem:it∈fp
 obj:∀i h,tn i h->∀b∈fp,∃o,h.get? b=some o/\∀v,o.data≠.cell v
 keep:∀i h h',tn i h->(∀b∈fp,∀o,h.get? b=some o->h'.get? b=some o)->tn i h'
 item:∀(X:Cx),X.prog=P->X.w=w->X.K=K->X.calm=true->∀(i:Nat) (pins:List (Addr×Obj)) (s:Shared) (σ:St) (H:Hp) (E:Value->Shared->Prop),Inv X pins σ H s->(∀b∈fp,Jv X pins H b)->tn i s.heap->J.go i H ->
  wpAny (model P w) X.A (pyNext (.ref it)) (fun r s1=>∃u,r=some u /\
   wpAny (model P w) X.A (letOwnedTupleGo tg (.ref it) u) (fun _ s2=>∃x H',Inv X pins σ H' s2/\RelV x u/\J.EJ i H x H'/\tn (i+1) s2.heap/\∀b∈fp,H' b=none) E s1) E s
 done:∀(X:Cx),X.prog=P->X.w=w->X.K=K->X.calm=true->∀(i:Nat) (pins:List (Addr×Obj)) (s:Shared) (σ:St) (H:Hp) (E:Value->Shared->Prop),Inv X pins σ H s->(∀b∈fp,Jv X pins H b)->tn i s.heap->J.stop i H ->
  wpAny (model P w) X.A (pyNext (.ref it)) (fun r s1=>r=none/\Inv X pins σ H s1) E s
 self:∀(A:Around) (i:Nat) (s:Shared) (Q:Value->Shared->Prop) (E:Value->Shared->Prop),tn i s.heap->Q (.ref it) s->wpAny (model P w) A (pyIter (.ref it)) Q E s
abbrev TI:=St->Hp->(It->Hp->Prop)->Prop
def i4(X:Cx)(pins:List (Addr×Obj))(σ:St)(tg:Expr)(R:It->Hp->Prop)(I:Value)(s2:Shared):Prop :=
 ∃(it:Addr) (fp:List Addr) (tn:Nat->Heap->Prop) (J:It) (H':Hp),I=.ref it/\Inv X pins σ H' s2/\Turn X.prog X.w X.K tg J fp it tn/\tn 0 s2.heap/\(∀b∈fp,Jv X pins H' b)/\R J H'
def PI(X:Cx)(tg iter:Expr)(I:TI):Prop :=
 ∀(pins:List (Addr×Obj)) (s:Shared) (σ:St) (H:Hp) (R:It->Hp->Prop),Inv X pins σ H s->I σ H R ->
  wpAny (model X.prog X.w) X.A (eval iter X.env) (fun v s1=>wpAny (model X.prog X.w) X.A (pyIter v) (i4 X pins σ tg R) X.xe s1) X.xe s
theorem Vr{M:Model}{A:Around}{E:Value->Shared->Prop}{s:Shared}{tg:Expr}{it:Addr}{u:Value}{o:Obj}{n:String}{vs:Array Value}{Q:Unit->Shared->Prop}(R:s.heap.get? it=some o)(T:o.cls=.type n)(hd:o.data=.fields vs)
 (hn:["enumerate","zip","dict_itemiterator","dict_reverseitemiterator","odict_iterator","itertools.zip_longest","itertools.pairwise"].contains n=false)(I:Q () s):wpAny M A (letOwnedTupleGo tg (.ref it) u) Q E s:=by
 unfold letOwnedTupleGo;cases tg<;>first
  |exact aC I
  |(cases u<;>first
    |exact aC I
    |(refine aA (wpAny_load R ?_)
      rw[T,hd];show wpAny M A (if(["enumerate","zip","dict_itemiterator","dict_reverseitemiterator","odict_iterator","itertools.zip_longest","itertools.pairwise"].contains n&&vs[0]? == some (rawInt _))=true then _ else _) Q E s;rw[if_neg (by intro h;rw[hn,Bool.false_and]at h;cases h)];exact aC I))
def T6(K:PySem.W.Frag)(a:Addr):It :=
 ⟨fun i H=>∃xs x,AQ K H a xs/\xs[i]? = some x,fun i H x H'=>H'=H/\∀xs,AQ K H a xs->xs[i]? = some x,fun i H=>∃xs,AQ K H a xs/\xs.length<=i⟩
def UK(K:PySem.W.Frag)(a:Addr):It :=
 ⟨fun i H=>∃xs x,Ao K H a xs/\xs[i]? = some x,fun i H x H'=>H'=H/\∀xs,Ao K H a xs->xs[i]? = some x,fun i H=>∃xs,Ao K H a xs/\xs.length<=i⟩
def Pr(lo:Int)(n:Nat):It:=⟨fun i _=>i<n,fun i H x H'=>H'=H/\x=.int (lo+i),fun i _=>n<=i⟩
theorem W2{P:Program}{w:World}{K:PySem.W.Frag}{tg:Expr}(a it:Addr):Turn P w K tg (T6 K a) [it] it (fun i h=>h.IsListIter it a i) where
 mem:=by simp
 obj:=fun i h st b hb=>by
  have e:b=it:=by simpa using hb
  subst e;obtain⟨o,e,c,d⟩:=st;exact⟨o,e,fun v z=>by rw[d]at z;cases z⟩
 keep:=fun i h h' st k=>st.at fun o e=>k it (by simp) o e
 item:=by
  intro X hP hw hK hc i pins s σ H E I hf st hg;subst hP hw hK;obtain⟨xs,x,hq,hx⟩:=hg;obtain⟨its,rv,p,hz⟩:=I.list hq;obtain⟨u,hu,ru⟩:=rv.get hx;obtain⟨f0,f1,f2,f3,f4,f5⟩:=hf it (by simp);refine wpAny_pyNext_list_item st p.isList (x:=u) (by simpa using hu) fun h' st' sb=>?_;have I1:Inv X pins σ H {s with heap:=h'}:=I.turned (t':=s.toks) (fun b o hb e=>(sb.2 b hb).trans e) f0 f1 f3 f4 f5;obtain⟨o,e,c,d⟩:=id st';exact⟨u,rfl,Vr (s:={s with heap:=h'}) e c d (by decide) ⟨x,H,I1,ru,⟨rfl,fun ys hy=>by rw[I.RU hy hq];exact hx⟩,st',fun b hb=>(hf b hb).1⟩⟩
 done:=by
  intro X hP hw hK hc i pins s σ H E I hf st hg;subst hP hw hK;obtain⟨xs,hq,hx⟩:=hg;obtain⟨its,rv,p,hz⟩:=I.list hq;obtain⟨f0,f1,f2,f3,f4,f5⟩:=hf it (by simp);have hl:=rv.length;exact wpAny_pyNext_list_end (I.ok.hd hc) st p.isList (by simp;lia) fun h' eb=>⟨rfl,I.turned (t':=s.toks) (fun b o hb e=>eb b o hb e) f0 f1 f3 f4 f5⟩
 self:=fun _ _ _ _ _ st h=>wpAny_pyIter_listiter st h
theorem Uw{P:Program}{w:World}{K:PySem.W.Frag}{tg:Expr}(a it:Addr):Turn P w K tg (UK K a) [it] it (fun i h=>h.IsTupleIter it a i) where
 mem:=by simp
 obj:=fun i h st b hb=>by
  have e:b=it:=by simpa using hb
  subst e;obtain⟨o,e,c,d⟩:=st;exact⟨o,e,fun v z=>by rw[d]at z;cases z⟩
 keep:=fun i h h' st k=>st.at fun o e=>k it (by simp) o e
 item:=by
  intro X hP hw hK hc i pins s σ H E I hf st hg;subst hP hw hK;obtain⟨xs,x,hq,hx⟩:=hg;obtain⟨its,rv,p,hz⟩:=I.tuple hq;obtain⟨u,hu,ru⟩:=rv.get hx;obtain⟨f0,f1,f2,f3,f4,f5⟩:=hf it (by simp);refine wpAny_pyNext_tuple_item st (show s.heap.IsTuple a its.toArray from p) (x:=u) (by simpa using hu) fun h' st' sb=>?_;have I1:Inv X pins σ H {s with heap:=h'}:=I.turned (t':=s.toks) (fun b o hb e=>(sb.2 b hb).trans e) f0 f1 f3 f4 f5;obtain⟨o,e,c,d⟩:=id st';exact⟨u,rfl,Vr (s:={s with heap:=h'}) e c d (by decide) ⟨x,H,I1,ru,⟨rfl,fun ys hy=>by rw[I.P4 hy hq];exact hx⟩,st',fun b hb=>(hf b hb).1⟩⟩
 done:=by
  intro X hP hw hK hc i pins s σ H E I hf st hg;subst hP hw hK;obtain⟨xs,hq,hx⟩:=hg;obtain⟨its,rv,p,hz⟩:=I.tuple hq;obtain⟨f0,f1,f2,f3,f4,f5⟩:=hf it (by simp);have hl:=rv.length;exact wpAny_pyNext_tuple_end (I.ok.hd hc) st (show s.heap.IsTuple a its.toArray from p) (by simp;lia) fun h' eb=>⟨rfl,I.turned (t':=s.toks) (fun b o hb e=>eb b o hb e) f0 f1 f3 f4 f5⟩
 self:=fun _ _ _ _ _ st h=>wpAny_pyIter_tupleiter st h
theorem VU{P:Program}{w:World}{K:PySem.W.Frag}{tg:Expr}(it:Addr)(lo:Int)(n:Nat):Turn P w K tg (Pr lo n) [it] it (fun i h=>IsRangeIter h it (lo+(i:Nat)*1) ((n:Int)-(i:Nat)) 1) where
 mem:=by simp
 obj:=fun i h st b hb=>by
  have e:b=it:=by simpa using hb
  subst e;exact⟨_,st,fun v z=>by
   have z':Data.fields _=Data.cell v:=z;cases z'⟩
 keep:=fun i h h' st k=>k it (by simp) _ st
 item:=by
  intro X hP hw hK hc i pins s σ H E I hf st hg;subst hP hw hK;obtain⟨f0,f1,f2,f3,f4,f5⟩:=hf it (by simp);have W:=Walks.range (prog:=X.prog) (w:=X.w) (I.ok.hd hc) it lo 1 n;refine W.item i s _ _ hg st fun v h' tk hv st' kk=>?_;obtain⟨t,rfl⟩:=hv;have I1:Inv X pins σ H {s with heap:=h',toks:=tk}:=I.turned (fun b o hb e=>kk b o (by simpa using hb) e) f0 f1 f3 f4 f5;refine⟨_,rfl,Vr (s:={s with heap:=h',toks:=tk}) (n := "range_iterator") st' rfl rfl (by decide) ⟨.int (lo+i),H,I1,⟨t,?_⟩,⟨rfl,rfl⟩,st',fun b hb=>(hf b hb).1⟩⟩;rw[Int.mul_one]
 done:=by
  intro X hP hw hK hc i pins s σ H E I hf st hg;subst hP hw hK;obtain⟨f0,f1,f2,f3,f4,f5⟩:=hf it (by simp);exact wpAny_pyNext_range_end (I.ok.hd hc) st (by have:n<=i:=hg;lia) fun h' eb=>⟨rfl,I.turned (t':=s.toks) (fun b o hb e=>eb b o hb e) f0 f1 f3 f4 f5⟩
 self:=fun _ _ _ _ _ st h=>wpAny_pyIter_rangeiter st h
section
variable{X:Cx}{tg:Expr}
def gZ(K:PySem.W.Frag)(tl:TE):TI:=fun σ H R=>tl σ H fun x H1=>∃a,x=.ref a/\(∃xs,AQ K H1 a xs)/\R (T6 K a) H1
def kK(K:PySem.W.Frag)(tl:TE):TI:=fun σ H R=>tl σ H fun x H1=>∃a,x=.ref a/\(∃xs,Ao K H1 a xs)/\R (UK K a) H1
theorem BA{l:Expr}{tl:TE}(hl:PE X l tl):PI X tg l (gZ X.K tl):=by
 intro pins s σ H R I h;refine A5 (hl pins s σ H _ I h) fun v s1 ⟨x,H1,M,T,U⟩=>?_;obtain⟨a,e,⟨xs,Z⟩,q⟩:=U;subst e;cases T;obtain⟨Y,rv,p,hz⟩:=M.list Z;refine wpAny_pyIter_list p.isList ?_;refine⟨s1.heap.objs.size,[s1.heap.objs.size],_,_,H1,rfl,M.kept (t':=s1.toks) fun b o e=>aD _ e,W2 a _,⟨_,Heap.get?_push_size _ rfl,rfl,rfl⟩,fun b hb=>?_,q⟩;have e:b=s1.heap.objs.size:=by simpa using hb
 subst e;exact M.PL (aG _) (M.Al.fresh (aG _))
theorem XW{l:Expr}{tl:TE}(hl:PE X l tl):PI X tg l (kK X.K tl):=by
 intro pins s σ H R I h;refine A5 (hl pins s σ H _ I h) fun v s1 ⟨x,H1,M,U,Y⟩=>?_;obtain⟨a,e,⟨xs,Z⟩,q⟩:=Y;subst e;cases U;obtain⟨T,rv,p,hz⟩:=M.tuple Z;refine wpAny_pyIter_tuple (show s1.heap.IsTuple a T.toArray from p) ?_;refine⟨s1.heap.objs.size,[s1.heap.objs.size],_,_,H1,rfl,M.kept (t':=s1.toks) fun b o e=>aD _ e,Uw a _,⟨_,Heap.get?_push_size _ rfl,rfl,rfl⟩,fun b hb=>?_,q⟩;have e:b=s1.heap.objs.size:=by simpa using hb
 subst e;exact M.PL (aG _) (M.Al.fresh (aG _))
theorem S9{pins:List (Addr×Obj)}{σ:St}{H:Hp}{s:Shared}{R:It->Hp->Prop}{E:Value->Shared->Prop}{lo hi:Int}{t u v:Tok}{tk:Nat}(I:Inv X pins σ H s)(h1:-(2^62)<=lo)(Z:lo<2^62)(Y:-(2^62)<=hi)(U:hi<2^62)
 (q:R (Pr lo (hi-lo).toNat) H):wpAny (model X.prog X.w) X.A (pyIter (.ref s.heap.objs.size)) (i4 X pins σ tg R) E {s with heap:=s.heap.push { cls:=.type "range",data:=.fields #[.int lo t,.int hi u,.int 1 v]},toks:=tk}:=by
 refine wpAny_pyIter_range (IsRange.new ..) (small_one h1 Z Y U) ?_;have M:Inv X pins σ H {s with heap:=s.heap.push { cls:=.type "range",data:=.fields #[.int lo t,.int hi u,.int 1 v]},toks:=tk}:=I.kept fun b o e=>aD _ e;refine⟨(s.heap.push { cls:=.type "range",data:=.fields #[.int lo t,.int hi u,.int 1 v]}).objs.size,[(s.heap.push { cls:=.type "range",data:=.fields #[.int lo t,.int hi u,.int 1 v]}).objs.size],_,_,H,rfl,
  M.kept (t':=tk) fun b o e=>aD _ e,VU _ lo (hi-lo).toNat,?_,fun b T=>?_,q⟩
 .have e1:lo+((0:Nat):Int)*1=lo:=by simp
  have e2:(((hi-lo).toNat:Nat):Int)-((0:Nat):Int)=Builtin.Range.rangeSize lo hi 1:=by rw[rangeSize_one];split<;>lia
  show IsRangeIter _ _ (lo+((0:Nat):Int)*1) ((((hi-lo).toNat:Nat):Int)-((0:Nat):Int)) 1;rw[e1,e2];exact aU _ rfl
 .have e:b=(s.heap.push { cls:=.type "range",data:=.fields #[.int lo t,.int hi u,.int 1 v]}).objs.size:=by simpa using T
  subst e;exact M.PL (aG _) (M.Al.fresh (aG _))
def iB(I:TA):TI:=fun σ H R=>I σ H fun vs H1=>∃j:Int,vs=[.int j]/\-(2^62)<=j/\j<2^62/\R (Pr 0 j.toNat) H1
def iD(I:TA):TI:=fun σ H R=>I σ H fun vs H1=>∃i j:Int,vs=[.int i,.int j]/\(-(2^62)<=i/\i<2^62/\-(2^62)<=j/\j<2^62)/\R (Pr i (j-i).toNat) H1
theorem Cf{a:Expr}{T:TA}{p pos:Pos}(hg:Gl X "range")(hm:X.mg "range" = none)(ha:PA X [a] T)(hs:starEach [a] X.env=[(false,eval a X.env)]:=by rfl):PI X tg (.Call (.Name "range" p) [a] [] pos) (iB T):=by
 intro pins s σ H R I h;refine Call_ (FC I hg hm boot_range (bM (A5 (ha pos pins s σ H _ I h) fun us s1 ⟨vs,H1,I1,Y,M⟩=>?_) hs rfl));obtain⟨j,e,M,Z,q⟩:=M;subst e;cases Y with
 |cons r U=>
  cases U;obtain⟨t,rfl⟩:=r;exact call_range_1 (S9 I1 (by lia) (by lia) M Z (by simpa using q))
theorem WM{a b:Expr}{Y:TA}{p pos:Pos}(hg:Gl X "range")(hm:X.mg "range" = none)(ha:PA X [a,b] Y)(hs:starEach [a,b] X.env=[(false,eval a X.env),(false,eval b X.env)]:=by rfl)(M:starEach [b] X.env=[(false,eval b X.env)]:=by rfl) :
  PI X tg (.Call (.Name "range" p) [a,b] [] pos) (iD Y):=by
 intro pins s σ H R I h;refine Call_ (FC I hg hm boot_range (bM (A5 (ha pos pins s σ H _ I h) fun us s1 ⟨vs,H1,I1,Z,U⟩=>?_) (by rw[hs,M]) (by rw[M];rfl)));obtain⟨i,j,e,⟨U,q2,q3,q4⟩,q⟩:=U;subst e;cases Z with
 |cons r T=>
  cases T with
  |cons r' T=>
   cases T;obtain⟨t,rfl⟩:=r;obtain⟨t',rfl⟩:=r';exact call_range_2 (S9 I1 U q2 q3 q4 q)
def jJ(T:TI)(g:TG)(U:TS):TS:=fun D σ H=>T σ H fun J H1=>∃W:Nat->Nat->St->Hp->Prop,(∃m,W 0 m σ H1)/\∀i m σ H,W i m σ H ->
 (J.stop i H/\D.nx σ H)\/(J.go i H/\∃N:St->Hp->Prop,(∀I H',N I H'->∃R,R<m/\W (i+1) R I H')/\∀x H',J.EJ i H x H'->g x σ H' fun M Y=>U {D with nx:=N,ct:=N,bk:=D.nx} M Y)
def Lo(fp:List Addr)(h:Heap):List (Addr×Obj):=fp.filterMap fun b=>(h.get? b).map fun o=>(b,o)
theorem IX{fp:List Addr}{h:Heap}{b:Addr}{o:Obj}(I:b∈fp)(e:h.get? b=some o):(b,o)∈Lo fp h:=List.mem_filterMap.mpr ⟨b,I,by rw[e];rfl⟩
theorem WS{fp:List Addr}{h:Heap}{p:Addr×Obj}(I:p∈Lo fp h):p.1∈fp/\h.get? p.1=some p.2:=by
 obtain⟨b,M,e⟩:=List.mem_filterMap.mp I;cases q:h.get? b with
 |none=>rw[q]at e;cases e
 |some o=>
  rw[q]at e;have R:(b,o)=p:=aY e;subst R;exact⟨M,q⟩
theorem Inv.pinned{pins:List (Addr×Obj)}{σ:St}{H:Hp}{s:Shared}{fp:List Addr}(I:Inv X pins σ H s)(Y:∀b∈fp,Jv X pins H b)(U:∀b∈fp,∃o,s.heap.get? b=some o/\∀v,o.data≠.cell v):Inv X (pins++Lo fp s.heap) σ H s :=
 I.UO fun p T=>(aT.mp T).elim (fun z=>I.pin p (ah _ z)) fun z=>by
  obtain⟨M,e⟩:=WS z;obtain⟨Z,f1,f2,_⟩:=Y p.1 M;obtain⟨o,R,d⟩:=U p.1 M;rw[e]at R;cases R;exact⟨e,Z,f1,f2,d⟩
theorem Inv.Kl{pins M:List (Addr×Obj)}{σ:St}{H:Hp}{s:Shared}(I:Inv X (pins++M) σ H s):Inv X pins σ H s:=I.UO fun p R=>I.pin p (ah _ (bF _ R))
theorem Bg{iter:Expr}{body:List Stmt}{wi:TI}{g:TG}{tb:TS}{pos:Pos}(hp:PassesOwn (model X.prog X.w) X.A X.env X.xe)(hc:X.calm=true)(hi:PI X tg iter wi)(hg:PG X tg g)(Z:Ij X body tb)
 (hs:∀x,foldedSetIterable iter X.env x=pure x:=by intro _;rfl):PS X (.For tg iter body [] pos) (jJ wi g tb):=by
 intro pins s σ H D I h;refine wpAny_For (A5 (hi pins s σ H _ I h) fun v s1 h1=>A5 h1 fun itv s2 h2=>?_) hs;obtain⟨it,fp,tn,J,H2,e,I2,T,st2,f2,W,⟨m0,w0⟩,turn⟩:=h2;subst e;have Y:∀ {H':Hp},(∀b∈fp,H' b=none)->∀b∈fp,Jv X pins H' b:=fun hn b Z=>⟨hn b Z,(f2 b Z).2⟩;refine codeAny_forLoop_any (fun n s'=>∃i U H',Inv X pins U H' s'/\tn i s'.heap/\(∀b∈fp,H' b=none)/\W i n U H') ?_ m0 ⟨0,σ,H2,I2,st2,fun b Z=>(f2 b Z).1,w0⟩;rintro n s3 ⟨i,R,H3,I3,st3,fr3,w3⟩;rcases turn i n R H3 w3 with ⟨stop,qn⟩|⟨go,N,hN,step⟩
 .refine wpAny_passesOwn hp (A5 (T.done X rfl rfl rfl hc i pins s3 R H3 X.xe I3 (Y fr3) st3 stop) fun r s4 ⟨hr,I4⟩=>?_);subst hr;exact wpAny_execs_nil ⟨R,H3,I4,qn⟩
 .refine wpAny_passesOwn hp (A5 (T.item X rfl rfl rfl hc i pins s3 R H3 X.xe I3 (Y fr3) st3 go) fun r s4 ⟨u,hr,h4⟩=>?_);subst hr;refine wpAny_passesOwn hp (A5 h4 fun _ s5 ⟨x,H5,I5,r5,y5,st5,fr5⟩=>?_);have I5':=I5.pinned (Y fr5) (T.obj _ _ st5);refine wpAny_passesOwn hp (A5 (hg _ s5 R H5 x u _ I5' r5 (step x H5 y5)) fun _ s6 ⟨σ6,H6,I6,q6⟩=>?_);refine wpAny_passesOwn hp (A5 (Z _ s6 σ6 H6 _ I6 q6) fun f s7 q7=>?_);have again:∀ {M:St} {H7:Hp},Inv X (pins++Lo fp s5.heap) M H7 s7->N M H7->∃m,m<n/\∃i U H',Inv X pins U H' s7/\tn i s7.heap/\(∀b∈fp,H' b=none)/\W i m U H':=fun {M H7} I7 n7=>by
   obtain⟨m',hm,w7⟩:=hN M H7 n7;refine⟨m',hm,i+1,M,H7,I7.Kl,T.keep _ _ _ st5 fun b Z o e=>(I7.pin (b,o) (ah _ (ah _ (IX Z e)))).1,fun b Z=>?_,w7⟩;obtain⟨o,e,d⟩:=T.obj _ _ st5 b Z;exact(I7.pin (b,o) (ah _ (ah _ (IX Z e)))).2.1
  cases f with
  |next=>obtain⟨M,H7,I7,n7⟩:=q7;exact again I7 n7
  |cont=>obtain⟨M,H7,I7,n7⟩:=q7;exact again I7 n7
  |brk=>obtain⟨M,H7,I7,q7⟩:=q7;exact⟨M,H7,I7.Kl,q7⟩
  |ret v=>obtain⟨x7,M,H7,I7,r7,q7⟩:=q7;exact⟨x7,M,H7,I7.Kl,r7,q7⟩
end
theorem Bx{K:PySem.W.Frag}{a:Addr}{xs:List V}{g:TG}{U:TS}{D:Ends}{σ:St}{H:Hp}(Pv:Nat->St->Hp->Prop)(h0:Pv 0 σ H)(hl:∀i σ H,i<=xs.length->Pv i σ H->AQ K H a xs)
 (hs:∀i x σ H,xs[i]? = some x->Pv i σ H->g x σ H fun I T=>U {D with nx:=Pv (i+1),ct:=Pv (i+1),bk:=D.nx} I T)(hd:∀σ H,Pv xs.length σ H->D.nx σ H) :
  ∃W:Nat->Nat->St->Hp->Prop,(∃m,W 0 m σ H)/\∀i m σ H,W i m σ H ->
   ((T6 K a).stop i H/\D.nx σ H)\/((T6 K a).go i H/\∃N:St->Hp->Prop,(∀M H',N M H'->∃Y,Y<m/\W (i+1) Y M H')/\∀x H',(T6 K a).EJ i H x H'->g x σ H' fun I T=>U {D with nx:=N,ct:=N,bk:=D.nx} I T):=by
 refine⟨fun i m σ H=>m=xs.length-i/\i<=xs.length/\Pv i σ H,⟨xs.length,by simp,Nat.zero_le _,h0⟩,?_⟩;rintro i m σ H ⟨rfl,hi,p⟩;have q:=hl i σ H hi p;by_cases R:i<xs.length
 .refine .inr ⟨⟨xs,xs[i],q,by simp[R]⟩,Pv (i+1),fun M H' Z=>⟨xs.length-(i+1),by lia,rfl,R,Z⟩,fun x H' y=>?_⟩;obtain⟨e,y⟩:=y;subst e;exact hs i x σ _ (y xs q) p
 .have e:i=xs.length:=by lia
  subst e;exact .inl ⟨⟨xs,q,Nat.le_refl _⟩,hd σ H p⟩
theorem a7{K:PySem.W.Frag}{a:Addr}{xs:List V}{g:TG}{U:TS}{D:Ends}{σ:St}{H:Hp}(Pv:Nat->St->Hp->Prop)(h0:Pv 0 σ H)(hl:∀i σ H,i<=xs.length->Pv i σ H->Ao K H a xs)
 (hs:∀i x σ H,xs[i]? = some x->Pv i σ H->g x σ H fun I T=>U {D with nx:=Pv (i+1),ct:=Pv (i+1),bk:=D.nx} I T)(hd:∀σ H,Pv xs.length σ H->D.nx σ H) :
  ∃W:Nat->Nat->St->Hp->Prop,(∃m,W 0 m σ H)/\∀i m σ H,W i m σ H ->
   ((UK K a).stop i H/\D.nx σ H)\/((UK K a).go i H/\∃N:St->Hp->Prop,(∀M H',N M H'->∃Y,Y<m/\W (i+1) Y M H')/\∀x H',(UK K a).EJ i H x H'->g x σ H' fun I T=>U {D with nx:=N,ct:=N,bk:=D.nx} I T):=by
 refine⟨fun i m σ H=>m=xs.length-i/\i<=xs.length/\Pv i σ H,⟨xs.length,by simp,Nat.zero_le _,h0⟩,?_⟩;rintro i m σ H ⟨rfl,hi,p⟩;have q:=hl i σ H hi p;by_cases R:i<xs.length
 .refine .inr ⟨⟨xs,xs[i],q,by simp[R]⟩,Pv (i+1),fun M H' Z=>⟨xs.length-(i+1),by lia,rfl,R,Z⟩,fun x H' y=>?_⟩;obtain⟨e,y⟩:=y;subst e;exact hs i x σ _ (y xs q) p
 .have e:i=xs.length:=by lia
  subst e;exact .inl ⟨⟨xs,q,Nat.le_refl _⟩,hd σ H p⟩
theorem Hm{lo:Int}{n:Nat}{g:TG}{U:TS}{D:Ends}{σ:St}{H:Hp}(Pv:Nat->St->Hp->Prop)(h0:Pv 0 σ H)
 (hs:∀i σ H,i<n->Pv i σ H->g (.int (lo+i)) σ H fun I T=>U {D with nx:=Pv (i+1),ct:=Pv (i+1),bk:=D.nx} I T)(hd:∀σ H,Pv n σ H->D.nx σ H) :
  ∃W:Nat->Nat->St->Hp->Prop,(∃m,W 0 m σ H)/\∀i m σ H,W i m σ H ->
   ((Pr lo n).stop i H/\D.nx σ H)\/((Pr lo n).go i H/\∃N:St->Hp->Prop,(∀M H',N M H'->∃Y,Y<m/\W (i+1) Y M H')/\∀x H',(Pr lo n).EJ i H x H'->g x σ H' fun I T=>U {D with nx:=N,ct:=N,bk:=D.nx} I T):=by
 refine⟨fun i m σ H=>m=n-i/\i<=n/\Pv i σ H,⟨n,by simp,Nat.zero_le _,h0⟩,?_⟩;rintro i m σ H ⟨rfl,hi,p⟩;by_cases R:i<n
 .refine .inr ⟨R,Pv (i+1),fun M H' Z=>⟨n-(i+1),by lia,rfl,R,Z⟩,fun x H' y=>?_⟩;obtain⟨e,y⟩:=y;subst e y;exact hs i σ _ R p
 .have e:i=n:=by lia
  subst e;exact .inl ⟨aG _,hd σ H p⟩
theorem JD{c:TT}{R:TS}{D:Ends}{σ:St}{H:Hp}(Pv:St->Hp->Prop)(M:St->Hp->Nat)(h0:Pv σ H)
 (Y:∀σ H,Pv σ H->c σ H fun b H1=>if b=true then R {D with nx:=fun I H'=>Pv I H'/\M I H'<M σ H,ct:=fun I H'=>Pv I H'/\M I H'<M σ H,bk:=D.nx} σ H1 else D.nx σ H1)
 (mono:∀σ H Q T,(∀b H1,Q b H1->T b H1)->c σ H Q->c σ H T):Wv c R D σ H:=by
 refine⟨fun m σ H=>m=M σ H/\Pv σ H,⟨_,rfl,h0⟩,?_⟩;rintro m σ H ⟨rfl,p⟩;refine mono σ H _ _ (fun b H1 q=>?_) (Y σ H p);cases b with
 |true=>exact⟨_,fun I H' ⟨U,l⟩=>⟨_,l,rfl,U⟩,q⟩
 |false=>exact q
abbrev R2:=V->V->Hp->VK->Prop
def Cy(X:Cx)(f:Value->Value->Sem Value)(r:R2):Prop :=
 ∀(pins:List (Addr×Obj)) (s:Shared) (σ:St) (H:Hp) (x y:V) (v u:Value) (Q:VK),Inv X pins σ H s->RelV x v->RelV y u->r x y H Q ->
  wpAny (model X.prog X.w) X.A (f v u) (EP X pins σ Q) X.xe s
def cS(X:Cx)(f:Value->Sem Value)(r:V->Hp->VK->Prop):Prop :=
 ∀(pins:List (Addr×Obj)) (s:Shared) (σ:St) (H:Hp) (x:V) (v:Value) (Q:VK),Inv X pins σ H s->RelV x v->r x H Q ->
  wpAny (model X.prog X.w) X.A (f v) (EP X pins σ Q) X.xe s
def FH(X:Cx)(f:Value)(r:List V->Hp->VK->Prop):Prop :=
 ∀(pins:List (Addr×Obj)) (s:Shared) (σ:St) (H:Hp) (xs:List V) (us:List Value) (Q:VK),Inv X pins σ H s->Vals xs us->r xs H Q ->
  wpAny (model X.prog X.w) X.A (call f us) (EP X pins σ Q) X.xe s
def ZP(r:R2)(M I:TE):TE:=fun σ H Q=>M σ H fun x H1=>I σ H1 fun y R=>r x y R Q
def k7(r:V->Hp->VK->Prop)(I:TE):TE:=fun σ H Q=>I σ H fun x H1=>r x H1 Q
def rI(C:Int->Int->Prop)(g:Int->Int->V):R2:=fun x y H Q=>∃i j,x=.int i/\y=.int j/\C i j/\Q (g i j) H
def Pq(g:Int->Int->V):R2:=fun x y H Q=>∃i j,x=.int i/\y=.int j/\Q (g i j) H
def rU(g:Int->V):V->Hp->VK->Prop:=fun x H Q=>∃i,x=.int i/\Q (g i) H
section
variable{X:Cx}{a b:Expr}{ta tb:TE}{pos:Pos}
theorem Yi(ha:PE X a ta)(hb:PE X b tb){pins:List (Addr×Obj)}{s:Shared}{σ:St}{H:Hp}{R:V->V->Hp->Prop}(I:Inv X pins σ H s)
 (h:ta σ H fun x H1=>tb σ H1 fun y M=>R x y M){Q:Value->Shared->Prop}{f:Value->Value->Sem Value}
 (hf:∀v u s2 x y M,Inv X pins σ M s2->RelV x v->RelV y u->R x y M->wpAny (model X.prog X.w) X.A (f v u) Q X.xe s2) :
  wpAny (model X.prog X.w) X.A (eval a X.env) (fun v U=>wpAny (model X.prog X.w) X.A (eval b X.env) (fun u T=>wpAny (model X.prog X.w) X.A (f v u) Q X.xe T) X.xe U) X.xe s:=by
 refine A5 (ha pins s σ H _ I h) fun v s1 ⟨x,H1,I1,Z,q1⟩=>?_;refine A5 (hb pins s1 σ H1 _ I1 q1) fun u s2 ⟨y,M,I2,Y,q2⟩=>?_;exact hf v u s2 x y M I2 Z Y q2
theorem Af{op:Operator}{r:R2}(T:Cy X (binaryOp op) r)(ha:PE X a ta)(U:PE X b tb):PE X (.BinOp a op b pos) (ZP r ta tb):=by
 intro pins s σ H Q I h;exact wpAny_BinOp (Yi ha U I h fun v u s2 x y Z Y R M q=>T pins s2 σ Z x y v u Q Y R M q)
theorem Vc{op:UnaryOp}{r:V->Hp->VK->Prop}(T:cS X (unaryOp op) r)(ha:PE X a ta):PE X (.UnaryOp op a pos) (k7 r ta):=by
 intro pins s σ H Q I h;exact UnaryOp_ (A5 (ha pins s σ H _ I h) fun v s1 ⟨x,H1,U,M,R⟩=>T pins s1 σ H1 x v Q U M R)
theorem US{f:Value->Value->Sem Value}{C:Int->Int->Prop}{g:Int->Int->Int}
 (rule:∀(i j:Int) (t u:Tok) (s:Shared) (Q:Value->Shared->Prop) (E:Value->Shared->Prop),C i j->Q (.int (g i j) s.toks) {s with toks:=s.toks+1}->wpAny (model X.prog X.w) X.A (f (.int i t) (.int j u)) Q E s) :
  Cy X f (rI C fun i j=>.int (g i j)):=by
 intro pins s σ H x y v u Q I T R h;obtain⟨i,j,rfl,rfl,U,q⟩:=h;obtain⟨t,rfl⟩:=T;obtain⟨M,rfl⟩:=R;exact rule i j t M s _ _ U ⟨.int (g i j),H,I.tok _,⟨_,rfl⟩,q⟩
theorem dI{f:Value->Value->Sem Value}{g:Int->Int->Int}
 (rule:∀(i j:Int) (t u:Tok) (s:Shared) (Q:Value->Shared->Prop) (E:Value->Shared->Prop),Q (.int (g i j) s.toks) {s with toks:=s.toks+1}->wpAny (model X.prog X.w) X.A (f (.int i t) (.int j u)) Q E s) :
  Cy X f (Pq fun i j=>.int (g i j)):=by
 intro pins s σ H x y v u Q I T R h;obtain⟨i,j,rfl,rfl,q⟩:=h;obtain⟨t,rfl⟩:=T;obtain⟨M,rfl⟩:=R;exact rule i j t M s _ _ ⟨.int (g i j),H,I.tok _,⟨_,rfl⟩,q⟩
theorem Yo{f:Value->Value->Sem Value}{g:Int->Int->Bool}
 (rule:∀(i j:Int) (t u:Tok) (s:Shared) (Q:Value->Shared->Prop) (E:Value->Shared->Prop),Q (.bool (g i j)) s->wpAny (model X.prog X.w) X.A (f (.int i t) (.int j u)) Q E s) :
  Cy X f (Pq fun i j=>.bl (g i j)):=by
 intro pins s σ H x y v u Q I T R h;obtain⟨i,j,rfl,rfl,q⟩:=h;obtain⟨t,rfl⟩:=T;obtain⟨M,rfl⟩:=R;exact rule i j t M s _ _ ⟨.bl (g i j),H,I,rfl,q⟩
def kN(i j:Int):Prop:=0<j/\j<1073741824
def kP(i j:Int):Prop:=0<=j/\j<=1000000/\i.natAbs<2^64
def OY(i j:Int):Prop:=(-(2^64)<i/\i<2^64)\/(-(2^64)<j/\j<2^64)
theorem OY.ok{i j:Int}(h:OY i j):IntMulOk i j:=by
 rcases h with ⟨M,I⟩|⟨M,I⟩
 .exact .of_left (intBits_le_64 M I)
 .exact .of_right (intBits_le_64 M I)
theorem CK:Cy X (binaryOp .Add) (Pq fun i j=>.int (i+j)):=dI fun _ _ _ _ _ _ _ q=>add_int q
theorem FZ:Cy X (binaryOp .Sub) (Pq fun i j=>.int (i-j)):=dI fun _ _ _ _ _ _ _ q=>sub_int q
theorem Ut:Cy X (binaryOp .FloorDiv) (rI kN fun i j=>.int (i / j)):=US fun i j _ _ _ _ _ I q=>by
 have R:(0:Int)<j:=I.1;have M:j<1073741824:=I.2;exact floordiv_int (by lia) (by rw[Int.fdiv_eq_ediv_of_nonneg i (by lia)];exact q) (.inl (PyProof.noPylong_small (by lia)))
theorem Hi:Cy X (binaryOp .Mod) (rI (fun _ j=>0<j) fun i j=>.int (i % j)):=US fun i j _ _ _ _ _ I q=>by
 have M:(0:Int)<j:=I;exact mod_int' (by lia) (by rw[Int.fmod_eq_emod_of_nonneg i (by lia)];exact q)
theorem J8:Cy X (binaryOp .Mod) (rI (fun _ j=>j≠0) fun i j=>.int (i.fmod j)):=US fun _ _ _ _ _ _ _ I q=>mod_int' I q
theorem Sa:Cy X (binaryOp .Pow) (rI kP fun i j=>.int (i^j.toNat)):=US fun _ _ _ _ _ _ _ I q=>pow_int_small I.1 I.2.1 I.2.2 q
theorem lC{f:Value->Sem Value}{g:Int->Int}
 (rule:∀(i:Int) (t:Tok) (s:Shared) (Q:Value->Shared->Prop) (E:Value->Shared->Prop),Q (.int (g i) s.toks) {s with toks:=s.toks+1}->wpAny (model X.prog X.w) X.A (f (.int i t)) Q E s) :
  cS X f (rU fun i=>.int (g i)):=by
 intro pins s σ H x v Q I M h;obtain⟨i,rfl,q⟩:=h;obtain⟨t,rfl⟩:=M;exact rule i t s _ _ ⟨.int (g i),H,I.tok _,⟨_,rfl⟩,q⟩
theorem Ru:cS X (unaryOp .USub) (rU fun i=>.int (-i)):=lC fun _ _ _ _ _ q=>neg_int q
end
def fz:V->V->Bool
 |.BJ,.BJ=>true|.BJ,.int _=>true|.int _,.BJ=>true|.BJ,.bl _=>true|.bl _,.BJ=>true|.BJ,.str _=>true|.str _,.BJ=>true
 |.int _,.int _=>true|.bl _,.bl _=>true|.str _,.str _=>true|.La _,.La _=>true
 |.int _,.str _=>true|.str _,.int _=>true|.bl _,.str _=>true|.str _,.bl _=>true
 |_,_=>false
def kq:R2:=fun x y H Q=>fz x y=true/\Q (.bl (decide (x=y))) H
def km:R2:=fun x y H Q=>fz x y=true/\Q (.bl (!decide (x=y))) H
theorem UM{i j:Int}:decide (V.int i=V.int j)=(i==j):=by
 rw[Bool.eq_iff_iff];simp
theorem Xf{i j:Bool}:decide (V.bl i=V.bl j)=(i==j):=by
 rw[Bool.eq_iff_iff];simp
theorem T4{i j:Str}:decide (V.str i=V.str j)=(i==j):=by
 rw[Bool.eq_iff_iff];simp
theorem Ue{i j:Array UInt8}:decide (V.La i=V.La j)=(i.toList==j.toList):=by
 rw[Bool.eq_iff_iff];cases i;cases j;simp
section
variable{X:Cx}{a b c:Expr}{ta tb:TE}{pos:Pos}
theorem BG{pins:List (Addr×Obj)}{σ:St}{H:Hp}{s:Shared}{Q:VK}{k M:Bool}(I:Inv X pins σ H s)(q:Q (.bl k) H)(e:k=M):EP X pins σ Q (.bool M) s:=by
 subst e;exact⟨.bl k,H,I,rfl,q⟩
theorem GO:Cy X (compareOp .Eq) kq:=by
 intro pins s σ H x y v u Q I U M h;obtain⟨T,q⟩:=h;cases x with
 |BJ=>
  cases U;cases y with
  |BJ=>cases M;exact PySem.EqNone.eq_none_none (BG I q (by simp))
  |bl j=>cases M;exact PySem.EqNone.eq_none_bool (BG I q (by simp))
  |int j=>obtain⟨R,rfl⟩:=M;exact PySem.EqNone.eq_none_int (BG I q (by simp))
  |str j=>obtain⟨R,rfl⟩:=M;exact PySem.EqNone.eq_none_str (BG I q (by simp))
  |_=>exact absurd (show false=true from T) aM
 |bl i=>
  cases U;cases y with
  |BJ=>cases M;exact PySem.EqNone.eq_bool_none (BG I q (by simp))
  |bl j=>cases M;exact eq_bool (BG I q Xf)
  |str j=>obtain⟨R,rfl⟩:=M;exact PySem.EqMixed.eq_bool_str (BG I q (by simp))
  |_=>exact absurd (show false=true from T) aM
 |int i=>
  obtain⟨t,rfl⟩:=U;cases y with
  |BJ=>cases M;exact PySem.EqNone.eq_int_none (BG I q (by simp))
  |int j=>obtain⟨R,rfl⟩:=M;exact eq_int (BG I q UM)
  |str j=>obtain⟨R,rfl⟩:=M;exact PySem.EqMixed.eq_int_str (BG I q (by simp))
  |_=>exact absurd (show false=true from T) aM
 |str i=>
  obtain⟨t,rfl⟩:=U;cases y with
  |BJ=>cases M;exact PySem.EqNone.eq_str_none (BG I q (by simp))
  |bl j=>cases M;exact PySem.EqMixed.eq_str_bool (BG I q (by simp))
  |int j=>obtain⟨R,rfl⟩:=M;exact PySem.EqMixed.eq_str_int (BG I q (by simp))
  |str j=>obtain⟨R,rfl⟩:=M;exact eq_str (BG I q T4)
  |_=>exact absurd (show false=true from T) aM
 |La i=>
  obtain⟨t,rfl⟩:=U;cases y with
  |La j=>obtain⟨R,rfl⟩:=M;exact PySem.W.eq_bytes (BG I q Ue)
  |_=>exact absurd (show false=true from T) aM
 |_=>cases y<;>exact absurd (show false=true from T) aM
theorem Fl:Cy X (compareOp .NotEq) km:=by
 intro pins s σ H x y v u Q I U M h;obtain⟨T,q⟩:=h;cases x with
 |BJ=>
  cases U;cases y with
  |BJ=>cases M;exact PySem.EqNone.ne_none_none (BG I q (by simp))
  |bl j=>cases M;exact PySem.EqNone.ne_none_bool (BG I q (by simp))
  |int j=>obtain⟨R,rfl⟩:=M;exact PySem.EqNone.ne_none_int (BG I q (by simp))
  |str j=>obtain⟨R,rfl⟩:=M;exact PySem.EqNone.ne_none_str (BG I q (by simp))
  |_=>exact absurd (show false=true from T) aM
 |bl i=>
  cases U;cases y with
  |BJ=>cases M;exact PySem.EqNone.ne_bool_none (BG I q (by simp))
  |bl j=>cases M;exact ne_bool (BG I q (bD not Xf))
  |str j=>obtain⟨R,rfl⟩:=M;exact PySem.EqMixed.ne_bool_str (BG I q (by simp))
  |_=>exact absurd (show false=true from T) aM
 |int i=>
  obtain⟨t,rfl⟩:=U;cases y with
  |BJ=>cases M;exact PySem.EqNone.ne_int_none (BG I q (by simp))
  |int j=>obtain⟨R,rfl⟩:=M;exact ne_int (BG I q (bD not UM))
  |str j=>obtain⟨R,rfl⟩:=M;exact PySem.EqMixed.ne_int_str (BG I q (by simp))
  |_=>exact absurd (show false=true from T) aM
 |str i=>
  obtain⟨t,rfl⟩:=U;cases y with
  |BJ=>cases M;exact PySem.EqNone.ne_str_none (BG I q (by simp))
  |bl j=>cases M;exact PySem.EqMixed.ne_str_bool (BG I q (by simp))
  |int j=>obtain⟨R,rfl⟩:=M;exact PySem.EqMixed.ne_str_int (BG I q (by simp))
  |str j=>obtain⟨R,rfl⟩:=M;exact ne_str (BG I q (bD not T4))
  |_=>exact absurd (show false=true from T) aM
 |La i=>
  obtain⟨t,rfl⟩:=U;cases y with
  |La j=>obtain⟨R,rfl⟩:=M;exact PySem.W.ne_bytes (BG I q (bD not Ue))
  |_=>exact absurd (show false=true from T) aM
 |_=>cases y<;>exact absurd (show false=true from T) aM
theorem MN:Cy X (compareOp .Lt) (Pq fun i j=>.bl (decide (i<j))):=Yo fun _ _ _ _ _ _ _ q=>lt_int q
theorem MP:Cy X (compareOp .Gt) (Pq fun i j=>.bl (decide (j<i))):=Yo fun _ _ _ _ _ _ _ q=>gt_int q
theorem Y8:Cy X (compareOp .GtE) (Pq fun i j=>.bl (decide (j<=i))):=Yo fun _ _ _ _ _ _ _ q=>ge_int q
theorem WG:Cy X (compareOp .Is) (fun x y H Q=>y=.BJ/\Q (.bl (decide (x=.BJ))) H):=by
 intro pins s σ H x y v u Q I M R h;obtain⟨rfl,q⟩:=h;cases R;refine is_none_gen (BG I q ?_);cases x<;>first
  |(cases M;rfl)
  |(obtain⟨t,rfl⟩:=M;rfl)
theorem Cy.or{f:Value->Value->Sem Value}{r T:R2}(h:Cy X f r)(h':Cy X f T):Cy X f (fun x y H Q=>r x y H Q\/T x y H Q):=by
 intro pins s σ H x y v u Q I R M q;rcases q with q|q
 .exact h pins s σ H x y v u Q I R M q
 .exact h' pins s σ H x y v u Q I R M q
theorem Av(b:Expr){op:CmpOp}(h:op≠.In:=by decide)(I:op≠.NotIn:=by decide):behindInMarks op b=false:=by
 have R:(op==CmpOp.In)=false:=by cases op<;>first|rfl|exact absurd rfl h
 have M:(op==CmpOp.NotIn)=false:=by cases op<;>first|rfl|exact absurd rfl I
 cases b<;>simp[behindInMarks,R,M]
theorem Ie{op:CmpOp}{r:R2}(T:Cy X (compareOp op) r)(ha:PE X a ta)(U:PE X b tb)(hm:behindInMarks op b=false):PE X (.Compare a [op] [b] pos) (ZP r ta tb):=by
 intro pins s σ H Q I h;exact wpAny_Compare1 (Yi ha U I h fun v u s2 x y Z Y R M q=>T pins s2 σ Z x y v u Q Y R M q) hm
def hV(t:TE):TT:=fun σ H Q=>t σ H fun x H'=>∃k,x=.bl k/\Q k H'
theorem Au{op:CmpOp}{r:R2}(ho:Cy X (compareOp op) r)(ha:PE X a ta)(hb:PE X b tb)(hm:behindInMarks op b=false):PT X (.Compare a [op] [b] pos) (hV (ZP r ta tb)):=by
 intro pins s σ H Q I h;refine wpAny_isTrue_Compare1 (A5 (ha pins s σ H _ I h) fun v s1 ⟨x,H1,I1,T,Z⟩=>A5 (hb pins s1 σ H1 _ I1 Z) fun u s2 ⟨y,H2,I2,R,Y⟩=>
  A5 (ho pins s2 σ H2 x y v u _ I2 T R Y) fun c s3 ⟨z,H3,I3,M,k,e,U⟩=>?_) hm
 subst e;cases M;exact bc ⟨H3,I3,U⟩
theorem Lh:(sizeLine:Nat)<2^63:=by rw[sizeLine_eq];decide
theorem Vg:Cy X (binaryOp .Add) (fun x y H Q=>∃i j,x=.str i/\y=.str j/\i.length+j.length<=sizeLine/\Q (.str (i++j)) H):=by
 intro pins s σ H x y v u Q I T R h;obtain⟨i,j,rfl,rfl,U,q⟩:=h;obtain⟨t,rfl⟩:=T;obtain⟨M,rfl⟩:=R;exact add_str (fun M Y=>⟨.str (i++j),H,I.tok _,⟨_,rfl⟩,q⟩) U
theorem vals1{x:V}{us:List Value}(r:Vals [x] us):∃u,us=[u]/\RelV x u:=by
 cases r with
 |cons M I=>cases I;exact⟨_,rfl,M⟩
theorem vals2{x y:V}{us:List Value}(r:Vals [x,y] us):∃u I,us=[u,I]/\RelV x u/\RelV y I:=by
 cases r with
 |cons U T=>
  cases T with
  |cons R M=>cases M;exact⟨_,_,rfl,U,R⟩
theorem M5:FH X (.builtin "abs") (fun xs H Q=>∃i,xs=[.int i]/\Q (.int (if i<0 then -i else i)) H):=by
 intro pins s σ H xs us Q I r h;obtain⟨i,rfl,q⟩:=h;obtain⟨u,rfl,t,rfl⟩:=vals1 r;exact call_abs_int fun u M=>⟨.int (if i<0 then -i else i),H,I.tok _,⟨_,rfl⟩,q⟩
theorem W7(R:X.calm=true):FH X (.builtin "max") (fun xs H Q=>∃i j,xs=[.int i,.int j]/\Q (.int (if j > i then j else i)) H):=by
 intro pins s σ H xs us Q I r h;obtain⟨i,j,rfl,q⟩:=h;obtain⟨u,T,rfl,⟨t,rfl⟩,⟨Y,rfl⟩⟩:=vals2 r;refine max_two_ints (I.ok.hd R) fun h' U k=>⟨_,H,I.kept k,?_,q⟩;by_cases M:j > i
 .rw[if_pos M,if_pos M];exact⟨_,rfl⟩
 .rw[if_neg M,if_neg M];exact⟨_,rfl⟩
end
structure Yx(h:Heap)(x dx C:Addr)(mA:Str->Option Value):Prop where
 obj:h.get? x=some (PySem.W.instObj C dx)
 ns:h.Ns1 dx mA
 ne:dx≠x
theorem V3{h:Heap}{dx:Addr}{mA:Str->Option Value}(n:h.Ns1 dx mA):∃od,h.get? dx=some od/\∀name,PySem.W.lookIn name od=some (mA name):=by
 obtain⟨o,M,Z,T,hd,U,_,hm⟩:=n;refine⟨o,T,fun name=>?_⟩;have e:=hm name;unfold nsFind findBy at e;rw[<-Array.find?_toList]at e;unfold PySem.W.lookIn;rw[hd];dsimp only;split
 .rename_i y q;rw[q]at e;exact bD some e
 .rename_i q;rw[q]at e;have a:M.toList.any (·.refKey)=false:=by
   rw[List.any_eq_false];intro y R;obtain⟨z,t,I⟩:=U y (Array.mem_toList_iff.mp R);simp[DictEntry.refKey,I]
  have Y:¬M.toList.any (·.refKey)=true:=by rw[a];exact aM
  rw[if_neg Y];exact bD some e
theorem Yx.look{h:Heap}{x dx C:Addr}{mA:Str->Option Value}(I:Yx h x dx C mA):∃od,PySem.W.InstAt h x (PySem.W.instObj C dx) C (some od)/\∀name,PySem.W.lookIn name od=some (mA name) :=
 let⟨od,M,R⟩:=V3 I.ns
 ⟨od,⟨I.obj,rfl,rfl,M⟩,R⟩
theorem JV.some_of{v:V}{o:Option Value}(r:JV (some v) o):∃u,o=some u/\RelV v u:=by
 cases o with
 |none=>exact(show False from r).elim
 |some u=>exact⟨u,rfl,r⟩
section
variable{P:Program}{w:World}{H:Hp}{h:Heap}{a C dx:Addr}{fs:List (Str×V)}
theorem Zs(Al:C2 P w H h)(e:H a=some (.ins C dx fs)):∃mA,Yx h a dx C mA/\(∀f,JV (fs.lookup f) (mA f))/\PySem.Within mA (fs.map (·.1))/\fs.length<=1000/\H dx=some (.own a):=by
 obtain⟨d,z,ne,I,mA,n,r,q⟩:=(show Bv P w H h a (.ins C dx fs) from Al a _ e);exact⟨mA,⟨I,n,ne⟩,r,q,z,d⟩
end
structure Tw(K:PySem.W.Frag)(C:Addr):Prop where
 pg:PySem.W.plainGet K C Str.empty=true
 hd:PySem.W.hasDictIn K C=true
 po:PySem.W.plainOver K C=true
 sa:PySem.W.findIn K (.ref C) "__setattr__" = some (some (.builtin "object.__setattr__"))
theorem Tw.get{K:PySem.W.Frag}{C:Addr}(c:Tw K C)(f:Str):PySem.W.plainGet K C f=true:=c.pg
section
variable{X:Cx}{pins:List (Addr×Obj)}{σ:St}{H:Hp}{s:Shared}{A:Around}{E:Value->Shared->Prop}{Q:Value->Shared->Prop}{c:Value}{b:Bool}
inductive GU(K:PySem.W.Frag)(H:Hp):V->Value->Prop where
 |BJ:GU K H .BJ (.type "NoneType")
 |bl (x:Bool):GU K H (.bl x) (.type "bool")
 |int (i:Int):GU K H (.int i) (.type "int")
 |str (x:Str):GU K H (.str x) (.type "str")
 |UY (x:UInt64):GU K H (.UY x) (.type "float")
 |lst {a:Addr} {xs:List V} (e:H a=some (.lst xs)):GU K H (.ref a) (.type "list")
 |Im {a:Addr} {o:Obj} {xs:List V} (e:H a=some (.Im o (.lst xs))):GU K H (.ref a) (.type "list")
 |tup {a:Addr} {xs:List V} (e:H a=some (.tup xs)):GU K H (.ref a) (.type "tuple")
 |dK {a:Addr} {kvs:List (Key×V)} (e:H a=some (.dK kvs)):GU K H (.ref a) (.type "dict")
 |dT {a:Addr} {kvs:List (List Key×V)} (e:H a=some (.dT kvs)):GU K H (.ref a) (.type "dict")
 |ins {a C dx:Addr} {fs:List (Str×V)} (e:H a=some (.ins C dx fs)) (cl:Tw K C) (ha:PySem.W.findIn K (.ref C) "__class__" = some (some (.builtin "object.__class__")))
   (hn:PySem.W.specialIn K (.builtin "object.__class__") "__get__" = some (some (.builtin "getset_descriptor.__get__"))) (htk:PySem.W.takesIn K (.builtin "object.__class__")=some true)
   (hm:PySem.W.mroIn K C (.type "object")=some true):GU K H (.ref a) (.ref C)
theorem Wf{x:V}{u t:Value}(I:Inv X pins σ H s)(M:RelV x u)(ty:GU X.K H x t)(e:PySem.W.kitOne X.K t c=some b)(h:∀tk,Q (.bool b) {s with toks:=tk}) :
  wpAny (model X.prog X.w) A (call (.builtin "isinstance") [u,c]) Q E s:=by
 cases ty with
 |BJ=>cases (show u=Value.none from M);exact bL PySem.W.kitx_none I.HZ True.intro e (fun z=>nomatch z) h
 |bl y=>cases (show u=Value.bool y from M);exact bL PySem.W.kitx_bool I.HZ True.intro e (fun z=>nomatch z) h
 |int i=>obtain⟨t,q⟩:=(show ∃t,u=Value.int i t from M);cases q;exact bL PySem.W.kitx_int I.HZ True.intro e (fun z=>nomatch z) h
 |str y=>obtain⟨t,q⟩:=(show ∃t,u=Value.str y t from M);cases q;exact bL PySem.W.kitx_str I.HZ True.intro e (fun z=>nomatch z) h
 |UY y=>obtain⟨t,q⟩:=(show ∃t,u=Value.float y t from M);cases q;exact bL PySem.W.kitx_float I.HZ True.intro e (fun z=>nomatch z) h
 | @lst a xs R=>
  cases (show u=Value.ref a from M);obtain⟨_,_,n,_,T⟩:=(show Bv X.prog X.w H s.heap a (.lst xs) from I.Al a _ R);exact bL PySem.W.kitx_list I.HZ ⟨_,T,rfl⟩ e (fun z=>nomatch z) h
 | @Im a Y xs R=>
  cases (show u=Value.ref a from M);obtain⟨_,_,_,n,_,T⟩:=(show Bv X.prog X.w H s.heap a (.Im Y (.lst xs)) from I.Al a _ R);exact bL PySem.W.kitx_list I.HZ ⟨_,T,rfl⟩ e (fun z=>nomatch z) h
 | @tup a xs R=>
  cases (show u=Value.ref a from M);obtain⟨_,_,_,p⟩:=(show Bv X.prog X.w H s.heap a (.tup xs) from I.Al a _ R);obtain⟨o,T,U,_⟩:=p;exact bL PySem.W.kitx_tuple I.HZ ⟨o,T,U⟩ e (fun z=>nomatch z) h
 | @dK a kvs R=>
  cases (show u=Value.ref a from M);obtain⟨_,_,vs,_,p⟩:=(show Bv X.prog X.w H s.heap a (.dK kvs) from I.Al a _ R);obtain⟨o,Z,ep,T,U,_⟩:=p;exact bL PySem.W.kitx_dict I.HZ ⟨o,T,U.1⟩ e (fun z=>nomatch z) h
 | @dT a kvs R=>
  cases (show u=Value.ref a from M);obtain⟨_,_,xs,_,o,Z,ep,T,U,_⟩:=(show Bv X.prog X.w H s.heap a (.dT kvs) from I.Al a _ R);exact bL PySem.W.kitx_dict I.HZ ⟨o,T,U.1⟩ e (fun z=>nomatch z) h
 | @ins a C dx fs R cl ha hn htk hm=>
  cases (show u=Value.ref a from M);obtain⟨mA,O,_⟩:=Zs I.Al R;obtain⟨od,J,_⟩:=O.look;exact bL (PySem.W.kitx_own (cl.get _) cl.hd ha hn htk hm) I.HZ J e (fun z=>nomatch z) h
end
structure Dz(k:Nat)(A:Around):Prop where
 hd:A.handled=none
 dp:A.depth+3*k+5<recursionLimit
 un:A.units+16*k+200<cLine
theorem Dz.mono{j k:Nat}{A:Around}(r:Dz k A)(h:j<=k:=by decide):Dz j A:=⟨r.hd,by have:=r.dp;lia,by have:=r.un;lia⟩
theorem Dz.deeper{k:Nat}{A:Around}(r:Dz (k+1) A)(env:Env):Dz k (A.deeper env) :=
 ⟨r.hd,by have:=r.dp;show A.depth+1+3*k+5<_;lia,by have:=r.un;show A.units+3+16*k+200<_;lia⟩
theorem Dz.depth{k:Nat}{A:Around}(r:Dz k A):A.depth<recursionLimit:=by have:=r.dp;lia
theorem Dz.units{k:Nat}{A:Around}(r:Dz k A):A.units+64<cLine:=by have:=r.un;lia
def kE:TA:=fun _ H Q=>Q [] H
def iQ(I:TE)(tr:TA):TA:=fun σ H Q=>I σ H fun x H1=>tr σ H1 fun xs M=>Q (x::xs) M
section
variable{X:Cx}{e:Expr}{es:List Expr}{te:TE}{t:TA}{pos:Pos}
theorem AB:PA X [] kE:=fun _ _ _ _ H Q I h=>Calls.spliced_nil ⟨[],H,I,.nil,h⟩
theorem AA(ha:PE X e te)(Z:PA X es t)(Y:starEach (e::es) X.env=(false,eval e X.env)::starEach es X.env:=by rfl):PA X (e::es) (iQ te t):=by
 intro pos pins s σ H Q I h;rw[Y];show wpAny _ _ (spliced ((false,eval e X.env)::backTo pos (starEach es X.env))) _ _ s;refine Calls.spliced_cons (A5 (ha pins s σ H _ I h) fun u s1 ⟨x,H1,I1,R,U⟩=>?_);exact A5 (Z pos pins s1 σ H1 _ I1 U) fun us s2 ⟨xs,H2,I2,M,T⟩=>⟨x::xs,H2,I2,.cons R M,T⟩
def jS(t:TA):TE:=fun σ H Q=>t σ H fun xs H1=>xs.length<=sizeLine/\∀p,H1 p=none->Q (.ref p) (upd H1 p (.tup xs))
def ja(t:TA):TE:=fun σ H Q=>t σ H fun xs H1=>xs.length<=sizeLine/\∀p,H1 p=none->Q (.ref p) (upd H1 p (.lst xs))
theorem Gf{R}(h:PA X es t):PE X (.Tuple es R pos) (jS t):=by
 intro pins s σ H Q I T;refine wpAny_Tuple_spliced (A5 (h pos pins s σ H _ I T) fun us s1 ⟨xs,H1,M,r,z,q⟩=>⟨by rw[<-r.length];exact z,?_⟩);have U:H1 s1.heap.objs.size=none:=M.Al.fresh (aG _);refine⟨.ref s1.heap.objs.size,upd H1 s1.heap.objs.size (.tup xs),M.laid (t':=s1.toks) (fun b u e=>aD _ e) (aG _) ?_,rfl,q _ U⟩;exact⟨z,us,r,⟨_,Heap.get?_push_size _ rfl,rfl,_,rfl⟩⟩
theorem B8(h:PA X es t):PE X (.List es pos) (ja t):=by
 intro pins s σ H Q I R;refine wpAny_List_spliced (A5 (h pos pins s σ H _ I R) fun us s1 ⟨xs,H1,M,r,z,q⟩=>⟨by rw[<-r.length];exact z,?_⟩);have T:H1 s1.heap.objs.size=none:=M.Al.fresh (aG _);refine⟨.ref s1.heap.objs.size,upd H1 s1.heap.objs.size (.lst xs),M.laid (t':=s1.toks) (fun b u e=>aD _ e) (aG _) ?_,rfl,q _ T⟩;exact⟨z,us,0,r,Heap.get?_push_size _ rfl⟩
end
abbrev Sp:=List V->Hp->VK->XK->Prop
abbrev IE:=List Env->Hp->Shared->XK->Value->Shared->Prop
structure VX(P:Program)(w:World)(K:PySem.W.Frag)(mg:Str->Option Value)(base:Heap)(A:Around)(outer:List Env)(s:Shared)(H:Hp):Prop where
 frames:A.frames=some outer
 mod:Mod K mg base
 bs:∀b o,base.get? b=some o->s.heap.get? b=some o/\H b=none
 QJ:base.objs.size<=s.heap.objs.size
 JR:s.heap.FunFrames base outer
 T1:∀b∈K5 outer,H b=none
 Al:C2 P w H s.heap
 bare:AllBare s.gens
 kt:KTb mg H
def CE(outer:List Env)(P:Program)(w:World)(H:Hp)(s:Shared)(Q:VK)(u:Value)(s':Shared):Prop :=
 ∃v H',s'.os=s.os/\AllBare s'.gens/\Un (K5 outer) [] H H' s.heap s'.heap/\C2 P w H' s'.heap/\RelV v u/\Q v H'
def CR(CX:IE)(outer:List Env)(P:Program)(w:World)(H:Hp)(s:Shared)(Q:VK)(E:XK)(r:Result)(s':Shared):Prop :=
 match r with
 |.ok (.ret u)=>CE outer P w H s Q u s'
 |.ok _=>False
 |.error e=>CX outer H s E e s'
structure AM(P:Program)(w:World)(K:PySem.W.Frag)(mg:Str->Option Value)(base:Heap)(CX:IE)(k:Nat)(f:Addr)(fd:FuncData)(ps:List Str)(sp:Sp):Prop where
 len:∀vs H Q E,sp vs H Q E->vs.length=ps.length
 run:∀(A:Around) (outer:List Env) (s:Shared) (H:Hp) (args:Args) (us:List Value) (vs:List V) (Q:VK) (E:XK),Dz k A->VX P w K mg base A outer s H->BindsTo s fd args (ps.zip us)->Vals vs us->sp vs H Q E ->
  codeAny (model P w) A (.call (.ref f) args) (CR CX outer P w H s Q E) s
theorem AM.mono{P:Program}{w:World}{K:PySem.W.Frag}{mg:Str->Option Value}{base:Heap}{CX:IE}{j k:Nat}{f:Addr}{fd:FuncData}{ps:List Str}{sp:Sp}(F:AM P w K mg base CX j f fd ps sp)(h:j<=k:=by decide) :
  AM P w K mg base CX k f fd ps sp:=⟨F.len,fun A outer s H args us vs Q E I=>F.run A outer s H args us vs Q E (I.mono h)⟩
theorem AM.imp{P:Program}{w:World}{K:PySem.W.Frag}{mg:Str->Option Value}{base:Heap}{CX:IE}{k:Nat}{f:Addr}{fd:FuncData}{ps:List Str}{sp I:Sp}(F:AM P w K mg base CX k f fd ps sp)
 (h:∀vs H Q E,I vs H Q E->sp vs H Q E):AM P w K mg base CX k f fd ps I :=
 ⟨fun vs H Q E q=>F.len vs H Q E (h _ _ _ _ q),fun A outer s H args us vs Q E T U Y M R=>F.run A outer s H args us vs Q E T U Y M (h _ _ _ _ R)⟩
section
variable{X:Cx}{pins:List (Addr×Obj)}{σ:St}{H:Hp}{s s':Shared}
theorem Inv.jW(I:Inv X pins σ H s):VX X.prog X.w X.K X.mg X.base X.A X.stack s H :=
 ⟨I.ok.frames,I.ok.mod,I.bs,Nat.le_trans I.ok.QJ I.sz,I.stack,I.UE,I.Al,I.bare,I.kt⟩
theorem Inv.after{Q:VK}{u:Value}(I:Inv X pins σ H s)(h:CE X.stack X.prog X.w H s Q u s'):EP X pins σ Q u s':=by
 obtain⟨v,H',os,bare,un,Al,r,q⟩:=h;obtain⟨R,g,d,t,M⟩:=s';obtain rfl:M=s.os:=os;exact⟨v,H',I.call (h':=R) (g':=g) (d':=d) (t':=t) (ch:=[]) un Al bare (fun b z=>absurd z (by simp)),r,q⟩
end
def ZZ(sp:Sp)(I:List V)(E:XK)(t:TA):TE:=fun σ H Q=>t σ H fun vs H1=>sp (vs++I) H1 Q E
def Binds(K:PySem.W.Frag)(fd:FuncData)(ps:List Str)(ds:List Value):Prop :=
 ∀(s:Shared) (us:List Value),K.In s.heap->(us++ds).length=ps.length->BindsTo s fd ⟨us,[]⟩ (ps.zip (us++ds))
theorem Binds.all{K:PySem.W.Frag}{fd:FuncData}{ps:List Str}(h:∀us:List Value,us.length=ps.length->bindArgs fd ⟨us,[]⟩=pure (ps.zip us)):Binds K fd ps []:=fun s us _ I=>by
 rw[List.append_nil]at I ⊢;exact .of_eq (h us I)
def Passes(CX:IE)(X:Cx)(E:XK):Prop:=∀(pins:List (Addr×Obj)) (σ:St) (H:Hp) (s:Shared) (e:Value) (I:Shared),Inv X pins σ H s->CX X.stack H s E e I->X.xe e I
section
variable{X:Cx}{CX:IE}{k:Nat}{f:Addr}{fd:FuncData}{ps:List Str}{sp:Sp}{dvs:List V}{ds:List Value}{E:XK}{x:Str}{p pos:Pos}{e:Expr}{es:List Expr}{t:TA}
theorem fw{pins:List (Addr×Obj)}{σ:St}{H:Hp}{s:Shared}{Q:VK}{us:List Value}{vs:List V}(F:AM X.prog X.w X.K X.mg X.base CX k f fd ps sp)(Y:Dz k X.A)(hb:Binds X.K fd ps ds)(hd:Vals dvs ds)(U:Passes CX X E)
 (I:Inv X pins σ H s)(r:Vals vs us)(h:sp (vs++dvs) H Q E):wpAny (model X.prog X.w) X.A (call (.ref f) us) (EP X pins σ Q) X.xe s:=by
 have R:Vals (vs++dvs) (us++ds):=r.append hd;have Z:(us++ds).length=ps.length:=by rw[<-R.length];exact F.len _ _ _ _ h
 refine wpAny_call (codeAny_mono (F.run X.A X.stack s H ⟨us,[]⟩ (us++ds) (vs++dvs) Q E Y I.jW (hb s us I.HZ Z) R h) fun r T M=>?_);cases r with
 |error e=>exact U pins σ H s e T I M
 |ok fl=>
  cases fl with
  |ret u=>exact I.after M
  |next=>exact False.elim M
  |brk=>exact False.elim M
  |cont=>exact False.elim M
theorem Zf(F:AM X.prog X.w X.K X.mg X.base CX k f fd ps sp)(Y:Dz k X.A)(hg:Gl X x)(hm:X.mg x=some (.ref f))(Z:PySem.W.keepIn X.K (.ref f)=true)(hb:Binds X.K fd ps ds)(hd:Vals dvs ds)(U:Passes CX X E)
 (ha:PA X (e::es) t)(R:(x==("__debug__" : Str))=false:=by decide)(he:starEach (e::es) X.env=(false,eval e X.env)::starEach es X.env:=by rfl)(M:(backTo pos (starEach es X.env)).any (·.1)=false:=by rfl) :
  PE X (.Call (.Name x p) (e::es) [] pos) (ZZ sp dvs E t):=by
 intro pins s σ H Q I h;refine wpAny_Call_Name_kw (Ul I hg hm ?_ R);refine PySem.W.callWith_K (h₀:=X.base) I.ok.mod.ej Z (A5 (ha pos pins s σ H _ I h) fun us s1 ⟨vs,H1,T,r,q⟩=>⟨T.HZ,?_⟩) he M;exact fw F Y hb hd U T r q
end
structure Ab(N P:List Str)(sc:Scope):Prop where
 kind:sc.kind=.function
 co:sc.isCoroutine=false
 gen:sc.isGenerator=false
 nd:N.Nodup
 pre:N.take P.length=P
 par:∀x∈P,sc.names.lookup x=some .local\/sc.names.lookup x=some .cell
 fX:∀y∈sc.names,y.2≠.free
theorem QK{kindOf:Str->Option NameKind}{x:Str}:∀ {binds:List (Str×Value)} {m:Str->Option Value},(∀v,(x,v) ∉ binds)->bindL kindOf binds m x=m x
 |[],_,_=>rfl
 |(n,v)::r,m,h=>by
  unfold bindL;rw[QK fun w I=>h w (aV _ I)];split
  .have:x≠n:=by rintro rfl;exact h v ag
   simp[this]
  .rfl
theorem QN{kindOf:Str->Option NameKind}{x:Str}:∀ {binds:List (Str×Value)} {m:Str->Option Value},(∀v,(x,v) ∉ binds)->bindC kindOf binds m x=m x
 |[],_,_=>rfl
 |(n,v)::r,m,h=>by
  unfold bindC;rw[QN fun w I=>h w (aV _ I)];split
  .rfl
  .have:x≠n:=by rintro rfl;exact h v ag
   simp[this]
theorem QE{kindOf:Str->Option NameKind}{x:Str}{v:Value}:∀ {P:List Str} {vs:List Value} {i:Nat} {m:Str->Option Value},P.Nodup->P[i]? = some x->vs[i]? = some v->kindOf x=some .local ->
  bindL kindOf (P.zip vs) m x=some v
 |[],_,_,_,_,h,_,_=>by simp at h
 |_::_,[],_,_,_,_,h,_=>by simp at h
 |p::P,w::vs,0,m,nd,M,I,R=>by
  simp at M I;subst M;subst I;show bindL kindOf ((p,w)::P.zip vs) m p=_;unfold bindL;rw[QK fun v T=>(bo.mp nd).1 (List.of_mem_zip T).1,if_pos R];simp
 |p::P,w::vs,i+1,m,nd,M,I,R=>by
  show bindL kindOf ((p,w)::P.zip vs) m x=_;unfold bindL;exact QE (i:=i) (bo.mp nd).2 (by simpa using M) (by simpa using I) R
theorem QD{kindOf:Str->Option NameKind}{x:Str}{v:Value}:∀ {P:List Str} {vs:List Value} {i:Nat} {m:Str->Option Value},P.Nodup->P[i]? = some x->vs[i]? = some v->kindOf x≠some .local ->
  bindC kindOf (P.zip vs) m x=some v
 |[],_,_,_,_,h,_,_=>by simp at h
 |_::_,[],_,_,_,_,h,_=>by simp at h
 |p::P,w::vs,0,m,nd,M,I,R=>by
  simp at M I;subst M;subst I;show bindC kindOf ((p,w)::P.zip vs) m p=_;unfold bindC;rw[QN fun v T=>(bo.mp nd).1 (List.of_mem_zip T).1,if_neg R];simp
 |p::P,w::vs,i+1,m,nd,M,I,R=>by
  show bindC kindOf ((p,w)::P.zip vs) m x=_;unfold bindC;exact QD (i:=i) (bo.mp nd).2 (by simpa using M) (by simpa using I) R
def start(N:List Str)(vs:List V):St:=vs.map some++List.replicate (N.length-vs.length) none
def Lx(CX:IE)(P:Program)(w:World)(K:PySem.W.Frag)(mg:Str->Option Value)(base:Heap)(N:List Str)(qual:Str)(scope:Scope)(f:Addr)(cd:Value)(A:Around)(outer:List Env)(s:Shared)(H:Hp)(E:XK):Cx where
 prog:=P
 w:=w
 K:=K
 mg:=mg
 base:=base
 A:=A.deeper (envOfC qual scope s.heap.objs.size f cd)
 N:=N
 s₀:=s
 H₀:=H
 env:=envOfC qual scope s.heap.objs.size f cd
 outer:=outer
 stack:=envOfC qual scope s.heap.objs.size f cd::outer
 ex:=[]
 calm:=true
 fn:=fun _=>true
 pn:=[]
 xe:=fun e s'=>wpAny (model P w) (A.deeper (envOfC qual scope s.heap.objs.size f cd)) (leaving (envOfC qual scope s.heap.objs.size f cd) e) (fun _ s''=>CX outer H s E e s'') (fun e' s''=>CX outer H s E e' s'') s'
theorem RM{sc:Scope}{n:Nat}{x:Str}(h:sc.names.lookup x=some .cell):∃c,(cellsFrom n sc.names []).lookup x=some c:=by
 have q:=PySem.W.cellsFrom_some sc.names n [] (.inl h);exact Option.isSome_iff_exists.mp q
theorem V6{CX:IE}{P:Program}{w:World}{K:PySem.W.Frag}{mg:Str->Option Value}{base:Heap}{N ps:List Str}{qual:Str}{scope:Scope}{f:Addr}{cd:Value}{A:Around}{outer:List Env}{s s1:Shared}{H:Hp}{E:XK}{us:List Value}{vs:List V}
 (S:Ab N ps scope)(hd:A.handled=none)(M:VX P w K mg base A outer s H)(hl:vs.length=ps.length)(r:Vals vs us)
 (x:InCallC s s.heap.objs.size (bindL (envOfC qual scope s.heap.objs.size f cd).kindOf (ps.zip us) fun _=>none) (cellsFrom (s.heap.objs.size+1) scope.names []) (bindC (envOfC qual scope s.heap.objs.size f cd).kindOf (ps.zip us) fun _=>none) s1) :
  Inv (Lx CX P w K mg base N qual scope f cd A outer s H E) [] (start N vs) H s1:=by
 have hpl:ps.length<=N.length:=by have:=bD List.length S.pre;rw[List.length_take]at this;lia
 obtain⟨Z,tk,rfl,hk⟩:=x.done;have R:∀b:Addr,b ∉ (Lx CX P w K mg base N qual scope f cd A outer s H E).ex:=fun b z=>absurd (show b∈([]:List Addr) from z) (by simp);refine⟨⟨M.mod,S.kind,rfl,rfl,Nat.le_refl _,fun y z c Z I=>?_,fun y T=>?_,fun y c _ h=>?_,fun _=>hd,Around.frames_deeper M.frames,.inr ⟨rfl,rfl⟩,fun b z=>absurd z (R b),M.bs,M.QJ,fun b _ _=>R b,fun b z=>absurd z (R b),M.JR,M.T1,M.kt⟩,
  rfl,M.bare,Un.kept hk,⟨_,x.toInCall.ns,fun i y v Z I h3=>?_⟩,fun y c h=>⟨_,x.cell y c h⟩,M.Al.fresh (aG _),fun y c h=>?_,fun p Y=>absurd (show p∈([]:List (Addr×Obj)) from Y) (by simp),M.Al.kept hk,?_⟩
 .exact name_of_addr x.apart (PySem.mem_of_lookup Z) (PySem.mem_of_lookup I)
 .have T:scope.names.lookup y=some .cell\/scope.names.lookup y=some .free:=T;rcases T with T|T
  .exact RM T
  .exact absurd rfl (S.fX _ (PySem.mem_of_lookup T))
 .exact bP (x.above y c (PySem.mem_of_lookup h))
 .have hi:i<vs.length:=by
   unfold start at I;by_cases hi:i<vs.length
   .exact hi
   .rw[List.getElem?_append_right (by simpa using hi)]at I;rw[List.getElem?_replicate]at I;split at I<;>cases I
  have ha:vs[i]? = some v:=by
   unfold start at I;rw[List.getElem?_append_left (by simpa using hi),List.getElem?_map]at I;cases e:vs[i]? with
   |none=>rw[e]at I;cases I
   |some a=>rw[e]at I;cases I;rfl
  obtain⟨u,hu,rv⟩:=r.get ha;have Y:ps[i]? = some y:=by
   rw[<-S.pre,List.getElem?_take_of_lt (by lia)];exact Z
  have U:ps.Nodup:=by rw[<-S.pre];exact S.nd.sublist (List.take_sublist _ _)
  refine⟨u,rv,?_⟩;rcases S.par y (aJ Y) with k|k
  .exact .inl ⟨k,QE U Y hu k⟩
  .obtain⟨c,e⟩:=RM (n:=s.heap.objs.size+1) k;refine .inr ⟨.inl k,c,e,?_⟩;have q:=x.cell y c e;rw[QD U Y hu (by show scope.names.lookup y≠_;rw[k];decide)]at q;exact q
 .exact M.Al.fresh (bP (x.above y c (PySem.mem_of_lookup h)))
 .unfold start;show _=N.length;rw[List.length_append,List.length_map,List.length_replicate]
  lia
theorem gj{CX:IE}{P:Program}{w:World}{K:PySem.W.Frag}{mg:Str->Option Value}{base:Heap}{k:Nat}{f:Addr}{name qual:Str}{params:Arguments}{M:List Stmt}{scope:Scope}{dV kV doc pm cdv ct oc:Value}{an od:Option Addr}
 {osl:Array (Option Value)}{N ps:List Str}{sp:Sp}(lk:K.lookup f=some ⟨oc,od,.func (PySem.W.fnOf name qual params M scope dV kV doc pm an cdv ct),osl⟩)(hcd:PySem.W.codeIn K cdv qual=true)(S:Ab N ps scope)
 (len:∀vs H Q E,sp vs H Q E->vs.length=ps.length)
 (U:∀(A:Around) (outer:List Env) (s:Shared) (H:Hp) (vs:List V) (Q:VK) (E:XK),Dz k (A.deeper (envOfC qual scope s.heap.objs.size f cdv))->sp vs H Q E ->
   ∃t,Ij (Lx CX P w K mg base N qual scope f cdv A outer s H E) M t/\t { nx:=fun _ H'=>Q .BJ H',rt:=Q} (start N vs) H) :
  AM P w K mg base CX (k+1) f (PySem.W.fnOf name qual params M scope dV kV doc pm an cdv ct) ps sp:=by
 refine⟨len,fun A outer s H args us vs Q E hr e0 hb r Z=>?_⟩;have hl:=len _ _ _ _ Z;have KX:K.In s.heap:=e0.mod.ej.keeps fun b o e=>(e0.bs b o e).1;have lim:s.heap.NoLimit:=e0.mod.nolimit.keeps fun b o e=>(e0.bs b o e).1;have T:∀y∈ps.zip us,scope.names.lookup y.1=some .local\/(scope.names.lookup y.1=some .cell/\((cellsFrom (s.heap.objs.size+1) scope.names []).lookup y.1).isSome=true):=fun⟨n,v⟩ hy=>by
  rcases S.par n (List.of_mem_zip hy).1 with q|q
  .exact .inl q
  .exact .inr ⟨q,PySem.W.cellsFrom_some _ _ _ (.inl q)⟩
 refine codeAny_call_function hr.depth (KX _ _ lk) rfl S.co S.gen rfl (PySem.W.codeRec_of KX hcd) (hb _ _ _ _ ?_);refine wpAny_newFunctionEnv_cells S.kind T fun env he s1 x=>?_;subst he;refine⟨lim.keeps x.toInCall.keep,codeAny_func ?_⟩;obtain⟨t,ht,hq⟩:=U A outer s H vs Q E (hr.deeper _) Z;have I:Inv (Lx CX P w K mg base N qual scope f cdv A outer s H E) [] (start N vs) H s1:=V6 S hr.hd e0 hl r x;refine aj (ht [] s1 (start N vs) H _ I hq) (fun fl s' Y=>?_) fun e s' Y=>Y;have fin:∀ {R:St} {H':Hp} {v:V} {u:Value},Inv (Lx CX P w K mg base N qual scope f cdv A outer s H E) [] R H' s'->RelV v u->Q v H'->CE outer P w H s Q u s' :=
  fun {R H' v u} J rv q=>⟨v,H',J.os,J.bare,J.base,J.Al,rv,q⟩
 cases fl with
 |ret u=>
  obtain⟨v,R,H',J,rv,q⟩:=Y;exact fin J rv q
 |next=>
  obtain⟨R,H',J,q⟩:=Y;exact fin (v:=V.BJ) (u:=Value.none) J rfl q
 |brk=>
  obtain⟨_,_,_,q⟩:=Y;exact False.elim q
 |cont=>
  obtain⟨_,_,_,q⟩:=Y;exact False.elim q
section
variable{X:Cx}{x:Str}{p pos:Pos}{e:Expr}{es:List Expr}{t:TA}{id T:String}{r:List V->Hp->VK->Prop}
def i7(r:List V->Hp->VK->Prop)(t:TA):TE:=fun σ H Q=>t σ H fun vs H1=>r vs H1 Q
theorem Ai(hc:FH X (.builtin id) r)(hg:Gl X x)(hm:X.mg x=none)(Z:bootBuiltins x=some (.builtin id))(ha:PA X (e::es) t)(hn:x ≠ "__name__":=by decide)(R:(x==("__debug__" : Str))=false:=by decide)
 (he:starEach (e::es) X.env=(false,eval e X.env)::starEach es X.env:=by rfl)(M:(backTo pos (starEach es X.env)).any (·.1)=false:=by rfl):PE X (.Call (.Name x p) (e::es) [] pos) (i7 r t):=by
 intro pins s σ H Q I h;refine wpAny_Call_Name_kw (FC I hg hm Z ?_ hn R);exact PyProof.Rows.callWith_builtin1 (A5 (ha pos pins s σ H _ I h) fun us s1 ⟨vs,H1,I1,U,Y⟩=>hc pins s1 σ H1 vs us Q I1 U Y) he M
theorem Hh(hc:FH X (.type T) r)(hg:Gl X x)(hm:X.mg x=none)(Z:bootBuiltins x=some (.type T))(ha:PA X (e::es) t)(hn:x ≠ "__name__":=by decide)(R:(x==("__debug__" : Str))=false:=by decide)
 (he:starEach (e::es) X.env=(false,eval e X.env)::starEach es X.env:=by rfl)(M:(backTo pos (starEach es X.env)).any (·.1)=false:=by rfl):PE X (.Call (.Name x p) (e::es) [] pos) (i7 r t):=by
 intro pins s σ H Q I h;refine wpAny_Call_Name_kw (FC I hg hm Z ?_ hn R);exact bM (A5 (ha pos pins s σ H _ I h) fun us s1 ⟨vs,H1,I1,U,Y⟩=>hc pins s1 σ H1 vs us Q I1 U Y) he M
end
end L2
namespace HT
open PySem PyProof.Rows
section
variable{prog:Program}{w:World}{A:Around}{E:Value->Shared->Prop}{s:Shared}
theorem Z2{t b:Addr}{vs I:List Value}{Q:Value->Shared->Prop}(ht:IsTup s.heap t vs.toArray)(hb:IsTup s.heap b I.toArray)(hv:vs≠[])
 (h1:I=[]->Q (.ref t) s)(h2:I≠[]->Q (.ref s.heap.objs.size) {s with heap:=s.heap.push { cls:=.type "tuple",data:=.seq (vs++I).toArray} })
 (hsz:vs.length+I.length<=sizeLine):wpAny (model prog w) A (binaryOp .Add (.ref t) (.ref b)) Q E s:=by
 obtain⟨⟨cls,dd,data,sl⟩,ho,hc,n,hd⟩:=id ht;obtain⟨⟨cls2,Y,data2,R⟩,M,U,n2,T⟩:=id hb;simp only at hc hd U T;subst hc hd U T;have e:vs.toArray++I.toArray=(vs++I).toArray:=by simp
 by_cases Z:I=[]
 .exact concat_meets ⟨_,ho,rfl⟩ ⟨_,M,rfl⟩ noFill_tuple_add seq_tuple_add PySem.F.slot_tuple_add PySem.F.entry_tuple_add (PySem.F.args_tuple_add_2 _ _)
   (tuple_addW1 t b vs.toArray I.toArray n n2 dd Y sl R (by simpa using hv) (by simp[Z])) ⟨ho,M,h1 Z⟩
 .refine concat_meets ⟨_,ho,rfl⟩ ⟨_,M,rfl⟩ noFill_tuple_add seq_tuple_add PySem.F.slot_tuple_add PySem.F.entry_tuple_add (PySem.F.args_tuple_add_2 _ _)
   (tuple_addW2 t b vs.toArray I.toArray n n2 dd Y sl R (by simpa using hv) (by simpa using Z) (by rw[List.size_toArray,List.size_toArray];exact hsz)) ⟨ho,M,?_⟩
  rw[e];exact h2 Z
def BC(n d:Nat):Option Int->Nat
 |none=>d
 |some v=>if v<0 then(v+(n:Int)).toNat else min v.toNat n
theorem Ki(n d:Nat):BC n d none=d:=rfl
theorem Ib(n d k:Nat):BC n d (some (k:Int))=min k n:=by
 show(if(k:Int)<0 then((k:Int)+(n:Int)).toNat else min (k:Int).toNat n)=min k n;rw[if_neg (by lia),Int.toNat_natCast]
theorem gK(n d:Nat)(hd:d<=n)(o:Option Int):BC n d o<=n:=by
 cases o with
 |none=>exact hd
 |some v=>
  show(if v<0 then(v+(n:Int)).toNat else min v.toNat n)<=n;by_cases I:v<0
  .rw[if_pos I];lia
  .rw[if_neg I];exact Nat.min_le_right _ _
theorem UH(v:Int)(n d:Nat):(if v<0 then max (v+(n:Int)) 0 else min v (n:Int))=((BC n d (some v):Nat):Int):=by
 show(if v<0 then max (v+(n:Int)) 0 else min v (n:Int))=(((if v<0 then(v+(n:Int)).toNat else min v.toNat n):Nat):Int);by_cases I:v<0
 .simp only[if_pos I];lia
 .simp only[if_neg I];lia
theorem Vj(lo hi:Option Int)(n:Nat):Builtin.Slice.sliceAdjust lo hi 1 (n:Int)=(((BC n 0 lo:Nat):Int),((BC n n hi:Nat):Int)):=by
 have I:¬((1:Int)<0):=by lia
 unfold Builtin.Slice.sliceAdjust;simp only[I,if_false];refine Prod.ext ?_ ?_
 .cases lo with
  |none=>rfl
  |some v=>exact UH v n 0
 .cases hi with
  |none=>rfl
  |some v=>exact UH v n n
theorem Vo(i j:Nat):Builtin.Slice.slicePlaces (i:Int) (j:Int) 1=j-i:=by
 unfold Builtin.Slice.slicePlaces;have I:(1:Int) > 0:=by lia
 simp only[I,if_true,Int.ediv_one];split<;>lia
theorem OE{v:Value}{o:Option Int}{Q:Option Int->Shared->Prop}(p:IsPart v o)(h:Q o s):wpAny (model prog w) A (Builtin.Slice.slicePartIndex v) Q E s:=by
 cases p with
 |none=>exact slicePart_none h
 |int i t=>exact slicePart_int h
theorem NM{sl:Addr}{T R:Value}{lo hi:Option Int}{n:Nat}{Q:Int×Int×Nat->Shared->Prop}(Z:s.heap.IsSliceOf sl T R .none)(Y:IsPart T lo)(U:IsPart R hi)
 (h:Q (((BC n 0 lo:Nat):Int),1,BC n n hi-BC n 0 lo) s):wpAny (model prog w) A (Builtin.Slice.sliceApplied (.ref sl) (pure (n:Int))) Q E s:=by
 obtain⟨os,I,hcs,M⟩:=id Z;unfold Builtin.Slice.sliceApplied Builtin.Slice.sliceFields;refine aA (aA (aq I M (x:=T) rfl (aA (aq I M (x:=R) rfl (aA (aq I M (x:=.none) rfl (aC ?_)))))));refine aA (slicePart_none ?_);show wpAny _ _ (if((1:Int)==0)=true then _ else _) _ _ s;rw[if_neg (by decide)];refine aA (OE Y (aA (OE U (aA (aC ?_)))));show wpAny _ _ (match Builtin.Slice.sliceAdjust lo hi 1 (n:Int) with|(lo,hi)=>pure (lo,(1:Int),Builtin.Slice.slicePlaces lo hi 1)) _ _ s;rw[Vj lo hi n];show wpAny _ _ (pure (((BC n 0 lo:Nat):Int),(1:Int),Builtin.Slice.slicePlaces ((BC n 0 lo:Nat):Int) ((BC n n hi:Nat):Int) 1)) _ _ s;rw[Vo];exact aC h
theorem X5(xs:Array Value)(i k:Nat):((List.range k).filterMap fun(m:Nat)=>xs[((i:Int)+(m:Int)*1).toNat]?).toArray=((xs.toList.drop i).take k).toArray:=by
 have e:(fun(m:Nat)=>xs[((i:Int)+(m:Int)*1).toNat]?)=fun m=>xs[i+m]? := by
  funext m
  have:((i:Int)+(m:Int)*1).toNat=i+m:=by lia
  rw[this]
 rw[e];have:=pick_run xs i k;rw[List.filterMap_map]at this;have I:((fun x=>xs[x]?) ∘ fun x=>i+x)=fun m=>xs[i+m]?:=rfl;rw[I]at this;rw[this]
theorem Me{t sl:Addr}{items:Array Value}{vl Z:Value}{lo hi:Option Int}{Q:Value->Shared->Prop}(M:IsTup s.heap t items)(hs:s.heap.IsSliceOf sl vl Z .none)(pl:IsPart vl lo)(pu:IsPart Z hi)
 (hw:¬(BC items.size 0 lo=0/\BC items.size items.size hi=items.size))
 (h:Q (.ref s.heap.objs.size) {s with heap:=s.heap.push { cls:=.type "tuple",data:=.seq ((items.toList.drop (BC items.size 0 lo)).take (BC items.size items.size hi-BC items.size 0 lo)).toArray} })
 (hsz:items.size<=sizeLine):wpAny (model prog w) A (getItem (.ref t) (.ref sl)) Q E s:=by
 have I:sizeOk (.seq ((items.toList.drop (BC items.size 0 lo)).take (BC items.size items.size hi-BC items.size 0 lo)).toArray):=by
  show((items.toList.drop (BC items.size 0 lo)).take (BC items.size items.size hi-BC items.size 0 lo)).toArray.size<=sizeLine;rw[List.size_toArray,List.length_take,List.length_drop,Array.length_toList]
  lia
 have hj:BC items.size items.size hi<=items.size:=gK _ _ (aG _) hi;obtain⟨os,R,U,hds⟩:=id hs;have Y:s.TypeIs (.ref sl) "slice" := ⟨os,R,U⟩;unfold getItem
 try with_reducible refine bQ ?_
 first|refine aA (aC ?_)|skip
 refine aA (wpAny_sequenceKey M.typeIs (by decide) ?_);refine aA (au (name:=Str.ofString "__getitem__") M.typeIs PyProof.Rows.slot_tuple_getitem
  (bA PyProof.Rows.slot_tuple_getitem M.typeIs entry_tuple_getitem ?_ (args_tuple_getitem _ _)))
 show wpAny _ _ (Builtin.Tuple.tupleItemsOf (.ref t)>>=_) _ _ s;refine aA (tupleItemsOf_ M ?_);refine aA (wpAny_typeOf Y ?_);rw[if_pos (by decide)];refine aA (NM hs pl pu ?_);have T:¬((((BC items.size 0 lo:Nat):Int)==0&&(1:Int)==1&&(BC items.size items.size hi-BC items.size 0 lo)==items.size)=true):=by
  intro q;rw[Bool.and_eq_true,Bool.and_eq_true]at q;have q1:((BC items.size 0 lo:Nat):Int)=0:=eq_of_beq q.1.1;have q2:BC items.size items.size hi-BC items.size 0 lo=items.size:=eq_of_beq q.2;exact hw ⟨by lia,by lia⟩
 show wpAny _ _ (if(((BC items.size 0 lo:Nat):Int)==0&&(1:Int)==1&&(BC items.size items.size hi-BC items.size 0 lo)==items.size)=true then _ else _) _ _ s;rw[if_neg T,X5]
 first
  |exact aA (m:=Builtin.Tuple.tupleExact _) (aZ (aC ⟨_,rfl,wpAny_pure h⟩) I)
  |exact aA (m:=Builtin.Tuple.tupleExact _) (aZ (aA (aC (aC ⟨_,rfl,wpAny_pure h⟩))) I)
  |exact aA (aA (m:=Builtin.Tuple.tupleExact _) (aZ (aC (aC ⟨_,rfl,wpAny_pure h⟩)) I))
  |exact aA (aA (m:=Builtin.Tuple.tupleExact _) (aZ (aC ⟨_,rfl,wpAny_pure h⟩) I))
end
end HT
namespace L2
open PySem PySem.Spec PyProof.Rows
abbrev TO:=St->Hp->(Option Int->Hp->Prop)->Prop
def PO(X:Cx)(e:Option Expr)(t:TO):Prop :=
 ∀(pins:List (Addr×Obj)) (s:Shared) (σ:St) (H:Hp) (Q:Option Int->Hp->Prop),Inv X pins σ H s->t σ H Q ->
  wpAny (model X.prog X.w) X.A (evalPart e X.env) (fun u I=>∃o H',Inv X pins σ H' I/\IsPart u o/\Q o H') X.xe s
def cN:TO:=fun _ H Q=>Q none H
def iJ(t:TE):TO:=fun σ H Q=>t σ H fun x H1=>∃i,x=.int i/\Q (some i) H1
theorem intsAre_of{ns:List Int}:∀ {us:List Value},Vals (ns.map V.int) us->IntsAre us ns:=by
 induction ns with
 |nil=>intro us r;rw[List.map_nil]at r;cases r;exact .nil
 |cons n ns R=>
  intro us r;rw[List.map_cons]at r;cases r with
  |cons M I=>
   obtain⟨t,e⟩:=M;subst e;exact .cons n t (R I)
section
variable{X:Cx}{e:Expr}{te:TE}{lo hi:Option Expr}{tl th:TO}{pos p2:Pos}
theorem Ih:PO X none cN:=by
 intro pins s σ H Q I h;rw[evalPart_none];exact aC ⟨none,H,I,.none,h⟩
theorem Ig(h:PE X e te):PO X (some e) (iJ te):=by
 intro pins s σ H Q I T;rw[evalPart_some];refine A5 (h pins s σ H _ I T) fun u s1 ⟨x,H1,U,M,R⟩=>?_;obtain⟨i,rfl,q⟩:=R;obtain⟨t,rfl⟩:=M;exact⟨some i,H1,U,.int i t,q⟩
def RQ(X:Cx)(r:V->Option Int->Option Int->Hp->VK->Prop):Prop :=
 ∀(pins:List (Addr×Obj)) (s:Shared) (σ:St) (H:Hp) (x:V) (v M I:Value) (lo hi:Option Int) (sl:Addr) (Q:VK),Inv X pins σ H s->RelV x v->s.heap.IsSliceOf sl M I .none->IsPart M lo->IsPart I hi->r x lo hi H Q ->
  ∃T id,typeLookup (.type T) "__getitem__" = pure (some (.builtin id))/\s.TypeIs v T/\wpAny (model X.prog X.w) X.A (getItem v (.ref sl)) (EP X pins σ Q) X.xe s
theorem RQ.or{r U:V->Option Int->Option Int->Hp->VK->Prop}(h:RQ X r)(h':RQ X U):RQ X (fun x lo hi H Q=>r x lo hi H Q\/U x lo hi H Q):=by
 intro pins s σ H x v R M lo hi sl Q I T hs Z Y q;rcases q with q|q
 .exact h pins s σ H x v R M lo hi sl Q I T hs Z Y q
 .exact h' pins s σ H x v R M lo hi sl Q I T hs Z Y q
def kj(r:V->Option Int->Option Int->Hp->VK->Prop)(te:TE)(tl th:TO):TE:=fun σ H Q=>te σ H fun x H1=>tl σ H1 fun l M=>th σ M fun u I=>r x l u I Q
theorem Gz{r:V->Option Int->Option Int->Hp->VK->Prop}(hr:RQ X r)(he:PE X e te)(hl:PO X lo tl)(hu:PO X hi th):PE X (.Subscript e (.Slice lo hi none p2) pos) (kj r te tl th):=by
 intro pins s σ H Q I h;refine Subscript_ (A5 (he pins s σ H _ I h) fun v s1 ⟨x,H1,I1,Y,q1⟩=>?_);refine wpAny_Slice (A5 (hl pins s1 σ H1 _ I1 q1) fun R s2 ⟨l,H2,I2,pl,q2⟩=>A5 (hu pins s2 σ H2 _ I2 q2) fun M s3 ⟨u,U,I3,pu,Z⟩=>?_);rw[evalPart_none];refine aC ?_;have I4:Inv X pins σ U {s3 with heap:=s3.heap.push { cls:=.type "slice",data:=.fields #[R,M,.none]} }:=I3.kept (t':=s3.toks) fun b ob q=>aD _ q;obtain⟨T,id,hT,ht,hg⟩:=hr pins {s3 with heap:=s3.heap.push { cls:=.type "slice",data:=.fields #[R,M,.none]} } σ U x v R M l u s3.heap.objs.size Q I4 Y (Heap.IsSliceOf.new ..) pl pu Z;show wpAny (model X.prog X.w) X.A (subscriptTail e (.Slice lo hi none p2) v (.ref s3.heap.objs.size)) (EP X pins σ Q) X.xe {s3 with heap:=s3.heap.push { cls:=.type "slice",data:=.fields #[R,M,.none]} };exact tail_any (ops:=[.ref s3.heap.objs.size,v]) ht hT hg (by with_unfolding_all rfl)
def B6(xs:List V)(lo hi:Option Int):List V:=(xs.drop (HT.BC xs.length 0 lo)).take (HT.BC xs.length xs.length hi-HT.BC xs.length 0 lo)
theorem Ej(xs:List V)(lo hi:Option Int):(B6 xs lo hi).length<=xs.length:=by
 unfold B6;rw[List.length_take,List.length_drop]
 lia
def jf(K:PySem.W.Frag):V->Option Int->Option Int->Hp->VK->Prop:=fun x lo hi H Q=>∃a xs,x=.ref a/\Ao K H a xs /\
 ¬(HT.BC xs.length 0 lo=0/\HT.BC xs.length xs.length hi=xs.length)/\∀p,H p=none->Q (.ref p) (upd H p (.tup (B6 xs lo hi)))
theorem SO:RQ X (jf X.K):=by
 intro pins s σ H x v vl vu lo hi sl Q I Y hs pl Z h;obtain⟨a,xs,rfl,hx,hw,q⟩:=h;cases Y;obtain⟨R,r,U,T⟩:=I.tuple hx;have M:R.toArray.size=xs.length:=by rw[List.size_toArray];exact r.length.symm
 refine⟨"tuple",_,PyProof.Rows.slot_tuple_getitem.lookup,U.typeIs,?_⟩;refine HT.Me U hs pl Z (by rw[M];exact hw) ?_ (by rw[M];exact T);rw[M];refine⟨.ref s.heap.objs.size,_,I.laid (t':=s.toks) (o:=.tup (B6 xs lo hi)) (fun b ob q=>aD _ q) (aG _) ?_,rfl,q _ (I.Al.fresh (aG _))⟩;exact⟨aR (Ej xs lo hi) T,_,(r.drop (HT.BC xs.length 0 lo)).take (HT.BC xs.length xs.length hi-HT.BC xs.length 0 lo),IsTup.new _ _⟩
theorem Vals.UL{xs:List V}{us:List Value}(r:Vals xs us):us=[] ↔ xs=[]:=by
 cases r with
 |nil=>simp
 |cons _ _=>simp
end
def K3(n:Nat)(i:Int):Option Nat:=if 0<=i then(if i<n then some i.toNat else none) else if -(n:Int)<=i then some (i+n).toNat else none
def DN{α:Type}(xs:List α)(i:Int):Option α:=(K3 xs.length i).bind fun j=>xs[j]?
theorem T5{n:Nat}{i:Int}{j:Nat}(h:K3 n i=some j):seqIndex? i n=some j/\j<n/\-(n:Int)<=i/\i<n:=by
 unfold K3 at h;by_cases h0:0<=i
 .rw[if_pos h0]at h;by_cases I:i<n
  .rw[if_pos I]at h;have e:i.toNat=j:=aY h;exact⟨by rw[seqIndex_of h0 I,e],by lia,by lia,I⟩
  .rw[if_neg I]at h;cases h
 .rw[if_neg h0]at h;by_cases I:-(n:Int)<=i
  .rw[if_pos I]at h;have e:(i+n).toNat=j:=aY h;exact⟨by rw[seqIndex_neg (by lia) I,e],by lia,I,by lia⟩
  .rw[if_neg I]at h;cases h
theorem O7{α:Type}{xs:List α}{i:Int}{v:α}(h:DN xs i=some v):∃j,seqIndex? i xs.length=some j/\xs[j]? = some v/\j<xs.length/\-(xs.length:Int)<=i/\i<xs.length:=by
 unfold DN at h;cases e:K3 xs.length i with
 |none=>rw[e]at h;cases h
 |some j=>
  rw[e]at h;obtain⟨T,R,M,I⟩:=T5 e;exact⟨j,T,h,R,M,I⟩
theorem FG{α:Type}{xs:List α}{j:Nat}{v:α}(h:xs[j]? = some v):DN xs (j:Int)=some v:=by
 have I:j<xs.length:=(aB.mp h).1;have e:K3 xs.length (j:Int)=some j:=by
  unfold K3;rw[if_pos (by lia),if_pos (by lia)];simp
 unfold DN;rw[e];exact h
def Og(b:Expr):Prop:=∀o i,subscripted b false o i=operate [o,i] (getItem o i)
def LX(X:Cx)(r:R2):Prop :=
 ∀(value slice:Expr) (pins:List (Addr×Obj)) (s:Shared) (σ:St) (H:Hp) (x y:V) (v u:Value) (Q:VK),Inv X pins σ H s->RelV x v->RelV y u->r x y H Q ->
  subscripted slice false v u=operate [v,u] (getItem v u)->wpAny (model X.prog X.w) X.A (subscriptTail value slice v u) (EP X pins σ Q) X.xe s
def iz(X:Cx)(id:String)(r:V->List V->Hp->VK->Prop):Prop :=
 ∀(pins:List (Addr×Obj)) (s:Shared) (σ:St) (H:Hp) (x:V) (xs:List V) (v:Value) (us:List Value) (Q:VK),Inv X pins σ H s->RelV x v->Vals xs us->r x xs H Q ->
  wpAny (model X.prog X.w) X.A (call (.builtin id) (v::us)) (EP X pins σ Q) X.xe s
section
variable{X:Cx}{a b:Expr}{ta tb:TE}{pos:Pos}
theorem LX.or{r T:R2}(h:LX X r)(h':LX X T):LX X (fun x y H Q=>r x y H Q\/T x y H Q):=by
 intro value slice pins s σ H x y v u Q I R M q U;rcases q with q|q
 .exact h value slice pins s σ H x y v u Q I R M q U
 .exact h' value slice pins s σ H x y v u Q I R M q U
theorem A0{r:R2}(U:LX X r)(ha:PE X a ta)(Y:PE X b tb)(T:Og b):PE X (.Subscript a b pos) (ZP r ta tb):=by
 intro pins s σ H Q I h;exact Subscript_ (Yi ha Y I h fun v u s2 x y H2 Z R M q=>U a b pins s2 σ H2 x y v u Q Z R M q (T _ _))
def YE(K:PySem.W.Frag):R2:=fun x y H Q=>∃p xs i v,x=.ref p/\y=.int i/\AQ K H p xs/\DN xs i=some v/\Q v H
def Xz(K:PySem.W.Frag):R2:=fun x y H Q=>∃p xs i v,x=.ref p/\y=.int i/\Ao K H p xs/\DN xs i=some v/\Q v H
def fE:R2:=fun x y H Q=>∃z i c,x=.str z/\y=.int i/\z.length<=sizeLine/\DN z.cps.toList i=some c/\Q (.str ⟨#[c]⟩) H
theorem EB:LX X (YE X.K):=by
 intro value slice pins s σ H x y v u Q I rx ry h Z;obtain⟨p,xs,i,z,rfl,rfl,hq,he,q⟩:=h;cases rx;obtain⟨t,rfl⟩:=ry;obtain⟨U,r,T,hz⟩:=I.list hq;obtain⟨j,M,h2,h3,h4,h5⟩:=O7 he;obtain⟨w,ew,R⟩:=r.get h2;have hl:=r.length;have hn:=Lh;have fin:EP X pins σ Q w s:=⟨z,H,I,R,q⟩;by_cases h0:0<=i
 .have Y:i.toNat=j:=by
   rw[seqIndex_of h0 h5]at M;exact aY M
  exact item_listR T.isList h0 (by lia) (by rw[Y];simpa using ew) fin Z
 .have Y:(i+(U.toArray.size:Int)).toNat=j:=by
   rw[seqIndex_neg (by lia) h4]at M;rw[List.size_toArray,<-hl];exact aY M
  exact subscriptTail_builtinR (x:=w) T.isList.typeIs slot_list_getitem.lookup
   (wpAny_getItem_list_neg (Q:=fun r s'=>r=w/\EP X pins σ Q r s') T.isList (by lia) (by rw[List.size_toArray]<;>lia) (by lia) (by rw[Y];simpa using ew) ⟨rfl,fin⟩) Z
theorem BN:LX X (Xz X.K):=by
 intro value slice pins s σ H x y v u Q I Y U h hs;obtain⟨p,xs,i,z,rfl,rfl,hq,he,q⟩:=h;cases Y;obtain⟨t,rfl⟩:=U;obtain⟨Z,r,R,hz⟩:=I.tuple hq;obtain⟨j,h1,h2,h3,h4,h5⟩:=O7 he;obtain⟨w,ew,M⟩:=r.get h2;have hl:=r.length;have hn:=Lh;have fin:EP X pins σ Q w s:=⟨z,H,I,M,q⟩;exact subscriptTail_builtinR (x:=w) R.typeIs slot_tuple_getitem.lookup
  (getItem_tuple (j:=j) (Q:=fun r T=>r=w/\EP X pins σ Q r T) R (by lia) (by lia) (by rw[List.size_toArray,<-hl];exact h1) (by simpa using ew) ⟨rfl,fin⟩) hs
theorem dZ:LX X fE:=by
 intro value slice pins s σ H x y v u Q I T R h U;obtain⟨z,i,c,rfl,rfl,hz,Z,q⟩:=h;obtain⟨t,rfl⟩:=T;obtain⟨t',rfl⟩:=R;obtain⟨j,M,h2,h3,h4,h5⟩:=O7 Z;have Y:z.cps.toList.length=z.length:=by simp[Str.length]
 rw[Y]at M h4 h5;have hn:=Lh;exact tail_any (typeIs_str s z t) slot_str_getitem.lookup (getItem_str (c:=c) (by
  have e1:decide (i < -(2^63:Int))=false:=bR (by lia);have e2:decide (i >= 2^63)=false:=bR (by lia);rw[e1,e2,Bool.or_false]) (by rw[M];simpa using h2) ⟨.str ⟨#[c]⟩,H,I.tok _,⟨_,rfl⟩,q⟩) U
def lA(K:PySem.W.Frag):R2:=fun x y H Q=>YE K x y H Q\/Xz K x y H Q\/fE x y H Q
theorem dB:LX X (lA X.K):=EB.or (BN.or dZ)
theorem VN(I:List Value)(n j:Nat)(u:Value):Obj.mapSeq (·.setIfInBounds j u) { cls:=.type "list",data:=.seq I.toArray n}={ cls:=.type "list",data:=.seq (I.set j u).toArray n}:=by
 simp[Obj.mapSeq]
theorem Inv.lst{pins:List (Addr×Obj)}{σ:St}{H:Hp}{s:Shared}{p:Addr}{xs:List V}(I:Inv X pins σ H s)(h:H p=some (.lst xs)) :
  ∃(M:List Value) (n:Nat),Vals xs M/\s.heap.get? p=some { cls:=.type "list",data:=.seq M.toArray n}/\xs.length<=sizeLine:=by
 obtain⟨z,M,n,r,e⟩:=I.Al p _ h;exact⟨M,n,r,e,z⟩
theorem Inv.eA{pins:List (Addr×Obj)}{σ:St}{H:Hp}{s:Shared}{p:Addr}{xs ys:List V}{M its':List Value}{n R:Nat}{f:Obj->Obj}(I:Inv X pins σ H s)(h:H p=some (.lst xs))
 (U:s.heap.get? p=some { cls:=.type "list",data:=.seq M.toArray n})(T:f { cls:=.type "list",data:=.seq M.toArray n}={ cls:=.type "list",data:=.seq its'.toArray R})(r:Vals ys its')(hz:ys.length<=sizeLine)(t:Nat) :
  Inv X pins σ (upd H p (.lst ys)) {s with heap:=s.heap.update p f,toks:=t}:=by
 have e:(s.heap.update p f).get? p=some { cls:=.type "list",data:=.seq its'.toArray R}:=by
  rw[Heap.get?_update_self f U (by rw[T]<;>rfl),T]
 refine I.write (x:=p) (e:=p) (by rw[h];trivial) (.inl rfl) (fun b u Y q=>(Heap.get?_update_other _ _ (Ne.symm Y)).trans q) ⟨_,e⟩ ?_;exact⟨hz,its',R,r,e⟩
def ZR:V->V->V->Hp->(Hp->Prop)->Prop:=fun o i v H Q=>∃p xs k j,o=.ref p/\i=.int k/\H p=some (.lst xs)/\K3 xs.length k=some j/\Q (upd H p (.lst (xs.set j v)))
theorem set_list:eP X ZR:=by
 intro pins s σ H o i v ov iv u Q I ro ri rv h;obtain⟨p,xs,k,j,rfl,rfl,Z,hj,q⟩:=h;cases ro;obtain⟨t,rfl⟩:=ri;obtain⟨M,n,r,T,hz⟩:=I.lst Z;obtain⟨R,h2,h3,h4⟩:=T5 hj;have U:=r.length;have hn:=Lh;have I':Inv X pins σ (upd H p (.lst (xs.set j v))) {s with heap:=s.heap.update p (Obj.mapSeq (·.setIfInBounds j u))} :=
  I.eA Z T (VN M n j u) (r.set rv j) (by rw[List.length_set];exact hz) s.toks
 by_cases h0:0<=k
 .have Y:k.toNat=j:=by
   rw[seqIndex_of h0 h4]at R;exact aY R
  exact PySem.W.ki_setAt T h0 (by lia) (by rw[List.size_toArray,<-U];exact h4) (by rw[Y];exact⟨_,I',q⟩)
 .have Y:(k+(M.toArray.size:Int)).toNat=j:=by
   rw[seqIndex_neg (by lia) h3]at R;rw[List.size_toArray,<-U];exact aY R
  exact PySem.W.ki_setBack T (by lia) (by rw[List.size_toArray,<-U];exact h3) (by lia) (by rw[Y];exact⟨_,I',q⟩)
theorem Q4(lo hi:Option Int)(n:Nat):(sliceBounds lo hi none n).1=((HT.BC n 0 lo:Nat):Int)/\(sliceBounds lo hi none n).2.1=((HT.BC n n hi:Nat):Int)/\(sliceBounds lo hi none n).2.2=1:=by
 refine⟨?_,?_,rfl⟩
 .cases lo with
  |none=>simp[sliceBounds,HT.BC]
  |some i=>
   simp only[sliceBounds,HT.BC,Option.getD_none,show(1:Int) > 0 by decide,if_true];by_cases h:i<0
   .simp only[h,if_true]<;>lia
   .simp only[h,if_false]<;>lia
 .cases hi with
  |none=>simp[sliceBounds,HT.BC]
  |some i=>
   simp only[sliceBounds,HT.BC,Option.getD_none,show(1:Int) > 0 by decide,if_true];by_cases h:i<0
   .simp only[h,if_true]<;>lia
   .simp only[h,if_false]<;>lia
theorem QZ(I:List Value)(lo hi:Option Int):slicePick I.toArray lo hi none=((I.drop (HT.BC I.length 0 lo)).take (HT.BC I.length I.length hi-HT.BC I.length 0 lo)).toArray:=by
 obtain⟨T,R,M⟩:=Q4 lo hi I.toArray.size;unfold slicePick;rw[T,R,M];simp only[sliceRange_one,pick_run,List.size_toArray]<;>rfl
def jF(K:PySem.W.Frag):V->Option Int->Option Int->Hp->VK->Prop:=fun x lo hi H Q=>∃a xs,x=.ref a/\AQ K H a xs/\∀p,H p=none->Q (.ref p) (upd H p (.lst (B6 xs lo hi)))
theorem MG:RQ X (jF X.K):=by
 intro pins s σ H x v vl vu lo hi sl Q I T hs Y U h;obtain⟨a,xs,rfl,hx,q⟩:=h;cases T;obtain⟨Z,r,R,hz⟩:=I.list hx;have M:=r.length;refine⟨"list",_,slot_list_getitem.lookup,R.isList.typeIs,?_⟩;refine wpAny_getItem_list_slice R.isList hs Y U .none (by simp) ?_ (by rw[List.size_toArray]<;>lia);rw[QZ,<-M];refine⟨.ref s.heap.objs.size,_,I.laid (t':=s.toks) (o:=.lst (B6 xs lo hi)) (fun b ob q=>aD _ q) (aG _) ?_,rfl,q _ (I.Al.fresh (aG _))⟩;exact⟨aR (Ej xs lo hi) hz,_,0,(r.drop (HT.BC xs.length 0 lo)).take (HT.BC xs.length xs.length hi-HT.BC xs.length 0 lo),Heap.get?_push_size _ rfl⟩
theorem BB:FH X (.builtin "len") (fun xs H Q=>∃p ys,xs=[.ref p]/\(AQ X.K H p ys\/Ao X.K H p ys)/\Q (.int ys.length) H):=by
 intro pins s σ H xs us Q I r h;obtain⟨p,ys,rfl,R,q⟩:=h;obtain⟨u,rfl,Z⟩:=vals1 r;cases Z;have hn:=Lh;rcases R with R|R
 .obtain⟨Y,T,U,hz⟩:=I.list R;have M:=T.length;exact Calls.call_len_list U.isList (by simp only[List.size_toArray]<;>lia) ⟨.int ys.length,H,I.tok _,⟨s.toks+1,by rw[List.size_toArray,M]⟩,q⟩
 .obtain⟨Y,T,U,hz⟩:=I.tuple R;have M:=T.length;exact len_tuple U (by simp only[List.size_toArray]<;>lia) ⟨.int ys.length,H,I.tok _,⟨s.toks+1,by rw[List.size_toArray,M]⟩,q⟩
theorem Iq:FH X (.type "list") (fun xs H Q=>∃p ys,xs=[.ref p]/\(AQ X.K H p ys\/Ao X.K H p ys)/\∀l,H l=none->Q (.ref l) (upd H l (.lst ys))):=by
 intro pins s σ H xs us Q I r h;obtain⟨p,ys,rfl,Y,q⟩:=h;obtain⟨u,rfl,rx⟩:=vals1 r;cases rx;have fin:∀(M:List Value),Vals ys M->ys.length<=sizeLine->∀(h':Heap) (T:Nat),(∀b o',s.heap.get? b=some o'->h'.get? b=some o') ->
   h'.get? s.heap.objs.size=some { cls:=.type "list",dict:=none,data:=.seq M.toArray T,slots:=#[]}->EP X pins σ Q (.ref s.heap.objs.size) {s with heap:=h'}:=fun M R U h' T kp e=>
  ⟨.ref s.heap.objs.size,_,I.laid (t':=s.toks) kp (aG _) (show Bv X.prog X.w _ h' _ (.lst ys) from⟨U,M,T,R,e⟩),rfl,q _ (I.Al.fresh (aG _))⟩
 rcases Y with Y|Y
 .obtain⟨M,R,pl,U⟩:=I.list Y;have Z:=R.length;obtain⟨o,ho,hc,n,hd⟩:=pl.isList;exact call_list_seq p (.inl rfl) ho hc hd (fun h' T kp e=>fin M R U h' T kp e) (by simp only[List.size_toArray]<;>lia)
 .obtain⟨M,R,pl,U⟩:=I.tuple Y;have Z:=R.length;obtain⟨o,ho,hc,n,hd⟩:=pl;exact call_list_seq p (.inr rfl) ho hc hd (fun h' T kp e=>fin M R U h' T kp e) (by simp only[List.size_toArray]<;>lia)
theorem Qg:FH X (.type "tuple") (fun xs H Q=>∃p ys,xs=[.ref p]/\((AQ X.K H p ys/\∀l,H l=none->Q (.ref l) (upd H l (.tup ys)))\/(Ao X.K H p ys/\Q (.ref p) H))):=by
 intro pins s σ H xs us Q I r h;obtain⟨p,ys,rfl,h⟩:=h;obtain⟨u,rfl,rx⟩:=vals1 r;cases rx;rcases h with ⟨U,q⟩|⟨U,q⟩
 .obtain⟨M,R,T,Y⟩:=I.list U;have Z:=R.length;refine call_tuple_list T.isList (fun h' kp=>?_) (by simp only[List.size_toArray]<;>lia);have I1:Inv X pins σ H {s with heap:=h'}:=I.kept (t':=s.toks) kp;have I2:Inv X pins σ (upd H h'.objs.size (.tup ys)) {s with heap:=h'.push { cls:=.type "tuple",data:=.seq M.toArray} } :=
   I1.laid (t':=s.toks) (fun b o e=>aD _ e) (aG _) (show Bv X.prog X.w _ _ _ (.tup ys) from⟨Y,M,R,IsTup.new _ _⟩)
  exact⟨.ref h'.objs.size,_,I2,rfl,q _ (I1.Al.fresh (aG _))⟩
 .obtain⟨M,R,T,Y⟩:=I.tuple U;exact call_tuple_same T ⟨.ref p,H,I,rfl,q⟩
def gP(K:PySem.W.Frag)(T:String)(x:V)(H:Hp):Prop:=match x with
 |.str _=>T = "str"
 |.int _=>T = "int"
 |.ref p=>(T = "list" /\ ∃xs,AQ K H p xs)\/(T = "tuple" /\ ∃o,K.lookup p=some o/\o.cls=.type "tuple" /\ o.dict=none) \/
   (T = "dict" /\((∃kvs,H p=some (.dK kvs))\/∃kvs,H p=some (.dT kvs)))\/(T = "set" /\ ∃S n,H p=some (.set S n))
 |_=>False
theorem Xi{pins:List (Addr×Obj)}{σ:St}{H:Hp}{s:Shared}{T:String}{x:V}{v:Value}(I:Inv X pins σ H s)(r:RelV x v)(ty:gP X.K T x H) :
  s.TypeIs v T/\∀a,v=.ref a->∃Y,s.heap.get? a=some Y/\Y.dict=none:=by
 cases x with
 |str z=>
  obtain⟨t,rfl⟩:=r;cases (show T = "str" from ty);exact⟨typeIs_str s z t,fun _ e=>nomatch e⟩
 |int i=>
  obtain⟨t,rfl⟩:=r;cases (show T = "int" from ty);exact⟨typeIs_int s i t,fun _ e=>nomatch e⟩
 |ref p=>
  cases r;rcases ty with ⟨rfl,xs,hq⟩|⟨rfl,o,M,hc,hd⟩|⟨rfl,M⟩|⟨rfl,S,n,M⟩
  .obtain⟨Z,_,U,_⟩:=I.list hq;refine⟨U.isList.typeIs,fun a e=>?_⟩;cases e;obtain⟨o,n,e,c,hd,_⟩:=U;exact⟨o,e,hd⟩
  .refine⟨⟨o,I.HZ p o M,hc⟩,fun a e=>?_⟩;cases e;exact⟨o,I.HZ _ o M,hd⟩
  .have z:∃o,s.heap.get? p=some o/\o.ExactDict:=by
    rcases M with ⟨kvs,M⟩|⟨kvs,M⟩
    .obtain⟨_,_,_,_,o,_,_,e,ex,_⟩:=I.Al p _ M;exact⟨o,e,ex⟩
    .obtain⟨_,_,_,_,o,_,_,e,ex,_⟩:=I.Al p _ M;exact⟨o,e,ex⟩
   obtain⟨o,e,ex⟩:=z;refine⟨⟨o,e,ex.1⟩,fun a R=>?_⟩;cases R;exact⟨o,e,ex.2.1⟩
  .obtain⟨o,_,_,_,e,ex,_⟩:=I.Al p _ M;refine⟨⟨o,e,ex.1⟩,fun a R=>?_⟩;cases R;exact⟨o,e,ex.2.1⟩
 |_=>exact False.elim ty
def jP(K:PySem.W.Frag)(T:String)(r:V->List V->Hp->VK->Prop)(I:TE):TE:=fun σ H Q=>I σ H fun x H1=>gP K T x H1/\r x [] H1 Q
def i8(K:PySem.W.Frag)(T:String)(r:V->List V->Hp->VK->Prop)(I:TE)(t:TA):TE:=fun σ H Q=>I σ H fun x H1=>gP K T x H1/\t σ H1 fun xs M=>r x xs M Q
variable{o e:Expr}{es:List Expr}{to:TE}{t:TA}{name:Str}{apos cpos:Pos}{T id:String}{r:V->List V->Hp->VK->Prop}
theorem ff(pa:PlainAttrs T)(slot:Slot T name id)(U:typeOf (.builtin id)=pure (.type "method_descriptor"))(hm:iz X id r)(ho:PE X o to)
 (R:attributeBase o name X.env (eval o X.env)=eval o X.env:=by rfl)(M:(apos.endLine==cpos.line)=true:=by rfl):PE X (.Call (.Attribute o name apos) [] [] cpos) (jP X.K T r to):=by
 intro pins s σ H Q I h;refine wpAny_Call_method0_late R M (A5 (ho pins s σ H _ I h) fun v s1 ⟨x,H1,Z,Y,ty,q1⟩=>?_);obtain⟨h1,h2⟩:=Xi Z Y ty;exact⟨T,id,pa,slot,U,h1,h2,Calls.callWith_builtin rfl (PySem.evalArgs_none (hm pins s1 σ H1 x [] v [] Q Z Y .nil q1))⟩
theorem GW(pa:PlainAttrs T)(slot:Slot T name id)(Z:typeOf (.builtin id)=pure (.type "method_descriptor"))(hm:iz X id r)(ho:PE X o to)(ha:PA X (e::es) t)
 (U:attributeBase o name X.env (eval o X.env)=eval o X.env:=by rfl)
 (Y:((backTo cpos (starEach (e::es) X.env)).all (fun x=>!x.1)&&(backToKw cpos (keywordEach [] X.env)).all (fun x=>x.1.isSome)
   && decide ((e::es).length+([]:List Keyword).length+(if([]:List Keyword).isEmpty then 0 else 1)<30))=true:=by rfl)
 (R:(apos.endLine==cpos.line)=true:=by rfl)(hs:starEach (e::es) X.env=(false,eval e X.env)::starEach es X.env:=by rfl)(M:(backTo cpos (starEach es X.env)).any (·.1)=false:=by rfl) :
  PE X (.Call (.Attribute o name apos) (e::es) [] cpos) (i8 X.K T r to t):=by
 intro pins s σ H Q I h;refine wpAny_Call_method_late U Y R rfl (A5 (ho pins s σ H _ I h) fun v s1 ⟨x,H1,I1,r1,ty,q1⟩=>?_);obtain⟨h1,h2⟩:=Xi I1 r1 ty;refine⟨T,id,pa,slot,Z,h1,h2,?_⟩;have hA:=ha cpos pins s1 σ H1 _ I1 q1;rw[hs]at hA ⊢;refine Calls.callWith_builtin (by show(false||(backTo cpos (starEach es X.env)).any (·.1))=false;rw[M]<;>rfl) (Calls.evalArgs_plain ?_);exact A5 hA fun us s2 ⟨vs,H2,I2,r2,q2⟩=>hm pins s2 σ H2 x vs v us Q I2 r1 r2 q2
end
def fH(X:Cx)(id:String)(r:V->List V->Hp->VK->Prop):Prop :=
 ∀(pins:List (Addr×Obj)) (s:Shared) (σ:St) (H:Hp) (x:V) (xs:List V) (v:Value) (us:List Value) (Q:VK),Inv X pins σ H s->RelV x v->Vals xs us->r x xs H Q ->
  wpAny (model X.prog X.w) X.A (call (.builtin id) (v::us)) (EP X pins σ Q) X.xe s
theorem Vals.one:∀ {x:V} {us:List Value},Vals [x] us->∃u,us=[u]/\RelV x u
 |_,_,.cons r .nil=>⟨_,rfl,r⟩
theorem Vals.two:∀ {x y:V} {us:List Value},Vals [x,y] us->∃u v,us=[u,v]/\RelV x u/\RelV y v
 |_,_,_,.cons r (.cons q .nil)=>⟨_,_,rfl,r,q⟩
theorem Vals.zero:∀ {us:List Value},Vals [] us->us=[]
 |_,.nil=>rfl
theorem Vals.reverse{xs:List V}{us:List Value}(h:Vals xs us):Vals xs.reverse us.reverse:=by
 induction h with
 |nil=>exact .nil
 |cons r t I=>rw[List.reverse_cons,List.reverse_cons];exact Vals.append I (.cons r .nil)
theorem Vals.rep{xs:List V}{us:List Value}(h:Vals xs us):∀k:Nat,Vals (List.replicate k xs).flatten (List.replicate k us).flatten
 |0=>.nil
 |k+1=>by
  rw[List.replicate_succ,List.replicate_succ,List.flatten_cons,List.flatten_cons];exact Vals.append h (Vals.rep h k)
theorem foldl_rep(I:List Value):∀(k:Nat) (M:List Value),
  List.foldl (fun T R=>T++R) M.toArray (List.replicate k I.toArray)=(M++(List.replicate k I).flatten).toArray
 |0,M=>by simp
 |k+1,M=>by
  have e:M.toArray++I.toArray=(M++I).toArray:=by simp
  have U:(M++I)++(List.replicate k I).flatten=M++(List.replicate (k+1) I).flatten:=by
   rw[List.replicate_succ,List.flatten_cons,List.append_assoc]
  rw[<-U,<-foldl_rep I k (M++I),<-e,List.replicate_succ,List.foldl_cons]
section
variable{X:Cx}{pins:List (Addr×Obj)}{σ:St}{H:Hp}{s:Shared}{l:Addr}{xs ys:List V}
theorem Inv.YA{M its':List Value}{n:Nat}{f:Array Value->Array Value}{t':Nat}(I:Inv X pins σ H s)(Z:H l=some (.lst xs))
 (e:s.heap.get? l=some { cls:=.type "list",data:=.seq M.toArray n})(U:f M.toArray=its'.toArray)(R:Vals ys its')(hz:ys.length<=sizeLine) :
  Inv X pins σ (upd H l (.lst ys)) {s with heap:=s.heap.update l (Obj.mapSeq f),toks:=t'}:=by
 have q:=PySem.IsL.update e f;rw[U]at q;refine I.write (x:=l) (e:=l) (by rw[Z];exact trivial) (.inl rfl) (fun b' u Y T=>(Heap.get?_update_other s.heap (Obj.mapSeq f) (Ne.symm Y)).trans T) ⟨_,q⟩ ?_;exact⟨hz,its',_,R,q⟩
theorem Inv.cu{M:List Value}{t':Nat}(I:Inv X pins σ H s)(R:Vals ys M)(hz:ys.length<=sizeLine) :
  Inv X pins σ (upd H s.heap.objs.size (.lst ys)) {s with heap:=s.heap.push { cls:=.type "list",data:=.seq M.toArray},toks:=t'} :=
 I.laid (fun _ _ q=>aD _ q) (aG _) ⟨hz,M,0,R,Heap.get?_push_size _ rfl⟩
theorem Inv.fresh(I:Inv X pins σ H s):H s.heap.objs.size=none:=I.Al.fresh (aG _)
theorem Inv.NC(I:Inv X pins σ H s)(R:H l=some (.lst xs)):xs.length<=sizeLine/\∃(M:List Value) (n:Nat),Vals xs M/\xs.length=M.length/\s.heap.get? l=some { cls:=.type "list",data:=.seq M.toArray n}:=by
 obtain⟨z,M,n,r,e⟩:=I.Al l _ R;exact⟨z,M,n,r,r.length,e⟩
theorem RI{n:Nat}(h:n<=sizeLine):Builtin.List.listTooLong n=false:=by
 unfold Builtin.List.listTooLong;exact bR (by lia)
end
section
variable{X:Cx}
def UG:V->List V->Hp->VK->Prop:=fun x vs H Q=>∃l xs y,x=.ref l/\vs=[y]/\H l=some (.lst xs)/\xs.length<sizeLine/\Q .BJ (upd H l (.lst (xs++[y])))
theorem DJ:fH X "list.append" UG:=by
 intro pins s σ H x vs v us Q I U Y h;obtain⟨l,xs,y,rfl,rfl,T,hz,q⟩:=h;cases U;obtain⟨u,rfl,Z⟩:=Y.one;obtain⟨z,M,n,r,hl,e⟩:=I.NC T;refine call_meets F.slot_list_append ⟨_,e,rfl⟩ F.entry_list_append (F.args_list_append_2 _ _) (PySem.list_append l M.toArray n u (by rw[List.size_toArray];lia)) ⟨e,?_⟩;refine⟨.BJ,_,I.YA (its':=M++[u]) T e (by simp) (r.append (.cons Z .nil)) ?_,rfl,q⟩;rw[List.length_append,List.length_singleton]
 lia
def cC:V->List V->Hp->VK->Prop:=fun x vs H Q=>∃l b xs I,x=.ref l/\vs=[.ref b]/\H l=some (.lst xs)/\H b=some (.lst I)/\xs.length+I.length<=sizeLine/\Q .BJ (upd H l (.lst (xs++I)))
theorem Pc:fH X "list.extend" cC:=by
 intro pins s σ H x vs v us Q I rx rv h;obtain⟨l,b,xs,zs,rfl,rfl,Z,hB,hz,q⟩:=h;cases rx;obtain⟨u,rfl,ru⟩:=rv.one;cases ru;obtain⟨z,R,n,r,hl,e⟩:=I.NC Z;obtain⟨z2,M,n2,r2,hl2,e2⟩:=I.NC hB;have U:R.toArray.size+M.toArray.size<=sizeLine:=by rw[List.size_toArray,List.size_toArray];lia
 have T:¬(!R.toArray.isEmpty&&Builtin.List.listTooLong (R.toArray.size+M.toArray.size))=true:=by
  rw[RI U,Bool.and_false];exact aM
 refine call_meets F.slot_list_extend ⟨_,e,rfl⟩ F.entry_list_extend (F.args_list_extend_2 _ _)
  (AutoSeq1.list_extend_list_list_0 l R.toArray n b M.toArray n2 T (by rw[List.size_toArray];lia) (by lia)) ⟨e,e2,?_⟩
 refine⟨.BJ,_,I.YA (its':=R++M) Z e (by simp) (r.append r2) ?_,rfl,q⟩;rw[List.length_append]
 lia
def fk:V->List V->Hp->VK->Prop:=fun x vs H Q=>∃l xs,x=.ref l/\vs=[]/\H l=some (.lst xs)/\Q .BJ (upd H l (.lst []))
theorem Ym:fH X "list.clear" fk:=by
 intro pins s σ H x vs v us Q I Y Z h;obtain⟨l,xs,rfl,rfl,U,q⟩:=h;cases Y;have R:=Z.zero;subst R;obtain⟨z,M,n,r,hl,e⟩:=I.NC U;refine call_meets F.slot_list_clear ⟨_,e,rfl⟩ F.entry_list_clear (F.args_list_clear_1 _) (AutoSeq1.list_clear_list_0 l M.toArray n (by rw[List.size_toArray];lia)) ⟨e,?_⟩;exact⟨.BJ,_,I.YA (its':=[]) (ys:=[]) U e rfl .nil (ar _),rfl,q⟩
def jH:R2:=fun x y H Q=>∃l b xs I,x=.ref l/\y=.ref b/\H l=some (.lst xs)/\H b=some (.lst I)/\xs.length+I.length<=sizeLine/\∀p,H p=none->Q (.ref p) (upd H p (.lst (xs++I)))
theorem Lk:Cy X (binaryOp .Add) jH:=by
 intro pins s σ H x y v u Q I U T h;obtain⟨l,b,xs,zs,rfl,rfl,hH,hB,hz,q⟩:=h;cases U;cases T;obtain⟨z,R,n,r,hl,e⟩:=I.NC hH;obtain⟨z2,M,n2,Y,Z,e2⟩:=I.NC hB;refine PySem.P.add_list e e2 ?_ (by rw[List.size_toArray,List.size_toArray];lia);have ea:R.toArray++M.toArray=(R++M).toArray:=by simp
 rw[ea];exact⟨.ref _,_,I.cu (t':=s.toks) (r.append Y) (by rw[List.length_append];lia),rfl,q _ I.fresh⟩
def kD:R2:=fun x y H Q=>∃l k xs,x=.ref l/\y=.int k/\H l=some (.lst xs)/\-(2^63)<=k/\k<2^63/\xs.length*k.toNat<=sizeLine /\
 ∀p,H p=none->Q (.ref p) (upd H p (.lst (List.replicate k.toNat xs).flatten))
theorem len_rep{α:Type}(xs:List α)(k:Nat):(List.replicate k xs).flatten.length=k*xs.length:=by
 induction k with
 |zero=>simp
 |succ k I=>rw[List.replicate_succ,List.flatten_cons,List.length_append,I,Nat.succ_mul,Nat.add_comm]
theorem Wl:Cy X (binaryOp .Mult) kD:=by
 intro pins s σ H x y v u Q I rx ry h;obtain⟨l,k,xs,rfl,rfl,hH,h1,h2,hz,q⟩:=h;cases rx;obtain⟨t,rfl⟩:=ry;obtain⟨z,M,n,r,hl,e⟩:=I.NC hH;have Z:M.toArray.size*k.toNat<=sizeLine:=by rw[List.size_toArray,<-hl];exact hz
 have hcap:¬M.toArray.size*k.toNat > (2^63-1) / 8:=by
  have:(sizeLine:Nat)<=(2^63-1) / 8:=by decide
  lia
 have hfit:¬(!Builtin.List.listFitsIndex k)=true:=by
  rw[fitsIndex_both h1 h2];exact aM
 have R:¬Builtin.List.listTooLong (M.toArray.size*k.toNat)=true:=by
  rw[RI Z];exact aM
 have Y:List.foldl (fun x1 x2=>x1++x2) #[] (List.replicate (if M.toArray.isEmpty=true then 0 else k.toNat) M.toArray)=(List.replicate k.toNat M).flatten.toArray:=by
  have f0:∀m:Nat,List.foldl (fun x1 x2=>x1++x2) #[] (List.replicate m M.toArray)=(List.replicate m M).flatten.toArray:=fun m=>by
   have:=foldl_rep M m [];rw[List.nil_append]at this;exact this
  rw[f0];cases M with
  |nil=>simp
  |cons a r'=>rw[if_neg (by simp)]
 refine wpAny_binaryOp_repeat_ref (T := "list") (U := "int") (by decide) ⟨_,e,rfl⟩ (fun s'=>typeIs_int s' k t) noFill_list_mul F.fills_int_mul F.slot_int_rmul repeat_list F.slot_int_index.lookup
  (call_meets F.slot_int_rmul (typeIs_int s k t) F.entry_int_rmul (F.args_int_rmul_2 _ _) (int___rmul___int_list k t l M.toArray n)
   ⟨e,rfl,⟨_,e,rfl⟩,call_meets F.slot_list_mul ⟨_,e,rfl⟩ F.entry_list_mul (F.args_list_mul_2 _ _) (AutoListH.list___mul___list_int_3 l M.toArray n k t hfit hcap R) ⟨e,?_⟩⟩)
 rw[Y];exact⟨.ref _,_,I.cu (t':=s.toks) (r.rep k.toNat) (by rw[len_rep,Nat.mul_comm];exact hz),rfl,q _ I.fresh⟩
end
end L2
namespace Att
open PySem PySem.W PySem.Calls PyProof.Rows
theorem OH{P:Params}{h:Heap}:∀(ns:List Int) (vs:List Value),WellAll P h vs (ns.map WData.int)->IntsAre vs ns:=by
 intro ns
 induction ns with
 |nil=>
  intro vs w;rw[List.map_nil]at w;cases w;exact .nil
 |cons n ns I=>
  intro vs w;rw[List.map_cons]at w;cases w with
  |cons a b=>
   cases a;exact .cons _ _ (I _ b)
theorem XJ{l:OpenLaw}{n:Nat}(hn:l.most=some n){P:Params}{h:Heap}{args:List WData}{vals:List Value}
 (I:l.row.toRowW.claim.pre args=true)(Y:WellAll P h vals args) :
  ∃a vs ns,vals=[Value.ref a]/\args=[WData.list (ns.map WData.int)]/\h.get? a=some { cls:=.type "list",data:=.seq vs.toArray}/\IntsAre vs ns/\ns.length<=n:=by
 have Z:WShape.hasAll [] args [.list .int]=true:=(pre_splitW I).1;have hc:l.pre.holds [] { args:=args}=true:=(pre_splitW I).2;obtain⟨d,r,rfl,h1,h2⟩:=hasAllW_cons Z;obtain rfl:=hasAllW_nil h2;obtain⟨xs,rfl,h3⟩:=hasW_list h1;obtain⟨ns,rfl⟩:=items_int h3;have M:ns.length<=n:=by
  unfold OpenLaw.pre at hc;have U:(WTm.not (.lt (.lit (.int (n:Int))) (.len (.arg 0)))).holds [] { args:=[.list (ns.map .int)]}=true:=by
   have U:=(holds_andW hc).1;rw[hn]at U;exact U
  have T:=condW_of U (w_not (w_lt w_lit (w_len_list (w_arg rfl))));rw[List.length_map]at T;refine Nat.le_of_not_lt fun q=>?_;have q':(n:Int)<((ns.length:Nat):Int):=by lia
  first
   |(rw[decide_eq_true q']at T;exact absurd T (by decide))
   |(simp at T;lia)
 cases Y with
 |cons w1 w2=>
  cases w2;cases w1 with
  |list ho R=>exact⟨_,_,ns,rfl,rfl,ho,OH ns _ R,M⟩
theorem WZ(l:OpenLaw)(args:List WData):l.row.toRowW.claim.post args (.bool true) args=true :=
 postW_of (r:=l.row.toRowW) (X:=(true==true))
  (show WShape.has [] (.bool true) .bool=true by first|rfl|decide|simp[WShape.has,WShape.arms,WShape.armsAll])
  (show(WTm.eq .res (.lit (.bool true))).value [] { args:=args,res:=some (.bool true),after:=args}=some (.bool (true==true)) from w_eq_bool (w_res rfl) w_lit) rfl
theorem TX{l:OpenLaw}{n:Nat}{q:Program}{loose:List Str}{XP:(Str->Option Value)->Heap->Prop}{YP:World->Heap->Prop}{d:DefRec}
 (hn:l.most=some n)(hdf:d.params.defaults=[])
 (call:∀(w:World) (s₀ I:Shared) (mg mb:Str->Option Value) (fa:Addr) (o:Obj) (pm U doc:Value) (a:Addr) (vs:List Value) (ns:List Int),
   Ground q loose [] XP w s₀ mg mb I.heap->YP w I.heap ->
   I.heap.get? fa=some o->o.data=.func (docDef d.name d.params d.body d.scope pm U doc)->I.heap.CodeRec U d.name->mg d.name=some (.ref fa) ->
   I.heap.get? a=some { cls:=.type "list",data:=.seq vs.toArray}->IntsAre vs ns->ns.length<=n->I.gens=#[] ->
   codeAny (model l.prog w) callerA (.call (.ref fa) ⟨[.ref a],[]⟩) (fun r s'=>r=.ok (.ret (.bool true))/\OldK I.heap s'.heap/\s'.os=I.os/\AllBare s'.gens) I) :
  WalkO q loose XP YP l.row.toRowW d [] (fun f vs=>PySem.call f vs):=by
 intro w s₀ I mg mb G Y fa o pm U doc dV kV ho hd hcd hD hmg hg args vals as M hlay hrd Z hlo;obtain rfl:dV=.none:=Dflts.none hD hdf;obtain rfl:kV=.none:=Dflts.noKw hD;obtain⟨a,vs,ns,rfl,rfl,R,hints,T⟩:=XJ hn M Z;refine enter_call (codeAny_mono (call w s₀ I mg mb fa o pm U doc a vs ns G Y ho (fd_plain hd) hcd hmg R hints T hg) fun r s' hq=>?_);obtain⟨rfl,h2,h3,h4⟩:=hq;exact⟨.inl ⟨.bool true,.bool true,[],rfl,fun _=>rfl,.bool true,WZ l _,fun _=>⟨List.Pairwise.nil,fun _ hm=>(nomatch hm)⟩⟩,h2,h3,h4⟩
end Att
namespace L2
open PySem PySem.Spec PyProof.Rows
theorem P9:∀ {vs:List Value} {ns:List Int},IntsAre vs ns->Vals (ns.map V.int) vs
 |_,_,.nil=>.nil
 |_,_,.cons n t h=>.cons ⟨t,rfl⟩ (P9 h)
def Yd(H:Hp):Prop:=∀b,H b=none\/∃o xs,H b=some (.Im o (.lst xs))
theorem Yn{P:Program}{w:World}{K:PySem.W.Frag}{mg mb:Str->Option Value}{CX:IE}{k:Nat}{fa a:Addr}{fd:FuncData}{x:Str}{sp:Sp}{I:Shared}{vs:List Value}{ns:List Int}
 (KX:K.In I.heap)(hns:I.heap.Ns mainGlobals mg)(M:I.heap.Ns builtinsNs mb)(hbb:∀x:Str,x ≠ "__name__" -> mb x=bootBuiltins x)(hlim:I.heap.NoLimit)(hg:I.gens=#[])
 (ha:I.heap.get? a=some { cls:=.type "list",data:=.seq vs.toArray})(hi:IntsAre vs ns)(hl:ns.length<=sizeLine)(hr:Dz k callerA)(hkt:∀H,KTb mg H)
 (F:∀base:Heap,K.In base->base.Ns mainGlobals mg->AM P w K mg base CX k fa fd [x] sp)(T:∀(s:Shared) (u:Value),BindsTo s fd ⟨[u],[]⟩ [(x,u)])
 (hsp:∀H:Hp,Yd H->AQ K H a (ns.map V.int)->sp [.ref a] H (fun v _=>v=.bl true) fun _ _ _=>False)
 (hCX:∀H e s',CX [] H I (fun _ _ _=>False) e s'->False) :
  codeAny (model P w) callerA (.call (.ref fa) ⟨[.ref a],[]⟩) (fun r s'=>r=.ok (.ret (.bool true))/\OldK I.heap s'.heap/\s'.os=I.os/\AllBare s'.gens) I:=by
 have rv:=P9 hi;have Y:=hi.length;have core:∀H:Hp,Yd H->AQ K H a (ns.map V.int)->C2 P w H I.heap->(∀b,H b≠none->b=a)->(H a≠none->K.lookup a=none) ->
   codeAny (model P w) callerA (.call (.ref fa) ⟨[.ref a],[]⟩) (fun r s'=>r=.ok (.ret (.bool true))/\OldK I.heap s'.heap/\s'.os=I.os/\AllBare s'.gens) I:=by
  intro H hO hS Al hA hK;have base_of:∀ {b:Addr} {o:Obj},I.heap.get? b=some o->H b=none->(Kd I.heap H).get? b=some o:=fun e n=>Y7 e n;have noA:∀ {b:Addr} {o:Obj} {es:Array DictEntry} {ep:Nat},I.heap.get? b=some o->o.data=.dict es ep->H b=none:=fun {b o es ep} e d=>by
   cases q:H b with
   |none=>rfl
   |some u=>
    have e':b=a:=hA b (by rw[q];simp);subst e';rw[ha]at e;cases e;have d':Data.seq vs.toArray _=Data.dict es ep:=d;cases d'
  have R:∀ {b:Addr} {m:Str->Option Value},I.heap.Ns b m->(Kd I.heap H).Ns b m:=fun {b m} ⟨o,es,ep,e,d,r⟩=>⟨o,es,ep,base_of e (noA e d),d,r⟩;have hKb:K.In (Kd I.heap H):=fun b o e=>base_of (KX b o e) (by
   cases q:H b with
   |none=>rfl
   |some u=>
    have e':b=a:=hA b (by rw[q];simp);subst e';rw[hK (by rw[q];simp)]at e;cases e)
  have hM:Mod K mg (Kd I.heap H):=⟨hKb,R hns,⟨mb,R M,hbb⟩,let⟨mc,h1,h2⟩:=hlim;⟨mc,R h1,h2⟩⟩;have e0:VX P w K mg (Kd I.heap H) callerA [] I H:=⟨rfl,hM,fun b o e=>Zp e,Nat.le_of_eq (XQ _ _),trivial,fun b M=>absurd (show b∈([]:List Addr) from M) (by simp),Al,.of_eq hg,hkt H⟩;refine codeAny_mono ((F _ hKb (R hns)).run callerA [] I H ⟨[.ref a],[]⟩ [.ref a] [.ref a] _ _ hr e0 (T I (.ref a)) (.cons rfl .nil) (hsp H hO hS)) fun r s' h=>?_;cases r with
  |error e=>exact(hCX H e s' h).elim
  |ok fl=>
   cases fl with
   |next=>exact False.elim h
   |brk=>exact False.elim h
   |cont=>exact False.elim h
   |ret u=>
    obtain⟨v,H',os,bare,un,Z,r',q⟩:=h;have q':v=.bl true:=q;subst q';obtain rfl:u=Value.bool true:=r';refine⟨rfl,OldK.of_keep fun b o e=>?_,os,bare⟩;cases q:H b with
    |none=>exact un.keep b o e q (by intro z;exact absurd (show b∈([]:List Addr) from z) (by simp)) (by simp)
    |some u=>
     rcases hO b with z|⟨ob,xs,z⟩
     .rw[q]at z;cases z
     .have z2:=un.JX b ob _ z;obtain⟨e1,_⟩:=Al b _ z;obtain⟨e2,_⟩:=Z b _ z2;rw[e]at e1;cases e1;exact e2
 cases hk:K.lookup a with
 |some o=>
  have e:=KX a o hk;rw[ha]at e;cases e;refine core (fun _=>none) (fun _=>.inl rfl) (.inr ⟨_,vs.toArray,_,hk,rfl,rfl,rfl,by rw[List.size_toArray,Y];exact hl,by simpa using rv⟩) (fun b u z=>by have U:(none:Option HO)=some u:=z;cases U) (fun b z=>absurd rfl z) fun z=>absurd rfl z
 |none=>
  refine core (fun b=>if b=a then some (.Im { cls:=.type "list",data:=.seq vs.toArray} (.lst (ns.map V.int))) else none) (fun b=>?_) (.inl (.inr ⟨{ cls:=.type "list",data:=.seq vs.toArray},if_pos rfl⟩)) (fun b u z=>?_) (fun b z=>?_) fun _=>hk
  .by_cases M:b=a
   .exact .inr ⟨_,_,if_pos M⟩
   .exact .inl (if_neg M)
  .by_cases M:b=a
   .have U:=(if_pos M).symm.trans z;cases U;subst M;exact⟨ha,by rw[List.length_map];exact hl,vs,_,rv,ha⟩
   .have U:=(if_neg M).symm.trans z;cases U
  .by_cases M:b=a
   .exact M
   .exact absurd (if_neg M) z
theorem cQ{l:PySem.W.OpenLaw}{n k:Nat}{q:Program}{loose:List Str}{XP:(Str->Option Value)->Heap->Prop}{YP:World->Heap->Prop}{d:DefRec}{K:Params->PySem.W.Frag}{CX:World->IE}{sp:World->Sp}{x:Str}
 (hn:l.most=some n)(Z:n<=sizeLine)(hdf:d.params.defaults=[])(hr:Dz k callerA)(hkt:∀(w:World) (mg:Str->Option Value) (h:Heap),(K w.params).In h->h.Ns mainGlobals mg->∀H,KTb mg H)
 (hY:∀(w:World) (h:Heap),YP w h->(K w.params).In h)
 (F:∀(w:World) (mg:Str->Option Value) (fa:Addr) (h:Heap),(K w.params).In h->h.Ns mainGlobals mg->mg d.name=some (.ref fa) ->
   ∃fd:FuncData,(∀(s:Shared) (u:Value),BindsTo s fd ⟨[u],[]⟩ [(x,u)]) /\
    ∀base:Heap,(K w.params).In base->base.Ns mainGlobals mg->AM l.prog w (K w.params) mg base (CX w) k fa fd [x] (sp w))
 (U:∀(w:World) (H:Hp) (a:Addr) (ns:List Int),ns.length<=n->Yd H->AQ (K w.params) H a (ns.map V.int)->sp w [.ref a] H (fun v _=>v=.bl true) fun _ _ _=>False)
 (hCX:∀(w:World) (H:Hp) (s:Shared) (e:Value) (s':Shared),CX w [] H s (fun _ _ _=>False) e s'->False) :
  PySem.W.WalkO q loose XP YP l.row.toRowW d [] (fun f vs=>PySem.call f vs):=by
 refine Att.TX hn hdf fun w s₀ M mg mb fa o pm cd doc a vs ns G Y ho hd hcd hmg R hints I hg=>?_;have KX:=hY w _ Y;obtain⟨fd,hb,hF⟩:=F w mg fa _ KX G.T.g hmg;exact Yn (hkt:=hkt w mg _ KX G.T.g) KX G.T.g G.T.b G.T.builtins G.T.nolimit hg R hints (aR I Z) hr hF hb (fun H hO hS=>U w H a ns I hO hS) fun H e s'=>hCX w H M e s'
abbrev AZ:IE:=fun _ _ _ _ _ _=>False
abbrev E0:XK:=fun _ _ _=>False
theorem iT{X:Cx}:Passes AZ X E0:=fun _ _ _ _ _ _ _ h=>h.elim
structure UJ(K:PySem.W.Frag)(x qual:Str)(st:Stmt)(f:Addr)(fd:FuncData):Prop where
 ex:∃(oc:Value) (od:Option Addr) (kV doc pm:Value) (an:Option Addr) (cdv ct:Value) (osl:Array (Option Value)),
  fd=PySem.W.fnOf x qual (FO st) (De st) (AO st) .none kV doc pm an cdv ct/\K.lookup f=some ⟨oc,od,.func fd,osl⟩/\PySem.W.codeIn K cdv qual=true
 kp:PySem.W.keepIn K (.ref f)=true
section
variable{P:Program}{w:World}{K:PySem.W.Frag}{mg:Str->Option Value}{base:Heap}
theorem UJ.ok{x qual:Str}{st:Stmt}{f:Addr}{fd:FuncData}{N ps:List Str}{k:Nat}{sp:Sp}(F:UJ K x qual st f fd)(S:Ab N ps (AO st))(len:∀vs H Q E,sp vs H Q E->vs.length=ps.length)
 (I:∀(cdv:Value) (A:Around) (outer:List Env) (s:Shared) (H:Hp) (vs:List V) (Q:VK) (E:XK),Dz k (A.deeper (envOfC qual (AO st) s.heap.objs.size f cdv))->sp vs H Q E ->
   ∃t,Ij (Lx AZ P w K mg base N qual (AO st) f cdv A outer s H E).UR (De st) t/\t { nx:=fun _ H'=>Q .BJ H',rt:=Q} (start N vs) H):AM P w K mg base AZ (k+1) f fd ps sp:=by
 obtain⟨oc,od,kV,doc,pm,an,cdv,ct,osl,rfl,lk,R⟩:=F.ex;refine gj lk R S len fun A outer s H vs Q E T M=>?_;obtain⟨t,h,q⟩:=I cdv A outer s H vs Q E T M;exact⟨t,h.UR,q⟩
theorem UJ.binds{x qual:Str}{st:Stmt}{f:Addr}{fd:FuncData}{ps:List Str}(F:UJ K x qual st f fd)
 (h:∀(kV doc pm:Value) (an:Option Addr) (cdv ct:Value) (us:List Value),us.length=ps.length->bindArgs (PySem.W.fnOf x qual (FO st) (De st) (AO st) .none kV doc pm an cdv ct) ⟨us,[]⟩=pure (ps.zip us)):Binds K fd ps []:=by
 obtain⟨oc,od,kV,doc,pm,an,cdv,ct,osl,rfl,lk,I⟩:=F.ex;exact .all (h kV doc pm an cdv ct)
theorem Ww{x qual:Str}{st:Stmt}{f:Addr}{oc:Value}{od an:Option Addr}{osl:Array (Option Value)}{kV doc pm cdv ct:Value}(l:K.lookup f=some ⟨oc,od,.func (PySem.W.fnOf x qual (FO st) (De st) (AO st) .none kV doc pm an cdv ct),osl⟩)
 (c:PySem.W.codeIn K cdv qual=true)(k:PySem.W.keepIn K (.ref f)=true):UJ K x qual st f (PySem.W.fnOf x qual (FO st) (De st) (AO st) .none kV doc pm an cdv ct):=⟨⟨oc,od,kV,doc,pm,an,cdv,ct,osl,rfl,l,c⟩,k⟩
end
theorem QA{n:Nat}(h:n<=1000):n<sizeLine:=aQ h (by decide)
section
variable{X:Cx}
theorem pv(i:Nat){x:Str}{pos:Pos}(R:X.N[i]? = some x:=by rfl)(M:dP X.env.scope x:=by first|exact Or.inl rfl|exact Or.inr (Or.inl rfl)|exact Or.inr (Or.inr rfl))(hd:(x==("__debug__" : Str))=false:=by decide)
 (I:(x==("__classdict__" : Str))=false:=by decide):PE X (.Name x pos) (NV i):=ef R M hd I
end
theorem C4{A B:Prop}(h:B):if false=true then A else B:=by
 rw[if_neg aM];exact h
theorem BI{A B:Prop}(h:A):if true=true then A else B:=by
 rw[if_pos rfl];exact h
theorem BP{c A B:Prop}[Decidable c](h1:c->A)(I:¬c->B):if c then A else B:=by
 by_cases h:c
 .rw[if_pos h];exact h1 h
 .rw[if_neg h];exact I h
def AG(H H':Hp):Prop:=∀b o,H b=some o->H' b=some o
theorem AG.refl(H:Hp):AG H H:=fun _ _ h=>h
theorem AG.trans{H H1 I:Hp}(a:AG H H1)(b:AG H1 I):AG H I:=fun c o h=>b c o (a c o h)
theorem AG.seq{K:PySem.W.Frag}{H H':Hp}{a:Addr}{xs:List V}(e:AG H H')(h:AQ K H a xs):AQ K H' a xs:=by
 rcases h with (h|⟨o,h⟩)|h
 .exact .inl (.inl (e _ _ h))
 .exact .inl (.inr ⟨o,e _ _ h⟩)
 .exact .inr h
section
variable{X:Cx}
def MJ(i j:Int):Prop:=∃m:Nat,m<=1000000/\i.natAbs<2^m/\j.natAbs<2^m
theorem MJ.ok{i j:Int}(h:MJ i j):IntMulOk i j:=by
 obtain⟨m,hm,M,I⟩:=h;exact IntMulOk.of_le (intBits_le_iff.mpr M) (intBits_le_iff.mpr I) (by lia)
theorem B4:Cy X (binaryOp .Mult) (rI (fun i j=>OY i j\/MJ i j) fun i j=>.int (i*j)) :=
 US fun _ _ _ _ _ _ _ I q=>mul_int q (I.elim (fun z=>z.ok) fun z=>z.ok)
def ic(_i j:Int):Prop:=j≠0/\∃m:Nat,m<=9000/\j.natAbs<2^m
theorem EV:Cy X (binaryOp .FloorDiv) (rI ic fun i j=>.int (i.fdiv j)):=US fun i j _ _ _ _ _ M q=>by
 obtain⟨h0,m,hm,R⟩:=M;refine floordiv_int h0 q (.inl (PyProof.noPylong_of_log2 ?_));have I:j.natAbs≠0:=by lia
 have:j.natAbs.log2<m:=(Nat.log2_lt I).mpr R
 lia
mutual
def Br(K:PySem.W.Frag)(H:Hp):PyData->V->Prop
 |.none,v=>v=.BJ
 |.bool b,v=>v=.bl b
 |.int i,v=>v=.int i
 |.str x,v=>v=.str x
 |.tuple I,v=>∃a xs,v=.ref a/\Ao K H a xs/\D7 K H I xs
 |.list I,v=>∃a xs,v=.ref a/\AQ K H a xs/\D7 K H I xs
 |.dict _,_=>False
def D7(K:PySem.W.Frag)(H:Hp):List PyData->List V->Prop
 |[],xs=>xs=[]
 |d::I,xs=>∃x r,xs=x::r/\Br K H d x/\D7 K H I r
end
theorem AG.tup{K:PySem.W.Frag}{H H':Hp}{a:Addr}{xs:List V}(e:AG H H')(h:Ao K H a xs):Ao K H' a xs:=by
 rcases h with (h|⟨o,h⟩)|h
 .exact .inl (.inl (e _ _ h))
 .exact .inl (.inr ⟨o,e _ _ h⟩)
 .exact .inr h
mutual
theorem Br.reads{pins:List (Addr×Obj)}{σ:St}{H:Hp}{s:Shared}(I:Inv X pins σ H s):∀ {d:PyData} {v:V} {u:Value},Br X.K H d v->RelV v u->∃as,Reads s.heap u d as
 |.none,_,u,h,r=>by rw[Br]at h;subst h;cases r;exact⟨_,.none⟩
 |.bool b,_,u,h,r=>by rw[Br]at h;subst h;cases r;exact⟨_,.bool b⟩
 |.int i,_,u,h,r=>by rw[Br]at h;subst h;obtain⟨t,rfl⟩:=r;exact⟨_,.int i t⟩
 |.str x,_,u,h,r=>by rw[Br]at h;subst h;obtain⟨t,rfl⟩:=r;exact⟨_,.str x t⟩
 |.tuple ds,_,u,h,r=>by
  rw[Br]at h;obtain⟨a,xs,Z,Y,U⟩:=h;subst Z;cases r;obtain⟨T,M,⟨o,e,c,n,hd⟩,_⟩:=I.tuple Y;obtain⟨as,R⟩:=D7.reads I U M;exact⟨_,.tuple e c hd (by simpa using R)⟩
 |.list ds,_,u,h,r=>by
  rw[Br]at h;obtain⟨a,xs,Z,Y,U⟩:=h;subst Z;cases r;obtain⟨T,M,⟨o,n,e,c,_,hd⟩,_⟩:=I.list Y;obtain⟨as,R⟩:=D7.reads I U M;exact⟨_,.list e c hd (by simpa using R)⟩
 |.dict _,_,_,h,_=>by rw[Br]at h;exact h.elim
theorem D7.reads{pins:List (Addr×Obj)}{σ:St}{H:Hp}{s:Shared}(I:Inv X pins σ H s):∀ {ds:List PyData} {xs:List V} {us:List Value},D7 X.K H ds xs->Vals xs us->∃as,ReadsAll s.heap us ds as
 |[],_,us,h,r=>by rw[D7]at h;subst h;cases r;exact⟨_,.nil⟩
 |_::_,_,us,h,r=>by
  rw[D7]at h;obtain⟨x,q,e1,Z,Y⟩:=h;subst e1;cases r with
  |cons U T=>
   obtain⟨as,R⟩:=Br.reads I Z U;obtain⟨bs,M⟩:=D7.reads I Y T;exact⟨_,.cons R M⟩
end
def eW(K:PySem.W.Frag)(neg:Bool):R2:=fun x y H Q=>∃d e,Br K H d x/\Br K H e y/\SeqAt.shaped d=true/\SeqAt.shaped e=true/\Q (.bl (if neg then !PyData.eqv d e else PyData.eqv d e)) H
theorem Rg(Y:X.A.units+64<cLine):Cy X (compareOp .NotEq) (eW X.K true):=by
 intro pins s σ H x y v u Q I R M h;obtain⟨d,e,h1,Z,s1,s2,q⟩:=h;obtain⟨as,U⟩:=Br.reads I h1 R;obtain⟨bs,T⟩:=Br.reads I Z M;exact ne_dataH U T s1 s2 Y ⟨.bl _,H,I,rfl,q⟩
end
def KH(X:Cx)(I:List Expr)(t:TT):Prop :=
 ∀(pins:List (Addr×Obj)) (s:Shared) (σ:St) (H:Hp) (Q:Bool->Hp->Prop),Inv X pins σ H s->t σ H Q ->
  wpAny (model X.prog X.w) X.A (forIn I true fun c r=>if r=true then do let ok <-isTrue c X.env (eval c X.env);pure (ForInStep.yield ok) else pure (ForInStep.yield r)) (TP X pins σ Q) X.xe s
def CZ:TT:=fun _ H Q=>Q true H
theorem Bd{X:Cx}:KH X [] CZ:=fun _ _ σ H _ I h=>wpAny_tests_nil ⟨H,I,h⟩
def EF(N M:List Str)(sc I:Scope):List (Option Nat)->Nat->Bool
 |[],_=>true
 |none::r,i=>EF N M sc I r (i+1)
 |some j::r,i=>(match N[i]?,M[j]? with
   |some n,some m=>n==m&&sc.names.lookup n==some .free&&I.names.lookup n==some .cell
   |_,_=>false)&&EF N M sc I r (i+1)
theorem NY{N T:List Str}{sc I:Scope}:∀ {fr:List (Option Nat)} {k:Nat},EF N T sc I fr k=true->∀ {i j:Nat},fr[i]? = some (some j) ->
  ∃n,N[k+i]? = some n/\T[j]? = some n/\sc.names.lookup n=some .free/\I.names.lookup n=some .cell
 |[],_,_,i,j,e=>by simp at e
 |none::r,k,h,0,j,e=>by simp at e
 |none::r,k,h,i+1,j,e=>by
  have q:=NY (fr:=r) (k:=k+1) h (i:=i) (j:=j) (by simpa using e);have z:k+(i+1)=k+1+i:=by lia
  rw[z];exact q
 |some R::r,k,h,0,j,e=>by
  have Z:R=j:=by simpa using e
  subst Z;rw[EF,Bool.and_eq_true]at h;have M:=h.1;split at M
  .rename_i n m hn hm;simp only[Bool.and_eq_true,beq_iff_eq]at M;obtain⟨⟨rfl,Y⟩,U⟩:=M;exact⟨n,by simpa using hn,hm,Y,U⟩
  .cases M
 |some R::r,k,h,i+1,j,e=>by
  rw[EF,Bool.and_eq_true]at h;have q:=NY (fr:=r) (k:=k+1) h.2 (i:=i) (j:=j) (by simpa using e);have z:k+(i+1)=k+1+i:=by lia
  rw[z];exact q
def carry(fr:List (Option Nat))(σ:St):St:=fr.map fun o=>match o with
 |some j=>(σ[j]?).join
 |none=>none
theorem Wo{fr:List (Option Nat)}{σ:St}{i:Nat}{v:V}(h:(carry fr σ)[i]? = some (some v)):∃j,fr[i]? = some (some j)/\σ[j]? = some (some v):=by
 unfold carry at h;rw[List.getElem?_map]at h;cases e:fr[i]? with
 |none=>rw[e]at h;cases h
 |some o=>
  rw[e]at h;cases o with
  |none=>simp at h
  |some j=>
   refine⟨j,rfl,?_⟩;simp only[Option.map_some,Option.some.injEq]at h;cases q:σ[j]? with
   |none=>rw[q]at h;cases h
   |some w=>rw[q]at h;simp at h;rw[h]
theorem FK{env:Env}:∀(names:List (Str×NameKind)) (cs:List (Str×Addr)),(∀x∈names,x.2=NameKind.free->∃c,env.cells.lookup x.1=some c)->(∀x c,cs.lookup x=some c->env.cells.lookup x=some c) ->
  ∃cl,(forIn names cs (fun(x:Str×NameKind) (r:List (Str×Addr))=>do if(x.2==NameKind.free)=true then do let a <-cellOf env x.1;pure (ForInStep.yield ((x.1,a)::r)) else pure (ForInStep.yield r)):Sem (List (Str×Addr)))=pure cl /\
   (∀x c,cl.lookup x=some c->env.cells.lookup x=some c)/\(∀x,(∃c,cs.lookup x=some c)->∃c,cl.lookup x=some c)/\∀x∈names,x.2=NameKind.free->∃c,cl.lookup x.1=some c
 |[],cs,_,Y=>⟨cs,rfl,Y,fun _ q=>q,fun _ z=>(by cases z)⟩
 |(n,k)::r,cs,h1,Y=>by
  rw[List.forIn_cons];by_cases T:(k==NameKind.free)=true
  .obtain⟨c,hc⟩:=h1 (n,k) ag (by simpa using T);have h2':∀x M,((n,c)::cs).lookup x=some M->env.cells.lookup x=some M:=fun x M e=>by
    rw[List.lookup_cons]at e;cases I:x==n with
    |true=>rw[I]at e;have:=beq_iff_eq.mp I;subst this;simp at e;rw[<-e];exact hc
    |false=>rw[I]at e;exact Y x M e
   obtain⟨cl,q1,q2,R,Z⟩:=FK r ((n,c)::cs) (fun x I=>h1 x (aV _ I)) h2';have hn:∃M,cl.lookup n=some M:=R n ⟨c,by rw[List.lookup_cons,beq_self_eq_true]⟩;refine⟨cl,?_,q2,fun x I=>?_,fun x I U=>?_⟩
   .simp only[T,if_true];unfold cellOf;rw[hc];exact q1
   .refine R x ?_;rw[List.lookup_cons];cases hxn:x==n with
    |true=>exact⟨c,rfl⟩
    |false=>exact I
   .rcases aS.mp I with e|I
    .subst e;exact hn
    .exact Z x I U
  .obtain⟨cl,q1,q2,R,Z⟩:=FK r cs (fun x I=>h1 x (aV _ I)) Y;refine⟨cl,?_,q2,R,fun x I U=>?_⟩
   .simp only[T];exact q1
   .rcases aS.mp I with e|I
    .subst e;exact absurd (by simpa using U) T
    .exact Z x I U
def Ap(X:Cx)(scope:Scope)(cl:List (Str×Addr))(N:List Str)(C:Addr)(s₀:Shared)(H₀:Hp)(fp:List Addr):Cx where
 prog:=X.prog
 w:=X.w
 K:=X.K
 mg:=X.mg
 base:=X.base
 A:=X.A
 N:=N
 s₀:=s₀
 H₀:=H₀
 env:=compEnvC scope cl C X.env
 outer:=X.stack
 stack:=X.stack
 ex:=fp
 fn:=fun _=>false
 calm:=X.calm
 pn:=[]
 xe:=fun _ _=>False
def MF(U:TI)(fr:List (Option Nat))(ix:Nat)(M:TT)(Y:TE):TE:=fun σ H Q=>U σ H fun J H1=>∀D,H1 D=none->∃W:Nat->Nat->List V->Hp->Prop,(∃m,W 0 m [] (upd H1 D (.lst []))) /\
 ∀i m ys H,W i m ys H->H D=some (.lst ys)/\((J.stop i H/\Q (.ref D) H)\/(J.go i H/\ys.length<sizeLine/\∀x H',J.EJ i H x H' ->
  M ((carry fr σ).set ix (some x)) H' fun b T=>if b=true then Y ((carry fr σ).set ix (some x)) T fun y R=>R D=some (.lst ys)/\∃I,I<m/\W (i+1) I (ys++[y]) (upd R D (.lst (ys++[y])))
   else ∃I,I<m/\W (i+1) I ys T))
structure Cv(scope:Scope)(N:List Str)(x:Str)(ix:Nat):Prop where
 kind:scope.kind=.function
 cell:∀y∈scope.names,y.2≠.cell
 names:∀y∈scope.names,y.2=.local->scope.names.lookup y.1=some .local
 free:∀y∈scope.names,y.2=.free->scope.names.lookup y.1=some .free
 loc:scope.names.lookup x=some .local
 nd:N.Nodup
 at_:N[ix]? = some x
theorem lookup_mem{names:List (Str×NameKind)}{n:Str}{k:NameKind}:names.lookup n=some k->(n,k)∈names:=by
 induction names with
 |nil=>intro h;cases h
 |cons y r I=>
  intro h;obtain⟨m,j⟩:=y;rw[List.lookup_cons]at h;cases e:n==m with
  |true=>rw[e]at h;have:=beq_iff_eq.mp e;subst this;simp at h;subst h;exact ag
  |false=>rw[e]at h;exact aV _ (I h)
theorem Q3{scope:Scope}{env:Env}(Z:∀y∈scope.names,y.2≠.cell){n:Str}(h:(relabel scope env).names.lookup n=some .cell\/(relabel scope env).names.lookup n=some .free):∃k,(n,k)∈scope.names/\k=NameKind.free:=by
 have key:∀M,(relabel scope env).names.lookup n=some M->(M=.cell\/M=.free)->∃k,(n,k)∈scope.names/\k=NameKind.free:=fun M h Y=>by
  have hm:=lookup_mem h;unfold relabel at hm;obtain⟨⟨m,k⟩,R,e⟩:=aL.mp hm;dsimp only at e;by_cases I:(k==NameKind.free&&env.scope.kind==.function&&env.kindOf m==some .cell)=true
  .rw[if_pos I]at e
   injection e with T U
   subst T;refine⟨k,R,?_⟩;simp only[Bool.and_eq_true,beq_iff_eq]at I;exact I.1.1
  .rw[if_neg I]at e
   injection e with T U
   subst T U;rcases Y with rfl|rfl
   .exact absurd rfl (Z _ R)
   .exact⟨_,R,rfl⟩
 rcases h with h|h
 .exact key _ h (.inl rfl)
 .exact key _ h (.inr rfl)
section
variable{X:Cx}{elt iter:Expr}{x:Str}{px pos:Pos}{ifs:List Expr}{scope:Scope}{wi:TI}{fr:List (Option Nat)}{ix:Nat}{tif:TT}{te:TE}{N:List Str}
theorem JZ{prog:Program}{w:World}{A:Around}{R:Result->Shared->Prop}{s:Shared}{elt target iter:Expr}{ifs:List Expr}{scope:Scope}{pos:Pos}{it acc:Value}{env:Env}(I:Nat->Shared->Prop)
 (turn:∀n s,I n s->wpAny (model prog w) A (pyNext it) (fun r M=>match r with
   |none=>R (.ok .next) M
   |some v=>wpAny (model prog w) A (letOwnedTupleGo target it v>>=fun _=>assign target env v) (fun _ Z=>
     wpAny (model prog w) A (forIn ifs true fun c r=>if r=true then do let ok <-isTrue c env (eval c env);pure (ForInStep.yield ok) else pure (ForInStep.yield r)) (fun ok T=>
      if ok=true then wpAny (model prog w) A (eval elt env) (fun x Y=>
       wpAny (model prog w) A (call (.builtin "list.append") [acc,x]) (fun _ U=>∃m,m<n/\I m U) (notedBy (model prog w) A env fun e s'=>R (.error e) s') Y) (notedBy (model prog w) A env fun e s'=>R (.error e) s') T
      else ∃m,m<n/\I m T) (notedBy (model prog w) A env fun e s'=>R (.error e) s') Z) (notedBy (model prog w) A env fun e s'=>R (.error e) s') M) (notedBy (model prog w) A env fun e s'=>R (.error e) s') s)
 (n:Nat)(h:I n s) :
  codeAny (model prog w) A (.compLoop (.ListComp elt [⟨target,iter,ifs,0⟩] scope pos) 0 it acc env) R s:=by
 refine codeAny_loop rfl I (fun n s hI=>?_) n h;show wpAny _ A ((compTurn (.ListComp elt [⟨target,iter,ifs,0⟩] scope pos) 0 it acc env).onRaise (fun x=>do noteFrame x env;theTreesLotGoes x)) _ _ s;refine wpAny_noted ?_;rw[compTurn_list];refine aA (wpAny_standAt (aA (aj (turn n s hI) (fun r M h₁=>?_) fun _ _ h'=>h')));cases r with
 |none=>exact aC h₁
 |some v=>
  show wpAny (model prog w) A (letOwnedTupleGo target it v>>=fun _=>assign target env v>>=_) _ _ M;rw[<-bind_assoc];refine aA (aj h₁ (fun _ Z h₂=>aA (aj h₂ (fun ok T h₃=>?_) fun _ _ h'=>h')) fun _ _ h'=>h');cases ok with
  |false=>exact aC ⟨rfl,h₃⟩
  |true=>
   exact aA (aA (aj h₃ (fun x Y h₄=>aA (aj h₄ (fun _ U h₅=>aC (aC ⟨rfl,h₅⟩)) fun _ _ h'=>h')) fun _ _ h'=>h'))
theorem Mt{pins:List (Addr×Obj)}{σ:St}{U:Hp}{s2:Shared}{Q:VK}{it:Addr}{fp:List Addr}{tn:Nat->Heap->Prop}{J:It}{cl:List (Str×Addr)}{E:Value->Shared->Prop}{RR:Value->Addr->Result->Shared->Prop}
 (S:Cv scope N x ix)(hcalm:X.calm=true){tgE:Expr}{g:TG}(Rv:St->Prop)(r0:Rv (carry fr σ))(hpg:∀C,PG (Ap X scope cl N C s2 U fp) tgE g)(hfr:EF N X.N scope X.env.scope fr 0=true)(hlen:fr.length=N.length)
 (hif:∀cl C s₀ H₀ fp,KH (Ap X scope cl N C s₀ H₀ fp) ifs tif)(he:∀cl C s₀ H₀ fp,PE (Ap X scope cl N C s₀ H₀ fp) elt te)
 (R:Inv X pins σ U s2)(T:Turn X.prog X.w X.K tgE J fp it tn)(st2:tn 0 s2.heap)(f2:∀b∈fp,Jv X pins U b)
 (c1:∀x c,cl.lookup x=some c->X.env.cells.lookup x=some c)(c2:∀x∈scope.names,x.2=NameKind.free->∃c,cl.lookup x.1=some c)
 (W:∀D,U D=none->∃W:Nat->Nat->List V->Hp->Prop,(∃m,W 0 m [] (upd U D (.lst []))) /\
   ∀i m ys H,W i m ys H->H D=some (.lst ys)/\((J.stop i H/\Q (.ref D) H)\/(J.go i H/\ys.length<sizeLine/\∀x H',J.EJ i H x H'->∀σ',Rv σ'->g x σ' H' fun σ6 H6=>Rv σ6 /\
    tif σ6 H6 fun b U=>if b=true then te σ6 U fun y H3=>H3 D=some (.lst ys)/\∃m',m'<m/\W (i+1) m' (ys++[y]) (upd H3 D (.lst (ys++[y])))
     else ∃m',m'<m/\W (i+1) m' ys U)))
 (fin:∀(D C:Addr) (s':Shared) (H':Hp) m,s'.heap.Ns C m->Q (.ref D) H'->(∀h',Heap.SameBut C s'.heap h'->Inv X pins σ H' { s' with heap:=h'})->C≠D->(∀b o,s2.heap.get? b=some o->b≠C)->H' C=none->s2.heap.objs.size<=C->RR (.ref D) C (.ok .next) s') :
  wpAny (model X.prog X.w) X.A (newList []) (fun acc s₃=>wpAny (model X.prog X.w) X.A (newFunctionEnv scope X.env.globals cl [] X.env.qual none .none (some X.env)) (fun cenv s₄=>
   codeAny (model X.prog X.w) X.A (.compStart (.ListComp elt [⟨tgE,iter,ifs,0⟩] scope pos) 0 (.ref it) acc {cenv with scope:=relabel scope X.env}) (RR acc cenv.locals) s₄) E s₃) E s2:=by
 refine aZ (wpAny_newFunctionEnv S.cell (by intro y hy;simp at hy) (fun h₁ Z M=>?_) S.kind);dsimp only at Z M ⊢;generalize hHp:s2.heap.push { cls:=.type "list",dict:=none,data:=.seq ([]:List Value).toArray}=Y at Z M ⊢;have hC:Y.objs.size=s2.heap.objs.size+1:=by rw[<-hHp,Heap.size_push]
 have hDC:s2.heap.objs.size≠Y.objs.size:=by rw[hC];exact aO (Nat.lt_succ_self _)
 have below:∀b,b<s2.heap.objs.size->b≠Y.objs.size/\b≠s2.heap.objs.size:=fun b I=>⟨by rw[hC];exact aO (bV I),Nat.ne_of_lt I⟩;have old:∀b o,s2.heap.get? b=some o->h₁.get? b=some o:=fun b o e=>M.extBut b o (below b (aF e)).1 (aD _ (hHp ▸ aD _ e));have hacc:h₁.get? s2.heap.objs.size=some { cls:=.type "list",data:=.seq ([]:List Value).toArray}:=M.extBut _ _ hDC (aD _ (hHp ▸ aU _ rfl));have hD2:U s2.heap.objs.size=none:=R.Al.fresh (aG _);have hC2:U Y.objs.size=none:=R.Al.fresh (by rw[hC];exact Nat.le_succ _);have fpo:∀b∈fp,b<s2.heap.objs.size:=fun b I=>by
  obtain⟨o,e,_⟩:=T.obj _ _ st2 b I;exact aF e
 obtain⟨W,⟨m0,w0⟩,turn⟩:=W s2.heap.objs.size hD2;have ok:(Ap X scope cl N Y.objs.size s2 U fp).Ok:=by
  refine⟨R.ok.mod,S.kind,R.ok.glob,R.ok.blt,by show s2.heap.objs.size<=Y.objs.size;rw[hC];exact Nat.le_succ _,?_,?_,?_,fun _=>R.ok.hd hcalm,R.ok.frames,.inl rfl,?_,R.bs,Nat.le_trans R.ok.QJ R.sz,?_,?_,R.stack,R.UE,R.kt⟩
  .exact fun a b c h1 h2=>R.ok.inj a b c (c1 _ _ h1) (c1 _ _ h2)
  .intro y hy;obtain⟨k,hm,rfl⟩:=Q3 S.cell hy;exact c2 _ hm rfl
  .intro y c hf;cases hf
  .intro b I;refine⟨(below b (fpo b I)).1,fun y c e=>?_⟩;obtain⟨_,_,_,_,f5,_⟩:=f2 b I;exact f5 y c (c1 _ _ e)
  .intro b o e I;obtain⟨_,_,_,f4,_,_⟩:=f2 b I;rcases f4 with z|z
   .exact R.ok.SX b o e z
   .exact absurd (aP (aF e) (aR R.ok.QJ z)) (Nat.lt_irrefl _)
  .intro b I hs;obtain⟨_,f1,f3,_⟩:=f2 b I;rcases aS.mp (R.RG b hs) with z|z
   .exact f1 z
   .exact f3 z
 have I4:Inv (Ap X scope cl N Y.objs.size s2 U fp) [] (carry fr σ) (upd U s2.heap.objs.size (.lst [])) {s2 with heap:=h₁,toks:=s2.toks+([]:List (Str×Value)).length}:=by
  refine⟨ok,rfl,R.bare,Un.laid old (aG _) hD2,⟨_,Z,fun i y v h1 h2 h3=>?_⟩,fun y c e=>?_,?_,fun y c e=>?_,fun p hp=>(by cases hp),R.Al.laid old (aG _) ⟨ar _,[],0,.nil,hacc⟩,?_⟩
  .obtain⟨j,e1,e2⟩:=Wo h2;obtain⟨n,n1,n2,n3,n4⟩:=NY hfr e1;rw[Nat.zero_add]at n1;have:y=n:=by
    have h1':N[i]? = some y:=h1;rw[h1']at n1;exact aY n1
   subst this;obtain⟨m,hn,hl⟩:=R.loc;obtain⟨u,ru,lk⟩:=hl j y v n2 e2 (.inr (.inl n4));refine⟨u,ru,?_⟩;obtain⟨c,hc⟩:=c2 _ (lookup_mem n3) rfl;rcases lk with ⟨k1,_⟩|⟨_,c',hc',hcell⟩
   .have k1':X.env.scope.names.lookup y=some .local:=k1;rw[n4]at k1';cases k1'
   .have:=c1 _ _ hc;rw[hc']at this;cases this;refine .inr ⟨?_,c,hc,hcell.keeps old⟩;rcases h3 with z|z|z
    .obtain⟨k,hm⟩:∃k,(y,k)∈scope.names/\k=NameKind.local:=by
      have hm:=lookup_mem z;have hm':(y,NameKind.local)∈(relabel scope X.env).names:=hm;unfold relabel at hm';obtain⟨⟨m',k⟩,hy,e⟩:=aL.mp hm';dsimp only at e;by_cases hcond:(k==NameKind.free&&X.env.scope.kind==.function&&X.env.kindOf m'==some .cell)=true
      .rw[if_pos hcond]at e;injection e with _ e2';cases e2'
      .rw[if_neg hcond]at e;injection e with e1' e2';subst e1' e2';exact⟨_,hy,rfl⟩
     obtain⟨hm,rfl⟩:=hm;have:=S.names _ hm rfl;rw[n3]at this;cases this
    .exact .inl z
    .exact .inr z
  .obtain⟨v,z⟩:=R.cell y c (c1 _ _ e);exact⟨v,z.keeps old⟩
  .show upd U s2.heap.objs.size _ Y.objs.size=none;rw[AE (Ne.symm hDC)];exact hC2
  .obtain⟨v,o,ho,_⟩:=R.cell y c (c1 _ _ e);rw[AE (below c (aF ho)).2];exact R.HI y c (c1 _ _ e)
  .show(carry fr σ).length=N.length;unfold carry;rw[List.length_map];exact hlen
 have fpX:∀(p:List (Addr×Obj)) (H':Hp),(∀q∈p,q.1∈fp->False)->(∀b∈fp,H' b=none)->∀b∈fp,Jv (Ap X scope cl N Y.objs.size s2 U fp) p H' b:=fun p H' hp hn b I=>by
  obtain⟨_,f1,f3,f4,f5,_⟩:=f2 b I;refine⟨hn b I,(below b (fpo b I)).1,fun hs=>ok.Sd b I hs,.inl I,fun y c e=>f5 y c (c1 _ _ e),fun q hq e=>?_⟩;exact hp q hq (e ▸ I)
 have hxv:(relabel scope X.env).names.lookup x=some .local:=lookup_relabel_local S.loc;have loop:∀s₃:Shared,s₃={s2 with heap:=h₁,toks:=s2.toks+([]:List (Str×Value)).length} ->
   codeAny (model X.prog X.w) X.A (.compLoop (.ListComp elt [⟨tgE,iter,ifs,0⟩] scope pos) 0 (.ref it) (.ref s2.heap.objs.size) (compEnvC scope cl Y.objs.size X.env)) (RR (.ref s2.heap.objs.size) Y.objs.size) s₃:=by
  rintro s₃ rfl;refine JZ (fun n s'=>∃i ys σ' H',Inv (Ap X scope cl N Y.objs.size s2 U fp) [] σ' H' s'/\Rv σ'/\tn i s'.heap/\(∀b∈fp,H' b=none)/\W i n ys H') ?_ m0
   ⟨0,[],carry fr σ,_,I4,r0,T.keep _ _ _ st2 fun b _ o e=>old b o e,fun b I=>by rw[AE (below b (fpo b I)).2];exact(f2 b I).1,w0⟩
  rintro n s3 ⟨i,ys,σ3,H3,I3,hσ,st3,fr3,w3⟩;obtain⟨hD3,way⟩:=turn i n ys H3 w3;rcases way with ⟨stop,qn⟩|⟨go,hsz,step⟩
  .refine aj (T.done (Ap X scope cl N Y.objs.size s2 U fp) rfl rfl rfl hcalm i [] s3 σ3 H3 (fun _ _=>False) I3 (fpX [] H3 (fun _ z=>by cases z) fr3) st3 stop) (fun r s4 ⟨hr,I5⟩=>?_) fun _ _ z=>z.elim;subst hr;obtain⟨m,hn,_⟩:=id I5.loc;refine fin _ _ s4 H3 m hn qn (fun h' hs'=>?_) (Ne.symm hDC) (fun b o e=>(below b (aF e)).1) I5.free (by rw[hC];exact Nat.le_succ _);have nC:∀b u,H3 b=some u->b≠Y.objs.size:=fun b u e z=>by
    have:=I5.free;rw[show(Ap X scope cl N Y.objs.size s2 U fp).env.locals=Y.objs.size from rfl,<-z,e]at this;cases this
   have keepU:Un (K5 X.stack) fp U H3 s2.heap h':=by
    have u:=I5.base;refine⟨fun b o e n I hx=>?_,fun b o e n I hx=>?_,fun b o e n hx=>u.free b o e n hx,fun b o e hx=>?_,u.JC,u.JX,u.KJ,fun b xs o q e hx=>(hs'.2 b (below b (aF e)).1).trans (u.Ka b xs o q e hx)⟩
    .exact(hs'.2 b (below b (aF e)).1).trans (u.keep b o e n I hx)
    .obtain⟨sl,e1⟩:=u.slot b o e n I hx;exact⟨sl,(hs'.2 b (below b (aF e)).1).trans e1⟩
    .obtain⟨o',e1⟩:=u.there b o e hx;exact⟨o',(hs'.2 b (below b (aF e)).1).trans e1⟩
   have hok':C2 X.prog X.w H3 h':=fun b u e=>(I5.Al b u e).IC (fun c v hc q=>(hs'.2 c (by
    rcases hc with rfl|hc
    .exact nC _ _ e
    .exact nC _ _ hc)).trans q) (fun _ q=>q) fun _ _ q=>q
   refine R.iK (s':={s4 with heap:=h'}) (ch:=fp) I5.os keepU hok' I5.bare fun b I=>?_;obtain⟨_,f1,_,f4,f5,f6⟩:=f2 b I;exact⟨f4,f1,f5,f6⟩
  .refine aj (T.item (Ap X scope cl N Y.objs.size s2 U fp) rfl rfl rfl hcalm i [] s3 σ3 H3 (fun _ _=>False) I3 (fpX [] H3 (fun _ z=>by cases z) fr3) st3 go) (fun r s4 ⟨u,hr,h4⟩=>?_) fun _ _ z=>z.elim;subst hr;show wpAny (model X.prog X.w) X.A (letOwnedTupleGo tgE (.ref it) u>>=fun _=>assign tgE (compEnvC scope cl Y.objs.size X.env) u) _ _ s4;refine aA (aj h4 (fun _ s5 ⟨xv,H5,I5,r5,y5,st5,fr5⟩=>?_) fun _ _ z=>z.elim);have I5':=I5.pinned (fpX [] H5 (fun _ z=>by cases z) fr5) (T.obj _ _ st5);refine aj (hpg _ _ s5 σ3 H5 xv u _ I5' r5 (step xv H5 y5 σ3 hσ)) (fun _ s6 ⟨σ6,H6,I6,rv6,step5⟩=>?_) fun _ _ z=>z.elim;refine aj (hif _ _ _ _ _ _ s6 _ H6 _ I6 step5) (fun b s7 ⟨H7,I7,q7⟩=>?_) fun _ _ z=>z.elim;have again:∀ {s8:Shared} {H8:Hp} {k:Nat} {zs:List V},Inv (Ap X scope cl N Y.objs.size s2 U fp) ([]++Lo fp s5.heap) σ6 H8 s8->W (i+1) k zs H8->k<n ->
     ∃m,m<n/\∃i ys σ' H',Inv (Ap X scope cl N Y.objs.size s2 U fp) [] σ' H' s8/\Rv σ'/\tn i s8.heap/\(∀b∈fp,H' b=none)/\W i m ys H':=fun {s8 H8 k zs} I8 w8 hk=>by
    refine⟨k,hk,i+1,zs,_,H8,I8.Kl,rv6,T.keep _ _ _ st5 fun b I o e=>(I8.pin (b,o) (ah _ (ah _ (IX I e)))).1,fun b I=>?_,w8⟩;obtain⟨o,e,d⟩:=T.obj _ _ st5 b I;exact(I8.pin (b,o) (ah _ (ah _ (IX I e)))).2.1
   cases b with
   |false=>
    rw[if_neg aM]at q7 ⊢;obtain⟨k,hk,w7⟩:=q7;exact again I7 w7 hk
   |true=>
    rw[if_pos rfl]at q7 ⊢;refine aj (he _ _ _ _ _ _ s7 _ H7 _ I7 q7) (fun yv s8 ⟨y,H8,I8,r8,hD8,k,hk,w8⟩=>?_) fun _ _ z=>z.elim;refine aj (DJ (X:=Ap X scope cl N Y.objs.size s2 U fp) _ s8 _ H8 (.ref s2.heap.objs.size) [y] (.ref s2.heap.objs.size) [yv] (fun _ H9=>H9=upd H8 s2.heap.objs.size (.lst (ys++[y]))) I8 rfl (.cons r8 .nil) ⟨_,ys,y,rfl,rfl,hD8,hsz,rfl⟩) (fun _ s9 ⟨_,H9,I9,_,e9⟩=>?_) fun _ _ z=>z.elim;subst e9;exact again I9 w8 hk
 exact codeAny_compStart_list (loop _ rfl) (T.self X.A 0 _ _ _ (T.keep _ _ _ st2 fun b _ o e=>old b o e) (loop _ rfl))
theorem Nv{pins:List (Addr×Obj)}{σ:St}{M:Hp}{s2:Shared}{Q:VK}{it:Addr}{fp:List Addr}{tn:Nat->Heap->Prop}{J:It}{cl:List (Str×Addr)}{E:Value->Shared->Prop}{RR:Value->Addr->Result->Shared->Prop}
 (S:Cv scope N x ix)(R:X.calm=true)(hfr:EF N X.N scope X.env.scope fr 0=true)(hlen:fr.length=N.length)
 (hif:∀cl C s₀ H₀ fp,KH (Ap X scope cl N C s₀ H₀ fp) ifs tif)(he:∀cl C s₀ H₀ fp,PE (Ap X scope cl N C s₀ H₀ fp) elt te)
 (I2:Inv X pins σ M s2)(T:Turn X.prog X.w X.K (.Name x px) J fp it tn)(st2:tn 0 s2.heap)(f2:∀b∈fp,Jv X pins M b)
 (c1:∀x c,cl.lookup x=some c->X.env.cells.lookup x=some c)(c2:∀x∈scope.names,x.2=NameKind.free->∃c,cl.lookup x.1=some c)
 (W:∀D,M D=none->∃W:Nat->Nat->List V->Hp->Prop,(∃m,W 0 m [] (upd M D (.lst []))) /\
   ∀i m ys H,W i m ys H->H D=some (.lst ys)/\((J.stop i H/\Q (.ref D) H)\/(J.go i H/\ys.length<sizeLine/\∀x H',J.EJ i H x H' ->
    tif ((carry fr σ).set ix (some x)) H' fun b M=>if b=true then te ((carry fr σ).set ix (some x)) M fun y H3=>H3 D=some (.lst ys)/\∃m',m'<m/\W (i+1) m' (ys++[y]) (upd H3 D (.lst (ys++[y])))
     else ∃m',m'<m/\W (i+1) m' ys M)))
 (fin:∀(D C:Addr) (s':Shared) (H':Hp) m,s'.heap.Ns C m->Q (.ref D) H'->(∀h',Heap.SameBut C s'.heap h'->Inv X pins σ H' { s' with heap:=h'})->C≠D->(∀b o,s2.heap.get? b=some o->b≠C)->H' C=none->s2.heap.objs.size<=C->RR (.ref D) C (.ok .next) s') :
  wpAny (model X.prog X.w) X.A (newList []) (fun acc Z=>wpAny (model X.prog X.w) X.A (newFunctionEnv scope X.env.globals cl [] X.env.qual none .none (some X.env)) (fun I Y=>
   codeAny (model X.prog X.w) X.A (.compStart (.ListComp elt [⟨.Name x px,iter,ifs,0⟩] scope pos) 0 (.ref it) acc {I with scope:=relabel scope X.env}) (RR acc I.locals) Y) E Z) E s2:=by
 have hxv:(relabel scope X.env).names.lookup x=some .local:=lookup_relabel_local S.loc;refine Mt S R (fun U=>∀v,U.set ix v=(carry fr σ).set ix v) (fun _=>rfl) (fun C=>Am (X:=Ap X scope cl N C s2 M fp) S.nd S.at_ (.inl hxv) (.inr hxv)) hfr hlen hif he I2 T st2 f2 c1 c2 (fun D hD=>?_) fin;obtain⟨W,w0,st⟩:=W D hD;refine⟨W,w0,fun i m ys H w=>?_⟩;obtain⟨h1,h2|⟨h2,h3,h4⟩⟩:=st i m ys H w
 .exact⟨h1,.inl h2⟩
 .refine⟨h1,.inr ⟨h2,h3,fun x H' hy U hr=>?_⟩⟩;have:=h4 x H' hy;rw[<-hr]at this;exact⟨fun v=>by rw[List.set_set,hr],this⟩
theorem bx(S:Cv scope N x ix)(Y:X.calm=true)(hfr:EF N X.N scope X.env.scope fr 0=true)(Z:fr.length=N.length)(R:∀y∈scope.names,y.2=.free->X.env.scope.names.lookup y.1=some .cell\/X.env.scope.names.lookup y.1=some .free)
 (hi:PI X (.Name x px) iter wi)(hif:∀cl C s₀ H₀ fp,KH (Ap X scope cl N C s₀ H₀ fp) ifs tif)(he:∀cl C s₀ H₀ fp,PE (Ap X scope cl N C s₀ H₀ fp) elt te)
 (hs:∀x,foldedSetIterable iter X.env x=pure x:=by intro _;rfl):PE X (.ListComp elt [⟨.Name x px,iter,ifs,0⟩] scope pos) (MF wi fr ix tif te):=by
 intro pins s σ H Q I hw;obtain⟨cl,U,c1,_,c2⟩:=FK (env:=X.env) scope.names [] (fun y hy hf=>I.ok.has y.1 (R y hy hf)) (fun y c z=>by cases z);have M:closureFor scope X.env=pure cl:=by
  have e:closureFor scope X.env=((forIn scope.names [] (fun(x:Str×NameKind) (r:List (Str×Addr))=>do if(x.2==NameKind.free)=true then do let a <-cellOf X.env x.1;pure (ForInStep.yield ((x.1,a)::r)) else pure (ForInStep.yield r)):Sem (List (Str×Addr)))>>=fun cs=>pure cs):=rfl;rw[e,U]
  rfl
 rw[eval_ListComp];refine wpAny_comprehension_free (use:=none) rfl hs M S.kind S.names (A5 (hi pins s σ H _ I hw) fun v s1 h1=>A5 h1 fun itv s2 h2=>?_);obtain⟨it,fp,tn,J,H2,e,I2,T,st2,f2,W⟩:=h2;subst e;refine Nv (RR:=fun acc C=>compPost (model X.prog X.w) X.A X.xe none (EP X pins σ Q) acc C) S Y hfr Z hif he I2 T st2 f2 c1 c2 W ?_;intro D C s' H' m hn q hI _ _ _ _;exact⟨m,hn,fun h' hs'=>⟨.ref D,H',hI h' hs',rfl,q⟩⟩
theorem VZ{i : Nat}{y : Str}{py spos : Pos}(hN : X.N.Nodup)(hy : X.N[i]? = some y)(hly : X.env.scope.names.lookup y = some .local)(S : Cv scope N x ix)(hcalm : X.calm = true)(hfr : EF N X.N scope X.env.scope fr 0 = true)(hlen : fr.length = N.length)
 (hfree : ∀ y∈scope.names,y.2 = .free->X.env.scope.names.lookup y.1 = some .cell\/X.env.scope.names.lookup y.1 = some .free)
 (hi : PI X (.Name x px) iter wi)(hif : ∀ cl C s₀ H₀ fp,KH (Ap X scope cl N C s₀ H₀ fp) ifs tif)(he : ∀ cl C s₀ H₀ fp,PE (Ap X scope cl N C s₀ H₀ fp) elt te)
 (hsw : swapsWith (.ListComp elt [⟨.Name x px,iter,ifs,0⟩] scope pos) (some (.Name y py)) spos.line X.env = pure true:=by rfl)
 (hs : ∀ x,foldedSetIterable iter X.env x = pure x:=by intro _; rfl) :
    PS X (.Assign [.Name y py] (.ListComp elt [⟨.Name x px,iter,ifs,0⟩] scope pos) spos) (M9 (MF wi fr ix tif te) (C1 i)):=by
  intro pins s σ H D I hw
  obtain ⟨cl,hclos,c1,_,c2⟩:=FK (env:=X.env) scope.names [] (fun y hy hf => I.ok.has y.1 (hfree y hy hf)) (fun y c z => by cases z)
  have hclos' : closureFor scope X.env = pure cl:=by
    have e : closureFor scope X.env = ((forIn scope.names [] (fun (x : Str×NameKind) (r : List (Str×Addr)) => do if (x.2 == NameKind.free) = true then do let a <- cellOf X.env x.1; pure (ForInStep.yield ((x.1,a) :: r)) else pure (ForInStep.yield r)):Sem (List (Str×Addr))) >>= fun cs => pure cs):=rfl
    rw [e,hclos]
    rfl
  rw [exec_Assign_Name_used _ _ _ _ hsw]
  refine aA (wpAny_standAt (aA ?_))
  show wpAny _ X.A (do let _ <- comprehension (.ListComp elt [⟨.Name x px,iter,ifs,0⟩] scope pos) scope X.env _ (newList []) false (eval iter X.env) (some (assign (.Name y py) X.env))) _ _ s
  refine aA (aj (wpAny_comprehension_free (use:=some (assign (.Name y py) X.env)) (Q:=fun _ s' => SP X pins D .next s') rfl hs hclos' S.kind S.names
    (A5 (hi pins s σ H _ I hw) fun v s1 h1 => A5 h1 fun itv s2 h2 => ?_)) (fun _ s' hq => aC (aC hq)) fun _ _ e => e)
  obtain ⟨it,fp,tn,J,H2,e,I2,T,st2,f2,W⟩:=h2
  subst e
  refine Nv (Q:=fun x H1 => C1 i x σ H1 D.nx) (RR:=fun acc C => compPost (model X.prog X.w) X.A X.xe (some (assign (.Name y py) X.env)) (fun _ s' => SP X pins D .next s') acc C) S hcalm hfr hlen hif he I2 T st2 f2 c1 c2 W ?_
  intro D' C s' H' m hn q hI hCD hold hfreeC hsz
  have I5 : Inv X pins σ H' s':=hI s'.heap (Heap.SameBut.refl ..)
  refine wpAny_assign_Name (Li I5 hN hy (.inl hly) (v:=.ref D') rfl (fun s'' I6 ⟨a,hsb,ha⟩ => ?_) (.inr hly))
  have hL : C≠X.env.locals:=fun z => by
    obtain ⟨_,⟨o,_,_,e,_⟩,_⟩:=I2.loc
    exact hold _ _ e z.symm
  have hcl : ∀ z c,X.env.cells.lookup z = some c->c≠C:=fun z c e => by
    obtain ⟨_,o,ho,_⟩:=I2.cell z c e
    exact hold _ _ ho
  have hCa : C≠a:=by
    rcases ha with z | z
    . rw [z]; exact hL
    . exact Ne.symm (hcl _ _ z)
  refine ⟨m,hn.sameBut hsb hCa,fun h' hs' => ⟨_,H',I6.turned (t':=s''.toks) (it:=C) (fun b o hb e => (hs'.2 b hb).trans e) hfreeC hL (.inr (aR I2.sz hsz)) hcl fun p hp => ?_,q⟩⟩
  obtain ⟨e,_⟩:=I2.pin p hp
  exact hold _ _ e
end
end L2
namespace FM
def gi(a b:Int):Int:=(Int.gcd a b:Int)
theorem Qz(a b:Int):Int.gcd b (a.fmod b)=Int.gcd a b:=by
 have e:a.fmod b=a-b*a.fdiv b:=Int.fmod_def a b;rw[e,Int.gcd_comm a b];exact Int.gcd_sub_mul_left_right b a (a.fdiv b)
theorem Po(a b:Int)(I:b≠0):(a.fmod b).natAbs<b.natAbs:=by
 rcases Int.lt_or_gt_of_ne I with h|h
 .have T:-(a.fmod b)=(-a).fmod (-b):=by
   rw[Int.fmod_def,Int.fmod_def,Int.neg_fdiv_neg];have:-b*a.fdiv b=-(b*a.fdiv b):=Int.neg_mul _ _
   lia
  have R:=Int.fmod_nonneg_of_pos (-a) (show 0 < -b by lia);have M:=Int.fmod_lt_of_pos (-a) (show 0 < -b by lia)
  lia
 .have R:=Int.fmod_nonneg_of_pos a h;have M:=Int.fmod_lt_of_pos a h
  lia
theorem Lu{a b:Int}(I:b≠0):0<gi a b:=by
 have:0<Int.gcd a b:=Int.gcd_pos_of_ne_zero_right a I;unfold gi;lia
theorem ZV{a b:Int}(M:b≠0):(gi a b).natAbs<=b.natAbs:=by
 have h:Int.gcd a b ∣ b.natAbs:=by
  have:=Int.gcd_dvd_right a b;exact Int.natAbs_dvd_natAbs.mpr this
 have I:0<b.natAbs:=by lia
 have:=Nat.le_of_dvd I h;unfold gi;lia
def gs(t b:Int):Int:=if b<0 then -gi t b else gi t b
theorem Zc{t b:Int}(I:b≠0):gs t b≠0:=by
 have:=Lu (a:=t) I;unfold gs;split<;>lia
theorem ZS{t b:Int}(I:b≠0):(gs t b).natAbs<=b.natAbs:=by
 have:=ZV (a:=t) I;unfold gs;split<;>lia
theorem FN{g x k:Int}(I:g≠0)(e:x=g*k):x.fdiv g=k:=by
 subst e;exact Int.mul_fdiv_cancel_left k I
theorem Mr(a b:Int):gi a b ∣ a:=Int.gcd_dvd_left a b
theorem Ly(a b:Int):gi a b ∣ b:=Int.gcd_dvd_right a b
theorem RT{t b:Int}(M:b≠0):t.fdiv (gs t b)=(Rat.divInt t b).num:=by
 have R:=Lu (a:=t) M;obtain⟨k,I⟩:=Mr t b;rw[Rat.num_divInt,Int.gcd_comm b t];show t.fdiv (gs t b)=b.sign*t / gi t b;unfold gs;generalize gi t b=g at R I ⊢;rcases Int.lt_or_gt_of_ne M with h|h
 .rw[if_pos h,Int.sign_eq_neg_one_of_neg h,FN (k:=-k) (by lia) (by rw[I];simp[Int.mul_neg,Int.neg_mul])];have:-1*t=g*(-k):=by rw[I];simp[Int.mul_neg]
  rw[this,Int.mul_ediv_cancel_left _ (by lia)]
 .rw[if_neg (by lia),Int.sign_eq_one_of_pos h,FN (k:=k) (by lia) I,Int.one_mul,I,Int.mul_ediv_cancel_left _ (by lia)]
theorem Ry{t b:Int}(M:b≠0):b.fdiv (gs t b)=((Rat.divInt t b).den:Int):=by
 have R:=Lu (a:=t) M;obtain⟨k,I⟩:=Ly t b;rw[Rat.den_divInt,if_neg M,Int.gcd_comm b t];have e:(((b.natAbs / Int.gcd t b:Nat)):Int)=(b.natAbs:Int) / gi t b:=by unfold gi;simp
 rw[e];unfold gs;generalize gi t b=g at R I ⊢;rcases Int.lt_or_gt_of_ne M with h|h
 .rw[if_pos h,FN (k:=-k) (by lia) (by rw[Int.neg_mul_neg];exact I)];have:(b.natAbs:Int)=g*(-k):=by rw[Int.mul_neg,<-I];lia
  rw[this,Int.mul_ediv_cancel_left _ (by lia)]
 .rw[if_neg (by lia),FN (k:=k) (by lia) I];have:(b.natAbs:Int)=g*k:=by rw[<-I];lia
  rw[this,Int.mul_ediv_cancel_left _ (by lia)]
theorem BX(a b:Int):(a.fdiv b).natAbs<=a.natAbs:=by
 cases a with
 |ofNat n=>
  cases n with
  |zero=>
   have e:Int.fdiv (.ofNat 0) b=0:=Int.zero_fdiv b;rw[e];exact ar _
  |succ k=>
   cases b with
   |ofNat j=>exact Nat.div_le_self (k+1) j
   |negSucc j=>exact Nat.succ_le_succ (Nat.div_le_self k (j+1))
 |negSucc k=>
  cases b with
  |ofNat j=>
   cases j with
   |zero=>exact ar _
   |succ j=>exact Nat.succ_le_succ (Nat.div_le_self k (j+1))
  |negSucc j=>exact Nat.div_le_self (k+1) (j+1)
theorem df{t b:Int}(I:b≠0):(Rat.divInt t b).num.natAbs<=t.natAbs:=by
 rw[<-RT I];exact BX _ _
theorem dY{t b:Int}(I:b≠0):(Rat.divInt t b).den<=b.natAbs:=by
 have h:=BX b (gs t b);rw[Ry I]at h
 simpa using h
theorem OB(p:Rat):(p.den:Int)≠0:=by
 have:=p.den_nz
 lia
theorem D4(p:Rat):Rat.divInt p.num p.den=p:=Rat.num_divInt_den p
theorem et(p q:Rat):Rat.divInt (p.num*q.den+q.num*p.den) (p.den*q.den)=p+q:=by
 rw[<-Rat.divInt_add_divInt _ _ (OB p) (OB q),D4,D4]
theorem Yv(p q:Rat):Rat.divInt (p.num*q.num) (p.den*q.den)=p*q:=by
 rw[<-Rat.divInt_mul_divInt,D4,D4]
theorem Us(p q:Rat):(p.den:Int)*q.den≠0:=Int.mul_ne_zero (OB p) (OB q)
theorem C8{x y:Int}{m n:Nat}(M:x.natAbs<2^m)(I:y.natAbs<2^n):(x*y).natAbs<2^(m+n):=by
 rw[Int.natAbs_mul,Nat.pow_add];exact Nat.mul_lt_mul'' M I
theorem Ce{x:Nat}{m n:Nat}(I:x<2^m)(h:m<=n):x<2^n:=aP I (bN (by decide) h)
def Fits(p:Rat)(n:Nat):Prop:=p.num.natAbs<2^n/\p.den<2^n
theorem Fits.mono{p:Rat}{m n:Nat}(h:Fits p m)(l:m<=n:=by decide):Fits p n:=⟨Ce h.1 l,Ce h.2 l⟩
theorem Fits.d{p:Rat}{n:Nat}(h:Fits p n):((p.den:Int)).natAbs<2^n:=by simpa using h.2
theorem Fits.dU{t b:Int}{n:Nat}(I:b≠0)(h1:t.natAbs<2^n)(M:b.natAbs<2^n):Fits (Rat.divInt t b) n :=
 ⟨aQ (df I) h1,Nat.lt_of_le_of_lt (dY I) M⟩
theorem dd{p q:Rat}{m n:Nat}(h:Fits p m)(k:Fits q n):((p.den:Int)*q.den).natAbs<2^(m+n):=C8 h.d k.d
end FM
namespace FM
theorem cA(a b:Int):Int.gcd (if a<0 then -a else a) (if b<0 then -b else b)=Int.gcd a b:=by
 split<;>split<;>simp[Int.gcd_neg,Int.neg_gcd]
theorem abs_nonneg(a:Int):0<=(if a<0 then -a else a):=by split<;>lia
theorem dk{g a b:Int}(h:Int.gcd g 0=Int.gcd a b)(h0:0<=g):g=gi a b:=by
 unfold gi;rw[<-h,Int.gcd_zero_right]
 lia
theorem Zl{g a b:Int}(h:Int.gcd g 0=Int.gcd a b):(if g<0 then -g else g)=gi a b:=by
 unfold gi;rw[<-h,Int.gcd_zero_right];split<;>lia
theorem fmod_nonneg{g l:Int}(I:l≠0)(h:0<=l):0<=g.fmod l:=Int.fmod_nonneg_of_pos g (by lia)
end FM
namespace L2
open PySem PySem.Spec PyProof.Rows
structure Fn(K:PySem.W.Frag)(mg:Str->Option Value)(x:Str)(st:Stmt)(ps:List Str)(f:Addr)(fd:FuncData):Prop where
 F:UJ K x x st f fd
 b:Binds K fd ps []
 m:mg x=some (.ref f)
section
variable{X:Cx}{k:Nat}{f:Addr}{fd:FuncData}{ps:List Str}{sp:Sp}{x:Str}{st:Stmt}{p pos:Pos}{e:Expr}{es:List Expr}{t:TA}
theorem Aa(T:Fn X.K X.mg x st ps f fd)(G:AM X.prog X.w X.K X.mg X.base AZ k f fd ps sp)(R:Dz k X.A)(U:Gl X x)(ha:PA X (e::es) t)
 (M:(x==("__debug__" : Str))=false:=by decide)(Y:starEach (e::es) X.env=(false,eval e X.env)::starEach es X.env:=by rfl)(I:(backTo pos (starEach es X.env)).any (·.1)=false:=by rfl) :
  PE X (.Call (.Name x p) (e::es) [] pos) (ZZ sp [] E0 t):=Zf G R U T.m T.F.kp T.b .nil iT ha M Y I
end
theorem F7{t u:TS}{D:Ends}{σ:St}{H:Hp}(P:St->Hp->Prop)(h1:∀nx:St->Hp->Prop,(∀I H',P I H'->nx I H')->t {D with nx:=nx} σ H)(M:∀I H',P I H'->u D I H'):F5 t u D σ H:=h1 _ M
theorem Uj:2<=sizeLine:=by decide
theorem AL{H:Hp}{p:Addr}(h:H p=none)(o:HO):AG H (upd H p o):=fun b u q=>by rw[AE (AJ q h)];exact q
def SameBut(l:Addr)(H H':Hp):Prop:=∀b o,b≠l->H b=some o->H' b=some o
theorem SameBut.of{l:Addr}{H H':Hp}(h:AG H H'):SameBut l H H':=fun b o _ q=>h b o q
theorem SameBut.trans{l:Addr}{H H1 I:Hp}(a:SameBut l H H1)(b:SameBut l H1 I):SameBut l H I:=fun c o n h=>b c o n (a c o n h)
theorem SameBut.upd{l:Addr}{H:Hp}{o:HO}:SameBut l H (upd H l o):=fun b u n q=>by rw[AE n];exact q
def Ll(p:Rat):List V:=[.int p.num,.int (p.den:Int)]
def Ac(p:Rat):PyData:=.tuple [.int p.num,.int (p.den:Int)]
theorem JK{i j:Int}{m n:Nat}(h1:i.natAbs<2^m)(I:j.natAbs<2^n)(h:m+n<=1000000):OY i j\/MJ i j :=
 .inr ⟨m+n,h,FM.Ce h1 (Nat.le_add_right _ _),FM.Ce I (Nat.le_add_left _ _)⟩
def j7(I:Addr)(cls:Value):HO:=.ext fun h=>∃o vs,h.get? I=some o/\o.cls=cls/\o.data=.fields vs
open PySem PySem.Spec PyProof.Rows PySem.Builtin.ObjectAttr PySem.Builtin.Getset_descriptor
def Rh:V->Value
 |.ref C=>.ref C
 |.ty n=>.type n
 |_=>.none
theorem Z9{c:V}{u:Value}(r:RelV c u)(h:Rh c≠.none):u=Rh c:=by
 cases c with
 |ref C=>exact r
 |ty n=>exact r
 |_=>exact absurd rfl h
section
variable{X:Cx}
def kG(K:PySem.W.Frag):List V->Hp->VK->Prop:=fun xs H Q=>∃x c t b,xs=[x,c]/\Rh c≠.none/\GU K H x t/\PySem.W.kitOne K t (Rh c)=some b/\Q (.bl b) H
theorem Bn:FH X (.builtin "isinstance") (kG X.K):=by
 intro pins s σ H xs us Q I r h;obtain⟨x,c,t,b,rfl,U,ty,e,q⟩:=h;obtain⟨u,v,rfl,T,R⟩:=r.two;rw[Z9 R U];exact Wf I T ty e fun M=>⟨.bl b,H,I.tok M,rfl,q⟩
end
theorem cz(K:PySem.W.Frag):PySem.W.kitOne K (.type "tuple") (.type "tuple")=some true:=rfl
theorem dQ(K:PySem.W.Frag):PySem.W.kitOne K (.type "int") (.type "int")=some true:=rfl
theorem cw(K:PySem.W.Frag):PySem.W.kitOne K (.type "bool") (.type "bool")=some true:=rfl
theorem dG(K:PySem.W.Frag):PySem.W.kitOne K (.type "int") (.type "bool")=some false:=by kernel_rfl
theorem dw(K:PySem.W.Frag):PySem.W.kitOne K (.type "bool") (.type "int")=some true:=by kernel_rfl
theorem gR(K:PySem.W.Frag):PySem.W.kitOne K (.type "list") (.type "tuple")=some false:=by kernel_rfl
theorem cq(K:PySem.W.Frag):PySem.W.kitOne K (.type "tuple") (.type "list")=some false:=by kernel_rfl
theorem fg(K:PySem.W.Frag):PySem.W.kitOne K (.type "list") (.type "list")=some true:=rfl
theorem fK(K:PySem.W.Frag):PySem.W.kitOne K (.type "int") (.type "tuple")=some false:=by kernel_rfl
theorem dA(K:PySem.W.Frag):PySem.W.kitOne K (.type "bool") (.type "tuple")=some false:=by kernel_rfl
theorem fF(K:PySem.W.Frag):PySem.W.kitOne K (.type "NoneType") (.type "tuple")=some false:=by kernel_rfl
theorem gQ(K:PySem.W.Frag):PySem.W.kitOne K (.type "str") (.type "tuple")=some false:=by kernel_rfl
theorem cR(K:PySem.W.Frag):PySem.W.kitOne K (.type "tuple") (.type "int")=some false:=by kernel_rfl
theorem dM(K:PySem.W.Frag):PySem.W.kitOne K (.type "list") (.type "int")=some false:=by kernel_rfl
theorem eL(K:PySem.W.Frag):PySem.W.kitOne K (.type "NoneType") (.type "int")=some false:=by kernel_rfl
theorem eX(K:PySem.W.Frag):PySem.W.kitOne K (.type "str") (.type "int")=some false:=by kernel_rfl
theorem eZ(K:PySem.W.Frag):PySem.W.kitOne K (.type "int") (.type "list")=some false:=by kernel_rfl
theorem dj(K:PySem.W.Frag):PySem.W.kitOne K (.type "bool") (.type "list")=some false:=by kernel_rfl
theorem fQ(K:PySem.W.Frag):PySem.W.kitOne K (.type "NoneType") (.type "list")=some false:=by kernel_rfl
theorem eY(K:PySem.W.Frag):PySem.W.kitOne K (.type "str") (.type "list")=some false:=by kernel_rfl
def freeOk(I:Scope)(names:List (Str×NameKind)):Bool:=names.all fun y=>y.2 != .free||I.names.lookup y.1==some .cell||I.names.lookup y.1==some .free
theorem Jc{I:Scope}{names:List (Str×NameKind)}(h:freeOk I names=true):∀y∈names,y.2=.free->I.names.lookup y.1=some .cell\/I.names.lookup y.1=some .free:=fun y M R=>by
 have q:=List.all_eq_true.mp h y M;rw[R]at q;simp only[bne_self_eq_false,Bool.false_or,Bool.or_eq_true,beq_iff_eq]at q;exact q
def Bk(scope:Scope)(N:List Str)(x:Str)(ix:Nat):Bool :=
 scope.kind==.function&&(scope.names.all fun y=>y.2 != .cell&&(y.2 != .local||scope.names.lookup y.1==some .local)&&(y.2 != .free||scope.names.lookup y.1==some .free))&&scope.names.lookup x==some .local&&decide N.Nodup&&N[ix]? == some x
theorem EG{scope:Scope}{N:List Str}{x:Str}{ix:Nat}(h:Bk scope N x ix=true):Cv scope N x ix:=by
 unfold Bk at h;simp only[Bool.and_eq_true,beq_iff_eq,decide_eq_true_eq,List.all_eq_true,bne_iff_ne,Bool.or_eq_true]at h;obtain⟨⟨⟨⟨Z,R⟩,Y⟩,U⟩,T⟩:=h;exact⟨Z,fun y I=>(R y I).1.1,fun y I M=>(R y I).1.2.resolve_left fun z=>z M,fun y I M=>(R y I).2.resolve_left fun z=>z M,Y,U,T⟩
section
variable{X:Cx}{elt iter:Expr}{x:Str}{px pos:Pos}{ifs:List Expr}{scope:Scope}{wi:TI}{tif:TT}{te:TE}
theorem CU(N:List Str)(ix:Nat)(fr:List (Option Nat))(hi:PI X (.Name x px) iter wi)(I:∀cl C s₀ H₀ fp,KH (Ap X scope cl N C s₀ H₀ fp) ifs tif)(R:∀cl C s₀ H₀ fp,PE (Ap X scope cl N C s₀ H₀ fp) elt te)
 (h1:Bk scope N x ix=true:=by decide +kernel)(Z:X.calm=true:=by rfl)(Y:EF N X.N scope X.env.scope fr 0=true:=by rfl)(U:fr.length=N.length:=by rfl)(T:freeOk X.env.scope scope.names=true:=by rfl)
 (M:∀x,foldedSetIterable iter X.env x=pure x:=by intro _;rfl):PE X (.ListComp elt [⟨.Name x px,iter,ifs,0⟩] scope pos) (MF wi fr ix tif te) :=
 bx (EG h1) Z Y U (Jc T) hi I R M
theorem El{i:Nat}{y:Str}{U I:Pos}(N:List Str)(ix:Nat)(fr:List (Option Nat))(hN:X.N.Nodup)(Y:X.N[i]? = some y)(R:X.env.scope.names.lookup y=some .local)
 (hi:PI X (.Name x px) iter wi)(T:∀cl C s₀ H₀ fp,KH (Ap X scope cl N C s₀ H₀ fp) ifs tif)(he:∀cl C s₀ H₀ fp,PE (Ap X scope cl N C s₀ H₀ fp) elt te)
 (h1:Bk scope N x ix=true:=by decide +kernel)(h2:X.calm=true:=by rfl)(h3:EF N X.N scope X.env.scope fr 0=true:=by rfl)(h4:fr.length=N.length:=by rfl)(h5:freeOk X.env.scope scope.names=true:=by rfl)
 (M:swapsWith (.ListComp elt [⟨.Name x px,iter,ifs,0⟩] scope pos) (some (.Name y U)) I.line X.env=pure true:=by rfl)
 (Z:∀x,foldedSetIterable iter X.env x=pure x:=by intro _;rfl):PS X (.Assign [.Name y U] (.ListComp elt [⟨.Name x px,iter,ifs,0⟩] scope pos) I) (M9 (MF wi fr ix tif te) (C1 i)) :=
 VZ hN Y R (EG h1) h2 h3 h4 (Jc h5) hi T he M Z
end
end L2
inductive Tr where
 |nil
 |cons (b r:Tr)
 deriving DecidableEq
namespace Tr
def deep:Tr->Nat
 |.nil=>0
 |.cons b r=>max (b.deep+1) r.deep
end Tr
namespace SM
open PySem.W PyProof.Rows
def Wp{α:Type}(lt:Nat->Nat->Bool)(n:Nat):KasT α->(α->Prop)->Prop
 |.ret a,Q=>Q a
 |.ask i j k,Q=>i<n/\j<n/\Wp lt n (k (lt i j)) Q
theorem Wp.mono{α:Type}{lt:Nat->Nat->Bool}{n:Nat}{Q M:α->Prop}(I:∀a,Q a->M a):∀t:KasT α,Wp lt n t Q->Wp lt n t M
 |.ret a,h=>I a h
 |.ask i j k,h=>⟨h.1,h.2.1,Wp.mono I (k (lt i j)) h.2.2⟩
theorem Wp.bind{α β:Type}{lt:Nat->Nat->Bool}{n:Nat}{f:α->KasT β}{Q:β->Prop}:∀t:KasT α,Wp lt n t (fun a=>Wp lt n (f a) Q)->Wp lt n (t.bind f) Q
 |.ret _,h=>h
 |.ask i j k,h=>⟨h.1,h.2.1,Wp.bind (k (lt i j)) h.2.2⟩
theorem JU{p:Array Nat}{i j:Nat}(I:j<=p.size)(k:Nat):(kas_rev p i j).getD k 0=if i<=k/\k<j then p.getD (i+j-1-k) 0 else p.getD k 0:=by
 have e:=getElem?_mirror_all (i:=i) I k;unfold kas_rev;rw[Array.getD_eq_getD_getElem?,Array.getD_eq_getD_getElem?,Array.getD_eq_getD_getElem?,e];split<;>rfl
theorem TK{p:Array Nat}{src d:Nat}(I:src<p.size)(hd:d<=src)(k:Nat) :
  (bubble p src d).getD k 0=if k=src-d then p.getD src 0 else if src-d<k/\k<=src then p.getD (k-1) 0 else p.getD k 0:=by
 have e:=getElem?_bubble I d hd k;simp only[Array.getD_eq_getD_getElem?,e];split
 .rfl
 .split<;>rfl
section
variable{O:KeyOrd}{key:Nat->O.α}{n:Nat}
def Key(key:Nat->O.α)(p:Array Nat)(i:Nat):O.α:=key (p.getD i 0)
def Up(key:Nat->O.α)(p:Array Nat)(m:Nat):Prop:=∀i j,i<=j->j<m->O.kle (Key key p i) (Key key p j)
def Dn(key:Nat->O.α)(p:Array Nat)(m:Nat):Prop:=∀i j,i<=j->j<m->O.kle (Key key p j) (Key key p i)
structure Pm(n:Nat)(p:Array Nat):Prop where
 perm:p.Perm (List.toArray (List.range n))
 pos:0<n
theorem Pm.size{p:Array Nat}(h:Pm n p):p.size=n:=by rw[h.perm.size_eq];simp
theorem Pm.lt{p:Array Nat}(h:Pm n p)(i:Nat):p.getD i 0<n:=by
 rw[Array.getD_eq_getD_getElem?];by_cases hi:i<p.size
 .rw[Array.getElem?_eq_getElem hi];have hm:p[i]∈p:=Array.getElem_mem hi;have:=(h.perm.mem_iff).mp hm
  simpa using this
 .rw[Array.getElem?_eq_none (by lia)];exact h.pos
theorem Pm.rev{p:Array Nat}(h:Pm n p)(i j:Nat):Pm n (kas_rev p i j):=⟨(mirror_perm _ _ _ _).trans h.perm,h.pos⟩
theorem Pm.bubble{p:Array Nat}(h:Pm n p)(i j:Nat):Pm n (bubble p i j):=⟨(bubble_perm _ _ _).trans h.perm,h.pos⟩
abbrev F4(key:Nat->O.α):Nat->Nat->Bool:=fun i j=>O.blt (key i) (key j)
theorem Up.one{p:Array Nat}:Up key p 1:=fun i j M I=>by
 have:i=j:=by lia
 subst this;exact bb _
theorem Up.more{p:Array Nat}{m:Nat}(h:Up key p m)(h1:1<=m)(M:O.kle (Key key p (m-1)) (Key key p m)):Up key p (m+1):=fun i j I T=>by
 by_cases e:j=m
 .subst e;by_cases R:i=j
  .subst R;exact bb _
  .exact KeyOrd.kle_trans (h i (j-1) (by lia) (by lia)) M
 .exact h i j I (by lia)
theorem Dn.more{p:Array Nat}{m:Nat}(h:Dn key p m)(h1:1<=m)(M:O.kle (Key key p m) (Key key p (m-1))):Dn key p (m+1):=fun i j I T=>by
 by_cases e:j=m
 .subst e;by_cases R:i=j
  .subst R;exact bb _
  .exact KeyOrd.kle_trans M (h i (j-1) (by lia) (by lia))
 .exact h i j I (by lia)
theorem asc{p:Array Nat}(I:Pm n p):∀(f m:Nat),1<=m->Up key p m->Wp (F4 key) n (kas_asc p f m) fun r=>m<=r/\r<=m+f/\Up key p r/\(r=m+f\/O.klt (Key key p r) (Key key p (r-1)))
 |0,m,_,h=>⟨aG _,Nat.le_refl _,h,.inl rfl⟩
 |f+1,m,R,h=>by
  refine⟨I.lt _,I.lt _,?_⟩;cases c:F4 key (p.getD m 0) (p.getD (m-1) 0) with
  |true=>exact⟨aG _,by lia,h,.inr c⟩
  |false=>
   simp only[Bool.false_eq_true,if_false];refine Wp.mono (fun r M=>?_) _ (asc I f (m+1) (by lia) (h.more R c));exact⟨by lia,by lia,M.2.2.1,M.2.2.2.elim (fun z=>.inl (by lia)) .inr⟩
def Eq(key:Nat->O.α)(p:Array Nat)(m q:Nat):Prop:=q<m/\∀k,m-(q+1)<=k->k<m->Key key p k=Key key p (m-1)
theorem rev_eq{p:Array Nat}{m q:Nat}(h:Eq key p m q)(hm:m<=p.size)(k:Nat):Key key (kas_rev p (m-(q+1)) m) k=Key key p k:=by
 unfold Key;rw[JU hm];split
 .have a:=h.2 (m-(q+1)+m-1-k) (by have:=h.1;lia) (by have:=h.1;lia);have b:=h.2 k (by lia) (by lia);exact a.trans b.symm
 .rfl
theorem desc:∀(f:Nat) (p:Array Nat) (m q:Nat),Pm n p->1<=m->m+f<=n->Dn key p m->Eq key p m q->Wp (F4 key) n (kas_desc f p m q) fun r=>Pm n r.1/\m<=r.2.1/\r.2.1<=m+f/\Dn key r.1 r.2.1/\Eq key r.1 r.2.1 r.2.2
 |0,p,m,q,I,_,_,h,e=>⟨I,Nat.le_refl _,Nat.le_refl _,h,e⟩
 |f+1,p,m,q,I,Y,hf,h,e=>by
  refine⟨I.lt _,I.lt _,?_⟩;have hm:m<=p.size:=by rw[I.size];lia
  cases c:F4 key (p.getD m 0) (p.getD (m-1) 0) with
  |true=>
   have ck:O.klt (Key key p m) (Key key p (m-1)):=c;simp only[if_true];have fin:∀M:Array Nat,Pm n M->(∀k,Key key M k=Key key p k)->Wp (F4 key) n (kas_desc f M (m+1) 0) fun r=>Pm n r.1/\m<=r.2.1/\r.2.1<=m+(f+1)/\Dn key r.1 r.2.1/\Eq key r.1 r.2.1 r.2.2:=fun M T hk=>by
    have hd:Dn key M (m+1):=fun i j U hj=>by rw[hk,hk];exact h.more Y (KeyOrd.kle_of_klt ck) i j U hj
    have he:Eq key M (m+1) 0:=⟨by lia,fun k Y h2=>by rw[show k=m+1-1 by lia]⟩;exact Wp.mono (fun r R=>⟨R.1,by lia,by lia,R.2.2.2.1,R.2.2.2.2⟩) _ (desc f M (m+1) 0 T (by lia) (by lia) hd he)
   split
   .exact fin _ (I.rev _ _) (rev_eq e hm)
   .exact fin _ I fun _=>rfl
  |false=>
   simp only[Bool.false_eq_true,if_false];refine⟨I.lt _,I.lt _,?_⟩;cases d:F4 key (p.getD (m-1) 0) (p.getD m 0) with
   |true=>
    simp only[if_true];exact⟨I,Nat.le_refl _,Nat.le_add_right _ _,h,e⟩
   |false=>
    simp only[Bool.false_eq_true,if_false];have Z:Key key p m=Key key p (m-1):=KeyOrd.kle_antisymm (show O.kle (Key key p m) (Key key p (m-1)) from d) (show O.kle (Key key p (m-1)) (Key key p m) from c);refine Wp.mono (fun r R=>⟨R.1,by lia,by lia,R.2.2.2.1,R.2.2.2.2⟩) _ (desc f p (m+1) (q+1) I (by lia) (by lia) (h.more Y (by rw[Z];exact bb _)) ⟨by have:=e.1;lia,fun k h2 h3=>?_⟩);rw[show m+1-1=m by lia,Z];by_cases z:k=m
    .rw[z,Z]
    .exact e.2 k (by lia) (by lia)
theorem cg{p:Array Nat}{m:Nat}(h:Dn key p m)(hm:m<=p.size):Up key (kas_rev p 0 m) m:=fun i j I M=>by
 unfold Key;rw[JU hm,JU hm,if_pos ⟨ar _,by lia⟩,if_pos ⟨ar _,by lia⟩];exact h (0+m-1-j) (0+m-1-i) (by lia) (by lia)
theorem tail3{p:Array Nat}{m:Nat}(I:Pm n p)(h1:1<=m)(hm:m<=n)(h:Dn key p m):Wp (F4 key) n (kas_tail3 m n p) fun r=>Pm n r.2/\1<=r.1/\r.1<=n/\Up key r.2 r.1:=by
 unfold kas_tail3;refine Wp.bind _ (Wp.mono (fun r M=>?_) _ (asc (I.rev 0 m) (n-m) m h1 (cg h (by rw[I.size];exact hm))));exact⟨I.rev 0 m,by lia,by lia,M.2.2.1⟩
theorem descPart{p:Array Nat}{m:Nat}(T:Pm n p)(h1:1<=m)(hm:m+1<=n)(h:Dn key p (m+1)):Wp (F4 key) n (kas_descPart m n p) fun r=>Pm n r.2/\1<=r.1/\r.1<=n/\Up key r.2 r.1:=by
 unfold kas_descPart;refine Wp.bind _ (Wp.mono (fun r R=>?_) _ (desc (n-(m+1)) p (m+1) 0 T (by lia) (by lia) h ⟨by lia,fun k h1 Y=>by rw[show k=m+1-1 by lia]⟩));obtain⟨a,b,c,d,e⟩:=R;have M:r.2.1<=r.1.size:=by rw[a.size];lia
 split
 .refine tail3 (a.rev _ _) (by lia) (by lia) fun i j I U=>?_;rw[rev_eq e M,rev_eq e M];exact d i j I U
 .exact tail3 a (by lia) (by lia) d
theorem count{p:Array Nat}(I:Pm n p):Wp (F4 key) n (kas_count n p) fun r=>Pm n r.2/\1<=r.1/\r.1<=n/\Up key r.2 r.1:=by
 have hn:=I.pos;unfold kas_count;refine Wp.bind _ (Wp.mono (fun m hm=>?_) _ (asc I (n-1) 1 (aG _) Up.one));obtain⟨U,h2,T,h4⟩:=hm;split
 .exact⟨I,U,by lia,T⟩
 .rename_i Y;have R:m≠n:=by simpa using Y
  have hk:O.klt (Key key p m) (Key key p (m-1)):=by
   rcases h4 with z|z
   .exact absurd (by lia) R
   .exact z
  have hz:m<=p.size:=by rw[I.size];lia
  split
  .refine⟨I.lt _,I.lt _,?_⟩;cases c:F4 key (p.getD 0 0) (p.getD (m-1) 0) with
   |true=>simp only[if_true];exact⟨I,U,by lia,T⟩
   |false=>
    simp only[Bool.false_eq_true,if_false];have all:∀k,k<m->Key key p k=Key key p (m-1):=fun k M=>KeyOrd.kle_antisymm (T k (m-1) (by lia) (by lia)) (KeyOrd.kle_trans (show O.kle (Key key p (m-1)) (Key key p 0) from c) (T 0 k (by lia) M));have ek:∀k,Key key (kas_rev p 0 m) k=Key key p k:=fun k=>by
     by_cases M:k<m
     .have:Key key (kas_rev p 0 m) k=Key key p (0+m-1-k):=by
       unfold Key;rw[JU hz,if_pos ⟨ar _,M⟩]
      rw[this,all _ (by lia),all k M]
     .unfold Key;rw[JU hz,if_neg (by lia)]
    refine descPart (I.rev _ _) U (by lia) fun i j Z hj=>?_;rw[ek,ek];by_cases e:j=m
    .subst e;by_cases e2:i=j
     .subst e2;exact bb _
     .rw[all i (by lia)];exact KeyOrd.kle_of_klt hk
    .rw[all i (by lia),all j (by lia)];exact bb _
  .have:m=1:=by lia
   subst this;refine descPart I U (by lia) fun i j Z hj=>?_;by_cases e:i=j
   .subst e;exact bb _
   .rw[show i=0 by lia,show j=1 by lia];exact KeyOrd.kle_of_klt hk
theorem place{p:Array Nat}{k:Nat}(M:Pm n p)(I:Up key p k):∀(f l r:Nat),l<=r->r<=k->r-l<=f->(∀i,i<l->O.kle (Key key p i) (Key key p k))->(∀i,r<=i->i<k->O.klt (Key key p k) (Key key p i)) ->
  Wp (F4 key) n (kas_place p k f l r) fun x=>x<=k/\(∀i,i<x->O.kle (Key key p i) (Key key p k))/\∀i,x<=i->i<k->O.klt (Key key p k) (Key key p i)
 |0,l,r,Z,R,Y,a,b=>by
  have:l=r:=by lia
  subst this;exact⟨R,a,b⟩
 |f+1,l,r,Z,R,Y,a,b=>by
  unfold kas_place;split
  .have:l=r:=by lia
   subst this;exact⟨R,a,b⟩
  .refine⟨M.lt _,M.lt _,?_⟩;cases c:F4 key (p.getD k 0) (p.getD ((l+r) / 2) 0) with
   |true=>
    simp only[if_true];exact place M I f l ((l+r) / 2) (by lia) (by lia) (by lia) a fun i T U=>KeyOrd.klt_of_klt_of_kle (show O.klt (Key key p k) (Key key p ((l+r) / 2)) from c) (I _ _ T U)
   |false=>
    simp only[Bool.false_eq_true,if_false];exact place M I f ((l+r) / 2+1) r (by lia) R (by lia) (fun i T=>KeyOrd.kle_trans (I i ((l+r) / 2) (by lia) (by lia)) (show O.kle (Key key p ((l+r) / 2)) (Key key p k) from c)) b
theorem bin:∀(f:Nat) (p:Array Nat) (k:Nat),Pm n p->1<=k->k+f=n->Up key p k->Wp (F4 key) n (kas_bin f p k) fun r=>Pm n r/\Up key r n
 |0,p,k,I,_,hk,h=>by
  have:k=n:=by lia
  subst this;exact⟨I,h⟩
 |f+1,p,k,I,h1,hk,h=>by
  have R:k<p.size:=by rw[I.size];lia
  refine Wp.bind _ (Wp.mono (fun l hl=>?_) _ (place I h k 0 k (ar _) (aG _) (by lia) (fun i z=>absurd z (by lia)) fun i Y z2=>absurd Y (by lia)));obtain⟨Z,M,T⟩:=hl;refine bin f _ (k+1) (I.bubble _ _) (by lia) (by lia) fun i j hij hj=>?_;have U:∀x,Key key (PyProof.Rows.bubble p k (k-l)) x=if x=l then Key key p k else if l<x/\x<=k then Key key p (x-1) else Key key p x:=fun x=>by
   unfold Key;rw[TK R (by lia),show k-(k-l)=l by lia];split
   .rfl
   .split<;>rfl
  rw[U,U]
  repeat' split
  all_goals first
   |(exfalso;lia)
   |exact bb _
   |exact M _ (by lia)
   |exact KeyOrd.kle_of_klt (T _ (by lia) (by lia))
   |exact h _ _ (by lia) (by lia)
theorem sort(hn:0<n):Wp (F4 key) n (kas_sort n) fun p=>Pm n p/\Up key p n:=by
 have M:Pm n (List.toArray (List.range n)):=⟨Array.Perm.refl _,hn⟩;unfold kas_sort;refine Wp.bind _ (Wp.mono (fun r I=>?_) _ (count M));obtain⟨a,b,c,d⟩:=I;split
 .rw[show max r.1 1=r.1 by lia];exact bin _ _ _ a b (by lia) d
 .have:r.1=n:=by lia
  rw[this]at d;exact⟨a,d⟩
end
end SM
namespace TH
open PySem PySem.W PyProof.Rows PySem.SeqAt
section
variable{A:Around}{E:Value->Shared->Prop}{s:Shared}{a:Addr}{Q:Bool->Shared->Prop}
theorem Ti{M:Model}{h:Heap}{a:Addr}{x:Array Value}(h1:h.IsTuple a x):Looks M h (typeOf (.ref a)) (.type "tuple"):=by
 obtain⟨o,I,R,_⟩:=h1;exact R ▸ (Looks.ld I).andThen .now
theorem cP{M:Model}{vs:List Value}{Q:Option Value->Shared->Prop}(U:∀v∈vs,Looks M s.heap (typeOf v) (.type "tuple"))(h0:vs=[]->Q none s)(h1:Q (some (.type "tuple")) s):wpAny M A (oneTypeOnly' vs.toArray) Q E s:=by
 rw[oneTypeOnly'_eq,List.mapM_toArray,map_eq_pure_bind];refine aA (aA (kas_mapM (r:=Value.type "tuple") _ (fun v R Z T=>(U v R).here T) (aC ?_)));cases vs with
 |nil=>exact aC (h0 rfl)
 |cons f r=>
  have I:((List.map (fun _=>Value.type "tuple") (f::r)).toArray.all fun x=>x==Value.type "tuple")=true:=by
   simp only[List.all_toArray,List.all_map,List.all_eq_true];intro _ _
   rfl
  have Y:(List.map (fun _=>Value.type "tuple") (f::r)).toArray[0]? = some (Value.type "tuple"):=by simp
  rw[Y];simp only[I,if_true];exact aC h1
theorem TB{α:Type}{cmp:Nat->Nat->(Bool->Shared->Prop)->Shared->Prop}{lt:Nat->Nat->Bool}{n:Nat}{M:α->Prop}(I:∀i j C,i<n->j<n->C (lt i j) s->cmp i j C s):∀T:KasT α,SM.Wp lt n T M->T.kasWp cmp (fun a s'=>s'=s/\M a) s
 |.ret a,h=>⟨rfl,h⟩
 |.ask i j k,h=>I i j _ h.1 h.2.1 (TB I (k (lt i j)) h.2.2)
end
end TH
namespace TH
open PySem PySem.W PyProof.Rows PySem.SeqAt
theorem map_getD{α:Type}(d:α)(l:List α):(List.range l.length).map (fun i=>l.getD i d)=l:=by
 refine List.ext_getElem (by simp) fun i M I=>?_;simp[I]
section
theorem Vz(b:Bool)(us:List Value)(hz:us.length<2):(if b=true then((if b=true then(us.toArray.zip us.toArray).reverse else us.toArray.zip us.toArray).map (·.2)).reverse else(if b=true then(us.toArray.zip us.toArray).reverse else us.toArray.zip us.toArray).map (·.2))=us.toArray:=by
 match us,hz with
 |[],_=>cases b<;>simp
 |[x],_=>cases b<;>simp
end
end TH
namespace ET
open PySem
section
variable{prog:Program}{w:World}{A:Around}{E:Value->Shared->Prop}{s:Shared}
theorem next_item{it t:Addr}{i:Nat}{items}{x:Value}{Q:Value->Shared->Prop}(hit:s.heap.IsTupleIter it t i)(U:s.heap.IsTuple t items)(T:items[i]? = some x)
 (Z:∀h',h'.IsTupleIter it t (i+1)->Heap.SameBut it s.heap h'->Q x {s with heap:=h'}):wpAny (model prog w) A (Builtin.SmallTypes.nextOf (.ref it)) Q E s:=by
 obtain⟨o,I,Y,hd⟩:=id hit;obtain⟨ol,M,_,nl,R⟩:=U;unfold Builtin.SmallTypes.nextOf;refine aA (au (name:=Str.ofString "__next__") hit.typeIs F.slot_tuple_iterator_next
  (bA F.slot_tuple_iterator_next hit.typeIs F.entry_tuple_iterator_next ?_ (F.args_tuple_iterator_next_1 _)))
 show wpAny _ _ (field (.ref it) 0>>=_) _ _ s;refine aA (aq I hd (x:=.ref t) rfl ?_);show wpAny _ _ (if(Value.ref t==Value.none)=true then _ else _) _ _ s;rw[if_neg (show ¬((Value.ref t==Value.none)=true) from aM)];show wpAny _ _ (field (.ref it) 1>>=_) _ _ s;refine aA (aq I hd (x:=.int i 0) rfl ?_);show wpAny _ _ (seqItems? (.ref t)>>=_) _ _ s;refine aA (bh M R ?_);simp only[Int.toNat_natCast,T];refine aA (wpAny_setField I hd (by simp) (aC ⟨x,rfl,wpAny_pure (Z _ ?_ (bK ..))⟩));exact⟨_,Heap.get?_update_self _ I (Obj.isFreed_of_fields (Obj.data_mapFields hd _)),(Obj.cls_mapFields ..).trans Y,by
  rw[Obj.data_mapFields hd];simp[rawInt]⟩
theorem next_end{it t:Addr}{i:Nat}{items}{Q:Value->Shared->Prop}(T:A.handled=none)(hit:s.heap.IsTupleIter it t i)(Y:s.heap.IsTuple t items)(U:items[i]? = none)
 (Z:∀h' e,Heap.ExtBut it s.heap h'->(∃o,h'.get? e=some o/\o.cls=.type "StopIteration")->E (.ref e) {s with heap:=h'}):wpAny (model prog w) A (Builtin.SmallTypes.nextOf (.ref it)) Q E s:=by
 obtain⟨o,M,hc,hd⟩:=id hit;obtain⟨ol,I,_,nl,R⟩:=Y;unfold Builtin.SmallTypes.nextOf;refine aA (au (name:=Str.ofString "__next__") hit.typeIs F.slot_tuple_iterator_next
  (bA F.slot_tuple_iterator_next hit.typeIs F.entry_tuple_iterator_next ?_ (F.args_tuple_iterator_next_1 _)))
 show wpAny _ _ (field (.ref it) 0>>=_) _ _ s;refine aA (aq M hd (x:=.ref t) rfl ?_);show wpAny _ _ (if(Value.ref t==Value.none)=true then _ else _) _ _ s;rw[if_neg (show ¬((Value.ref t==Value.none)=true) from aM)];show wpAny _ _ (field (.ref it) 1>>=_) _ _ s;refine aA (aq M hd (x:=.int i 0) rfl ?_);show wpAny _ _ (seqItems? (.ref t)>>=_) _ _ s;refine aA (bh I R ?_);simp only[Int.toNat_natCast,U];refine aA (wpAny_rule (aA (wpAny_setField M hd (by simp) ?_)));show wpAny _ _ (newExc (.type "StopIteration") []>>=_) _ _ _;refine aA ?_;simp only[newExc,newTuple];refine aA (aZ ?_ (by size_fits));refine aA (m:=firstArgMember _ _) (wpAny_of_eq (a:=Value.none) (by first|rfl|(simp only[firstArgMember];rfl)) ?_);refine aZ ?_ (by size_fits);simp only[raiseNew];refine aA (wpAny_handled ?_)
 first|rw[show A.in1.handled=none from T]|rw[T]
 refine aA (aC (wpAny_throw ?_));exact Z _ _ (((bK ..).extBut.push _).push _) ⟨_,Heap.get?_push_size _ rfl,rfl⟩
end
section
open AutoSeq1 (wpAny_loadPart')
theorem W8(l:Addr)(items:Array Value)(n:Nat)(T:Option Addr)(sl:Array (Option Value)) :
  Meets (Builtin.«enumerate.__new__» ⟨[.type "enumerate",.ref l],[]⟩) (fun _ R s=>s.heap.get? l=some { cls:=.type "tuple",dict:=T,data:=.seq items n,slots:=sl} /\
   R (.ok (.ret (.ref (s.heap.push { cls:=.type "tuple_iterator",data:=.fields #[.ref l,.int 0 0]}).objs.size)))
    {s with heap:=(s.heap.push { cls:=.type "tuple_iterator",data:=.fields #[.ref l,.int 0 0]}).push { cls:=.type "enumerate",data:=.fields #[.none,.bool false,.ref s.heap.objs.size,rawInt 0,.none,.none]} }) :=
 .of_wp fun prog w A R s h=>by
  obtain⟨Z,g,d,Y,os⟩:=s;obtain⟨I,h⟩:=h;have U:=sub_enumerate;have M:Heap.IsTuple (Shared.heap ⟨Z,g,d,Y,os⟩) l items:=⟨_,I,rfl,n,rfl⟩
  wp_walk using wpAny_loadPart' I
  refine wpAny_stack_any fun st=>aC ?_;split
  .rename_i c _ _ _ _ _;cases (c==Value.type "enumerate")
   .wp_walk using wpAny_loadPart' I,wpAny_pyIter_tuple M
    exact⟨_,rfl,h⟩
   .wp_walk using wpAny_loadPart' I,wpAny_pyIter_tuple M
    exact⟨_,rfl,h⟩
  .wp_walk using wpAny_loadPart' I,wpAny_pyIter_tuple M
   exact⟨_,rfl,h⟩
theorem WW{prog:Program}{w:World}{A:Around}{E:Value->Shared->Prop}{s:Shared}{l:Addr}{items:Array Value}{Q:Value->Shared->Prop}(Y:s.heap.IsTuple l items)
 (h:∀h',IsEnum h' (s.heap.objs.size+1) s.heap.objs.size 0 .none->h'.IsTupleIter s.heap.objs.size l 0->h'.objs.size=s.heap.objs.size+2 ->
   (∀b o,s.heap.get? b=some o->h'.get? b=some o)->Q (.ref (s.heap.objs.size+1)) {s with heap:=h'}) :
  wpAny (model prog w) A (call (.type "enumerate") [.ref l]) Q E s:=by
 obtain⟨⟨c,R,Z,sl⟩,U,M,n,hd⟩:=Y
 replace M:c=.type "tuple" := M
 replace hd:Z=.seq items n:=hd
 subst M hd;refine callType_new F.called_enumerate (by decide) (F.typeCall_enumerate_1 _) (F.newCall_enumerate_1 _) (fun obj=>F.args_object_init_2 obj _) F.entry_enumerate_new
  (W8 l items n R sl) ⟨U,?_⟩
 have I:(s.heap.push { cls:=.type "tuple_iterator",data:=.fields #[.ref l,.int 0 0]}).objs.size=s.heap.objs.size+1:=Heap.size_push ..;show _/\_;rw[I];have T:IsEnum ((s.heap.push { cls:=.type "tuple_iterator",data:=.fields #[.ref l,.int 0 0]}).push
   { cls:=.type "enumerate",data:=.fields #[.none,.bool false,.ref s.heap.objs.size,rawInt 0,.none,.none]}) (s.heap.objs.size+1) s.heap.objs.size 0 .none:=by
  have:=aU (s.heap.push { cls:=.type "tuple_iterator",data:=.fields #[.ref l,.int 0 0]})
   (o:={ cls:=.type "enumerate",data:=.fields #[.none,.bool false,.ref s.heap.objs.size,rawInt 0,.none,.none]}) rfl
  rw[I]at this;exact this
 refine⟨⟨_,T,rfl⟩,h _ T ⟨_,Heap.get?_push_of_some _ (aU _ rfl),rfl,rfl⟩ (by rw[Heap.size_push,I]) fun b o x=>aD _ (aD _ x)⟩
end
theorem draws{prog:Program}{w:World}{A:Around}(hh:A.handled=none)(it a:Addr)(its:List Value)(hne:a≠it) :
  Draws prog w A it [it,a] its.length (fun i x=>its[i]? = some x) (fun i h=>h.IsTupleIter it a i/\h.IsTuple a its.toArray) where
 live:=fun i h st=>let⟨o,e,_⟩:=st.1;⟨o,e⟩
 frame:=fun i h h' st k=>by
  obtain⟨⟨o,e,r⟩,o2,e2,r2⟩:=st;exact⟨⟨o,k it (by simp) o e,r⟩,o2,k a (by simp) o2 e2,r2⟩
 item:=fun i s Q E hi st hQ=>next_item st.1 st.2 (x:=its[i]) (by simp[hi]) fun h' st' sb=>
  hQ _ h' s.toks (by simp[hi]) ⟨st',let⟨o,e,r⟩:=st.2;⟨o,(sb.2 a hne).trans e,r⟩⟩ sb
 done:=fun s Q E st hE=>next_end hh st.1 st.2 (by simp) hE
end ET
namespace L2
open PySem PySem.Spec PyProof.Rows
def Ts(H:Hp):Tr->List V->Prop
 |.nil,xs=>xs=[]
 |.cons b r,xs=>∃(a:Addr) (ys I:List V),xs=.ref a::I/\H a=some (.tup ys)/\Ts H b ys/\Ts H r I
def Tv(H:Hp)(t:Tr)(v:V):Prop:=∃(a:Addr) (ys:List V),v=.ref a/\H a=some (.tup ys)/\Ts H t ys
theorem Ts.same{H H':Hp}(e:AG H H'):∀ {t:Tr} {xs:List V},Ts H t xs->Ts H' t xs
 |.nil,xs,h=>by rw[Ts]at h ⊢;exact h
 |.cons b r,xs,h=>by
  rw[Ts]at h ⊢;obtain⟨a,ys,I,U,T,R,M⟩:=h;exact⟨a,ys,I,U,e _ _ T,R.same e,M.same e⟩
theorem Tv.same{H H':Hp}{t:Tr}{v:V}(h:Tv H t v)(e:AG H H'):Tv H' t v:=let⟨a,ys,R,M,I⟩:=h;⟨a,ys,R,e _ _ M,I.same e⟩
def fv(K:PySem.W.Frag)(a:Addr):It :=
 ⟨fun i H=>∃xs x,Ao K H a xs/\xs[i]? = some x,fun i H v H'=>∃p x,v=.ref p/\H p=none/\H'=upd H p (.tup [.int i,x])/\∀xs,Ao K H a xs->xs[i]? = some x,fun i H=>∃xs,Ao K H a xs/\xs.length=i⟩
theorem WB{P:Program}{w:World}{K:PySem.W.Frag}{elts:List Expr}{x1}{pos:Pos}(a e it:Addr)(hne:e≠it) :
  Turn P w K (.Tuple elts x1 pos) (fv K a) [e,it] e (fun i h=>(∃old,IsEnum h e it (i:Nat) old)/\h.IsTupleIter it a i) where
 mem:=by simp
 obj:=fun i h st b hb=>by
  rcases aS.mp hb with rfl|hb
  .obtain⟨⟨old,q⟩,_⟩:=st;exact⟨_,q,fun v z=>by cases z⟩
  .have e2:b=it:=by simpa using hb
   subst e2;obtain⟨_,o,q,c,d⟩:=st;exact⟨o,q,fun v z=>by rw[d]at z;cases z⟩
 keep:=fun i h h' st k=>by
  obtain⟨⟨old,q⟩,o,q2,r⟩:=st;exact⟨⟨old,k e (by simp) _ q⟩,o,k it (by simp) _ q2,r⟩
 item:=by
  intro X hP hw hK hc i pins s σ H E I hf st hg;subst hP hw hK;obtain⟨xs,x,hq,hx⟩:=hg;obtain⟨its,rv,p,hz⟩:=I.tuple hq;obtain⟨u,hu,ru⟩:=rv.get hx;obtain⟨⟨old,he⟩,hit⟩:=st;have hai:a≠it:=fun z=>by
   obtain⟨o,e1,c1,_⟩:=p;obtain⟨o2,e2,c2,_⟩:=hit;rw[z,e2]at e1;cases e1;rw[c1]at c2;exact absurd c2 (by decide)
  have hae:a≠e:=fun z=>by
   obtain⟨o,e1,c1,_⟩:=p;rw[z,he]at e1;cases e1;exact absurd (show Value.type "enumerate" = Value.type "tuple" from c1) (by decide)
  have hlt:i<its.length:=(aB.mp hu).1;have hE0:=hf e (by simp);have hI0:=hf it (by simp);refine wpAny_pyNext_enum_itemD (ET.draws (prog:=X.prog) (w:=X.w) (A:=X.A.in1) (I.ok.hd hc) it a its hai) he ⟨hit,p⟩ hlt hne (by simp[hne,Ne.symm hae]) fun y h' tk hy ho hs' hT hsz hk=>⟨_,rfl,wpAny_letOwnedTupleGo_enum (s:={s with heap:=h',toks:=tk+1}) ho fun h'' he'' sb=>?_⟩;have hyu:y=u:=by rw[hu]at hy;exact(aY hy).symm
  subst hyu;have keep:∀b o,b≠e->b≠it->s.heap.get? b=some o->h''.get? b=some o:=fun b o h1 h2 q=>(sb.2 b h1).trans (hk b o h1 h2 q);have hTe:s.heap.objs.size≠e:=bC (aF he);have hTi:s.heap.objs.size≠it:=let⟨_,q,_⟩:=hit;bC (aF q);have hT'':h''.get? s.heap.objs.size=some { cls:=.type "tuple",data:=.seq #[.int i tk,y]}:=(sb.2 _ hTe).trans hT;have hTn:H s.heap.objs.size=none:=I.Al.fresh (aG _);have neT:∀b o,s.heap.get? b=some o->b≠s.heap.objs.size:=fun b o q=>aO (aF q);have GB:∀b o,H b=some o->b≠e/\b≠it:=fun b o q=>⟨(fun z=>by rw[z,hE0.1]at q;cases q),(fun z=>by rw[z,hI0.1]at q;cases q)⟩;refine⟨.ref s.heap.objs.size,upd H s.heap.objs.size (.tup [.int i,x]),?_,rfl,⟨_,x,rfl,hTn,rfl,fun ys hy=>by rw[I.P4 hy hq];exact hx⟩,⟨⟨_,by simpa using he''⟩,?_⟩,fun b hb=>?_⟩
  .show Inv X pins σ _ {s with heap:=h'',gens:=s.gens,drawn:=s.drawn,toks:=tk+1};refine I.step (h':=h'') (g':=s.gens) (d':=s.drawn) (t':=tk+1) (ch:=[e,it]) (fun b hb=>?_) (fun b o _ _ hc q _=>keep b o (fun z=>hc (by simp[z])) (fun z=>hc (by simp[z])) q) (fun b o _ _ hc q _=>⟨o.slots,keep b o (fun z=>hc (by simp[z])) (fun z=>hc (by simp[z])) q⟩)
    (fun b o _ q n=>by rw[AE (neT b o q)];exact n) (fun b o hc q=>⟨o,keep b o (fun z=>hc (by simp[z])) (fun z=>hc (by simp[z])) q⟩) (fun b ys q=>by rw[AE (AJ q hTn)];exact q) (fun b o u q=>by rw[AE (AJ q hTn)];exact q)
    (fun b ps q=>⟨#[],by rw[AE (AJ q hTn),q];simp⟩) (fun b _ o hc _ q=>keep b o (fun z=>hc (by simp[z])) (fun z=>hc (by simp[z])) q) (fun m hm=>?_) (fun b o q=>?_) I.bare
   .rcases aS.mp hb with rfl|hb
    .exact⟨hE0.2.2.2.1,hE0.2.1,hE0.2.2.2.2.1,hE0.2.2.2.2.2⟩
    .have e2:b=it:=by simpa using hb
     subst e2;exact⟨hI0.2.2.2.1,hI0.2.1,hI0.2.2.2.2.1,hI0.2.2.2.2.2⟩
   .obtain⟨o,es,ep,ho,r⟩:=hm;exact⟨o,es,ep,keep _ o (Ne.symm hE0.2.1) (Ne.symm hI0.2.1) ho,r⟩
   .by_cases hb:b=s.heap.objs.size
    .subst hb;rw[AF]at q;cases q;exact⟨Uj,[.int i tk,y],.cons ⟨tk,rfl⟩ (.cons ru .nil),_,hT'',rfl,_,rfl⟩
    .rw[AE hb]at q;refine(I.Al b o q).IC (fun c v hc r=>keep c v ?_ ?_ r) (fun c r=>by rw[AE (AJ r hTn)];exact r) fun c ys r=>by rw[AE (AJ r hTn)];exact r
     .rcases hc with rfl|hc
      .exact(GB _ _ q).1
      .exact(GB _ _ hc).1
     .rcases hc with rfl|hc
      .exact(GB _ _ q).2
      .exact(GB _ _ hc).2
  .obtain⟨⟨o,q,r⟩,_⟩:=hs';exact⟨o,(sb.2 it (Ne.symm hne)).trans q,r⟩
  .rcases aS.mp hb with rfl|hb
   .rw[AE (Ne.symm hTe)];exact hE0.1
   .have e2:b=it:=by simpa using hb
    subst e2;rw[AE (Ne.symm hTi)];exact hI0.1
 done:=by
  intro X hP hw hK hc i pins s σ H E I hf st hg;subst hP hw hK;obtain⟨xs,hq,hx⟩:=hg;obtain⟨its,rv,p,hz⟩:=I.tuple hq;obtain⟨⟨old,he⟩,hit⟩:=st;have hai:a≠it:=fun z=>by
   obtain⟨o,e1,c1,_⟩:=p;obtain⟨o2,e2,c2,_⟩:=hit;rw[z,e2]at e1;cases e1;rw[c1]at c2;exact absurd c2 (by decide)
  have hl:its.length=i:=by rw[<-rv.length];exact hx
  subst hl;obtain⟨f0,f1,f2,f3,f4,f5⟩:=hf it (by simp);exact wpAny_pyNext_enum_endD (ET.draws (prog:=X.prog) (w:=X.w) (A:=X.A.in1) (I.ok.hd hc) it a its hai) he ⟨hit,p⟩ fun h' eb=>⟨rfl,I.turned (t':=s.toks) (fun b o hb q=>eb b o hb q) f0 f1 f3 f4 f5⟩
 self:=fun _ _ _ _ _ st h=>by
  obtain⟨⟨old,he⟩,_⟩:=st;exact wpAny_pyIter_enum he h
def gx(K:PySem.W.Frag)(I:TA):TI:=fun σ H R=>I σ H fun vs H1=>∃a,vs=[.ref a]/\(∃xs,Ao K H1 a xs)/\R (fv K a) H1
theorem Zt{X:Cx}{elts:List Expr}{x1}{M:Pos}{a:Expr}{ta:TA}{p pos:Pos}(hg:Gl X "enumerate")(hm:X.mg "enumerate" = none)(ha:PA X [a] ta)(hs:starEach [a] X.env=[(false,eval a X.env)]:=by rfl) :
  PI X (.Tuple elts x1 M) (.Call (.Name "enumerate" p) [a] [] pos) (gx X.K ta):=by
 intro pins s σ H R I h;refine Call_ (FC I hg hm boot_enumerate (bM (A5 (ha pos pins s σ H _ I h) fun us s1 ⟨vs,H1,U,r1,q1⟩=>?_) hs rfl));obtain⟨t,e,⟨xs,hq⟩,q⟩:=q1;subst e;cases r1 with
 |cons r rr=>
  cases rr;cases r;obtain⟨Y,rv,p',hz⟩:=U.tuple hq;refine ET.WW (show s1.heap.IsTuple t Y.toArray from p') fun h' he hit hsz hk=>wpAny_pyIter_enum he ?_;have I2:Inv X pins σ H1 {s1 with heap:=h'}:=U.kept (t':=s1.toks) hk;have hn:s1.heap.objs.size+1≠s1.heap.objs.size:=by lia
  refine⟨s1.heap.objs.size+1,[s1.heap.objs.size+1,s1.heap.objs.size],_,_,H1,rfl,I2,WB t _ _ hn,⟨⟨_,he⟩,hit⟩,fun b hb=>?_,q⟩;have T:s1.heap.objs.size<=b:=by
   have Z:b=s1.heap.objs.size+1\/b=s1.heap.objs.size:=by simpa using hb
   rcases Z with z|z
   .rw[z];exact Nat.le_succ _
   .rw[z];exact aG _
  exact U.PL T (U.Al.fresh T)
end L2
namespace L2
open PySem PySem.Spec PyProof.Rows
theorem Vals.pick{xs:List V}{us:List Value}(r:Vals xs us):∀ix:List Nat,(∀i∈ix,i<xs.length)->Vals (ix.map fun i=>xs.getD i .BJ) (ix.map fun i=>us.getD i Value.none)
 |[],_=>.nil
 |i::ix,h=>by
  refine .cons ?_ (Vals.pick r ix fun k I=>h k (aV _ I));have hi:=h i ag;obtain⟨u,R,M⟩:=r.get (i:=i) (x:=xs[i]) (by simp[hi]);show RelV (xs.getD i .BJ) (us.getD i Value.none);rw[List.getD_eq_getElem?_getD,List.getD_eq_getElem?_getD,R,List.getElem?_eq_getElem hi];exact M
section
variable{X:Cx}
theorem cY{e k:Expr}{Z tk:TE}{pos p2:Pos}(he:PE X e Z)(hk:PE X k tk):PE X (.Subscript e (.Slice none none (some k) p2) pos)
  (fun σ H Q=>Z σ H fun x H1=>tk σ H1 fun z Y=>∃(a:Addr) (xs:List V),x=.ref a/\z=.int (-1)/\AQ X.K Y a xs/\∀p,Y p=none->Q (.ref p) (upd Y p (.lst xs.reverse))):=by
 intro pins s σ H Q I h;refine Subscript_ (A5 (he pins s σ H _ I h) fun v s1 ⟨x,H1,I1,r1,q1⟩=>?_);refine wpAny_Slice ?_;rw[evalPart_none];refine aC ?_;refine aC ?_;rw[evalPart_some];refine A5 (hk pins s1 σ H1 _ I1 q1) fun vk s3 ⟨z,H3,I3,r3,q3⟩=>?_;obtain⟨a,xs,rfl,rfl,hq,q⟩:=q3;cases r1;obtain⟨M,rfl⟩:=r3;have U:Inv X pins σ H3 {s3 with heap:=s3.heap.push { cls:=.type "slice",data:=.fields #[.none,.none,.int (-1) M]} }:=I3.kept (t':=s3.toks) fun b ob q=>aD _ q;obtain⟨R,rv,pl,hz⟩:=U.list hq;have hlen:=rv.length;show wpAny (model X.prog X.w) X.A (subscriptTail e (.Slice none none (some k) p2) (.ref a) (.ref s3.heap.objs.size)) (EP X pins σ Q) X.xe {s3 with heap:=s3.heap.push { cls:=.type "slice",data:=.fields #[.none,.none,.int (-1) M]} };refine tail_any (ops:=[.ref a,.ref s3.heap.objs.size]) (T := "list") pl.isList.typeIs slot_list_getitem.lookup ?_ (by with_unfolding_all rfl);refine wpAny_getItem_list_slice pl.isList (Heap.IsSliceOf.new ..) .none .none (.int (-1) M) (by decide) ?_ (by rw[List.size_toArray]<;>lia);rw[PySem.W.krv_pick];refine⟨.ref _,_,U.laid (t':=s3.toks) (o:=.lst xs.reverse) (fun b ob q=>aD _ q) (aG _) ?_,rfl,q _ (U.Al.fresh (aG _))⟩;exact⟨by rw[List.length_reverse];exact hz,R.reverse,0,rv.reverse,Heap.get?_push_size _ rfl⟩
end
def CW(Pv:Nat->List V->Hp->Prop)(n:Nat)(D:Addr):Nat->Nat->List V->Hp->Prop:=fun i m ys H=>m=n-i/\i<=n/\H D=some (.lst ys)/\Pv i ys H
theorem BR{Pv:Nat->List V->Hp->Prop}{n i:Nat}{D:Addr}{ys:List V}{y:V}{H:Hp}(hi:i<n)(p:Pv (i+1) (ys++[y]) (upd H D (.lst (ys++[y])))):∃I,I<n-i/\CW Pv n D (i+1) I (ys++[y]) (upd H D (.lst (ys++[y]))) :=
 ⟨n-(i+1),by lia,rfl,hi,AF,p⟩
theorem UP{Pv:Nat->List V->Hp->Prop}{n i:Nat}{D:Addr}{ys:List V}{H:Hp}(hi:i<n)(M:H D=some (.lst ys))(p:Pv (i+1) ys H):∃I,I<n-i/\CW Pv n D (i+1) I ys H:=⟨n-(i+1),by lia,rfl,hi,M,p⟩
theorem B5{J:It}{n:Nat}{D:Addr}{H1:Hp}{fr:List (Option Nat)}{σ:St}{ix:Nat}{R:TT}{te:TE}{G:Hp->Prop}(Pv:Nat->List V->Hp->Prop)(h0:Pv 0 [] (upd H1 D (.lst [])))
 (Z:∀i ys H,i<n->Pv i ys H->H D=some (.lst ys)->J.go i H/\ys.length<sizeLine/\∀x H',J.EJ i H x H' ->
   R ((carry fr σ).set ix (some x)) H' fun b U=>if b=true then te ((carry fr σ).set ix (some x)) U fun y T=>T D=some (.lst ys)/\∃I,I<n-i/\CW Pv n D (i+1) I (ys++[y]) (upd T D (.lst (ys++[y])))
    else ∃I,I<n-i/\CW Pv n D (i+1) I ys U)
 (M:∀ys H,Pv n ys H->H D=some (.lst ys)->J.stop n H/\G H) :
  ∃W:Nat->Nat->List V->Hp->Prop,(∃m,W 0 m [] (upd H1 D (.lst []))) /\
   ∀i m ys H,W i m ys H->H D=some (.lst ys)/\((J.stop i H/\G H)\/(J.go i H/\ys.length<sizeLine/\∀x H',J.EJ i H x H' ->
    R ((carry fr σ).set ix (some x)) H' fun b U=>if b=true then te ((carry fr σ).set ix (some x)) U fun y T=>T D=some (.lst ys)/\∃I,I<m/\W (i+1) I (ys++[y]) (upd T D (.lst (ys++[y])))
     else ∃I,I<m/\W (i+1) I ys U)):=by
 refine⟨CW Pv n D,⟨n,by simp,Nat.zero_le _,AF,h0⟩,?_⟩;rintro i m ys H ⟨rfl,hi,hH,p⟩;refine⟨hH,?_⟩;by_cases Y:i<n
 .exact .inr (Z i ys H Y p hH)
 .have e:i=n:=by lia
  subst e;exact .inl (M ys H p hH)
section
variable{X:Cx}
theorem Yq(hc:X.calm=true):FH X (.builtin "all") (fun xs H Q=>∃(p:Addr) (bs:List Bool),xs=[.ref p]/\AQ X.K H p (bs.map V.bl)/\Q (.bl (bs.all id)) H):=by
 intro pins s σ H xs us Q I r h;obtain⟨p,bs,rfl,hq,q⟩:=h;obtain⟨u,rfl,r1⟩:=r.one;cases r1;obtain⟨M,Y,pl,hz⟩:=I.list hq;have U:s.heap.IsList p M.toArray:=pl.isList;have T:p<s.heap.objs.size:=by obtain⟨_,e,_⟩:=U;exact aF e
 have R:M.length=bs.length:=by rw[<-Y.length,List.length_map]
 refine call_all_walk (wpAny_pyIter_list U ?_);refine⟨s.heap.objs.size,[s.heap.objs.size,p],[s.heap.objs.size],M.toArray.size,_,_,fun i=>(bs[i]?).getD true,rfl,Walks.list (A:=X.A.in1) (I.ok.hd hc) _ p (aO T) M.toArray,
  ⟨⟨_,Heap.get?_push_size _ rfl,rfl,rfl⟩,U.push _⟩,fun i v s' Q' E' hP hQ=>?_,fun h' tk hk=>?_⟩
 .have Z:M[i]? = some v:=by simpa using hP
  have hi:i<bs.length:=by rw[<-R];exact(aB.mp Z).1
  obtain⟨u,h1,h2⟩:=Y.get (i:=i) (x:=.bl bs[i]) (by rw[List.getElem?_map,List.getElem?_eq_getElem hi];rfl);rw[Z]at h1;cases h1;cases h2;simp only[List.getElem?_eq_getElem hi,Option.getD_some]at hQ;exact bc hQ
 .have e:((List.range M.toArray.size).all fun i=>(bs[i]?).getD true)=bs.all id:=by
   rw[List.size_toArray,R];exact PyProof.Rows.LSm.range_all bs
  rw[e];exact⟨.bl _,H,I.kept (t':=tk) (PyProof.Rows.LSm.kept_iter hk),rfl,q⟩
theorem Sl(hc:X.calm=true):FH X (.builtin "sum") (fun xs H Q=>∃(p:Addr) (ns:List Int),xs=[.ref p]/\AQ X.K H p (ns.map V.int)/\Q (.int ns.sum) H):=by
 intro pins s σ H xs us Q I r h;obtain⟨p,ns,rfl,hq,q⟩:=h;obtain⟨u,rfl,r1⟩:=r.one;cases r1;obtain⟨M,Z,pl,hz⟩:=I.list hq;have hi:=intsAre_of Z;obtain⟨xs,U⟩:=hi.allInts.items;have R:s.heap.IsList p (intItems xs):=U ▸ pl.isList
 refine sum_intListG (I.ok.hd hc) R fun h' Y T hk=>?_;have e1:ns=xs.toList.map (·.1):=by
  rw[<-nums_intItems,<-U];exact(show numsOf M.toArray.toList=ns from hi.numsOf).symm
 have e2:preSum (numAt xs) xs.size=ns.sum:=by
  rw[preSum_eq,List.take_of_length_le (by simp),e1]
 rw[e2];exact⟨.int _,H,I.kept (t':=Y) hk,⟨T,rfl⟩,q⟩
end
section
variable{X:Cx}{scope:Scope}{cl:List (Str×Addr)}{N:List Str}{C:Addr}{s₀:Shared}{H₀:Hp}{fp:List Addr}
theorem KZ:LX (Ap X scope cl N C s₀ H₀ fp) (YE X.K):=EB
theorem G8:LX (Ap X scope cl N C s₀ H₀ fp) (Xz X.K):=BN
end
mutual
def Dt(l:Addr)(H:Hp):PyData->V->Prop
 |.none,v=>v=.BJ
 |.bool b,v=>v=.bl b
 |.int i,v=>v=.int i
 |.str x,v=>v=.str x
 |.tuple I,v=>∃(a:Addr) (xs:List V),v=.ref a/\a≠l/\H a=some (.tup xs)/\AR l H I xs
 |.list I,v=>∃(a:Addr) (xs:List V),v=.ref a/\a≠l/\H a=some (.lst xs)/\AR l H I xs
 |.dict _,_=>False
def AR(l:Addr)(H:Hp):List PyData->List V->Prop
 |[],xs=>xs=[]
 |d::I,xs=>∃x r,xs=x::r/\Dt l H d x/\AR l H I r
end
mutual
theorem Dt.but{l:Addr}{H H':Hp}(e:SameBut l H H'):∀ {d:PyData} {v:V},Dt l H d v->Dt l H' d v
 |.none,_,h=>by rw[Dt]at h ⊢;exact h
 |.bool _,_,h=>by rw[Dt]at h ⊢;exact h
 |.int _,_,h=>by rw[Dt]at h ⊢;exact h
 |.str _,_,h=>by rw[Dt]at h ⊢;exact h
 |.tuple _,_,h=>by
  rw[Dt]at h ⊢;obtain⟨a,xs,R,n,M,I⟩:=h;exact⟨a,xs,R,n,e _ _ n M,AR.but e I⟩
 |.list _,_,h=>by
  rw[Dt]at h ⊢;obtain⟨a,xs,R,n,M,I⟩:=h;exact⟨a,xs,R,n,e _ _ n M,AR.but e I⟩
 |.dict _,_,h=>by rw[Dt]at h;exact h.elim
theorem AR.but{l:Addr}{H H':Hp}(e:SameBut l H H'):∀ {ds:List PyData} {xs:List V},AR l H ds xs->AR l H' ds xs
 |[],_,h=>by rw[AR]at h ⊢;exact h
 |_::_,_,h=>by
  rw[AR]at h ⊢;obtain⟨x,r,R,M,I⟩:=h;exact⟨x,r,R,Dt.but e M,AR.but e I⟩
end
theorem Dt.same{l:Addr}{H H':Hp}{d:PyData}{v:V}(h:Dt l H d v)(e:AG H H'):Dt l H' d v:=Dt.but (.of e) h
theorem AR.same{l:Addr}{H H':Hp}{d:List PyData}{v:List V}(h:AR l H d v)(e:AG H H'):AR l H' d v:=AR.but (.of e) h
mutual
theorem Dt.br{K:PySem.W.Frag}{l:Addr}{H:Hp}:∀ {d:PyData} {v:V},Dt l H d v->Br K H d v
 |.none,_,h=>by rw[Dt]at h;rw[Br];exact h
 |.bool _,_,h=>by rw[Dt]at h;rw[Br];exact h
 |.int _,_,h=>by rw[Dt]at h;rw[Br];exact h
 |.str _,_,h=>by rw[Dt]at h;rw[Br];exact h
 |.tuple _,_,h=>by
  rw[Dt]at h;rw[Br];obtain⟨a,xs,R,n,M,I⟩:=h;exact⟨a,xs,R,Ao.of M,AR.br I⟩
 |.list _,_,h=>by
  rw[Dt]at h;rw[Br];obtain⟨a,xs,R,n,M,I⟩:=h;exact⟨a,xs,R,AQ.of M,AR.br I⟩
 |.dict _,_,h=>by rw[Dt]at h;exact h.elim
theorem AR.br{K:PySem.W.Frag}{l:Addr}{H:Hp}:∀ {ds:List PyData} {xs:List V},AR l H ds xs->D7 K H ds xs
 |[],_,h=>by rw[AR]at h;rw[D7];exact h
 |_::_,_,h=>by
  rw[AR]at h;rw[D7];obtain⟨x,r,R,M,I⟩:=h;exact⟨x,r,R,Dt.br M,AR.br I⟩
end
theorem AR.len{l:Addr}{H:Hp}:∀ {ds:List PyData} {xs:List V},AR l H ds xs->xs.length=ds.length
 |[],_,h=>by rw[AR]at h;rw[h];rfl
 |_::_,_,h=>by
  rw[AR]at h;obtain⟨x,r,rfl,_,I⟩:=h;rw[List.length_cons,List.length_cons,AR.len I]
theorem AR.get{l:Addr}{H:Hp}:∀ {ds:List PyData} {xs:List V} {i:Nat} {v:V},AR l H ds xs->xs[i]? = some v->∃d,ds[i]? = some d/\Dt l H d v
 |[],_,i,v,h,e=>by rw[AR]at h;subst h;simp at e
 |d::ds,_,i,v,h,e=>by
  rw[AR]at h;obtain⟨x,r,rfl,T,R⟩:=h;cases i with
  |zero=>simp at e;subst e;exact⟨d,rfl,T⟩
  |succ i=>
   obtain⟨c,M,I⟩:=R.get (i:=i) (v:=v) (by simpa using e);exact⟨c,by simpa using M,I⟩
theorem AR.nil{l:Addr}{H:Hp}:AR l H [] []:=by rw[AR]
theorem AR.cons{l:Addr}{H:Hp}{d:PyData}{ds:List PyData}{x:V}{xs:List V}(h:Dt l H d x)(k:AR l H ds xs):AR l H (d::ds) (x::xs):=by
 rw[AR];exact⟨x,xs,rfl,h,k⟩
theorem AR.app{l:Addr}{H:Hp}:∀ {ds es:List PyData} {xs ys:List V},AR l H ds xs->AR l H es ys->AR l H (ds++es) (xs++ys)
 |[],_,_,_,h,k=>by rw[AR]at h;subst h;exact k
 |d::ds,es,_,ys,h,k=>by
  rw[AR]at h;obtain⟨x,r,rfl,M,I⟩:=h;exact .cons M (I.app k)
theorem Dt.int{l:Addr}{H:Hp}{i:Int}:Dt l H (.int i) (.int i):=by rw[Dt]
theorem Dt.bool{l:Addr}{H:Hp}{b:Bool}:Dt l H (.bool b) (.bl b):=by rw[Dt]
theorem Dt.BJ{l:Addr}{H:Hp}:Dt l H .none .BJ:=by rw[Dt]
theorem Dt.str{l:Addr}{H:Hp}{x:Str}:Dt l H (.str x) (.str x):=by rw[Dt]
theorem Dt.tup{l a:Addr}{H:Hp}{ds:List PyData}{xs:List V}(n:a≠l)(h:H a=some (.tup xs))(k:AR l H ds xs):Dt l H (.tuple ds) (.ref a):=by rw[Dt];exact⟨a,xs,rfl,n,h,k⟩
theorem Dt.lst{l a:Addr}{H:Hp}{ds:List PyData}{xs:List V}(n:a≠l)(h:H a=some (.lst xs))(k:AR l H ds xs):Dt l H (.list ds) (.ref a):=by rw[Dt];exact⟨a,xs,rfl,n,h,k⟩
def Ok(n:Nat)(d:PyData):Prop:=d.canLay0=true/\d.depth<=n
def Fs(n:Nat)(ds:List PyData):Prop:=PyData.canLayAll0 ds=true/\PyData.depthAll ds<=n
theorem Ok.shaped{n:Nat}{d:PyData}(h:Ok n d)(hn:n<=64):SeqAt.shaped d=true:=by
 unfold SeqAt.shaped;rw[h.1,Bool.true_and];exact bT (aR h.2 hn)
theorem Fs.nil{n:Nat}:Fs n []:=⟨by simp[PyData.canLayAll0],by simp[PyData.depthAll]⟩
theorem Fs.cons{n:Nat}{d:PyData}{ds:List PyData}(h:Ok n d)(k:Fs n ds):Fs n (d::ds):=⟨by simp[PyData.canLayAll0,h.1,k.1],by simp only[PyData.depthAll];exact Nat.max_le.mpr ⟨h.2,k.2⟩⟩
theorem Fs.of{n:Nat}:∀ {ds:List PyData},(∀d∈ds,Ok n d)->Fs n ds
 |[],_=>.nil
 |d::ds,h=>.cons (h d ag) (Fs.of fun e I=>h e (aV _ I))
theorem Ok.tup{n:Nat}{ds:List PyData}(h:Fs n ds):Ok (n+1) (.tuple ds):=⟨by simp only[PyData.canLay0];exact h.1,by simp only[PyData.depth];exact Nat.succ_le_succ h.2⟩
theorem Ok.lst{n:Nat}{ds:List PyData}(h:Fs n ds):Ok (n+1) (.list ds):=⟨by simp only[PyData.canLay0];exact h.1,by simp only[PyData.depth];exact Nat.succ_le_succ h.2⟩
theorem Ok.int{n:Nat}{i:Int}:Ok n (.int i):=⟨by simp[PyData.canLay0],by simp[PyData.depth]⟩
theorem Ok.bool{n:Nat}{b:Bool}:Ok n (.bool b):=⟨by simp[PyData.canLay0],by simp[PyData.depth]⟩
theorem Ok.BJ{n:Nat}:Ok n .none:=⟨by simp[PyData.canLay0],by simp[PyData.depth]⟩
theorem Ok.str{n:Nat}{x:Str}(h:PyData.strOk x=true):Ok n (.str x):=⟨by simp[PyData.canLay0,h],by simp[PyData.depth]⟩
mutual
theorem Rp:∀d:PyData,d.canLay0=true->PyData.eqv d d=true
 |.none,_=>by simp[PyData.eqv]
 |.bool _,_=>by simp[PyData.eqv]
 |.int _,_=>by simp[PyData.eqv]
 |.str _,_=>by simp[PyData.eqv]
 |.tuple I,h=>by simp only[PyData.eqv];exact Jy I (by simpa only[PyData.canLay0]using h)
 |.list I,h=>by simp only[PyData.eqv];exact Jy I (by simpa only[PyData.canLay0]using h)
 |.dict _,h=>by simp[PyData.canLay0]at h
theorem Jy:∀ds:List PyData,PyData.canLayAll0 ds=true->PyData.eqvAll ds ds=true
 |[],_=>by simp[PyData.eqvAll]
 |d::ds,h=>by
  simp only[PyData.canLayAll0,Bool.and_eq_true]at h;simp only[PyData.eqvAll,Rp d h.1,Jy ds h.2,Bool.and_self]
end
def S8:PyData->String
 |.none => "NoneType"
 |.bool _ => "bool"
 |.int _ => "int"
 |.str _ => "str"
 |.tuple _ => "tuple"
 |.list _ => "list"
 |.dict _ => "dict"
theorem Dt.ty{K:PySem.W.Frag}{l:Addr}{H:Hp}:∀ {d:PyData} {v:V},Dt l H d v->GU K H v (.type (S8 d))
 |.none,_,h=>by rw[Dt]at h;subst h;exact .BJ
 |.bool _,_,h=>by rw[Dt]at h;subst h;exact .bl _
 |.int _,_,h=>by rw[Dt]at h;subst h;exact .int _
 |.str _,_,h=>by rw[Dt]at h;subst h;exact .str _
 |.tuple _,_,h=>by rw[Dt]at h;obtain⟨a,xs,rfl,_,I,_⟩:=h;exact .tup I
 |.list _,_,h=>by rw[Dt]at h;obtain⟨a,xs,rfl,_,I,_⟩:=h;exact .lst I
 |.dict _,_,h=>by rw[Dt]at h;exact h.elim
def Cd:PyData->Bool
 |.tuple _=>true
 |_=>false
def B7:PyData->Bool
 |.list _=>true
 |_=>false
def Hg:PyData->Bool
 |.int _=>true
 |.bool _=>true
 |_=>false
def GJ:PyData->Bool
 |.bool _=>true
 |_=>false
theorem Dy(K:PySem.W.Frag):∀d:PyData,(∀kv,d≠.dict kv)->PySem.W.kitOne K (.type (S8 d)) (.type "tuple")=some (Cd d)
 |.none,_=>fF K
 |.bool _,_=>dA K
 |.int _,_=>fK K
 |.str _,_=>gQ K
 |.tuple _,_=>cz K
 |.list _,_=>gR K
 |.dict kv,h=>absurd rfl (h kv)
theorem DV(K:PySem.W.Frag):∀d:PyData,(∀kv,d≠.dict kv)->PySem.W.kitOne K (.type (S8 d)) (.type "list")=some (B7 d)
 |.none,_=>fQ K
 |.bool _,_=>dj K
 |.int _,_=>eZ K
 |.str _,_=>eY K
 |.tuple _,_=>cq K
 |.list _,_=>fg K
 |.dict kv,h=>absurd rfl (h kv)
theorem eT(K:PySem.W.Frag):PySem.W.kitOne K (.type "NoneType") (.type "bool")=some false:=by kernel_rfl
theorem gL(K:PySem.W.Frag):PySem.W.kitOne K (.type "str") (.type "bool")=some false:=by kernel_rfl
theorem eh(K:PySem.W.Frag):PySem.W.kitOne K (.type "tuple") (.type "bool")=some false:=by kernel_rfl
theorem fP(K:PySem.W.Frag):PySem.W.kitOne K (.type "list") (.type "bool")=some false:=by kernel_rfl
theorem SH(K:PySem.W.Frag):∀d:PyData,(∀kv,d≠.dict kv)->PySem.W.kitOne K (.type (S8 d)) (.type "int")=some (Hg d)
 |.none,_=>eL K
 |.bool _,_=>dw K
 |.int _,_=>dQ K
 |.str _,_=>eX K
 |.tuple _,_=>cR K
 |.list _,_=>dM K
 |.dict kv,h=>absurd rfl (h kv)
theorem QB(K:PySem.W.Frag):∀d:PyData,(∀kv,d≠.dict kv)->PySem.W.kitOne K (.type (S8 d)) (.type "bool")=some (GJ d)
 |.none,_=>eT K
 |.bool _,_=>cw K
 |.int _,_=>dG K
 |.str _,_=>gL K
 |.tuple _,_=>eh K
 |.list _,_=>fP K
 |.dict kv,h=>absurd rfl (h kv)
theorem Dt.nodict{l:Addr}{H:Hp}{d:PyData}{v:V}(h:Dt l H d v):∀kv,d≠.dict kv:=fun kv z=>by subst z;rw[Dt]at h;exact h
end L2
namespace L2
open PySem PySem.Spec PyProof.Rows
def leaf:PyData->Prop
 |.none=>True
 |.bool _=>True
 |.int _=>True
 |.str x=>PyData.strOk x=true
 |_=>False
def Sm:Nat->PyData->Prop
 |0,d=>leaf d
 |n+1,d=>leaf d\/∃I,(d=.tuple I\/d=.list I)/\I.length<=60/\∀e∈I,Sm n e
theorem leaf.ok{n:Nat}:∀ {d:PyData},leaf d->Ok n d
 |.none,_=>.BJ
 |.bool _,_=>.bool
 |.int _,_=>.int
 |.str _,h=>.str h
theorem Sm.ok:∀ {n:Nat} {d:PyData},Sm n d->Ok n d
 |0,_,h=>leaf.ok h
 |n+1,d,h=>by
  rcases h with h|⟨T,R,_,M⟩
  .exact h.ok
  .have:=Fs.of fun e I=>(M e I).ok;rcases R with rfl|rfl
   .exact .tup this
   .exact .lst this
theorem Sm.tup{n:Nat}{ds:List PyData}(h:ds.length<=60)(k:∀e∈ds,Sm n e):Sm (n+1) (.tuple ds):=.inr ⟨ds,.inl rfl,h,k⟩
section
variable{X:Cx}
def iP:R2:=fun x y H Q=>∃a b xs ys,x=.ref a/\y=.ref b/\H a=some (.tup xs)/\H b=some (.tup ys)/\xs.length+ys.length<=sizeLine/\∀p H',AG H H'->H' p=some (.tup (xs++ys))->Q (.ref p) H'
theorem OW:Cy X (binaryOp .Add) iP:=by
 intro pins s σ H x y v u Q I rx ry h;obtain⟨a,b,xs,ys,rfl,rfl,ha,hb,hz,q⟩:=h;cases rx;cases ry;obtain⟨its,Z,p1,_⟩:=I.tuple (Ao.of (K:=X.K) ha);obtain⟨its2,Y,p2,_⟩:=I.tuple (Ao.of (K:=X.K) hb);by_cases hv:its=[]
 .have hx:=Z.UL.mp hv;subst hv hx;obtain⟨⟨cls,dd,data,sl⟩,ho,hc,n,hd⟩:=id p1;obtain⟨⟨cls2,dd2,data2,U⟩,M,T,n2,R⟩:=id p2;simp only at hc hd T R;subst hc hd T R;exact concat_meets ⟨_,ho,rfl⟩ ⟨_,M,rfl⟩ noFill_tuple_add seq_tuple_add PySem.F.slot_tuple_add PySem.F.entry_tuple_add (PySem.F.args_tuple_add_2 _ _)
   (tuple_addW0 a b _ _ n n2 dd dd2 sl U (by simp)) ⟨ho,M,⟨.ref b,H,I,rfl,q b H (.refl H) (by simpa using hb)⟩⟩
 .refine HT.Z2 p1 p2 hv (fun z=>?_) (fun z=>?_) (by rw[<-Z.length,<-Y.length];exact hz)
  .have hy:=Y.UL.mp z;subst hy;exact⟨.ref a,H,I,rfl,q a H (.refl H) (by simpa using ha)⟩
  .refine⟨.ref s.heap.objs.size,_,I.laid (t':=s.toks) (o:=.tup (xs++ys)) (fun b ob q=>aD _ q) (aG _) ?_,rfl,q _ _ (AL (I.Al.fresh (aG _)) _) AF⟩;exact⟨by rw[List.length_append];exact hz,_,Z.append Y,IsTup.new _ _⟩
end
end L2
namespace Tim
open PySem PyProof.Rows
section pure
end pure
section
section pure
end pure
section pure
end pure
end
end Tim
namespace GS
open PySem PySem.W PyProof.Rows PySem.SeqAt
abbrev Ext(h0 h:Heap):Prop:=∀c o,h0.get? c=some o->h.get? c=some o
def PF(O:KeyOrd)(prog:Program)(w:World)(κ:SortKind)(A:Around)(s:Shared)(ks:List O.α)(us:List Value):Prop :=
 ∀(E:Value->Shared->Prop) (i j:Nat) (x y:O.α) (u v:Value) (Q:Bool->Shared->Prop),us[i]? = some u->us[j]? = some v->ks[i]? = some x->ks[j]? = some y->Q (O.blt x y) s->wpAny (model prog w) A (keyLt' κ u v) Q E s
structure ZJ(O:KeyOrd)(prog:Program)(w:World)(h0:Heap)(r:Nat)(ks:List O.α)(us:List Value):Prop where
 len:us.length=ks.length
 go:∃ok:SortKind->Prop,(∀(A:Around) (E:Value->Shared->Prop) (s:Shared) (Q:SortKind->Shared->Prop),Ext h0 s.heap->(∀κ,ok κ->Q κ s)->wpAny (model prog w) A (keyKind' us.toArray) Q E s) /\
  ∀(A:Around) (s:Shared) (κ:SortKind),Ext h0 s.heap->A.units+r<cLine->ok κ->PF O prog w κ A s ks us
def Runs(O:KeyOrd)(prog:Program)(w:World)(ks:List O.α):Prop :=
 ∀(d:O.α) (A:Around) (E:Value->Shared->Prop) (s:Shared) (κ:SortKind) (I:List Value),I.length=ks.length->2<=I.length->PF O prog w κ A s ks I ->
  wpAny (model prog w) A ((sortRuns').run (SortSt.mk' κ (I.toArray.zip I.toArray) #[] 7 none)) (fun r M=>M=s/\failedOf r.2=none/\∃ix:List Nat,ix.Perm (List.range I.length) /\
   (arrOf r.2).map (·.2)=(ix.map fun i=>I.getD i Value.none).toArray/\(ix.map fun i=>ks.getD i d).Pairwise O.kle) E s
theorem OL{O:KeyOrd}{prog:Program}{w:World}{ks:List O.α}(U:ks.length<64):Runs O prog w ks:=by
 intro d A E s κ I hl h2 ask;have U:I.length<64:=by lia
 refine kat_run (Q:=fun M Y=>Y=s/\failedOf M=none/\∃ix:List Nat,ix.Perm (List.range I.length)/\(arrOf M).map (·.2)=(ix.map fun i=>I.getD i Value.none).toArray/\(ix.map fun i=>ks.getD i d).Pairwise O.kle)
  (G:=fun p Y=>Y=s/\SM.Pm I.length p/\SM.Up (O:=O) (fun i=>ks.getD i d) p I.length) rfl h2 U (fun p M Y hp har hf hG=>?_)
  (TH.TB (lt:=SM.F4 (O:=O) fun i=>ks.getD i d) (n:=I.length) (fun i j C hi T Z=>?_) _ (SM.sort (by lia)))
 .obtain⟨rfl,hpm,hup⟩:=hG;have h1:p.toList.Perm (List.range I.length):=by simpa using Array.perm_iff_toList_perm.mp hpm.perm
  refine⟨rfl,hf,p.toList,h1,kat_snds rfl har,?_⟩;refine List.pairwise_iff_getElem.mpr fun i j hi T hij=>?_;rw[List.length_map,Array.length_toList,hp]at hi T;have:=hup i j (by lia) T;have e1:∀k,k<I.length->∀R,(p.toList.map fun i=>ks.getD i d)[k]' R=ks.getD (p.getD k 0) d:=fun k R hk'=>by
   rw[List.getElem_map,Array.getElem_toList,Array.getD,dif_pos (by lia)]
   rfl
  rw[e1 i hi,e1 j T];exact this
 .have gi:∀k,k<I.length->∃u x,I[k]? = some u/\ks[k]? = some x/\I.getD k Value.none=u/\ks.getD k d=x:=fun k R=>by
   refine⟨I[k],ks[k]'(by lia),List.getElem?_eq_getElem R,List.getElem?_eq_getElem (by lia),?_,?_⟩
   .rw[List.getD_eq_getElem?_getD,List.getElem?_eq_getElem R];rfl
   .rw[List.getD_eq_getElem?_getD,List.getElem?_eq_getElem (by lia)];rfl
  obtain⟨u,x,q1,q2,q3,q4⟩:=gi i hi;obtain⟨v,y,r1,r2,r3,r4⟩:=gi j T;unfold kas_ask;rw[q3,r3];refine ask _ i j x y u v C q1 r1 q2 r2 ?_;have Z:C (O.blt (ks.getD i d) (ks.getD j d)) s:=Z;rw[q4,r4]at Z;exact Z
section
variable{O:KeyOrd}{prog:Program}{w:World}{A:Around}{E:Value->Shared->Prop}{s:Shared}{h0:Heap}{r:Nat}{ks:List O.α}{us:List Value}
theorem PF.rev{κ:SortKind}(U:us.length=ks.length)(a:PF O prog w κ A s ks us):PF O prog w κ A s ks.reverse us.reverse:=fun E i j x y u v Q T R M I q=>by
 have b1:=(aB.mp T).1;have b2:=(aB.mp R).1;rw[List.length_reverse]at b1 b2;rw[List.getElem?_reverse (by lia)]at T R M I;rw[<-U]at M I;exact a E _ _ x y u v Q T R M I q
theorem Y6{α:Type}{R:α->α->Prop}:∀ {l:List α},l.length<2->l.Pairwise R
 |[],_=>.nil
 |[_],_=>List.pairwise_singleton ..
 |_::_::_,h=>by simp at h;lia
theorem Wc(d : O.α){a : Addr}{n : Nat}{b : Bool}{P : PySem.Fin->Shared->Prop}(C : ZJ O prog w h0 r ks us)(hx : Ext h0 s.heap)(ha0 : h0.objs.size<=a)(ho : s.heap.get? a = some (seqObj "list" us.toArray n))(hsz : us.length<=1000)(hr : Runs O prog w (if b then ks.reverse else ks))(hu : A.units + r < cLine)
 (h : ∀ ix : List Nat,ix.Perm (List.range us.length)->(ix.map fun i => ks.getD i d).Pairwise (fun x y => if b = true then O.kle y x else O.kle x y)->P (.done (.ret .none)) { s with heap:=sortedHeap s.heap a us (ix.map fun i => us.getD i Value.none).toArray }) :
    wpAny (model prog w) A (Builtin.«list.sort» ⟨[.ref a],[(Str.ofString "reverse",.bool b)]⟩) P E s:=by
  rw [list_sort_rev]
  have ha : a < s.heap.objs.size:=aF ho
  refine aA (listItems_at ho rfl ?_)
  refine aA (listUpdate_at ho rfl ?_ (by rw [List.size_toArray,sizeLine_eq]; lia) (ar _))
  obtain ⟨e1,ho1⟩ : ∃ e1,(s.heap.update a (Obj.mapSeq fun _ => #[])).get? a = some (seqObj "list" #[] e1):=⟨_,get?_update_seq ho (fun _ => #[])⟩
  refine aA (seqEpoch_at ho1 rfl ?_)
  refine aA (wpAny_newTuple ?_ (by show us.length<=_; rw [sizeLine_eq]; lia))
  refine aA (wpAny_newList ?_ (ar _))
  refine bQ ?_
  have ho6 : (((s.heap.update a (Obj.mapSeq fun _ => #[])).push (seqObj "tuple" us.toArray 0)).push (seqObj "list" #[] 0)).get? a = some (seqObj "list" #[] e1):=by
    rw [Heap.get?_push_ne _ _ _ (by rw [size_push',Heap.size_update]; exact aO (bV ha)),Heap.get?_push_ne _ _ _ (by rw [Heap.size_update]; exact aO ha)]
    exact ho1
  have keep : Ext h0 (((s.heap.update a (Obj.mapSeq fun _ => #[])).push (seqObj "tuple" us.toArray 0)).push (seqObj "list" #[] 0)):=fun c o hc => by
    have hlt : c < h0.objs.size:=aF hc
    have hne : c≠a:=fun z => Nat.not_lt.mpr ha0 (z ▸ hlt)
    refine aD _ (aD _ ?_)
    rw [Heap.get?_update_ne _ _ _ _ hne]
    exact hx c o hc
  show wpAny (model prog w) A _ P E { s with heap:=((s.heap.update a (Obj.mapSeq fun _ => #[])).push (seqObj "tuple" us.toArray 0)).push (seqObj "list" #[] 0) }
  dsimp only
  have step : ∀ T : Sem PySem.Fin,wpAny (model prog w) A T P E { s with heap:=((s.heap.update a (Obj.mapSeq fun _ => #[])).push (seqObj "tuple" us.toArray 0)).push (seqObj "list" #[] 0) } ->
      wpAny (model prog w) A (if b = true then (do let _ <- rule "list.sort.reverse"; T) else T) P E { s with heap:=((s.heap.update a (Obj.mapSeq fun _ => #[])).push (seqObj "tuple" us.toArray 0)).push (seqObj "list" #[] 0) }:=by
    intro T hT
    split
    . exact aA (wpAny_rule hT)
    . exact hT
  refine step _ ?_
  obtain ⟨ok,hkind,hask⟩:=C.go
  have hl:=C.len
  by_cases h2 : us.toArray.size < 2
  . rw [if_pos h2,if_pos h2]
    refine aA (aC ?_)
    rw [StateT.run_pure]
    refine aA (aC ?_)
    dsimp only
    have hz : us.length < 2:=by simpa using h2
    have hout:=TH.Vz b us hz
    refine aA (seqEpoch_at ho6 rfl ?_)
    refine aA (listUpdate_at ho6 rfl ?_ (ar _) (by
      refine aR (Nat.le_of_eq (bD Array.size hout)) ?_
      rw [List.size_toArray,sizeLine_eq]; lia))
    simp only [bne_self_eq_false,Bool.false_eq_true,if_false]
    have fin:=h (List.range us.length) (.refl _) (Y6 (by simpa using hz))
    rw [TH.map_getD] at fin
    rw [<- hout] at fin
    exact aC fin
  . rw [if_neg h2,if_neg h2]
    have hz : 2<=us.length:=by simpa using h2
    refine aA (hkind A E { s with heap:=((s.heap.update a (Obj.mapSeq fun _ => #[])).push (seqObj "tuple" us.toArray 0)).push (seqObj "list" #[] 0) } _ keep fun κ hκ => ?_)
    have ask:=hask A { s with heap:=((s.heap.update a (Obj.mapSeq fun _ => #[])).push (seqObj "tuple" us.toArray 0)).push (seqObj "list" #[] 0) } κ keep hu hκ
    obtain ⟨ws,kw,aw,hwl,hwk,hws,hrw,pick⟩ : ∃ (ws : List Value) (kw : List O.α),PF O prog w κ A { s with heap:=((s.heap.update a (Obj.mapSeq fun _ => #[])).push (seqObj "tuple" us.toArray 0)).push (seqObj "list" #[] 0) } kw ws/\ws.length = us.length/\ws.length = kw.length /\
        (if b = true then (us.toArray.zip us.toArray).reverse else us.toArray.zip us.toArray) = ws.toArray.zip ws.toArray/\Runs O prog w kw /\
        ∀ ix : List Nat,ix.Perm (List.range ws.length)->(ix.map fun i => kw.getD i d).Pairwise O.kle->∃ iy : List Nat,iy.Perm (List.range us.length)/\(iy.map fun i => ks.getD i d).Pairwise (fun x y => if b = true then O.kle y x else O.kle x y) /\
          (if b = true then ((ix.map fun i => ws.getD i Value.none).toArray).reverse else (ix.map fun i => ws.getD i Value.none).toArray) = (iy.map fun i => us.getD i Value.none).toArray:=by
      cases b with
      | false => exact ⟨us,ks,ask,rfl,hl,rfl,hr,fun ix h1 h2 => ⟨ix,h1,by simpa using h2,rfl⟩⟩
      | true=>
        refine ⟨us.reverse,ks.reverse,ask.rev hl,by simp,by simp [hl],kat_pairs (ks:=us) (vs:=us) true rfl,hr,fun ix h1 h2 => ⟨(ix.map fun i => us.length - 1 - i).reverse,?_,?_,?_⟩⟩
        . rw [List.length_reverse] at h1
          refine (List.reverse_perm _).trans ((h1.map fun i => us.length - 1 - i).trans ?_)
          have : (List.range us.length).map (fun i => us.length - 1 - i) = (List.range us.length).reverse:=by
            refine List.ext_getElem (by simp) fun i a1 a2 => ?_
            simp
          rw [this]
          exact List.reverse_perm _
        . have hb : ∀ i∈ix,i < us.length:=fun i hi => by simpa using h1.mem_iff.mp hi
          have e : ((ix.map fun i => us.length - 1 - i).reverse.map fun i => ks.getD i d) = (ix.map fun i => ks.reverse.getD i d).reverse:=by
            rw [List.map_reverse,List.map_map]
            congr 1
            exact aW fun i hi => by
              have:=hb i hi
              show ks.getD (us.length - 1 - i) d = _
              rw [List.getD_eq_getElem?_getD,List.getD_eq_getElem?_getD,List.getElem?_reverse (by lia),hl]
          rw [e,List.pairwise_reverse]
          simpa using h2
        . have hb : ∀ i∈ix,i < us.length:=fun i hi => by simpa using h1.mem_iff.mp hi
          rw [if_pos rfl,List.map_reverse,List.map_map,List.reverse_toArray]
          congr 2
          exact aW fun i hi => by
            have:=hb i hi
            show us.reverse.getD i Value.none = us.getD (us.length - 1 - i) Value.none
            rw [List.getD_eq_getElem?_getD,List.getD_eq_getElem?_getD,List.getElem?_reverse (by lia)]
    rw [hws]
    refine aA (aj (hrw d A E { s with heap:=((s.heap.update a (Obj.mapSeq fun _ => #[])).push (seqObj "tuple" us.toArray 0)).push (seqObj "list" #[] 0) } κ ws hwk (by lia) aw) ?_ fun _ _ z => z)
    rintro ⟨⟨⟩,st'⟩ s' ⟨rfl,hf,ix,hix,hout,hst⟩
    dsimp only
    refine aA (seqEpoch_at ho6 rfl ?_)
    obtain ⟨iy,y1,y2,hfin⟩ : ∃ iy : List Nat,iy.Perm (List.range us.length)/\(iy.map fun i => ks.getD i d).Pairwise (fun x y => if b = true then O.kle y x else O.kle x y) /\
        (if b = true then ((arrOf st').map (·.2)).reverse else (arrOf st').map (·.2)) = (iy.map fun i => us.getD i Value.none).toArray:=by
      rw [show (arrOf st').map (·.2) = _ from hout]
      exact pick ix hix hst
    refine aA (listUpdate_at ho6 rfl ?_ (ar _) (by
      refine aR (Nat.le_of_eq (bD Array.size hfin)) ?_
      have:=y1.length_eq
      rw [List.length_range] at this
      rw [List.size_toArray,List.length_map,this,sizeLine_eq]; lia))
    rw [show failedOf st' = none from hf]
    simp only [bne_self_eq_false,Bool.false_eq_true,if_false]
    have fin:=h iy y1 y2
    rw [<- hfin] at fin
    exact aC fin
theorem TL(d:O.α){b:Bool}{Q:Value->Shared->Prop}{h1:Heap}{tk:Nat}{T:Sem PySem.Fin}(C:ZJ O prog w s.heap r ks us)(hsz:us.length<=1000)(hr:Runs O prog w (if b then ks.reverse else ks))(I:Ext s.heap h1)(Y:s.heap.objs.size<=h1.objs.size)
 (h:∀(h':Heap) (D tk:Nat) (ix:List Nat) (R:Nat),s.heap.objs.size<=D->Ext s.heap h'->h'.get? D=some (seqObj "list" (ix.map fun i=>us.getD i Value.none).toArray R)->ix.Perm (List.range us.length)->(ix.map fun i=>ks.getD i d).Pairwise (fun x y=>if b=true then O.kle y x else O.kle x y)->Q (.ref D) {s with heap:=h',toks:=tk}) :
  (h1.push (seqObj "list" us.toArray 0)).get? h1.objs.size=some (seqObj "list" us.toArray 0)/\Ext s.heap (h1.push (seqObj "list" us.toArray 0)) /\
  ∀ix:List Nat,ix.Perm (List.range us.length)->(ix.map fun i=>ks.getD i d).Pairwise (fun x y=>if b=true then O.kle y x else O.kle x y)->Q (.ref h1.objs.size) {s with heap:=sortedHeap (h1.push (seqObj "list" us.toArray 0)) h1.objs.size us (ix.map fun i=>us.getD i Value.none).toArray,toks:=tk}:=by
 have g1:(h1.push (seqObj "list" us.toArray 0)).get? h1.objs.size=some (seqObj "list" us.toArray 0):=aU _ rfl;refine⟨g1,fun b u e=>aD _ (I b u e),fun ix p1 Z=>?_⟩;obtain⟨R,M⟩:=sortedHeap_at (vs:=us) (out:=(ix.map fun i=>us.getD i Value.none).toArray) g1;refine h _ h1.objs.size tk ix R Y (fun b u e=>?_) M p1 Z;have U:b<h1.objs.size:=aF (I b u e);rw[sortedHeap_old (aO U) (by rw[Heap.size_push];exact bV U)];exact aD _ (I b u e)
end
end GS
set_option maxHeartbeats 0
set_option maxHeartbeats 4000000
namespace TH
open PySem PySem.W PyProof.Rows PySem.SeqAt
theorem O9{h h':Heap}(k:GS.Ext h h'){a:Addr}{x:Array Value}(e:h.IsTuple a x):h'.IsTuple a x:=let⟨o,I,c,n,d⟩:=e;⟨o,k _ _ I,c,n,d⟩
section
open PySem.MeetsSeq PySem.MeetsSeq2 PySem.MeetsSeq3
variable{A:Around}{E:Value->Shared->Prop}{s:Shared}
def RL(h:Heap)(v:Value):Prop:=∃(a b:Addr) (xs:Array Value) (I:List Value),v=.ref a/\h.IsTuple a ((.ref b::I).toArray)/\h.IsTuple b xs
theorem Pd{M:Model}:∀(us:List Value) {Q:List (Option Value)->Shared->Prop},(∀v∈us,RL s.heap v)->(∀fs:List Value,fs.length=us.length->(∀v∈fs,Looks M s.heap (typeOf v) (.type "tuple"))->Q (fs.map some) s)->wpAny M A (us.mapM firstOfTuple') Q E s
 |[],Q,_,h=>by
  rw[List.mapM_nil];exact aC (h [] rfl fun _ z=>by cases z)
 |v::us,Q,e,h=>by
  obtain⟨a,b,xs,R,rfl,h1,h2⟩:=e v ag;obtain⟨o,U,hc,n,hd⟩:=id h1;rw[List.mapM_cons];refine aA ?_;rw[kas_first_eq];refine aA (Looks.here (show Looks M s.heap (typeOf (.ref a)) o.cls from(Looks.ld U).andThen .now) ?_);rw[hc,if_neg (by first|decide|simp)];refine aA (listItems_at U hd (aC ?_));refine aA (Pd us (Q:=fun bs Y=>wpAny M A (pure ((.ref b::R).toArray[0]? :: bs)) Q E Y) (fun v I=>e v (aV _ I)) fun fs Z T=>aC ?_);have:=h (.ref b::fs) (by simp[Z]) fun v I=>by
   rcases aS.mp I with rfl|I
   .exact Ti h2
   .exact T v I
  simpa using this
theorem Zw{M:Model}{us:List Value}{Q:SortKind->Shared->Prop}(e:∀v∈us,RL s.heap v)(h:Q (tuples' false) s):wpAny M A (keyKind' us.toArray) Q E s:=by
 rw[kat_kind_eq,List.mapM_toArray,map_eq_pure_bind];refine aA (aA (Pd us e fun fs T I=>aC ?_));rw[if_pos (by simp)];refine aA (wpAny_rule ?_);have R:((fs.map some).toArray.filterMap id)=fs.toArray:=by simp
 rw[R];exact aA (cP I (fun _=>aC h) (aC h))
end
end TH
namespace L2
open PySem PySem.Spec PyProof.Rows
abbrev Mg(x y:Str)(R M:Pos)(tk:Nat)(I:Pos):Expr:=.Tuple [.Name x R,.Name y M] tk I
theorem cE{ix I:Nat}(h:ix≠I)(σ:St)(a b c d:Option V):((((σ.set ix a).set I b).set ix c).set I d)=(σ.set ix c).set I d:=by
 rw[List.set_comm _ _ h.symm,List.set_set,List.set_set]
def KG(K:PySem.W.Frag)(wi:TI)(fr:List (Option Nat))(ix U:Nat)(T:TT)(te:TE):TE:=fun σ H Q=>wi σ H fun J H1=>∀D,H1 D=none->∃W:Nat->Nat->List V->Hp->Prop,(∃m,W 0 m [] (upd H1 D (.lst []))) /\
 ∀i m ys H,W i m ys H->H D=some (.lst ys)/\((J.stop i H/\Q (.ref D) H)\/(J.go i H/\ys.length<sizeLine/\∀x H',J.EJ i H x H'->∃a R M,x=.ref a/\Ao K H' a [R,M] /\
  T (((carry fr σ).set ix (some R)).set U (some M)) H' fun b Z=>if b=true then te (((carry fr σ).set ix (some R)).set U (some M)) Z fun y Y=>Y D=some (.lst ys)/\∃I,I<m/\W (i+1) I (ys++[y]) (upd Y D (.lst (ys++[y])))
   else ∃I,I<m/\W (i+1) I ys Z))
section
variable{X:Cx}{elt iter:Expr}{x y:Str}{px py tp pos:Pos}{tk:Nat}{ifs:List Expr}{scope:Scope}{wi:TI}{fr:List (Option Nat)}{ix iy:Nat}{tif:TT}{te:TE}{N:List Str}
theorem Mi{pins:List (Addr×Obj)}{σ:St}{M:Hp}{s2:Shared}{Q:VK}{it:Addr}{fp:List Addr}{tn:Nat->Heap->Prop}{J:It}{cl:List (Str×Addr)}{E:Value->Shared->Prop}{RR:Value->Addr->Result->Shared->Prop}
 (S:Cv scope N x ix)(S2:Cv scope N y iy)(hxy:ix≠iy)(I:X.calm=true)(hfr:EF N X.N scope X.env.scope fr 0=true)(hlen:fr.length=N.length)
 (hif:∀cl C s₀ H₀ fp,KH (Ap X scope cl N C s₀ H₀ fp) ifs tif)(he:∀cl C s₀ H₀ fp,PE (Ap X scope cl N C s₀ H₀ fp) elt te)
 (I2:Inv X pins σ M s2)(T:Turn X.prog X.w X.K (Mg x y px py tk tp) J fp it tn)(st2:tn 0 s2.heap)(f2:∀b∈fp,Jv X pins M b)
 (c1:∀x c,cl.lookup x=some c->X.env.cells.lookup x=some c)(c2:∀x∈scope.names,x.2=NameKind.free->∃c,cl.lookup x.1=some c)
 (W:∀D,M D=none->∃W:Nat->Nat->List V->Hp->Prop,(∃m,W 0 m [] (upd M D (.lst []))) /\
   ∀i m ys H,W i m ys H->H D=some (.lst ys)/\((J.stop i H/\Q (.ref D) H)\/(J.go i H/\ys.length<sizeLine/\∀x H',J.EJ i H x H'->∃a Y U,x=.ref a/\Ao X.K H' a [Y,U] /\
    tif (((carry fr σ).set ix (some Y)).set iy (some U)) H' fun b M=>if b=true then te (((carry fr σ).set ix (some Y)).set iy (some U)) M fun y H3=>H3 D=some (.lst ys)/\∃m',m'<m/\W (i+1) m' (ys++[y]) (upd H3 D (.lst (ys++[y])))
     else ∃m',m'<m/\W (i+1) m' ys M)))
 (fin:∀(D C:Addr) (s':Shared) (H':Hp) m,s'.heap.Ns C m->Q (.ref D) H'->(∀h',Heap.SameBut C s'.heap h'->Inv X pins σ H' { s' with heap:=h'})->C≠D->(∀b o,s2.heap.get? b=some o->b≠C)->H' C=none->s2.heap.objs.size<=C->RR (.ref D) C (.ok .next) s') :
  wpAny (model X.prog X.w) X.A (newList []) (fun acc s₃=>wpAny (model X.prog X.w) X.A (newFunctionEnv scope X.env.globals cl [] X.env.qual none .none (some X.env)) (fun R s₄=>
   codeAny (model X.prog X.w) X.A (.compStart (.ListComp elt [⟨Mg x y px py tk tp,iter,ifs,0⟩] scope pos) 0 (.ref it) acc {R with scope:=relabel scope X.env}) (RR acc R.locals) s₄) E s₃) E s2:=by
 have hxv:(relabel scope X.env).names.lookup x=some .local:=lookup_relabel_local S.loc;have hyv:(relabel scope X.env).names.lookup y=some .local:=lookup_relabel_local S2.loc;refine Mt (g:=Yw X.K 2 (Nq (C1 ix) (Nq (C1 iy) YS))) S I (fun Z=>∀v w,(Z.set ix v).set iy w=((carry fr σ).set ix v).set iy w) (fun _ _=>rfl) (fun C=>Eu (X:=Ap X scope cl N C s2 M fp) I (BM (Am (X:=Ap X scope cl N C s2 M fp) S.nd S.at_ (.inl hxv) (.inr hxv)) (BM (Am (X:=Ap X scope cl N C s2 M fp) S2.nd S2.at_ (.inl hyv) (.inr hyv)) EC))) hfr hlen hif he I2 T st2 f2 c1 c2 (fun D hD=>?_) fin;obtain⟨W,w0,st⟩:=W D hD;refine⟨W,w0,fun i m ys H w=>?_⟩;obtain⟨h1,h2|⟨h2,h3,h4⟩⟩:=st i m ys H w
 .exact⟨h1,.inl h2⟩
 .refine⟨h1,.inr ⟨h2,h3,fun x H' hy Z hr=>?_⟩⟩;obtain⟨a,Y,U,rfl,hs,q⟩:=h4 x H' hy;rw[<-hr]at q;exact⟨a,[Y,U],rfl,hs,rfl,Y,[U],rfl,U,[],rfl,rfl,fun v w=>by rw[cE hxy,hr],q⟩
theorem Xp(S:Cv scope N x ix)(S2:Cv scope N y iy)(hxy:ix≠iy)(Y:X.calm=true)(hfr:EF N X.N scope X.env.scope fr 0=true)(Z:fr.length=N.length)(R:∀y∈scope.names,y.2=.free->X.env.scope.names.lookup y.1=some .cell\/X.env.scope.names.lookup y.1=some .free)
 (hi:PI X (Mg x y px py tk tp) iter wi)(hif:∀cl C s₀ H₀ fp,KH (Ap X scope cl N C s₀ H₀ fp) ifs tif)(he:∀cl C s₀ H₀ fp,PE (Ap X scope cl N C s₀ H₀ fp) elt te)
 (hs:∀x,foldedSetIterable iter X.env x=pure x:=by intro _;rfl):PE X (.ListComp elt [⟨Mg x y px py tk tp,iter,ifs,0⟩] scope pos) (KG X.K wi fr ix iy tif te):=by
 intro pins s σ H Q I hw;obtain⟨cl,U,c1,_,c2⟩:=FK (env:=X.env) scope.names [] (fun y hy hf=>I.ok.has y.1 (R y hy hf)) (fun y c z=>by cases z);have M:closureFor scope X.env=pure cl:=by
  have e:closureFor scope X.env=((forIn scope.names [] (fun(x:Str×NameKind) (r:List (Str×Addr))=>do if(x.2==NameKind.free)=true then do let a <-cellOf X.env x.1;pure (ForInStep.yield ((x.1,a)::r)) else pure (ForInStep.yield r)):Sem (List (Str×Addr)))>>=fun cs=>pure cs):=rfl;rw[e,U]
  rfl
 rw[eval_ListComp];refine wpAny_comprehension_free (use:=none) rfl hs M S.kind S.names (A5 (hi pins s σ H _ I hw) fun v s1 h1=>A5 h1 fun itv s2 h2=>?_);obtain⟨it,fp,tn,J,H2,e,I2,T,st2,f2,W⟩:=h2;subst e;refine Mi (RR:=fun acc C=>compPost (model X.prog X.w) X.A X.xe none (EP X pins σ Q) acc C) S S2 hxy Y hfr Z hif he I2 T st2 f2 c1 c2 W ?_;intro D C s' H' m hn q hI _ _ _ _;exact⟨m,hn,fun h' hs'=>⟨.ref D,H',hI h' hs',rfl,q⟩⟩
theorem TM{i : Nat}{z : Str}{pz spos : Pos}(hN : X.N.Nodup)(hy : X.N[i]? = some z)(hly : X.env.scope.names.lookup z = some .local)(S : Cv scope N x ix)(S2 : Cv scope N y iy)(hxy : ix≠iy)(hcalm : X.calm = true)(hfr : EF N X.N scope X.env.scope fr 0 = true)(hlen : fr.length = N.length)
 (hfree : ∀ y∈scope.names,y.2 = .free->X.env.scope.names.lookup y.1 = some .cell\/X.env.scope.names.lookup y.1 = some .free)
 (hi : PI X (Mg x y px py tk tp) iter wi)(hif : ∀ cl C s₀ H₀ fp,KH (Ap X scope cl N C s₀ H₀ fp) ifs tif)(he : ∀ cl C s₀ H₀ fp,PE (Ap X scope cl N C s₀ H₀ fp) elt te)
 (hsw : swapsWith (.ListComp elt [⟨Mg x y px py tk tp,iter,ifs,0⟩] scope pos) (some (.Name z pz)) spos.line X.env = pure true:=by rfl)
 (hs : ∀ x,foldedSetIterable iter X.env x = pure x:=by intro _; rfl) :
    PS X (.Assign [.Name z pz] (.ListComp elt [⟨Mg x y px py tk tp,iter,ifs,0⟩] scope pos) spos) (M9 (KG X.K wi fr ix iy tif te) (C1 i)):=by
  intro pins s σ H D I hw
  obtain ⟨cl,hclos,c1,_,c2⟩:=FK (env:=X.env) scope.names [] (fun y hy hf => I.ok.has y.1 (hfree y hy hf)) (fun y c z => by cases z)
  have hclos' : closureFor scope X.env = pure cl:=by
    have e : closureFor scope X.env = ((forIn scope.names [] (fun (x : Str×NameKind) (r : List (Str×Addr)) => do if (x.2 == NameKind.free) = true then do let a <- cellOf X.env x.1; pure (ForInStep.yield ((x.1,a) :: r)) else pure (ForInStep.yield r)):Sem (List (Str×Addr))) >>= fun cs => pure cs):=rfl
    rw [e,hclos]
    rfl
  rw [exec_Assign_Name_used _ _ _ _ hsw]
  refine aA (wpAny_standAt (aA ?_))
  show wpAny _ X.A (do let _ <- comprehension (.ListComp elt [⟨Mg x y px py tk tp,iter,ifs,0⟩] scope pos) scope X.env _ (newList []) false (eval iter X.env) (some (assign (.Name z pz) X.env))) _ _ s
  refine aA (aj (wpAny_comprehension_free (use:=some (assign (.Name z pz) X.env)) (Q:=fun _ s' => SP X pins D .next s') rfl hs hclos' S.kind S.names
    (A5 (hi pins s σ H _ I hw) fun v s1 h1 => A5 h1 fun itv s2 h2 => ?_)) (fun _ s' hq => aC (aC hq)) fun _ _ e => e)
  obtain ⟨it,fp,tn,J,H2,e,I2,T,st2,f2,W⟩:=h2
  subst e
  refine Mi (Q:=fun x H1 => C1 i x σ H1 D.nx) (RR:=fun acc C => compPost (model X.prog X.w) X.A X.xe (some (assign (.Name z pz) X.env)) (fun _ s' => SP X pins D .next s') acc C) S S2 hxy hcalm hfr hlen hif he I2 T st2 f2 c1 c2 W ?_
  intro D' C s' H' m hn q hI hCD hold hfreeC hsz
  have I5 : Inv X pins σ H' s':=hI s'.heap (Heap.SameBut.refl ..)
  refine wpAny_assign_Name (Li I5 hN hy (.inl hly) (v:=.ref D') rfl (fun s'' I6 ⟨a,hsb,ha⟩ => ?_) (.inr hly))
  have hL : C≠X.env.locals:=fun z => by
    obtain ⟨_,⟨o,_,_,e,_⟩,_⟩:=I2.loc
    exact hold _ _ e z.symm
  have hcl : ∀ z c,X.env.cells.lookup z = some c->c≠C:=fun z c e => by
    obtain ⟨_,o,ho,_⟩:=I2.cell z c e
    exact hold _ _ ho
  have hCa : C≠a:=by
    rcases ha with z | z
    . rw [z]; exact hL
    . exact Ne.symm (hcl _ _ z)
  refine ⟨m,hn.sameBut hsb hCa,fun h' hs' => ⟨_,H',I6.turned (t':=s''.toks) (it:=C) (fun b o hb e => (hs'.2 b hb).trans e) hfreeC hL (.inr (aR I2.sz hsz)) hcl fun p hp => ?_,q⟩⟩
  obtain ⟨e,_⟩:=I2.pin p hp
  exact hold _ _ e
end
section
variable{X:Cx}{elt iter:Expr}{x y:Str}{px py tp pos:Pos}{tk:Nat}{ifs:List Expr}{scope:Scope}{wi:TI}{tif:TT}{te:TE}
theorem Lc(N:List Str)(ix I:Nat)(fr:List (Option Nat))(hi:PI X (Mg x y px py tk tp) iter wi)(R:∀cl C s₀ H₀ fp,KH (Ap X scope cl N C s₀ H₀ fp) ifs tif)(Y:∀cl C s₀ H₀ fp,PE (Ap X scope cl N C s₀ H₀ fp) elt te)
 (h1:Bk scope N x ix=true:=by decide +kernel)(T:Bk scope N y I=true:=by decide +kernel)(M:ix≠I:=by decide)(h2:X.calm=true:=by rfl)(h3:EF N X.N scope X.env.scope fr 0=true:=by rfl)(h4:fr.length=N.length:=by rfl)(Z:freeOk X.env.scope scope.names=true:=by rfl)
 (U:∀x,foldedSetIterable iter X.env x=pure x:=by intro _;rfl):PE X (.ListComp elt [⟨.Tuple [.Name x px,.Name y py] tk tp,iter,ifs,0⟩] scope pos) (KG X.K wi fr ix I tif te) :=
 Xp (EG h1) (EG T) M h2 h3 h4 (Jc Z) hi R Y U
theorem L4{i:Nat}{z:Str}{pz I:Pos}(N:List Str)(ix M:Nat)(fr:List (Option Nat))(hN:X.N.Nodup)(hy:X.N[i]? = some z)(U:X.env.scope.names.lookup z=some .local)
 (hi:PI X (Mg x y px py tk tp) iter wi)(Y:∀cl C s₀ H₀ fp,KH (Ap X scope cl N C s₀ H₀ fp) ifs tif)(he:∀cl C s₀ H₀ fp,PE (Ap X scope cl N C s₀ H₀ fp) elt te)
 (h1:Bk scope N x ix=true:=by decide +kernel)(Z:Bk scope N y M=true:=by decide +kernel)(R:ix≠M:=by decide)(h2:X.calm=true:=by rfl)(h3:EF N X.N scope X.env.scope fr 0=true:=by rfl)(h4:fr.length=N.length:=by rfl)(h5:freeOk X.env.scope scope.names=true:=by rfl)
 (T:swapsWith (.ListComp elt [⟨.Tuple [.Name x px,.Name y py] tk tp,iter,ifs,0⟩] scope pos) (some (.Name z pz)) I.line X.env=pure true:=by rfl)
 (hs:∀x,foldedSetIterable iter X.env x=pure x:=by intro _;rfl):PS X (.Assign [.Name z pz] (.ListComp elt [⟨.Tuple [.Name x px,.Name y py] tk tp,iter,ifs,0⟩] scope pos) I) (M9 (KG X.K wi fr ix M tif te) (C1 i)) :=
 TM hN hy U (EG h1) (EG Z) R h2 h3 h4 (Jc h5) hi Y he T hs
end
theorem Gw{K:PySem.W.Frag}{J:It}{n:Nat}{D:Addr}{H1:Hp}{fr:List (Option Nat)}{σ:St}{ix iy:Nat}{U:TT}{te:TE}{G:Hp->Prop}(Pv:Nat->List V->Hp->Prop)(h0:Pv 0 [] (upd H1 D (.lst [])))
 (hgo:∀i ys H,i<n->Pv i ys H->H D=some (.lst ys)->J.go i H/\ys.length<sizeLine/\∀x H',J.EJ i H x H'->∃a R M,x=.ref a/\Ao K H' a [R,M] /\
   U (((carry fr σ).set ix (some R)).set iy (some M)) H' fun b Z=>if b=true then te (((carry fr σ).set ix (some R)).set iy (some M)) Z fun y Y=>Y D=some (.lst ys)/\∃I,I<n-i/\CW Pv n D (i+1) I (ys++[y]) (upd Y D (.lst (ys++[y])))
    else ∃I,I<n-i/\CW Pv n D (i+1) I ys Z)
 (T:∀ys H,Pv n ys H->H D=some (.lst ys)->J.stop n H/\G H) :
  ∃W:Nat->Nat->List V->Hp->Prop,(∃m,W 0 m [] (upd H1 D (.lst []))) /\
   ∀i m ys H,W i m ys H->H D=some (.lst ys)/\((J.stop i H/\G H)\/(J.go i H/\ys.length<sizeLine/\∀x H',J.EJ i H x H'->∃a R M,x=.ref a/\Ao K H' a [R,M] /\
    U (((carry fr σ).set ix (some R)).set iy (some M)) H' fun b Z=>if b=true then te (((carry fr σ).set ix (some R)).set iy (some M)) Z fun y Y=>Y D=some (.lst ys)/\∃I,I<m/\W (i+1) I (ys++[y]) (upd Y D (.lst (ys++[y])))
     else ∃I,I<m/\W (i+1) I ys Z)):=by
 refine⟨CW Pv n D,⟨n,by simp,Nat.zero_le _,AF,h0⟩,?_⟩;rintro i m ys H ⟨rfl,hi,hH,p⟩;refine⟨hH,?_⟩;by_cases hlt:i<n
 .exact .inr (hgo i ys H hlt p hH)
 .have:i=n:=by lia
  subst this;exact .inl (T ys H p hH)
end L2
namespace ZT
open PySem PyProof.Rows
structure Apart(z TI TO i1 i2:Addr)(f1 f2:List Addr):Prop where
 a1:TI≠z/\TI≠TO/\TI≠i1/\TI≠i2
 a2:TO≠z/\TO≠i1/\TO≠i2
 a3:i1≠z/\i2≠z/\i1≠i2
 b1:z ∉ f1/\TO ∉ f1/\i2 ∉ f1
 b2:z ∉ f2/\TO ∉ f2/\i1 ∉ f2
section
variable{prog:Program}{w:World}{A:Around}{E:Value->Shared->Prop}{s:Shared}{z TI TO i1 i2:Addr}{f1 f2:List Addr}{n1 n2 k:Nat}{P1 P2:Nat->Value->Prop}{S1 S2:Nat->Heap->Prop}{a b:Value}
theorem Dd{f:List Addr}{x:Addr}{h h':Heap}(I:x ∉ f)(e:Heap.SameBut x h h'):∀c∈f,∀o,h.get? c=some o->h'.get? c=some o:=fun c M o q=>(e.2 c fun y=>I (y ▸ M)).trans q
theorem item{Q:Value->Shared->Prop}(D1:Draws prog w A i1 f1 n1 P1 S1)(Z:Draws prog w A i2 f2 n2 P2 S2)(ap:Apart z TI TO i1 i2 f1 f2)(hz:IsZip s.heap z TI TO .none)(hI:IsPair s.heap TI (.ref i1) (.ref i2))(hO:IsPair s.heap TO a b)
 (t1:S1 k s.heap)(t2:S2 k s.heap)(l1:k<n1)(l2:k<n2)
 (q:∀x y h' tk,P1 k x->P2 k y->IsZip h' z TI TO (rawInt s.heap.objs.size)->IsPair h' TO x y->S1 (k+1) h'->S2 (k+1) h'->IsPair h' s.heap.objs.size x y->h'.objs.size=s.heap.objs.size+1 ->
   (∀c o,c≠z->c≠TO->c≠i1->c≠i2->s.heap.get? c=some o->h'.get? c=some o)->Q (.ref s.heap.objs.size) {s with heap:=h',toks:=tk}) :
  wpAny (model prog w) A (Builtin.«zip.__next__» ⟨[.ref z],[]⟩) (fun fin s'=>∃v,fin=.done (.ret v)/\Q v s') E s:=by
 obtain⟨⟨c1,c2,c3,c4⟩,⟨c5,c6,c7⟩,⟨c8,c9,c10⟩,⟨d1,d2,d3⟩,d4,d5,d6⟩:=ap;show wpAny _ _ (field (.ref z) 2>>=_) _ _ _;refine aA (aq hz rfl (x:=.bool false) rfl ?_);show wpAny _ _ (field (.ref z) 3>>=_) _ _ _;refine aA (aq hz rfl (x:=.ref TI) rfl (aA (bh hI rfl ?_)));show wpAny _ _ (Builtin.SmallTypes.ownedTupleIsFree (.ref z)>>=_) _ _ _;unfold Builtin.SmallTypes.ownedTupleIsFree;refine aA (aA (aq hz rfl (x:=.none) rfl (aC ?_)));simp only[if_true];refine aA (wpAny_rule (aA (aq hz rfl (x:=.ref TO) rfl (aA (ao hz (by simp) fun g1 z1 U=>aA ?_)))));have U:Heap.SameBut z s.heap g1:=U;have z1:IsZip g1 z TI TO .ellipsis:=z1;simp only[List.zipIdx_cons,List.zipIdx_nil,List.forIn_cons,List.forIn_nil];refine aA (aA (wpAny_onRaise ?_));show wpAny _ _ (Builtin.SmallTypes.nextOf (.ref i1)>>=_) _ _ _;refine aA (D1.item k _ _ _ l1 (D1.frame _ _ _ t1 (Dd d1 U)) fun x g2 tk2 p1 u1 T=>aC ?_);have o2:IsPair g2 TO a b:=(T.2 _ c6).trans ((U.2 _ c5).trans hO);refine aA (bh o2 rfl (aA (wpAny_updateSeq_pair o2 fun g3 o3 R=>aA (wpAny_letGo (aC ?_)))));have o3:IsPair g3 TO x b:=o3;have t2':S2 k g3:=Z.frame _ _ _ (Z.frame _ _ _ (Z.frame _ _ _ t2 (Dd d4 U)) (Dd d6 T)) (Dd d5 R);refine aA (aA (wpAny_onRaise ?_));show wpAny _ _ (Builtin.SmallTypes.nextOf (.ref i2)>>=_) _ _ _;refine aA (Z.item k _ _ _ l2 t2' fun y g4 tk4 p2 u2 m4=>aC ?_);have R:Heap.SameBut TO g2 g3:=R;have m4:Heap.SameBut i2 g3 g4:=m4;have o4:IsPair g4 TO x b:=(m4.2 _ c7).trans o3;refine aA (bh o4 rfl (aA (wpAny_updateSeq_pair o4 fun I o5 M=>aA (wpAny_letGo (aC (aC ?_))))));have M:Heap.SameBut TO g4 I:=M;have o5:IsPair I TO x y:=o5;refine aA (bh o5 rfl (aA (wpAny_newTuple ?_)));have T:Heap.SameBut i1 g1 g2:=T;have sz:I.objs.size=s.heap.objs.size:=by rw[M.1,m4.1,R.1,T.1,U.1]
 have z5:IsZip I z TI TO .ellipsis:=(M.2 _ c5.symm).trans ((m4.2 _ c9.symm).trans ((R.2 _ c5.symm).trans ((T.2 _ c8.symm).trans z1)));have kp:∀c o,c≠z->c≠TO->c≠i1->c≠i2->s.heap.get? c=some o->I.get? c=some o:=fun c o Y e2 e3 e4 e=>(M.2 _ e2).trans ((m4.2 _ e4).trans ((R.2 _ e2).trans ((T.2 _ e3).trans ((U.2 _ Y).trans e))));have v1:S1 (k+1) I:=D1.frame _ _ _ (D1.frame _ _ _ (D1.frame _ _ _ u1 (Dd d2 R)) (Dd d3 m4)) (Dd d2 M);have v2:S2 (k+1) I:=Z.frame _ _ _ u2 (Dd d5 M);show wpAny _ _ (Builtin.SmallTypes.ownedTupleHandOut (.ref z) (.ref I.objs.size)>>=_) _ _ _;unfold Builtin.SmallTypes.ownedTupleHandOut;have z6:IsZip (I.push { cls:=.type "tuple",data:=.seq #[x,y]}) z TI TO .ellipsis:=aD _ z5;refine aA (aA (ao z6 (by simp) fun g7 z7 m7=>ao (show IsZip g7 z TI TO (rawInt I.objs.size) from z7) (by simp) fun g8 z8 m8=>?_));have z8:IsZip g8 z TI TO (rawInt I.objs.size):=z8;have up:∀c o,c≠z->(I.push { cls:=.type "tuple",data:=.seq #[x,y]}).get? c=some o->g8.get? c=some o:=fun c o Y e=>(m8.2 _ Y).trans ((m7.2 _ Y).trans e);have zl:z<I.objs.size:=aF z5;refine aC ⟨_,rfl,?_⟩;show Q (.ref I.objs.size) _;have fin:=q x y g8 tk4 p1 p2 (by rw[<-sz];exact z8) (up _ _ c5 (aD _ o5)) (D1.frame _ _ _ v1 fun c hc o e=>up c o (fun y=>d1 (y ▸ hc)) (aD _ e)) (Z.frame _ _ _ v2 fun c hc o e=>up c o (fun y=>d4 (y ▸ hc)) (aD _ e))
  (by rw[<-sz];exact up _ _ (bC zl) (aU _ rfl)) (by rw[<-sz,m8.1,m7.1,Heap.size_push]) fun c o Y e2 e3 e4 e=>up c o Y (aD _ (kp c o Y e2 e3 e4 e))
 rw[sz];exact fin
theorem ended{Q:Fin->Shared->Prop}(D1:Draws prog w A i1 f1 n1 P1 S1)(D2:Draws prog w A i2 f2 n2 P2 S2)(ap:Apart z TI TO i1 i2 f1 f2)(hz:IsZip s.heap z TI TO .none)(hI:IsPair s.heap TI (.ref i1) (.ref i2))(hO:IsPair s.heap TO a b)
 (t1:S1 k s.heap)(t2:S2 k s.heap)(he:k=n1\/(k<n1/\k=n2))
 (q:∀h' e tk,(∀c o,c≠z->c≠TO->c≠i1->c≠i2->s.heap.get? c=some o->h'.get? c=some o)->(∃o,h'.get? e=some o/\o.cls=.type "StopIteration")->E (.ref e) {s with heap:=h',toks:=tk}) :
  wpAny (model prog w) A (Builtin.«zip.__next__» ⟨[.ref z],[]⟩) Q E s:=by
 obtain⟨⟨c1,c2,c3,c4⟩,⟨c5,c6,c7⟩,⟨c8,c9,c10⟩,⟨d1,d2,d3⟩,d4,d5,d6⟩:=ap;show wpAny _ _ (field (.ref z) 2>>=_) _ _ _;refine aA (aq hz rfl (x:=.bool false) rfl ?_);show wpAny _ _ (field (.ref z) 3>>=_) _ _ _;refine aA (aq hz rfl (x:=.ref TI) rfl (aA (bh hI rfl ?_)));show wpAny _ _ (Builtin.SmallTypes.ownedTupleIsFree (.ref z)>>=_) _ _ _;unfold Builtin.SmallTypes.ownedTupleIsFree;refine aA (aA (aq hz rfl (x:=.none) rfl (aC ?_)));simp only[if_true];refine aA (wpAny_rule (aA (aq hz rfl (x:=.ref TO) rfl (aA (ao hz (by simp) fun g1 z1 U=>aA ?_)))));have U:Heap.SameBut z s.heap g1:=U;have z1:IsZip g1 z TI TO .ellipsis:=z1;simp only[List.zipIdx_cons,List.zipIdx_nil,List.forIn_cons,List.forIn_nil];refine aA (aA (wpAny_onRaise ?_));show wpAny _ _ (Builtin.SmallTypes.nextOf (.ref i1)>>=_) _ _ _;have T:=D1.frame _ _ _ t1 (Dd d1 U);rcases he with he|⟨he1,he2⟩
 .rw[he]at T;refine aA (D1.done _ _ _ T fun g2 e M I=>?_);obtain⟨o,I,Z⟩:=I;have z2:IsZip g2 z TI TO .ellipsis:=M _ _ c8.symm z1;have ez:e≠z:=fun y=>by subst y;rw[z2]at I;cases I;simp at Z
  exact ao z2 (by simp) fun g3 _ R=>q g3 e _ (fun c o e1 e2 e3 e4 y=>(R.2 _ e1).trans (M _ _ e3 ((U.2 _ e1).trans y))) ⟨o,(R.2 _ ez).trans I,Z⟩
 .refine aA (D1.item k _ _ _ he1 T fun x g2 tk2 p1 u1 M=>aC ?_);have o2:IsPair g2 TO a b:=(M.2 _ c6).trans ((U.2 _ c5).trans hO);refine aA (bh o2 rfl (aA (wpAny_updateSeq_pair o2 fun g3 o3 R=>aA (wpAny_letGo (aC ?_)))));have Y:S2 k g3:=D2.frame _ _ _ (D2.frame _ _ _ (D2.frame _ _ _ t2 (Dd d4 U)) (Dd d6 M)) (Dd d5 R);rw[he2]at Y;have M:Heap.SameBut i1 g1 g2:=M;have R:Heap.SameBut TO g2 g3:=R;refine aA (aA (wpAny_onRaise ?_));show wpAny _ _ (Builtin.SmallTypes.nextOf (.ref i2)>>=_) _ _ _;refine aA (D2.done _ _ _ Y fun g4 e m4 I=>?_);obtain⟨o,I,Z⟩:=I;have z4:IsZip g4 z TI TO .ellipsis:=m4 _ _ c9.symm ((R.2 _ c5.symm).trans ((M.2 _ c8.symm).trans z1));have ez:e≠z:=fun y=>by subst y;rw[z4]at I;cases I;simp at Z
  exact ao z4 (by simp) fun g5 _ m5=>q g5 e _ (fun c o e1 e2 e3 e4 y=>(m5.2 _ e1).trans (m4 _ _ e4 ((R.2 _ e2).trans ((M.2 _ e3).trans ((U.2 _ e1).trans y))))) ⟨o,(m5.2 _ ez).trans I,Z⟩
theorem next_item{Q:Option Value->Shared->Prop}(D1:Draws prog w A.in1 i1 f1 n1 P1 S1)(D2:Draws prog w A.in1 i2 f2 n2 P2 S2)(ap:Apart z TI TO i1 i2 f1 f2)(hz:IsZip s.heap z TI TO .none)(hI:IsPair s.heap TI (.ref i1) (.ref i2))(hO:IsPair s.heap TO a b)
 (t1:S1 k s.heap)(M:S2 k s.heap)(l1:k<n1)(l2:k<n2)
 (q:∀x y h' tk,P1 k x->P2 k y->IsZip h' z TI TO (rawInt s.heap.objs.size)->IsPair h' TO x y->S1 (k+1) h'->S2 (k+1) h'->IsPair h' s.heap.objs.size x y->h'.objs.size=s.heap.objs.size+1 ->
   (∀c o,c≠z->c≠TO->c≠i1->c≠i2->s.heap.get? c=some o->h'.get? c=some o)->Q (some (.ref s.heap.objs.size)) {s with heap:=h',toks:=tk}) :
  wpAny (model prog w) A (pyNext (.ref z)) Q E s:=by
 have I:s.TypeIs (.ref z) "zip" := ⟨_,hz,rfl⟩;unfold pyNext;exact aA (wpAny_attempt (au (name:=Str.ofString "__next__") I F.slot_zip_next
  (bA F.slot_zip_next I F.entry_zip_next (item D1 D2 ap hz hI hO t1 M l1 l2 fun x y h' tk r1 r2 r3 r4 Z Y U T R=>aC (q x y h' tk r1 r2 r3 r4 Z Y U T R)) (F.args_zip_next_1 _))))
theorem next_end{Q:Option Value->Shared->Prop}(D1:Draws prog w A.in1 i1 f1 n1 P1 S1)(D2:Draws prog w A.in1 i2 f2 n2 P2 S2)(ap:Apart z TI TO i1 i2 f1 f2)(hz:IsZip s.heap z TI TO .none)(hI:IsPair s.heap TI (.ref i1) (.ref i2))(Z:IsPair s.heap TO a b)
 (t1:S1 k s.heap)(R:S2 k s.heap)(U:k=n1\/(k<n1/\k=n2))
 (q:∀h' tk,(∀c o,c≠z->c≠TO->c≠i1->c≠i2->s.heap.get? c=some o->h'.get? c=some o)->Q none {s with heap:=h',toks:=tk}) :
  wpAny (model prog w) A (pyNext (.ref z)) Q E s:=by
 have M:s.TypeIs (.ref z) "zip" := ⟨_,hz,rfl⟩;unfold pyNext;refine aA (wpAny_attempt (au (name:=Str.ofString "__next__") M F.slot_zip_next
  (bA F.slot_zip_next M F.entry_zip_next (ended D1 D2 ap hz hI Z t1 R U fun h' e tk kp I=>?_) (F.args_zip_next_1 _))))
 obtain⟨o,I,Y⟩:=I;exact aA (wpAny_isInstance (T := "StopIteration") (b:=true) ⟨o,I,Y⟩ isSubtype_stop (aC (q _ _ kp)))
end
end ZT
namespace ZT
open PySem PyProof.Rows
def Sq(b:Bool)(h:Heap)(l:Addr)(xs:List Value):Prop:=if b then h.IsTuple l xs.toArray else h.IsList l xs.toArray
def EI(b:Bool)(l:Addr):Obj:=if b then { cls:=.type "tuple_iterator",data:=.fields #[.ref l,.int 0 0]} else { cls:=.type "list_iterator",data:=.fields #[.ref l,.int 0 0]}
def Nr(b:Bool)(h:Heap)(it l:Addr)(k:Nat):Prop:=if b then h.IsTupleIter it l k else h.IsListIter it l k
theorem Sq.push{b:Bool}{h:Heap}{l:Addr}{xs:List Value}(o:Obj)(x:Sq b h l xs):Sq b (h.push o) l xs:=by
 cases b with
 |true=>obtain⟨u,e,r⟩:=(show h.IsTuple l xs.toArray from x);exact(show(h.push o).IsTuple l xs.toArray from⟨u,Heap.get?_push_of_some _ e,r⟩)
 |false=>obtain⟨u,e,r⟩:=(show h.IsList l xs.toArray from x);exact(show(h.push o).IsList l xs.toArray from⟨u,Heap.get?_push_of_some _ e,r⟩)
section
variable{prog:Program}{w:World}{A:Around}{E:Value->Shared->Prop}{s:Shared}
theorem T9{b:Bool}{l:Addr}{xs:List Value}{Q:Value->Shared->Prop}(x:Sq b s.heap l xs)(h:Q (.ref s.heap.objs.size) {s with heap:=s.heap.push (EI b l)}):wpAny (model prog w) A (pyIter (.ref l)) Q E s:=by
 cases b with
 |true=>exact wpAny_pyIter_tuple x h
 |false=>exact wpAny_pyIter_list x h
theorem Kw(M:A.handled=none)(b:Bool)(it l:Addr)(xs:List Value)(I:l≠it):Draws prog w A it [it,l] xs.length (fun i v=>xs[i]? = some v) (fun i h=>Nr b h it l i/\Sq b h l xs):=by
 cases b with
 |true=>exact ET.draws M it l xs I
 |false=>
  have:=Draws.list (prog:=prog) (w:=w) M it l I xs.toArray
  simpa[Nr,Sq]using this
def zh(b1 b2:Bool)(h:Heap)(I M:Addr):Heap :=
 ((((h.push (EI b1 I)).push (EI b2 M)).push { cls:=.type "tuple",data:=.seq #[.ref h.objs.size,.ref (h.push (EI b1 I)).objs.size]}).push { cls:=.type "tuple",data:=.seq #[.none,.none]}).push
  { cls:=.type "zip",data:=.fields #[.none,.bool false,.bool false,.ref ((h.push (EI b1 I)).push (EI b2 M)).objs.size,.ref (((h.push (EI b1 I)).push (EI b2 M)).push { cls:=.type "tuple",data:=.seq #[.ref h.objs.size,.ref (h.push (EI b1 I)).objs.size]}).objs.size]}
theorem Zi(b1 b2:Bool)(I U:Addr)(xs ys:List Value) :
  Meets (Builtin.«zip.__new__» ⟨[.type "zip",.ref I,.ref U],[]⟩) (fun _ R s=>Sq b1 s.heap I xs/\Sq b2 s.heap U ys /\
   R (.ok (.ret (.ref ((((s.heap.push (EI b1 I)).push (EI b2 U)).push { cls:=.type "tuple",data:=.seq #[.ref s.heap.objs.size,.ref (s.heap.push (EI b1 I)).objs.size]}).push { cls:=.type "tuple",data:=.seq #[.none,.none]}).objs.size)) ) {s with heap:=zh b1 b2 s.heap I U}) :=
 .of_wp fun prog w A R s h=>by
  obtain⟨M,g,d,T,os⟩:=s;obtain⟨h1,Z,h⟩:=h;have Y:=sub_zip;have i1:∀(A:Around) (E:Value->Shared->Prop) (Q:Value->Shared->Prop),Q (.ref M.objs.size) ⟨M.push (EI b1 I),g,d,T,os⟩->wpAny (model prog w) A (pyIter (.ref I)) Q E ⟨M,g,d,T,os⟩:=fun A E Q q=>T9 (s:=⟨M,g,d,T,os⟩) h1 q;have i2:∀(A:Around) (E:Value->Shared->Prop) (Q:Value->Shared->Prop),Q (.ref (M.push (EI b1 I)).objs.size) ⟨(M.push (EI b1 I)).push (EI b2 U),g,d,T,os⟩->wpAny (model prog w) A (pyIter (.ref U)) Q E ⟨M.push (EI b1 I),g,d,T,os⟩:=fun A E Q q=>T9 (s:=⟨M.push (EI b1 I),g,d,T,os⟩) (Z.push _) q
  wp_walk using i1,i2
  exact⟨_,rfl,h⟩
theorem Xy{b1 b2:Bool}{M I:Addr}{xs ys:List Value}{Q:Value->Shared->Prop}(h1:Sq b1 s.heap M xs)(h2:Sq b2 s.heap I ys)
 (h:∀h',IsZip h' (s.heap.objs.size+4) (s.heap.objs.size+2) (s.heap.objs.size+3) .none->IsPair h' (s.heap.objs.size+2) (.ref s.heap.objs.size) (.ref (s.heap.objs.size+1))->IsPair h' (s.heap.objs.size+3) .none .none ->
   Nr b1 h' s.heap.objs.size M 0->Nr b2 h' (s.heap.objs.size+1) I 0->(∀c o,s.heap.get? c=some o->h'.get? c=some o)->Q (.ref (s.heap.objs.size+4)) {s with heap:=h'}) :
  wpAny (model prog w) A (call (.type "zip") [.ref M,.ref I]) Q E s:=by
 refine callType_new F.called_zip (by decide) (F.typeCall_zip_2 _ _) (F.newCall_zip_2 _ _) (fun obj=>F.args_object_init_3 obj _ _) F.entry_zip_new (Zi b1 b2 M I xs ys) ⟨h1,h2,?_⟩;have n1:(s.heap.push (EI b1 M)).objs.size=s.heap.objs.size+1:=Heap.size_push ..;have up:∀(g:Heap) (o:Obj) (c:Addr) (u:Obj),g.get? c=some u->(g.push o).get? c=some u:=fun g o c u e=>aD _ e;have a0:(s.heap.push (EI b1 M)).get? s.heap.objs.size=some (EI b1 M):=aU _ (by cases b1<;>rfl);generalize Z:s.heap.push (EI b1 M)=g1 at n1 a0;have k1:∀c o,s.heap.get? c=some o->g1.get? c=some o:=fun c o e=>by rw[<-Z];exact up _ _ _ _ e
 have n2:(g1.push (EI b2 I)).objs.size=s.heap.objs.size+2:=by rw[Heap.size_push,n1]
 have a1:(g1.push (EI b2 I)).get? (s.heap.objs.size+1)=some (EI b2 I):=by rw[<-n1];exact aU _ (by cases b2<;>rfl)
 generalize Y:g1.push (EI b2 I)=g2 at n2 a1;have k2:∀c o,g1.get? c=some o->g2.get? c=some o:=fun c o e=>by rw[<-Y];exact up _ _ _ _ e
 have n3:(g2.push { cls:=.type "tuple",data:=.seq #[.ref s.heap.objs.size,.ref (s.heap.objs.size+1)]}).objs.size=s.heap.objs.size+3:=by rw[Heap.size_push,n2]
 have a2:IsPair (g2.push { cls:=.type "tuple",data:=.seq #[.ref s.heap.objs.size,.ref (s.heap.objs.size+1)]}) (s.heap.objs.size+2) (.ref s.heap.objs.size) (.ref (s.heap.objs.size+1)):=by rw[<-n2];exact aU _ rfl
 generalize T:g2.push { cls:=.type "tuple",data:=.seq #[.ref s.heap.objs.size,.ref (s.heap.objs.size+1)]}=g3 at n3 a2;have k3:∀c o,g2.get? c=some o->g3.get? c=some o:=fun c o e=>by rw[<-T];exact up _ _ _ _ e
 have n4:(g3.push { cls:=.type "tuple",data:=.seq #[.none,.none]}).objs.size=s.heap.objs.size+4:=by rw[Heap.size_push,n3]
 have a3:IsPair (g3.push { cls:=.type "tuple",data:=.seq #[.none,.none]}) (s.heap.objs.size+3) .none .none:=by rw[<-n3];exact aU _ rfl
 generalize R:g3.push { cls:=.type "tuple",data:=.seq #[.none,.none]}=g4 at n4 a3;have k4:∀c o,g3.get? c=some o->g4.get? c=some o:=fun c o e=>by rw[<-R];exact up _ _ _ _ e
 have ez:zh b1 b2 s.heap M I=g4.push { cls:=.type "zip",data:=.fields #[.none,.bool false,.bool false,.ref (s.heap.objs.size+2),.ref (s.heap.objs.size+3)]}:=by
  unfold zh;rw[Z,Y,n1,T,R,n2,n3]
 have a4:IsZip (g4.push { cls:=.type "zip",data:=.fields #[.none,.bool false,.bool false,.ref (s.heap.objs.size+2),.ref (s.heap.objs.size+3)]}) (s.heap.objs.size+4) (s.heap.objs.size+2) (s.heap.objs.size+3) .none:=by rw[<-n4];exact aU _ rfl
 rw[n1,T,R,n4,ez];show _/\_;have U:∀c o,g4.get? c=some o->(g4.push { cls:=.type "zip",data:=.fields #[.none,.bool false,.bool false,.ref (s.heap.objs.size+2),.ref (s.heap.objs.size+3)]}).get? c=some o:=fun c o e=>up _ _ _ _ e;refine⟨⟨_,a4,rfl⟩,h _ a4 (U _ _ (k4 _ _ a2)) (U _ _ a3) ?_ ?_ fun c o e=>U _ _ (k4 _ _ (k3 _ _ (k2 _ _ (k1 _ _ e))))⟩
 .have:=U _ _ (k4 _ _ (k3 _ _ (k2 _ _ a0)));cases b1 with
  |true=>exact⟨_,this,rfl,rfl⟩
  |false=>exact⟨_,this,rfl,rfl⟩
 .have:=U _ _ (k4 _ _ (k3 _ _ a1));cases b2 with
  |true=>exact⟨_,this,rfl,rfl⟩
  |false=>exact⟨_,this,rfl,rfl⟩
end
end ZT
namespace L2
open PySem PySem.Spec PyProof.Rows
def FD(b:Bool)(H:Hp)(a:Addr)(xs:List V):Prop:=if b then H a=some (.tup xs) else H a=some (.lst xs)
theorem FD.inj{b:Bool}{H:Hp}{a:Addr}{xs ys:List V}(h:FD b H a xs)(k:FD b H a ys):xs=ys:=by
 cases b with
 |true=>have h:H a=some (.tup xs):=h;have k:H a=some (.tup ys):=k;rw[h]at k;cases k;rfl
 |false=>have h:H a=some (.lst xs):=h;have k:H a=some (.lst ys):=k;rw[h]at k;cases k;rfl
theorem FD.none{b:Bool}{H:Hp}{a c:Addr}{xs:List V}(h:FD b H a xs)(k:H c=none):a≠c:=fun z=>by
 subst z;cases b with
 |true=>have h:H a=some (.tup xs):=h;rw[k]at h;cases h
 |false=>have h:H a=some (.lst xs):=h;rw[k]at h;cases h
theorem FD.raw{X:Cx}{pins:List (Addr×Obj)}{σ:St}{H:Hp}{s:Shared}(I:Inv X pins σ H s){b:Bool}{a:Addr}{xs:List V}(h:FD b H a xs):∃M,Vals xs M/\ZT.Sq b s.heap a M:=by
 cases b with
 |true=>
  obtain⟨M,R,p,_⟩:=I.tuple (Ao.of (K:=X.K) (show H a=some (.tup xs) from h));exact⟨M,R,p⟩
 |false=>
  obtain⟨M,R,p,_⟩:=I.list (AQ.of (K:=X.K) (show H a=some (.lst xs) from h));exact⟨M,R,p.isList⟩
def fx(b1 b2:Bool)(a1 a2:Addr):It :=
 ⟨fun i H=>∃xs x ys y,FD b1 H a1 xs/\FD b2 H a2 ys/\xs[i]? = some x/\ys[i]? = some y,
  fun i H v H'=>∃p x y,v=.ref p/\H p=none/\H'=upd H p (.tup [x,y])/\(∀xs,FD b1 H a1 xs->xs[i]? = some x)/\∀ys,FD b2 H a2 ys->ys[i]? = some y,
  fun i H=>∃xs ys,FD b1 H a1 xs/\FD b2 H a2 ys/\(i=xs.length\/(i<xs.length/\i=ys.length))⟩
def ku(b1 b2:Bool)(a1 a2 z TI TO i1 i2:Addr):Nat->Heap->Prop:=fun i h=>IsZip h z TI TO .none/\IsPair h TI (.ref i1) (.ref i2)/\(∃a b,IsPair h TO a b)/\ZT.Nr b1 h i1 a1 i/\ZT.Nr b2 h i2 a2 i
theorem MK{b:Bool}{h:Heap}{it l:Addr}{k:Nat}(x:ZT.Nr b h it l k):∃o,h.get? it=some o/\∀v,o.data≠.cell v:=by
 cases b with
 |true=>obtain⟨o,e,_,d⟩:=(show h.IsTupleIter it l k from x);exact⟨o,e,fun v z=>by rw[d]at z;cases z⟩
 |false=>obtain⟨o,e,_,d⟩:=(show h.IsListIter it l k from x);exact⟨o,e,fun v z=>by rw[d]at z;cases z⟩
theorem Kx{b:Bool}{h h':Heap}{it l:Addr}{k:Nat}(x:ZT.Nr b h it l k)(e:∀o,h.get? it=some o->h'.get? it=some o):ZT.Nr b h' it l k:=by
 cases b with
 |true=>obtain⟨o,q,r⟩:=(show h.IsTupleIter it l k from x);exact(show h'.IsTupleIter it l k from⟨o,e _ q,r⟩)
 |false=>obtain⟨o,q,r⟩:=(show h.IsListIter it l k from x);exact(show h'.IsListIter it l k from⟨o,e _ q,r⟩)
theorem Yy{P:Program}{w:World}{K:PySem.W.Frag}{elts:List Expr}{x1}{pos:Pos}{b1 b2:Bool}{a1 a2 z TI TO i1 i2:Addr}(ne:[z,TI,TO,i1,i2].Nodup) :
  Turn P w K (.Tuple elts x1 pos) (fx b1 b2 a1 a2) [z,TI,TO,i1,i2] z (ku b1 b2 a1 a2 z TI TO i1 i2) where
 mem:=by simp
 obj:=fun i h st b hb=>by
  obtain⟨h1,h2,⟨u,v,h3⟩,h4,h5⟩:=st;have hb:b=z\/b=TI\/b=TO\/b=i1\/b=i2:=by simpa using hb
  rcases hb with rfl|rfl|rfl|rfl|rfl
  .exact⟨_,h1,fun v y=>by cases y⟩
  .exact⟨_,h2,fun v y=>by cases y⟩
  .exact⟨_,h3,fun v y=>by cases y⟩
  .exact MK h4
  .exact MK h5
 keep:=fun i h h' st k=>by
  obtain⟨h1,h2,⟨u,v,h3⟩,h4,h5⟩:=st;exact⟨k z (by simp) _ h1,k TI (by simp) _ h2,⟨u,v,k TO (by simp) _ h3⟩,Kx h4 fun o e=>k i1 (by simp) o e,Kx h5 fun o e=>k i2 (by simp) o e⟩
 item:=by
  intro X hP hw hK hc i pins s σ H E I hf st hg;subst hP hw hK;obtain⟨xs,x,ys,y,q1,q2,hx,hy⟩:=hg;obtain⟨us,rv1,p1⟩:=q1.raw I;obtain⟨vs,rv2,p2⟩:=q2.raw I;obtain⟨u,hu,ru⟩:=rv1.get hx;obtain⟨v,hv,rv⟩:=rv2.get hy;obtain⟨t1,t2,⟨ta,tb,t3⟩,t4,t5⟩:=st;have e1:∀b∈[z,TI,TO,i1,i2],a1≠b:=fun b hb=>q1.none (hf b hb).1;have e2:∀b∈[z,TI,TO,i1,i2],a2≠b:=fun b hb=>q2.none (hf b hb).1;simp only[List.nodup_cons,List.mem_cons,List.not_mem_nil,or_false,not_or]at ne;obtain⟨⟨n1,n2,n3,n4⟩,⟨n5,n6,n7⟩,⟨n8,n9⟩,n10,_⟩:=ne;have ap:ZT.Apart z TI TO i1 i2 [i1,a1] [i2,a2]:=⟨⟨Ne.symm n1,n5,n6,n7⟩,⟨Ne.symm n2,n8,n9⟩,⟨Ne.symm n3,Ne.symm n4,n10⟩,
   ⟨by simp[n3,Ne.symm (e1 z (by simp))],by simp[n8,Ne.symm (e1 TO (by simp))],by simp[Ne.symm n10,Ne.symm (e1 i2 (by simp))]⟩,⟨by simp[n4,Ne.symm (e2 z (by simp))],by simp[n9,Ne.symm (e2 TO (by simp))],by simp[n10,Ne.symm (e2 i1 (by simp))]⟩⟩
  refine ZT.next_item (ZT.Kw (prog:=X.prog) (w:=X.w) (A:=X.A.in1) (I.ok.hd hc) b1 i1 a1 us (e1 i1 (by simp))) (ZT.Kw (prog:=X.prog) (w:=X.w) (A:=X.A.in1) (I.ok.hd hc) b2 i2 a2 vs (e2 i2 (by simp))) ap t1 t2 t3 ⟨t4,p1⟩ ⟨t5,p2⟩ (aB.mp hu).1 (aB.mp hv).1
   fun u' v' h' tk r1 r2 r3 r4 r5 r6 r7 r8 r9=>⟨_,rfl,wpAny_letOwnedTupleGo_zip (s:={s with heap:=h',toks:=tk}) r3 fun h'' z'' sb=>?_⟩
  rw[hu]at r1;rw[hv]at r2;cases r1;cases r2;have keep:∀b o,b ∉ [z,TI,TO,i1,i2]->s.heap.get? b=some o->h''.get? b=some o:=fun b o hb q=>by
   simp only[List.mem_cons,List.not_mem_nil,or_false,not_or]at hb;exact(sb.2 b hb.1).trans (r9 b o hb.1 hb.2.2.1 hb.2.2.2.1 hb.2.2.2.2 q)
  have lt:∀b∈[z,TI,TO,i1,i2],b<s.heap.objs.size:=fun b hb=>by
   have hb:b=z\/b=TI\/b=TO\/b=i1\/b=i2:=by simpa using hb
   rcases hb with rfl|rfl|rfl|rfl|rfl
   .exact aF t1
   .exact aF t2
   .exact aF t3
   .obtain⟨o,e,_⟩:=MK t4;exact aF e
   .obtain⟨o,e,_⟩:=MK t5;exact aF e
  have hTn:H s.heap.objs.size=none:=I.Al.fresh (aG _);have hT'':h''.get? s.heap.objs.size=some { cls:=.type "tuple",data:=.seq #[u,v]}:=(sb.2 _ (bC (lt z (by simp)))).trans r7;have neT:∀b o,s.heap.get? b=some o->b≠s.heap.objs.size:=fun b o q=>aO (aF q);have GB:∀b o,H b=some o->b ∉ [z,TI,TO,i1,i2]:=fun b o q hb=>by rw[(hf b hb).1]at q;cases q
  refine⟨.ref s.heap.objs.size,upd H s.heap.objs.size (.tup [x,y]),?_,rfl,⟨_,x,y,rfl,hTn,rfl,fun zs hz=>by rw[hz.inj q1];exact hx,fun zs hz=>by rw[hz.inj q2];exact hy⟩,⟨z'',?_,⟨u,v,?_⟩,?_,?_⟩,fun b hb=>?_⟩
  .show Inv X pins σ _ {s with heap:=h'',gens:=s.gens,drawn:=s.drawn,toks:=tk};refine I.step (h':=h'') (g':=s.gens) (d':=s.drawn) (t':=tk) (ch:=[z,TI,TO,i1,i2]) (fun b hb=>?_) (fun b o _ _ hc q _=>keep b o hc q) (fun b o _ _ hc q _=>⟨o.slots,keep b o hc q⟩)
    (fun b o _ q n=>by rw[AE (neT b o q)];exact n) (fun b o hc q=>⟨o,keep b o hc q⟩) (fun b ys q=>by rw[AE (AJ q hTn)];exact q) (fun b o u q=>by rw[AE (AJ q hTn)];exact q)
    (fun b ps q=>⟨#[],by rw[AE (AJ q hTn),q];simp⟩) (fun b _ o hc _ q=>keep b o hc q) (fun m hm=>?_) (fun b o q=>?_) I.bare
   .obtain⟨_,f1,_,f3,f4,f5⟩:=hf b hb;exact⟨f3,f1,f4,f5⟩
   .obtain⟨o,es,ep,ho,r⟩:=hm;exact⟨o,es,ep,keep _ o (fun hb=>(hf _ hb).2.1 rfl) ho,r⟩
   .by_cases hb:b=s.heap.objs.size
    .subst hb;rw[AF]at q;cases q;exact⟨Uj,[u,v],.cons ru (.cons rv .nil),_,hT'',rfl,_,rfl⟩
    .rw[AE hb]at q;refine(I.Al b o q).IC (fun c w hc r=>keep c w ?_ r) (fun c r=>by rw[AE (AJ r hTn)];exact r) fun c ys r=>by rw[AE (AJ r hTn)];exact r
     rcases hc with rfl|hc
     .exact GB _ _ q
     .exact GB _ _ hc
  .exact(sb.2 _ (Ne.symm n1)).trans (r9 _ _ (Ne.symm n1) n5 n6 n7 t2)
  .exact(sb.2 _ (Ne.symm n2)).trans r4
  .exact Kx r5.1 fun o e=>(sb.2 _ (Ne.symm n3)).trans e
  .exact Kx r6.1 fun o e=>(sb.2 _ (Ne.symm n4)).trans e
  .rw[AE (aO (lt b hb))];exact(hf b hb).1
 done:=by
  intro X hP hw hK hc i pins s σ H E I hf st hg;subst hP hw hK;obtain⟨xs,ys,q1,q2,he⟩:=hg;obtain⟨us,rv1,p1⟩:=q1.raw I;obtain⟨vs,rv2,p2⟩:=q2.raw I;obtain⟨t1,t2,⟨ta,tb,t3⟩,t4,t5⟩:=st;have e1:∀b∈[z,TI,TO,i1,i2],a1≠b:=fun b hb=>q1.none (hf b hb).1;have e2:∀b∈[z,TI,TO,i1,i2],a2≠b:=fun b hb=>q2.none (hf b hb).1;simp only[List.nodup_cons,List.mem_cons,List.not_mem_nil,or_false,not_or]at ne;obtain⟨⟨n1,n2,n3,n4⟩,⟨n5,n6,n7⟩,⟨n8,n9⟩,n10,_⟩:=ne;have ap:ZT.Apart z TI TO i1 i2 [i1,a1] [i2,a2]:=⟨⟨Ne.symm n1,n5,n6,n7⟩,⟨Ne.symm n2,n8,n9⟩,⟨Ne.symm n3,Ne.symm n4,n10⟩,
   ⟨by simp[n3,Ne.symm (e1 z (by simp))],by simp[n8,Ne.symm (e1 TO (by simp))],by simp[Ne.symm n10,Ne.symm (e1 i2 (by simp))]⟩,⟨by simp[n4,Ne.symm (e2 z (by simp))],by simp[n9,Ne.symm (e2 TO (by simp))],by simp[n10,Ne.symm (e2 i1 (by simp))]⟩⟩
  have he':i=us.length\/(i<us.length/\i=vs.length):=by rw[<-rv1.length,<-rv2.length];exact he
  refine ZT.next_end (ZT.Kw (prog:=X.prog) (w:=X.w) (A:=X.A.in1) (I.ok.hd hc) b1 i1 a1 us (e1 i1 (by simp))) (ZT.Kw (prog:=X.prog) (w:=X.w) (A:=X.A.in1) (I.ok.hd hc) b2 i2 a2 vs (e2 i2 (by simp))) ap t1 t2 t3 ⟨t4,p1⟩ ⟨t5,p2⟩ he' fun h' tk kp=>⟨rfl,?_⟩;have keep:∀b o,b ∉ [z,TI,TO,i1,i2]->s.heap.get? b=some o->h'.get? b=some o:=fun b o hb q=>by
   simp only[List.mem_cons,List.not_mem_nil,or_false,not_or]at hb;exact kp b o hb.1 hb.2.2.1 hb.2.2.2.1 hb.2.2.2.2 q
  have GB:∀b o,H b=some o->b ∉ [z,TI,TO,i1,i2]:=fun b o q hb=>by rw[(hf b hb).1]at q;cases q
  show Inv X pins σ _ {s with heap:=h',gens:=s.gens,drawn:=s.drawn,toks:=tk};refine I.step (h':=h') (g':=s.gens) (d':=s.drawn) (t':=tk) (ch:=[z,TI,TO,i1,i2]) (fun b hb=>?_) (fun b o _ _ hc q _=>keep b o hc q) (fun b o _ _ hc q _=>⟨o.slots,keep b o hc q⟩)
    (fun b o _ q n=>n) (fun b o hc q=>⟨o,keep b o hc q⟩) (fun b ys q=>q) (fun b o u q=>q)
    (fun b ps q=>⟨#[],by rw[q];simp⟩) (fun b _ o hc _ q=>keep b o hc q) (fun m hm=>?_) (fun b o q=>?_) I.bare
  .obtain⟨_,f1,_,f3,f4,f5⟩:=hf b hb;exact⟨f3,f1,f4,f5⟩
  .obtain⟨o,es,ep,ho,r⟩:=hm;exact⟨o,es,ep,keep _ o (fun hb=>(hf _ hb).2.1 rfl) ho,r⟩
  .refine(I.Al b o q).IC (fun c w hc r=>keep c w ?_ r) (fun c r=>r) fun c ys r=>r;rcases hc with rfl|hc
   .exact GB _ _ q
   .exact GB _ _ hc
 self:=fun _ _ _ _ _ st h=>wpAny_pyIter_zip st.1 h
def jl(I:TA):TI:=fun σ H R=>I σ H fun vs H1=>∃(b1 b2:Bool) (a1 a2:Addr),vs=[.ref a1,.ref a2]/\(∃xs,FD b1 H1 a1 xs)/\(∃ys,FD b2 H1 a2 ys)/\R (fx b1 b2 a1 a2) H1
theorem Xa{X:Cx}{elts:List Expr}{x1}{M:Pos}{a b:Expr}{ta:TA}{p pos:Pos}(hg:Gl X "zip")(hm:X.mg "zip" = none)(ha:PA X [a,b] ta)(hs:starEach [a,b] X.env=[(false,eval a X.env),(false,eval b X.env)]:=by rfl)(T:starEach [b] X.env=[(false,eval b X.env)]:=by rfl) :
  PI X (.Tuple elts x1 M) (.Call (.Name "zip" p) [a,b] [] pos) (jl ta):=by
 intro pins s σ H R I h;refine Call_ (FC I hg hm boot_zip (bM (A5 (ha pos pins s σ H _ I h) fun us s1 ⟨vs,H1,Y,r1,q1⟩=>?_) (by rw[hs,T]) (by rw[T];rfl)));obtain⟨b1,b2,l1,l2,e,⟨xs,h1⟩,⟨ys,h2⟩,q⟩:=q1;subst e;cases r1 with
 |cons r Z=>
  cases Z with
  |cons r' Z=>
   cases Z;cases r;cases r';obtain⟨us,_,p1⟩:=h1.raw Y;obtain⟨vs,_,p2⟩:=h2.raw Y;refine ZT.Xy p1 p2 fun h' z1 z2 z3 z4 z5 hk=>wpAny_pyIter_zip z1 ?_;have I2:Inv X pins σ H1 {s1 with heap:=h'}:=Y.kept (t':=s1.toks) hk;refine⟨_,[s1.heap.objs.size+4,s1.heap.objs.size+2,s1.heap.objs.size+3,s1.heap.objs.size,s1.heap.objs.size+1],_,_,H1,rfl,I2,Yy ?_,⟨z1,z2,⟨_,_,z3⟩,z4,z5⟩,fun b hb=>?_,q⟩
   .simp
   have U:s1.heap.objs.size<=b:=by
    have hb2:b=s1.heap.objs.size+4\/b=s1.heap.objs.size+2\/b=s1.heap.objs.size+3\/b=s1.heap.objs.size\/b=s1.heap.objs.size+1:=by simpa using hb
    rcases hb2 with h|h|h|h|h<;>rw[h]<;>first|exact aG _|exact Nat.le_add_right _ _
   exact Y.PL U (Y.Al.fresh U)
def UQ(K:PySem.W.Frag)(a:Addr):It :=
 ⟨fun i H=>∃xs x,AQ K H a xs/\xs[i]? = some x,fun i H v H'=>∃p x,v=.ref p/\H p=none/\H'=upd H p (.tup [.int i,x])/\∀xs,AQ K H a xs->xs[i]? = some x,fun i H=>∃xs,AQ K H a xs/\xs.length=i⟩
theorem U2{P:Program}{w:World}{K:PySem.W.Frag}{elts:List Expr}{x1}{pos:Pos}(a e it:Addr)(hne:e≠it) :
  Turn P w K (.Tuple elts x1 pos) (UQ K a) [e,it] e (fun i h=>(∃old,IsEnum h e it (i:Nat) old)/\h.IsListIter it a i) where
 mem:=by simp
 obj:=fun i h st b hb=>by
  rcases aS.mp hb with rfl|hb
  .obtain⟨⟨old,q⟩,_⟩:=st;exact⟨_,q,fun v z=>by cases z⟩
  .have e2:b=it:=by simpa using hb
   subst e2;obtain⟨_,o,q,c,d⟩:=st;exact⟨o,q,fun v z=>by rw[d]at z;cases z⟩
 keep:=fun i h h' st k=>by
  obtain⟨⟨old,q⟩,o,q2,r⟩:=st;exact⟨⟨old,k e (by simp) _ q⟩,o,k it (by simp) _ q2,r⟩
 item:=by
  intro X hP hw hK hc i pins s σ H E I hf st hg;subst hP hw hK;obtain⟨xs,x,hq,hx⟩:=hg;obtain⟨its,rv,pL,hz⟩:=I.list hq;have p:=pL.isList;obtain⟨u,hu,ru⟩:=rv.get hx;obtain⟨⟨old,he⟩,hit⟩:=st;have hai:a≠it:=fun z=>by
   obtain⟨o,e1,c1,_⟩:=p;obtain⟨o2,e2,c2,_⟩:=hit;rw[z,e2]at e1;cases e1;rw[c1]at c2;exact absurd c2 (by decide)
  have hae:a≠e:=fun z=>by
   obtain⟨o,e1,c1,_⟩:=p;rw[z,he]at e1;cases e1;exact absurd (show Value.type "enumerate" = Value.type "list" from c1) (by decide)
  have hlt:i<its.length:=(aB.mp hu).1;have hE0:=hf e (by simp);have hI0:=hf it (by simp);refine wpAny_pyNext_enum_itemD (Draws.list (prog:=X.prog) (w:=X.w) (A:=X.A.in1) (I.ok.hd hc) it a hai its.toArray) he ⟨hit,p⟩ (by simpa using hlt) hne (by simp[hne,Ne.symm hae]) fun y h' tk hy ho hs' hT hsz hk=>⟨_,rfl,wpAny_letOwnedTupleGo_enum (s:={s with heap:=h',toks:=tk+1}) ho fun h'' he'' sb=>?_⟩;have hyu:y=u:=by
   have hy:its[i]? = some y:=by simpa using hy
   rw[hu]at hy;exact(aY hy).symm
  subst hyu;have keep:∀b o,b≠e->b≠it->s.heap.get? b=some o->h''.get? b=some o:=fun b o h1 h2 q=>(sb.2 b h1).trans (hk b o h1 h2 q);have hTe:s.heap.objs.size≠e:=bC (aF he);have hTi:s.heap.objs.size≠it:=let⟨_,q,_⟩:=hit;bC (aF q);have hT'':h''.get? s.heap.objs.size=some { cls:=.type "tuple",data:=.seq #[.int i tk,y]}:=(sb.2 _ hTe).trans hT;have hTn:H s.heap.objs.size=none:=I.Al.fresh (aG _);have neT:∀b o,s.heap.get? b=some o->b≠s.heap.objs.size:=fun b o q=>aO (aF q);have GB:∀b o,H b=some o->b≠e/\b≠it:=fun b o q=>⟨(fun z=>by rw[z,hE0.1]at q;cases q),(fun z=>by rw[z,hI0.1]at q;cases q)⟩;refine⟨.ref s.heap.objs.size,upd H s.heap.objs.size (.tup [.int i,x]),?_,rfl,⟨_,x,rfl,hTn,rfl,fun ys hy=>by rw[I.RU hy hq];exact hx⟩,⟨⟨_,by simpa using he''⟩,?_⟩,fun b hb=>?_⟩
  .show Inv X pins σ _ {s with heap:=h'',gens:=s.gens,drawn:=s.drawn,toks:=tk+1};refine I.step (h':=h'') (g':=s.gens) (d':=s.drawn) (t':=tk+1) (ch:=[e,it]) (fun b hb=>?_) (fun b o _ _ hc q _=>keep b o (fun z=>hc (by simp[z])) (fun z=>hc (by simp[z])) q) (fun b o _ _ hc q _=>⟨o.slots,keep b o (fun z=>hc (by simp[z])) (fun z=>hc (by simp[z])) q⟩)
    (fun b o _ q n=>by rw[AE (neT b o q)];exact n) (fun b o hc q=>⟨o,keep b o (fun z=>hc (by simp[z])) (fun z=>hc (by simp[z])) q⟩) (fun b ys q=>by rw[AE (AJ q hTn)];exact q) (fun b o u q=>by rw[AE (AJ q hTn)];exact q)
    (fun b ps q=>⟨#[],by rw[AE (AJ q hTn),q];simp⟩) (fun b _ o hc _ q=>keep b o (fun z=>hc (by simp[z])) (fun z=>hc (by simp[z])) q) (fun m hm=>?_) (fun b o q=>?_) I.bare
   .rcases aS.mp hb with rfl|hb
    .exact⟨hE0.2.2.2.1,hE0.2.1,hE0.2.2.2.2.1,hE0.2.2.2.2.2⟩
    .have e2:b=it:=by simpa using hb
     subst e2;exact⟨hI0.2.2.2.1,hI0.2.1,hI0.2.2.2.2.1,hI0.2.2.2.2.2⟩
   .obtain⟨o,es,ep,ho,r⟩:=hm;exact⟨o,es,ep,keep _ o (Ne.symm hE0.2.1) (Ne.symm hI0.2.1) ho,r⟩
   .by_cases hb:b=s.heap.objs.size
    .subst hb;rw[AF]at q;cases q;exact⟨Uj,[.int i tk,y],.cons ⟨tk,rfl⟩ (.cons ru .nil),_,hT'',rfl,_,rfl⟩
    .rw[AE hb]at q;refine(I.Al b o q).IC (fun c v hc r=>keep c v ?_ ?_ r) (fun c r=>by rw[AE (AJ r hTn)];exact r) fun c ys r=>by rw[AE (AJ r hTn)];exact r
     .rcases hc with rfl|hc
      .exact(GB _ _ q).1
      .exact(GB _ _ hc).1
     .rcases hc with rfl|hc
      .exact(GB _ _ q).2
      .exact(GB _ _ hc).2
  .obtain⟨⟨o,q,r⟩,_⟩:=hs';exact⟨o,(sb.2 it (Ne.symm hne)).trans q,r⟩
  .rcases aS.mp hb with rfl|hb
   .rw[AE (Ne.symm hTe)];exact hE0.1
   .have e2:b=it:=by simpa using hb
    subst e2;rw[AE (Ne.symm hTi)];exact hI0.1
 done:=by
  intro X hP hw hK hc i pins s σ H E I hf st hg;subst hP hw hK;obtain⟨xs,hq,hx⟩:=hg;obtain⟨its,rv,pL,hz⟩:=I.list hq;have p:=pL.isList;obtain⟨⟨old,he⟩,hit⟩:=st;have hai:a≠it:=fun z=>by
   obtain⟨o,e1,c1,_⟩:=p;obtain⟨o2,e2,c2,_⟩:=hit;rw[z,e2]at e1;cases e1;rw[c1]at c2;exact absurd c2 (by decide)
  have hl:its.length=i:=by rw[<-rv.length];exact hx
  subst hl;obtain⟨f0,f1,f2,f3,f4,f5⟩:=hf it (by simp);exact wpAny_pyNext_enum_endD (Draws.list (prog:=X.prog) (w:=X.w) (A:=X.A.in1) (I.ok.hd hc) it a hai its.toArray) he ⟨hit,p⟩ fun h' eb=>⟨rfl,I.turned (t':=s.toks) (fun b o hb q=>eb b o hb q) f0 f1 f3 f4 f5⟩
 self:=fun _ _ _ _ _ st h=>by
  obtain⟨⟨old,he⟩,_⟩:=st;exact wpAny_pyIter_enum he h
def fB(K:PySem.W.Frag)(I:TA):TI:=fun σ H R=>I σ H fun vs H1=>∃a,vs=[.ref a]/\(∃xs,AQ K H1 a xs)/\R (UQ K a) H1
theorem Kk{X:Cx}{elts:List Expr}{x1}{M:Pos}{a:Expr}{ta:TA}{p pos:Pos}(hg:Gl X "enumerate")(hm:X.mg "enumerate" = none)(ha:PA X [a] ta)(hs:starEach [a] X.env=[(false,eval a X.env)]:=by rfl) :
  PI X (.Tuple elts x1 M) (.Call (.Name "enumerate" p) [a] [] pos) (fB X.K ta):=by
 intro pins s σ H R I h;refine Call_ (FC I hg hm boot_enumerate (bM (A5 (ha pos pins s σ H _ I h) fun us s1 ⟨vs,H1,U,r1,q1⟩=>?_) hs rfl));obtain⟨t,e,⟨xs,hq⟩,q⟩:=q1;subst e;cases r1 with
 |cons r rr=>
  cases rr;cases r;obtain⟨Y,rv,p',hz⟩:=U.list hq;refine call_enumerate_list (show s1.heap.IsList t Y.toArray from p'.isList) fun h' he hit hsz hk=>wpAny_pyIter_enum he ?_;have I2:Inv X pins σ H1 {s1 with heap:=h'}:=U.kept (t':=s1.toks) hk;have hn:s1.heap.objs.size+1≠s1.heap.objs.size:=by lia
  refine⟨s1.heap.objs.size+1,[s1.heap.objs.size+1,s1.heap.objs.size],_,_,H1,rfl,I2,U2 t _ _ hn,⟨⟨_,he⟩,hit⟩,fun b hb=>?_,q⟩;have T:s1.heap.objs.size<=b:=by
   have Z:b=s1.heap.objs.size+1\/b=s1.heap.objs.size:=by simpa using hb
   rcases Z with z|z
   .rw[z];exact Nat.le_succ _
   .rw[z];exact aG _
  exact U.PL T (U.Al.fresh T)
theorem QP{K:PySem.W.Frag}{a:Addr}{xs:List V}{g:TG}{U:TS}{D:Ends}{σ:St}{H:Hp}(Pv:Nat->St->Hp->Prop)(h0:Pv 0 σ H)(hl:∀i σ H,i<=xs.length->Pv i σ H->AQ K H a xs)
 (hs:∀i x σ H,xs[i]? = some x->Pv i σ H->∀p,H p=none->g (.ref p) σ (upd H p (.tup [.int (i:Nat),x])) fun I T=>U {D with nx:=Pv (i+1),ct:=Pv (i+1),bk:=D.nx} I T)(hd:∀σ H,Pv xs.length σ H->D.nx σ H) :
  ∃W:Nat->Nat->St->Hp->Prop,(∃m,W 0 m σ H)/\∀i m σ H,W i m σ H ->
   ((UQ K a).stop i H/\D.nx σ H)\/((UQ K a).go i H/\∃N:St->Hp->Prop,(∀M H',N M H'->∃Y,Y<m/\W (i+1) Y M H')/\∀x H',(UQ K a).EJ i H x H'->g x σ H' fun I T=>U {D with nx:=N,ct:=N,bk:=D.nx} I T):=by
 refine⟨fun i m σ H=>m=xs.length-i/\i<=xs.length/\Pv i σ H,⟨xs.length,by simp,Nat.zero_le _,h0⟩,?_⟩;rintro i m σ H ⟨rfl,hi,p⟩;have q:=hl i σ H hi p;by_cases R:i<xs.length
 .refine .inr ⟨⟨xs,xs[i],q,by simp[R]⟩,Pv (i+1),fun M H' p'=>⟨xs.length-(i+1),by lia,rfl,R,p'⟩,fun x H' y=>?_⟩;obtain⟨pp,Z,rfl,hn,rfl,y⟩:=y;exact hs i Z σ _ (y xs q) p pp hn
 .have e:i=xs.length:=by lia
  subst e;exact .inl ⟨⟨xs,q,rfl⟩,hd σ H p⟩
section
variable{X:Cx}{scope:Scope}{cl:List (Str×Addr)}{N:List Str}{C:Addr}{s₀:Shared}{H₀:Hp}{fp:List Addr}
theorem Kz:FH (Ap X scope cl N C s₀ H₀ fp) (.type "list") (fun xs H Q=>∃p ys,xs=[.ref p]/\(AQ X.K H p ys\/Ao X.K H p ys)/\∀l,H l=none->Q (.ref l) (upd H l (.lst ys))):=Iq
end
section
variable{κ:Type}[DecidableEq κ]
def CN(kvs:List (κ×V))(k:κ):Option V:=(kvs.find? fun kv=>decide (kv.1=k)).map (·.2)
def putK(kvs:List (κ×V))(k:κ)(v:V):List (κ×V) :=
 if(kvs.any fun kv=>decide (kv.1=k))=true then kvs.map (fun kv=>if kv.1=k then(kv.1,v) else kv) else kvs++[(k,v)]
theorem Fy{p:κ×V}{r:List (κ×V)}{k:κ}(e:p.1=k):CN (p::r) k=some p.2:=by simp[CN,List.find?_cons,e]
theorem F8{p:κ×V}{r:List (κ×V)}{k:κ}(e:¬p.1=k):CN (p::r) k=CN r k:=by simp[CN,List.find?_cons,e]
theorem HE(k:κ):∀kvs:List (κ×V),(kvs.any fun kv=>decide (kv.1=k))=(CN kvs k).isSome
 |[]=>rfl
 |p::r=>by
  rw[List.any_cons];by_cases e:p.1=k
  .simp only[Fy e,decide_eq_true e,Bool.true_or,Option.isSome_some]
  .rw[F8 e,decide_eq_false e,Bool.false_or];exact HE k r
theorem Jl(k j:κ)(y:V):∀kvs:List (κ×V),CN kvs k=none->CN (kvs++[(k,y)]) j=if j=k then some y else CN kvs j
 |[],_=>by
  by_cases e:k=j
  .rw[if_pos e.symm];exact Fy (p:=(k,y)) e
  .rw[if_neg (fun z=>e z.symm)];exact F8 (p:=(k,y)) e
 |p::r,hn=>by
  rw[List.cons_append];have I:¬p.1=k:=fun z=>by rw[Fy z]at hn;cases hn
  rw[F8 I]at hn;have M:=Jl k j y r hn;by_cases e:p.1=j
  .rw[Fy e,Fy e,if_neg (fun z=>I (e.trans z))]
  .rw[F8 e,F8 e,M]
theorem Jw(kvs:List (κ×V))(k:κ)(v:V):(putK kvs k v).length<=kvs.length+1:=by
 unfold putK;split
 .rw[List.length_map];lia
 .rw[List.length_append,List.length_cons,List.length_nil];lia
theorem ND{kvs:List (κ×V)}{k:κ}(v:V)(h:CN kvs k=none):putK kvs k v=kvs++[(k,v)]:=by
 unfold putK;rw[HE,h];exact if_neg (by decide)
theorem JV.Lf{o:Option V}{u:Option Value}(r:JV o u):o.isSome=u.isSome:=by
 cases o with
 |none=>cases u with
  |none=>rfl
  |some _=>exact(show False from r).elim
 |some _=>cases u with
  |none=>exact(show False from r).elim
  |some _=>rfl
theorem KV.val{kvs:List (κ×V)}{vs:List (κ×Value)}(r:KV kvs vs)(k:κ):JV (CN kvs k) (valueAt vs k):=by
 unfold KV at r
 induction r with
 |nil=>exact True.intro
 | @cons p q ps I h t T=>
  obtain⟨R,U⟩:=h;by_cases e:p.1=k
  .have M:q.1=k:=R.symm.trans e;have b:valueAt (q::I) k=some q.2:=by simp[valueAt,List.find?_cons,M]
   rw[Fy e,b];exact U
  .have M:¬q.1=k:=fun z=>e (R.trans z);have b:valueAt (q::I) k=valueAt I k:=by simp[valueAt,List.find?_cons,M]
   rw[F8 e,b];exact T
theorem KV.any{kvs:List (κ×V)}{vs:List (κ×Value)}(r:KV kvs vs)(k:κ):(kvs.any fun kv=>decide (kv.1=k))=vs.any fun kv=>decide (kv.1=k):=by
 unfold KV at r
 induction r with
 |nil=>rfl
 |cons h t I=>rw[List.any_cons,List.any_cons,I,h.1]
theorem KV.Xr{kvs:List (κ×V)}{vs:List (κ×Value)}(r:KV kvs vs)(k:κ){y:V}{u:Value}(M:RelV y u) :
  KV (kvs.map fun kv=>if kv.1=k then(kv.1,y) else kv) (vs.map fun kv=>if kv.1=k then(kv.1,u) else kv):=by
 unfold KV at r ⊢
 induction r with
 |nil=>exact .nil
 | @cons p q ps U h t R=>
  rw[List.map_cons,List.map_cons];refine .cons ?_ R;obtain⟨I,T⟩:=h;by_cases e:p.1=k
  .rw[if_pos e,if_pos (I.symm.trans e)];exact⟨I,M⟩
  .rw[if_neg e,if_neg (fun z=>e (I.trans z))];exact⟨I,T⟩
theorem KV.put{kvs:List (κ×V)}{vs:List (κ×Value)}(r:KV kvs vs)(k:κ){y:V}{u:Value}(I:RelV y u):KV (putK kvs k y) (stored vs k u):=by
 unfold putK stored;rw[r.any k];by_cases e:(vs.any fun kv=>decide (kv.1=k))=true
 .rw[if_pos e,if_pos e];exact r.Xr k I
 .rw[if_neg e,if_neg e];exact Paired.snoc r ⟨rfl,I⟩
theorem KV.length{kvs:List (κ×V)}{vs:List (κ×Value)}(r:KV kvs vs):kvs.length=vs.length:=Paired.length r
end
theorem Qr{P:Program}{w:World}{k:Key}{u:Value}(r:RelV (kV k) u):(DL P w).is k u=true:=by
 cases k with
 |inl i=>obtain⟨t,e⟩:=(show ∃t,u=Value.int i t from r);subst e;exact TC P w i t
 |inr x=>obtain⟨t,e⟩:=(show ∃t,u=Value.str x t from r);subst e;exact Td P w x t
theorem QF{P:Program}{w:World}:∀ {ks:List Key} {us:List Value},Vals (ks.map kV) us->ItemsAre (DL P w) ks us
 |[],_,r=>by rw[List.map_nil]at r;cases r;exact .nil
 |k::ks,_,r=>by
  rw[List.map_cons]at r;cases r with
  |cons h t=>exact .cons (Qr h) (QF t)
abbrev KT(H:Hp):List (List Key×V)->List (List Key×Addr×Value)->Prop:=Paired fun p q=>p.1=q.1/\H q.2.1=some (.tup (p.1.map kV))/\RelV p.2 q.2.2
theorem KT.val{H:Hp}{kvs:List (List Key×V)}{xs:List (List Key×Addr×Value)}(r:KT H kvs xs)(k:List Key):JV (CN kvs k) ((atKey xs k).map (·.2)):=by
 induction r with
 |nil=>exact True.intro
 | @cons p q ps I h t T=>
  obtain⟨R,_,U⟩:=h;by_cases e:p.1=k
  .have M:q.1=k:=R.symm.trans e;have b:atKey (q::I) k=some q.2:=by simp[atKey,List.find?_cons,M]
   rw[Fy e,b];exact U
  .have M:¬q.1=k:=fun z=>e (R.trans z);have b:atKey (q::I) k=atKey I k:=by simp[atKey,List.find?_cons,M]
   rw[F8 e,b];exact T
theorem KT.Xr{H:Hp}{kvs:List (List Key×V)}{xs:List (List Key×Addr×Value)}(r:KT H kvs xs)(k:List Key){y:V}{u:Value}(R:RelV y u) :
  KT H (kvs.map fun kv=>if kv.1=k then(kv.1,y) else kv) (xs.map (putAt k u)):=by
 induction r with
 |nil=>exact .nil
 | @cons p q ps Y h t T=>
  rw[List.map_cons,List.map_cons];refine .cons ?_ T;obtain⟨I,M,U⟩:=h;unfold putAt;by_cases e:p.1=k
  .rw[if_pos e,if_pos (I.symm.trans e)];exact⟨I,M,R⟩
  .rw[if_neg e,if_neg (fun z=>e (I.trans z))];exact⟨I,M,U⟩
theorem KT.put{H:Hp}{kvs:List (List Key×V)}{xs:List (List Key×Addr×Value)}(r:KT H kvs xs)(k:List Key){b:Addr}{y:V}{u:Value}(M:H b=some (.tup (k.map kV)))(I:RelV y u) :
  KT H (putK kvs k y) (storedH xs k b u):=by
 have e:(kvs.any fun kv=>decide (kv.1=k))=(atKey xs k).isSome:=by
  rw[HE,(r.val k).Lf,Option.isSome_map]
 unfold putK storedH;rw[e];by_cases q:(atKey xs k).isSome=true
 .rw[if_pos q,if_pos q];exact r.Xr k I
 .rw[if_neg q,if_neg q];exact Paired.snoc r ⟨rfl,M,I⟩
theorem KT.keeps{H H':Hp}{kvs:List (List Key×V)}{xs:List (List Key×Addr×Value)}(r:KT H kvs xs)(I:∀b ys,H b=some (.tup ys)->H' b=some (.tup ys)):KT H' kvs xs :=
 Paired.YT r fun _ _ z=>⟨z.1,I _ _ z.2.1,z.2.2⟩
section
variable{P:Program}{w:World}{H:Hp}{h:Heap}{a:Addr}
theorem ZE{u:HO}(ok:C2 P w H h)(e:Rd H a u):Bv P w H h a u:=e.ok ok
theorem Qo{kvs:List (Key×V)}(ok:C2 P w H h)(e:Rd H a (.dK kvs)):kvs.length<=sizeLine/\(a==sysModules)=false/\∃vs,KV kvs vs/\h.DictOf (DL P w) a vs :=
 show Bv P w H h a (.dK kvs) from ZE ok e
theorem gX{kvs:List (Key×V)}(ok:C2 P w H h)(e:H a=some (.dK kvs)):kvs.length<=sizeLine/\(a==sysModules)=false/\∃vs,KV kvs vs/\h.DictOf (DL P w) a vs:=Qo ok (.inl e)
theorem OG{ks:List Key}(ok:C2 P w H h)(e:H a=some (.tup (ks.map kV))):(tupleKind (DL P w)).is h ks a:=by
 obtain⟨_,I,r,o,T,R,n,M⟩:=(show Bv P w H h a (.tup (ks.map kV)) from ok a _ e);exact⟨o,I.toArray,n,T,R,M,by simpa using QF r⟩
theorem Qs{kvs:List (List Key×V)}(ok:C2 P w H h)(e:Rd H a (.dT kvs)):kvs.length<=sizeLine/\(a==sysModules)=false /\
  ∃xs,KT H kvs xs/\h.DictOfH (tupleKind (DL P w)) a xs:=by
 obtain⟨z,y,xs,r,o,es,ep,h1,Z,Y,U,T⟩:=(show Bv P w H h a (.dT kvs) from ZE ok e);refine⟨z,y,xs,r,o,es,ep,h1,Z,Y,U,fun x I=>?_,T⟩;have all:∀ {l:List (List Key×V)} {m:List (List Key×Addr×Value)},KT H l m->∀x∈m,(tupleKind (DL P w)).is h x.1 x.2.1:=by
  intro l m q
  induction q with
  |nil=>intro x I;exact nomatch I
  | @cons p q ps qs M t R=>
   intro x I;rcases aS.mp I with e|I
   .subst e;exact OG ok (by rw[<-M.1];exact M.2.1)
   .exact R x I
 exact all r x I
theorem VY{kvs:List (List Key×V)}(ok:C2 P w H h)(e:H a=some (.dT kvs)):kvs.length<=sizeLine/\(a==sysModules)=false /\
  ∃xs,KT H kvs xs/\h.DictOfH (tupleKind (DL P w)) a xs:=Qs ok (.inl e)
end
def GR(H:Hp)(a:Addr)(y:V)(r:Option V):Prop :=
 (∃kvs k,Rd H a (.dK kvs)/\y=kV k/\r=CN kvs k)\/∃kvs k b,Rd H a (.dT kvs)/\y=.ref b/\H b=some (.tup (k.map kV))/\r=CN kvs k
def NK(H:Hp)(a:Addr)(y v:V)(H':Hp):Prop :=
 (∃kvs k,H a=some (.dK kvs)/\y=kV k/\kvs.length<sizeLine/\H'=upd H a (.dK (putK kvs k v))) \/
 ∃kvs k b,H a=some (.dT kvs)/\y=.ref b/\H b=some (.tup (k.map kV))/\kvs.length<sizeLine/\H'=upd H a (.dT (putK kvs k v))
theorem GR.t{H:Hp}{a b:Addr}{kvs:List (List Key×V)}{k:List Key}(e:H a=some (.dT kvs))(I:H b=some (.tup (k.map kV))):GR H a (.ref b) (CN kvs k):=.inr ⟨kvs,k,b,.inl e,rfl,I,rfl⟩
theorem NK.t{H:Hp}{a b:Addr}{kvs:List (List Key×V)}{k:List Key}{v:V}(e:H a=some (.dT kvs))(M:H b=some (.tup (k.map kV)))(I:kvs.length<sizeLine) :
  NK H a (.ref b) v (upd H a (.dT (putK kvs k v))):=.inr ⟨kvs,k,b,e,rfl,M,I,rfl⟩
section
variable{X:Cx}{pins:List (Addr×Obj)}{σ:St}{H:Hp}{s:Shared}{a:Addr}{y v:V}{u r:Value}{o:Option V}{A:Around}{E:Value->Shared->Prop}
theorem Inv.big(I:Inv X pins σ H s):sysModules<s.heap.objs.size:=by
 have h:mainGlobals<s.heap.objs.size:=(I.mod.glob.keeps I.bk).lt;exact Nat.lt_trans (by decide) h
theorem W5{Q:Value->Shared->Prop}(hu:A.units+1<cLine)(I:Inv X pins σ H s)(g:GR H a y (some v))(Z:RelV y u)(h:∀R s',Inv X pins σ H s'->RelV v R->Q R s') :
  wpAny (model X.prog X.w) A (getItem (.ref a) u) Q E s:=by
 rcases g with ⟨kvs,k,e,Y,l⟩|⟨kvs,k,b,e,Y,eb,l⟩
 .subst Y;obtain⟨z,hd,vs,rel,dd⟩:=Qo I.Al e;obtain⟨R,T,M⟩:=JV.some_of (v:=v) (o:=valueAt vs k) (by rw[l];exact rel.val k);exact wpAny_getItem_of (Qr Z) dd.mapOf T (h R _ (I.tok _) M)
 .subst Y;cases (show u=Value.ref b from Z);obtain⟨z,hd,xs,rel,dd⟩:=Qs I.Al e;obtain⟨R,T,M⟩:=JV.some_of (v:=v) (o:=(atKey xs k).map (·.2)) (by rw[l];exact rel.val k);obtain⟨p,hp,U⟩:=aH.mp T;refine wpAny_getItem_heap (tupleKind_room_in1 hu) (OG I.Al eb) dd hp ?_;rw[U];exact h R _ (I.tok _) M
theorem Z3{Q:Value->Shared->Prop}(T:A.units+1<cLine)(I:Inv X pins σ H s)(g:GR H a y o)(R:RelV y u)(h:∀s',Inv X pins σ H s'->Q (.bool (!o.isSome)) s') :
  wpAny (model X.prog X.w) A (compareOp .NotIn u (.ref a)) Q E s:=by
 rcases g with ⟨kvs,k,e,M,l⟩|⟨kvs,k,b,e,M,U,l⟩
 .subst M;obtain⟨z,hd,vs,rel,dd⟩:=Qo I.Al e;refine wpAny_notIn_of (Qr R) hd dd.mapOf ?_;rw[<-(rel.val k).Lf,<-l];exact h _ (I.tok _)
 .subst M;cases (show u=Value.ref b from R);obtain⟨z,hd,xs,rel,dd⟩:=Qs I.Al e;refine wpAny_notIn_heap (tupleKind_room_in1 T) (OG I.Al U) hd dd ?_;have q:=(rel.val k).Lf;rw[Option.isSome_map]at q;rw[<-q,<-l];exact h _ (I.tok _)
theorem UI{h':Heap}{t':Nat}{M:HO}(I:Inv X pins σ H s)(R:Xd (H a))(T:Heap.SameBut a s.heap h')(U:∃q,h'.get? a=some q)(new:Bv X.prog X.w (upd H a M) h' a M) :
  Inv X pins σ (upd H a M) {s with heap:=h',toks:=t'} :=
 I.write (x:=a) (e:=a) R (.inl rfl) (fun b q Y z=>(T.2 b Y).trans z) U new
theorem fI{P:Program}{w:World}{H':Hp}{h':Heap}{kvs:List (Key×V)}{vs:List (Key×Value)}(z:kvs.length<=sizeLine)(hd:(a==sysModules)=false)(rel:KV kvs vs)(dd:h'.DictOf (DL P w) a vs) :
  Bv P w H' h' a (.dK kvs):=⟨z,hd,vs,rel,dd⟩
theorem XY{H':Hp}{Q:Unit->Shared->Prop}(hu:A.units+1<cLine)(I:Inv X pins σ H s)(g:NK H a y v H')(ry:RelV y u)(rv:RelV v r)(h:∀s',Inv X pins σ H' s'->Q () s') :
  wpAny (model X.prog X.w) A (setItem (.ref a) u r) Q E s:=by
 rcases g with ⟨kvs,k,e,ey,l,eH⟩|⟨kvs,k,b,e,ey,eb,l,eH⟩
 .subst ey eH;obtain⟨z,hd,vs,rel,dd⟩:=gX I.Al e;have T:vs.length<=sizeLine:=by rw[<-rel.length];exact z
  have Z:(putK kvs k v).length<=sizeLine:=by have:=Jw kvs k v;lia
  refine wpAny_setItem_pairs (hsz:=T) (Qr ry) dd fun h' M Y=>h _ ?_;have he:∃q,h'.get? a=some q:=let⟨q,_,_,R,_⟩:=M;⟨q,R⟩;exact UI I (by rw[e];exact True.intro) Y he (fI Z hd (rel.put k rv) M)
 .subst ey eH;cases (show u=Value.ref b from ry);obtain⟨z,hd,xs,rel,dd⟩:=VY I.Al e;have T:xs.length<=sizeLine:=by rw[<-Paired.length rel];exact z
  have Z:(putK kvs k v).length<=sizeLine:=by have:=Jw kvs k v;lia
  refine wpAny_setItem_heap (hsz:=T) (tupleKind_room_in1 hu) (OG I.Al eb) dd fun h' M Y=>h _ ?_;obtain⟨q,es,ep,R,h2,h3,h4,_,h5⟩:=M;refine UI I (by rw[e];exact True.intro) Y ⟨q,R⟩ ⟨Z,hd,_,(rel.put k eb rv).keeps fun c ys ec=>?_,q,es,ep,R,h2,h3,h4,h5⟩;rw[AE (iq ec e (fun z=>nomatch z))];exact ec
end
def eJ(i:Expr):Prop:=∀I M,subscripted i false I M=operate [I,M] (getItem I M)
theorem a9{prog:Program}{w:World}{A:Around}{E:Value->Shared->Prop}{s:Shared}{env:Env}{value slice:Expr}{pos:Pos}{T id:String}{Q:Value->Shared->Prop}
 (hl:typeLookup (.type T) "__getitem__" = pure (some (.builtin id)))(hs:eJ slice)
 (h:wpAny (model prog w) A (eval value env) (fun o U=>wpAny (model prog w) A (eval slice env) (fun i I=>I.TypeIs o T/\wpAny (model prog w) A (getItem o i) Q E I) E U) E s) :
  wpAny (model prog w) A (eval (.Subscript value slice pos) env) Q E s:=by
 refine Subscript_ (aj h (fun o U Z=>aj Z (fun i I M=>?_) fun _ _ x=>x) fun _ _ x=>x);obtain⟨hT,M⟩:=M;unfold subscriptTail;refine aA ?_;rw[getitemInPython_of_ne hT.not_modules];refine aA (wpAny_specialOf hT hl ?_);have fin:wpAny (model prog w) A (subscripted slice false o i) (fun r R=>wpAny (model prog w) A (letTemporaryGo value o r>>=fun _=>pure r) Q E R) E I:=by
  rw[hs o i];exact wpAny_operating (aj M (fun r R Y=>aA (wpAny_letTemporaryGo (aC Y))) fun _ _ x=>x)
 first
  |exact aC (aA fin)
  |exact aA (aC (aA fin))
  |exact aA fin
theorem TN{X:Cx}{pins:List (Addr×Obj)}{σ:St}{H:Hp}{s:Shared}{a:Addr}{y:V}{o:Option V}(I:Inv X pins σ H s)(g:GR H a y o):s.TypeIs (.ref a) "dict" := by
 rcases g with ⟨kvs,k,e,_,_⟩|⟨kvs,k,b,e,_,_,_⟩
 .obtain⟨_,_,vs,_,dd⟩:=Qo I.Al e;exact dd.typeIs
 .obtain⟨_,_,xs,_,dd⟩:=Qs I.Al e;exact dd.typeIs
def hU(M ty:TE):TE:=fun σ H Q=>M σ H fun x H1=>ty σ H1 fun y I=>∃a v,x=.ref a/\GR I a y (some v)/\Q v I
def b7(ty M:TE):TE:=fun σ H Q=>ty σ H fun y H1=>M σ H1 fun x I=>∃a o,x=.ref a/\GR I a y o/\Q (.bl (!o.isSome)) I
def ir(R ty M:TE):TS:=fun D σ H=>M σ H fun v H1=>R σ H1 fun x U=>ty σ U fun y T=>∃a I,x=.ref a/\NK T a y v I/\D.nx σ I
section
variable{X:Cx}{o i value:Expr}{pos pos':Pos}{td ty tv:TE}
theorem Oe(hu:X.A.units+1<cLine)(ho:PE X o td)(hi:PE X i ty)(hs:eJ i):PE X (.Subscript o i pos) (hU td ty):=by
 intro pins s σ H Q I h;refine a9 PySem.F.slot_dict_getitem.lookup hs (A5 (ho pins s σ H _ I h) fun u s1 ⟨x,H1,I1,U,Z⟩=>A5 (hi pins s1 σ H1 _ I1 Z) fun iv s2 ⟨y,H2,R,T,a,v,ex,g,Y⟩=>?_);subst ex;obtain rfl:u=Value.ref a:=U;exact⟨TN R g,W5 hu R g T fun w' s3 I3 M=>⟨v,H2,I3,M,Y⟩⟩
theorem W9(Z:X.A.units+1<cLine)(hi:PE X i ty)(ho:PE X o td):PC X .NotIn i o (b7 ty td):=by
 intro pins s σ H Q I h;refine A5 (hi pins s σ H _ I h) fun iv s1 ⟨y,H1,I1,M,U⟩=>A5 (ho pins s1 σ H1 _ I1 U) fun u s2 ⟨x,H2,I2,R,a,Y,ex,g,T⟩=>?_;subst ex;obtain rfl:u=Value.ref a:=R;exact Z3 Z I2 g M fun s3 I3=>⟨.bl (!Y.isSome),H2,I3,rfl,T⟩
theorem PD(hu:X.A.units+1<cLine)(ho:PE X o td)(hi:PE X i ty)(hv:PE X value tv)(hs:swapsWith value (some (.Subscript o i pos')) pos.line X.env=pure false) :
  PS X (.Assign [.Subscript o i pos'] value pos) (ir td ty tv):=by
 intro pins s σ H D I h;refine wpAny_Assign_Subscript (A5 (hv pins s σ H _ I h) fun r s1 ⟨v,H1,I1,T,Z⟩=>A5 (ho pins s1 σ H1 _ I1 Z) fun u s2 ⟨x,H2,I2,R,Y⟩=>A5 (hi pins s2 σ H2 _ I2 Y) fun iv s3 ⟨y,H3,I3,M,a,H4,ex,g,U⟩=>?_) hs;subst ex;obtain rfl:u=Value.ref a:=R;exact XY hu I3 g M T fun s4 I4=>⟨σ,H4,I4,U⟩
end
theorem Y3{P:Program}{w:World}{H:Hp}(h:Heap)(I:sysModules<h.objs.size):Bv P w H (h.push { cls:=.type "dict",data:=.dict #[]}) h.objs.size (.dT []) :=
 ⟨ar _,beq_eq_false_iff_ne.mpr (Ne.symm (aO I)),[],.nil,_,#[],0,Heap.get?_push_size _ rfl,⟨rfl,rfl,rfl⟩,rfl,rfl,List.nodup_nil⟩
def gH:TE:=fun _ H Q=>∀p,H p=none->Q (.ref p) (upd H p (.dT []))
section
variable{X:Cx}{pos:Pos}
theorem NS:PE X (.Dict [] [] pos) gH:=fun pins s σ H Q I h=>
 wpAny_Dict_empty ⟨.ref s.heap.objs.size,_,I.laid (a:=s.heap.objs.size) (o:=.dT []) (t':=s.toks) (fun _ _ q=>aD _ q) (aG _) (Y3 s.heap I.big),rfl,h _ (I.Al.fresh (aG _))⟩
end
end L2
namespace L2
open PySem PySem.Spec PyProof.Rows
section
variable{κ:Type}[DecidableEq κ]
theorem Yz{kvs:List (κ×V)}{k:κ}(h:CN kvs k=none):¬k∈kvs.map (·.1):=by
 intro m;obtain⟨p,I,e⟩:=aL.mp m;have q:(kvs.any fun kv=>decide (kv.1=k))=true:=List.any_eq_true.mpr ⟨p,I,decide_eq_true e⟩;rw[HE,h]at q;exact absurd q (by simp)
theorem Ug:∀ {l:List κ} {k:κ},l.Nodup->¬k∈l->(l++[k]).Nodup
 |[],k,_,_=>by simp
 |a::r,k,h,I=>by
  obtain⟨R,M⟩:=bo.mp h;show(a::(r++[k])).Nodup;refine bo.mpr ⟨fun m=>?_,Ug M fun m=>I (aS.mpr (Or.inr m))⟩;rcases aT.mp m with q|q
  .exact R q
  .exact I (aS.mpr (Or.inl (List.mem_singleton.mp q).symm))
theorem Zu{kvs:List (κ×V)}{k:κ}(v:V)(hn:(kvs.map (·.1)).Nodup)(h:CN kvs k=none):((putK kvs k v).map (·.1)).Nodup:=by
 rw[ND v h,List.map_append];exact Ug hn (Yz h)
end
end L2
namespace DI
open PySem PySem.W PyProof.Rows
def RD(h:Heap)(d:Addr)(es:Array DictEntry)(ep:Nat):Prop:=∃o,h.get? d=some o/\o.ExactDict/\o.data=.dict es ep
def St(h:Heap)(it d S:Addr)(i n ep:Nat):Prop:=(i=0/\∃ok I,IsItemIter h it d 0 n ep ok I)\/∃ok I a f M,KdxIt h it d i n ep ok I a f/\h.get? a=some M/\a≠it/\a≠S
section
variable{prog:Program}{w:World}{A:Around}{E:Value->Shared->Prop}{s:Shared}{it d:Addr}{i ep:Nat}{es:Array DictEntry}{ok ov:Value}
theorem VD{Q:Option Value->Shared->Prop}(hit:IsItemIter s.heap it d i es.size ep ok ov)(hm:RD s.heap d es ep)(hi:i<es.size)
 (q:∀h',IsItemIterOut h' it d (i+1) es.size ep es[i].key es[i].val s.heap.objs.size->h'.get? s.heap.objs.size=some { cls:=.type "tuple",data:=.seq #[es[i].key,es[i].val]}->h'.objs.size=s.heap.objs.size+1 ->
   (∀b o,b≠it->s.heap.get? b=some o->h'.get? b=some o)->Q (some (.ref s.heap.objs.size)) {s with heap:=h'}):wpAny (model prog w) A (pyNext (.ref it)) Q E s:=by
 obtain⟨I,g,dr,Y,os⟩:=s;obtain⟨od,e1,e2,e3⟩:=hm;have R:Shared.TypeIs ⟨I,g,dr,Y,os⟩ (.ref it) "dict_itemiterator" := ⟨_,hit,rfl⟩;have own:Builtin.Dict_items.ownsTuple "dict_itemiterator" = true:=by decide
 unfold pyNext;refine aA (wpAny_attempt (au (name:=Str.ofString "__next__") R bJ
  (bA bJ R F.entry_dict_itemiterator_next (aA (aC (aA (aA ?_)))) (F.args_dict_itemiterator_next_1 _))))
 first|refine aA (bG R (aC (aA (bj hit rfl ?_))))|refine aA (bS R (aC (aA (bj hit rfl ?_))))
 simp only[own,if_true];show wpAny _ _ (if(Value.ref d==Value.none)=true then _ else _) _ _ _;rw[if_neg (show ¬((Value.ref d==Value.none)=true) from aM)];refine aA (aC (aA (bf e1 e3 ?_)));rw[if_neg (by simp)];refine aA (aC (aA (wpAny_dictEpoch e1 e3 ?_)));rw[if_neg (by simp)];refine aC ?_;simp only[show ¬((i:Int)<0) from by lia,if_false,Int.toNat_natCast,Array.getElem?_eq_getElem hi];refine aA ?_
 first|refine aA (bG R (aC (aA (bI R ?_))))|refine aA (bS R (aC (aA (bI R ?_))))
 show wpAny _ _ (setField (.ref it) 3 (rawInt ((i:Int)+1))>>=_) _ _ ⟨I,g,dr,Y,os⟩;refine aA (ao hit (by simp) fun g1 z1 T=>?_);have T:Heap.SameBut it I g1:=T;have z1:IsItemIter g1 it d (i+1) es.size ep ok ov:=by
  have e:((i+1:Nat):Int)=(i:Int)+1:=by lia
  unfold IsItemIter;rw[e]
  simpa[rawInt]using z1
 have Z:Shared.TypeIs ⟨g1,g,dr,Y,os⟩ (.ref it) "dict_itemiterator" := ⟨_,z1,rfl⟩;refine aA (bQ (aA (bI Z (aA (bI Z ?_)))));show wpAny _ _ (Builtin.Dict_items.pairFromOwner (.ref it) 6 es[i].key es[i].val) _ _ ⟨g1,g,dr,Y,os⟩;unfold Builtin.Dict_items.pairFromOwner;refine aA (wpAny_newTuple ?_);have U:IsItemIter (g1.push { cls:=.type "tuple",data:=.seq #[es[i].key,es[i].val]}) it d (i+1) es.size ep ok ov:=aD _ z1;have a2:(g1.push { cls:=.type "tuple",data:=.seq #[es[i].key,es[i].val]}).get? I.objs.size=some { cls:=.type "tuple",data:=.seq #[es[i].key,es[i].val]}:=by rw[<-T.1];exact aU _ rfl
 have s2:(g1.push { cls:=.type "tuple",data:=.seq #[es[i].key,es[i].val]}).objs.size=I.objs.size+1:=by rw[Heap.size_push,T.1]
 have k2:∀b o,b≠it->I.get? b=some o->(g1.push { cls:=.type "tuple",data:=.seq #[es[i].key,es[i].val]}).get? b=some o:=fun b o M e=>aD _ ((T.2 b M).trans e);generalize g1.push { cls:=.type "tuple",data:=.seq #[es[i].key,es[i].val]}=g2 at U a2 s2 k2;have il:it<I.objs.size:=aF hit;show wpAny _ _ (Builtin.Dict_items.ownedTupleIsFree (.ref it)>>=_) _ _ ⟨g2,g,dr,Y,os⟩;rw[T.1];unfold Builtin.Dict_items.ownedTupleIsFree;refine aA (aA (aq U rfl (x:=.none) rfl (aC ?_)));simp only[if_true];refine aA (aq U rfl (x:=ok) rfl (aA (aq U rfl (x:=ov) rfl (aA (ao U (by simp) fun g3 z3 m3=>?_)))));refine aA (ao (show IsItemIter g3 it d (i+1) es.size ep es[i].key ov from z3) (by simp) fun g4 z4 m4=>?_);refine aA (ao (show IsItemIter g4 it d (i+1) es.size ep es[i].key es[i].val from z4) (by simp) fun g5 z5 m5=>?_);refine aA (ao (show IsItemIterOut g5 it d (i+1) es.size ep es[i].key es[i].val I.objs.size from z5) (by simp) fun g6 z6 m6=>?_);have up:∀b o,b≠it->g2.get? b=some o->g6.get? b=some o:=fun b o M e=>(m6.2 b M).trans ((m5.2 b M).trans ((m4.2 b M).trans ((m3.2 b M).trans e)));exact aA (wpAny_letGo (aC (aC ⟨_,rfl,wpAny_pure (q g6 z6 (up _ _ (bC il) a2) (by show g6.objs.size=I.objs.size+1;rw[m6.1,m5.1,m4.1,m3.1,s2]) fun b o M e=>up b o M (k2 b o M e))⟩)))
theorem Vh{a:Addr}{f:Bool}{oa:Obj}{Q:Option Value->Shared->Prop}(hit:KdxIt s.heap it d i es.size ep ok ov a f)(ha:s.heap.get? a=some oa)(hai:a≠it)(hm:RD s.heap d es ep)(hi:i<es.size)
 (q:∀h',KdxIt h' it d (i+1) es.size ep ok ov a true->h'.get? s.heap.objs.size=some { cls:=.type "tuple",data:=.seq #[es[i].key,es[i].val]}->h'.objs.size=s.heap.objs.size+1 ->
   (∀b o,b≠it->s.heap.get? b=some o->h'.get? b=some o)->Q (some (.ref s.heap.objs.size)) {s with heap:=h'}):wpAny (model prog w) A (pyNext (.ref it)) Q E s:=by
 obtain⟨I,g,Z,U,os⟩:=s;obtain⟨od,e1,e2,e3⟩:=hm;have M:Shared.TypeIs ⟨I,g,Z,U,os⟩ (.ref it) "dict_itemiterator" := ⟨_,hit,rfl⟩;have own:Builtin.Dict_items.ownsTuple "dict_itemiterator" = true:=by decide
 unfold pyNext;refine aA (wpAny_attempt (au (name:=Str.ofString "__next__") M bJ
  (bA bJ M F.entry_dict_itemiterator_next (aA (aC (aA (aA ?_)))) (F.args_dict_itemiterator_next_1 _))))
 first|refine aA (bG M (aC (aA (bj hit rfl ?_))))|refine aA (bS M (aC (aA (bj hit rfl ?_))))
 simp only[own,if_true];show wpAny _ _ (if(Value.ref d==Value.none)=true then _ else _) _ _ _;rw[if_neg (show ¬((Value.ref d==Value.none)=true) from aM)];refine aA (aC (aA (bf e1 e3 ?_)));rw[if_neg (by simp)];refine aA (aC (aA (wpAny_dictEpoch e1 e3 ?_)));rw[if_neg (by simp)];refine aC ?_;simp only[show ¬((i:Int)<0) from by lia,if_false,Int.toNat_natCast,Array.getElem?_eq_getElem hi];refine aA ?_
 first|refine aA (bG M (aC (aA (bI M ?_))))|refine aA (bS M (aC (aA (bI M ?_))))
 show wpAny _ _ (setField (.ref it) 3 (rawInt ((i:Int)+1))>>=_) _ _ ⟨I,g,Z,U,os⟩;refine aA (ao hit (by simp) fun g1 z1 R=>?_);have R:Heap.SameBut it I g1:=R;have z1:KdxIt g1 it d (i+1) es.size ep ok ov a f:=by
  have e:((i+1:Nat):Int)=(i:Int)+1:=by lia
  unfold KdxIt;rw[e]
  simpa[rawInt]using z1
 have Y:Shared.TypeIs ⟨g1,g,Z,U,os⟩ (.ref it) "dict_itemiterator" := ⟨_,z1,rfl⟩;refine aA (bQ (aA (bI Y (aA (bI Y ?_)))));show wpAny _ _ (Builtin.Dict_items.pairFromOwner (.ref it) 6 es[i].key es[i].val) _ _ ⟨g1,g,Z,U,os⟩;unfold Builtin.Dict_items.pairFromOwner;refine aA (wpAny_newTuple ?_);have T:KdxIt (g1.push { cls:=.type "tuple",data:=.seq #[es[i].key,es[i].val]}) it d (i+1) es.size ep ok ov a f:=aD _ z1;have a2:(g1.push { cls:=.type "tuple",data:=.seq #[es[i].key,es[i].val]}).get? I.objs.size=some { cls:=.type "tuple",data:=.seq #[es[i].key,es[i].val]}:=by rw[<-R.1];exact aU _ rfl
 have s2:(g1.push { cls:=.type "tuple",data:=.seq #[es[i].key,es[i].val]}).objs.size=I.objs.size+1:=by rw[Heap.size_push,R.1]
 have k2:∀b o,b≠it->I.get? b=some o->(g1.push { cls:=.type "tuple",data:=.seq #[es[i].key,es[i].val]}).get? b=some o:=fun b o hb e=>aD _ ((R.2 b hb).trans e);generalize g1.push { cls:=.type "tuple",data:=.seq #[es[i].key,es[i].val]}=g2 at T a2 s2 k2;have il:it<I.objs.size:=aF hit;show wpAny _ _ (Builtin.Dict_items.ownedTupleIsFree (.ref it)>>=_) _ _ ⟨g2,g,Z,U,os⟩;rw[R.1];unfold Builtin.Dict_items.ownedTupleIsFree;refine aA (aA (aq T rfl (x:=rawInt a) rfl ?_));show wpAny _ _ (loadIfAlive ((a:Int).toNat)>>=_) _ _ _;rw[Int.toNat_natCast];refine aA (kdx_alive (k2 a oa hai ha) ?_);simp only[Option.isNone_some,Bool.false_eq_true,if_false];refine aA (aq T rfl (x:=.bool f) rfl ?_);cases f with
 |true=>
  rw[if_neg (show ¬((Value.bool true != Value.bool true)=true) from aM)];refine aC ?_;simp only[Bool.false_eq_true,if_false];exact aC (aC ⟨_,rfl,wpAny_pure (q g2 T a2 s2 k2)⟩)
 |false=>
  rw[if_pos (show(Value.bool false != Value.bool true)=true from rfl)];refine aA (ao T (by simp) fun g3 z3 m3=>aC ?_);simp only[Bool.false_eq_true,if_false];exact aC (aC ⟨_,rfl,wpAny_pure (q g3 z3 ((m3.2 _ (bC il)).trans a2) (by show g3.objs.size=I.objs.size+1;rw[m3.1,s2]) fun b o hb e=>(m3.2 b hb).trans (k2 b o hb e))⟩)
theorem next_end{x0 U:Value}{Q:Option Value->Shared->Prop}(Y:A.handled=none)(hit:s.heap.get? it=some { cls:=.type "dict_itemiterator",dict:=none,data:=.fields #[x0,U,.ref d,.int i 0,.int es.size 0,.int ep 0,ok,ov],slots:=#[]})(hm:RD s.heap d es ep)(hi:es.size<=i)
 (q:∀h',Heap.ExtBut it s.heap h'->Q none {s with heap:=h'}):wpAny (model prog w) A (pyNext (.ref it)) Q E s:=by
 obtain⟨od,R,Z,M⟩:=hm;have I:s.TypeIs (.ref it) "dict_itemiterator" := ⟨_,hit,rfl⟩;have own:Builtin.Dict_items.ownsTuple "dict_itemiterator" = true:=by decide
 unfold pyNext;refine aA (wpAny_attempt (au (name:=Str.ofString "__next__") I bJ
  (bA bJ I F.entry_dict_itemiterator_next (aA (aC (aA (aA ?_)))) (F.args_dict_itemiterator_next_1 _))))
 first|refine aA (bG I (aC (aA (bj hit rfl ?_))))|refine aA (bS I (aC (aA (bj hit rfl ?_))))
 simp only[own,if_true];show wpAny _ _ (if(Value.ref d==Value.none)=true then _ else _) _ _ _;rw[if_neg (show ¬((Value.ref d==Value.none)=true) from aM)];refine aA (aC (aA (bf R M ?_)));rw[if_neg (by simp)];refine aA (aC (aA (wpAny_dictEpoch R M ?_)));rw[if_neg (by simp)];refine aC ?_;simp only[show ¬((i:Int)<0) from by lia,if_false,Int.toNat_natCast,Array.getElem?_eq_none hi];refine aA ?_
 first|refine aA (bG I (aC ?_))|refine aA (bS I (aC ?_))
 show wpAny _ _ (setField (.ref it) 2 .none>>=_) _ _ s;refine aA (wpAny_setField hit rfl (by simp) ?_);show wpAny _ _ (newExc (.type "StopIteration") []>>=_) _ _ _;simp only[newExc,newTuple];refine aA (aA (aZ ?_ (by size_fits)));refine aA (m:=firstArgMember _ _) (wpAny_of_eq (a:=Value.none) (by first|rfl|(simp only[firstArgMember];rfl)) (aZ ?_ (by size_fits)));simp only[raiseNew];refine aA (wpAny_handled ?_);rw[show A.in1.handled=none from Y];refine aA (aC (wpAny_throw ?_));refine aA (wpAny_isInstance (T := "StopIteration") (b:=true) ⟨_,Heap.get?_push_size _ rfl,rfl⟩ isSubtype_stop (aC (q _ ?_)));exact((bK ..).extBut.push _).push _
theorem St.keep{h h':Heap}{S:Addr}{n:Nat}(x:St h it d S i n ep)(k:∀b o,b≠S->h.get? b=some o->h'.get? b=some o)(R:it≠S):St h' it d S i n ep:=by
 rcases x with ⟨e,ok,ov,hit⟩|⟨ok,ov,a,f,T,hit,ha,M,I⟩
 .exact .inl ⟨e,ok,ov,k _ _ R hit⟩
 .exact .inr ⟨ok,ov,a,f,T,k _ _ R hit,k _ _ I ha,M,I⟩
theorem next_item{S:Addr}{Q:Option Value->Shared->Prop}(st:St s.heap it d S i es.size ep)(hS:S<s.heap.objs.size)(hm:RD s.heap d es ep)(hi:i<es.size)
 (q:∀h',St h' it d S (i+1) es.size ep->h'.get? s.heap.objs.size=some { cls:=.type "tuple",data:=.seq #[es[i].key,es[i].val]}->h'.objs.size=s.heap.objs.size+1 ->
   (∀b o,b≠it->s.heap.get? b=some o->h'.get? b=some o)->Q (some (.ref s.heap.objs.size)) {s with heap:=h'}):wpAny (model prog w) A (pyNext (.ref it)) Q E s:=by
 rcases st with ⟨rfl,ok,ov,hit⟩|⟨ok,ov,a,f,Z,hit,ha,I,Y⟩
 .exact VD hit hm hi fun h' U R T M=>q h' (.inr ⟨_,_,_,false,_,U,R,Nat.ne_of_gt (aF hit),Nat.ne_of_gt hS⟩) R T M
 .exact Vh hit ha I hm hi fun h' U R T M=>q h' (.inr ⟨ok,ov,a,true,Z,U,M a Z I ha,I,Y⟩) R T M
theorem Wq{S:Addr}{Q:Option Value->Shared->Prop}(I:A.handled=none)(st:St s.heap it d S es.size es.size ep)(hm:RD s.heap d es ep)
 (q:∀h',Heap.ExtBut it s.heap h'->Q none {s with heap:=h'}):wpAny (model prog w) A (pyNext (.ref it)) Q E s:=by
 rcases st with ⟨e,ok,ov,hit⟩|⟨ok,ov,a,f,M,hit,_⟩
 .rw[<-e]at hit;exact next_end (i:=es.size) I hit hm (aG _) q
 .exact next_end I hit hm (aG _) q
def Made(es:Array DictEntry)(lo:Addr)(h:Heap)(as:List Addr):Prop:=∀(j:Nat) (a:Addr),as[j]? = some a->lo<a/\∃e,es[j]? = some e/\h.get? a=some { cls:=.type "tuple",data:=.seq #[e.key,e.val]}
theorem loop{R:Result->Shared->Prop}{S I:Addr}(hh:A.handled=none)(hSI:S<I)(hSd:d≠S)(hId:d≠I)(hn:es.size<=sizeLine)(res:Value){h1:Heap}
 (hR:∀h' tk M c as,(∀b o,b≠S->b≠I->h1.get? b=some o->h'.get? b=some o)->h'.get? S=some { cls:=.type "list",dict:=none,data:=.seq M c,slots:=#[]}->as.length=es.size->Made es I h' as->M.toList=as.map Value.ref->R (.ok (.ret res)) {s with heap:=h',toks:=tk}) :
  ∀(k i:Nat) (h:Heap) (tk c:Nat) (M:Array Value) (as:List Addr),es.size-i=k->i<=es.size->St h I d S i es.size ep->RD h d es ep->(∀b o,b≠S->b≠I->h1.get? b=some o->h.get? b=some o) ->
   h.get? S=some { cls:=.type "list",dict:=none,data:=.seq M c,slots:=#[]}->M.toList=as.map Value.ref->as.length=i->Made es I h as->I<h.objs.size ->
   codeAny (model prog w) A (.builtin "list.extend.loop" ⟨[.ref S,.ref I,res],[]⟩) R {s with heap:=h,toks:=tk}:=by
 have ne:S≠I:=aO hSI;intro k
 induction k with
 |zero=>
  intro i h tk c M as hk hi st hD kp hS ha hl hG hIs;have hin:i=es.size:=by lia
  subst hin;refine codeAny_builtin PySem.F.entry_extend_loop ?_;rw[Around.under_plainId ba _];show wpAny _ A.in1 (pyNext (.ref I)>>=_) _ _ _;refine aA (Wq (s:={s with heap:=h,toks:=tk}) (A:=A.in1) hh st hD fun h' he=>aC (hR h' tk M c as (fun b o T U e=>he b o U (kp b o T U e)) (he S _ ne hS) hl (fun j a Z=>?_) ha));obtain⟨T,e,U,r3⟩:=hG j a Z;exact⟨T,e,U,he a _ (bC T) r3⟩
 |succ k ih=>
  intro i h tk c M as hk hi st hD kp hS ha hl hG hIs;have hlt:i<es.size:=by lia
  have hsz:M.size=i:=by rw[<-Array.length_toList,ha,List.length_map,hl]
  refine codeAny_builtin PySem.F.entry_extend_loop ?_;rw[Around.under_plainId ba _];show wpAny _ A.in1 (pyNext (.ref I)>>=_) _ _ _;refine aA (next_item (s:={s with heap:=h,toks:=tk}) (S:=S) st (aF hS) hD hlt fun h' st' ht hz Y=>?_);dsimp only at ht hz Y ⊢;have hS':=Y S _ ne hS;have up:∀b o,b≠S->h'.get? b=some o->(h'.update S (Obj.mapSeq (·.push (Value.ref h.objs.size)))).get? b=some o:=fun b o hb e=>(Heap.get?_update_other _ _ (Ne.symm hb)).trans e;have hSl:S<h.objs.size:=aF hS;have hT:=up _ _ (bC hSl) ht;show wpAny _ A.in1 (updateSeq S (·.push (Value.ref h.objs.size))>>=_) _ _ _;refine aA (wpAny_updateSeq hS' rfl (aC ⟨plainId_quiet ba _,ih (i+1) _ tk _ (M.push (Value.ref h.objs.size)) (as++[h.objs.size]) (by lia) hlt (st'.keep up (Ne.symm ne)) ?_ (fun b o T U e=>up b o T (Y b o U (kp b o T U e)))
   (Heap.get?_update_self _ hS' rfl) (by rw[Array.toList_push,ha,List.map_append];rfl) (by rw[List.length_append,hl];rfl) (fun j b Z=>?_) (Nat.lt_trans hIs (aF hT))⟩) (by rw[hsz];lia) (by show(M.push (Value.ref h.objs.size)).size<=sizeLine+1;rw[Array.size_push,hsz];lia))
  .obtain⟨o,T,U⟩:=hD;exact⟨o,up d o hSd (Y d o hId T),U⟩
  .by_cases hj1:j<as.length
   .rw[List.getElem?_append_left hj1]at Z;obtain⟨T,e,U,r3⟩:=hG j b Z;exact⟨T,e,U,up b _ (bC (Nat.lt_trans hSI T)) (Y b _ (bC T) r3)⟩
   .rw[List.getElem?_append_right (by lia)]at Z;have hj0:j-as.length=0:=by
     have:=(aB.mp Z).1;simp at this
     lia
    rw[hj0]at Z;have hb:h.objs.size=b:=by simpa using Z
    subst hb;have hji:j=i:=by lia
    subst hji;exact⟨hIs,_,Array.getElem?_eq_getElem hlt,hT⟩
theorem iter{v:Addr}{Q:Value->Shared->Prop}(I:s.heap.IsItemsView v d)(hm:RD s.heap d es ep)
 (q:Q (.ref s.heap.objs.size) {s with heap:=s.heap.push { cls:=.type "dict_itemiterator",data:=.fields #[.none,.bool false,.ref d,.int 0 0,.int es.size 0,.int ep 0,.none,.none]} }):wpAny (model prog w) A (pyIter (.ref v)) Q E s:=by
 obtain⟨Z,U,Y,T⟩:=id I;obtain⟨od,R,e2,M⟩:=hm;have own:Builtin.Dict_items.ownsTuple "dict_itemiterator" = true:=by decide
 refine wpAny_pyIter_slot I.typeIs F.slot_dict_items_iter (bA F.slot_dict_items_iter I.typeIs F.entry_dict_items_iter ?_ (F.args_dict_items_iter_1 _));unfold Builtin.«dict_items.__iter__»;refine aA (aC (aA ?_));unfold Builtin.Dict_items.dictOf;refine aA (aq U T (x:=.ref d) rfl (aC (aA ?_)));unfold Builtin.Dict_items.newIterator;refine aA (bf R M (aA (wpAny_dictEpoch R M ?_)));simp only[own,if_true];refine aZ (aC ⟨_,rfl, "dict_itemiterator",_,⟨_,Heap.get?_push_size _ rfl,rfl⟩,F.slot_dict_itemiterator_next.lookup,?_⟩)
  (by simp only[sizeOk,Builtin.Dict_items.ownedTupleFields,List.size_toArray,List.length_append,List.length_cons,List.length_nil,sizeLine_eq];lia)
 simpa[rawInt,Builtin.Dict_items.ownedTupleFields]using q
theorem extend{R:Result->Shared->Prop}{v:Addr}(hh:A.handled=none)(hv:s.heap.IsItemsView v d)(hm:RD s.heap d es ep)(S:Addr)(hSv:S≠v)(U:d≠S)(res:Value)(c0:Nat)(hS:s.heap.get? S=some { cls:=.type "list",data:=.seq #[] c0})
 (hR:∀h' tk I c as,(∀b o,b≠S->s.heap.get? b=some o->h'.get? b=some o)->h'.get? S=some { cls:=.type "list",dict:=none,data:=.seq I c,slots:=#[]}->as.length=es.size->Made es s.heap.objs.size h' as->I.toList=as.map Value.ref->R (.ok (.ret res)) {s with heap:=h',toks:=tk})(hn:es.size<=sizeLine) :
  wpAny (model prog w) A.in1 (Builtin.List.listExtendWith (.ref S) (.ref v) res) (fun fin s'=>match fin with|.done f=>R (.ok f) s'|.again c'=>c'.quiet=true/\codeAny (model prog w) A c' R s') (fun e s'=>R (.error e) s') s:=by
 have Y:S<s.heap.objs.size:=aF hS;have hdI:d<s.heap.objs.size:=by obtain⟨o,e,_⟩:=hm;exact aF e
 have go:∀(h:Heap) (c1 tk:Nat),(∀b o,b≠S->(s.heap.push { cls:=.type "dict_itemiterator",data:=.fields #[.none,.bool false,.ref d,.int 0 0,.int es.size 0,.int ep 0,.none,.none]}).get? b=some o->h.get? b=some o) ->
   h.get? S=some { cls:=.type "list",data:=.seq #[] c1}->codeAny (model prog w) A (.builtin "list.extend.loop" ⟨[.ref S,.ref s.heap.objs.size,res],[]⟩) R {s with heap:=h,toks:=tk}:=fun h c1 tk hk hS1=>by
  have hI:=hk s.heap.objs.size _ (bC Y) (aU _ rfl);refine loop (h1:=s.heap) (ep:=ep) hh Y U (aO hdI) hn res (fun h' Z I c as r1 r2 r3 r4 r5=>hR h' Z I c as (fun b o M e=>r1 b o M (aO (aF e)) e) r2 r3 r4 r5) es.size 0 h tk c1 #[] [] (Nat.sub_zero _) (ar _)
   (.inl ⟨rfl,.none,.none,hI⟩) ?_ (fun b o M _ e=>hk b o M (aD _ e)) hS1 rfl rfl (fun j a hj=>by simp at hj) (aF hI)
  obtain⟨o,e,r⟩:=hm;exact⟨o,hk d o U (aD _ e),r⟩
 unfold Builtin.List.listExtendWith;refine aA (wpAny_typeOf (T := "dict_items") hv.typeIs ?_);have t1:Builtin.List.listSameRef (.ref S) (.ref v)=false:=by simp[Builtin.List.listSameRef,hSv]
 have t2:(Value.type "dict_items" == Value.type "list")=false:=by decide
 have t3:(Value.type "dict_items" == Value.type "tuple")=false:=by decide
 simp only[t1,t2,t3,Bool.or_false,Bool.false_eq_true,if_false];refine aA (iter hv hm ?_);have g1:=aD { cls:=.type "dict_itemiterator",data:=.fields #[.none,.bool false,.ref d,.int 0 0,.int es.size 0,.int ep 0,.none,.none]} hS;refine aA (bQ (kdx_hint (let⟨o,ho,hc,_⟩:=hv;⟨o,Heap.get?_push_of_some _ ho,hc⟩) ?_));refine wpAny_ite_split (fun _=>?_) (fun _=>aC ⟨plainId_quiet ba _,go _ c0 _ (fun b o _ e=>e) g1⟩);refine aA (wpAny_rule (aA ?_));show wpAny _ _ (updateSeq S (·.push .none)>>=fun _=>updateSeq S (·.pop)) _ _ _;refine aA (wpAny_updateSeq g1 rfl ?_);have g2:=Heap.get?_update_self (Obj.mapSeq (·.push Value.none)) g1 rfl;refine wpAny_updateSeq (hz:=by seq_fits) g2 rfl ?_;have g3:=Heap.get?_update_self (Obj.mapSeq (·.pop)) g2 rfl;exact aC ⟨plainId_quiet ba _,go _ _ _ (fun b o M e=>(Heap.get?_update_other _ _ (Ne.symm M)).trans ((Heap.get?_update_other _ _ (Ne.symm M)).trans e)) g3⟩
theorem gather{R:List Value->Shared->Prop}{v:Addr}(hh:A.handled=none)(Z:s.heap.IsItemsView v d)(hm:RD s.heap d es ep)(hn:es.size<=sizeLine)
 (k:∀(h1:Heap) (tk:Nat) (as:List Addr),s.heap.objs.size<h1.objs.size->(∀b u,s.heap.get? b=some u->h1.get? b=some u)->as.length=es.size->Made es s.heap.objs.size h1 as->R (as.map Value.ref) {s with heap:=h1,toks:=tk}) :
  wpAny (model prog w) A (collect (.ref v)) R E s:=by
 have lv:v<s.heap.objs.size:=by obtain⟨o,e,_⟩:=Z;exact aF e
 have ld:d<s.heap.objs.size:=by obtain⟨o,e,_⟩:=hm;exact aF e
 unfold collect;refine aA (wpAny_runValue (codeAny_builtin entry_proto_collect' ?_));rw[Around.under_plainId PySem.F.plain_proto_collect _];show wpAny _ A.in1 (newList []>>=fun x=>again (.builtin "list.__iadd__" ⟨[x,.ref v],[]⟩)) _ _ s;refine aA (aZ (aC ⟨plainId_quiet PySem.F.plain_list_iadd _,codeAny_builtin entry_list_iadd' ?_⟩));rw[Around.under_plainId PySem.F.plain_list_iadd _];have g0:(s.heap.push { cls:=.type "list",data:=.seq ([]:List Value).toArray}).get? s.heap.objs.size=some { cls:=.type "list",data:=.seq #[]}:=aU _ rfl;have Y:(s.heap.push { cls:=.type "list",data:=.seq ([]:List Value).toArray}).objs.size=s.heap.objs.size+1:=Heap.size_push ..;have main:=extend (prog:=prog) (w:=w) (A:=A) (s:={s with heap:=s.heap.push { cls:=.type "list",data:=.seq ([]:List Value).toArray} }) (es:=es) (ep:=ep) hh (v:=v) (d:=d) (by obtain⟨o,e,r⟩:=Z;exact⟨o,Heap.get?_push_of_some _ e,r⟩) (by obtain⟨o,e,r⟩:=hm;exact⟨o,Heap.get?_push_of_some _ e,r⟩)
  s.heap.objs.size (bC lv) (aO ld) (.ref s.heap.objs.size) 0 g0
  (R:=fun q s1=>∃h1 tk I c as,q=.ok (.ret (.ref s.heap.objs.size))/\s1={s with heap:=h1,toks:=tk}/\(∀b u,s.heap.get? b=some u->h1.get? b=some u)/\h1.get? s.heap.objs.size=some { cls:=.type "list",dict:=none,data:=.seq I c,slots:=#[]}/\as.length=es.size/\Made es s.heap.objs.size h1 as/\I.toList=as.map Value.ref)
  (fun h1 tk I c as M g1 T U ha=>⟨h1,tk,I,c,as,rfl,rfl,fun b u e=>M b u (aO (aF e)) (aD _ e),g1,T,fun j a hj=>by
   obtain⟨r1,r2⟩:=U j a hj;exact⟨Nat.lt_trans (by show s.heap.objs.size<(s.heap.push _).objs.size;rw[Y];exact Nat.lt_succ_self _) r1,r2⟩,ha⟩) hn
 refine aj main (fun fin s1 x=>?_) fun e s1 x=>?_
 .cases fin with
  |done f=>
   obtain⟨h1,tk,I,c,as,e,rfl,M,g1,T,U,ha⟩:=x;cases e;show wpAny _ A (load s.heap.objs.size>>=_) _ _ _;refine aA (wpAny_load g1 (aC ?_));show R I.toList _;rw[ha];exact k h1 tk as (aF g1) M T U
  |again c1=>
   refine⟨x.1,codeAny_mono x.2 fun q s2 y=>?_⟩;obtain⟨h1,tk,I,c,as,rfl,rfl,M,g1,T,U,ha⟩:=y;show wpAny _ A (load s.heap.objs.size>>=_) _ _ _;refine aA (wpAny_load g1 (aC ?_));show R I.toList _;rw[ha];exact k h1 tk as (aF g1) M T U
 .obtain⟨_,_,_,_,_,e,_⟩:=x;cases e
end
end DI
namespace IT
open PySem PySem.W PyProof.Rows PySem.SeqAt
def lt:List Int->List Int->Bool
 |[],[]=>false
 |[],_::_=>true
 |_::_,[]=>false
 |a::r,b::q=>if a=b then lt r q else decide (a<b)
theorem lt_irrefl:∀a,lt a a=false
 |[]=>rfl
 |a::r=>by rw[lt,if_pos rfl,lt_irrefl r]
theorem lt_trans:∀a b c,lt a b=true->lt b c=true->lt a c=true
 |[],[],_,h,_=>by cases h
 |[],_::_,[],_,h=>by cases h
 |[],_::_,_::_,_,_=>rfl
 |_::_,[],_,h,_=>by cases h
 |_::_,_::_,[],_,h=>by cases h
 |a::r,b::q,c::p,h,k=>by
  rw[lt]at h k ⊢;by_cases M:a=b
  .subst M;rw[if_pos rfl]at h;by_cases I:a=c
   .rw[if_pos I]at k ⊢;exact lt_trans r q p h k
   .rw[if_neg I]at k ⊢;exact k
  .rw[if_neg M]at h;have h:=ae h;by_cases I:b=c
   .subst I;rw[if_neg M];exact bT h
   .rw[if_neg I]at k;have k:=ae k;rw[if_neg (by lia)];exact bT (by lia)
theorem Kt:∀a b,lt a b=false->lt b a=false->a=b
 |[],[],_,_=>rfl
 |[],_::_,h,_=>by cases h
 |_::_,[],_,h=>by cases h
 |a::r,b::q,h,k=>by
  rw[lt]at h k;by_cases e:a=b
  .subst e;rw[if_pos rfl]at h k;rw[Kt r q h k]
  .rw[if_neg e]at h;rw[if_neg (Ne.symm e)]at k;have h:=bH h;have k:=bH k
   lia
def Is:List Int->List Value->Prop
 |[],us=>us=[]
 |k::r,us=>∃t rest,us=.int k t::rest/\Is r rest
theorem Is.length:∀ {ks:List Int} {us:List Value},Is ks us->us.length=ks.length
 |[],us,h=>by rw[Is]at h;subst h;rfl
 |k::r,us,h=>by
  rw[Is]at h;obtain⟨t,rest,rfl,h⟩:=h;rw[List.length_cons,List.length_cons,Is.length h]
theorem Is.inj:∀ {ks R:List Int} {us:List Value},Is ks us->Is R us->ks=R
 |[],[],_,_,_=>rfl
 |[],_::_,us,h,k=>by
  simp only[Is]at h k;subst h;obtain⟨t,rest,e,_⟩:=k;cases e
 |_::_,[],us,h,k=>by
  simp only[Is]at h k;subst k;obtain⟨t,rest,e,_⟩:=h;cases e
 |a::r,b::q,us,h,k=>by
  rw[Is]at h k;obtain⟨t,rest,rfl,h⟩:=h;obtain⟨U,I,e,k⟩:=k
  injection e with M T
  injection M with M Y
  subst M T;rw[Is.inj h k]
theorem Is.get:∀ {ks:List Int} {us:List Value} {j:Nat},Is ks us->(h:j<us.length)->∃k t,ks[j]? = some k/\us[j]=.int k t
 |[],us,j,h,I=>by rw[Is]at h;subst h;exact absurd I (Nat.not_lt_zero _)
 |k::r,us,j,h,I=>by
  rw[Is]at h;obtain⟨t,rest,rfl,h⟩:=h;cases j with
  |zero=>exact⟨k,t,rfl,rfl⟩
  |succ j=>
   obtain⟨R,M,U,T⟩:=Is.get (j:=j) h (by simpa using I);exact⟨R,M,by simpa using U,by simpa using T⟩
theorem Yl{h:Heap}{a:Addr}{x y:Array Value}(h1:h.IsTuple a x)(R:h.IsTuple a y):x=y:=by
 obtain⟨o,T,_,n,U⟩:=h1;obtain⟨o',I,_,Y,M⟩:=R;rw[T]at I;cases I;rw[U]at M;cases M
 rfl
theorem jO{s:Shared}{ks M:List Int}{A:Around}{a b:Addr}{I its':List Value}(h1:s.heap.IsTuple a I.toArray)(Y:Is ks I)(h2:s.heap.IsTuple b its'.toArray)(U:Is M its')(hu:A.units<cLine) :
  RcAt A s (.ref a) (.ref b) (decide (ks=M)):=by
 have key:=RcAt.tuples (s:=s) (A:=A) (e:=fun j=>decide (ks[j]? = M[j]?)) h1 h2 hu fun j x1 x2=>by
  obtain⟨x,t,q1,q2⟩:=Y.get (j:=j) (by simpa using x1);obtain⟨y,u,q3,q4⟩:=U.get (j:=j) (by simpa using x2);have e:decide (ks[j]? = M[j]?)=(x==y):=by
   rw[q1,q3];by_cases R:x=y
   .subst R;simp
   .rw[decide_eq_false (by simpa using R)];simp[R]
  rw[e];have:=EqAt.int_int (A:=A.in1) (s:=s) x t y u
  simpa[q2,q4]using this
 have ev:((List.range (min I.toArray.size its'.toArray.size)).all (fun j=>decide (ks[j]? = M[j]?))&&I.toArray.size==its'.toArray.size)=decide (ks=M):=by
  have z1:I.toArray.size=ks.length:=by rw[<-Y.length];simp
  have Z:its'.toArray.size=M.length:=by rw[<-U.length];simp
  rw[z1,Z];by_cases T:ks=M
  .subst T;simp
  .rw[decide_eq_false T];cases hl:ks.length==M.length with
   |false=>rw[Bool.and_false]
   |true=>
    rw[Bool.and_true];have hl':ks.length=M.length:=by simpa using hl
    refine af.mpr fun z=>T (List.ext_getElem? fun i=>?_);by_cases hi:i<ks.length
    .have:=List.all_eq_true.mp z i (av.mpr (by lia))
     simpa using this
    .rw[List.getElem?_eq_none (by lia),List.getElem?_eq_none (by lia)]
 rw[ev]at key;exact key
theorem fh{s:Shared}{ks T:List Int}{A:Around}{a b:Addr}{I its':List Value}(h1:s.heap.IsTuple a I.toArray)(R:Is ks I)(U:s.heap.IsTuple b its'.toArray)(M:Is T its')(Z:A.units<cLine) :
  EqAt A s (.ref a) (.ref b) (decide (ks=T)):=by
 by_cases Y:a=b
 .subst Y;have e2:I=its':=by simpa using Yl h1 U
  subst e2;rw[R.inj M,decide_eq_true rfl];exact EqAt.same _
 .exact EqAt.of_refs Y (jO h1 R U M Z)
section
open PySem.AutoSeq1 (wpAny_loadPart')
open PySem.MeetsSeq PySem.MeetsSeq2 PySem.MeetsSeq3
theorem YW(l b:Addr)(items I:Array Value)(n n2:Nat)(dd dd2:Option Addr)(sl sl2:Array (Option Value))(t u:List Int) :
  Meets (Builtin.«tuple.__lt__» ⟨[.ref l,.ref b],[]⟩)
   (fun A R s=>s.heap.get? l=some { cls:=.type "tuple",dict:=dd,data:=.seq items n,slots:=sl}/\s.heap.get? b=some { cls:=.type "tuple",dict:=dd2,data:=.seq I n2,slots:=sl2} /\
    Is t items.toList/\Is u I.toList/\A.units<cLine/\R (.ok (.ret (.bool (lt t u)))) s) :=
 .of_wp fun prog w A R s h=>by
  obtain⟨hp,g,d,tk,os⟩:=s;obtain⟨hl,hb,hi,hj,hun,h⟩:=h;have f2:=AutoSeq1.sub_tuple_tuple;have z1:items.size=t.length:=by rw[<-Is.length hi];simp
  have z2:I.size=u.length:=by rw[<-Is.length hj];simp
  wp_walk using wpAny_loadPart' hl,wpAny_loadPart' hb,wpAny_forIn_list _ (fun rest b s'=>b.1=none/\s'=⟨hp,g,d,tk,os⟩/\∃(vs ws:List Value) (t' Y:List Int),rest=vs.zip ws /\
   Is t' vs/\Is Y ws/\t'.length+I.size=Y.length+items.size/\R (.ok (.ret (.bool (lt t' Y)))) ⟨hp,g,d,tk,os⟩) _
  case turn=>
   rintro⟨y,x⟩ rest b s' ⟨hb',rfl,vs,ws,t',Y,Z,U,T,M,hR⟩;cases t' with
   |nil=>rw[Is]at U;subst U;rw[List.zip_nil_left]at Z;cases Z
   |cons bt rt=>
    cases Y with
    |nil=>rw[Is]at T;subst T;rw[List.zip_nil_right]at Z;cases Z
    |cons bu ru=>
     rw[Is]at U T;obtain⟨a1,v1,rfl,p3⟩:=U;obtain⟨a2,v2,rfl,q3⟩:=T;rw[List.zip_cons_cons]at Z
     injection Z with hyx hrest
     injection hyx with hy hx
     subst hy hx;rw[lt]at hR;simp only[List.length_cons]at M;have he:=EqAt.int_int (A:=A.in1) (s:=⟨hp,g,d,tk,os⟩) bt a1 bu a2;refine aA (he prog w _ _ ?_);by_cases hc:bt=bu
     .rw[if_pos hc]at hR;rw[beq_iff_eq.mpr hc]
      wp_walk
      exact⟨rfl,rfl,_,_,_,_,hrest,p3,q3,by lia,hR⟩
     .rw[if_neg hc]at hR;rw[beq_eq_false_iff_ne.mpr hc];have hri:∀(E:Value->Shared->Prop) (Q:Value->Shared->Prop),Q (.bool (decide (bt<bu))) ⟨hp,g,d,tk,os⟩->wpAny (model prog w) A.in1 (richCompare .Lt (.int bt a1) (.int bu a2)) Q E ⟨hp,g,d,tk,os⟩:=fun E Q h=>wpAny_lt_int h
      wp_walk using hri
      exact⟨_,rfl,by simpa using hR⟩
  case fin=>
   rintro⟨b1,b2⟩ s' ⟨hb',rfl,vs,ws,t',Y,Z,U,T,M,hR⟩;simp only at hb';subst hb';have hv:lt t' Y=decide (items.size<I.size):=by
    cases t' with
    |nil=>
     cases Y with
     |nil=>
      simp only[List.length_nil]at M;exact(bR (by lia)).symm
     |cons c q=>
      simp only[List.length_cons,List.length_nil]at M;exact(bT (by lia)).symm
    |cons bt rt=>
     cases Y with
     |nil=>
      simp only[List.length_cons,List.length_nil]at M;exact(bR (by lia)).symm
     |cons c q=>
      rw[Is]at U T;obtain⟨_,_,rfl,_⟩:=U;obtain⟨_,_,rfl,_⟩:=T;rw[List.zip_cons_cons]at Z;cases Z
   rw[hv]at hR
   wp_walk
   exact⟨_,rfl,by simpa[Builtin.Tuple.tupleCompareSizes]using hR⟩
  case h=>
   exact⟨rfl,rfl,items.toList,I.toList,t,u,rfl,hi,hj,by lia,h⟩
end
end IT
namespace IT
open PySem PySem.W PyProof.Rows PySem.SeqAt
section
open PySem.MeetsSeq PySem.MeetsSeq2 PySem.MeetsSeq3
variable{prog:Program}{w:World}{A:Around}{E:Value->Shared->Prop}{s:Shared}{t u:List Int}{a b:Addr}{its its':List Value}
theorem iH{Q:Value->Shared->Prop}(h1:s.heap.IsTuple a its.toArray)(k1:Is t its)(h2:s.heap.IsTuple b its'.toArray)(k2:Is u its')(hu:A.units+1<cLine)(h:Q (.bool (lt t u)) s):wpAny (model prog w) A (richCompare .Lt (.ref a) (.ref b)) Q E s:=by
 obtain⟨⟨cls,dd,data,sl⟩,Z,hc,n,R⟩:=id h1;obtain⟨⟨cls2,Y,data2,U⟩,M,T,n2,I⟩:=id h2;simp only at hc R T I;subst hc R T I;exact richCompare_meets_room (op:=.Lt) ⟨_,Z,rfl⟩ ⟨_,M,rfl⟩ PySem.F.slot_tuple_lt PySem.F.entry_tuple_lt (PySem.F.args_tuple_lt_2 _ _) (YW a b its.toArray its'.toArray n n2 dd Y sl U t u)
  ⟨Z,M,by simpa using k1,by simpa using k2,by lia,show Value.bool (lt t u)≠Value.notImplemented/\Q (.bool (lt t u)) s from⟨(fun x=>nomatch x),h⟩⟩ (by lia)
theorem UA{Q:Bool->Shared->Prop}(h1:s.heap.IsTuple a its.toArray)(M:Is t its)(T:s.heap.IsTuple b its'.toArray)(I:Is u its')(R:A.units+1<cLine)(h:Q (lt t u) s):wpAny (model prog w) A (oneLt' false (.ref a) (.ref b)) Q E s:=by
 rw[oneLt'_eq];simp only[Bool.false_eq_true,if_false];exact aA (iH h1 M T I R (bc h))
end
abbrev Tm:=List Int×List Int
def GD(x y:Tm):Bool:=if x.1=y.1 then lt x.2 y.2 else lt x.1 y.1
theorem U5(x:Tm):GD x x=false:=by unfold GD;rw[if_pos rfl,lt_irrefl]
theorem QG(x y:Tm)(h:GD x y=false)(k:GD y x=false):x=y:=by
 unfold GD at h k;by_cases e:x.1=y.1
 .rw[if_pos e]at h;rw[if_pos e.symm]at k;exact Prod.ext e (Kt _ _ h k)
 .rw[if_neg e]at h;rw[if_neg (Ne.symm e)]at k;exact absurd (Kt _ _ h k) e
theorem QH(x y z:Tm)(h:GD x y=true)(k:GD y z=true):GD x z=true:=by
 unfold GD at h k ⊢;by_cases M:x.1=y.1
 .rw[if_pos M]at h;by_cases I:y.1=z.1
  .rw[if_pos I]at k;rw[if_pos (M.trans I)];exact lt_trans _ _ _ h k
  .rw[if_neg I]at k;rw[if_neg (fun q=>I (M.symm.trans q)),M];exact k
 .rw[if_neg M]at h;by_cases I:y.1=z.1
  .rw[if_neg (fun q=>M (q.trans I.symm)),<-I];exact h
  .rw[if_neg I]at k;have:=lt_trans _ _ _ h k;rw[if_neg (fun q=>by rw[q,lt_irrefl]at this;cases this)];exact this
theorem Ro(a b c:Tm)(h:GD a c=true):GD a b=true\/GD b c=true:=by
 cases k:GD a b with
 |true=>exact .inl rfl
 |false=>
  right
  cases m:GD b c with
  |true=>rfl
  |false=>
   cases n:GD b a with
   |true=>have:=QH b a c n h;rw[m]at this;cases this
   |false=>have:=QG a b k n;subst this;rw[m]at h;cases h
def JT:KeyOrd where
 α:=Tm
 blt:=GD
 irrefl:=U5
 trans:=QH
 negTrans:=Ro
 total:=QG
def Jf(h:Heap)(k:Tm)(v:Value):Prop:=∃(a b c:Addr) (M I:List Value),v=.ref a/\h.IsTuple a [.ref b,.ref c].toArray/\h.IsTuple b M.toArray/\Is k.1 M/\h.IsTuple c I.toArray/\Is k.2 I
theorem Jf.ext{h h':Heap}(e:GS.Ext h h'){k:Tm}{v:Value}(x:Jf h k v):Jf h' k v:=by
 obtain⟨a,b,c,i1,i2,rfl,U,T,R,M,I⟩:=x;exact⟨a,b,c,i1,i2,rfl,TH.O9 e U,TH.O9 e T,R,TH.O9 e M,I⟩
section
open PySem.MeetsSeq PySem.MeetsSeq2 PySem.MeetsSeq3
variable{prog:Program}{w:World}{A:Around}{E:Value->Shared->Prop}{s:Shared}
theorem YB{x y:Tm}{u v:Value}{Q:Bool->Shared->Prop}(h1:Jf s.heap x u)(h2:Jf s.heap y v)(hu:A.units+2<cLine)(h:Q (GD x y) s):wpAny (model prog w) A (keyLt' (tuples' false) u v) Q E s:=by
 obtain⟨a,b,l,i1,i2,rfl,k1,k2,k3,k4,k5⟩:=h1;obtain⟨a',b',l',j1,j2,rfl,m1,Z,Y,m4,U⟩:=h2;obtain⟨o,ho,hc,n,hd⟩:=id k1;obtain⟨o2,M,hc2,n2,R⟩:=id m1;refine kat_lt ho hd M R ?_;unfold GD at h;show KatLex prog w A false (decide (2<2)) Q [(.ref b,.ref b'),(.ref l,.ref l')] 0 s;refine kat_cons (fh k2 k3 Z Y (by lia) prog w _ _ ?_);by_cases I:x.1=y.1
 .rw[decide_eq_true I];rw[if_pos I]at h;refine kat_yes (kat_cons (fh k4 k5 m4 U (by lia) prog w _ _ ?_));by_cases T:x.2=y.2
  .rw[decide_eq_true T];rw[T,lt_irrefl]at h;exact kat_yes (kat_nil h)
  .rw[decide_eq_false T];exact kat_no (by rw[Bool.false_and];exact UA k4 k5 m4 U (by lia) h)
 .rw[decide_eq_false I];rw[if_neg I]at h;exact kat_no (by rw[Bool.false_and];exact UA k2 k3 Z Y (by lia) h)
theorem Jf.tt{h:Heap}{x:Tm}{v:Value}(z:Jf h x v):TH.RL h v:=by
 obtain⟨a,b,l,i1,i2,rfl,M,I,U,T,R⟩:=z;exact⟨a,b,_,[.ref l],rfl,M,I⟩
theorem YY{h0:Heap}{ks:List Tm}{us:List Value}(U:us.length=ks.length)(R:∀(i:Nat) (x:Tm) (u:Value),ks[i]? = some x->us[i]? = some u->Jf h0 x u):GS.ZJ JT prog w h0 2 ks us :=
 ⟨U,fun κ=>κ=tuples' false,fun A E s Q I h=>TH.Zw (fun v T=>by
  obtain⟨i,hi,rfl⟩:=List.getElem_of_mem T;exact((R i _ _ (aI (by lia)) (aI hi)).ext I).tt) (h _ rfl),
  fun A s κ I hr M E i j x y u v Q h1 h2 Z Y q=>by
  subst M;exact YB ((R i x u Z h1).ext I) ((R j y v Y h2).ext I) (by lia) q⟩
end
end IT
namespace DI
open PySem PySem.W PyProof.Rows PySem.SeqAt GS
section
variable{prog:Program}{w:World}{A:Around}{E:Value->Shared->Prop}{s:Shared}{d v:Addr}{ep:Nat}{es:Array DictEntry}{ks:List IT.Tm}
def gG(h:Heap)(k:IT.Tm)(e:DictEntry):Prop:=∃(b c:Addr) (M I:List Value),e.key=.ref b/\e.val=.ref c/\h.IsTuple b M.toArray/\IT.Is k.1 M/\h.IsTuple c I.toArray/\IT.Is k.2 I
theorem Qx{b:Bool}{Q:Value->Shared->Prop}(hh:A.handled=none)(hv:s.heap.IsItemsView v d)(hm:RD s.heap d es ep)(hn:es.size<64)(hl:ks.length=es.size)(he:∀(j:Nat) (k:IT.Tm) (e:DictEntry),ks[j]? = some k->es[j]? = some e->gG s.heap k e)(hu:A.units+4<cLine)
 (h:∀(h':Heap) (D tk:Nat) (ix:List Nat) (M:Nat) (as:List Addr),(∀b u,s.heap.get? b=some u->h'.get? b=some u)->as.length=es.size->(∀(j:Nat) (a:Addr),as[j]? = some a->s.heap.objs.size<a/\a<D/\∃e,es[j]? = some e/\h'.get? a=some { cls:=.type "tuple",data:=.seq #[e.key,e.val]}) ->
   h'.get? D=some (seqObj "list" (ix.map fun i=>(as.map Value.ref).getD i Value.none).toArray M)->ix.Perm (List.range es.size)->(ix.map fun i=>ks.getD i ([],[])).Pairwise (fun x y=>if b=true then IT.JT.kle y x else IT.JT.kle x y)->s.heap.objs.size<=D->Q (.ref D) {s with heap:=h',toks:=tk}) :
  wpAny (model prog w) A (call (.builtin "sorted") [.ref v] [(Str.ofString "reverse",.bool b)]) Q E s:=by
 refine call_function_entry_kw kind_sorted plain_sorted entry_sorted (args_sorted_rev _ _) ?_;unfold Builtin.«sorted»;refine aA (m:=checkCount "sorted" 1 1 _) (aC ?_);refine aA (gather (A:=A.in1) hh hv hm (by rw[sizeLine_eq];lia) fun I tk as z1 k1 Z hG=>?_);have U:(as.map Value.ref).length=es.size:=by rw[List.length_map,Z]
 refine aA (wpAny_newList ?_ (by rw[sizeLine_eq];lia));have C:ZJ IT.JT prog w I 2 ks (as.map Value.ref):=IT.YY (by rw[U,hl]) fun i x u hx Y=>by
  rw[List.getElem?_map]at Y;obtain⟨a,ha,rfl⟩:=aH.mp Y;obtain⟨r1,e,r2,r3⟩:=hG i a ha;obtain⟨b,c,its,R,q1,q2,q3,q4,q5,q6⟩:=he i x e hx r2;refine⟨a,b,c,its,R,rfl,⟨_,r3,rfl,0,?_⟩,?_,q4,?_,q6⟩
  .rw[q1,q2]
  .obtain⟨o,y,r⟩:=q3;exact⟨o,k1 _ _ y,r⟩
  .obtain⟨o,y,r⟩:=q5;exact⟨o,k1 _ _ y,r⟩
 have hr:Runs IT.JT prog w (if b then ks.reverse else ks):=by
  cases b with
  |true=>exact OL (O:=IT.JT) (ks:=ks.reverse) (show(ks.reverse:List IT.Tm).length<64 by rw[List.length_reverse,hl];exact hn)
  |false=>exact OL (O:=IT.JT) (ks:=ks) (show(ks:List IT.Tm).length<64 by rw[hl];exact hn)
 obtain⟨g1,x2,fin⟩:=TL (s:={s with heap:=I,toks:=tk}) (h1:=I) (T:=pure (.done (.ret .none))) (tk:=tk) (b:=b) (([],[]):IT.Tm) C (by lia) hr (fun _ _ e=>e) (aG _)
  (Q:=fun x s'=>∃(h':Heap) (D tk:Nat) (ix:List Nat) (M:Nat),x=.ref D/\s'={s with heap:=h',toks:=tk}/\I.objs.size<=D/\Ext I h'/\h'.get? D=some (seqObj "list" (ix.map fun i=>(as.map Value.ref).getD i Value.none).toArray M)/\ix.Perm (List.range (as.map Value.ref).length)/\(ix.map fun i=>ks.getD i ([],[])).Pairwise (fun x y=>if b=true then IT.JT.kle y x else IT.JT.kle x y))
  (fun h' D tk ix M a1 a2 a3 a4 a5=>⟨h',D,tk,ix,M,rfl,rfl,a1,a2,a3,a4,a5⟩)
 refine aA (bQ (wpAny_call_entry_kw slot_list_sort ⟨_,g1,rfl⟩ entry_list_sort ?_ (args_list_sort_rev _ _)));refine Wc (s:={s with heap:=I.push (seqObj "list" (as.map Value.ref).toArray 0),toks:=tk}) (([],[]):IT.Tm) C x2 (aG _) g1 (by lia) hr (by rw[show A.in1.in1.units=A.units+2 from rfl];lia) fun ix p1 p2=>⟨_,rfl,?_⟩;refine aC ⟨_,rfl,?_⟩;obtain⟨h',D,tk',ix',M,q1,q2,q3,q4,q5,q6,q7⟩:=fin ix p1 p2;rw[q1];have:=h h' D tk' ix' M as (fun b u e=>q4 _ _ (k1 b u e)) Z (fun j a hj=>by
  obtain⟨r1,e,r2,r3⟩:=hG j a hj;exact⟨r1,Nat.lt_of_lt_of_le (aF r3) q3,e,r2,q4 _ _ r3⟩) q5 (by rw[U]at q6;exact q6) q7 (aR (bP z1) q3)
 rw[<-q2]at this;exact this
end
end DI
namespace L2
open PySem PySem.Spec PyProof.Rows
theorem Inv.many{X:Cx}{pins:List (Addr×Obj)}{σ:St}{H H':Hp}{s:Shared}{h':Heap}{t':Nat}(I:Inv X pins σ H s)(k:∀b u,s.heap.get? b=some u->h'.get? b=some u)(M:∀b,b<s.heap.objs.size->H' b=H b)(Al:C2 X.prog X.w H' h') :
  Inv X pins σ H' {s with heap:=h',toks:=t'}:=by
 have lt:∀b o,H b=some o->b<s.heap.objs.size:=fun b o e=>(I.Al b o e).lt;have up:∀b o,H b=some o->H' b=some o:=fun b o e=>by rw[M b (lt b o e)];exact e
 show Inv X pins σ H' {s with heap:=h',gens:=s.gens,drawn:=s.drawn,toks:=t'};refine I.step (h':=h') (ch:=[]) (fun b T=>nomatch T) (fun b o _ _ _ e _=>k b o e) (fun b o _ _ _ e _=>⟨o.slots,k b o e⟩) (fun b o _ e n=>by rw[M b (aF e)];exact n) (fun b o _ e=>⟨o,k b o e⟩)
  (fun b xs e=>up b _ e) (fun b o u e=>up b _ e) (fun b ps e=>⟨#[],by rw[up b _ e];simp⟩) (fun b _ o _ _ e=>k b o e) (fun m hm=>?_) Al I.bare
 obtain⟨o,U,Y,R,r⟩:=hm;exact⟨o,U,Y,k _ o R,r⟩
theorem OQ:∀ {ps:List Int} {us:List Value},Vals (ps.map V.int) us->IT.Is ps us
 |[],_,r=>by rw[List.map_nil]at r;cases r;rw[IT.Is]
 |p::ps,_,r=>by
  rw[List.map_cons]at r;cases r with
  |cons h t=>
   obtain⟨I,rfl⟩:=h;rw[IT.Is];exact⟨I,_,rfl,OQ t⟩
theorem YQ{prog:Program}{w:World}(d:Addr)(nd:(d==sysModules)=false) :
  MeetsIn prog w (Builtin.«dict.items» ⟨[.ref d],[]⟩) (fun _ R s=>(∃es ep,DI.RD s.heap d es ep)/\R (.ok (.ret (.ref s.heap.objs.size))) {s with heap:=s.heap.push { cls:=.type "dict_items",data:=.fields #[.ref d]} }) :=
 .of_wp fun A R s ⟨⟨es,ep,o,M,I,T⟩,h⟩=>by
  unfold Builtin.«dict.items»;refine aA ?_;unfold Builtin.Dict.noArgs;refine aA (wpAny_notOrdered_dict ⟨o,M,I.1⟩ ?_);refine aC (show wpAny _ _ (Builtin.Dict.showsAll d>>=_) _ _ s from ?_);unfold Builtin.Dict.showsAll;rw[nd,if_neg aM];exact aA (aC (aA (aZ (aC ⟨_,rfl,h⟩))))
def ZW(H1:Hp)(x:V)(Q:VK):Prop:=∃(a:Addr) (kvs:List (List Key×V)) (ts:List IT.Tm),x=.ref a/\H1 a=some (.dT kvs)/\kvs.length<64/\ts.length=kvs.length /\
 (∀(j:Nat) k v t,kvs[j]? = some (k,v)->ts[j]? = some t->k=t.1.map Sum.inl/\∃c,v=.ref c/\H1 c=some (.tup (t.2.map V.int))) /\
 ∀(D:Addr) (H':Hp) (I:List V) (us:List IT.Tm),AG H1 H'->H1 D=none->H' D=some (.lst I)->us.Perm ts->us.Pairwise (fun x y=>IT.JT.kle y x)->I.length=us.length ->
  (∀(j:Nat) z t,I[j]? = some z->us[j]? = some t->∃p b c,z=.ref p/\H1 p=none/\H' p=some (.tup [.ref b,.ref c])/\H1 b=some (.tup (t.1.map V.int))/\H1 c=some (.tup (t.2.map V.int)))->Q (.ref D) H'
theorem R7(ps:List Int):(ps.map (Sum.inl:Int->Key)).map kV=ps.map V.int:=by rw[List.map_map];rfl
theorem L5{α β:Type}{F:α->β->Prop}:∀ {xs:List α} {ys:List β} {j:Nat} {x:α} {y:β},Paired F xs ys->xs[j]? = some x->ys[j]? = some y->F x y
 |_,_,j,x,y,.nil,h,_=>by simp at h
 |_,_,0,x,y,.cons f _,h,k=>by simp at h k;subst h k;exact f
 |_,_,j+1,x,y,.cons _ r,h,k=>L5 r (by simpa using h) (by simpa using k)
theorem XI{α:Type}(d:α)(ts:List α){ix:List Nat}(h:ix.Perm (List.range ts.length)):(ix.map fun i=>ts.getD i d).Perm ts:=by
 have e:(List.range ts.length).map (fun i=>ts.getD i d)=ts:=by
  apply List.ext_getElem
  .simp
  .intro i I M;simp at I;simp[I]
 have:=h.map fun i=>ts.getD i d
 rwa [e]at this
theorem L9:∀as:List Addr,Vals (as.map V.ref) (as.map Value.ref)
 |[]=>.nil
 |a::as=>.cons rfl (L9 as)
def ZD(h:Heap)(y:Addr):Option HO:=match (h.get? y).map (fun o:Obj=>o.data) with
 |some (Data.seq I _)=>match I.toList with
  |[Value.ref b,Value.ref c]=>some (.tup [.ref b,.ref c])
  |_=>none
 |_=>none
theorem V1{X:Cx}{pins:List (Addr×Obj)}{σ:St}{H:Hp}{s:Shared}{Q:VK}(I:Inv X pins σ H s){x:V}{v:Value}(rx:RelV x v)(hc:X.calm=true)(hu:X.A.units+64<cLine)(q:ZW H x Q) :
  ∃(a:Addr) (es:Array DictEntry) (ep:Nat),v=.ref a/\(a==sysModules)=false/\DI.RD s.heap a es ep /\
   wpAny (model X.prog X.w) X.A (call (.builtin "sorted") [.ref s.heap.objs.size] [(Str.ofString "reverse",.bool true)]) (EP X pins σ Q) X.xe {s with heap:=s.heap.push { cls:=.type "dict_items",data:=.fields #[.ref a]} }:=by
 obtain⟨a,kvs,ts,rfl,ha,h64,U,hterm,q⟩:=q;cases rx;obtain⟨hz,nd,xs,kt,o,es,ep,r1,r2,r3,r4,r5,r6⟩:=VY I.Al ha;refine⟨a,es,ep,rfl,nd,⟨o,r1,r2,r3⟩,?_⟩;have M:es.size=kvs.length:=by rw[size_of_entries r4];exact(Paired.length kt).symm
 have I2:Inv X pins σ H {s with heap:=s.heap.push { cls:=.type "dict_items",data:=.fields #[.ref a]} }:=I.kept (t':=s.toks) fun b ob e=>aD _ e;have ent:∀(j:Nat) (e:DictEntry),es[j]? = some e->∃k w x,kvs[j]? = some (k,w)/\xs[j]? = some x/\e.key=.ref x.2.1/\e.val=x.2.2/\H x.2.1=some (.tup (k.map kV))/\RelV w x.2.2:=fun j e he=>by
  rw[entry_at r4 j]at he;obtain⟨x,hx,rfl⟩:=aH.mp he;have R:j<kvs.length:=by rw[Paired.length kt];exact(aB.mp hx).1
  obtain⟨kv,hkv⟩:∃kv,kvs[j]? = some kv:=⟨kvs[j],by simp[R]⟩;have:=L5 kt hkv hx;exact⟨kv.1,kv.2,x,hkv,hx,rfl,rfl,this.1 ▸ this.2.1,this.2.2⟩
 have trm:∀(j:Nat) (t:IT.Tm) (e:DictEntry),ts[j]? = some t->es[j]? = some e->∃b c,e.key=.ref b/\e.val=.ref c/\H b=some (.tup (t.1.map V.int))/\H c=some (.tup (t.2.map V.int)):=fun j t e ht he=>by
  obtain⟨k,w,x,h1,h2,h3,h4,h5,h6⟩:=ent j e he;obtain⟨rfl,c,rfl,h7⟩:=hterm j k w t h1 ht;rw[R7]at h5;refine⟨x.2.1,c,h3,?_,h5,h7⟩;rw[h4];obtain⟨xk,xb,xv⟩:=x;cases h6
  rfl
 have entV:∀(j:Nat) (k:IT.Tm) (e:DictEntry),ts[j]? = some k->es[j]? = some e->DI.gG (s.heap.push { cls:=.type "dict_items",data:=.fields #[.ref a]}) k e:=fun j k e hk he=>by
  obtain⟨b,c,h1,h2,h3,h4⟩:=trm j k e hk he;obtain⟨i1,v1,p1,_⟩:=I2.tuple (Ao.of (K:=X.K) h3);obtain⟨i2,v2,p2,_⟩:=I2.tuple (Ao.of (K:=X.K) h4);exact⟨b,c,i1,i2,h1,h2,p1,OQ v1,p2,OQ v2⟩
 refine DI.Qx (s:={s with heap:=s.heap.push { cls:=.type "dict_items",data:=.fields #[.ref a]} }) (b:=true) (ks:=ts) (d:=a) (es:=es) (ep:=ep) (I.ok.hd hc) ⟨_,Heap.get?_push_size _ rfl,rfl,rfl⟩ ⟨o,Heap.get?_push_of_some _ r1,r2,r3⟩ (by lia) (by lia) entV (by lia) fun h' D tk ix e1 as keep Y hG hD hp hs hge=>?_;have hsz:(s.heap.push { cls:=.type "dict_items",data:=.fields #[.ref a]}).objs.size=s.heap.objs.size+1:=Heap.size_push ..;simp only[hsz]at hG hge;have ixl:ix.length=kvs.length:=by rw[hp.length_eq,List.length_range];exact M
 have ixm:∀i∈ix,i<kvs.length:=fun i hi=>by
  have:=(hp.mem_iff (a:=i)).mp hi;rw[List.mem_range]at this
  lia
 have szD:D<h'.objs.size:=aF hD;have at_:∀j T,as[j]? = some T->∃(b c:Addr) (t:IT.Tm),ts[j]? = some t/\h'.get? T=some { cls:=.type "tuple",data:=.seq #[.ref b,.ref c]}/\H b=some (.tup (t.1.map V.int))/\H c=some (.tup (t.2.map V.int))/\s.heap.objs.size<T/\T<D:=fun j T R=>by
  obtain⟨h1,h2,e,h3,h4⟩:=hG j T R;have hjk:j<ts.length:=by
   rw[U,<-M,<-Y];exact(aB.mp R).1
  obtain⟨t,ht⟩:∃t,ts[j]? = some t:=⟨ts[j],by simp[hjk]⟩;obtain⟨b,c,k1,k2,k3,k4⟩:=trm j t e ht h3;rw[k1,k2]at h4;exact⟨b,c,t,ht,h4,k3,k4,by lia,h2⟩
 let zs:List V:=ix.map fun i=>(as.map V.ref).getD i .BJ
 let H':Hp:=fun y=>if y=D then some (.lst zs) else if y∈as then ZD h' y else H y
 have hHD:H' D=some (.lst zs):=if_pos rfl;have hHa:∀(j:Nat) T b c,as[j]? = some T->h'.get? T=some { cls:=.type "tuple",data:=.seq #[.ref b,.ref c]}->H' T=some (.tup [.ref b,.ref c]):=fun j T b c R hb=>by
  obtain⟨_,_,_,_,_,_,_,_,hlt⟩:=at_ j T R;show(if T=D then _ else _)=_;rw[if_neg (aO hlt),if_pos (aJ R)];unfold ZD;rw[hb]
  rfl
 have hHo:∀y,y<s.heap.objs.size+1->H' y=H y:=fun y hy=>by
  have Z:y≠D:=by lia
  show(if y=D then _ else _)=_;rw[if_neg Z];refine if_neg fun hm=>?_;obtain⟨j,R⟩:=ax hm;obtain⟨_,_,_,_,_,_,_,h1,_⟩:=at_ j y R
  lia
 have up:∀b o,H b=some o->H' b=some o:=fun b o e=>by
  rw[hHo b (bV (I.Al b o e).lt)];exact e
 have Al:C2 X.prog X.w H' h':=fun y u e=>by
  by_cases Z:y=D
  .subst Z;rw[hHD]at e;cases e;refine⟨?_,_,e1,?_,hD⟩
   .show(ix.map _).length<=sizeLine;rw[List.length_map,ixl];exact hz
   .exact Vals.pick (L9 as) ix fun i hi=>by rw[List.length_map,Y,M];exact ixm i hi
  .by_cases hm:y∈as
   .obtain⟨j,R⟩:=ax hm;obtain⟨b,c,t,h1,h2,h3,h4,_,_⟩:=at_ j y R;rw[hHa j y b c R h2]at e;cases e;exact⟨Uj,[.ref b,.ref c],.cons rfl (.cons rfl .nil),_,h2,rfl,_,rfl⟩
   .have e':H y=some u:=by
     have:H' y=H y:=by
      show(if y=D then _ else _)=_;rw[if_neg Z,if_neg hm]
     rw[this]at e;exact e
    exact(I.Al y u e').IC (fun b o _ z=>keep b o (aD _ z)) (fun b z=>up _ _ z) fun b xs z=>up _ _ z
 have I3:Inv X pins σ H' {s with heap:=h',toks:=tk}:=I.many (fun b u e=>keep b u (aD _ e)) (fun b hb=>hHo b (by lia)) Al;refine⟨.ref D,H',I3,rfl,q D H' zs (ix.map fun i=>ts.getD i ([],[])) up (I.Al.fresh (by lia)) hHD (XI _ ts (by rw[U,<-M];exact hp)) ?_ (by simp[zs]) fun j z t hz' ht=>?_⟩
 .simpa using hs
 .have R:j<ix.length:=by
   have:=(aB.mp ht).1
   simpa using this
  have hix:ix[j]? = some ix[j]:=by simp[R]
  have hi:=ixm ix[j] (aa R);have k1:z=.ref (as[ix[j]]'(by rw[Y,M];exact hi)):=by
   have:zs[j]? = some ((as.map V.ref).getD ix[j] .BJ):=by
    show(ix.map _)[j]? = _;rw[List.getElem?_map,hix];rfl
   rw[this]at hz';cases hz';simp[List.getD_eq_getElem?_getD,List.getElem?_map,show ix[j]<as.length by rw[Y,M];exact hi]
  have k2:t=ts[ix[j]]'(by rw[U];exact hi):=by
   rw[List.getElem?_map,hix]at ht;simp[List.getD_eq_getElem?_getD,show ix[j]<ts.length by rw[U];exact hi]at ht;exact ht.symm
  obtain⟨b,c,t',h1,h2,h3,h4,h5,h6⟩:=at_ ix[j] (as[ix[j]]'(by rw[Y,M];exact hi)) (aI _);have k3:t'=t:=by
   rw[k2];rw[List.getElem?_eq_getElem (by rw[U];exact hi)]at h1;exact(aY h1).symm
  subst k3;exact⟨_,b,c,k1,I.Al.fresh (by lia),hHa _ _ b c (aI _) h2,h3,h4⟩
def cW(I:TE):TE:=fun σ H Q=>I σ H fun x H1=>ZW H1 x Q
theorem X6{X:Cx}{o:Expr}{to:TE}{p pos apos M kp Z:Pos}{j}(hc:X.calm=true)(hu:X.A.units+64<cLine)(hg:Gl X "sorted")(hm:X.mg "sorted" = none)(ho:PE X o to)
 (U:attributeBase o "items" X.env (eval o X.env)=eval o X.env:=by rfl)(T:(apos.endLine==M.line)=true:=by rfl)
 (he:backTo pos (starEach [.Call (.Attribute o "items" apos) [] [] M] X.env)=(false,eval (.Call (.Attribute o "items" apos) [] [] M) X.env)::backTo pos (starEach [] X.env):=by rfl)(R:(backTo pos (starEach [.Call (.Attribute o "items" apos) [] [] M] X.env)).any (·.1)=false:=by rfl) :
  PE X (.Call (.Name "sorted" p) [.Call (.Attribute o "items" apos) [] [] M] [⟨some "reverse",.Constant (.bool true) j Z,kp⟩] pos) (cW to):=by
 intro pins s σ H Q I h;refine wpAny_Call_Name_kw (FC I hg hm boot_sorted ?_ (by decide) (by decide));refine callWith_kw ?_ he R;rw[he];refine Calls.spliced_cons (wpAny_Call_method0_late U T (A5 (ho pins s σ H _ I h) fun v s1 ⟨x,H1,I1,r1,q1⟩=>?_));obtain⟨a,es,ep,rfl,nd,rd,fin⟩:=V1 I1 r1 hc hu q1;obtain⟨Y,e1,e2,e3⟩:=id rd;refine⟨"dict","dict.items",PySem.F.plainAttrs_dict,PySem.F.slot_dict_items,PySem.F.type_dict_items,⟨Y,e1,e2.1⟩,fun b hb=>?_,Calls.callWith_builtin rfl (PySem.evalArgs_none ?_)⟩
 .cases hb;exact⟨Y,e1,e2.2.1⟩
 refine call_meetsIn PySem.F.slot_dict_items ⟨Y,e1,e2.1⟩ PySem.F.entry_dict_items (PySem.F.args_dict_items_1 _) (YQ a nd) ⟨⟨es,ep,rd⟩,?_⟩;exact Calls.spliced_nil (kws_cons (Constant_bool (kws_nil fin)))
end L2
namespace IT
open PySem PySem.W PyProof.Rows PySem.SeqAt
section
open PySem.AutoSeq1 (wpAny_loadPart')
open PySem.MeetsSeq PySem.MeetsSeq2 PySem.MeetsSeq3
theorem Yg(l b:Addr)(items I:Array Value)(n n2:Nat)(dd dd2:Option Addr)(sl sl2:Array (Option Value))(t u:List Int) :
  Meets (Builtin.«tuple.__ge__» ⟨[.ref l,.ref b],[]⟩)
   (fun A R s=>s.heap.get? l=some { cls:=.type "tuple",dict:=dd,data:=.seq items n,slots:=sl}/\s.heap.get? b=some { cls:=.type "tuple",dict:=dd2,data:=.seq I n2,slots:=sl2} /\
    Is t items.toList/\Is u I.toList/\A.units<cLine/\R (.ok (.ret (.bool (!lt t u)))) s) :=
 .of_wp fun prog w A R s h=>by
  obtain⟨hp,g,d,tk,os⟩:=s;obtain⟨hl,hb,hi,hj,hun,h⟩:=h;have f2:=AutoSeq1.sub_tuple_tuple;have z1:items.size=t.length:=by rw[<-Is.length hi];simp
  have z2:I.size=u.length:=by rw[<-Is.length hj];simp
  wp_walk using wpAny_loadPart' hl,wpAny_loadPart' hb,wpAny_forIn_list _ (fun rest b s'=>b.1=none/\s'=⟨hp,g,d,tk,os⟩/\∃(vs ws:List Value) (t' Y:List Int),rest=vs.zip ws /\
   Is t' vs/\Is Y ws/\t'.length+I.size=Y.length+items.size/\R (.ok (.ret (.bool (!lt t' Y)))) ⟨hp,g,d,tk,os⟩) _
  case turn=>
   rintro⟨y,x⟩ rest b s' ⟨hb',rfl,vs,ws,t',Y,Z,U,T,M,hR⟩;cases t' with
   |nil=>rw[Is]at U;subst U;rw[List.zip_nil_left]at Z;cases Z
   |cons bt rt=>
    cases Y with
    |nil=>rw[Is]at T;subst T;rw[List.zip_nil_right]at Z;cases Z
    |cons bu ru=>
     rw[Is]at U T;obtain⟨a1,v1,rfl,p3⟩:=U;obtain⟨a2,v2,rfl,q3⟩:=T;rw[List.zip_cons_cons]at Z
     injection Z with hyx hrest
     injection hyx with hy hx
     subst hy hx;rw[lt]at hR;simp only[List.length_cons]at M;have he:=EqAt.int_int (A:=A.in1) (s:=⟨hp,g,d,tk,os⟩) bt a1 bu a2;refine aA (he prog w _ _ ?_);by_cases hc:bt=bu
     .rw[if_pos hc]at hR;rw[beq_iff_eq.mpr hc]
      wp_walk
      exact⟨rfl,rfl,_,_,_,_,hrest,p3,q3,by lia,hR⟩
     .rw[if_neg hc]at hR;rw[beq_eq_false_iff_ne.mpr hc];have hri:∀(E:Value->Shared->Prop) (Q:Value->Shared->Prop),Q (.bool (decide (bu<=bt))) ⟨hp,g,d,tk,os⟩->wpAny (model prog w) A.in1 (richCompare .GtE (.int bt a1) (.int bu a2)) Q E ⟨hp,g,d,tk,os⟩:=fun E Q h=>PyProof.Rows.ge_int h;have e:(!decide (bt<bu))=decide (bu<=bt):=by rw[Bool.eq_iff_iff];simp
      rw[e]at hR
      wp_walk using hri
      exact⟨_,rfl,by simpa using hR⟩
  case fin=>
   rintro⟨b1,b2⟩ s' ⟨hb',rfl,vs,ws,t',Y,Z,U,T,M,hR⟩;simp only at hb';subst hb';have hv:lt t' Y=decide (items.size<I.size):=by
    cases t' with
    |nil=>
     cases Y with
     |nil=>
      simp only[List.length_nil]at M;exact(bR (by lia)).symm
     |cons c q=>
      simp only[List.length_cons,List.length_nil]at M;exact(bT (by lia)).symm
    |cons bt rt=>
     cases Y with
     |nil=>
      simp only[List.length_cons,List.length_nil]at M;exact(bR (by lia)).symm
     |cons c q=>
      rw[Is]at U T;obtain⟨_,_,rfl,_⟩:=U;obtain⟨_,_,rfl,_⟩:=T;rw[List.zip_cons_cons]at Z;cases Z
   have e:(!decide (items.size<I.size))=decide (I.size<=items.size):=by rw[Bool.eq_iff_iff];simp
   rw[hv,e]at hR
   wp_walk
   exact⟨_,rfl,by simpa[Builtin.Tuple.tupleCompareSizes]using hR⟩
  case h=>
   exact⟨rfl,rfl,items.toList,I.toList,t,u,rfl,hi,hj,by lia,h⟩
end
section
open PySem.MeetsSeq PySem.MeetsSeq2 PySem.MeetsSeq3
variable{prog:Program}{w:World}{A:Around}{E:Value->Shared->Prop}{s:Shared}{t u:List Int}{a b:Addr}{its its':List Value}
theorem hJ{Q:Value->Shared->Prop}(h1:s.heap.IsTuple a its.toArray)(k1:Is t its)(h2:s.heap.IsTuple b its'.toArray)(k2:Is u its')(hu:A.units+1<cLine)(h:Q (.bool (!lt t u)) s):wpAny (model prog w) A (richCompare .GtE (.ref a) (.ref b)) Q E s:=by
 obtain⟨⟨cls,dd,data,sl⟩,Z,hc,n,R⟩:=id h1;obtain⟨⟨cls2,Y,data2,U⟩,M,T,n2,I⟩:=id h2;simp only at hc R T I;subst hc R T I;exact richCompare_meets_room (op:=.GtE) ⟨_,Z,rfl⟩ ⟨_,M,rfl⟩ PySem.F.slot_tuple_ge PySem.F.entry_tuple_ge (PySem.F.args_tuple_ge_2 _ _) (Yg a b its.toArray its'.toArray n n2 dd Y sl U t u)
  ⟨Z,M,by simpa using k1,by simpa using k2,by lia,show Value.bool (!lt t u)≠Value.notImplemented/\Q (.bool (!lt t u)) s from⟨(fun x=>nomatch x),h⟩⟩ (by lia)
end
end IT
namespace L2
open PySem PySem.Spec PyProof.Rows
theorem fY{X:Cx}(hu:X.A.units+64<cLine):Cy X (compareOp .GtE) (fun x y H Q=>∃(a b:Addr) (ps M:List Int),x=.ref a/\y=.ref b/\H a=some (.tup (ps.map V.int))/\H b=some (.tup (M.map V.int))/\Q (.bl (!IT.lt ps M)) H):=by
 intro pins s σ H x y v u' Q I Y U h;obtain⟨a,b,ps,M,rfl,rfl,ha,hb,q⟩:=h;cases Y;cases U;obtain⟨i1,T,p1,_⟩:=I.tuple (Ao.of (K:=X.K) ha);obtain⟨i2,R,Z,_⟩:=I.tuple (Ao.of (K:=X.K) hb);exact IT.hJ p1 (OQ T) Z (OQ R) (by lia) ⟨.bl _,H,I,rfl,q⟩
end L2
namespace TH
open PySem PyProof.Rows PySem.SeqAt
def U0:Tr->List Int
 |.nil=>[]
 |.cons b r=>reduceHash (Builtin.Tuple.tupleHashOf (U0 b))::U0 r
def gc(t:Tr):Int:=reduceHash (Builtin.Tuple.tupleHashOf (U0 t))
end TH
namespace TH
open PySem PyProof.Rows PySem.SeqAt
section
variable{h:Int}
theorem OD{n:Nat}(h:n<=100000):n<=sizeLine:=aR h (by rw[sizeLine_eq];decide)
end
end TH
namespace TH
open PySem PyProof.Rows PySem.SeqAt
section
variable{prog:Program}{w:World}{A:Around}{E:Value->Shared->Prop}{s:Shared}
theorem gather{T:String}{r d:Addr}{n:Nat}{P:Nat->Value->Prop}{U:Heap->Prop}{R:List Value->Shared->Prop}(K:PySem.W.KdlSrc prog w T r d n P U)(Z:A.handled=none)(Al:U s.heap)(hn:n<=sizeLine)
 (k:∀(h1:Heap) (tk:Nat) (I:Array Value),s.heap.objs.size<h1.objs.size->(∀b u,s.heap.get? b=some u->h1.get? b=some u)->ItemsOf P I n->R I.toList {s with heap:=h1,toks:=tk}) :
  wpAny (model prog w) A (collect (.ref r)) R E s:=by
 obtain⟨Y,ld⟩:=K.there _ Al;unfold collect;refine aA (wpAny_runValue (codeAny_builtin entry_proto_collect' ?_));rw[Around.under_plainId PySem.F.plain_proto_collect _];show wpAny _ A.in1 (newList []>>=fun v=>again (.builtin "list.__iadd__" ⟨[v,.ref r],[]⟩)) _ _ s;refine aA (aZ (aC ⟨plainId_quiet PySem.F.plain_list_iadd _,codeAny_builtin entry_list_iadd' ?_⟩));rw[Around.under_plainId PySem.F.plain_list_iadd _];have g0:(s.heap.push { cls:=.type "list",data:=.seq ([]:List Value).toArray}).get? s.heap.objs.size=some { cls:=.type "list",data:=.seq #[]}:=aU _ rfl;have main:=PySem.W.kdl_extend (A:=A) (s:={s with heap:=s.heap.push { cls:=.type "list",data:=.seq ([]:List Value).toArray} }) K Z
  (K.keep _ _ Al fun _ _ _ e=>aD _ e) s.heap.objs.size (bC Y) (bC ld) (.ref s.heap.objs.size) 0 g0
  (R:=fun q s1=>∃h1 tk I c,q=.ok (.ret (.ref s.heap.objs.size))/\s1={s with heap:=h1,toks:=tk}/\(∀b u,s.heap.get? b=some u->h1.get? b=some u)/\h1.get? s.heap.objs.size=some { cls:=.type "list",dict:=none,data:=.seq I c,slots:=#[]}/\ItemsOf P I n)
  (fun h1 tk I c M g1 ha=>⟨h1,tk,I,c,rfl,rfl,fun b u e=>M b u (aO (aF e)) (aD _ e),g1,ha⟩) hn
 refine aj main (fun fin s1 x=>?_) fun e s1 x=>?_
 .cases fin with
  |done f=>
   obtain⟨h1,tk,I,c,e,rfl,M,g1,ha⟩:=x;cases e;show wpAny _ A (load s.heap.objs.size>>=_) _ _ _;exact aA (wpAny_load g1 (aC (k h1 tk I (aF g1) M ha)))
  |again c1=>
   refine⟨x.1,codeAny_mono x.2 fun q s2 y=>?_⟩;obtain⟨h1,tk,I,c,rfl,rfl,M,g1,ha⟩:=y;show wpAny _ A (load s.heap.objs.size>>=_) _ _ _;exact aA (wpAny_load g1 (aC (k h1 tk I (aF g1) M ha)))
 .obtain⟨_,_,_,_,z,_⟩:=x;cases z
end
end TH
namespace TH
open PySem PyProof.Rows
def gu:Option Tr->Int
 |none=>4238894112
 |some t=>gc t
abbrev KE:=Option Tr×Value×Value
def jo(x:KE):DictEntry:=⟨gu x.1,x.2.1,x.2.2⟩
end TH
namespace L2
open PySem PySem.Spec PyProof.Rows
abbrev KR:=Option Tr×V×V
def jM(q:KR)(x:TH.KE):Prop:=x.1=q.1/\RelV q.2.1 x.2.1/\RelV q.2.2 x.2.2
def dN(d:Addr)(r:List KR):HO:=.ext fun h=>(d==sysModules)=false/\∃o I M xs,h.get? d=some o/\o.ExactDict/\o.data=.dict I M/\I.toList=xs.map TH.jo/\PySem.Paired jM r xs
def Vk(H:Hp):Option Tr->V->Prop
 |none,v=>v=.BJ
 |some t,v=>t.deep<8/\Tv H t v
theorem Vk.same{H H':Hp}{k:Option Tr}{v:V}(h:Vk H k v)(e:AG H H'):Vk H' k v:=by
 cases k with
 |none=>exact h
 |some t=>exact⟨h.1,h.2.same e⟩
section
variable{X:Cx}
theorem Jg(hc:X.calm=true):FH X (.builtin "sum") (fun xs H Q=>∃(p:Addr) (ns:List Int),xs=[.ref p]/\Ao X.K H p (ns.map V.int)/\Q (.int ns.sum) H):=by
 intro pins s σ H xs us Q I r h;obtain⟨p,ns,rfl,hq,q⟩:=h;obtain⟨u,rfl,r1⟩:=r.one;cases r1;obtain⟨U,rv,pl,hz⟩:=I.tuple hq;have hi:=intsAre_of rv;obtain⟨xs,Z⟩:=hi.allInts.items;have M:s.heap.IsTuple p (intItems xs):=Z ▸ pl
 have T:p<s.heap.objs.size:=by obtain⟨_,e,_⟩:=M;exact aF e
 have e1:ns=xs.toList.map (·.1):=by
  rw[<-nums_intItems,<-Z];exact(show numsOf U.toArray.toList=ns from hi.numsOf).symm
 have e2:preSum (numAt xs) xs.size=ns.sum:=by
  rw[preSum_eq,List.take_of_length_le (by simp),e1]
 refine call_sum_walkG (wpAny_pyIter_tuple M ?_);refine⟨_,[_,p],[_],_,_,_,numAt xs,rfl,Walks.tuple (A:=X.A.in1) (I.ok.hd hc) _ p (aO T) (intItems xs),
  ⟨⟨_,Heap.get?_push_size _ rfl,rfl,rfl⟩,M.push _⟩,fun c R=>?_,(fun _ _=>intItems_at),fun h' tk Y hk=>?_⟩
 .show c<(s.heap.push _).objs.size;rw[Heap.size_push];rcases aS.mp R with rfl|R
  .exact Nat.lt_succ_self _
  .rw[List.mem_singleton.mp R];exact bV T
 .have e3:preSum (numAt xs) (intItems xs).size=ns.sum:=by
   rw[<-e2];simp[intItems]
  rw[e3];exact⟨.int _,H,I.kept (t':=tk) (PyProof.Rows.LSm.kept_iter hk),⟨Y,rfl⟩,q⟩
end
end L2
set_option maxHeartbeats 1000000
namespace L2
open PySem PySem.Spec PyProof.Rows
theorem Rd.same{H H':Hp}{a:Addr}{u:HO}(e:AG H H')(h:Rd H a u):Rd H' a u:=by
 rcases h with h|⟨o,h⟩
 .exact .inl (e _ _ h)
 .exact .inr ⟨o,e _ _ h⟩
def Ak:Tr->List PyData
 |.nil=>[]
 |.cons b r=>.tuple (Ak b)::Ak r
def eB:Option Tr->PyData
 |none=>.none
 |some t=>.tuple (Ak t)
mutual
def Du(H:Hp):PyData->V->Prop
 |.none,v=>v=.BJ
 |.bool b,v=>v=.bl b
 |.int i,v=>v=.int i
 |.str x,v=>v=.str x
 |.tuple M,v=>∃a xs,v=.ref a/\H a=some (.tup xs)/\Aj H M xs
 |.list M,v=>∃a xs,v=.ref a/\H a=some (.lst xs)/\Aj H M xs
 |.dict kv,v=>(∃I C:Addr,kv=[(.int (C:Nat),.none)]/\v=.ref I/\H I=some (j7 I (.ref C)))\/(∃(a:Addr) (ns:List Int),kv=[(.none,.list (ns.map .int))]/\v=.ref a/\Rd H a (.lst (ns.map V.int)))\/Mw H kv v
def Aj(H:Hp):List PyData->List V->Prop
 |[],xs=>xs=[]
 |d::I,xs=>∃x r,xs=x::r/\Du H d x/\Aj H I r
def Mw(H:Hp):List (PyData×PyData)->V->Prop
 |[],_=>False
 |(I,M)::t,v=>I=.bool true/\M=.none/\∃a r,v=.ref a/\H a=some (dN a r)/\(r.map (·.1)).Nodup/\K2 H t r
def K2(H:Hp):List (PyData×PyData)->List KR->Prop
 |[],r=>r=[]
 |(k,d)::t,r=>∃q I,r=q::I/\k=eB q.1/\Vk H q.1 q.2.1/\Du H d q.2.2/\K2 H t I
end
mutual
theorem Du.same{H H':Hp}(e:AG H H'):∀ {d:PyData} {v:V},Du H d v->Du H' d v
 |.none,_,h=>by rw[Du]at h ⊢;exact h
 |.bool _,_,h=>by rw[Du]at h ⊢;exact h
 |.int _,_,h=>by rw[Du]at h ⊢;exact h
 |.str _,_,h=>by rw[Du]at h ⊢;exact h
 |.tuple _,_,h=>by
  rw[Du]at h ⊢;obtain⟨a,xs,M,I,R⟩:=h;exact⟨a,xs,M,e _ _ I,Aj.same e R⟩
 |.list _,_,h=>by
  rw[Du]at h ⊢;obtain⟨a,xs,M,I,R⟩:=h;exact⟨a,xs,M,e _ _ I,Aj.same e R⟩
 |.dict _,_,h=>by
  rw[Du]at h ⊢;rcases h with ⟨U,C,M,T,I⟩|⟨a,ns,M,T,I⟩|h
  .exact .inl ⟨U,C,M,T,e _ _ I⟩
  .exact .inr (.inl ⟨a,ns,M,T,I.same e⟩)
  .exact .inr (.inr (Mw.same e h))
theorem Aj.same{H H':Hp}(e:AG H H'):∀ {ds:List PyData} {xs:List V},Aj H ds xs->Aj H' ds xs
 |[],_,h=>by rw[Aj]at h ⊢;exact h
 |_::_,_,h=>by
  rw[Aj]at h ⊢;obtain⟨x,r,R,M,I⟩:=h;exact⟨x,r,R,Du.same e M,Aj.same e I⟩
theorem Mw.same{H H':Hp}(e:AG H H'):∀ {kv:List (PyData×PyData)} {v:V},Mw H kv v->Mw H' kv v
 |[],_,h=>by rw[Mw]at h;exact h.elim
 |(_,_)::_,_,h=>by
  rw[Mw]at h ⊢;obtain⟨Y,U,a,r,T,R,M,I⟩:=h;exact⟨Y,U,a,r,T,e _ _ R,M,K2.same e I⟩
theorem K2.same{H H':Hp}(e:AG H H'):∀ {kv:List (PyData×PyData)} {r:List KR},K2 H kv r->K2 H' kv r
 |[],_,h=>by rw[K2]at h ⊢;exact h
 |(_,_)::_,_,h=>by
  rw[K2]at h ⊢;obtain⟨q,I,Y,U,T,R,M⟩:=h;exact⟨q,I,Y,U,T.same e,Du.same e R,K2.same e M⟩
end
mutual
theorem Du.br{K:PySem.W.Frag}{H:Hp}:∀ {d:PyData} {v:V},d.canLay0=true->Du H d v->Br K H d v
 |.none,_,_,h=>by rw[Du]at h;rw[Br];exact h
 |.bool _,_,_,h=>by rw[Du]at h;rw[Br];exact h
 |.int _,_,_,h=>by rw[Du]at h;rw[Br];exact h
 |.str _,_,_,h=>by rw[Du]at h;rw[Br];exact h
 |.tuple _,_,c,h=>by
  rw[Du]at h;rw[Br];obtain⟨a,xs,R,M,I⟩:=h;exact⟨a,xs,R,Ao.of M,Aj.br (by simp only[PyData.canLay0,Bool.and_eq_true]at c;first|exact c|exact c.2|exact c.1) I⟩
 |.list _,_,c,h=>by
  rw[Du]at h;rw[Br];obtain⟨a,xs,R,M,I⟩:=h;exact⟨a,xs,R,AQ.of M,Aj.br (by simp only[PyData.canLay0,Bool.and_eq_true]at c;first|exact c|exact c.2|exact c.1) I⟩
 |.dict _,_,c,h=>by simp[PyData.canLay0]at c
theorem Aj.br{K:PySem.W.Frag}{H:Hp}:∀ {ds:List PyData} {xs:List V},PyData.canLayAll0 ds=true->Aj H ds xs->D7 K H ds xs
 |[],_,_,h=>by rw[Aj]at h;rw[D7];exact h
 |_::_,_,c,h=>by
  rw[Aj]at h;rw[D7];obtain⟨x,r,R,M,I⟩:=h;simp only[PyData.canLayAll0,Bool.and_eq_true]at c;exact⟨x,r,R,Du.br c.1 M,Aj.br c.2 I⟩
end
theorem Aj.nil{H:Hp}:Aj H [] []:=by rw[Aj]
theorem Aj.cons{H:Hp}{d:PyData}{ds:List PyData}{x:V}{xs:List V}(h:Du H d x)(k:Aj H ds xs):Aj H (d::ds) (x::xs):=by rw[Aj];exact⟨x,xs,rfl,h,k⟩
theorem Aj.un{H:Hp}{d:PyData}{ds:List PyData}{xs:List V}(h:Aj H (d::ds) xs):∃x r,xs=x::r/\Du H d x/\Aj H ds r:=by rw[Aj]at h;exact h
theorem Aj.nil_eq{H:Hp}{xs:List V}(h:Aj H [] xs):xs=[]:=by rw[Aj]at h;exact h
theorem Aj.len{H:Hp}:∀ {ds:List PyData} {xs:List V},Aj H ds xs->xs.length=ds.length
 |[],_,h=>by rw[h.nil_eq];rfl
 |_::_,_,h=>by obtain⟨x,r,rfl,_,I⟩:=h.un;simp[I.len]
theorem Aj.get{H:Hp}:∀ {ds:List PyData} {xs:List V} {i:Nat} {d:PyData},Aj H ds xs->ds[i]? = some d->∃v,xs[i]? = some v/\Du H d v
 |[],_,i,_,_,e=>by simp at e
 |_::_,_,0,_,h,e=>by
  obtain⟨x,r,rfl,T,_⟩:=h.un;simp at e;subst e;exact⟨x,rfl,T⟩
 |_::_,_,i+1,_,h,e=>by
  obtain⟨x,r,rfl,_,R⟩:=h.un;obtain⟨v,M,I⟩:=R.get (i:=i) (by simpa using e);exact⟨v,by simpa using M,I⟩
theorem Aj.back{H:Hp}{ds:List PyData}{xs:List V}{i:Nat}{v:V}(h:Aj H ds xs)(e:xs[i]? = some v):∃d,ds[i]? = some d/\Du H d v:=by
 have R:=h.len;have hi:i<ds.length:=by rw[<-R];exact(aB.mp e).1
 have hd:ds[i]? = some ds[i]:=by simp[hi]
 obtain⟨w,I,M⟩:=h.get hd;rw[e]at I;cases I;exact⟨_,hd,M⟩
theorem Aj.app{H:Hp}:∀ {ds es:List PyData} {xs ys:List V},Aj H ds xs->Aj H es ys->Aj H (ds++es) (xs++ys)
 |[],_,_,_,h,k=>by rw[h.nil_eq];exact k
 |_::_,_,_,_,h,k=>by obtain⟨x,r,rfl,M,I⟩:=h.un;exact .cons M (I.app k)
theorem Aj.take{H:Hp}:∀ {ds:List PyData} {xs:List V} (i:Nat),Aj H ds xs->Aj H (ds.take i) (xs.take i)
 |_,_,0,_=>by rw[List.take_zero,List.take_zero];exact .nil
 |[],_,i+1,h=>by rw[h.nil_eq];exact .nil
 |_::_,_,i+1,h=>by obtain⟨x,r,rfl,M,I⟩:=h.un;exact .cons M (I.take i)
theorem Aj.drop{H:Hp}:∀ {ds:List PyData} {xs:List V} (i:Nat),Aj H ds xs->Aj H (ds.drop i) (xs.drop i)
 |_,_,0,h=>h
 |[],_,i+1,h=>by rw[h.nil_eq];exact .nil
 |_::_,_,i+1,h=>by obtain⟨x,r,rfl,M,I⟩:=h.un;exact I.drop i
theorem Aj.rev{H:Hp}:∀ {ds:List PyData} {xs:List V},Aj H ds xs->Aj H ds.reverse xs.reverse
 |[],_,h=>by rw[h.nil_eq];exact .nil
 |_::_,_,h=>by
  obtain⟨x,r,rfl,M,I⟩:=h.un;rw[List.reverse_cons,List.reverse_cons];exact I.rev.app (.cons M .nil)
inductive Oc where
 |lst (xs:List PyData)|Ji (kvs:List (List Key×PyData))|Wn (kvs:List (Option Tr×PyData))
inductive L where
 |no|d (x:PyData)|own (c:Oc)
abbrev Dv:=List L
def Hy(G:Hp):List (List Key×PyData)->List (List Key×V)->Prop
 |[],r=>r=[]
 |q::t,r=>∃v I,r=(q.1,v)::I/\Du G q.2 v/\Hy G t I
theorem Hy.same{G I:Hp}(e:AG G I):∀ {t:List (List Key×PyData)} {r:List (List Key×V)},Hy G t r->Hy I t r
 |[],r,h=>h
 |q::t,r,h=>by
  obtain⟨v,M,rfl,T,R⟩:=h;exact⟨v,M,rfl,T.same e,Hy.same e R⟩
abbrev ZO(kvs:List (Option Tr×PyData)):List (PyData×PyData):=kvs.map fun q=>(eB q.1,q.2)
abbrev iE(kvs:List (Option Tr×PyData)):PyData:=.dict ((.bool true,.none)::ZO kvs)
def Kj(G:Hp)(a:Addr):Oc->HO->Prop
 |.lst xs,o=>∃ys,o=.lst ys/\Aj G xs ys
 |.Ji kvs,o=>∃r,o=.dT r/\Hy G kvs r
 |.Wn kvs,o=>∃r,o=dN a r/\(r.map (·.1)).Nodup/\K2 G (ZO kvs) r
theorem Kj.same{G R:Hp}{a:Addr}{c:Oc}{o:HO}(h:Kj G a c o)(e:AG G R):Kj R a c o:=by
 cases c with
 |Wn kvs=>obtain⟨r,M,I,T⟩:=h;exact⟨r,M,I,K2.same e T⟩
 |lst xs=>obtain⟨ys,M,I⟩:=h;exact⟨ys,M,I.same e⟩
 |Ji kvs=>obtain⟨ys,M,I⟩:=h;exact⟨ys,M,I.same e⟩
theorem Kj.Vs{G:Hp}{a:Addr}{c:Oc}{xs:List V}(h:Kj G a c (.tup xs)):False:=by
 cases c with
 |Wn kvs=>obtain⟨r,I,M,R⟩:=h;unfold dN at I;cases I
 |lst xs=>obtain⟨ys,I,M⟩:=h;cases I
 |Ji kvs=>obtain⟨ys,I,M⟩:=h;cases I
def Nw(G0 H0 G:Hp):Prop:=∀a o,G a=some o->G0 a=some o\/H0 a=none\/∃xs,o=HO.tup xs
structure Rw(G0 H0 G H:Hp)(σ:St)(δ:Dv)(ts:List (PyData×V)):Prop where
 ext:AG G0 G
 new:Nw G0 H0 G
 ins:AG G H
 keep:AG H0 H
 len:σ.length=δ.length
 dat:∀(i:Nat) (x:PyData),δ[i]? = some (L.d x)->∃v,σ[i]? = some (some v)/\Du G x v
 own:∀(i:Nat) (xs:Oc),δ[i]? = some (L.own xs)->∃(a:Addr) (ys:HO),σ[i]? = some (some (V.ref a))/\G a=none/\H0 a=none/\H a=some ys/\Kj G a xs ys
 apart:∀(i j:Nat) (xs ys:Oc),i≠j->δ[i]? = some (L.own xs)->δ[j]? = some (L.own ys)->σ[i]?≠σ[j]?
 CD:∀p∈ts,Du G p.1 p.2
def DE(X:Cx)(e:Expr)(f:Dv->Option PyData):Prop:=∃t,PE X e t/\∀δ x,f δ=some x->∀G0 H0 G H σ ts (Q:VK),Rw G0 H0 G H σ δ ts->(∀v I H',Rw G0 H0 I H' σ δ ((x,v)::ts)->Q v H')->t σ H Q
def DA(X:Cx)(es:List Expr)(f:Dv->Option (List PyData)):Prop:=∃t,PA X es t/\∀δ xs,f δ=some xs->∀G0 H0 G H σ ts (Q:List V->Hp->Prop),Rw G0 H0 G H σ δ ts->(∀vs I H',Rw G0 H0 I H' σ δ (xs.zip vs++ts)->vs.length=xs.length->Q vs H')->t σ H Q
def DT(X:Cx)(e:Expr)(f:Dv->Option Bool):Prop:=∃t,PT X e t/\∀δ b,f δ=some b->∀G0 H0 G H σ ts (Q:Bool->Hp->Prop),Rw G0 H0 G H σ δ ts->(∀I H',Rw G0 H0 I H' σ δ ts->Q b H')->t σ H Q
section
variable{G0 H0 G H:Hp}{σ:St}{δ:Dv}{ts:List (PyData×V)}
theorem Rw.drop{p:PyData×V}(r:Rw G0 H0 G H σ δ (p::ts)):Rw G0 H0 G H σ δ ts:={r with CD:=fun q I=>r.CD q (.tail _ I)}
theorem Rw.less{us:List (PyData×V)}(r:Rw G0 H0 G H σ δ ts)(h:∀p∈us,p∈ts):Rw G0 H0 G H σ δ us:={r with CD:=fun q I=>r.CD q (h q I)}
theorem Rw.put{x:PyData}{v:V}(r:Rw G0 H0 G H σ δ ts)(h:Du G x v):Rw G0 H0 G H σ δ ((x,v)::ts):={r with CD:=fun q I=>by rcases aS.mp I with rfl|I;exact h;exact r.CD q I}
theorem Rw.newObj{p:Addr}{o:HO}(r:Rw G0 H0 G H σ δ ts)(I:H p=none):Rw G0 H0 (upd G p o) (upd H p o) σ δ ts:=by
 have hG:G p=none:=by
  cases q:G p with
  |none=>rfl
  |some u=>rw[r.ins _ _ q]at I;cases I
 have h0:H0 p=none:=by
  cases q:H0 p with
  |none=>rfl
  |some u=>rw[r.keep _ _ q]at I;cases I
 have e:AG G (upd G p o):=AL hG o;refine⟨r.ext.trans e,fun a u h=>?_,fun a u h=>?_,r.keep.trans (AL I o),r.len,fun i x h=>?_,fun i xs h=>?_,r.apart,fun q Z=>(r.CD q Z).same e⟩
 .by_cases ha:a=p
  .subst ha;exact .inr (.inl h0)
  .rw[AE ha]at h;exact r.new _ _ h
 .by_cases ha:a=p
  .subst ha;rw[AF]at h ⊢;exact h
  .rw[AE ha]at h ⊢;exact r.ins _ _ h
 .obtain⟨v,R,M⟩:=r.dat i x h;exact⟨v,R,M.same e⟩
 .obtain⟨a,ys,R,M,Y,T,U⟩:=r.own i xs h;have ha:a≠p:=fun z=>by subst z;rw[T]at I;cases I
  exact⟨a,ys,R,by rw[AE ha];exact M,Y,by rw[AE ha];exact T,U.same e⟩
theorem Rw.eR{p:Addr}{xs:List V}{H':Hp}(r:Rw G0 H0 G H σ δ ts)(e:AG H H')(I:H' p=some (.tup xs)):Rw G0 H0 (upd G p (.tup xs)) H' σ δ ts:=by
 have M:AG G (upd G p (.tup xs)):=fun a o h=>by
  by_cases ha:a=p
  .subst ha;have:=e _ _ (r.ins _ _ h);rw[I]at this;rw[AF];exact this
  .rw[AE ha];exact h
 refine⟨r.ext.trans M,fun a u h=>?_,fun a u h=>?_,r.keep.trans e,r.len,fun i x h=>?_,fun i xs h=>?_,r.apart,fun q hq=>(r.CD q hq).same M⟩
 .by_cases ha:a=p
  .subst ha;rw[AF]at h;cases h;exact .inr (.inr ⟨_,rfl⟩)
  .rw[AE ha]at h;exact r.new _ _ h
 .by_cases ha:a=p
  .subst ha;rw[AF]at h;rw[I];exact h
  .rw[AE ha]at h;exact e _ _ (r.ins _ _ h)
 .obtain⟨v,T,R⟩:=r.dat i x h;exact⟨v,T,R.same M⟩
 .obtain⟨a,ys,T,R,Z,Y,U⟩:=r.own i xs h;have ha:a≠p:=fun z=>by subst z;rw[e _ _ Y]at I;cases I;exact U.Vs
  exact⟨a,ys,T,by rw[AE ha];exact R,Z,e _ _ Y,U.same M⟩
theorem Rw.lift{I H':Hp}(r:Rw G0 H0 G H σ δ ts)(h1:AG G I)(h2:Nw G H I)(Z:AG I H')(U:AG H H'):Rw G0 H0 I H' σ δ ts:=by
 refine⟨r.ext.trans h1,fun a o h=>?_,Z,r.keep.trans U,r.len,fun i x h=>?_,fun i xs h=>?_,r.apart,fun q hq=>(r.CD q hq).same h1⟩
 .rcases h2 a o h with k|k|k
  .exact r.new a o k
  .right;left
   cases q:H0 a with
   |none=>rfl
   |some u=>rw[r.keep _ _ q]at k;cases k
  .exact .inr (.inr k)
 .obtain⟨v,T,R⟩:=r.dat i x h;exact⟨v,T,R.same h1⟩
 .obtain⟨a,ys,T,R,k3,M,Y⟩:=r.own i xs h;refine⟨a,ys,T,?_,k3,U _ _ M,Y.same h1⟩;cases q:I a with
  |none=>rfl
  |some u=>
   rcases h2 a u q with z|z|⟨xs',z⟩
   .rw[R]at z;cases z
   .rw[M]at z;cases z
   .have:=Z _ _ q;rw[U _ _ M,z]at this;cases this;exact Y.Vs.elim
end
section
variable{X:Cx}{a b e:Expr}{f g h:Dv->Option PyData}{pos:Pos}
theorem A8{i j pos}:DE X (.Constant (.int i) j pos) (fun _=>some (.int i)):=⟨_,AI,fun δ x h G0 H0 G H σ ts Q r k=>by cases h;exact k _ _ _ (r.put (by rw[Du]))⟩
theorem ZQ{i j pos}:DE X (.Constant (.bool i) j pos) (fun _=>some (.bool i)):=⟨_,CL,fun δ x h G0 H0 G H σ ts Q r k=>by cases h;exact k _ _ _ (r.put (by rw[Du]))⟩
def nm(i:Nat)(δ:Dv):Option PyData:=match δ[i]? with|some (.d x)=>some x|_=>none
theorem iO{i:Nat}{δ:Dv}{x:PyData}(h:nm i δ=some x):δ[i]? = some (.d x):=by
 unfold nm at h;split at h
 .rename_i y e;cases h;exact e
 .cases h
theorem AU{i:Nat}{x:Str}(h:PE X (.Name x pos) (NV i)):DE X (.Name x pos) (nm i):=⟨_,h,fun δ y I G0 H0 G H σ ts Q r k=>by
 obtain⟨v,R,M⟩:=r.dat _ _ (iO I);exact⟨v,R,k _ _ _ (r.put M)⟩⟩
def Ay(o:PyData->PyData->Option PyData)(f g:Dv->Option PyData)(δ:Dv):Option PyData:=(f δ).bind fun x=>(g δ).bind fun y=>o x y
def FY(X:Cx)(m:Value->Value->Sem Value)(o:PyData->PyData->Option PyData):Prop:=∃r:R2,Cy X m r/\∀x y z,o x y=some z->∀G0 H0 G H σ δ ts u v (Q:VK),Rw G0 H0 G H σ δ ts->Du G x u->Du G y v->(∀w I H',Rw G0 H0 I H' σ δ ((z,w)::ts)->Q w H')->r u v H Q
theorem two{x y:PyData}{f g:Dv->Option PyData}{δ:Dv}{o:PyData->PyData->Option PyData}{z:PyData}(h:Ay o f g δ=some z):∃x y,f δ=some x/\g δ=some y/\o x y=some z:=by
 unfold Ay at h;obtain⟨x,T,R⟩:=aE.mp h;obtain⟨y,M,I⟩:=aE.mp R;exact⟨x,y,T,M,I⟩
theorem Cc{op:Operator}{o:PyData->PyData->Option PyData}(ho:FY X (binaryOp op) o)(ha:DE X a f)(hb:DE X b g):DE X (.BinOp a op b pos) (Ay o f g):=by
 obtain⟨r,Z,R⟩:=ho;obtain⟨ta,M,U⟩:=ha;obtain⟨tb,I,T⟩:=hb;refine⟨_,Af Z M I,fun δ z Y G0 H0 G H σ ts Q R0 k=>?_⟩;obtain⟨x,y,h1,h2,h3⟩:=two (x:=.none) (y:=.none) Y;refine U δ x h1 G0 H0 G H σ ts _ R0 fun u G1 H1 R1=>?_;refine T δ y h2 G0 H0 G1 H1 σ _ _ R1 fun v G2 H2 R2=>?_;exact R x y z h3 G0 H0 G2 H2 σ δ ts u v Q (R2.drop.drop) (R2.CD (x,u) (.tail _ (.head _))) (R2.CD (y,v) (.head _)) k
end
section
variable{X:Cx}
def N7(o o':PyData->PyData->Option PyData)(x y:PyData):Option PyData:=match o x y with|some z=>some z|none=>o' x y
theorem FY.or{m:Value->Value->Sem Value}{o o':PyData->PyData->Option PyData}(h:FY X m o)(h':FY X m o'):FY X m (N7 o o'):=by
 obtain⟨r,Z,Y⟩:=h;obtain⟨r',R,M⟩:=h';refine⟨_,Cy.or Z R,fun x y z I G0 H0 G H σ δ ts u v Q U du T k=>?_⟩;unfold N7 at I;split at I
 .rename_i z' e;cases I;exact .inl (Y x y z e G0 H0 G H σ δ ts u v Q U du T k)
 .exact .inr (M x y z I G0 H0 G H σ δ ts u v Q U du T k)
theorem Oy{m:Value->Value->Sem Value}{C:Int->Int->Prop}{M:Int->Int->V}{o:Int->Int->Option PyData}(T:Cy X m (rI C M))(U:∀i j z,o i j=some z->C i j/\∀H,Du H z (M i j)) :
  FY X m (fun x y=>match x,y with|.int i,.int j=>o i j|_,_=>none):=by
 refine⟨_,T,fun x y z I G0 H0 G H σ δ ts u v Q R0 du R k=>?_⟩;dsimp only at I;split at I
 .rename_i i j;rw[Du]at du R;obtain⟨Z,Y⟩:=U i j z I;exact⟨i,j,du,R,Z,k _ _ _ (R0.put (Y _))⟩
 .cases I
theorem Si{m:Value->Value->Sem Value}{M:Int->Int->V}{o:Int->Int->PyData}(T:Cy X m (Pq M))(U:∀i j H,Du H (o i j) (M i j)) :
  FY X m (fun x y=>match x,y with|.int i,.int j=>some (o i j)|_,_=>none):=by
 refine⟨_,T,fun x y z I G0 H0 G H σ δ ts u v Q Y du R k=>?_⟩;dsimp only at I;split at I
 .rename_i i j;cases I;rw[Du]at du R;exact⟨i,j,du,R,k _ _ _ (Y.put (U _ _ _))⟩
 .cases I
def EX:Nat:=1000
theorem O6{n:Nat}(h:n<=EX):n<sizeLine:=QA h
theorem GH{n:Nat}(h:n<=EX):n<=sizeLine:=bP (QA h)
def eS:PyData->PyData->Option PyData:=fun x y=>match x,y with|.int i,.int j=>some (.int (i+j))|_,_=>none
def J5:PyData->PyData->Option PyData:=fun x y=>match x,y with|.int i,.int j=>some (.int (i-j))|_,_=>none
def Lg(n:Nat)(i:Int):Bool:=decide (i.natAbs<2^n)
def OO(i j:Int):Bool:=Lg 64 i||Lg 64 j||(Lg 9000 i&&Lg 9000 j)
def Rk:PyData->PyData->Option PyData:=fun x y=>match x,y with|.int i,.int j=>(if OO i j=true then some (.int (i*j)) else none)|_,_=>none
def VL:PyData->PyData->Option PyData:=fun x y=>match x,y with|.int i,.int j=>(if j≠0/\Lg 9000 j=true then some (.int (i.fdiv j)) else none)|_,_=>none
def VP:PyData->PyData->Option PyData:=fun x y=>match x,y with|.int i,.int j=>(if j≠0 then some (.int (i.fmod j)) else none)|_,_=>none
theorem b9:FY X (binaryOp .Add) eS:=Si CK fun _ _ _=>by rw[Du]
theorem MI:FY X (binaryOp .Sub) J5:=Si FZ fun _ _ _=>by rw[Du]
theorem ZC{i:Int}(h:Lg 64 i=true):-(2^64)<i/\i<2^64:=by
 have:=ae h
 lia
theorem cJ:FY X (binaryOp .Mult) Rk:=Oy (o:=fun i j=>if OO i j=true then some (.int (i*j)) else none) B4 fun i j z h=>by
 split at h
 .rename_i q;cases h;refine⟨?_,fun _=>by rw[Du]⟩;unfold OO at q;rw[Bool.or_eq_true,Bool.or_eq_true,Bool.and_eq_true]at q;rcases q with (q|q)|q
  .exact .inl (.inl (ZC q))
  .exact .inl (.inr (ZC q))
  .exact .inr ⟨9000,by decide,of_decide_eq_true q.1,of_decide_eq_true q.2⟩
 .cases h
theorem Z4:FY X (binaryOp .FloorDiv) VL:=Oy (o:=fun i j=>if j≠0/\Lg 9000 j=true then some (.int (i.fdiv j)) else none) EV fun i j z h=>by
 split at h
 .rename_i q;cases h;exact⟨⟨q.1,9000,Nat.le_refl _,of_decide_eq_true q.2⟩,fun _=>by rw[Du]⟩
 .cases h
theorem cL:FY X (binaryOp .Mod) VP:=Oy (o:=fun i j=>if j≠0 then some (.int (i.fmod j)) else none) J8 fun i j z h=>by
 split at h
 .rename_i q;cases h;exact⟨q,fun _=>by rw[Du]⟩
 .cases h
def Sv:PyData->PyData->Option PyData:=fun x y=>match x,y with|.list a,.list b=>(if a.length+b.length<=EX then some (.list (a++b)) else none)|_,_=>none
theorem Z8:FY X (binaryOp .Add) Sv:=by
 refine⟨_,Lk,fun x y z I G0 H0 G H σ δ ts u v Q R du Y k=>?_⟩;unfold Sv at I;split at I
 .rename_i a b;split at I
  .rename_i Z;cases I;rw[Du]at du Y;obtain⟨p,xs,rfl,h1,U⟩:=du;obtain⟨q,ys,rfl,h3,T⟩:=Y;refine⟨p,q,xs,ys,rfl,rfl,R.ins _ _ h1,R.ins _ _ h3,GH (by rw[U.len,T.len];exact Z),fun l M=>?_⟩;have R1:=R.newObj (o:=.lst (xs++ys)) M;refine k _ _ _ (R1.put ?_);rw[Du];have e:AG G (upd G l (.lst (xs++ys))):=fun a o h=>by
    have:=R.ins _ _ h;rw[AE (AJ this M)];exact h
   exact⟨l,xs++ys,rfl,AF,(U.same e).app (T.same e)⟩
  .cases I
 .cases I
def Vi:PyData->PyData->Option PyData:=fun x y=>match x,y with|.tuple a,.tuple b=>(if a.length+b.length<=EX then some (.tuple (a++b)) else none)|_,_=>none
theorem a8:FY X (binaryOp .Add) Vi:=by
 refine⟨_,OW,fun x y z I G0 H0 G H σ δ ts u v Q M du Z k=>?_⟩;unfold Vi at I;split at I
 .rename_i a b;split at I
  .rename_i hl;cases I;rw[Du]at du Z;obtain⟨p,xs,rfl,h1,U⟩:=du;obtain⟨q,ys,rfl,h3,T⟩:=Z;refine⟨p,q,xs,ys,rfl,rfl,M.ins _ _ h1,M.ins _ _ h3,GH (by rw[U.len,T.len];exact hl),fun l H' e R=>?_⟩;have R1:=M.eR e R;refine k _ _ _ (R1.put ?_);rw[Du];have Y:AG G (upd G l (.tup (xs++ys))):=fun a o h=>by
    by_cases ha:a=l
    .subst ha;have:=e _ _ (M.ins _ _ h);rw[R]at this;rw[AF];exact this
    .rw[AE ha];exact h
   exact⟨l,xs++ys,rfl,AF,(U.same Y).app (T.same Y)⟩
  .cases I
 .cases I
def YD:PyData->PyData->Option PyData:=fun x y=>match x,y with|.str a,.str b=>(if a.length+b.length<=EX then some (.str (a++b)) else none)|_,_=>none
theorem Z6:FY X (binaryOp .Add) YD:=by
 refine⟨_,Vg,fun x y z I G0 H0 G H σ δ ts u v Q T du M k=>?_⟩;unfold YD at I;split at I
 .rename_i a b;split at I
  .rename_i R;cases I;rw[Du]at du M;exact⟨a,b,du,M,GH R,k _ _ _ (T.put (by rw[Du]))⟩
  .cases I
 .cases I
def Dc:PyData->PyData->Option PyData:=N7 eS (N7 Sv (N7 Vi YD))
theorem Fg:FY X (binaryOp .Add) Dc:=b9.or (Z8.or (a8.or Z6))
def Qu:PyData->PyData->Option PyData:=fun x y=>match x,y with|.list a,.int k=>(if a.length*k.toNat<=EX/\-1000000<=k/\k<=1000000 then some (.list (List.replicate k.toNat a).flatten) else none)|_,_=>none
theorem Aj.rep{H:Hp}{ds:List PyData}{xs:List V}(h:Aj H ds xs):∀n,Aj H (List.replicate n ds).flatten (List.replicate n xs).flatten
 |0=>.nil
 |n+1=>by rw[List.replicate_succ,List.replicate_succ,List.flatten_cons,List.flatten_cons];exact h.app (h.rep n)
theorem cM:FY X (binaryOp .Mult) Qu:=by
 refine⟨_,Wl,fun x y z I G0 H0 G H σ δ ts u v Q R du U k=>?_⟩;unfold Qu at I;split at I
 .rename_i a n;split at I
  .rename_i Y;cases I;rw[Du]at du;rw[Du]at U;obtain⟨p,xs,rfl,Z,T⟩:=du;subst U;refine⟨p,n,xs,rfl,rfl,R.ins _ _ Z,by lia,by lia,GH (by rw[T.len];exact Y.1),fun l M=>?_⟩;have R1:=R.newObj (o:=.lst (List.replicate n.toNat xs).flatten) M;refine k _ _ _ (R1.put ?_);rw[Du];have e:AG G (upd G l (.lst (List.replicate n.toNat xs).flatten)):=fun a o h=>by
    have:=R.ins _ _ h;rw[AE (AJ this M)];exact h
   exact⟨l,_,rfl,AF,(T.same e).rep _⟩
  .cases I
 .cases I
def HC:PyData->PyData->Option PyData:=N7 Rk Qu
theorem Iw:FY X (binaryOp .Mult) HC:=cJ.or cM
theorem P6{d:PyData}(h:SeqAt.shaped d=true):d.canLay0=true:=by unfold SeqAt.shaped at h;rw[Bool.and_eq_true]at h;exact h.1
def Vy(neg:Bool):PyData->PyData->Option PyData:=fun x y=>if SeqAt.shaped x=true/\SeqAt.shaped y=true then some (.bool (if neg then !PyData.eqv x y else PyData.eqv x y)) else none
theorem fR{m:Value->Value->Sem Value}{neg:Bool}(T:Cy X m (eW X.K neg)):FY X m (Vy neg):=by
 refine⟨_,T,fun x y z I G0 H0 G H σ δ ts u v Q R du U k=>?_⟩;unfold Vy at I;split at I
 .rename_i M;cases I;exact⟨x,y,(du.same R.ins).br (P6 M.1),(U.same R.ins).br (P6 M.2),M.1,M.2,k _ _ _ (R.put (by rw[Du]))⟩
 .cases I
theorem iA(I:X.A.units+64<cLine):FY X (compareOp .NotEq) (Vy true):=fR (Rg I)
end
section
variable{X:Cx}{a b c e:Expr}{es:List Expr}{f g h:Dv->Option PyData}{pos p:Pos}
def P0:PyData->Option Bool
 |.bool b=>some b
 |_=>none
def Nj:PyData->Option Int
 |.int b=>some b
 |_=>none
theorem WK{x:PyData}{b:Bool}(h:P0 x=some b):x=.bool b:=by
 unfold P0 at h;split at h
 .cases h;rfl
 .cases h
theorem OI{x:PyData}{b:Int}(h:Nj x=some b):x=.int b:=by
 unfold Nj at h;split at h
 .cases h;rfl
 .cases h
theorem fL(ha:DE X a f):DE X (.UnaryOp .USub a pos) (fun δ=>(f δ).bind fun x=>(Nj x).map fun i=>.int (-i)):=by
 obtain⟨ta,M,R⟩:=ha;refine⟨_,Vc Ru M,fun δ z T G0 H0 G H σ ts Q R0 k=>?_⟩;obtain⟨x,Z,Y⟩:=aE.mp T;obtain⟨i,U,rfl⟩:=aH.mp Y;have:=OI U;subst this;refine R δ _ Z G0 H0 G H σ ts _ R0 fun u G1 H1 I=>?_;have:=I.CD _ (.head _);rw[Du]at this;exact⟨i,this,k _ _ _ (I.drop.put (by rw[Du]))⟩
variable{fa:Dv->Option Bool}
theorem cV{op:CmpOp}{o:PyData->PyData->Option PyData}(ho:FY X (compareOp op) o)(ha:DE X a f)(hb:DE X b g)(hm:behindInMarks op b=false):DT X (.Compare a [op] [b] pos) (fun δ=>(Ay o f g δ).bind P0):=by
 obtain⟨r,hr,U⟩:=ho;obtain⟨ta,T,Z⟩:=ha;obtain⟨tb,R,Y⟩:=hb;refine⟨_,Au hr T R hm,fun δ z hz G0 H0 G H σ ts Q R0 k=>?_⟩;obtain⟨q,h0,h4⟩:=aE.mp hz;have:=WK h4;subst this;obtain⟨x,y,h1,h2,h3⟩:=two (x:=.none) (y:=.none) h0;refine Z δ x h1 G0 H0 G H σ ts _ R0 fun u G1 H1 R1=>?_;refine Y δ y h2 G0 H0 G1 H1 σ _ _ R1 fun v G2 H2 R2=>?_;refine U x y _ h3 G0 H0 G2 H2 σ δ ts u v _ (R2.drop.drop) (R2.CD (x,u) (.tail _ (.head _))) (R2.CD (y,v) (.head _)) fun w G3 H3 M=>?_;have I:=M.CD _ (.head _);rw[Du]at I;exact⟨z,I,k _ _ M.drop⟩
theorem WT(ha : DE X e f)(he : ∀ whole,isTrue e X.env whole = (do let v <- whole; standAt e.pos; holding [v] (truthy v)):=by intro _; rfl):DT X e (fun δ => (f δ).bind P0):=by
  obtain ⟨ta,pa,ka⟩:=ha
  refine ⟨_,Bt pa he,fun δ z hz G0 H0 G H σ ts Q R0 k => ?_⟩
  obtain ⟨q,h0,h4⟩:=aE.mp hz
  have:=WK h4; subst this
  refine ka δ _ h0 G0 H0 G H σ ts _ R0 fun u G1 H1 R1 => ?_
  have hu:=R1.CD _ (.head _)
  rw [Du] at hu
  exact ⟨z,hu,k _ _ R1.drop⟩
theorem W3(ha:DT X a fa):DT X (.UnaryOp .Not a pos) (fun δ=>(fa δ).map fun c=>!c):=by
 obtain⟨Z,I,M⟩:=ha;refine⟨_,CB I,fun δ z R G0 H0 G H σ ts Q Y k=>?_⟩;obtain⟨i,T,rfl⟩:=aH.mp R;exact M δ _ T G0 H0 G H σ ts _ Y fun G1 H1 U=>k _ _ U
variable{fs:Dv->Option (List PyData)}
theorem A4:DA X [] (fun _=>some []):=⟨_,AB,fun δ xs h G0 H0 G H σ ts Q I k=>by cases h;exact k [] G H (by simpa using I) rfl⟩
theorem AV(ha:DE X e f)(Z:DA X es fs)(Y:starEach (e::es) X.env=(false,eval e X.env)::starEach es X.env:=by rfl):DA X (e::es) (fun δ=>(f δ).bind fun x=>(fs δ).map fun xs=>x::xs):=by
 obtain⟨ta,M,T⟩:=ha;obtain⟨tr,pr,R⟩:=Z;refine⟨_,AA M pr Y,fun δ z U G0 H0 G H σ ts Q R0 k=>?_⟩;obtain⟨x,h1,h2⟩:=aE.mp U;obtain⟨xs,h3,rfl⟩:=aH.mp h2;refine T δ x h1 G0 H0 G H σ ts _ R0 fun u G1 H1 R1=>?_;refine R δ xs h3 G0 H0 G1 H1 σ _ _ R1 fun vs G2 H2 R2 hl=>?_;refine k (u::vs) G2 H2 (R2.less fun q I=>?_) (by simp[hl]);simp only[List.zip_cons_cons,List.cons_append,List.mem_cons,List.mem_append]at I ⊢;rcases I with h|h|h
 .exact .inr (.inl h)
 .exact .inl h
 .exact .inr (.inr h)
theorem Wk{G:Hp}:∀ {xs:List PyData} {vs:List V},vs.length=xs.length->(∀q∈xs.zip vs,Du G q.1 q.2)->Aj G xs vs
 |[],vs,I,_=>by rw[List.eq_nil_of_length_eq_zero I];exact .nil
 |x::xs,[],I,_=>by simp at I
 |x::xs,v::vs,I,h=>.cons (h (x,v) (by simp)) (Wk (by simpa using I) fun q M=>h q (by simp[M]))
theorem Rw.args{G0 H0 G H:Hp}{σ:St}{δ:Dv}{ts:List (PyData×V)}{xs:List PyData}{vs:List V}(r:Rw G0 H0 G H σ δ (xs.zip vs++ts))(M:vs.length=xs.length):Aj G xs vs/\Rw G0 H0 G H σ δ ts :=
 ⟨Wk M fun q I=>r.CD q (bF _ I),r.less fun q I=>ah _ I⟩
theorem Rw.Y5{G0 H0 G H:Hp}{σ:St}{δ:Dv}{ts:List (PyData×V)}{xs:List PyData}{vs:List V}{p:Addr}(r:Rw G0 H0 G H σ δ ts)(d:Aj G xs vs)(I:H p=none):Rw G0 H0 (upd G p (.lst vs)) (upd H p (.lst vs)) σ δ ((.list xs,.ref p)::ts):=by
 refine(r.newObj I).put ?_;have e:AG G (upd G p (.lst vs)):=fun a o h=>by rw[AE (AJ (r.ins _ _ h) I)];exact h
 rw[Du];exact⟨p,vs,rfl,AF,d.same e⟩
theorem Rw.fT{G0 H0 G H:Hp}{σ:St}{δ:Dv}{ts:List (PyData×V)}{xs:List PyData}{vs:List V}{p:Addr}(r:Rw G0 H0 G H σ δ ts)(d:Aj G xs vs)(I:H p=none):Rw G0 H0 (upd G p (.tup vs)) (upd H p (.tup vs)) σ δ ((.tuple xs,.ref p)::ts):=by
 refine(r.newObj I).put ?_;have e:AG G (upd G p (.tup vs)):=fun a o h=>by rw[AE (AJ (r.ins _ _ h) I)];exact h
 rw[Du];exact⟨p,vs,rfl,AF,d.same e⟩
def Gs(xs:List PyData):Option (List PyData):=if xs.length<=EX then some xs else none
theorem LH{xs ys:List PyData}(h:Gs xs=some ys):xs=ys/\xs.length<=EX:=by
 unfold Gs at h;split at h
 .rename_i q;cases h;exact⟨rfl,q⟩
 .cases h
theorem OT{M}(ha:DA X es fs):DE X (.Tuple es M pos) (fun δ=>((fs δ).bind Gs).map .tuple):=by
 obtain⟨ta,R,T⟩:=ha;refine⟨_,Gf R,fun δ z U G0 H0 G H σ ts Q R0 k=>?_⟩;obtain⟨ys,h1,rfl⟩:=aH.mp U;obtain⟨xs,h2,h3⟩:=aE.mp h1;obtain⟨rfl,Z⟩:=LH h3;refine T δ _ h2 G0 H0 G H σ ts _ R0 fun vs G1 H1 R1 I=>?_;obtain⟨d,R2⟩:=R1.args I;exact⟨GH (by rw[I];exact Z),fun q Y=>k _ _ _ (R2.fT d Y)⟩
theorem Ng(ha:DA X es fs):DE X (.List es pos) (fun δ=>((fs δ).bind Gs).map .list):=by
 obtain⟨ta,M,R⟩:=ha;refine⟨_,B8 M,fun δ z T G0 H0 G H σ ts Q R0 k=>?_⟩;obtain⟨ys,h1,rfl⟩:=aH.mp T;obtain⟨xs,h2,Z⟩:=aE.mp h1;obtain⟨rfl,Y⟩:=LH Z;refine R δ _ h2 G0 H0 G H σ ts _ R0 fun vs G1 H1 R1 I=>?_;obtain⟨d,R2⟩:=R1.args I;exact⟨GH (by rw[I];exact Y),fun q U=>k _ _ _ (R2.Y5 d U)⟩
theorem Aj.DN{H:Hp}{ds:List PyData}{xs:List V}{i:Int}{d:PyData}(h:Aj H ds xs)(e:DN ds i=some d):∃v,DN xs i=some v/\Du H d v:=by
 unfold L2.DN at e ⊢;rw[h.len];obtain⟨j,T,R⟩:=aE.mp e;obtain⟨v,M,I⟩:=h.get R;exact⟨v,by rw[T];exact M,I⟩
theorem Pn{G:Hp}:∀ns:List Int,Aj G (ns.map .int) (ns.map V.int)
 |[]=>.nil
 |n::ns=>.cons (by rw[Du]) (Pn ns)
def Ct:PyData->PyData->Option PyData:=fun x y=>match x,y with
 |.list xs,.int i=>DN xs i
 |.tuple xs,.int i=>DN xs i
 |.dict [(.none,.list xs)],.int i=>DN xs i
 |.str z,.int i=>if z.length<=EX then(DN z.cps.toList i).map fun c=>.str ⟨#[c]⟩ else none
 |_,_=>none
theorem Cb(ha:DE X a f)(hb:DE X b g)(hs:Og b):DE X (.Subscript a b pos) (Ay Ct f g):=by
 obtain⟨ta,pa,ka⟩:=ha;obtain⟨tb,pb,kb⟩:=hb;refine⟨_,A0 dB pa pb hs,fun δ z hz G0 H0 G H σ ts Q R0 k=>?_⟩;obtain⟨x,y,h1,h2,I⟩:=two (x:=.none) (y:=.none) hz;refine ka δ x h1 G0 H0 G H σ ts _ R0 fun u G1 H1 R1=>?_;refine kb δ y h2 G0 H0 G1 H1 σ _ _ R1 fun v G2 H2 R2=>?_;have du:=R2.CD (x,u) (.tail _ (.head _));have M:=R2.CD (y,v) (.head _);unfold Ct at I;split at I
 .rw[Du]at du;rw[Du]at M;obtain⟨p,xs,rfl,U,Y⟩:=du;obtain⟨w,R,T⟩:=Y.DN I;exact .inl ⟨p,xs,_,w,rfl,M,AQ.of (R2.ins _ _ U),R,k _ _ _ (R2.drop.drop.put T)⟩
 .rw[Du]at du;rw[Du]at M;obtain⟨p,xs,rfl,U,Y⟩:=du;obtain⟨w,R,T⟩:=Y.DN I;exact .inr (.inl ⟨p,xs,_,w,rfl,M,Ao.of (R2.ins _ _ U),R,k _ _ _ (R2.drop.drop.put T)⟩)
 .rw[Du]at du;rw[Du]at M;rcases du with ⟨ea,C,Z,_⟩|⟨p,ns,Z,rfl,U⟩|z
  rotate_left 2
  .rw[Mw]at z;cases z.1
  .simp at Z
  .obtain rfl:_=ns.map PyData.int:=by simpa using Z
   obtain⟨w,R,T⟩:=(Pn (G:=_) ns).DN I;exact .inl ⟨p,_,_,w,rfl,M,.inl (U.same R2.ins),R,k _ _ _ (R2.drop.drop.put T)⟩
 .rw[Du]at du;rw[Du]at M;split at I
  .rename_i hl;obtain⟨ch,R,rfl⟩:=aH.mp I;exact .inr (.inr ⟨_,_,ch,du,M,GH hl,R,k _ _ _ (R2.drop.drop.put (by rw[Du]))⟩)
  .cases I
 .cases I
end
def Dh(g:List PyData->Option PyData):Sp:=fun vs H Q _=>∃M x G,g M=some x/\Aj G M vs/\AG G H/\∀v I H',AG G I->Nw G H I->AG I H'->AG H H'->Du I x v->Q v H'
section
variable{X:Cx}{e:Expr}{es:List Expr}{h:Dv->Option PyData}{fs:Dv->Option (List PyData)}{pos p:Pos}
theorem Cj{k:Nat}{R:Addr}{fd:FuncData}{ps:List Str}{m:List PyData->Option PyData}{x:Str}{st:Stmt}(T:Fn X.K X.mg x st ps R fd)(F:AM X.prog X.w X.K X.mg X.base AZ k R fd ps (Dh m))(hr:Dz k X.A)(hg:Gl X x)(ha:DA X (e::es) fs)
 (M:(x==("__debug__" : Str))=false:=by decide)(he:starEach (e::es) X.env=(false,eval e X.env)::starEach es X.env:=by rfl)(I:(backTo pos (starEach es X.env)).any (·.1)=false:=by rfl) :
  DE X (.Call (.Name x p) (e::es) [] pos) (fun δ=>(fs δ).bind m):=by
 obtain⟨ta,U,Y⟩:=ha;refine⟨_,Aa T F hr hg U M he I,fun δ z Z G0 H0 G H σ ts Q R0 k=>?_⟩;obtain⟨xs,h1,h2⟩:=aE.mp Z;refine Y δ _ h1 G0 H0 G H σ ts _ R0 fun vs G1 H1 R1 hv=>?_;obtain⟨d,R2⟩:=R1.args hv;refine⟨xs,z,G1,h2,by rw[List.append_nil];exact d,R2.ins,fun v G' H' h3 h4 h5 h6 h7=>?_⟩;exact k _ _ _ ((R2.lift h3 h4 h5 h6).put h7)
def ZL(X:Cx)(v:Value)(o:List PyData->Option PyData):Prop:=∃r,FH X v r/\∀xs z,o xs=some z->∀G0 H0 G H σ δ ts us (Q:VK),Rw G0 H0 G H σ δ ts->Aj G xs us->(∀w I H',Rw G0 H0 I H' σ δ ((z,w)::ts)->Q w H')->r us H Q
theorem SN{x:Str}{id:String}{o:List PyData->Option PyData}(hc:ZL X (.builtin id) o)(hg:Gl X x)(hm:X.mg x=none)(I:bootBuiltins x=some (.builtin id))(ha:DA X (e::es) fs)(hn:x ≠ "__name__":=by decide)(R:(x==("__debug__" : Str))=false:=by decide)
 (he:starEach (e::es) X.env=(false,eval e X.env)::starEach es X.env:=by rfl)(M:(backTo pos (starEach es X.env)).any (·.1)=false:=by rfl):DE X (.Call (.Name x p) (e::es) [] pos) (fun δ=>(fs δ).bind o):=by
 obtain⟨r,hr,U⟩:=hc;obtain⟨ta,T,Y⟩:=ha;refine⟨_,Ai hr hg hm I T hn R he M,fun δ z Z G0 H0 G H σ ts Q R0 k=>?_⟩;obtain⟨xs,h1,h2⟩:=aE.mp Z;refine Y δ _ h1 G0 H0 G H σ ts _ R0 fun vs G1 H1 R1 I=>?_;obtain⟨d,R2⟩:=R1.args I;exact U xs z h2 G0 H0 G1 H1 σ δ ts vs Q R2 d k
theorem Aj.Rn{H:Hp}{d:PyData}{xs:List V}(h:Aj H [d] xs):∃x,xs=[x]/\Du H d x:=by
 obtain⟨x,r,rfl,M,I⟩:=h.un;rw[I.nil_eq];exact⟨x,rfl,M⟩
theorem Aj.Ky{H:Hp}{d e:PyData}{xs:List V}(h:Aj H [d,e] xs):∃x y,xs=[x,y]/\Du H d x/\Du H e y:=by
 obtain⟨x,r,rfl,R,M⟩:=h.un;obtain⟨y,rfl,I⟩:=M.Rn;exact⟨x,y,rfl,R,I⟩
def O1:List PyData->Option PyData
 |[.list xs]=>some (.int xs.length)
 |[.tuple xs]=>some (.int xs.length)
 |[.dict [(.none,.list xs)]]=>some (.int xs.length)
 |_=>none
theorem Xb:ZL X (.builtin "len") O1:=by
 refine⟨_,BB,fun xs z I G0 H0 G H σ δ ts us Q M d k=>?_⟩;unfold O1 at I;split at I
 .cases I;obtain⟨u,rfl,du⟩:=d.Rn;rw[Du]at du;obtain⟨p,ys,rfl,R,T⟩:=du;refine⟨p,ys,rfl,.inl (AQ.of (M.ins _ _ R)),?_⟩;rw[T.len];exact k _ _ _ (M.put (by rw[Du]))
 .cases I;obtain⟨u,rfl,du⟩:=d.Rn;rw[Du]at du;obtain⟨p,ys,rfl,R,T⟩:=du;refine⟨p,ys,rfl,.inr (Ao.of (M.ins _ _ R)),?_⟩;rw[T.len];exact k _ _ _ (M.put (by rw[Du]))
 .cases I;obtain⟨u,rfl,du⟩:=d.Rn;rw[Du]at du;rcases du with ⟨Y,C,U,_⟩|⟨p,ns,U,rfl,R⟩|z
  rotate_left 2
  .rw[Mw]at z;cases z.1
  .simp at U
  .obtain rfl:_=ns.map PyData.int:=by simpa using U
   refine⟨p,_,rfl,.inl (.inl (R.same M.ins)),?_⟩;rw[List.length_map]at k ⊢;exact k _ _ _ (M.put (by rw[Du]))
 .cases I
end
inductive Ou where
 |nx (δ:Dv)|rt (x:PyData)|bk (δ:Dv)|ct (δ:Dv)|rn (xs:List PyData)
def Fin(G0 H0:Hp)(D:Ends):Ou->Prop
 |.nx δ=>∀σ G H,Rw G0 H0 G H σ δ []->D.nx σ H
 |.rt x=>∀v G H,AG G0 G->Nw G0 H0 G->AG G H->AG H0 H->Du G x v->D.rt v H
 |.bk δ=>∀σ G H,Rw G0 H0 G H σ δ []->D.bk σ H
 |.ct δ=>∀σ G H,Rw G0 H0 G H σ δ []->D.ct σ H
 |.rn xs=>∀a ys G H,AG G0 G->Nw G0 H0 G->AG G H->AG H0 H->H0 a=none->G a=none->H a=some (.lst ys)->Aj G xs ys->D.rt (.ref a) H
abbrev DF:=Dv->Option Ou
def DS(X:Cx)(st:Stmt)(F:DF):Prop:=∃t,PS X st t/\∀δ r,F δ=some r->∀G0 H0 G H σ D,Rw G0 H0 G H σ δ []->Fin G0 H0 D r->t D σ H
def Mo(X:Cx)(st:List Stmt)(F:DF):Prop:=∃t,Ij X st t/\∀δ r,F δ=some r->∀G0 H0 G H σ D,Rw G0 H0 G H σ δ []->Fin G0 H0 D r->t D σ H
def DW(R M:DF)(δ:Dv):Option Ou:=match R δ with
 |some (.nx I)=>M I
 |o=>o
section
variable{X:Cx}{c e:Expr}{f h:Dv->Option PyData}{fa:Dv->Option Bool}{pos p:Pos}{st:Stmt}{sts sts':List Stmt}{F1 F2:DF}
theorem PJ:Mo X [] (fun δ=>some (.nx δ)):=⟨_,Ax,fun δ r h G0 H0 G H σ D R k=>by cases h;exact k _ _ _ R⟩
theorem Bw(h1:DS X st F1)(h2:Mo X sts F2):Mo X (st::sts) (DW F1 F2):=by
 obtain⟨t1,Z,U⟩:=h1;obtain⟨t2,Y,k2⟩:=h2;refine⟨_,AD Z Y,fun δ r h G0 H0 G H σ D R k=>?_⟩;unfold DW at h;split at h
 .rename_i I e1;exact U δ _ e1 G0 H0 G H σ _ R fun M G' H' R'=>k2 I r h G0 H0 G' H' M D R' k
 .rename_i T;refine U δ r h G0 H0 G H σ _ R ?_;cases r with
  |nx I=>exact absurd h (T I)
  |rt x=>exact k
  |bk I=>exact k
  |ct I=>exact k
  |rn xs=>exact k
theorem B0(h1:DS X st F1):Mo X [st] F1:=by
 obtain⟨t1,I,M⟩:=h1;exact⟨_,AH I,M⟩
theorem Ik(M:DE X e f):DS X (.Return (some e) pos) (fun δ=>(f δ).map .rt):=by
 obtain⟨t,p,k⟩:=M;refine⟨_,Ae p,fun δ r h G0 H0 G H σ D R q=>?_⟩;obtain⟨x,T,rfl⟩:=aH.mp h;exact k δ x T G0 H0 G H σ [] _ R fun v U H' I=>q v U H' I.ext I.new I.ins I.keep (I.CD _ (.head _))
theorem Vt(I:DT X c fa)(h1:Mo X sts F1)(h2:Mo X sts' F2):DS X (.If c sts sts' pos) (fun δ=>(fa δ).bind fun c=>if c=true then F1 δ else F2 δ):=by
 obtain⟨tc,pc,kc⟩:=I;obtain⟨t1,Z,k1⟩:=h1;obtain⟨t2,Y,k2⟩:=h2;refine⟨_,BL pc Z Y,fun δ r h G0 H0 G H σ D R q=>?_⟩;obtain⟨i,h3,M⟩:=aE.mp h;refine kc δ i h3 G0 H0 G H σ [] _ R fun U H' T=>?_;split
 .rename_i I;rw[if_pos I]at M;exact k1 δ r M G0 H0 U H' σ D T q
 .rename_i I;rw[if_neg I]at M;exact k2 δ r M G0 H0 U H' σ D T q
end
section
variable{G0 H0 G H:Hp}{σ:St}{δ:Dv}{ts:List (PyData×V)}
theorem Rw.KP{i:Nat}{x:PyData}{v:V}(r:Rw G0 H0 G H σ δ ((x,v)::ts)):Rw G0 H0 G H (σ.set i (some v)) (δ.set i (.d x)) ts:=by
 have hl:=r.len;refine⟨r.ext,r.new,r.ins,r.keep,by simp[hl],fun j y h=>?_,fun j ys h=>?_,fun j l ys Z Y R M=>?_,fun q hq=>r.CD q (.tail _ hq)⟩
 .by_cases I:i=j
  .subst I;by_cases hi:i<δ.length
   .rw[List.getElem?_set_self hi]at h;cases h;exact⟨v,by rw[List.getElem?_set_self (by lia)],r.CD _ (.head _)⟩
   .rw[List.getElem?_eq_none (by simp;lia)]at h;cases h
  .rw[List.getElem?_set_ne I]at h;obtain⟨w,U,T⟩:=r.dat j y h;exact⟨w,by rw[List.getElem?_set_ne I];exact U,T⟩
 .by_cases I:i=j
  .subst I;by_cases hi:i<δ.length
   .rw[List.getElem?_set_self hi]at h;cases h
   .rw[List.getElem?_eq_none (by simp;lia)]at h;cases h
  .rw[List.getElem?_set_ne I]at h;obtain⟨w,U,T,k3⟩:=r.own j ys h;exact⟨w,U,by rw[List.getElem?_set_ne I];exact T,k3⟩
 .have nj:i≠j:=fun z=>by
   subst z;by_cases hi:i<δ.length
   .rw[List.getElem?_set_self hi]at R;cases R
   .rw[List.getElem?_eq_none (by simp;lia)]at R;cases R
  have nl:i≠l:=fun z=>by
   subst z;by_cases hi:i<δ.length
   .rw[List.getElem?_set_self hi]at M;cases M
   .rw[List.getElem?_eq_none (by simp;lia)]at M;cases M
  rw[List.getElem?_set_ne nj]at R ⊢;rw[List.getElem?_set_ne nl]at M ⊢;exact r.apart j l ys Z Y R M
end
section
variable{X:Cx}{e:Expr}{f:Dv->Option PyData}{pos p:Pos}
theorem JH{i:Nat}{x:Str}{I:Pos}(Z:X.N.Nodup)(hi:X.N[i]? = some x)(M:Loc X.env.scope x)(Y:DE X e f)(T:swapsWith e (some (.Name x I)) pos.line X.env=pure false:=by rfl)(U:X.fn x=true\/X.env.scope.names.lookup x=some .local:=by first|exact .inl rfl|exact .inr rfl|assumption) :
  DS X (.Assign [.Name x I] e pos) (fun δ=>(f δ).map fun y=>.nx (δ.set i (.d y))):=by
 obtain⟨t,p,k⟩:=Y;refine⟨_,AX Z hi M p T U,fun δ r h G0 H0 G H σ D R q=>?_⟩;obtain⟨y,h1,rfl⟩:=aH.mp h;exact k δ y h1 G0 H0 G H σ [] _ R fun v G' H' R'=>q _ _ _ R'.KP
end
section
variable{G0 H0 G H:Hp}{σ:St}{δ:Dv}{ts:List (PyData×V)}
theorem Rw.base(r:Rw G0 H0 G H σ δ ts):Rw G H0 G H σ δ ts:={r with ext:=AG.refl G,new:=fun _ _ h=>.inl h}
theorem Nw.trans{M I:Hp}(a:Nw G0 H0 M)(b:Nw M H0 I):Nw G0 H0 I:=fun c o h=>by
 rcases b c o h with z|z|z
 .exact a c o z
 .exact .inr (.inl z)
 .exact .inr (.inr z)
theorem Rw.R8{R H':Hp}{I:St}{δ':Dv}{M:List (PyData×V)}(r:Rw G0 H0 G H σ δ ts)(q:Rw G H0 R H' I δ' M):Rw G0 H0 R H' I δ' M:={q with ext:=r.ext.trans q.ext,new:=r.new.trans q.new}
theorem Rw.f7{i:Nat}{xs:Oc}{ys:HO}{a:Addr}(r:Rw G0 H0 G H σ δ ts)(d:Kj G a xs ys)(ha:H a=none):Rw G0 H0 G (upd H a ys) (σ.set i (some (.ref a))) (δ.set i (.own xs)) ts:=by
 have hG:G a=none:=by
  cases q:G a with
  |none=>rfl
  |some u=>rw[r.ins _ _ q]at ha;cases ha
 have h0:H0 a=none:=by
  cases q:H0 a with
  |none=>rfl
  |some u=>rw[r.keep _ _ q]at ha;cases ha
 have e:AG H (upd H a ys):=AL ha _;have hl:=r.len;have other:∀(j:Nat) (M:Oc),i≠j->(δ.set i (.own xs))[j]? = some (L.own M)->δ[j]? = some (L.own M):=fun j M I h=>by rw[List.getElem?_set_ne I]at h;exact h
 have R:∀(j:Nat) (M:Oc),δ[j]? = some (L.own M)->σ[j]?≠some (some (V.ref a)):=fun j M h z=>by
  obtain⟨b,us,U,m2,m3,m4,m5⟩:=r.own j M h;rw[z]at U;cases U;rw[m4]at ha;cases ha
 refine⟨r.ext,r.new,r.ins.trans e,r.keep.trans e,by simp[hl],fun j y h=>?_,fun j M h=>?_,fun j l us ws hjl Y T=>?_,r.CD⟩
 .by_cases I:i=j
  .subst I;by_cases hi:i<δ.length
   .rw[List.getElem?_set_self hi]at h;cases h
   .rw[List.getElem?_eq_none (by simp;lia)]at h;cases h
  .rw[List.getElem?_set_ne I]at h;obtain⟨w,U,m2⟩:=r.dat j y h;exact⟨w,by rw[List.getElem?_set_ne I];exact U,m2⟩
 .by_cases I:i=j
  .subst I;by_cases hi:i<δ.length
   .rw[List.getElem?_set_self hi]at h;cases h;exact⟨a,ys,by rw[List.getElem?_set_self (by lia)],hG,h0,AF,d⟩
   .rw[List.getElem?_eq_none (by simp;lia)]at h;cases h
  .have h:=other j M I h;obtain⟨b,us,U,m2,m3,m4,m5⟩:=r.own j M h;exact⟨b,us,by rw[List.getElem?_set_ne I];exact U,m2,m3,e _ _ m4,m5⟩
 .by_cases I:i=j
  .subst I;have Z:i≠l:=hjl;have T:=other l ws Z T;by_cases hi:i<δ.length
   .rw[List.getElem?_set_self (by lia),List.getElem?_set_ne Z];exact fun z=>R l ws T z.symm
   .rw[List.getElem?_eq_none (by simp;lia)]at Y;cases Y
  .have Y:=other j us I Y;by_cases hk:i=l
   .subst hk;by_cases hi:i<δ.length
    .rw[List.getElem?_set_self (by lia),List.getElem?_set_ne I];exact fun z=>R j us Y z
    .rw[List.getElem?_eq_none (by simp;lia)]at T;cases T
   .have T:=other l ws hk T;rw[List.getElem?_set_ne I,List.getElem?_set_ne hk];exact r.apart j l us ws hjl Y T
theorem Rw.ZN{i:Nat}{xs M:Oc}{ys:HO}{a:Addr}(r:Rw G0 H0 G H σ δ ts)(hi:δ[i]? = some (.own xs))(ha:σ[i]? = some (some (.ref a)))(d:Kj G a M ys):Rw G0 H0 G (upd H a ys) σ (δ.set i (.own M)) ts:=by
 obtain⟨a',ys0,k1,k2,k3,k4,k5⟩:=r.own i xs hi;rw[ha]at k1;cases k1;have T:i<δ.length:=(aB.mp hi).1;have hl:=r.len;refine⟨r.ext,r.new,fun b o h=>?_,fun b o h=>?_,by simp[hl],fun j y h=>?_,fun j zs h=>?_,fun j l us ws Y h1 Z=>?_,r.CD⟩
 .rw[AE (fun z=>by subst z;rw[k2]at h;cases h)];exact r.ins _ _ h
 .rw[AE (fun z=>by subst z;rw[k3]at h;cases h)];exact r.keep _ _ h
 .by_cases I:i=j
  .subst I;rw[List.getElem?_set_self T]at h;cases h
  .rw[List.getElem?_set_ne I]at h;exact r.dat j y h
 .by_cases I:i=j
  .subst I;rw[List.getElem?_set_self T]at h;cases h;exact⟨a,ys,ha,k2,k3,AF,d⟩
  .rw[List.getElem?_set_ne I]at h;obtain⟨b,us,m1,m2,m3,m4,m5⟩:=r.own j zs h;have nb:b≠a:=fun z=>by subst z;exact r.apart i j xs zs I hi h (by rw[ha,m1])
   exact⟨b,us,m1,m2,m3,by rw[AE nb];exact m4,m5⟩
 .have f:∀(j:Nat) (us:Oc),(δ.set i (.own M))[j]? = some (L.own us)->∃R,δ[j]? = some (L.own R):=fun j us h=>by
   by_cases I:i=j
   .subst I;exact⟨xs,hi⟩
   .rw[List.getElem?_set_ne I]at h;exact⟨us,h⟩
  obtain⟨R,h1⟩:=f j us h1;obtain⟨U,Z⟩:=f l ws Z;exact r.apart j l R U Y h1 Z
end
section
variable{X:Cx}{a b e:Expr}{es:List Expr}{f g h:Dv->Option PyData}{fs:Dv->Option (List PyData)}{pos p:Pos}   
theorem eu{i:Nat}{x:Str}{I T:Pos}(hN:X.N.Nodup)(hi:X.N[i]? = some x)(Y:Loc X.env.scope x)(ha:DA X es fs)(Z:swapsWith (.List es T) (some (.Name x I)) pos.line X.env=pure false:=by rfl)(hf:X.fn x=true\/X.env.scope.names.lookup x=some .local:=by first|exact .inl rfl|exact .inr rfl|assumption) :
  DS X (.Assign [.Name x I] (.List es T) pos) (fun δ=>((fs δ).bind Gs).map fun ys=>.nx (δ.set i (.own (.lst ys)))):=by
 obtain⟨t,p,k⟩:=ha;refine⟨_,AX hN hi Y (B8 p) Z hf,fun δ r h G0 H0 G H σ D R q=>?_⟩;obtain⟨y,h1,rfl⟩:=aH.mp h;obtain⟨xs,h2,h3⟩:=aE.mp h1;obtain⟨rfl,hl⟩:=LH h3;refine k δ _ h2 G0 H0 G H σ [] _ R fun vs G1 H1 R1 U=>?_;obtain⟨d,R2⟩:=R1.args U;exact⟨GH (by rw[U];exact hl),fun l M=>q _ _ _ (R2.f7 ⟨_,rfl,d⟩ M)⟩
def ow(i:Nat)(δ:Dv):Option (List PyData):=match δ[i]? with
 |some (.own (.lst xs))=>some xs
 |_=>none
theorem Nn{i:Nat}{δ:Dv}{xs:List PyData}(h:ow i δ=some xs):δ[i]? = some (.own (.lst xs)):=by
 unfold ow at h;split at h
 .rename_i y e;cases h;exact e
 .cases h
theorem We{i:Nat}{x:Str}{np ap cp:Pos}(hv:PE X (.Name x np) (NV i))(he:DE X e f)
 (hP:∀ {Y:TE} {t:TA},PE X (.Name x np) Y->PA X [e] t->PS X (.Expr (.Call (.Attribute (.Name x np) "append" ap) [e] [] cp) pos) (Zb (i8 X.K "list" UG Y t)))(M:starEach [e] X.env=(false,eval e X.env)::starEach [] X.env:=by rfl) :
  DS X (.Expr (.Call (.Attribute (.Name x np) "append" ap) [e] [] cp) pos) (fun δ=>(f δ).bind fun y=>(ow i δ).bind fun xs=>if xs.length<EX then some (.nx (δ.set i (.own (.lst (xs++[y]))))) else none):=by
 obtain⟨t,p,k⟩:=he;refine⟨_,hP hv (AA p AB M),fun δ r h G0 H0 G H σ D R q=>?_⟩;obtain⟨y,h1,h2⟩:=aE.mp h;obtain⟨xs,h3,T⟩:=aE.mp h2;split at T
 .rename_i hl;cases T;have hi:=Nn h3;obtain⟨a,_,I,k2,k3,k4,⟨ys,rfl,k5⟩⟩:=R.own i _ hi;refine⟨.ref a,I,.inl ⟨rfl,ys,AQ.of k4⟩,?_⟩;refine k δ y h1 G0 H0 G H σ [] _ R fun u G1 H1 U=>?_;obtain⟨a',_,m1,m2,m3,m4,⟨zs,rfl,Z⟩⟩:=U.own i _ hi;rw[I]at m1;cases m1;refine⟨a,zs,u,rfl,rfl,m4,O6 (by rw[Z.len];lia),?_⟩;exact q _ _ _ (U.drop.ZN hi I ⟨_,rfl,Z.app (.cons (U.CD _ (.head _)) .nil)⟩)
 .cases T
theorem Xv{i:Nat}{x:Str}{np:Pos}(hv:PE X (.Name x np) (NV i))(hb:DE X b g)(hs:Og b):DE X (.Subscript (.Name x np) b pos) (fun δ=>(g δ).bind fun y=>(ow i δ).bind fun xs=>(Nj y).bind fun k=>DN xs k):=by
 obtain⟨tb,Z,kb⟩:=hb;refine⟨_,A0 EB hv Z hs,fun δ z hz G0 H0 G H σ ts Q Y k=>?_⟩;obtain⟨y,h1,h2⟩:=aE.mp hz;obtain⟨xs,T,h4⟩:=aE.mp h2;obtain⟨j,h5,h6⟩:=aE.mp h4;have:=OI h5;subst this;obtain⟨a,_,R,k2,k3,k4,⟨ys,rfl,k5⟩⟩:=Y.own i _ (Nn T);refine⟨.ref a,R,?_⟩;refine kb δ _ h1 G0 H0 G H σ ts _ Y fun v G1 H1 I=>?_;have U:=I.CD _ (.head _);rw[Du]at U;obtain⟨a',_,M,m2,m3,m4,⟨us,rfl,m5⟩⟩:=I.own i _ (Nn T);rw[R]at M;cases M;obtain⟨w,h7,h8⟩:=m5.DN h6;exact⟨a,us,j,w,rfl,U,AQ.of m4,h7,k _ _ _ (I.drop.put h8)⟩
end
structure JY(J:It)(xs:List PyData)(G:Hp):Prop where
 stop:∀H,AG G H->J.stop xs.length H
 go:∀(i:Nat) (d:PyData) H,xs[i]? = some d->AG G H->J.go i H
 EJ:∀(i:Nat) (d:PyData) H x H',xs[i]? = some d->AG G H->J.EJ i H x H'->∀Gc,AG G Gc->AG Gc H->∃Gc',AG Gc Gc'/\Nw Gc H Gc'/\AG Gc' H'/\AG H H'/\Du Gc' d x
theorem Nw.refl{G H:Hp}:Nw G H G:=fun _ _ h=>.inl h
theorem Z5{K:PySem.W.Frag}{G:Hp}{a:Addr}{ys:List V}{xs:List PyData}(ha:G a=some (.lst ys))(d:Aj G xs ys):JY (T6 K a) xs G where
 stop:=fun H e=>⟨ys,AQ.of (e _ _ ha),by rw[d.len];exact aG _⟩
 go:=fun i x H hx e=>by
  obtain⟨v,h1,_⟩:=d.get hx;exact⟨ys,v,AQ.of (e _ _ ha),h1⟩
 EJ:=fun i x H v H' hx e y Gc e1 e2=>by
  obtain⟨rfl,y⟩:=y;have h1:=y ys (AQ.of (e _ _ ha));obtain⟨x',h2,h3⟩:=d.back h1;rw[hx]at h2;cases h2;exact⟨Gc,AG.refl _,Nw.refl,e2,AG.refl _,h3.same e1⟩
theorem fS{K:PySem.W.Frag}{G:Hp}{a:Addr}{ys:List V}{xs:List PyData}(ha:G a=some (.tup ys))(d:Aj G xs ys):JY (UK K a) xs G where
 stop:=fun H e=>⟨ys,Ao.of (e _ _ ha),by rw[d.len];exact aG _⟩
 go:=fun i x H hx e=>by
  obtain⟨v,h1,_⟩:=d.get hx;exact⟨ys,v,Ao.of (e _ _ ha),h1⟩
 EJ:=fun i x H v H' hx e y Gc e1 e2=>by
  obtain⟨rfl,y⟩:=y;have h1:=y ys (Ao.of (e _ _ ha));obtain⟨x',h2,h3⟩:=d.back h1;rw[hx]at h2;cases h2;exact⟨Gc,AG.refl _,Nw.refl,e2,AG.refl _,h3.same e1⟩
def DX(lo:Int)(n:Nat):List PyData:=(List.range n).map fun k=>.int (lo+(k:Nat))
theorem Wg{G:Hp}{lo:Int}{n:Nat}:JY (Pr lo n) (DX lo n) G where
 stop:=fun H e=>by show n<=_;simp[DX]
 go:=fun i x H hx e=>by
  have:=(aB.mp hx).1;show i<n
  simpa[DX]using this
 EJ:=fun i x H v H' hx e y Gc e1 e2=>by
  obtain⟨rfl,rfl⟩:=y;unfold DX at hx;rw[List.getElem?_map]at hx;obtain⟨k,h1,rfl⟩:=aH.mp hx;have hk:k=i:=by
   have:=(aB.mp h1).1;rw[List.getElem?_range (by simpa using this)]at h1;cases h1;rfl
  subst hk;exact⟨Gc,AG.refl _,Nw.refl,e2,AG.refl _,by rw[Du]⟩
theorem Nd{Gc H:Hp}{p:Addr}{Y U:PyData}{M I:V}(T:AG Gc H)(R:H p=none)(h1:Du Gc Y M)(h2:Du Gc U I) :
  ∃Gc',AG Gc Gc'/\Nw Gc H Gc'/\AG Gc' (upd H p (.tup [M,I]))/\AG H (upd H p (.tup [M,I]))/\Du Gc' (.tuple [Y,U]) (.ref p):=by
 have Z:Gc p=none:=by
  cases q:Gc p with
  |none=>rfl
  |some u=>rw[T _ _ q]at R;cases R
 have e:AG Gc (upd Gc p (.tup [M,I])):=AL Z _;refine⟨upd Gc p (.tup [M,I]),e,fun a o h=>?_,fun a o h=>?_,AL R _,?_⟩
 .by_cases ha:a=p
  .subst ha;exact .inr (.inl R)
  .rw[AE ha]at h;exact .inl h
 .by_cases ha:a=p
  .subst ha;rw[AF]at h ⊢;exact h
  .rw[AE ha]at h ⊢;exact T _ _ h
 .rw[Du];exact⟨p,[M,I],rfl,AF,.cons (h1.same e) (.cons (h2.same e) .nil)⟩
def Gg(xs:List PyData):List PyData:=xs.zipIdx.map fun q=>.tuple [.int (q.2:Nat),q.1]
theorem HX{xs:List PyData}{i:Nat}{d:PyData}(h:(Gg xs)[i]? = some d):∃x,xs[i]? = some x/\d=.tuple [.int (i:Nat),x]:=by
 unfold Gg at h;rw[List.getElem?_map]at h;obtain⟨q,I,rfl⟩:=aH.mp h;rw[List.getElem?_zipIdx]at I;obtain⟨x,M,rfl⟩:=aH.mp I;exact⟨x,M,by simp⟩
theorem YI{K:PySem.W.Frag}{G:Hp}{a:Addr}{ys:List V}{xs:List PyData}(ha:G a=some (.tup ys))(d:Aj G xs ys):JY (fv K a) (Gg xs) G where
 stop:=fun H e=>⟨ys,Ao.of (e _ _ ha),by rw[d.len];simp[Gg]⟩
 go:=fun i x H hx e=>by
  obtain⟨x',h0,rfl⟩:=HX hx;obtain⟨v,h1,_⟩:=d.get h0;exact⟨ys,v,Ao.of (e _ _ ha),h1⟩
 EJ:=fun i x H v H' hx e y Gc e1 e2=>by
  obtain⟨x',h0,rfl⟩:=HX hx;obtain⟨p,u,rfl,hp,rfl,y⟩:=y;have h1:=y ys (Ao.of (e _ _ ha));obtain⟨x2,h2,h3⟩:=d.back h1;rw[h0]at h2;cases h2;exact Nd e2 hp (by rw[Du]) (h3.same e1)
theorem X2{K:PySem.W.Frag}{G:Hp}{a:Addr}{ys:List V}{xs:List PyData}(ha:G a=some (.lst ys))(d:Aj G xs ys):JY (UQ K a) (Gg xs) G where
 stop:=fun H e=>⟨ys,AQ.of (e _ _ ha),by rw[d.len];simp[Gg]⟩
 go:=fun i x H hx e=>by
  obtain⟨x',h0,rfl⟩:=HX hx;obtain⟨v,h1,_⟩:=d.get h0;exact⟨ys,v,AQ.of (e _ _ ha),h1⟩
 EJ:=fun i x H v H' hx e y Gc e1 e2=>by
  obtain⟨x',h0,rfl⟩:=HX hx;obtain⟨p,u,rfl,hp,rfl,y⟩:=y;have h1:=y ys (AQ.of (e _ _ ha));obtain⟨x2,h2,h3⟩:=d.back h1;rw[h0]at h2;cases h2;exact Nd e2 hp (by rw[Du]) (h3.same e1)
def EL(xs ys:List PyData):List PyData:=(xs.zip ys).map fun q=>.tuple [q.1,q.2]
theorem Ir{xs ys:List PyData}{i:Nat}{d:PyData}(h:(EL xs ys)[i]? = some d):∃x y,xs[i]? = some x/\ys[i]? = some y/\d=.tuple [x,y]:=by
 unfold EL at h;rw[List.getElem?_map]at h;obtain⟨q,R,rfl⟩:=aH.mp h;obtain⟨M,I⟩:=List.getElem?_zip_eq_some.mp R;exact⟨q.1,q.2,M,I,rfl⟩
theorem gF{G:Hp}{b1 b2:Bool}{a1 a2:Addr}{us vs:List V}{xs ys:List PyData}(h1:G a1=some (if b1 then .tup us else .lst us))(h2:G a2=some (if b2 then .tup vs else .lst vs))(d1:Aj G xs us)(d2:Aj G ys vs):JY (fx b1 b2 a1 a2) (EL xs ys) G where
 stop:=fun H e=>by
  have k1:=e _ _ h1;have k2:=e _ _ h2;refine⟨us,vs,?_,?_,?_⟩
  .cases b1<;>simpa[FD]using k1
  .cases b2<;>simpa[FD]using k2
  .rw[d1.len,d2.len];simp[EL];lia
 go:=fun i x H hx e=>by
  obtain⟨x1,x2,k1,k2,rfl⟩:=Ir hx;obtain⟨v1,k3,_⟩:=d1.get k1;obtain⟨v2,k4,_⟩:=d2.get k2;have m1:=e _ _ h1;have m2:=e _ _ h2;refine⟨us,v1,vs,v2,?_,?_,k3,k4⟩
  .cases b1<;>simpa[FD]using m1
  .cases b2<;>simpa[FD]using m2
 EJ:=fun i x H v H' hx e y Gc e1 e2=>by
  obtain⟨x1,x2,k1,k2,rfl⟩:=Ir hx;obtain⟨p,v1,v2,rfl,hp,rfl,y1,y2⟩:=y;have m1:=e _ _ h1;have m2:=e _ _ h2;have z1:=y1 us (by cases b1<;>simpa[FD]using m1);have z2:=y2 vs (by cases b2<;>simpa[FD]using m2);obtain⟨w1,n1,n2⟩:=d1.back z1;obtain⟨w2,n3,n4⟩:=d2.back z2;rw[k1]at n1;cases n1;rw[k2]at n3;cases n3;exact Nd e2 hp (n2.same e1) (n4.same e1)
def DI(X:Cx)(tg iter:Expr)(f:Dv->Option (List PyData)):Prop:=∃I,PI X tg iter I/\∀δ xs,f δ=some xs->∀G0 H0 G H σ ts (R:It->Hp->Prop),Rw G0 H0 G H σ δ ts->(∀J M H',Rw G0 H0 M H' σ δ ts->JY J xs M->R J H')->I σ H R
section
variable{X:Cx}{tg a b e:Expr}{f g h:Dv->Option PyData}{fs:Dv->Option (List PyData)}{pos p:Pos}{sts:List Stmt}{F:DF}
theorem PI.or{T M:TI}(h:PI X tg e T)(h':PI X tg e M):PI X tg e (fun σ H R=>T σ H R\/M σ H R):=fun pins s σ H R I q=>by
 rcases q with q|q
 .exact h pins s σ H R I q
 .exact h' pins s σ H R I q
def Ks:PyData->Option (List PyData)
 |.list xs=>some xs
 |.tuple xs=>some xs
 |_=>none
theorem Rb(Z:DE X e f):DI X tg e (fun δ=>(f δ).bind Ks):=by
 obtain⟨t,p,k⟩:=Z;refine⟨_,(BA p).or (XW p),fun δ xs h G0 H0 G H σ ts R Y q=>?_⟩;obtain⟨x,U,M⟩:=aE.mp h;unfold Ks at M;split at M
 .cases M
  left
  refine k δ _ U G0 H0 G H σ ts _ Y fun v G' H' I=>?_;have du:=I.CD _ (.head _);rw[Du]at du;obtain⟨a,ys,rfl,n1,T⟩:=du;exact⟨a,rfl,⟨ys,AQ.of (I.ins _ _ n1)⟩,q _ _ _ I.drop (Z5 n1 T)⟩
 .cases M
  right
  refine k δ _ U G0 H0 G H σ ts _ Y fun v G' H' I=>?_;have du:=I.CD _ (.head _);rw[Du]at du;obtain⟨a,ys,rfl,n1,T⟩:=du;exact⟨a,rfl,⟨ys,Ao.of (I.ins _ _ n1)⟩,q _ _ _ I.drop (fS n1 T)⟩
 .cases M
def Et:List PyData->Option (List PyData)
 |[.int j]=>if -1000000<=j/\j<=1000000 then some (DX 0 j.toNat) else none
 |_=>none
def O3:List PyData->Option (List PyData)
 |[.int i,.int j]=>if -1000000<=i/\i<=1000000/\-1000000<=j/\j<=1000000 then some (DX i (j-i).toNat) else none
 |_=>none
theorem GF(U:Gl X "range")(hm:X.mg "range" = none)(ha:DA X [a] fs)(T:starEach [a] X.env=[(false,eval a X.env)]:=by rfl):DI X tg (.Call (.Name "range" p) [a] [] pos) (fun δ=>(fs δ).bind Et):=by
 obtain⟨t,p,k⟩:=ha;refine⟨_,Cf U hm p T,fun δ xs h G0 H0 G H σ ts R Z q=>?_⟩;obtain⟨x,Y,I⟩:=aE.mp h;refine k δ _ Y G0 H0 G H σ ts _ Z fun vs G' H' R' M=>?_;obtain⟨d,R2⟩:=R'.args M;unfold Et at I;split at I
 .split at I
  .cases I;obtain⟨u,rfl,du⟩:=d.Rn;rw[Du]at du;subst du;exact⟨_,rfl,by lia,by lia,q _ _ _ R2 Wg⟩
  .cases I
 .cases I
theorem Wu(Z:Gl X "range")(hm:X.mg "range" = none)(ha:DA X [a,b] fs)(Y:starEach [a,b] X.env=[(false,eval a X.env),(false,eval b X.env)]:=by rfl)(M:starEach [b] X.env=[(false,eval b X.env)]:=by rfl):DI X tg (.Call (.Name "range" p) [a,b] [] pos) (fun δ=>(fs δ).bind O3):=by
 obtain⟨t,p,k⟩:=ha;refine⟨_,WM Z hm p Y M,fun δ xs h G0 H0 G H σ ts R R0 q=>?_⟩;obtain⟨x,h1,I⟩:=aE.mp h;refine k δ _ h1 G0 H0 G H σ ts _ R0 fun vs G' H' R' U=>?_;obtain⟨d,R2⟩:=R'.args U;unfold O3 at I;split at I
 .split at I
  .cases I;obtain⟨u,v,rfl,du,T⟩:=d.Ky;rw[Du]at du T;subst du T;exact⟨_,_,rfl,⟨by lia,by lia,by lia,by lia⟩,q _ _ _ R2 Wg⟩
  .cases I
 .cases I
def VA:List PyData->Option (List PyData)
 |[.list xs]=>some (Gg xs)
 |[.tuple xs]=>some (Gg xs)
 |_=>none
theorem Z7{elts:List Expr}{x1}{I:Pos}(hg:Gl X "enumerate")(hm:X.mg "enumerate" = none)(ha:DA X [a] fs)(Z:starEach [a] X.env=[(false,eval a X.env)]:=by rfl):DI X (.Tuple elts x1 I) (.Call (.Name "enumerate" p) [a] [] pos) (fun δ=>(fs δ).bind VA):=by
 obtain⟨t,p,k⟩:=ha;refine⟨_,(Kk hg hm p Z).or (Zt hg hm p Z),fun δ xs h G0 H0 G H σ ts R R0 q=>?_⟩;obtain⟨x,h1,M⟩:=aE.mp h;unfold VA at M;split at M
 .cases M
  left
  refine k δ _ h1 G0 H0 G H σ ts _ R0 fun vs G' H' Y U=>?_;obtain⟨d,R2⟩:=Y.args U;obtain⟨u,rfl,du⟩:=d.Rn;rw[Du]at du;obtain⟨a,ys,rfl,n1,T⟩:=du;exact⟨a,rfl,⟨ys,AQ.of (R2.ins _ _ n1)⟩,q _ _ _ R2 (X2 n1 T)⟩
 .cases M
  right
  refine k δ _ h1 G0 H0 G H σ ts _ R0 fun vs G' H' Y U=>?_;obtain⟨d,R2⟩:=Y.args U;obtain⟨u,rfl,du⟩:=d.Rn;rw[Du]at du;obtain⟨a,ys,rfl,n1,T⟩:=du;exact⟨a,rfl,⟨ys,Ao.of (R2.ins _ _ n1)⟩,q _ _ _ R2 (YI n1 T)⟩
 .cases M
def zip2:List PyData->Option (List PyData)
 |[x,y]=>(Ks x).bind fun xs=>(Ks y).map fun ys=>EL xs ys
 |_=>none
theorem J7{G:Hp}{x:PyData}{v:V}{xs:List PyData}(h:Du G x v)(e:Ks x=some xs):∃(b:Bool) (a:Addr) (ys:List V),v=.ref a/\G a=some (if b then .tup ys else .lst ys)/\Aj G xs ys:=by
 unfold Ks at e;split at e
 .cases e;rw[Du]at h;obtain⟨a,ys,rfl,n1,I⟩:=h;exact⟨false,a,ys,rfl,n1,I⟩
 .cases e;rw[Du]at h;obtain⟨a,ys,rfl,n1,I⟩:=h;exact⟨true,a,ys,rfl,n1,I⟩
 .cases e
theorem LK{elts:List Expr}{x1}{I:Pos}(hg:Gl X "zip")(hm:X.mg "zip" = none)(ha:DA X [a,b] fs)(hs:starEach [a,b] X.env=[(false,eval a X.env),(false,eval b X.env)]:=by rfl)(T:starEach [b] X.env=[(false,eval b X.env)]:=by rfl) :
  DI X (.Tuple elts x1 I) (.Call (.Name "zip" p) [a,b] [] pos) (fun δ=>(fs δ).bind zip2):=by
 obtain⟨t,p,k⟩:=ha;refine⟨_,Xa hg hm p hs T,fun δ xs h G0 H0 G H σ ts R R0 q=>?_⟩;obtain⟨x,h1,M⟩:=aE.mp h;refine k δ _ h1 G0 H0 G H σ ts _ R0 fun vs G' H' R' hv=>?_;obtain⟨d,R2⟩:=R'.args hv;unfold zip2 at M;split at M
 .obtain⟨Z,h3,h4⟩:=aE.mp M;obtain⟨Y,h5,rfl⟩:=aH.mp h4;obtain⟨u,v,rfl,du,dv⟩:=d.Ky;obtain⟨b1,a1,us,rfl,n1,n2⟩:=J7 du h3;obtain⟨b2,a2,ws,rfl,U,m2⟩:=J7 dv h5;have s1:=R2.ins _ _ n1;have s2:=R2.ins _ _ U;exact⟨b1,b2,a1,a2,rfl,⟨us,by cases b1<;>simpa[FD]using s1⟩,⟨ws,by cases b2<;>simpa[FD]using s2⟩,q _ _ _ R2 (gF n1 U n2 m2)⟩
 .cases M
def DG(X:Cx)(tg:Expr)(set:PyData->Dv->Option Dv):Prop:=∃g,PG X tg g/\∀δ x M,set x δ=some M->∀G0 H0 G H σ v (Q:St->Hp->Prop),Rw G0 H0 G H σ δ [(x,v)]->(∀I R H',Rw G0 H0 R H' I M []->Q I H')->g v σ H Q
theorem PH{i:Nat}{x:Str}(h:PG X (.Name x pos) (C1 i)):DG X (.Name x pos) (fun y δ=>some (δ.set i (.d y))) :=
 ⟨_,h,fun δ y I e G0 H0 G H σ v Q R k=>by cases e;exact k _ _ _ R.KP⟩
def DY(i j:Nat)(y:PyData)(δ:Dv):Option Dv:=match y with
 |.tuple [u,v]=>some ((δ.set i (.d u)).set j (.d v))
 |_=>none
theorem LP{x y:Str}{i j:Nat}{U T:Pos}{Y}(h:PG X (.Tuple [.Name x U,.Name y T] Y pos) (Yw X.K 2 (Nq (C1 i) (Nq (C1 j) YS)))):DG X (.Tuple [.Name x U,.Name y T] Y pos) (DY i j):=by
 refine⟨_,h,fun δ z Z e G0 H0 G H σ v Q R k=>?_⟩;unfold DY at e;split at e
 .cases e;have du:=R.CD _ (.head _);rw[Du]at du;obtain⟨a,ys,rfl,n1,n2⟩:=du;obtain⟨M,I,rfl,m1,m2⟩:=n2.Ky;refine⟨a,[M,I],rfl,Ao.of (R.ins _ _ n1),rfl,M,[I],rfl,I,[],rfl,rfl,?_⟩;exact k _ _ _ (((R.drop.put m2).put m1).KP.KP)
 .cases e
def Jx(set:PyData->Dv->Option Dv)(M:DF):List PyData->Dv->Option Ou
 |[],δ=>some (.nx δ)
 |x::xs,δ=>match (set x δ).bind M with
  |some (.nx I)=>Jx set M xs I
  |some (.ct I)=>Jx set M xs I
  |some (.bk I)=>some (.nx I)
  |some (.rt v)=>some (.rt v)
  |some (.rn v)=>some (.rn v)
  |none=>none
theorem He{set:PyData->Dv->Option Dv}(hp:PassesOwn (model X.prog X.w) X.A X.env X.xe)(hc:X.calm=true)(hi:DI X tg e fs)(hg:DG X tg set)(hb:Mo X sts F)(hs:∀x,foldedSetIterable e X.env x=pure x:=by intro _;rfl) :
  DS X (.For tg e sts [] pos) (fun δ=>(fs δ).bind fun xs=>Jx set F xs δ):=by
 obtain⟨wi,pi,ki⟩:=hi;obtain⟨g,pg,kg⟩:=hg;obtain⟨tb,pb,kb⟩:=hb;refine⟨_,Bg hp hc pi pg pb hs,fun δ r h G0 H0 G H σ D R q=>?_⟩;obtain⟨xs,h1,h2⟩:=aE.mp h;refine ki δ xs h1 G0 H0 G H σ [] _ R fun J Ga Ha Ra it=>?_;refine⟨fun i m M H'=>m=xs.length-i/\i<=xs.length/\∃I G',Jx set F (xs.drop i) I=some r/\Rw G0 H0 G' H' M I []/\AG Ga G',⟨xs.length,by simp,Nat.zero_le _,δ,Ga,by simpa using h2,Ra,AG.refl _⟩,?_⟩;rintro i m σ1 H1 ⟨rfl,hi,δ1,G1,f1,R1,s1⟩;have sH:AG Ga H1:=s1.trans R1.ins;by_cases U:i<xs.length
 .right
  have hx:xs[i]? = some xs[i]:=by simp[U]
  refine⟨it.go i _ H1 hx sH,fun M H'=>i+1<=xs.length/\∃I G',Jx set F (xs.drop (i+1)) I=some r/\Rw G0 H0 G' H' M I []/\AG Ga G',fun M H' n=>⟨xs.length-(i+1),by lia,rfl,n⟩,fun x H' y=>?_⟩;obtain⟨G2,e1,e2,e3,e4,e5⟩:=it.EJ i _ H1 x H' hx sH y G1 s1 R1.ins;have R2:=(R1.lift e1 e2 e3 e4).put e5;have s2:=s1.trans e1;rw[List.drop_eq_getElem_cons U]at f1;unfold Jx at f1;cases hb2:(set xs[i] δ1).bind F with
  |none=>rw[hb2]at f1;cases f1
  |some o=>
   obtain⟨δ2,k1,k2⟩:=aE.mp hb2;rw[hb2]at f1;have R2b:=R2.base;refine kg δ1 _ δ2 k1 G2 H0 G2 H' σ1 x _ R2b fun σ3 G3 H3 R3=>?_;refine kb δ2 o k2 G2 H0 G3 H3 σ3 _ R3 ?_;cases o with
   |nx T=>exact fun Z Y H4 R4=>⟨U,T,Y,f1,R2.drop.R8 R4,s2.trans R4.ext⟩
   |ct T=>exact fun Z Y H4 R4=>⟨U,T,Y,f1,R2.drop.R8 R4,s2.trans R4.ext⟩
   |bk T=>cases f1;exact fun Z Y H4 R4=>q Z Y H4 (R2.drop.R8 R4)
   |rt v=>cases f1;exact fun w Y H4 h1 h2 h3 h4 h5=>q w Y H4 (R2.ext.trans h1) (R2.new.trans h2) h3 h4 h5
   |rn v=>cases f1;exact fun w ys Y H4 h1 h2=>q w ys Y H4 (R2.ext.trans h1) (R2.new.trans h2)
 .left
  have e:i=xs.length:=by lia
  subst e;refine⟨it.stop H1 sH,?_⟩;rw[List.drop_length]at f1;unfold Jx at f1;cases f1;exact q _ _ _ R1
end
def tD(f:Dv->Option PyData):TE:=fun σ H Q=>∃δ x G0 H0 G ts,f δ=some x/\Rw G0 H0 G H σ δ ts/\∀v I H',Rw G0 H0 I H' σ δ ((x,v)::ts)->Q v H'
def V9(f:Dv->Option Bool):TT:=fun σ H Q=>∃δ x G0 H0 G ts,f δ=some x/\Rw G0 H0 G H σ δ ts/\∀I H',Rw G0 H0 I H' σ δ ts->Q x H'
theorem DE.pe{X:Cx}{e:Expr}{f:Dv->Option PyData}(h:DE X e f):PE X e (tD f):=by
 obtain⟨t,p,k⟩:=h;intro pins s σ H Q I q;obtain⟨δ,x,G0,H0,G,ts,T,R,M⟩:=q;exact p pins s σ H Q I (k δ x T G0 H0 G H σ ts Q R M)
def W6(X:Cx)(I:List Expr)(f:Dv->Option Bool):Prop:=KH X I (V9 f)
theorem GG{X:Cx}:W6 X [] (fun _=>some true):=by
 intro pins s σ H Q I q;obtain⟨δ,x,G0,H0,G,ts,T,R,M⟩:=q;cases T;exact Bd pins s σ H Q I (M _ _ R)
def CV(fr:List (Option Nat))(δ:Dv):Dv:=fr.map fun o=>match o with
 |some j=>(match δ[j]? with|some (.d x)=>.d x|_=>.no)
 |none=>.no
theorem Rw.inner{G0 H0 G H:Hp}{σ:St}{δ:Dv}{ts:List (PyData×V)}(fr:List (Option Nat))(r:Rw G0 H0 G H σ δ ts):Rw G H G H (carry fr σ) (CV fr δ) ts:=by
 have key:∀(i:Nat) (l:L),(CV fr δ)[i]? = some l->∃o,fr[i]? = some o/\l=(match o with|some j=>(match δ[j]? with|some (.d x)=>.d x|_=>.no)|none=>.no):=fun i l h=>by
  unfold CV at h;rw[List.getElem?_map]at h;obtain⟨o,R,rfl⟩:=aH.mp h;exact⟨o,R,rfl⟩
 have I:∀(i:Nat) (xs:Oc),(CV fr δ)[i]?≠some (L.own xs):=fun i xs h=>by
  obtain⟨o,_,M⟩:=key i _ h;split at M
  .split at M<;>cases M
  .cases M
 refine⟨AG.refl _,Nw.refl,r.ins,AG.refl _,by simp[carry,CV],fun i x h=>?_,fun i xs h=>absurd h (I i xs),fun i j xs ys _ h=>absurd h (I i xs),r.CD⟩;obtain⟨o,R,M⟩:=key i _ h;split at M
 .rename_i j;split at M
  .rename_i y Y;cases M;obtain⟨v,U,T⟩:=r.dat j _ Y;refine⟨v,?_,T⟩;unfold carry;rw[List.getElem?_map,R];simp[U]
  .cases M
 .cases M
theorem Rw.other{G0 H0 G H:Hp}{σ:St}{δ:Dv}{ts:List (PyData×V)}{D:Addr}{o:HO}(r:Rw G0 H0 G H σ δ ts)(Z:G D=none)(h0:H0 D=none)(Y:∀(i:Nat) (xs:Oc),δ[i]? = some (L.own xs)->σ[i]?≠some (some (V.ref D))):Rw G0 H0 G (upd H D o) σ δ ts:=by
 refine⟨r.ext,r.new,fun a u h=>?_,fun a u h=>?_,r.len,r.dat,fun i xs h=>?_,r.apart,r.CD⟩
 .rw[AE (fun z=>by subst z;rw[Z]at h;cases h)];exact r.ins _ _ h
 .rw[AE (fun z=>by subst z;rw[h0]at h;cases h)];exact r.keep _ _ h
 .obtain⟨a,ys,I,U,T,R,M⟩:=r.own i xs h;exact⟨a,ys,I,U,T,by rw[AE (fun z=>by subst z;exact Y i xs h I)];exact R,M⟩
theorem Rw.adopt{G0 H0 G H:Hp}{σ:St}{δ:Dv}{ts:List (PyData×V)}{D:Addr}{ys:List V}(r:Rw G0 H0 G H σ δ ts)(hD:H D=some (.lst ys))(hG:G D=none)(h0:H0 D=none)(ho:∀(i:Nat) (xs:Oc),δ[i]? = some (L.own xs)->σ[i]?≠some (some (V.ref D))):Rw G0 H0 (upd G D (.lst ys)) H σ δ ts:=by
 have e:AG G (upd G D (.lst ys)):=AL hG _;refine⟨r.ext.trans e,fun a u h=>?_,fun a u h=>?_,r.keep,r.len,fun i x h=>?_,fun i xs h=>?_,r.apart,fun q Z=>(r.CD q Z).same e⟩
 .by_cases ha:a=D
  .subst ha;exact .inr (.inl h0)
  .rw[AE ha]at h;exact r.new _ _ h
 .by_cases ha:a=D
  .subst ha;rw[AF]at h;rw[hD];exact h
  .rw[AE ha]at h;exact r.ins _ _ h
 .obtain⟨v,I,M⟩:=r.dat i x h;exact⟨v,I,M.same e⟩
 .obtain⟨a,R,I,M,Y,U,T⟩:=r.own i xs h;have ha:a≠D:=fun z=>by subst z;exact ho i xs h I
  exact⟨a,R,I,by rw[AE ha];exact M,Y,U,T.same e⟩
def Ht(set:PyData->Dv->Option Dv)(M:Dv->Option Bool)(f:Dv->Option PyData)(δ:Dv)(x:PyData):Option (Option PyData) :=
 (set x δ).bind fun I=>(M I).bind fun b=>if b=true then(f I).map some else some none
def collect(one:PyData->Option (Option PyData)):List PyData->Option (List PyData)
 |[]=>some []
 |x::xs=>(one x).bind fun o=>(collect one xs).map fun r=>o.toList++r
def D6(set:PyData->Dv->Option Dv)(I:Dv->Option Bool)(f:Dv->Option PyData)(fr:List (Option Nat))(fs:Dv->Option (List PyData))(δ:Dv):Option (List PyData) :=
 (fs δ).bind fun xs=>(collect (Ht set I f (CV fr δ)) xs).bind Gs
def Bz(set:PyData->Dv->Option Dv)(I:Dv->Option Bool)(f:Dv->Option PyData)(fr:List (Option Nat))(fs:Dv->Option (List PyData))(δ:Dv):Option PyData :=
 (D6 set I f fr fs δ).map .list
structure UZ(G0 H0 Ga:Hp)(σ:St)(δ:Dv)(ts:List (PyData×V))(one:PyData->Option (Option PyData))(xs full:List PyData)(D:Addr)(i:Nat)(ys:List V)(H:Hp):Prop where
 ex:∃G done rest,Rw G0 H0 G H σ δ ts/\AG Ga G/\G D=none/\collect one (xs.drop i)=some rest/\done++rest=full/\Aj G done ys
 h0:H0 D=none
 ap:∀(j:Nat) (us:Oc),δ[j]? = some (L.own us)->σ[j]?≠some (some (V.ref D))
theorem Om{G0 H0 G H:Hp}{D:Addr}{ys:List V}(M:G0 D=none)(I:H0 D=some (.lst ys))(n:Nw G0 H0 G)(e:AG G H)(k:AG H0 H):G D=none:=by
 cases q:G D with
 |none=>rfl
 |some o=>
  rcases n _ _ q with z|z|⟨us,z⟩
  .rw[M]at z;cases z
  .rw[I]at z;cases z
  .have:=e _ _ q;rw[k _ _ I,z]at this;cases this
section
variable{X:Cx}{elt iter:Expr}{x y:Str}{px pos:Pos}{ifs:List Expr}{scope:Scope}{fs:Dv->Option (List PyData)}{tif:Dv->Option Bool}{f:Dv->Option PyData}
def Cu(i:Nat)(y:PyData)(δ:Dv):Option Dv:=some (δ.set i (.d y))
theorem Nf{wi:TI}{ix:Nat}{fr:List (Option Nat)}(ki:∀(δ:Dv) (xs:List PyData),fs δ=some xs->∀(G0 H0 G H:Hp) (σ:St) (ts:List (PyData×V)) (R:It->Hp->Prop),Rw G0 H0 G H σ δ ts->(∀J G' H',Rw G0 H0 G' H' σ δ ts->JY J xs G'->R J H')->wi σ H R){δ:Dv}{zs:List PyData}(hz:D6 (Cu ix) tif f fr fs δ=some zs){G0 H0 G H:Hp}{σ:St}{ts:List (PyData×V)}{Q:VK}(R0:Rw G0 H0 G H σ δ ts)(k:∀D ys G' H',Rw G0 H0 G' H' σ δ ts->H' D=some (.lst ys)->G' D=none->H0 D=none->(∀(j:Nat) (us:Oc),δ[j]? = some (L.own us)->σ[j]?≠some (some (V.ref D)))->Aj G' zs ys->Q (.ref D) H') :
  MF wi fr ix (V9 tif) (tD f) σ H Q:=by
 unfold D6 at hz;obtain⟨xs,m2,m3⟩:=aE.mp hz;obtain⟨full,m4,m5⟩:=aE.mp m3;obtain⟨rfl,hfew⟩:=LH m5;refine ki δ xs m2 G0 H0 G H σ ts _ R0 fun J Ga Ha Ra it D hD=>?_;have hGD:Ga D=none:=by
  cases q:Ga D with
  |none=>rfl
  |some u=>rw[Ra.ins _ _ q]at hD;cases hD
 have M:H0 D=none:=by
  cases q:H0 D with
  |none=>rfl
  |some u=>rw[Ra.keep _ _ q]at hD;cases hD
 have I:∀(j:Nat) (us:Oc),δ[j]? = some (L.own us)->σ[j]?≠some (some (V.ref D)):=fun j us h z=>by
  obtain⟨a,ys,k1,k2,k3,k4,k5⟩:=Ra.own j us h;rw[z]at k1;cases k1;rw[k4]at hD;cases hD
 refine B5 (n:=xs.length) (UZ G0 H0 Ga σ δ ts (Ht (Cu ix) tif f (CV fr δ)) xs full D) ⟨⟨Ga,[],full,Ra.other hGD M I,AG.refl _,hGD,by simpa using m4,rfl,.nil⟩,M,I⟩ ?_ ?_
 .rintro i ys H1 Z ⟨⟨G1,done,rest,R1,s1,g1,c1,e1,d1⟩,_,_⟩ hD1;have hx:xs[i]? = some xs[i]:=by simp[Z]
  have sH:=s1.trans R1.ins;have hyl:ys.length<sizeLine:=O6 (by
   rw[d1.len];have:done.length<=full.length:=by rw[<-e1];simp
   lia)
  refine⟨it.go i _ H1 hx sH,hyl,fun v H' y=>?_⟩;obtain⟨G2,n1,n2,n3,n4,n5⟩:=it.EJ i _ H1 v H' hx sH y G1 s1 R1.ins;have R2:=R1.lift n1 n2 n3 n4;have hD2:=n4 _ _ hD1;have g2:G2 D=none:=Om g1 hD1 n2 n3 n4;rw[List.drop_eq_getElem_cons Z]at c1;unfold collect at c1;obtain⟨o,c2,c3⟩:=aE.mp c1;obtain⟨T,c4,rfl⟩:=aH.mp c3;unfold Ht Cu at c2;simp only[Option.bind_some]at c2;obtain⟨b,c5,c6⟩:=aE.mp c2;have Ri:=((R2.inner fr).put n5).KP (i:=ix);have Ri0:Rw G2 H' G2 H' ((carry fr σ).set ix (some v)) ((CV fr δ).set ix (.d xs[i])) []:=Ri.less fun q hq=>by cases hq
  refine⟨_,b,G2,H',G2,[],c5,Ri0,fun G3 H3 Y=>?_⟩;have R3o:=R2.lift Y.ext Y.new Y.ins Y.keep;have hD3:=Y.keep _ _ hD2;have g3:G3 D=none:=Om g2 hD2 Y.new Y.ins Y.keep;dsimp only;split
  .rename_i hb;rw[if_pos hb]at c6;obtain⟨w,c7,rfl⟩:=aH.mp c6;refine⟨_,w,G2,H',G3,[],c7,Y,fun u G4 H4 U=>?_⟩;have R4o:=R2.lift U.ext U.new U.ins U.keep;have hD4:=U.keep _ _ hD2;have g4:G4 D=none:=Om g2 hD2 U.new U.ins U.keep;refine⟨hD4,BR Z ⟨⟨G4,done++[w],T,R4o.other g4 M I,s1.trans (n1.trans U.ext),g4,c4,by simpa using e1,(d1.same (n1.trans U.ext)).app (.cons (U.CD _ (.head _)) .nil)⟩,M,I⟩⟩
  .rename_i hb;rw[if_neg hb]at c6;cases c6;exact UP Z hD3 ⟨⟨G3,done,T,R3o,s1.trans (n1.trans Y.ext),g3,c4,by simpa using e1,d1.same (n1.trans Y.ext)⟩,M,I⟩
 .rintro ys H1 ⟨⟨G1,done,rest,R1,s1,g1,c1,e1,d1⟩,_,_⟩ hD1;refine⟨it.stop H1 (s1.trans R1.ins),?_⟩;rw[List.drop_length]at c1;cases c1;rw[List.append_nil]at e1;subst e1;exact k _ _ _ _ R1 hD1 g1 M I d1
theorem Pt{Y:TI}{ix:Nat}{fr:List (Option Nat)}(ki:∀(δ:Dv) (xs:List PyData),fs δ=some xs->∀(G0 H0 G H:Hp) (σ:St) (ts:List (PyData×V)) (R:It->Hp->Prop),Rw G0 H0 G H σ δ ts->(∀J I H',Rw G0 H0 I H' σ δ ts->JY J xs I->R J H')->Y σ H R){δ:Dv}{z:PyData}(hz:Bz (Cu ix) tif f fr fs δ=some z){G0 H0 G H:Hp}{σ:St}{ts:List (PyData×V)}{Q:VK}(R0:Rw G0 H0 G H σ δ ts)(k:∀v I H',Rw G0 H0 I H' σ δ ((z,v)::ts)->Q v H') :
  MF Y fr ix (V9 tif) (tD f) σ H Q:=by
 unfold Bz at hz;obtain⟨full,m1,rfl⟩:=aH.mp hz;refine Nf ki m1 R0 fun D ys Z H1 R1 U g1 T M d1=>?_;have e:AG Z (upd Z D (.lst ys)):=AL g1 _;have R2:=R1.adopt U g1 T M;refine k _ _ _ (R2.put ?_);rw[Du];exact⟨D,ys,rfl,AF,d1.same e⟩
theorem MO(N:List Str)(ix:Nat)(fr:List (Option Nat))(hi:DI X (.Name x px) iter fs)(I:∀cl C s₀ H₀ fp,W6 (Ap X scope cl N C s₀ H₀ fp) ifs tif)(U:∀cl C s₀ H₀ fp,DE (Ap X scope cl N C s₀ H₀ fp) elt f)
 (h1:Bk scope N x ix=true:=by decide +kernel)(h2:X.calm=true:=by rfl)(h3:EF N X.N scope X.env.scope fr 0=true:=by rfl)(Z:fr.length=N.length:=by rfl)(Y:freeOk X.env.scope scope.names=true:=by rfl)
 (T:∀x,foldedSetIterable iter X.env x=pure x:=by intro _;rfl):DE X (.ListComp elt [⟨.Name x px,iter,ifs,0⟩] scope pos) (Bz (Cu ix) tif f fr fs):=by
 obtain⟨wi,pi,M⟩:=hi;exact⟨_,CU N ix fr pi I (fun cl C s₀ H₀ fp=>(U cl C s₀ H₀ fp).pe) h1 h2 h3 Z Y T,fun δ z R G0 H0 G H σ ts Q R0 k=>Pt M R R0 k⟩
theorem Vv{i:Nat}{z:Str}{Y I:Pos}(N:List Str)(ix:Nat)(fr:List (Option Nat))(hN:X.N.Nodup)(hy:X.N[i]? = some z)(T:X.env.scope.names.lookup z=some .local)(hi:DI X (.Name x px) iter fs)(U:∀cl C s₀ H₀ fp,W6 (Ap X scope cl N C s₀ H₀ fp) ifs tif)(he:∀cl C s₀ H₀ fp,DE (Ap X scope cl N C s₀ H₀ fp) elt f)
 (h1:Bk scope N x ix=true:=by decide +kernel)(h2:X.calm=true:=by rfl)(h3:EF N X.N scope X.env.scope fr 0=true:=by rfl)(h4:fr.length=N.length:=by rfl)(h5:freeOk X.env.scope scope.names=true:=by rfl)
 (M:swapsWith (.ListComp elt [⟨.Name x px,iter,ifs,0⟩] scope pos) (some (.Name z Y)) I.line X.env=pure true:=by rfl)
 (hs:∀x,foldedSetIterable iter X.env x=pure x:=by intro _;rfl):DS X (.Assign [.Name z Y] (.ListComp elt [⟨.Name x px,iter,ifs,0⟩] scope pos) I) (fun δ=>(Bz (Cu ix) tif f fr fs δ).map fun y=>.nx (δ.set i (.d y))):=by
 obtain⟨wi,pi,Z⟩:=hi;refine⟨_,El N ix fr hN hy T pi U (fun cl C s₀ H₀ fp=>(he cl C s₀ H₀ fp).pe) h1 h2 h3 h4 h5 M hs,fun δ r h G0 H0 G H σ D R q=>?_⟩;obtain⟨y,h1,rfl⟩:=aH.mp h;exact Pt Z h1 R fun v G' H' R'=>q _ _ _ R'.KP
end
section
variable{X:Cx}{elt iter:Expr}{x y:Str}{px py tp pos:Pos}{tk:Nat}{ifs:List Expr}{scope:Scope}{fs:Dv->Option (List PyData)}{tif:Dv->Option Bool}{f:Dv->Option PyData}
theorem TY{wi:TI}{ix iy:Nat}{fr:List (Option Nat)}(ki:∀(δ:Dv) (xs:List PyData),fs δ=some xs->∀(G0 H0 G H:Hp) (σ:St) (ts:List (PyData×V)) (R:It->Hp->Prop),Rw G0 H0 G H σ δ ts->(∀J G' H',Rw G0 H0 G' H' σ δ ts->JY J xs G'->R J H')->wi σ H R){δ:Dv}{zs:List PyData}(hz:D6 (DY ix iy) tif f fr fs δ=some zs){G0 H0 G H:Hp}{σ:St}{ts:List (PyData×V)}{Q:VK}(R0:Rw G0 H0 G H σ δ ts)(k:∀D ys G' H',Rw G0 H0 G' H' σ δ ts->H' D=some (.lst ys)->G' D=none->H0 D=none->(∀(j:Nat) (us:Oc),δ[j]? = some (L.own us)->σ[j]?≠some (some (V.ref D)))->Aj G' zs ys->Q (.ref D) H') :
  KG X.K wi fr ix iy (V9 tif) (tD f) σ H Q:=by
 unfold D6 at hz;obtain⟨xs,m2,m3⟩:=aE.mp hz;obtain⟨full,m4,m5⟩:=aE.mp m3;obtain⟨rfl,hfew⟩:=LH m5;refine ki δ xs m2 G0 H0 G H σ ts _ R0 fun J Ga Ha Ra it D hD=>?_;have hGD:Ga D=none:=by
  cases q:Ga D with
  |none=>rfl
  |some u=>rw[Ra.ins _ _ q]at hD;cases hD
 have M:H0 D=none:=by
  cases q:H0 D with
  |none=>rfl
  |some u=>rw[Ra.keep _ _ q]at hD;cases hD
 have I:∀(j:Nat) (us:Oc),δ[j]? = some (L.own us)->σ[j]?≠some (some (V.ref D)):=fun j us h z=>by
  obtain⟨a,ys,k1,k2,k3,k4,k5⟩:=Ra.own j us h;rw[z]at k1;cases k1;rw[k4]at hD;cases hD
 refine Gw (n:=xs.length) (UZ G0 H0 Ga σ δ ts (Ht (DY ix iy) tif f (CV fr δ)) xs full D) ⟨⟨Ga,[],full,Ra.other hGD M I,AG.refl _,hGD,by simpa using m4,rfl,.nil⟩,M,I⟩ ?_ ?_
 .rintro i ys H1 Z ⟨⟨G1,done,rest,R1,s1,g1,c1,e1,d1⟩,_,_⟩ hD1;have hx:xs[i]? = some xs[i]:=by simp[Z]
  have sH:=s1.trans R1.ins;have hyl:ys.length<sizeLine:=O6 (by
   rw[d1.len];have:done.length<=full.length:=by rw[<-e1];simp
   lia)
  refine⟨it.go i _ H1 hx sH,hyl,fun v H' y=>?_⟩;obtain⟨G2,n1,n2,n3,n4,n5⟩:=it.EJ i _ H1 v H' hx sH y G1 s1 R1.ins;have R2:=R1.lift n1 n2 n3 n4;have hD2:=n4 _ _ hD1;have g2:G2 D=none:=Om g1 hD1 n2 n3 n4;rw[List.drop_eq_getElem_cons Z]at c1;unfold collect at c1;obtain⟨o,c2,c3⟩:=aE.mp c1;obtain⟨T,c4,rfl⟩:=aH.mp c3;unfold Ht at c2;obtain⟨δ1,c8,c9⟩:=aE.mp c2;obtain⟨b,c5,c6⟩:=aE.mp c9;unfold DY at c8;split at c8
  .rename_i u1 u2 hu;cases c8;rw[hu,Du]at n5;obtain⟨pa,ps,rfl,q1,q2⟩:=n5;obtain⟨w1,w2,rfl,q3,q4⟩:=q2.Ky;have Ri:=(((R2.inner fr).put q4).put q3).KP (i:=ix) |>.KP (i:=iy)
   have Ri0:Rw G2 H' G2 H' (((carry fr σ).set ix (some w1)).set iy (some w2)) (((CV fr δ).set ix (.d u1)).set iy (.d u2)) []:=Ri.less fun q hq=>by cases hq
   refine⟨pa,w1,w2,rfl,Ao.of (n3 _ _ q1),?_⟩;refine⟨_,b,G2,H',G2,[],c5,Ri0,fun G3 H3 Y=>?_⟩;have R3o:=R2.lift Y.ext Y.new Y.ins Y.keep;have hD3:=Y.keep _ _ hD2;have g3:G3 D=none:=Om g2 hD2 Y.new Y.ins Y.keep;dsimp only;split
   .rename_i hb;rw[if_pos hb]at c6;obtain⟨w,c7,rfl⟩:=aH.mp c6;refine⟨_,w,G2,H',G3,[],c7,Y,fun u G4 H4 U=>?_⟩;have R4o:=R2.lift U.ext U.new U.ins U.keep;have hD4:=U.keep _ _ hD2;have g4:G4 D=none:=Om g2 hD2 U.new U.ins U.keep;refine⟨hD4,BR Z ⟨⟨G4,done++[w],T,R4o.other g4 M I,s1.trans (n1.trans U.ext),g4,c4,by simpa using e1,(d1.same (n1.trans U.ext)).app (.cons (U.CD _ (.head _)) .nil)⟩,M,I⟩⟩
   .rename_i hb;rw[if_neg hb]at c6;cases c6;exact UP Z hD3 ⟨⟨G3,done,T,R3o,s1.trans (n1.trans Y.ext),g3,c4,by simpa using e1,d1.same (n1.trans Y.ext)⟩,M,I⟩
  .cases c8
 .rintro ys H1 ⟨⟨G1,done,rest,R1,s1,g1,c1,e1,d1⟩,_,_⟩ hD1;refine⟨it.stop H1 (s1.trans R1.ins),?_⟩;rw[List.drop_length]at c1;cases c1;rw[List.append_nil]at e1;subst e1;exact k _ _ _ _ R1 hD1 g1 M I d1
theorem Vb{Y:TI}{ix Z:Nat}{fr:List (Option Nat)}(ki:∀(δ:Dv) (xs:List PyData),fs δ=some xs->∀(G0 H0 G H:Hp) (σ:St) (ts:List (PyData×V)) (R:It->Hp->Prop),Rw G0 H0 G H σ δ ts->(∀J I H',Rw G0 H0 I H' σ δ ts->JY J xs I->R J H')->Y σ H R){δ:Dv}{z:PyData}(hz:Bz (DY ix Z) tif f fr fs δ=some z){G0 H0 G H:Hp}{σ:St}{ts:List (PyData×V)}{Q:VK}(R0:Rw G0 H0 G H σ δ ts)(k:∀v I H',Rw G0 H0 I H' σ δ ((z,v)::ts)->Q v H') :
  KG X.K Y fr ix Z (V9 tif) (tD f) σ H Q:=by
 unfold Bz at hz;obtain⟨full,m1,rfl⟩:=aH.mp hz;refine TY ki m1 R0 fun D ys G1 H1 R1 U g1 T M d1=>?_;have e:AG G1 (upd G1 D (.lst ys)):=AL g1 _;have R2:=R1.adopt U g1 T M;refine k _ _ _ (R2.put ?_);rw[Du];exact⟨D,ys,rfl,AF,d1.same e⟩
theorem Mk{i:Nat}{z:Str}{pz I:Pos}(N:List Str)(ix M:Nat)(fr:List (Option Nat))(hN:X.N.Nodup)(T:X.N[i]? = some z)(Z:X.env.scope.names.lookup z=some .local)(hi:DI X (.Tuple [.Name x px,.Name y py] tk tp) iter fs)(hif:∀cl C s₀ H₀ fp,W6 (Ap X scope cl N C s₀ H₀ fp) ifs tif)(he:∀cl C s₀ H₀ fp,DE (Ap X scope cl N C s₀ H₀ fp) elt f)
 (h1:Bk scope N x ix=true:=by decide +kernel)(h1':Bk scope N y M=true:=by decide +kernel)(U:ix≠M:=by decide)(h2:X.calm=true:=by rfl)(h3:EF N X.N scope X.env.scope fr 0=true:=by rfl)(h4:fr.length=N.length:=by rfl)(h5:freeOk X.env.scope scope.names=true:=by rfl)
 (Y:swapsWith (.ListComp elt [⟨.Tuple [.Name x px,.Name y py] tk tp,iter,ifs,0⟩] scope pos) (some (.Name z pz)) I.line X.env=pure true:=by rfl)
 (hs:∀x,foldedSetIterable iter X.env x=pure x:=by intro _;rfl):DS X (.Assign [.Name z pz] (.ListComp elt [⟨.Tuple [.Name x px,.Name y py] tk tp,iter,ifs,0⟩] scope pos) I) (fun δ=>(Bz (DY ix M) tif f fr fs δ).map fun y=>.nx (δ.set i (.d y))):=by
 obtain⟨wi,pi,ki⟩:=hi;refine⟨_,L4 N ix M fr hN T Z pi hif (fun cl C s₀ H₀ fp=>(he cl C s₀ H₀ fp).pe) h1 h1' U h2 h3 h4 h5 Y hs,fun δ r h G0 H0 G H σ D R q=>?_⟩;obtain⟨y2,m1,rfl⟩:=aH.mp h;exact Vb ki m1 R fun v G' H' R'=>q _ _ _ R'.KP
def Lj(N:List Str)(ds:List PyData):Dv:=ds.map .d++List.replicate (N.length-ds.length) .no
def HD(ps N:List Str)(F:DF)(ds:List PyData):Option PyData:=if ds.length=ps.length then(match F (Lj N ds) with
 |some (.rt x)=>some x
 |some (.nx _)=>some .none
 |some (.rn xs)=>some (.list xs)
 |_=>none) else none
theorem Rw.start{N:List Str}{ds:List PyData}{vs:List V}{G H:Hp}(d:Aj G ds vs)(e:AG G H):Rw G H G H (start N vs) (Lj N ds) []:=by
 have T:=d.len;refine⟨AG.refl _,Nw.refl,e,AG.refl _,by simp[L2.start,Lj,T],fun i x h=>?_,fun i xs h=>?_,fun i j xs ys _ h=>?_,fun q R=>by cases R⟩
 .unfold Lj at h;by_cases hi:i<ds.length
  .rw[List.getElem?_append_left (by simpa using hi),List.getElem?_map]at h;obtain⟨y,M,I⟩:=aH.mp h;cases I;obtain⟨v,Y,U⟩:=d.get M;refine⟨v,?_,U⟩;unfold L2.start;rw[List.getElem?_append_left (by simp;lia),List.getElem?_map,Y];rfl
  .rw[List.getElem?_append_right (by simpa using hi),List.getElem?_replicate]at h;split at h<;>cases h
 .unfold Lj at h;by_cases hi:i<ds.length
  .rw[List.getElem?_append_left (by simpa using hi),List.getElem?_map]at h;obtain⟨y,M,I⟩:=aH.mp h;cases I
  .rw[List.getElem?_append_right (by simpa using hi),List.getElem?_replicate]at h;split at h<;>cases h
 .unfold Lj at h;by_cases hi:i<ds.length
  .rw[List.getElem?_append_left (by simpa using hi),List.getElem?_map]at h;obtain⟨y,M,I⟩:=aH.mp h;cases I
  .rw[List.getElem?_append_right (by simpa using hi),List.getElem?_replicate]at h;split at h<;>cases h
theorem gV{G H I H':Hp}{a:Addr}{ys:List V}{xs:List PyData}(m1:AG G I)(m2:Nw G H I)(Z:AG I H')(Y:H a=none)(R:I a=none)(U:H' a=some (.lst ys))(T:Aj I xs ys) :
  AG G (upd I a (.lst ys))/\Nw G H (upd I a (.lst ys))/\AG (upd I a (.lst ys)) H'/\Du (upd I a (.lst ys)) (.list xs) (.ref a):=by
 refine⟨m1.trans (AL R _),fun b o M=>?_,fun b o M=>?_,?_⟩
 .by_cases z:b=a
  .subst z;exact .inr (.inl Y)
  .rw[AE z]at M;exact m2 _ _ M
 .by_cases z:b=a
  .subst z;rw[AF]at M;rw[U];exact M
  .rw[AE z]at M;exact Z _ _ M
 .rw[Du];exact⟨a,ys,rfl,AF,T.same (AL R _)⟩
theorem T8{P:Program}{w:World}{K:PySem.W.Frag}{mg:Str->Option Value}{base:Heap}{x:Str}{st:Stmt}{Y:Addr}{fd:FuncData}{N ps:List Str}{k:Nat}{F:DF}(T:Fn K mg x st ps Y fd)(S:Ab N ps (AO st))
 (hb:∀(cdv:Value) (A:Around) (outer:List Env) (s:Shared) (H:Hp) (E:XK),Dz k (A.deeper (envOfC x (AO st) s.heap.objs.size Y cdv))->Mo (Lx AZ P w K mg base N x (AO st) Y cdv A outer s H E).UR (De st) F) :
  AM P w K mg base AZ (k+1) Y fd ps (Dh (HD ps N F)):=by
 refine T.F.ok S (fun vs H Q E h=>?_) fun cdv A outer s H vs Q E hr h=>?_
 .obtain⟨ds,y,G,I,M,_⟩:=h;unfold HD at I;split at I
  .rename_i hl;rw[M.len];exact hl
  .cases I
 .obtain⟨ds,y,G,I,M,h3,h4⟩:=h;obtain⟨t,p,kk⟩:=hb cdv A outer s H E hr;refine⟨t,p,?_⟩;unfold HD at I;split at I
  .split at I
   .rename_i z U;cases I;exact kk _ _ U G H G H _ _ (Rw.start M h3) fun v Z H' m1 m2 m3 m4 m5=>h4 v Z H' m1 m2 m3 m4 m5
   .rename_i δ U;cases I;exact kk _ _ U G H G H _ _ (Rw.start M h3) fun σ' Z H' R=>h4 .BJ Z H' R.ext R.new R.ins R.keep (by rw[Du])
   .rename_i xs U;cases I;exact kk _ _ U G H G H _ _ (Rw.start M h3) fun a ys Z H' m1 m2 m3 m4 m5 m6 m7 m8=>let⟨n1,n2,n3,n4⟩:=gV m1 m2 m3 m5 m6 m7 m8;h4 _ _ H' n1 n2 n3 m4 n4
   .cases I
  .cases I
end
section
variable{X:Cx}{a e:Expr}{f h:Dv->Option PyData}{pos p p2:Pos}   
def DO(X:Cx)(o:Option Expr)(f:Dv->Option (Option Int)):Prop:=∃t,PO X o t/\∀δ x,f δ=some x->∀G0 H0 G H σ ts (Q:Option Int->Hp->Prop),Rw G0 H0 G H σ δ ts->(∀I H',Rw G0 H0 I H' σ δ ts->Q x H')->t σ H Q
variable{fo fu:Dv->Option (Option Int)}{lo hi:Option Expr}
theorem b0:DO X none (fun _=>some none):=⟨_,Ih,fun δ x h G0 H0 G H σ ts Q r k=>by cases h;exact k _ _ r⟩
theorem Z0(R:DE X e f):DO X (some e) (fun δ=>(f δ).bind fun x=>(Nj x).map some):=by
 obtain⟨t,p,k⟩:=R;refine⟨_,Ig p,fun δ z h G0 H0 G H σ ts Q r q=>?_⟩;obtain⟨x,Y,U⟩:=aE.mp h;obtain⟨i,T,rfl⟩:=aH.mp U;have:=OI T;subst this;refine k δ _ Y G0 H0 G H σ ts _ r fun v Z H' M=>?_;have I:=M.CD _ (.head _);rw[Du]at I;exact⟨i,I,q _ _ M.drop⟩
def cutD(xs:List PyData)(lo hi:Option Int):List PyData:=(xs.drop (HT.BC xs.length 0 lo)).take (HT.BC xs.length xs.length hi-HT.BC xs.length 0 lo)
theorem Aj.cut{H:Hp}{ds:List PyData}{xs:List V}(h:Aj H ds xs)(lo hi:Option Int):Aj H (cutD ds lo hi) (B6 xs lo hi):=by
 unfold cutD B6;rw[h.len];exact(h.drop _).take _
def VV(x:PyData)(lo hi:Option Int):Option PyData:=match x with
 |.list xs=>some (.list (cutD xs lo hi))
 |.tuple xs=>if ¬(HT.BC xs.length 0 lo=0/\HT.BC xs.length xs.length hi=xs.length) then some (.tuple (cutD xs lo hi)) else none
 |_=>none
theorem X8(he:DE X e f)(hl:DO X lo fo)(hh:DO X hi fu):DE X (.Subscript e (.Slice lo hi none p2) pos) (fun δ=>(f δ).bind fun x=>(fo δ).bind fun l=>(fu δ).bind fun u=>VV x l u):=by
 obtain⟨te,pe,ke⟩:=he;obtain⟨tl,U,Z⟩:=hl;obtain⟨th,Y,kh⟩:=hh;refine⟨_,Gz (MG.or SO) pe U Y,fun δ z hz G0 H0 G H σ ts Q R0 k=>?_⟩;obtain⟨x,h1,h2⟩:=aE.mp hz;obtain⟨l,h3,h4⟩:=aE.mp h2;obtain⟨u,h5,I⟩:=aE.mp h4;refine ke δ x h1 G0 H0 G H σ ts _ R0 fun v G1 H1 R1=>?_;refine Z δ l h3 G0 H0 G1 H1 σ _ _ R1 fun G2 H2 R2=>?_;refine kh δ u h5 G0 H0 G2 H2 σ _ _ R2 fun G3 H3 M=>?_;have du:=M.CD _ (.head _);unfold VV at I;split at I
 .cases I;rw[Du]at du;obtain⟨a,ys,rfl,n1,R⟩:=du;exact .inl ⟨a,ys,rfl,AQ.of (M.ins _ _ n1),fun q T=>k _ _ _ (M.drop.Y5 (R.cut l u) T)⟩
 .split at I
  .rename_i hc;cases I;rw[Du]at du;obtain⟨a,ys,rfl,n1,R⟩:=du;exact .inr ⟨a,ys,rfl,Ao.of (M.ins _ _ n1),by rw[R.len];exact hc,fun q T=>k _ _ _ (M.drop.fT (R.cut l u) T)⟩
  .cases I
 .cases I
end
open PySem
abbrev fC(x:PyData):Dv->Option PyData:=fun _=>some x
abbrev jT(f:Dv->Option PyData):Dv->Option PyData:=fun δ=>(f δ).bind fun x=>(Nj x).map fun i=>.int (-i)
abbrev An:Dv->Option (List PyData):=fun _=>some []
abbrev AK(f:Dv->Option PyData)(fs:Dv->Option (List PyData)):Dv->Option (List PyData):=fun δ=>(f δ).bind fun x=>(fs δ).map fun xs=>x::xs
abbrev Ku(fs:Dv->Option (List PyData)):Dv->Option PyData:=fun δ=>((fs δ).bind Gs).map .tuple
abbrev L7(fs:Dv->Option (List PyData)):Dv->Option PyData:=fun δ=>((fs δ).bind Gs).map .list
abbrev Bf(m:List PyData->Option PyData)(fs:Dv->Option (List PyData)):Dv->Option PyData:=fun δ=>(fs δ).bind m
abbrev Wd(i:Nat)(g:Dv->Option PyData):Dv->Option PyData:=fun δ=>(g δ).bind fun y=>(ow i δ).bind fun xs=>(Nj y).bind fun k=>DN xs k
abbrev U1:Dv->Option (Option Int):=fun _=>some none
abbrev Vn(f:Dv->Option PyData):Dv->Option (Option Int):=fun δ=>(f δ).bind fun x=>(Nj x).map some
abbrev YC(f:Dv->Option PyData)(I fu:Dv->Option (Option Int)):Dv->Option PyData:=fun δ=>(f δ).bind fun x=>(I δ).bind fun l=>(fu δ).bind fun u=>VV x l u
abbrev Y0(f:Dv->Option PyData):Dv->Option Bool:=fun δ=>(f δ).bind P0
abbrev cT(o:PyData->PyData->Option PyData)(f g:Dv->Option PyData):Dv->Option Bool:=fun δ=>(Ay o f g δ).bind P0
abbrev X0(f:Dv->Option Bool):Dv->Option Bool:=fun δ=>(f δ).map fun c=>!c
abbrev LI(f:Dv->Option PyData):Dv->Option (List PyData):=fun δ=>(f δ).bind Ks
abbrev Bh(m:List PyData->Option (List PyData))(fs:Dv->Option (List PyData)):Dv->Option (List PyData):=fun δ=>(fs δ).bind m
abbrev DP:Dv->Option Bool:=fun _=>some true
abbrev M4(i:Nat):PyData->Dv->Option Dv:=fun y δ=>some (δ.set i (.d y))
abbrev Vf:DF:=fun δ=>some (.nx δ)
abbrev Lp(f:Dv->Option PyData):DF:=fun δ=>(f δ).map .rt
abbrev Xh(c:Dv->Option Bool)(F G:DF):DF:=fun δ=>(c δ).bind fun c=>if c=true then F δ else G δ
abbrev Fx(i:Nat)(f:Dv->Option PyData):DF:=fun δ=>(f δ).map fun y=>.nx (δ.set i (.d y))
abbrev jR(i:Nat)(fs:Dv->Option (List PyData)):DF:=fun δ=>((fs δ).bind Gs).map fun ys=>.nx (δ.set i (.own (.lst ys)))
abbrev jb(i:Nat)(f:Dv->Option PyData):DF:=fun δ=>(f δ).bind fun y=>(ow i δ).bind fun xs=>if xs.length<EX then some (.nx (δ.set i (.own (.lst (xs++[y]))))) else none
abbrev Gi(fs:Dv->Option (List PyData))(set:PyData->Dv->Option Dv)(F:DF):DF:=fun δ=>(fs δ).bind fun xs=>Jx set F xs δ
theorem O4{P:Program}{w:World}{K:PySem.W.Frag}{mg:Str->Option Value}{base:Heap}{CX:IE}{k:Nat}{f:Addr}{fd:FuncData}{ps:List Str}{sp:Sp}{m:List PyData->Option PyData}(F:AM P w K mg base CX k f fd ps sp)
 (h:∀ds x,m ds=some x->∀(G H:Hp) (vs:List V) (Q:VK) (E:XK),Aj G ds vs->AG G H->(∀v I H',AG G I->Nw G H I->AG I H'->AG H H'->Du I x v->Q v H')->sp vs H Q E):AM P w K mg base CX k f fd ps (Dh m) :=
 F.imp fun vs H Q E z=>by
  obtain⟨ds,x,G,U,T,R,M⟩:=z;exact h ds x U G H vs Q E T R M
section
variable{X:Cx}{a e:Expr}{f g h:Dv->Option PyData}{pos:Pos}
def fj(x k:PyData):Option PyData:=match x,k with
 |.list xs,.int i=>if i=-1 then some (.list xs.reverse) else none
 |_,_=>none
abbrev eC(f g:Dv->Option PyData):Dv->Option PyData:=Ay fj f g
theorem de{p2:Pos}{k:Expr}(he:DE X e f)(hk:DE X k g):DE X (.Subscript e (.Slice none none (some k) p2) pos) (eC f g):=by
 obtain⟨te,pe,Y⟩:=he;obtain⟨tk,R,U⟩:=hk;refine⟨_,cY pe R,fun δ z Z G0 H0 G H σ ts Q R0 k=>?_⟩;obtain⟨x,y,h1,h2,I⟩:=two (x:=.none) (y:=.none) Z;refine Y δ x h1 G0 H0 G H σ ts _ R0 fun u G1 H1 R1=>?_;refine U δ y h2 G0 H0 G1 H1 σ _ _ R1 fun v G2 H2 R2=>?_;have du:=R2.CD (x,u) (.tail _ (.head _));have M:=R2.CD (y,v) (.head _);unfold fj at I;split at I
 .split at I
  .rename_i hi;cases I;subst hi;rw[Du]at du;rw[Du]at M;obtain⟨a,ys,rfl,n1,T⟩:=du;exact⟨a,ys,rfl,M,AQ.of (R2.ins _ _ n1),fun q hq=>k _ _ _ (R2.drop.drop.Y5 T.rev hq)⟩
  .cases I
 .cases I
abbrev VF(i:Nat)(f g:Dv->Option PyData):DF:=fun δ=>(f δ).bind fun y=>(g δ).bind fun k=>(ow i δ).bind fun xs=>(Nj k).bind fun n=>(K3 xs.length n).map fun j=>.nx (δ.set i (.own (.lst (xs.set j y))))
theorem Aj.set{H:Hp}{d:PyData}{v:V}(hd:Du H d v):∀ {ds:List PyData} {xs:List V} (j:Nat),Aj H ds xs->Aj H (ds.set j d) (xs.set j v)
 |[],_,_,h=>by rw[h.nil_eq];exact .nil
 |_::_,_,0,h=>by obtain⟨x,r,rfl,_,I⟩:=h.un;exact .cons hd I
 |_::_,_,j+1,h=>by obtain⟨x,r,rfl,M,I⟩:=h.un;exact .cons M (Aj.set hd j I)
theorem dJ{i:Nat}{x:Str}{np sp:Pos}(hv:PE X (.Name x np) (NV i))(hk:DE X a g)(he:DE X e f)
 (hP:∀ {I T U:TE},PE X e I->PE X (.Name x np) T->PE X a U->PS X (.Assign [.Subscript (.Name x np) a sp] e pos) (M9 I (dm T U ZR))):DS X (.Assign [.Subscript (.Name x np) a sp] e pos) (VF i f g):=by
 obtain⟨I,pe,ke⟩:=he;obtain⟨tk,pk,kk⟩:=hk;refine⟨_,hP pe hv pk,fun δ r h G0 H0 G H σ D R q=>?_⟩;obtain⟨y,h1,h2⟩:=aE.mp h;obtain⟨n,h3,h4⟩:=aE.mp h2;obtain⟨xs,h5,h6⟩:=aE.mp h4;obtain⟨m,h7,h8⟩:=aE.mp h6;obtain⟨j,h9,rfl⟩:=aH.mp h8;have:=OI h7;subst this;have hi:=Nn h5;refine ke δ y h1 G0 H0 G H σ [] _ R fun u G1 H1 R1=>?_;obtain⟨ad,_,M,k2,k3,k4,⟨ys,rfl,k5⟩⟩:=R1.own i _ hi;refine⟨.ref ad,M,?_⟩;refine kk δ _ h3 G0 H0 G1 H1 σ _ _ R1 fun v G2 H2 R2=>?_;have dv:=R2.CD (.int m,v) (.head _);rw[Du]at dv;obtain⟨ad',_,Z,m2,m3,m4,⟨zs,rfl,Y⟩⟩:=R2.own i _ hi;rw[M]at Z;cases Z;refine⟨ad,zs,m,j,rfl,dv,m4,by rw[Y.len];exact h9,?_⟩;exact q _ _ _ (R2.drop.drop.ZN hi M ⟨_,rfl,Y.set (R2.CD (y,u) (.tail _ (.head _))) j⟩)
end
def YV:L->L
 |.own (.lst xs)=>.d (.list xs)
 |.own (.Wn kvs)=>.d (iE kvs)
 |.own _=>.no
 |l=>l
def JL(δ:Dv):Dv:=δ.map YV
section
variable{G0 H0 G H:Hp}{σ:St}{δ:Dv}{ts:List (PyData×V)}
theorem Rw.JL(r:Rw G0 H0 G H σ δ ts):Rw H H H H σ (L2.JL δ) ts:=by
 refine⟨AG.refl _,fun _ _ h=>.inl h,AG.refl _,AG.refl _,by rw[L2.JL,List.length_map];exact r.len,fun i x h=>?_,fun i xs h=>?_,fun i j xs ys _ h=>?_,fun q hq=>(r.CD q hq).same r.ins⟩
 .unfold L2.JL at h;rw[List.getElem?_map]at h;obtain⟨l,T,I⟩:=aH.mp h;unfold YV at I;split at I
  .rename_i xs;cases I;obtain⟨a,_,R,Z,k3,Y,⟨ys,rfl,U⟩⟩:=r.own i _ T;refine⟨.ref a,R,?_⟩;rw[Du];exact⟨a,ys,rfl,Y,U.same r.ins⟩
  .rename_i kvs;cases I;obtain⟨a,_,R,Z,k3,Y,⟨rr,rfl,U,k6⟩⟩:=r.own i _ T;refine⟨.ref a,R,?_⟩;rw[Du,Mw];exact .inr (.inr ⟨rfl,rfl,a,rr,rfl,Y,U,K2.same r.ins k6⟩)
  .cases I
  .subst I;obtain⟨v,R,Z⟩:=r.dat i x T;exact⟨v,R,Z.same r.ins⟩
 all_goals
  unfold L2.JL at h;rw[List.getElem?_map]at h;obtain⟨l,T,I⟩:=aH.mp h;unfold YV at I;split at I
  .cases I
  .cases I
  .cases I
  .rename_i n1 n3 n2;subst I;cases xs with
   |lst M=>exact(n1 M rfl).elim
   |Wn M=>exact(n3 M rfl).elim
   |Ji M=>exact(n2 (.Ji M) rfl).elim
theorem Rw.on{H':Hp}(r:Rw G0 H0 G H σ δ ts)(e:AG H H'):Rw G0 H0 G H' σ δ ts:=r.lift (AG.refl _) Nw.refl (r.ins.trans e) e
theorem Rw.cG{i:Nat}{xs:Oc}{ys:HO}{a:Addr}(r:Rw G0 H0 G H σ δ ts)(d:Kj G a xs ys)(ha:H a=some ys)(hG:G a=none)(h0:H0 a=none)(M:∀(j:Nat) (zs:Oc),δ[j]? = some (L.own zs)->σ[j]?≠some (some (V.ref a))):Rw G0 H0 G H (σ.set i (some (.ref a))) (δ.set i (.own xs)) ts:=by
 have hl:=r.len;have other:∀(j:Nat) (zs:Oc),i≠j->(δ.set i (.own xs))[j]? = some (L.own zs)->δ[j]? = some (L.own zs):=fun j zs I h=>by rw[List.getElem?_set_ne I]at h;exact h
 refine⟨r.ext,r.new,r.ins,r.keep,by simp[hl],fun j y h=>?_,fun j zs h=>?_,fun j l us Z Y T R=>?_,r.CD⟩
 .by_cases I:i=j
  .subst I;by_cases hi:i<δ.length
   .rw[List.getElem?_set_self hi]at h;cases h
   .rw[List.getElem?_eq_none (by simp;lia)]at h;cases h
  .rw[List.getElem?_set_ne I]at h;obtain⟨w,m1,m2⟩:=r.dat j y h;exact⟨w,by rw[List.getElem?_set_ne I];exact m1,m2⟩
 .by_cases I:i=j
  .subst I;by_cases hi:i<δ.length
   .rw[List.getElem?_set_self hi]at h;cases h;exact⟨a,ys,by rw[List.getElem?_set_self (by lia)],hG,h0,ha,d⟩
   .rw[List.getElem?_eq_none (by simp;lia)]at h;cases h
  .have h:=other j zs I h;obtain⟨b,us,m1,m2,m3,m4,m5⟩:=r.own j zs h;exact⟨b,us,by rw[List.getElem?_set_ne I];exact m1,m2,m3,m4,m5⟩
 .by_cases I:i=j
  .subst I;have U:i≠l:=Y;have R:=other l Z U R;by_cases hi:i<δ.length
   .rw[List.getElem?_set_self (by lia),List.getElem?_set_ne U];exact fun z=>M l Z R z.symm
   .rw[List.getElem?_eq_none (by simp;lia)]at T;cases T
  .have T:=other j us I T;by_cases hk:i=l
   .subst hk;by_cases hi:i<δ.length
    .rw[List.getElem?_set_self (by lia),List.getElem?_set_ne I];exact fun z=>M j us T z
    .rw[List.getElem?_eq_none (by simp;lia)]at R;cases R
   .have R:=other l Z hk R;rw[List.getElem?_set_ne I,List.getElem?_set_ne hk];exact r.apart j l us Z Y T R
end
section
variable{X:Cx}{e:Expr}{f h:Dv->Option PyData}{fa:Dv->Option Bool}{p:Pos}
abbrev VO(f:Dv->Option Bool):Dv->Option Bool:=fun δ=>f (JL δ)
theorem bz(h:DT X e fa):DT X e (VO fa):=by
 obtain⟨t,p,k⟩:=h;refine⟨t,p,fun δ z I G0 H0 G H σ ts Q R q=>?_⟩;exact k _ z I H H H H σ ts Q R.JL fun T H' M=>q _ _ (R.on M.keep)
end
section
variable{F F1 F2:DF}{δ δ':Dv}{r:Option Ou}{c:Dv->Option Bool}{f g:Dv->Option PyData}{fs:Dv->Option (List PyData)}
theorem DK(h:F1 δ=some (.nx δ'))(k:F2 δ'=r):DW F1 F2 δ=r:=by unfold DW;rw[h];exact k
theorem iL(h:c δ=some true)(k:F1 δ=r):Xh c F1 F2 δ=r:=by show(c δ).bind _=r;rw[h];exact k
theorem VB(h:c δ=some false)(k:F2 δ=r):Xh c F1 F2 δ=r:=by show(c δ).bind _=r;rw[h];exact k
theorem Ek{i:Nat}{y:PyData}(h:f δ=some y):Fx i f δ=some (.nx (δ.set i (.d y))):=by show(f δ).map _=_;rw[h];rfl
theorem J9{y:PyData}(h:f δ=some y):Lp f δ=some (.rt y):=by show(f δ).map _=_;rw[h];rfl
theorem CC{o:PyData->PyData->Option PyData}{x y:PyData}{z:Option PyData}(h1:f δ=some x)(M:g δ=some y)(I:o x y=z):Ay o f g δ=z:=by unfold Ay;rw[h1,M];exact I
theorem CG{m:List PyData->Option PyData}{xs:List PyData}{z:Option PyData}(h1:fs δ=some xs)(I:m xs=z):Bf m fs δ=z:=by show(fs δ).bind m=z;rw[h1];exact I
theorem BF{x:PyData}{xs:List PyData}(h1:f δ=some x)(I:fs δ=some xs):AK f fs δ=some (x::xs):=by show(f δ).bind _=_;rw[h1];show(fs δ).map _=_;rw[I];rfl
theorem Uk{xs:List PyData}(h:fs δ=some xs)(I:xs.length<=EX):L7 fs δ=some (.list xs):=by show((fs δ).bind Gs).map _=_;rw[h];show(Gs xs).map _=_;unfold Gs;rw[if_pos I];rfl
theorem Um{o:PyData->PyData->Option PyData}{x y:PyData}{b:Bool}(h1:f δ=some x)(M:g δ=some y)(I:o x y=some (.bool b)):cT o f g δ=some b:=by show(Ay o f g δ).bind P0=_;rw[CC h1 M I];rfl
theorem T7{a:Dv->Option Bool}{b:Bool}(h:a δ=some b):X0 a δ=some (!b):=by show(a δ).map _=_;rw[h];rfl
theorem UB{b:Bool}(h:f δ=some (.bool b)):Y0 f δ=some b:=by show(f δ).bind P0=_;rw[h];rfl
theorem RV{set:PyData->Dv->Option Dv}(R:Nat->Dv->Prop):∀(xs:List PyData) (δ:Dv) (n:Nat),R n δ->(∀(i:Nat) (x:PyData) (δ:Dv),xs[i]? = some x->R (n+i) δ->∃M I,set x δ=some M/\F M=some (.nx I)/\R (n+i+1) I) ->
  ∃δ',Jx set F xs δ=some (.nx δ')/\R (n+xs.length) δ'
 |[],δ,n,h,_=>⟨δ,rfl,h⟩
 |x::xs,δ,n,h,k=>by
  obtain⟨M,I,h1,h2,h3⟩:=k 0 x δ rfl h;obtain⟨δ',Z,Y⟩:=RV R xs I (n+1) h3 fun i y δ T U=>by
   have:=k (i+1) y δ (by simpa using T) (by rw[show n+(i+1)=n+1+i by lia];exact U);rw[show n+(i+1)+1=n+1+i+1 by lia]at this;exact this
  refine⟨δ',?_,by rw[List.length_cons,show n+(xs.length+1)=n+1+xs.length by lia];exact Y⟩;unfold Jx;rw[h1,Option.bind_some,h2];exact Z
theorem JN{set:PyData->Dv->Option Dv}{xs:List PyData}(R:Nat->Dv->Prop)(T:fs δ=some xs)(h0:R 0 δ)(Y:∀(i:Nat) (x:PyData) (δ:Dv),xs[i]? = some x->R i δ->∃M I,set x δ=some M/\F M=some (.nx I)/\R (i+1) I) :
  ∃δ',Gi fs set F δ=some (.nx δ')/\R xs.length δ':=by
 obtain⟨δ',h1,Z⟩:=RV (F:=F) (set:=set) R xs δ 0 h0 fun i x δ T U=>by
  have:=Y i x δ T (by simpa using U)
  simpa using this
 refine⟨δ',?_,by simpa using Z⟩;show(fs δ).bind _=_;rw[T];exact h1
theorem J0{one:PyData->Option (Option PyData)}{g:PyData->PyData}:∀ {xs:List PyData},(∀x∈xs,one x=some (some (g x)))->collect one xs=some (xs.map g)
 |[],_=>rfl
 |x::xs,h=>by
  unfold collect;rw[h x (.head _),Option.bind_some,J0 fun y I=>h y (.tail _ I)]
  rfl
theorem comp_map{ix:Nat}{fr:List (Option Nat)}{xs:List PyData}{g:PyData->PyData}(I:fs δ=some xs)(M:xs.length<=EX)(h:∀x∈xs,f ((CV fr δ).set ix (.d x))=some (g x)):Bz (Cu ix) DP f fr fs δ=some (.list (xs.map g)):=by
 unfold Bz D6;rw[I,Option.bind_some,J0 (g:=g) fun x I=>?_,Option.bind_some,Gs,if_pos (by rw[List.length_map];exact M)]
 .rfl
 .unfold Ht Cu;rw[Option.bind_some];show(some true).bind _=_;rw[Option.bind_some,if_pos rfl,h x I]
  rfl
end
theorem MM{ps N:List Str}{F:DF}{ds:List PyData}{x:PyData}(I:ds.length=ps.length)(h:F (Lj N ds)=some (.rt x)):HD ps N F ds=some x:=by unfold HD;rw[if_pos I,h]
theorem OZ{lo:Int}{n i:Nat}{x:PyData}(h:(DX lo n)[i]? = some x):x=.int (lo+(i:Nat))/\i<n:=by
 unfold DX at h;rw[List.getElem?_map]at h;obtain⟨j,I,rfl⟩:=aH.mp h;have M:=(aB.mp I).1;rw[List.getElem?_range (by simpa using M)]at I;cases I;exact⟨rfl,by simpa using M⟩
theorem Nh{δ:Dv}{f:Dv->Option PyData}{j:Int}(h:f δ=some (.int j))(h0:-1000000<=j)(h1:j<=1000000):Bh Et (AK f An) δ=some (DX 0 j.toNat):=by
 show(AK f An δ).bind Et=_;rw[BF h (show An δ=some [] from rfl)];exact if_pos ⟨h0,h1⟩
theorem RE{n:Nat}{i:Int}(h:i.natAbs<2^n):Lg n i=true:=bT h
theorem cj{i j:Int}(h:OO i j=true):HC (.int i) (.int j)=some (.int (i*j)):=by
 show N7 Rk Qu (.int i) (.int j)=_;unfold N7;rw[show Rk (.int i) (.int j)=some (.int (i*j)) from if_pos h]
theorem mod_is{i j:Int}(h:0<j):VP (.int i) (.int j)=some (.int (i % j)):=by
 show(if j≠0 then some (PyData.int (i.fmod j)) else none)=_;rw[if_pos (by lia),Int.fmod_eq_emod_of_nonneg _ (by lia)]
abbrev Vl(i:Nat):DF:=fun δ=>(ow i δ).map .rn
abbrev ZU(i:Nat)(fs:Dv->Option (List PyData)):DF:=fun δ=>(fs δ).map fun ys=>.nx (δ.set i (.own (.lst ys)))
section
variable{X:Cx}{a:Expr}{h:Dv->Option PyData}{pos:Pos}
theorem UT{i:Nat}{x:Str}{np:Pos}(Z:PE X (.Name x np) (NV i)):DS X (.Return (some (.Name x np)) pos) (Vl i):=by
 refine⟨_,Ae Z,fun δ r h G0 H0 G H σ D R q=>?_⟩;obtain⟨xs,h1,rfl⟩:=aH.mp h;obtain⟨a,_,Y,U,T,M,⟨ys,rfl,I⟩⟩:=R.own i _ (Nn h1);exact⟨.ref a,Y,q a ys G H R.ext R.new R.ins R.keep T U M I⟩
end
section
variable{X:Cx}{elt iter:Expr}{x:Str}{px pos spos:Pos}{ifs:List Expr}{scope:Scope}{fs:Dv->Option (List PyData)}{tif:Dv->Option Bool}{f:Dv->Option PyData}
theorem bw{i:Nat}{z:Str}{U spos:Pos}(N:List Str)(ix:Nat)(fr:List (Option Nat))(hN:X.N.Nodup)(hy:X.N[i]? = some z)(M:X.env.scope.names.lookup z=some .local)(hi:DI X (.Name x px) iter fs)(T:∀cl C s₀ H₀ fp,W6 (Ap X scope cl N C s₀ H₀ fp) ifs tif)(he:∀cl C s₀ H₀ fp,DE (Ap X scope cl N C s₀ H₀ fp) elt f)
 (h1:Bk scope N x ix=true:=by decide +kernel)(h2:X.calm=true:=by rfl)(h3:EF N X.N scope X.env.scope fr 0=true:=by rfl)(h4:fr.length=N.length:=by rfl)(h5:freeOk X.env.scope scope.names=true:=by rfl)
 (I:swapsWith (.ListComp elt [⟨.Name x px,iter,ifs,0⟩] scope pos) (some (.Name z U)) spos.line X.env=pure true:=by rfl)
 (hs:∀x,foldedSetIterable iter X.env x=pure x:=by intro _;rfl):DS X (.Assign [.Name z U] (.ListComp elt [⟨.Name x px,iter,ifs,0⟩] scope pos) spos) (ZU i (D6 (Cu ix) tif f fr fs)):=by
 obtain⟨wi,pi,ki⟩:=hi;refine⟨_,El N ix fr hN hy M pi T (fun cl C s₀ H₀ fp=>(he cl C s₀ H₀ fp).pe) h1 h2 h3 h4 h5 I hs,fun δ r h G0 H0 G H σ D R q=>?_⟩;obtain⟨zs,m1,rfl⟩:=aH.mp h;exact Nf ki m1 R fun D' ys G' H' R' n1 n2 Z n4 Y=>q _ _ _ (R'.cG ⟨_,rfl,Y⟩ n1 n2 Z n4)
end
section
variable{N ps:List Str} 
theorem Ur{F:DF}{ds xs:List PyData}(I:ds.length=ps.length)(h:F (Lj N ds)=some (.rn xs)):HD ps N F ds=some (.list xs):=by unfold HD;rw[if_pos I,h]
end
section
variable{F F2:DF}{δ δ':Dv}{fs:Dv->Option (List PyData)}{xs:List PyData}{set:PyData->Dv->Option Dv}{r:Option Ou}
theorem cm(R:Nat->Dv->Prop)(T:fs δ=some xs)(h0:R 0 δ)(U:∀(i:Nat) (x:PyData) (δ:Dv),xs[i]? = some x->R i δ->∃M,set x δ=some M/\∃I,F M=some (.nx I)/\R (i+1) I) :
  ∃δ',Gi fs set F δ=some (.nx δ')/\R xs.length δ':=JN R T h0 fun i x δ a b=>let⟨M,c,I,e,g⟩:=U i x δ a b;⟨M,I,c,e,g⟩
theorem Ke(R:Nat->Dv->Prop)(T:fs δ=some xs)(h0:R 0 δ)(U:∀(i:Nat) (x:PyData) (δ:Dv),xs[i]? = some x->R i δ->∃M,set x δ=some M/\∃I,F M=some (.nx I)/\R (i+1) I)
 (k:∀δ',R xs.length δ'->F2 δ'=r):DW (Gi fs set F) F2 δ=r:=by
 obtain⟨δ',Z,Y⟩:=cm R T h0 U;exact DK Z (k δ' Y)
end
end L2
set_option maxHeartbeats 2000000
set_option maxHeartbeats 1000000
set_option maxHeartbeats 4000000
set_option maxHeartbeats 1000000
set_option maxHeartbeats 4000000
set_option maxHeartbeats 1000000
set_option maxHeartbeats 4000000
set_option maxHeartbeats 1000000
set_option maxHeartbeats 4000000
set_option maxHeartbeats 1000000
set_option maxHeartbeats 4000000
set_option maxHeartbeats 1000000
set_option maxHeartbeats 2000000
set_option maxHeartbeats 4000000
set_option maxHeartbeats 1000000
set_option maxHeartbeats 4000000
set_option maxHeartbeats 1000000
set_option maxHeartbeats 4000000
set_option maxHeartbeats 1000000
set_option maxHeartbeats 4000000
namespace TH
open PySem PyProof.Rows PySem.SeqAt
abbrev Ls(d:Addr)(ep n i:Nat):Obj:={ cls:=.type "dict_keyiterator",data:=.fields #[.ref d,.int (i:Int) 0,.int (n:Int) 0,.int (ep:Int) 0]}
section
variable{prog:Program}{w:World}{A:Around}{E:Value->Shared->Prop}{s:Shared}{d I:Addr}{o:Obj}{es:Array DictEntry}{ep i:Nat}
theorem Y2{Q:Option Value->Shared->Prop}{e:DictEntry}(T:s.heap.get? d=some o)(hd:o.data=.dict es ep)(R:s.heap.get? I=some (Ls d ep es.size i))(Z:es[i]? = some e)
 (h:∀h',h'.get? I=some (Ls d ep es.size (i+1))->Heap.SameBut I s.heap h'->Q (some e.key) {s with heap:=h'}):wpAny (model prog w) A (pyNext (.ref I)) Q E s:=by
 have M:s.TypeIs (.ref I) "dict_keyiterator" := ⟨_,R,rfl⟩;unfold pyNext;refine aA (wpAny_attempt (au (name:=Str.ofString "__next__") M F.slot_dict_keyiterator_next (bA F.slot_dict_keyiterator_next M F.entry_dict_keyiterator_next ?_ (F.args_dict_keyiterator_next_1 _))));refine aA (aC (aA (aA (aA (wpAny_typeNameOfWhole_keyiter M (aC ?_))))));refine aA (bj R rfl ?_);have q0:Builtin.Dict_items.ownsTuple "dict_keyiterator" = false:=by decide
 simp only[q0,Bool.false_eq_true,if_false];have Y:¬(Value.ref d==Value.none)=true:=aM;show wpAny _ _ (if(Value.ref d==Value.none)=true then _ else _) _ _ s;rw[if_neg Y];refine aA (aC (aA (bf T hd ?_)));rw[if_neg (by simp)];refine aA (aC (aA (wpAny_dictEpoch T hd ?_)));rw[if_neg (by simp)];refine aC ?_;have U:¬((i:Int)<0):=by lia
 simp only[U,if_false,Int.toNat_natCast,Z];refine aA (aA (wpAny_typeNameOfWhole_keyiter M (aC ?_)));refine aA (wpAny_isOneOf_keyiter M ?_);show wpAny _ _ (setField (.ref I) 1 (rawInt ((i:Int)+1))>>=_) _ _ s;refine aA (wpAny_setField R rfl (by simp) ?_);have g1:(s.heap.update I (Obj.mapFields (·.setIfInBounds 1 (rawInt ((i:Int)+1))))).get? I=some (Ls d ep es.size (i+1)):=Heap.get?_update_self _ R rfl;refine aA (bQ (aA (wpAny_isOneOf_keyiter ⟨_,g1,rfl⟩ ?_)));show wpAny _ _ (pure e.key) _ _ _;exact aC (aC ⟨_,rfl,wpAny_pure (h _ g1 (bK ..))⟩)
theorem Yu{Q:Option Value->Shared->Prop}(hh:A.handled=none)(Y:s.heap.get? d=some o)(hd:o.data=.dict es ep)(U:s.heap.get? I=some (Ls d ep es.size es.size))
 (h:∀h',Heap.ExtBut I s.heap h'->Q none {s with heap:=h'}):wpAny (model prog w) A (pyNext (.ref I)) Q E s:=by
 have M:s.TypeIs (.ref I) "dict_keyiterator" := ⟨_,U,rfl⟩;unfold pyNext;refine aA (wpAny_attempt (au (name:=Str.ofString "__next__") M F.slot_dict_keyiterator_next (bA F.slot_dict_keyiterator_next M F.entry_dict_keyiterator_next ?_ (F.args_dict_keyiterator_next_1 _))));refine aA (aC (aA (aA (aA (wpAny_typeNameOfWhole_keyiter M (aC ?_))))));refine aA (bj U rfl ?_);have q0:Builtin.Dict_items.ownsTuple "dict_keyiterator" = false:=by decide
 simp only[q0,Bool.false_eq_true,if_false];have q1:¬(Value.ref d==Value.none)=true:=aM;show wpAny _ _ (if(Value.ref d==Value.none)=true then _ else _) _ _ s;rw[if_neg q1];refine aA (aC (aA (bf Y hd ?_)));rw[if_neg (by simp)];refine aA (aC (aA (wpAny_dictEpoch Y hd ?_)));rw[if_neg (by simp)];refine aC ?_;have q2:¬((es.size:Int)<0):=by lia
 have Z:es[es.size]? = none:=Array.getElem?_eq_none (aG _);simp only[q2,if_false,Int.toNat_natCast,Z];refine aA (aA (wpAny_typeNameOfWhole_keyiter M (aC ?_)));show wpAny _ _ (setField (.ref I) 0 .none>>=_) _ _ s;refine aA (wpAny_setField U rfl (by simp) ?_);refine aA ?_;simp only[newExc,newTuple];refine aA (aZ ?_ (by size_fits));refine aA (m:=firstArgMember _ _) (wpAny_of_eq (a:=Value.none) (by first|rfl|(simp only[firstArgMember];rfl)) (aZ ?_ (by size_fits)));simp only[raiseNew];refine aA (wpAny_handled ?_);have R:A.in1.handled=none:=hh;rw[R];refine aA (aC (wpAny_throw ?_));refine aA (wpAny_isInstance (b:=true) (T := "StopIteration") ⟨_,Heap.get?_push_size _ rfl,rfl⟩ isSubtype_stop ?_);exact aC (h _ (((bK ..).extBut.push _).push _))
theorem YH{Q:Value->Shared->Prop}(R:s.heap.get? I=some (Ls d ep es.size i))(h:Q (.ref I) s):wpAny (model prog w) A (pyIter (.ref I)) Q E s:=by
 have M:s.TypeIs (.ref I) "dict_keyiterator" := ⟨_,R,rfl⟩;refine wpAny_pyIter_slot M F.slot_dict_keyiterator_iter (bA F.slot_dict_keyiterator_iter M F.entry_dict_keyiterator_iter ?_ (F.args_dict_keyiterator_iter_1 _));show wpAny _ _ (ret (.ref I)) _ _ s;exact aC ⟨_,rfl, "dict_keyiterator",_,M,F.slot_dict_keyiterator_next.lookup,h⟩
theorem Yc{Q:Value->Shared->Prop}(T:(d==sysModules)=false)(M:s.heap.get? d=some o)(U:o.cls=.type "dict")(hd:o.data=.dict es ep)(h:Q (.ref s.heap.objs.size) {s with heap:=s.heap.push (Ls d ep es.size 0)}) :
  wpAny (model prog w) A (pyIter (.ref d)) Q E s:=by
 have R:s.TypeIs (.ref d) "dict" := ⟨o,M,U⟩;refine wpAny_pyIter_slot R F.slot_dict_iter (bA F.slot_dict_iter R F.entry_dict_iter ?_ (F.args_dict_iter_1 _));unfold Builtin.«dict.__iter__»;refine aA ?_;unfold Builtin.Dict.dictSlotNone;refine aA (wpAny_notOrdered_dict R (show wpAny _ _ (pure (Value.ref d)) _ _ s from aC ?_));have hn:¬(d==sysModules)=true:=by rw[T];exact aM
 show wpAny _ _ (Builtin.Dict.showsAll d>>=_) _ _ s;unfold Builtin.Dict.showsAll;rw[if_neg hn];refine aA (aC (aA (bf M hd (aA (wpAny_dictEpoch M hd ?_)))));exact aA (aZ (aC ⟨_,rfl, "dict_keyiterator",_,⟨_,Heap.get?_push_size _ rfl,rfl⟩,F.slot_dict_keyiterator_next.lookup,h⟩))
theorem VJ(hh:A.handled=none)(hne:d≠I)(hd:o.data=.dict es ep) :
  Walks prog w A I [I,d] [I] es.size (fun i v=>∃e,es[i]? = some e/\v=e.key) (fun i h=>h.get? I=some (Ls d ep es.size i)/\h.get? d=some o) where
 sub:=fun b hb=>by simp at hb;simp[hb]
 frame:=fun _ _ _ x k=>⟨k I (by simp) _ x.1,k d (by simp) _ x.2⟩
 item:=fun i s Q E hi x hQ=>by
  have hx:es[i]? = some es[i]:=Array.getElem?_eq_getElem hi;refine Y2 x.2 hd x.1 hx fun h' g sb=>hQ _ h' s.toks ⟨_,hx,rfl⟩ ⟨g,(sb.2 d hne).trans x.2⟩ fun b u hb e=>?_;rw[sb.2 b fun q=>hb (by simp[q])];exact e
 done:=fun s Q E x hQ=>Yu hh x.2 hd x.1 fun h' eb=>hQ h' s.toks fun b u hb e=>eb b u (fun q=>hb (by simp[q])) e
 self:=fun _ _ _ _ x hQ=>YH x.1 hQ
theorem YZ(hs:(d==sysModules)=false)(hc:o.cls=.type "dict")(hd:o.data=.dict es ep):PySem.W.KdlSrc prog w "dict" d d es.size (fun i v=>∃e,es[i]? = some e/\v=e.key) (fun h=>h.get? d=some o) where
 type:=fun _ ho=>⟨o,ho,hc⟩
 there:=fun _ ho=>⟨aF ho,Heap.lt_size ho⟩
 keep:=fun _ _ ho k=>k d (.inl rfl) _ ho
 notList:=by decide
 notTuple:=by decide
 hint:=fun _ _ s _ ho h=>PySem.W.kdl_hint_dict ⟨o,ho,hc⟩ h
 iter:=fun A s hh ho=>⟨Ls d ep es.size 0,_,(fun E Q h=>Yc hs ho hc hd h),VJ hh (aO (aF ho)) hd,⟨aU _ rfl,Heap.get?_push_of_some _ ho⟩⟩
end
end TH
namespace SK
open PySem PySem.W PyProof.Rows PySem.SeqAt TH
abbrev Ext(h0 h:Heap):Prop:=∀c o,h0.get? c=some o->h.get? c=some o
section
variable{prog:Program}{w:World}{A:Around}{E:Value->Shared->Prop}{s:Shared}{a:Addr}{vs:List Value}{kz:List Int}{P:PySem.Fin->Shared->Prop}
def Told(prog:Program)(w:World)(A:Around)(s:Shared)(h0:Heap)(f:Value)(vs:List Value)(kz:List Int):Prop :=
 ∀(i:Nat) (v:Value) (k:Int),vs[i]? = some v->kz[i]? = some k->∀(h:Heap) (M:Nat),Ext h0 h ->
  wpAny (model prog w) A (call f [v]) (fun r T=>∃h' I R,T={s with heap:=h',toks:=I}/\r=.int k R/\Ext h h') (fun _ _=>False) {s with heap:=h,toks:=M}
theorem Xk{st:SortSt}{I:Addr}{keys:Array Value}{e e1:Nat}(nk:s.heap.get? I=some (seqObj "list" keys e))(na:s.heap.get? a=some (seqObj "list" #[] e1))(U:I≠a)
 (hk:IntsAre keys.toList kz)(hlen:kz.length=vs.length)(h64:vs.length<64)(hp:(arrOf st).Perm (keys.zip vs.toArray))(hs:SortedTo (arrOf st) (arrOf st).size)(Y:failedOf st=none)
 (h:∀h' out c,(∀b o,b≠I->b≠a->s.heap.get? b=some o->h'.get? b=some o)->h'.get? a=some (seqObj "list" out c)->KskOut false kz vs out.toList->P (.done (.ret .none)) {s with heap:=h'}) :
  wpAny (model prog w) A (ksk_tail a false e1 (.ref I) st) P E s:=by
 have T:keys.size=vs.length:=by
  have h1:=hk.length;rw[Array.length_toList]at h1
  lia
 have R:(arrOf st).size=vs.length:=by rw[hp.size_eq,Array.size_zip,T,List.size_toArray,Nat.min_self]
 have s1:=bK s.heap I (Obj.mapSeq fun _=>(#[]:Array Value));have M:(s.heap.update I (Obj.mapSeq fun _=>(#[]:Array Value))).get? a=some (seqObj "list" #[] e1):=(s1.2 a U.symm).trans na;have s2:=bK (s.heap.update I (Obj.mapSeq fun _=>(#[]:Array Value))) a (Obj.mapSeq fun _=>if false=true then((arrOf st).map (·.2)).reverse else(arrOf st).map (·.2));obtain⟨c2,Z⟩:∃c2,((s.heap.update I (Obj.mapSeq fun _=>(#[]:Array Value))).update a (Obj.mapSeq fun _=>if false=true then((arrOf st).map (·.2)).reverse else(arrOf st).map (·.2))).get? a=some (seqObj "list" (if false=true then((arrOf st).map (·.2)).reverse else(arrOf st).map (·.2)) c2) :=
  ⟨_,get?_update_seq M fun _=>if false=true then((arrOf st).map (·.2)).reverse else(arrOf st).map (·.2)⟩
 unfold ksk_tail
 try dsimp only
 refine aA (listUpdate_at nk rfl ?_ (by rw[T,sizeLine_eq];lia) (ar _));refine aA (wpAny_letGo ?_);refine aA (seqEpoch_at M rfl ?_);refine aA (listUpdate_at M rfl ?_ (ar _) (by
  show(if false=true then((arrOf st).map (·.2)).reverse else(arrOf st).map (·.2)).size<=_;rw[if_neg (by decide),Array.size_map,R,sizeLine_eq];lia))
 rw[Y];simp only[bne_self_eq_false,Bool.false_eq_true,if_false];exact aC (h _ _ c2 (fun b o h1 h2 q=>(s2.2 b h2).trans ((s1.2 b h1).trans q)) Z (ksk_out (b:=false) hk hp hs))
theorem gW{kS:Addr}{keys:Array Value}{e e1:Nat}(nk:s.heap.get? kS=some (seqObj "list" keys e))(na:s.heap.get? a=some (seqObj "list" #[] e1))(Z:kS≠a)
 (hk:IntsAre keys.toList kz)(M:kz.length=vs.length)(T:vs.length<64)
 (h:∀h' out c,(∀b o,b≠kS->b≠a->s.heap.get? b=some o->h'.get? b=some o)->h'.get? a=some (seqObj "list" out c)->KskOut false kz vs out.toList->P (.done (.ret .none)) {s with heap:=h'}) :
  wpAny (model prog w) A (ksk_end a false vs.toArray e1 (.ref kS) keys) P E s:=by
 have Y:keys.size=vs.length:=by
  have h1:=hk.length;rw[Array.length_toList]at h1
  lia
 have R:(keys.zip vs.toArray).size=vs.length:=by rw[Array.size_zip,Y,List.size_toArray,Nat.min_self]
 unfold ksk_end
 try dsimp only
 simp only[Bool.false_eq_true,if_false];by_cases U:vs.toArray.size<2
 .rw[if_pos U,if_pos U];refine aA (aC ?_);rw[StateT.run_pure];refine aA (aC ?_)
  try dsimp only
  refine Xk (st:=SortSt.mk' general' (keys.zip vs.toArray) #[] 7 none) nk na Z hk M T (Array.Perm.refl _) ?_ rfl h;intro i j hij hj;have hj2:j<(keys.zip vs.toArray).size:=hj;rw[R]at hj2;rw[List.size_toArray]at U;have:i=j:=by lia
  subst this;exact Int.le_refl _
 .rw[if_neg U,if_neg U];rw[List.size_toArray]at U;rw[ksk_kind hk (by rw[Y];lia)];refine aA (aC ?_);refine aA (aj (wpS_sortRuns (a₀:=keys.zip vs.toArray) (st:=SortSt.mk' oneType' (keys.zip vs.toArray) #[] 7 none)
   (Q:=fun _ I=>(arrOf I).Perm (keys.zip vs.toArray)/\failedOf I=none/\SortedTo (arrOf I) (keys.zip vs.toArray).size)
   (ksk_intKeys hk) ⟨Array.Perm.refl _,rfl,rfl,rfl⟩ (by rw[R];lia) (by rw[R];exact T) fun I a1 a2 a3=>⟨a1,a2,a3⟩) ?_ fun _ _ e=>e)
  rintro⟨⟨⟩,I⟩ s' ⟨rfl,hp,hf,hs⟩
  try dsimp only
  exact Xk nk na Z hk M T hp (by rw[hp.size_eq];exact hs) hf h
theorem fy{f:Value}{n:Nat}{h0:Heap}(ho:s.heap.get? a=some (seqObj "list" vs.toArray n))(hx:∀b o,h0.get? b=some o->b≠a/\s.heap.get? b=some o)(hlen:kz.length=vs.length)(h64:vs.length<64)(turn:Told prog w A s h0 f vs kz)
 (h:∀h' tk out c,(∀b o,b≠a->s.heap.get? b=some o->h'.get? b=some o)->h'.get? a=some (seqObj "list" out c)->KskOut false kz vs out.toList->P (.done (.ret .none)) {s with heap:=h',toks:=tk}) :
  wpAny (model prog w) A (ksk_tree a f false) P E s:=by
 have ha:a<s.heap.objs.size:=aF ho;have s1:=bK s.heap a (Obj.mapSeq fun _=>(#[]:Array Value));obtain⟨e1,ho1⟩:∃e1,(s.heap.update a (Obj.mapSeq fun _=>(#[]:Array Value))).get? a=some (seqObj "list" #[] e1):=⟨_,get?_update_seq ho fun _=>#[]⟩;have hkS:((s.heap.update a (Obj.mapSeq fun _=>(#[]:Array Value))).push (seqObj "tuple" vs.toArray 0)).objs.size=s.heap.objs.size+1:=by rw[size_push',Heap.size_update]
 unfold ksk_tree;refine aA (listItems_at ho rfl ?_);refine aA (listUpdate_at ho rfl ?_ (by rw[List.size_toArray,sizeLine_eq];lia) (ar _));refine aA (seqEpoch_at ho1 rfl ?_);refine aA (wpAny_newTuple ?_ (by show vs.length<=_;rw[sizeLine_eq];lia));refine aA (wpAny_newList ?_ (ar _));refine bQ ?_;show wpAny (model prog w) A (ksk_rest a f false vs.toArray e1 (.ref ((s.heap.update a (Obj.mapSeq fun _=>(#[]:Array Value))).push (seqObj "tuple" vs.toArray 0)).objs.size)) P E {s with heap:=((s.heap.update a (Obj.mapSeq fun _=>(#[]:Array Value))).push (seqObj "tuple" vs.toArray 0)).push (seqObj "list" #[] 0)};have gk:(((s.heap.update a (Obj.mapSeq fun _=>(#[]:Array Value))).push (seqObj "tuple" vs.toArray 0)).push (seqObj "list" #[] 0)).get? ((s.heap.update a (Obj.mapSeq fun _=>(#[]:Array Value))).push (seqObj "tuple" vs.toArray 0)).objs.size=some (seqObj "list" #[] 0):=aU _ rfl;rw[hkS]at gk ⊢;have ga:(((s.heap.update a (Obj.mapSeq fun _=>(#[]:Array Value))).push (seqObj "tuple" vs.toArray 0)).push (seqObj "list" #[] 0)).get? a=some (seqObj "list" #[] e1):=aD _ (aD _ ho1);have gb:∀b o,b≠a->s.heap.get? b=some o->(((s.heap.update a (Obj.mapSeq fun _=>(#[]:Array Value))).push (seqObj "tuple" vs.toArray 0)).push (seqObj "list" #[] 0)).get? b=some o:=fun b o M q=>aD _ (aD _ ((s1.2 b M).trans q));generalize ((s.heap.update a (Obj.mapSeq fun _=>(#[]:Array Value))).push (seqObj "tuple" vs.toArray 0)).push (seqObj "list" #[] 0)=h6 at gk ga gb;generalize hK:s.heap.objs.size+1=T at gk;have hka:T≠a:=by rw[<-hK];exact bC (bV ha)
 have hkb:∀b o,s.heap.get? b=some o->b≠T:=fun b o q=>by rw[<-hK];exact aO (bV (aF q))
 unfold ksk_rest;refine aA (wpAny_rule ?_)
 first
  |rw[List.forIn_toArray]
  |(rw[<-Array.forIn_toList];simp only[List.toList_toArray])
  |rw[<-Array.forIn_toList]
 refine aA (ksk_fold (fun i s'=>∃h' tk I e,s'={s with heap:=h',toks:=tk}/\h'.get? T=some (seqObj "list" I e)/\h'.get? a=some (seqObj "list" #[] e1)/\(∀b o,b≠a->s.heap.get? b=some o->h'.get? b=some o)/\IntsAre I.toList (kz.take i)) vs 0 {s with heap:=h6}
  ⟨h6,s.toks,#[],0,rfl,gk,ga,gb,by simpa using IntsAre.nil⟩ ?step ?done)
 case step=>
  rintro j x s' Z ⟨h',tk,I,e,rfl,Y,na,nb,U⟩;simp only[Nat.zero_add]at U ⊢;have hj:j<vs.length:=(aB.mp Z).1;obtain⟨k,hkj⟩:∃k,kz[j]? = some k:=⟨_,List.getElem?_eq_getElem (by lia)⟩;have hz:I.size<=vs.length:=by
   have M:=U.length;rw[Array.length_toList,List.length_take]at M
   lia
  refine aA (wpAny_attempt (aj (turn j x k Z hkj h' tk fun b o q=>nb b o (hx b o q).1 (hx b o q).2) (fun v s'' he=>?_) fun _ _ hF=>hF.elim));obtain⟨g,tk2,R,rfl,rfl,x2⟩:=he
  try dsimp only
  have s2:=bK g T (Obj.mapSeq (·.push (.int k R)));obtain⟨c2,hc2⟩:∃c2,(g.update T (Obj.mapSeq (·.push (.int k R)))).get? T=some (seqObj "list" (I.push (.int k R)) c2):=⟨_,get?_update_seq (x2 _ _ Y) (·.push (.int k R))⟩;have ek:kz.take (j+1)=kz.take j++[k]:=by rw[List.take_add_one,hkj];simp
  have ea:(I.push (Value.int k R)).toList=I.toList++[Value.int k R]:=by simp
  refine aA (listUpdate_at (x2 _ _ Y) rfl ?_ (by rw[sizeLine_eq];lia) (aR (Nat.le_of_eq (Array.size_push ..)) (by rw[sizeLine_eq];lia)));exact aC ⟨rfl,_,_,I.push (.int k R),c2,rfl,hc2,(s2.2 a hka.symm).trans (x2 _ _ na),fun b o M q=>(s2.2 b (hkb b o q)).trans (x2 _ _ (nb b o M q)),by rw[ea,ek];exact ksk_snoc U⟩
 case done=>
  rintro s' ⟨h',tk,I,e,rfl,Y,na,nb,U⟩;have hk':IntsAre I.toList kz:=by
   have e3:kz.take (0+vs.length)=kz:=List.take_of_length_le (by lia);rw[e3]at U;exact U
  try dsimp only
  refine aA (listItems_at Y rfl ?_);exact gW (s:={s with heap:=h',toks:=tk}) Y na hka hk' hlen h64 fun h3 out c g1 g2 g3=>h h3 tk out c (fun b o M q=>g1 b o (hkb b o q) M (nb b o M q)) g2 g3
theorem Xs{d:Addr}{o:Obj}{es:Array DictEntry}{ep:Nat}{i:String}{Q:Value->Shared->Prop}(hs:(d==sysModules)=false)(ho:s.heap.get? d=some o)(hc:o.cls=.type "dict")(hdt:o.data=.dict es ep)(hA:A.handled=none)
 (hv:es.toList.map (·.key)=vs)(T:kz.length=vs.length)(h64:vs.length<64)(turn:Told prog w A.in1.in1 s s.heap (.builtin i) vs kz)
 (h:∀(h':Heap) (D tk c:Nat) (out:Array Value),s.heap.objs.size<=D->Ext s.heap h'->h'.get? D=some (seqObj "list" out c)->KskOut false kz vs out.toList->Q (.ref D) {s with heap:=h',toks:=tk}) :
  wpAny (model prog w) A (call (.builtin "sorted") [.ref d] [(Str.ofString "key",.builtin i)]) Q E s:=by
 refine call_function_entry_kw kind_sorted plain_sorted entry_sorted (ksk_s1 _ _) ?_;unfold Builtin.«sorted»;refine aA (m:=checkCount "sorted" 1 1 _) (aC ?_);have hes:es.size=vs.length:=by rw[<-hv,List.length_map,Array.length_toList]
 refine aA (gather (A:=A.in1) (YZ hs hc hdt) hA ho (OD (by lia)) fun R tk I z1 k1 M=>?_);have hal:I.toList=vs:=by
  rw[<-hv];apply List.ext_getElem?;intro j;rw[List.getElem?_map];by_cases hj:j<I.size
  .have e1:I[j]? = some I[j]:=Array.getElem?_eq_getElem hj;obtain⟨e,e2,e3⟩:=M.2 j _ e1;rw[Array.getElem?_toList,e1,Array.getElem?_toList,e2,e3]
   rfl
  .have Z:¬j<es.size:=by rw[<-M.1];exact hj
   rw[List.getElem?_eq_none (by simpa using hj),List.getElem?_eq_none (by simpa using Z)]
   rfl
 rw[hal];refine aA (wpAny_newList ?_ (OD (by lia)));have g1:(R.push (seqObj "list" vs.toArray 0)).get? R.objs.size=some (seqObj "list" vs.toArray 0):=aU _ rfl;have Y:∀b u,s.heap.get? b=some u->b≠R.objs.size/\(R.push (seqObj "list" vs.toArray 0)).get? b=some u:=fun b u e=>⟨aO (aF (k1 b u e)),Heap.get?_push_of_some _ (k1 b u e)⟩;refine aA (bQ (wpAny_call_entry_kw slot_list_sort ⟨_,g1,rfl⟩ entry_list_sort ?_ (ksk_l1 _ _)));show wpAny (model prog w) A.in1.in1 (Builtin.«list.sort» ⟨[.ref R.objs.size],[(Str.ofString "key",.builtin i)]⟩) _ _ _;rw[ksk_t4];refine fy (s:={s with heap:=R.push (seqObj "list" vs.toArray 0),toks:=tk}) (h0:=s.heap) g1 Y T h64 turn fun h' U out c x1 x2 x3=>⟨_,rfl,?_⟩;exact aC ⟨_,rfl,h h' R.objs.size U c out (bP z1) (fun b u e=>x1 b u (Y b u e).1 (Y b u e).2) x2 x3⟩
end
end SK
namespace L2
open PySem PySem.Spec PyProof.Rows
theorem perm_back{α β:Type}(f:α->β){U T:List β}(h:U.Perm T):∀L:List α,T=L.map f->∃I:List α,I.Perm L/\U=I.map f:=by
 induction h with
 |nil=>intro L e;exact⟨[],by cases L with|nil=>exact .nil|cons a L=>simp at e,rfl⟩
 |cons x _ Y=>
  intro L e;cases L with
  |nil=>simp at e
  |cons a L=>
   simp at e;obtain⟨I,R,M⟩:=Y L e.2;exact⟨a::I,R.cons a,by rw[M,e.1];rfl⟩
 |swap x y l=>
  intro L e
  match L,e with
  |a::b::L,e=>
   simp at e;exact⟨b::a::L,List.Perm.swap ..,by simp[e.1,e.2.1,e.2.2]⟩
 |trans _ _ i1 i2=>
  intro L e;obtain⟨L2,R,M⟩:=i2 L e;obtain⟨L1,h3,Z⟩:=i1 L2 M;exact⟨L1,h3.trans R,Z⟩
theorem YL{prog:Program}{w:World}{A:Around}{s:Shared}{E:Value->Shared->Prop}(hA:A.handled=none){p:Addr}{ns:List Int}{I:List Value}(rv:Vals (ns.map V.int) I)(pl:s.heap.IsTuple p I.toArray) :
  wpAny (model prog w) A (call (.builtin "sum") [.ref p]) (fun r s'=>∃h' U t',s'={s with heap:=h',toks:=U}/\r=.int ns.sum t'/\SK.Ext s.heap h') E s:=by
 have hi:=intsAre_of rv;obtain⟨xs,Y⟩:=hi.allInts.items;have M:s.heap.IsTuple p (intItems xs):=Y ▸ pl
 have T:p<s.heap.objs.size:=by obtain⟨_,e,_⟩:=M;exact aF e
 have e1:ns=xs.toList.map (·.1):=by
  rw[<-nums_intItems,<-Y];exact(show numsOf I.toArray.toList=ns from hi.numsOf).symm
 have e2:preSum (numAt xs) xs.size=ns.sum:=by
  rw[preSum_eq,List.take_of_length_le (by simp),e1]
 refine call_sum_walkG (wpAny_pyIter_tuple M ?_);refine⟨_,[_,p],[_],_,_,_,numAt xs,rfl,Walks.tuple (A:=A.in1) hA _ p (aO T) (intItems xs),
  ⟨⟨_,Heap.get?_push_size _ rfl,rfl,rfl⟩,M.push _⟩,fun c R=>?_,(fun _ _=>intItems_at),fun h' Z t' hk=>?_⟩
 .show c<(s.heap.push _).objs.size;rw[Heap.size_push];rcases aS.mp R with rfl|R
  .exact Nat.lt_succ_self _
  .rw[List.mem_singleton.mp R];exact bV T
 .have e3:preSum (numAt xs) (intItems xs).size=ns.sum:=by
   rw[<-e2];simp[intItems]
  rw[e3];exact⟨h',Z,t',rfl,rfl,PyProof.Rows.LSm.kept_iter hk⟩
def Ze(H:Hp)(x:V)(Q:VK):Prop:=∃(a:Addr) (kvs:List (List Key×V)) (ps:List (List Int)),x=.ref a/\H a=some (.dT kvs)/\kvs.length<64/\kvs.map (·.1)=ps.map (·.map Sum.inl) /\
 ∀(D:Addr) (H':Hp) (L:List (List Int×Addr)),(∀b o,H b=some o->H' b=some o)->(∀b,b≠D->H' b=H b)->H D=none->H' D=some (.lst (L.map fun l=>V.ref l.2))->(L.map (·.1)).Perm ps->L.Pairwise (fun p q=>p.1.sum<=q.1.sum) ->
  (∀l∈L,H l.2=some (.tup (l.1.map V.int)))->Q (.ref D) H'
theorem Xj{X:Cx}{pins:List (Addr×Obj)}{σ:St}{H:Hp}{s:Shared}{Q:VK}(I:Inv X pins σ H s){x:V}{v:Value}(rx:RelV x v)(hc:X.calm=true)(q:Ze H x Q) :
  wpAny (model X.prog X.w) X.A (call (.builtin "sorted") [v] [(Str.ofString "key",.builtin "sum")]) (EP X pins σ Q) X.xe s:=by
 obtain⟨a,kvs,ps,rfl,ha,h64,Z,q⟩:=q;cases rx;obtain⟨hz,nd,xs,kt,o,es,ep,r1,r2,r3,r4,r5,r6⟩:=VY I.Al ha;have hlen:es.size=kvs.length:=by rw[size_of_entries r4];exact(Paired.length kt).symm
 have U:ps.length=kvs.length:=by
  have:=bD List.length Z
  simpa using this.symm
 have R:xs.length=kvs.length:=(Paired.length kt).symm
 let M:List (List Int×Addr):=ps.zip (xs.map (·.2.1))
 have hL:M.length=kvs.length:=by simp[M,U,R]
 have l1:M.map (·.1)=ps:=by
  show(ps.zip _).map Prod.fst=ps;exact List.map_fst_zip (by simp[U,R])
 have l2:M.map (·.2)=xs.map (·.2.1):=by
  show(ps.zip _).map Prod.snd=_;exact List.map_snd_zip (by simp[U,R])
 have hkey:es.toList.map (·.key)=M.map fun l=>Value.ref l.2:=by
  have:(M.map fun l=>Value.ref l.2)=(M.map (·.2)).map Value.ref:=by simp
  rw[this,l2];apply List.ext_getElem?;intro j;rw[List.getElem?_map,Array.getElem?_toList,entry_at r4 j,List.map_map,List.getElem?_map];cases xs[j]? <;> rfl
 have hin:∀l∈M,H l.2=some (.tup (l.1.map V.int)):=fun l hl=>by
  obtain⟨j,hj⟩:=ax hl;have h1:(M.map (·.1))[j]? = some l.1:=by rw[List.getElem?_map,hj];rfl
  have h2:(M.map (·.2))[j]? = some l.2:=by rw[List.getElem?_map,hj];rfl
  rw[l1]at h1;rw[l2,List.getElem?_map]at h2;obtain⟨y,hy,e⟩:=aH.mp h2;have hjk:j<kvs.length:=by rw[<-R];exact(aB.mp hy).1
  obtain⟨kv,hkv⟩:∃kv,kvs[j]? = some kv:=⟨kvs[j],by simp[hjk]⟩;have p1:=L5 kt hkv hy;have h3:kv.1=l.1.map Sum.inl:=by
   have:=bD (·[j]?) Z;simp only[List.getElem?_map,hkv,h1]at this;exact aY this
  have h4:H y.2.1=some (.tup (kv.1.map kV)):=p1.1 ▸ p1.2.1
  rw[e,h3,R7]at h4;exact h4
 refine SK.Xs (vs:=M.map fun l=>Value.ref l.2) (kz:=M.map fun l=>l.1.sum) nd r1 r2.1 r3 (I.ok.hd hc) hkey (by simp) (by rw[List.length_map,hL];exact h64) ?_ fun h' D tk c out hD k1 hd ko=>?_
 .intro i v k hv hk h tk hx;rw[List.getElem?_map]at hv hk;obtain⟨l,e1,rfl⟩:=aH.mp hv;rw[e1]at hk;cases hk;obtain⟨its,v1,p1,_⟩:=I.tuple (Ao.of (K:=X.K) (hin l (aJ e1)));refine YL (A:=X.A.in1.in1) (s:={s with heap:=h,toks:=tk}) (show X.A.in1.in1.handled=none from I.ok.hd hc) v1 ?_;obtain⟨o,e,r⟩:=p1;exact⟨o,hx _ _ e,r⟩
 .obtain⟨pz,w1,w2,w3⟩:=ko;have ez:(M.map fun l=>l.1.sum).zip (M.map fun l=>Value.ref l.2)=M.map fun l=>(l.1.sum,Value.ref l.2):=by
   rw[List.zip_map']
  rw[ez]at w1;obtain⟨L,hp,rfl⟩:=perm_back (fun l:List Int×Addr=>(l.1.sum,Value.ref l.2)) w1 M rfl;rw[List.map_map]at w2
  let H':Hp:=fun y=>if y=D then some (.lst (L.map fun l=>V.ref l.2)) else H y
  have hHD:H' D=some (.lst (L.map fun l=>V.ref l.2)):=if_pos rfl;have hfr:H D=none:=I.Al.fresh hD;have T:∀y,y≠D->H' y=H y:=fun y hy=>if_neg hy;have up:∀b o,H b=some o->H' b=some o:=fun b o e=>by
   rw[T b fun z=>by rw[z,hfr]at e;cases e];exact e
  have Al:C2 X.prog X.w H' h':=fun y u e=>by
   by_cases Y:y=D
   .subst Y;rw[hHD]at e;cases e;refine⟨?_,out.toList,c,?_,?_⟩
    .show(L.map _).length<=sizeLine;rw[List.length_map,hp.length_eq,hL];exact hz
    .have e2:out.toList=(L.map (·.2)).map Value.ref:=by rw[w2,List.map_map];rfl
     have e3:(L.map fun l=>V.ref l.2)=(L.map (·.2)).map V.ref:=by rw[List.map_map];rfl
     rw[e2,e3];exact L9 _
    .exact hd
   .have e':H y=some u:=by rw[T y Y]at e;exact e
    exact(I.Al y u e').IC (fun b o _ z=>k1 b o z) (fun b z=>up _ _ z) fun b xs z=>up _ _ z
  have I3:Inv X pins σ H' {s with heap:=h',toks:=tk}:=I.many k1 (fun b hb=>T b (aO (aP hb hD))) Al;refine⟨.ref D,H',I3,rfl,q D H' L up T hfr hHD (by rw[<-l1];exact hp.map _) ?_ fun l hl=>hin l (hp.mem_iff.mp hl)⟩;rw[List.pairwise_map]at w3;exact w3.imp fun h=>by simpa using h
def fe(I:TE):TE:=fun σ H Q=>I σ H fun x H1=>Ze H1 x Q
theorem YJ{X:Cx}{o:Expr}{Y:TE}{p pos kp R:Pos}(hc:X.calm=true)(hg:Gl X "sorted")(hm:X.mg "sorted" = none)(U:Gl X "sum")(T:X.mg "sum" = none)(ho:PE X o Y)
 (Z:backTo pos (starEach [o] X.env)=(false,eval o X.env)::backTo pos (starEach [] X.env):=by rfl)(M:(backTo pos (starEach [o] X.env)).any (·.1)=false:=by rfl) :
  PE X (.Call (.Name "sorted" p) [o] [⟨some "key",.Name "sum" R,kp⟩] pos) (fe Y):=by
 intro pins s σ H Q I h;refine wpAny_Call_Name_kw (FC I hg hm boot_sorted ?_ (by decide) (by decide));refine callWith_kw ?_ Z M;rw[Z];refine Calls.spliced_cons (A5 (ho pins s σ H _ I h) fun v s1 ⟨x,H1,I1,r1,q1⟩=>?_);exact Calls.spliced_nil (kws_cons (FC I1 U T boot_sum (kws_nil (Xj I1 r1 hc q1)) (by decide) (by decide)))
end L2
namespace Q35
open PySem L2
abbrev Hx:Stmt:=top 8
abbrev Ft:Stmt:=top 9
abbrev Dr:Stmt:=top 10
abbrev IQ:Stmt:=top 11
abbrev C0:Stmt:=top 12
abbrev Dp:Stmt:=top 13
abbrev IH:Stmt:=top 14
abbrev Le:Stmt:=top 16
abbrev Ld:Stmt:=top 17
abbrev JM:Stmt:=top 18
abbrev FX:Stmt:=top 19
abbrev IK:Stmt:=top 21
abbrev KQ:Stmt:=top 23
abbrev L3:Stmt:=top 24
abbrev Js:Stmt:=top 25
abbrev G6:Stmt:=top 26
abbrev Gx:Stmt:=top 27
abbrev JG:Stmt:=top 28
abbrev Em:Stmt:=top 29
abbrev EY:Stmt:=top 30
abbrev Jt:Stmt:=top 32
abbrev Ez:Stmt:=top 33
abbrev FW:Stmt:=top 36
abbrev FA:Stmt:=top 37
abbrev Ge:Stmt:=top 38
abbrev En:Stmt:=top 39
abbrev JJ:Stmt:=top 40
abbrev Kv:Stmt:=top 41
abbrev Kg:Stmt:=top 44
abbrev FR:Stmt:=top 45
abbrev KW:Stmt:=top 46
abbrev HJ:Stmt:=top 48
abbrev F3:Stmt:=top 49
abbrev F0:Stmt:=top 50
abbrev Ii:Stmt:=top 51
abbrev JA:Stmt:=top 52
abbrev LG:Stmt:=top 53
abbrev Fb:Stmt:=top 55
abbrev HV:Stmt:=top 56
abbrev Hz:Stmt:=top 57
abbrev Fc:Stmt:=top 58
abbrev Fi:Stmt:=top 59
abbrev Jb:Stmt:=top 60
abbrev Ff:Stmt:=top 61
abbrev J2:Stmt:=top 62
abbrev Hv:Stmt:=top 63
abbrev Iu:Stmt:=top 64
abbrev JI:Stmt:=top 65
abbrev Ey:Stmt:=top 66
abbrev Ho:Stmt:=top 67
abbrev Gn:Stmt:=top 68
abbrev EW:Stmt:=top 69
abbrev HN:Stmt:=top 70
abbrev Nz:Stmt:=top 71
theorem Ee{n:String}:Rh (.ty n)≠.none:=fun z=>nomatch z
theorem mulC{i j:Int}(h1:-18446744073709551616<j)(I:j<18446744073709551616):OY i j\/MJ i j:=.inl (.inr ⟨h1,I⟩)
theorem mulL{i j:Int}(h1:-18446744073709551616<i)(I:i<18446744073709551616):OY i j\/MJ i j:=.inl (.inl ⟨h1,I⟩)
def OX:Sp:=fun vs H Q _=>∃a b,vs=[.int a,.int b]/\Q (.int (FM.gi a b)) H
def Qw:Sp:=fun vs H Q _=>∃t b m,vs=[.int t,.int b]/\b≠0/\m<=9000/\b.natAbs<2^m/\∀l H',AG H H'->H' l=some (.tup (Ll (Rat.divInt t b)))->Q (.ref l) H'
section
variable{P:Program}{w:World}{K:PySem.W.Frag}{mg:Str->Option Value}{base:Heap}{f g:Addr}{fd gd:FuncData}
theorem K7:Ab ["one","other","greater","lesser","rest"] ["one","other"] (AO C0):=⟨rfl,rfl,rfl,by decide +kernel,rfl,by decide +kernel,by decide +kernel⟩
def kX(σ:St):Nat:=match σ[3]? with|some (some (V.int l))=>l.natAbs|_=>0
theorem K8(F:Fn K mg "greatest_divisor" C0 ["one","other"] f fd)(T:mg "abs" = none):AM P w K mg base AZ 1 f fd ["one","other"] OX:=by
 have sc:=K7;refine F.F.ok (k:=0) sc (fun vs H Q E h=>?_) (fun cdv A outer s H vs Q E Z h=>?_)
 .obtain⟨a,b,rfl,_⟩:=h
  rfl
 obtain⟨a,b,rfl,q⟩:=h;refine⟨_,(AD (AX (i:=2) sc.nd rfl (Or.inl rfl) (Ai M5 rfl T PyProof.Rows.boot_abs (AA (pv 0) AB)))
 (AD (AX (i:=3) sc.nd rfl (Or.inl rfl) (Ai M5 rfl T PyProof.Rows.boot_abs (AA (pv 1) AB)))
 (AD (JF aK (Au Fl (pv 3) AI (Av _))
  (AD (AX (i:=4) sc.nd rfl (Or.inl rfl) (Af J8 (pv 2) (pv 3)))
  (AD (AX (i:=2) sc.nd rfl (Or.inl rfl) (pv 3))
  (AH (AX (i:=3) sc.nd rfl (Or.inl rfl) (pv 4))))))
 (AH (Ae (pv 2)))))),?_⟩
 refine⟨_,rfl,_,rfl,_,rfl,_,rfl,?_⟩;refine JD (fun σ H'=>∃g l r,σ=[some (.int a),some (.int b),some (.int g),some (.int l),r]/\H=H'/\Int.gcd g l=Int.gcd a b/\0<=g/\0<=l) (fun σ _=>kX σ) ?_ ?_ ?_
 .exact⟨_,_,_,rfl,rfl,FM.cA a b,FM.abs_nonneg a,FM.abs_nonneg b⟩
 .rintro σ H' ⟨g,l,r,rfl,rfl,M,h0,R⟩;refine⟨_,rfl,rfl,_,rfl,BP (fun c=>?_) (fun c=>?_)⟩
  .have I:l≠0:=fun z=>by subst z;simp at c
   refine⟨_,rfl,_,rfl,_,_,rfl,rfl,I,_,rfl,_,rfl,⟨_,_,_,rfl,rfl,?_,R,FM.fmod_nonneg I R⟩,?_⟩
   .rw[FM.Qz];exact M
   .exact FM.Po g l I
  .have I:l=0:=by simpa using c
   subst I;refine⟨_,rfl,?_⟩;rw[FM.dk M h0];exact q
 .exact fun σ H Q Q' U ⟨v,e,s,k,Y,q⟩=>⟨v,e,s,k,Y,U _ _ q⟩
theorem Ol:Ab ["top","bottom","shared"] ["top","bottom"] (AO Hx):=⟨rfl,rfl,rfl,by decide +kernel,rfl,by decide +kernel,by decide +kernel⟩
theorem Ot(F:Fn K mg "fraction_of" Hx ["top","bottom"] f fd)(BD:Fn K mg "greatest_divisor" C0 ["one","other"] g gd)
 (Cr:AM P w K mg base AZ 1 g gd ["one","other"] OX):AM P w K mg base AZ 2 f fd ["top","bottom"] Qw:=by
 have sc:=Ol;refine F.F.ok (k:=1) sc (fun vs H Q E h=>?_) (fun cdv A outer s H vs Q E Y h=>?_)
 .obtain⟨t,b,m,rfl,_⟩:=h
  rfl
 obtain⟨t,b,m,rfl,M,hm,U,q⟩:=h;refine⟨_,(AD (BL (Au GO (pv 1) AI (Av _))
  (AH KI)
  Ax)
 (AD (AX (i:=2) sc.nd rfl (Or.inl rfl) (Aa BD Cr Y rfl (AA (pv 0) (AA (pv 1) AB))))
 (AD (BL (Au MN (pv 1) AI (Av _))
  (AH (AX (i:=2) sc.nd rfl (Or.inl rfl) (Vc Ru (pv 2))))
  Ax)
 (AH (Ae (Gf (AA (Af EV (pv 0) (pv 2)) (AA (Af EV (pv 1) (pv 2)) AB)))))))),?_⟩
 refine⟨_,rfl,rfl,_,rfl,BP (fun c=>absurd c (by simpa using M)) (fun _=>?_)⟩;refine⟨_,rfl,_,rfl,t,b,rfl,?_⟩
 try dsimp only[C1]
 refine F7 (fun I H'=>I=[some (.int t),some (.int b),some (.int (FM.gs t b))]/\H=H') (fun nx hn=>?_) ?_
 .refine⟨_,rfl,_,_,rfl,rfl,_,rfl,BP (fun c=>?_) (fun c=>?_)⟩
  .have R:b<0:=ae c;refine⟨_,rfl,_,rfl,hn _ _ ⟨?_,rfl⟩⟩;unfold FM.gs;rw[if_pos R]
   rfl
  .have R:¬b<0:=bH (af.mpr c);refine hn _ _ ⟨?_,rfl⟩;unfold FM.gs;rw[if_neg R]
   rfl
 .rintro I H' ⟨rfl,rfl⟩;have h0:FM.gs t b≠0:=FM.Zc M;have T:(FM.gs t b).natAbs<2^m:=aQ (FM.ZS M) U;refine⟨_,rfl,_,rfl,_,_,rfl,rfl,⟨h0,m,hm,T⟩,_,rfl,_,rfl,_,_,rfl,rfl,⟨h0,m,hm,T⟩,Uj,fun p Z=>?_⟩;refine q p _ (AL Z _) ?_;rw[AF];show some (HO.tup [V.int (t.fdiv (FM.gs t b)),V.int (b.fdiv (FM.gs t b))])=_;rw[FM.RT M,FM.Ry M]
  rfl
end
def Sx:Sp:=fun vs H Q _=>∃(l:Addr) (x n:Int),vs=[.ref l,.int n]/\H l=some (.lst [.int x])/\0<n/\n<2^64/\∀r y:Int,0<=r->r<n->Q (.int r) (upd H l (.lst [.int y]))
def ME(K:PySem.W.Frag):Sp:=fun vs H Q _=>∃(a:Addr) (ns:List Int) (k:Int),vs=[.ref a,.int k]/\AQ K H a (ns.map V.int)/\0<=k/\k<1000/\∀x:Int,Q (.int x) H
def ML:Sp:=fun vs H Q _=>∃(l:Addr) (x:Int),vs=[.ref l]/\H l=some (.lst [.int x])/\∀(p:Addr) (r:Rat) (y:Int) (H':Hp),AG (upd H l (.lst [.int y])) H'->H' p=some (.tup (Ll r))->r.num.natAbs<=6->r.den<=6->Q (.ref p) H'
theorem Wb:∀i,i<13->∀j,j<6->(Rat.divInt ((i:Nat)-6:Int) (1+(j:Nat):Int)).num.natAbs<=6/\(Rat.divInt ((i:Nat)-6:Int) (1+(j:Nat):Int)).den<=6:=by decide +kernel
theorem Tc{i j:Int}(h1:0<=i)(R:i<13)(I:0<=j)(M:j<6):(Rat.divInt (i-6) (1+j)).num.natAbs<=6/\(Rat.divInt (i-6) (1+j)).den<=6:=by
 have:=Wb i.toNat (by lia) j.toNat (by lia)
 rwa [Int.toNat_of_nonneg h1,Int.toNat_of_nonneg I]at this
section
variable{P:Program}{w:World}{K:PySem.W.Frag}{mg:Str->Option Value}{base:Heap}{f g g1 g2:Addr}{fd gd gd1 gd2:FuncData}
theorem RJ:Ab ["_law_pile","_law_size","_law_digit"] ["_law_pile","_law_size"] (AO HV):=⟨rfl,rfl,rfl,by decide +kernel,rfl,by decide +kernel,by decide +kernel⟩
theorem S7(F:Fn K mg "_law_take" HV ["_law_pile","_law_size"] f fd):AM P w K mg base AZ 1 f fd ["_law_pile","_law_size"] Sx:=by
 have sc:=RJ;refine F.F.ok (k:=0) sc (fun vs H Q E h=>?_) (fun cdv A outer s H vs Q E M h=>?_)
 .obtain⟨l,x,n,rfl,_⟩:=h
  rfl
 obtain⟨l,x,n,rfl,I,h0,R,q⟩:=h;refine⟨_,(AD (AX (i:=2) sc.nd rfl (Or.inl rfl) (Af J8 (A0 EB (pv 0) AI (fun _ _=>rfl)) (pv 1)))
 (AD (XM (Af EV (A0 EB (pv 0) AI (fun _ _=>rfl)) (pv 1)) (WR (pv 0) AI set_list))
 (AH (Ae (pv 2))))),?_⟩
 refine⟨_,rfl,_,_,_,_,rfl,rfl,AQ.of I,rfl,_,rfl,_,_,rfl,rfl,(by show n≠0;lia),?_⟩;refine⟨_,rfl,_,_,_,_,rfl,rfl,AQ.of I,rfl,_,rfl,_,_,rfl,rfl,⟨by lia,64,by decide,by lia⟩,_,rfl,l,_,_,0,rfl,rfl,I,rfl,_,rfl,?_⟩;exact q _ _ (Int.fmod_nonneg_of_pos x h0) (Int.fmod_lt_of_pos x h0)
theorem Oi:Ab ["_law_one","_law_other"] ["_law_one","_law_other"] (AO Hz):=⟨rfl,rfl,rfl,by decide +kernel,rfl,by decide +kernel,by decide +kernel⟩
def ky(σ:St):Nat:=match σ[1]? with|some (some (V.int l))=>l.natAbs|_=>0
theorem PQ(F:Fn K mg "_law_shared" Hz ["_law_one","_law_other"] f fd)(U:mg "abs" = none):AM P w K mg base AZ 1 f fd ["_law_one","_law_other"] OX:=by
 have sc:=Oi;refine F.F.ok (k:=0) sc (fun vs H Q E h=>?_) (fun cdv A outer s H vs Q E Y h=>?_)
 .obtain⟨a,b,rfl,_⟩:=h
  rfl
 obtain⟨a,b,rfl,q⟩:=h;refine⟨_,(AD (JF aK (Au Fl (pv 1) AI (Av _))
  (AH (gI (i:=0) (j:=1) rfl sc.nd rfl rfl (by decide) rfl rfl (AA (pv 1) (AA (Af J8 (pv 0) (pv 1)) AB)) rfl)))
 (AH (Ae (Ai M5 rfl U PyProof.Rows.boot_abs (AA (pv 0) AB))))),?_⟩
 refine JD (fun σ H'=>∃g l,σ=[some (.int g),some (.int l)]/\H=H'/\Int.gcd g l=Int.gcd a b) (fun σ _=>ky σ) ⟨_,_,rfl,rfl,rfl⟩ ?_ ?_
 .rintro σ H' ⟨g,l,rfl,rfl,M⟩;refine⟨_,rfl,rfl,_,rfl,BP (fun c=>?_) (fun c=>?_)⟩
  .have I:l≠0:=fun z=>by subst z;simp at c
   refine⟨_,rfl,_,rfl,_,rfl,_,_,rfl,rfl,I,_,_,rfl,⟨_,_,rfl,rfl,?_⟩,?_⟩
   .rw[FM.Qz];exact M
   .exact FM.Po g l I
  .have I:l=0:=by simpa using c
   subst I;refine⟨_,rfl,_,rfl,?_⟩;rw[FM.Zl M];exact q
 .exact fun σ H Q Z R ⟨v,e,s,k,T,q⟩=>⟨v,e,s,k,T,R _ _ q⟩
theorem R6:Ab ["_law_top","_law_bottom","_law_by_here"] ["_law_top","_law_bottom"] (AO Fc):=⟨rfl,rfl,rfl,by decide +kernel,rfl,by decide +kernel,by decide +kernel⟩
theorem R9(F:Fn K mg "_law_frac" Fc ["_law_top","_law_bottom"] f fd)(Fq:Fn K mg "_law_shared" Hz ["_law_one","_law_other"] g gd)
 (QV:AM P w K mg base AZ 1 g gd ["_law_one","_law_other"] OX):AM P w K mg base AZ 2 f fd ["_law_top","_law_bottom"] Qw:=by
 have sc:=R6;refine F.F.ok (k:=1) sc (fun vs H Q E h=>?_) (fun cdv A outer s H vs Q E Y h=>?_)
 .obtain⟨t,b,m,rfl,_⟩:=h
  rfl
 obtain⟨t,b,m,rfl,M,hm,U,q⟩:=h;refine⟨_,(AD (AX (i:=2) sc.nd rfl (Or.inl rfl) (Aa Fq QV Y rfl (AA (pv 0) (AA (pv 1) AB))))
 (AD (BL (Au MN (pv 1) AI (Av _))
  (AH (AX (i:=2) sc.nd rfl (Or.inl rfl) (Af FZ AI (pv 2))))
  Ax)
 (AH (Ae (Gf (AA (Af EV (pv 0) (pv 2)) (AA (Af EV (pv 1) (pv 2)) AB))))))),?_⟩
 refine⟨_,rfl,_,rfl,t,b,rfl,?_⟩
 try dsimp only[C1]
 refine F7 (fun I H'=>I=[some (.int t),some (.int b),some (.int (FM.gs t b))]/\H=H') (fun nx hn=>?_) ?_
 .refine⟨_,rfl,_,_,rfl,rfl,_,rfl,BP (fun c=>?_) (fun c=>?_)⟩
  .have R:b<0:=ae c;refine⟨_,rfl,_,_,rfl,rfl,hn _ _ ⟨?_,rfl⟩⟩;show [some (V.int t),some (V.int b),some (V.int (0-FM.gi t b))]=_;unfold FM.gs;rw[if_pos R,Int.zero_sub]
  .have R:¬b<0:=bH (af.mpr c);refine hn _ _ ⟨?_,rfl⟩;unfold FM.gs;rw[if_neg R]
   rfl
 .rintro I H' ⟨rfl,rfl⟩;have h0:FM.gs t b≠0:=FM.Zc M;have T:(FM.gs t b).natAbs<2^m:=aQ (FM.ZS M) U;refine⟨_,rfl,_,rfl,_,_,rfl,rfl,⟨h0,m,hm,T⟩,_,rfl,_,rfl,_,_,rfl,rfl,⟨h0,m,hm,T⟩,Uj,fun p Z=>?_⟩;refine q p _ (AL Z _) ?_;rw[AF];show some (HO.tup [V.int (t.fdiv (FM.gs t b)),V.int (b.fdiv (FM.gs t b))])=_;rw[FM.RT M,FM.Ry M]
  rfl
theorem Rt:Ab ["_law_script","_law_k","_law_cell_here","_law_number","_law_found","_law_turn"] ["_law_script","_law_k"] (AO Fb):=⟨rfl,rfl,rfl,by decide +kernel,rfl,by decide +kernel,by decide +kernel⟩
theorem Q8(F:Fn K mg "_law_cell" Fb ["_law_script","_law_k"] f fd)(A9:mg "len" = none)(Ar:mg "range" = none):AM P w K mg base AZ 1 f fd ["_law_script","_law_k"] (ME K):=by
 have sc:=Rt;refine F.F.ok (k:=0) sc (fun vs H Q E h=>?_) (fun cdv A outer s H vs Q E hr h=>?_)
 .obtain⟨a,ns,k,rfl,_⟩:=h
  rfl
 obtain⟨a,ns,k,rfl,Y,h0,U,q⟩:=h;refine⟨_,(AD (AX (i:=2) sc.nd rfl (Or.inl rfl) AI)
 (AD (BL (Au MN (pv 1) (Ai BB rfl A9 ai (AA (pv 0) AB)) (Av _))
  (AH (AX (i:=2) sc.nd rfl (Or.inl rfl) (A0 EB (pv 0) (pv 1) (fun _ _=>rfl))))
  Ax)
 (AD (BL (Au Y8 (pv 2) (Af Sa AI AI) (Av _))
  (AH (Ae (Af Hi (Af FZ (pv 2) (Af Sa AI AI)) (Af Sa AI AI))))
  Ax)
 (AD (AX (i:=3) sc.nd rfl (Or.inl rfl) (Af Hi (Af CK (Af CK (Af B4 (pv 2) AI) (Af B4 (pv 1) AI)) AI) AI))
 (AD (AX (i:=4) sc.nd rfl (Or.inl rfl) AI)
 (AD (Bg aK rfl (Cf rfl Ar (AA AI AB)) (Am (i:=5) sc.nd rfl (Or.inl rfl))
  (AD (AX (i:=3) sc.nd rfl (Or.inl rfl) (Af Hi (Af CK (Af CK (Af B4 (pv 3) (pv 3)) (Af B4 AI (pv 5))) AI) AI))
  (AH (AX (i:=4) sc.nd rfl (Or.inl rfl) (Af CK (Af B4 (pv 4) AI) (Af Hi (Af B4 (pv 3) (pv 3)) AI))))))
 (AH (Ae (pv 4))))))))),?_⟩
 try dsimp only[C1]
 refine F7 (fun I H'=>∃c:Int,I=[some (.ref a),some (.int k),some (.int c),none,none,none]/\H=H') (fun nx hn=>?_) ?_
 .exact hn _ _ ⟨0,rfl,rfl⟩
 rintro _ _ ⟨_,rfl,rfl⟩
 try dsimp only[C1]
 refine F7 (fun I H'=>∃c:Int,I=[some (.ref a),some (.int k),some (.int c),none,none,none]/\H=H') (fun nx hn=>?_) ?_
 .refine⟨_,rfl,_,rfl,a,_,rfl,.inl Y,_,_,rfl,rfl,_,rfl,BP (fun c=>?_) (fun c=>?_)⟩
  .have c':k<(((ns.map V.int).length:Nat):Int):=ae c;rw[List.length_map]at c';have U:k.toNat<ns.length:=by lia
   have R:DN (ns.map V.int) k=some (.int ns[k.toNat]):=by
    have z:=FG (xs:=ns.map V.int) (j:=k.toNat) (v:=.int ns[k.toNat]) (by rw[List.getElem?_map,List.getElem?_eq_getElem U];rfl)
    rwa [show((k.toNat:Nat):Int)=k by lia]at z
   exact⟨_,rfl,_,rfl,a,_,_,_,rfl,rfl,Y,R,hn _ _ ⟨_,rfl,rfl⟩⟩
  .exact hn _ _ ⟨_,rfl,rfl⟩
 rintro _ _ ⟨c,rfl,rfl⟩;refine⟨_,rfl,_,_,rfl,rfl,⟨by decide,by decide,by decide⟩,_,_,rfl,rfl,_,rfl,BP (fun _=>?_) (fun _=>?_)⟩
 .exact⟨_,rfl,_,_,rfl,rfl,⟨by decide,by decide,by decide⟩,_,_,rfl,rfl,_,_,rfl,rfl,⟨by decide,by decide,by decide⟩,_,_,rfl,rfl,(by show(0:Int)<10^60;decide),q _⟩
 .refine⟨_,rfl,_,_,rfl,rfl,mulC (by decide) (by decide),_,rfl,_,_,rfl,rfl,mulC (by decide) (by decide),_,_,rfl,rfl,_,_,rfl,rfl,_,_,rfl,rfl,(by show(0:Int)<2147483629;decide),?_⟩;have z0:0<=(c*48271+k*69621+11) % 2147483629:=Int.emod_nonneg _ (by decide);have Z:(c*48271+k*69621+11) % 2147483629<2147483629:=Int.emod_lt_of_pos _ (by decide);refine⟨8,rfl,by decide,by decide,Hm (n:=8) (fun _ σ H'=>∃(m T:Int) (M:Option V),σ=[some (.ref a),some (.int k),some (.int c),some (.int m),some (.int T),M]/\0<=m/\m<2147483629/\H=H') ⟨(c*48271+k*69621+11) % 2147483629,0,none,rfl,z0,Z,rfl⟩ ?_ ?_⟩
  .rintro i σ H' hi ⟨m,T,M,rfl,m0,m1,rfl⟩;refine⟨_,rfl,_,rfl,_,_,rfl,rfl,mulC (by lia) (by lia),_,rfl,_,_,rfl,rfl,mulL (by decide) (by decide),_,_,rfl,rfl,_,_,rfl,rfl,_,_,rfl,rfl,(by show(0:Int)<2147483587;decide),?_⟩;have y0:0<=(m*m+69621*(0+(i:Nat))+7) % 2147483587:=Int.emod_nonneg _ (by decide);have y1:(m*m+69621*(0+(i:Nat))+7) % 2147483587<2147483587:=Int.emod_lt_of_pos _ (by decide);exact⟨_,rfl,_,_,rfl,rfl,mulC (by decide) (by decide),_,rfl,_,rfl,((m*m+69621*(0+(i:Nat))+7) % 2147483587:Int),((m*m+69621*(0+(i:Nat))+7) % 2147483587:Int),rfl,rfl,mulC (by lia) (by lia),_,_,rfl,rfl,(by show(0:Int)<2147483563;decide),_,_,rfl,rfl,_,_,_,rfl,y0,by lia,rfl⟩
  .rintro σ H' ⟨m,T,M,rfl,m0,m1,rfl⟩;exact⟨_,rfl,q _⟩
theorem SI:Ab ["_law_pile","_law_top"] ["_law_pile"] (AO Ff):=⟨rfl,rfl,rfl,by decide +kernel,rfl,by decide +kernel,by decide +kernel⟩
theorem Rz(F:Fn K mg "_law_part" Ff ["_law_pile"] f fd)(U:Fn K mg "_law_take" HV ["_law_pile","_law_size"] g1 gd1)(CP:Fn K mg "_law_frac" Fc ["_law_top","_law_bottom"] g2 gd2)
 (T:AM P w K mg base AZ 2 g1 gd1 ["_law_pile","_law_size"] Sx)(DH:AM P w K mg base AZ 2 g2 gd2 ["_law_top","_law_bottom"] Qw):AM P w K mg base AZ 3 f fd ["_law_pile"] ML:=by
 have sc:=SI;refine F.F.ok (k:=2) sc (fun vs H Q E h=>?_) (fun cdv A outer s H vs Q E R h=>?_)
 .obtain⟨l,x,rfl,_⟩:=h
  rfl
 obtain⟨l,x,rfl,hl,q⟩:=h;refine⟨_,(AD (AX (i:=1) sc.nd rfl (Or.inl rfl) (Af FZ (Aa U T R rfl (AA (pv 0) (AA AI AB))) AI))
 (AH (Ae (Aa CP DH R rfl (AA (pv 1) (AA (Af CK AI (Aa U T R rfl (AA (pv 0) (AA AI AB)))) AB)))))),?_⟩
 refine⟨_,rfl,l,x,13,rfl,hl,by decide,by decide,fun i y i0 i1=>⟨_,_,rfl,rfl,?_⟩⟩;refine⟨_,rfl,_,rfl,l,y,6,rfl,AF,by decide,by decide,fun j z Z Y=>⟨_,_,rfl,rfl,?_⟩⟩;have hd:=Tc i0 i1 Z Y;refine⟨i-6,1+j,8,rfl,by lia,by decide,by lia,fun p H' e hp=>?_⟩;refine q p _ z H' (fun b o M=>e _ _ ?_) hp hd.1 hd.2;by_cases I:b=l
 .subst I;rw[AF]at M ⊢;exact M
 .rw[AE I]at M;rw[AE I,AE I];exact M
end
theorem Sz{c b:Int}(U:1<=c)(Y:1<=b):1<=c.fdiv (FM.gi c b)*b/\c ∣ c.fdiv (FM.gi c b)*b/\b ∣ c.fdiv (FM.gi c b)*b/\(c.fdiv (FM.gi c b)).natAbs<=c.natAbs:=by
 have T:0<FM.gi c b:=FM.Lu (by lia);obtain⟨q,R⟩:=FM.Mr c b;obtain⟨r,I⟩:=FM.Ly c b;have e:=FM.FN (Int.ne_of_gt T) R;refine⟨?_,?_,Int.dvd_mul_left _ _,FM.BX _ _⟩
 .rw[e];have M:0<q:=by
   rcases Int.lt_or_le 0 q with h|h
   .exact h
   .have:=Int.mul_nonpos_of_nonneg_of_nonpos (Int.le_of_lt T) h
    lia
  exact Int.mul_pos M (by lia)
 .rw[e];refine⟨r,?_⟩;rw[I]
  conv=>rhs;rw[R]
  rw[<-I,Int.mul_comm (FM.gi c b) q,Int.mul_assoc,Int.mul_comm (FM.gi c b) r]
  conv=>lhs;rw[I]
  rw[Int.mul_comm (FM.gi c b) r]
def VT:Sp:=fun vs H Q _=>∃(b:Int) (p k:Nat),vs=[.int b,.int p]/\b.natAbs<2^k/\k*p<=4000/\Q (.int (b^p)) H
theorem ED{b:Int}{k e p:Nat}(R:b.natAbs<2^k)(M:e<=p):(b^e).natAbs<2^(k*p+1):=by
 rw[Int.natAbs_pow];have I:b.natAbs^e<=(2^k)^e:=Nat.pow_le_pow_left (bP R) e;rw[<-Nat.pow_mul]at I;exact aQ I (Nat.pow_lt_pow_right (by decide) (Nat.lt_succ_of_le (aX k M)))
def kZ(σ:St):Nat:=match σ[4]? with|some (some (V.int l))=>l.natAbs|_=>0
section
variable{P:Program}{w:World}{K:PySem.W.Frag}{mg:Str->Option Value}{base:Heap}{f:Addr}{fd:FuncData}
theorem NL:Ab ["bottoms","common","bottom"] ["bottoms"] (AO Dp):=⟨rfl,rfl,rfl,by decide +kernel,rfl,by decide +kernel,by decide +kernel⟩
theorem TR:Ab ["base","power","product","square","left"] ["base","power"] (AO IH):=⟨rfl,rfl,rfl,by decide +kernel,rfl,by decide +kernel,by decide +kernel⟩
theorem Tp(F:Fn K mg "power_of" IH ["base","power"] f fd):AM P w K mg base AZ 1 f fd ["base","power"] VT:=by
 have sc:=TR;refine F.F.ok (k:=0) sc (fun vs H Q E h=>?_) (fun cdv A outer s H vs Q E hr h=>?_)
 .obtain⟨b,p,k,rfl,_⟩:=h
  rfl
 obtain⟨b,p,k,rfl,Z,hk,q⟩:=h;refine⟨_,(AD (AX (i:=2) sc.nd rfl (Or.inl rfl) AI)
 (AD (AX (i:=3) sc.nd rfl (Or.inl rfl) (pv 0))
 (AD (AX (i:=4) sc.nd rfl (Or.inl rfl) (pv 1))
 (AD (JF aK (Au MP (pv 4) AI (Av _))
  (AD (BL (Au GO (Af Hi (pv 4) AI) AI (Av _))
   (AH (AX (i:=2) sc.nd rfl (Or.inl rfl) (Af B4 (pv 2) (pv 3))))
   Ax)
  (AD (AX (i:=4) sc.nd rfl (Or.inl rfl) (Af Ut (pv 4) AI))
  (AH (BL (Au MP (pv 4) AI (Av _))
   (AH (AX (i:=3) sc.nd rfl (Or.inl rfl) (Af B4 (pv 3) (pv 3))))
   Ax)))))
 (AH (Ae (pv 2))))))),?_⟩
 refine⟨_,rfl,_,rfl,?_⟩;refine JD (fun σ H'=>∃e f l:Nat,σ=[some (.int b),some (.int p),some (.int (b^e)),some (.int (b^f)),some (.int l)]/\H=H'/\e+f*l=p) (fun σ _=>kZ σ) ?_ ?_ ?_
 .refine⟨0,1,p,?_,rfl,by lia⟩;rw[Int.pow_zero,Int.pow_succ,Int.pow_zero,Int.one_mul]
  rfl
 .rintro σ H' ⟨e,f,l,rfl,rfl,Y⟩;refine⟨_,rfl,_,_,rfl,rfl,_,rfl,BP (fun c=>?_) (fun c=>?_)⟩
  .have hl:0<l:=by have:=ae c;lia
   have I:f<=p:=by
    have:f*1<=f*l:=aX f hl
    lia
   try dsimp only[C1]
   refine F7 (fun T H'=>∃R:Nat,T=[some (.int b),some (.int p),some (.int (b^R)),some (.int (b^f)),some (.int l)]/\H=H'/\R+f*(2*(l / 2))=p) (fun nx U=>?_) ?_
   .refine⟨_,rfl,_,_,rfl,rfl,(by show(0:Int)<2;decide),rfl,_,rfl,BP (fun c=>?_) (fun c=>?_)⟩
    .have hodd:l % 2=1:=by
      have:((l:Int) % 2)=1:=by simpa using c
      lia
     refine⟨_,rfl,_,rfl,_,_,rfl,rfl,JK (ED Z (show e<=p by lia)) (ED Z I) (by lia),U _ _ ⟨e+f,?_,rfl,?_⟩⟩
     .show [some (V.int b),some (V.int p),some (V.int (b^e*b^f)),some (V.int (b^f)),some (V.int l)]=_;rw[<-Int.pow_add]
     .have:l=2*(l / 2)+1:=by lia
      rw[<-Y]
      conv=>rhs;rw[this,Nat.mul_add,Nat.mul_one]
      lia
    .have hev:l % 2=0:=by
      have:¬((l:Int) % 2)=1:=by simpa using c
      lia
     refine U _ _ ⟨e,rfl,rfl,?_⟩;rw[show 2*(l / 2)=l by lia];exact Y
   .rintro T _ ⟨R,rfl,rfl,M⟩;refine⟨_,rfl,_,_,rfl,rfl,⟨by decide,by decide⟩,?_⟩;have el:((l:Int) / 2)=((l / 2:Nat):Int):=by lia
    refine⟨_,rfl,_,_,rfl,rfl,_,rfl,BP (fun c=>?_) (fun c=>?_)⟩
    .refine⟨_,rfl,_,rfl,_,_,rfl,rfl,JK (ED Z I) (ED Z I) (by lia),⟨R,f+f,l / 2,?_,rfl,?_⟩,?_⟩
     .show [some (V.int b),some (V.int p),some (V.int (b^R)),some (V.int (b^f*b^f)),some (V.int ((l:Int) / 2))]=_;rw[el,<-Int.pow_add]
     .rw[<-M,<-Nat.two_mul,Nat.mul_assoc,Nat.mul_left_comm]
     .show((l:Int) / 2).natAbs<((l:Nat):Int).natAbs
      lia
    .refine⟨⟨R,f,l / 2,?_,rfl,?_⟩,?_⟩
     .show [some (V.int b),some (V.int p),some (V.int (b^R)),some (V.int (b^f)),some (V.int ((l:Int) / 2))]=_;rw[el]
     .have:l / 2=0:=by have:=bH (af.mpr c);lia
      rw[this]at M ⊢
      simpa using M
     .show((l:Int) / 2).natAbs<((l:Nat):Int).natAbs
      lia
  .have hl:l=0:=by have:=bH (af.mpr c);lia
   subst hl;rw[Nat.mul_zero,Nat.add_zero]at Y;subst Y;exact⟨_,rfl,q⟩
 .exact fun σ H Q Q' hq ⟨v,e,s,k,e2,e3,e4,q1,q2⟩=>⟨v,e,s,k,e2,e3,e4,q1,hq _ _ q2⟩
end
theorem UU{l:Addr}{H:Hp}:∀ {ds:List PyData} {xs:List V} (i:Nat),AR l H ds xs->AR l H (ds.drop i) (xs.drop i)
 |ds,xs,0,h=>h
 |[],xs,i+1,h=>by rw[AR]at h;subst h;exact .nil
 |d::ds,xs,i+1,h=>by
  rw[AR]at h;obtain⟨x,r,rfl,_,I⟩:=h;exact UU i I
mutual
theorem X4{l p:Addr}{H:Hp}(M:H p=none):∀ {d:PyData} {v:V},Dt l H d v->Dt p H d v
 |.none,_,h=>by rw[Dt]at h ⊢;exact h
 |.bool _,_,h=>by rw[Dt]at h ⊢;exact h
 |.int _,_,h=>by rw[Dt]at h ⊢;exact h
 |.str _,_,h=>by rw[Dt]at h ⊢;exact h
 |.tuple _,_,h=>by
  rw[Dt]at h ⊢;obtain⟨a,xs,T,n,I,R⟩:=h;exact⟨a,xs,T,AJ I M,I,HP M R⟩
 |.list _,_,h=>by
  rw[Dt]at h ⊢;obtain⟨a,xs,T,n,I,R⟩:=h;exact⟨a,xs,T,AJ I M,I,HP M R⟩
 |.dict _,_,h=>by rw[Dt]at h;exact h.elim
theorem HP{l p:Addr}{H:Hp}(I:H p=none):∀ {ds:List PyData} {xs:List V},AR l H ds xs->AR p H ds xs
 |[],_,h=>by rw[AR]at h ⊢;exact h
 |_::_,_,h=>by
  rw[AR]at h ⊢;obtain⟨x,r,T,R,M⟩:=h;exact⟨x,r,T,X4 I R,HP I M⟩
end
def DU(H:Hp)(d:PyData)(v:V):Prop:=∃N:Nat,∀l,N<=l->Dt l H d v
def A3(H:Hp)(ds:List PyData)(xs:List V):Prop:=∃N:Nat,∀l,N<=l->AR l H ds xs
theorem DU.same{H H':Hp}{d:PyData}{v:V}(h:DU H d v)(e:AG H H'):DU H' d v:=let⟨N,k⟩:=h;⟨N,fun l I=>(k l I).same e⟩
theorem A3.same{H H':Hp}{d:List PyData}{v:List V}(h:A3 H d v)(e:AG H H'):A3 H' d v:=let⟨N,k⟩:=h;⟨N,fun l I=>(k l I).same e⟩
theorem DU.int{H:Hp}{i:Int}:DU H (.int i) (.int i):=⟨0,fun _ _=>.int⟩
theorem DU.bool{H:Hp}{i:Bool}:DU H (.bool i) (.bl i):=⟨0,fun _ _=>.bool⟩
theorem DU.BJ{H:Hp}:DU H .none .BJ:=⟨0,fun _ _=>.BJ⟩
theorem DU.str{H:Hp}{x:Str}:DU H (.str x) (.str x):=⟨0,fun _ _=>.str⟩
theorem A3.nil{H:Hp}:A3 H [] []:=⟨0,fun _ _=>.nil⟩
theorem A3.cons{H:Hp}{d:PyData}{ds:List PyData}{x:V}{xs:List V}(h:DU H d x)(k:A3 H ds xs):A3 H (d::ds) (x::xs) :=
 let⟨N,a⟩:=h;let⟨M,b⟩:=k;⟨max N M,fun l I=>.cons (a l (by lia)) (b l (by lia))⟩
theorem A3.app{H:Hp}{ds es:List PyData}{xs ys:List V}(h:A3 H ds xs)(k:A3 H es ys):A3 H (ds++es) (xs++ys) :=
 let⟨N,a⟩:=h;let⟨M,b⟩:=k;⟨max N M,fun l I=>(a l (by lia)).app (b l (by lia))⟩
theorem A3.drop{H:Hp}{ds:List PyData}{xs:List V}(i:Nat)(h:A3 H ds xs):A3 H (ds.drop i) (xs.drop i):=let⟨N,a⟩:=h;⟨N,fun l I=>UU i (a l I)⟩
theorem A3.len{H:Hp}{ds:List PyData}{xs:List V}(h:A3 H ds xs):xs.length=ds.length:=let⟨N,a⟩:=h;(a N (aG _)).len
theorem A3.get{H:Hp}{ds:List PyData}{xs:List V}{i:Nat}{d:PyData}(h:A3 H ds xs)(e:ds[i]? = some d):∃v,xs[i]? = some v/\DU H d v:=by
 have I:=h.len;have hi:i<xs.length:=by rw[I];exact(aB.mp e).1
 have M:xs[i]? = some xs[i]:=by simp[hi]
 obtain⟨N,a⟩:=h;refine⟨xs[i],M,N,fun l I=>?_⟩;obtain⟨U,R,T⟩:=(a l I).get M;rw[e]at R;cases R;exact T
theorem DU.lst{H:Hp}{a:Addr}{ds:List PyData}{xs:List V}(h:H a=some (.lst xs))(k:A3 H ds xs):DU H (.list ds) (.ref a) :=
 let⟨N,b⟩:=k;⟨max N (a+1),fun l I=>.lst (aO (show a<l from aP (Nat.lt_succ_self a) (aR (Nat.le_max_right _ _) I))) h (b l (by lia))⟩
theorem DU.tup{H:Hp}{a:Addr}{ds:List PyData}{xs:List V}(h:H a=some (.tup xs))(k:A3 H ds xs):DU H (.tuple ds) (.ref a) :=
 let⟨N,b⟩:=k;⟨max N (a+1),fun l I=>.tup (aO (show a<l from aP (Nat.lt_succ_self a) (aR (Nat.le_max_right _ _) I))) h (b l (by lia))⟩
theorem DU.K4{H:Hp}{ds:List PyData}{v:V}(h:DU H (.list ds) v):∃a xs,v=.ref a/\H a=some (.lst xs)/\A3 H ds xs:=by
 obtain⟨N,b⟩:=h;have h0:=b N (aG _);rw[Dt]at h0;obtain⟨a,xs,rfl,_,ha,_⟩:=h0;refine⟨a,xs,rfl,ha,N,fun l U=>?_⟩;have R:=b l U;rw[Dt]at R;obtain⟨Y,T,e,_,I,M⟩:=R;cases e;rw[ha]at I;cases I;exact M
theorem DU.WI{H:Hp}{ds:List PyData}{v:V}(h:DU H (.tuple ds) v):∃a xs,v=.ref a/\H a=some (.tup xs)/\A3 H ds xs:=by
 obtain⟨N,b⟩:=h;have h0:=b N (aG _);rw[Dt]at h0;obtain⟨a,xs,rfl,_,ha,_⟩:=h0;refine⟨a,xs,rfl,ha,N,fun l U=>?_⟩;have R:=b l U;rw[Dt]at R;obtain⟨Y,T,e,_,I,M⟩:=R;cases e;rw[ha]at I;cases I;exact M
theorem A3.Ky{H:Hp}{d e:PyData}{xs:List V}(h:A3 H [d,e] xs):∃x y,xs=[x,y]/\DU H d x/\DU H e y:=by
 obtain⟨x,M,T⟩:=h.get (i:=0) rfl;obtain⟨y,I,R⟩:=h.get (i:=1) rfl;have:=h.len
 match xs,this with
 |[a,b],_=>
  simp at M I;subst M I;exact⟨a,b,rfl,T,R⟩
mutual
theorem iW{c:Addr}{H:Hp}:∀ {d:PyData} {v:V},Dt c H d v->DU H d v
 |.none,_,h=>by rw[Dt]at h;subst h;exact .BJ
 |.bool _,_,h=>by rw[Dt]at h;subst h;exact .bool
 |.int _,_,h=>by rw[Dt]at h;subst h;exact .int
 |.str _,_,h=>by rw[Dt]at h;subst h;exact .str
 |.tuple _,_,h=>by
  rw[Dt]at h;obtain⟨a,xs,rfl,n,M,I⟩:=h;exact .tup M (Ca I)
 |.list _,_,h=>by
  rw[Dt]at h;obtain⟨a,xs,rfl,n,M,I⟩:=h;exact .lst M (Ca I)
 |.dict _,_,h=>by rw[Dt]at h;exact h.elim
theorem Ca{c:Addr}{H:Hp}:∀ {ds:List PyData} {xs:List V},AR c H ds xs->A3 H ds xs
 |[],_,h=>by rw[AR]at h;subst h;exact .nil
 |_::_,_,h=>by
  rw[AR]at h;obtain⟨x,r,rfl,M,I⟩:=h;exact .cons (iW M) (Ca I)
end
theorem DU.br{K:PySem.W.Frag}{H:Hp}{d:PyData}{v:V}(h:DU H d v):Br K H d v:=let⟨N,b⟩:=h;(b N (aG _)).br
theorem DU.ints{H:Hp}{ps:List Int}{v:V}(h:DU H (.tuple (ps.map .int)) v):∃a,v=.ref a/\H a=some (.tup (ps.map V.int)):=by
 obtain⟨a,xs,rfl,ha,R⟩:=h.WI;refine⟨a,rfl,?_⟩;rw[ha]
 congr 2
 obtain⟨N,b⟩:=R;have:=b N (aG _);clear b ha h
 induction ps generalizing xs with
 |nil=>rw[List.map_nil,AR]at this;exact this
 |cons p ps M=>
  rw[List.map_cons,AR]at this;obtain⟨x,r,rfl,I,T⟩:=this;rw[Dt]at I;subst I;rw[List.map_cons,M r T]
def Dm:PyData->Bool
 |.tuple [.int a,.int b]=>decide (1<=b)&&(FM.gi a b==1)
 |_=>false
theorem NQ{ds:List PyData}(h:ds.length≠2\/∃M I,ds=[M,I]/\((Hg M && !GJ M)=false\/(Hg I && !GJ I)=false)):Dm (.tuple ds)=false:=by
 rcases h with h|⟨M,I,rfl,h⟩
 .match ds,h with
  |[],_=>rfl
  |[a],_=>cases a<;>rfl
  |[_,_],h=>exact absurd rfl h
  |a::b::_::_,_=>cases a<;>first|rfl|(cases b<;>rfl)
 .cases M<;>first|rfl|(cases I<;>first|rfl|(exfalso;rcases h with h|h<;>exact absurd h (by simp[Hg,GJ])))
def Su:Sp:=fun vs H Q _=>∃l d v,vs=[v]/\Dt l H d v/\Q (.bl (Hg d && !GJ d)) H
def Sr:Sp:=fun vs H Q _=>∃l d v,vs=[v]/\Dt l H d v/\Q (.bl (Dm d)) H
theorem Lm{d:PyData}(h:(Hg d && !GJ d)=true):∃i,d=.int i:=by
 cases d<;>first|exact⟨_,rfl⟩|(exact absurd h (by simp[Hg,GJ]))|(rename_i b;cases b<;>exact absurd h (by decide))
section
variable{P:Program}{w:World}{K:PySem.W.Frag}{mg:Str->Option Value}{base:Heap}{f g1 g2:Addr}{fd gd1 gd2:FuncData}
theorem Ta:Ab ["thing"] ["thing"] (AO IQ):=⟨rfl,rfl,rfl,by decide +kernel,rfl,by decide +kernel,by decide +kernel⟩
theorem Tj(F:Fn K mg "is_whole" IQ ["thing"] f fd)(I:mg "isinstance" = none)(M:mg "int" = none)(R:mg "bool" = none):AM P w K mg base AZ 1 f fd ["thing"] Su:=by
 have sc:=Ta;refine F.F.ok (k:=0) sc (fun vs H Q E h=>?_) (fun cdv A outer s H vs Q E T h=>?_)
 .obtain⟨l,d,v,rfl,_⟩:=h
  rfl
 obtain⟨l,d,v,rfl,hd,q⟩:=h;refine⟨_,(AH (Ae (JE (Ai Bn rfl I aN (AA (pv 0) (AA (B3 (v:=.ty "int") rfl M PyProof.Rows.boot_int rfl) AB))) (LU (WN (Ai Bn rfl I aN (AA (pv 0) (AA (B3 (v:=.ty "bool") rfl R PyProof.Rows.boot_bool rfl) AB)))))))),?_⟩;refine⟨_,rfl,_,_,_,_,rfl,Ee,hd.ty,SH K d hd.nodict,_,rfl,BP (fun c=>⟨_,rfl,_,_,_,_,rfl,Ee,hd.ty,QB K d hd.nodict,_,rfl,?_⟩) (fun c=>?_)⟩
 .rw[c,Bool.true_and]at q;exact q
 .rw[Bool.eq_false_iff.mpr c,Bool.false_and]at q;exact q
theorem Oj:Ab ["thing"] ["thing"] (AO Ft):=⟨rfl,rfl,rfl,by decide +kernel,rfl,by decide +kernel,by decide +kernel⟩
theorem Ow(F:Fn K mg "is_fraction" Ft ["thing"] f fd)(Dw:Fn K mg "is_whole" IQ ["thing"] g1 gd1)(BD:Fn K mg "greatest_divisor" C0 ["one","other"] g2 gd2)
 (IY:AM P w K mg base AZ 1 g1 gd1 ["thing"] Su)(Cr:AM P w K mg base AZ 1 g2 gd2 ["one","other"] OX)(AW:mg "isinstance" = none)(Bj:mg "tuple" = none)(A9:mg "len" = none):AM P w K mg base AZ 2 f fd ["thing"] Sr:=by
 have sc:=Oj;refine F.F.ok (k:=1) sc (fun vs H Q E h=>?_) (fun cdv A outer s H vs Q E hr h=>?_)
 .obtain⟨l,d,v,rfl,_⟩:=h
  rfl
 obtain⟨l,d,v,rfl,hd,q⟩:=h;refine⟨_,(AD (BL (PW.pt (Dk (CB (Bt (Ai Bn rfl AW aN (AA (pv 0) (AA (B3 (v:=.ty "tuple") rfl Bj bE rfl) AB))))) (DQ (Au Fl (Ai BB rfl A9 ai (AA (pv 0) AB)) AI (Av _)))))
  (AH (Ae CL))
  Ax)
 (AD (BL (PW.pt (Dk (CB (Bt (Aa Dw IY hr rfl (AA (A0 BN (pv 0) AI (fun _ _=>rfl)) AB)))) (DQ (CB (Bt (Aa Dw IY hr rfl (AA (A0 BN (pv 0) AI (fun _ _=>rfl)) AB)))))))
  (AH (Ae CL))
  Ax)
 (AH (Ae (JE (Ie Y8 (A0 BN (pv 0) AI (fun _ _=>rfl)) AI (Av _)) (LU (Ie GO (Aa BD Cr hr rfl (AA (A0 BN (pv 0) AI (fun _ _=>rfl)) (AA (A0 BN (pv 0) AI (fun _ _=>rfl)) AB))) AI (Av _)))))))),?_⟩
 refine⟨_,rfl,_,_,_,_,rfl,Ee,hd.ty,Dy K d hd.nodict,_,rfl,?_⟩;have no:Cd d=false->Dm d=false:=fun z=>by cases d<;>first|rfl|exact absurd z (by simp[Cd])
 by_cases ht:Cd d=true
 .rw[ht];obtain⟨T,rfl⟩:∃T,d=.tuple T:=by cases d<;>first|exact⟨_,rfl⟩|exact absurd ht (by simp[Cd])
  rw[Dt]at hd;obtain⟨a,xs,rfl,na,ha,I⟩:=hd;have Z:=I.len;have s1:Ao K H a xs:=Ao.of ha;refine C4 ⟨_,rfl,a,xs,rfl,.inr s1,rfl,_,rfl,BP (fun c=>?_) (fun c=>?_)⟩
  .have:T.length≠2:=by
    rw[<-Z];intro z;rw[z]at c;exact absurd c (by decide)
   rw[NQ (.inl this)]at q;exact q
  .have h2:xs.length=2:=by
    by_cases z:xs.length=2
    .exact z
    .exfalso
     refine c ?_;have:¬(V.int (xs.length:Nat)=V.int 2):=by simp;lia
     rw[decide_eq_false this];rfl
   obtain⟨Y,U,rfl⟩:∃Y U,T=[Y,U]:=by
    match T,(show T.length=2 by lia) with
    |[x,y],_=>exact⟨x,y,rfl⟩
   rw[AR]at I;obtain⟨x0,r,rfl,R,I⟩:=I;rw[AR]at I;obtain⟨x1,r,rfl,M,I⟩:=I;rw[AR]at I;subst I;refine⟨_,rfl,_,_,_,_,rfl,rfl,s1,rfl,l,Y,x0,rfl,R,_,rfl,BP (fun c0=>?_) (fun c0=>?_)⟩
   .rw[NQ (.inr ⟨Y,U,rfl,.inl (by simp at c0;rcases c0 with c|c<;>simp[c])⟩)]at q;exact q
   refine⟨_,rfl,_,_,_,_,rfl,rfl,s1,rfl,l,U,x1,rfl,M,_,rfl,BP (fun c1=>?_) (fun c1=>?_)⟩
   .rw[NQ (.inr ⟨Y,U,rfl,.inr (by simp at c1;rcases c1 with c|c<;>simp[c])⟩)]at q;exact q
   obtain⟨i,rfl⟩:=Lm (d:=Y) (by simpa using c0);obtain⟨j,rfl⟩:=Lm (d:=U) (by simpa using c1);rw[Dt]at R M;subst R M;refine⟨_,rfl,_,_,_,_,rfl,rfl,s1,rfl,_,_,rfl,rfl,_,rfl,BP (fun c=>?_) (fun c=>?_)⟩
   .refine⟨_,rfl,_,_,_,_,rfl,rfl,s1,rfl,_,rfl,_,_,_,_,rfl,rfl,s1,rfl,i,j,rfl,rfl,?_⟩;have hj:1<=j:=by have:=ae c;lia
    have e:Dm (.tuple [.int i,.int j])=decide (V.int (FM.gi i j)=V.int 1):=by
     rw[Dm,decide_eq_true hj,Bool.true_and,Bool.eq_iff_iff];simp
    rw[e]at q;exact q
   .have hj:¬1<=j:=fun z=>c (bT (by lia));have e:Dm (.tuple [.int i,.int j])=false:=by rw[Dm,decide_eq_false hj,Bool.false_and]
    rw[e]at q;exact q
 .rw[Bool.eq_false_iff.mpr ht];rw[no (af.mpr ht)]at q;exact BI (BI q)
end
def Cz:PyData->Bool
 |.list I=>I.all Dm
 |_=>false
def HF:PyData->Nat
 |.list I=>I.length
 |_=>0
def rowAt(ds:List PyData)(i:Nat):Bool:=match ds[i]? with
 |some d=>Cz d&&decide (HF d=i)
 |none=>true
def J6(ds:List PyData):Bool:=(List.range ds.length).all (rowAt ds)
def C7:PyData->Bool
 |.list I=>decide (1<=I.length)&&(decide (I.length<=40)&&J6 I)
 |_=>false
def KA:PyData->Bool
 |.tuple [r,l]=>C7 r&&(Cz l&&decide (HF l=HF r))
 |_=>false
theorem Wa{d:PyData}(h:B7 d=false):Cz d=false:=by cases d<;>first|rfl|exact absurd h (by simp[B7])
theorem Tn{d:PyData}(h:B7 d=false):C7 d=false:=by cases d<;>first|rfl|exact absurd h (by simp[B7])
theorem Wr{d:PyData}(h:Cd d=false):KA d=false:=by cases d<;>first|rfl|exact absurd h (by simp[Cd])
theorem VG{ds:List PyData}(h:ds.length≠2):KA (.tuple ds)=false:=by
 match ds,h with
 |[],_=>rfl
 |[_],_=>rfl
 |[_,_],h=>exact absurd rfl h
 |_::_::_::_,_=>rfl
theorem F9{d:PyData}(h:B7 d=true):∃ds,d=.list ds:=by cases d<;>first|exact⟨_,rfl⟩|exact absurd h (by simp[B7])
theorem Nc{d:PyData}(h:Cd d=true):∃ds,d=.tuple ds:=by cases d<;>first|exact⟨_,rfl⟩|exact absurd h (by simp[Cd])
theorem Ni{d:PyData}(h:Cz d=true):B7 d=true:=by cases d<;>first|rfl|exact absurd h (by simp[Cz])
theorem S0{d:PyData}(h:C7 d=true):B7 d=true:=by cases d<;>first|rfl|exact absurd h (by simp[C7])
theorem PZ{ds:List PyData}(h:∀j,j<ds.length->rowAt ds j=true):J6 ds=true:=by
 unfold J6;rw[List.all_eq_true];intro j I;exact h j (av.mp I)
theorem QO{ds:List PyData}{i:Nat}(hi:i<ds.length)(h:rowAt ds i=false):J6 ds=false:=by
 refine af.mpr fun z=>?_;unfold J6 at z;rw[List.all_eq_true]at z;rw[z i (av.mpr hi)]at h;cases h
theorem Kf{ds:List PyData}{i:Nat}{d:PyData}(h:ds[i]? = some d):rowAt ds i=(Cz d&&decide (HF d=i)):=by unfold rowAt;rw[h]
def MA:Sp:=fun vs H Q _=>∃l d v,vs=[v]/\Dt l H d v/\Q (.bl (Cz d)) H
def Wi:Sp:=fun vs H Q _=>∃l d v,vs=[v]/\Dt l H d v/\∀H',AG H H'->Q (.bl (C7 d)) H'
def UW:Sp:=fun vs H Q _=>∃l d v,vs=[v]/\Dt l H d v/\∀H',AG H H'->Q (.bl (KA d)) H'
section
variable{P:Program}{w:World}{K:PySem.W.Frag}{mg:Str->Option Value}{base:Heap}{f g1 g2:Addr}{fd gd1 gd2:FuncData}
theorem NZ:Ab ["thing","part"] ["thing"] (AO Dr):=⟨rfl,rfl,rfl,by decide +kernel,rfl,by decide +kernel,by decide +kernel⟩
theorem M3(F:Fn K mg "are_fractions" Dr ["thing"] f fd)(C5:Fn K mg "is_fraction" Ft ["thing"] g1 gd1)
 (Hs:AM P w K mg base AZ 2 g1 gd1 ["thing"] Sr)(AW:mg "isinstance" = none)(Bp:mg "list" = none):AM P w K mg base AZ 3 f fd ["thing"] MA:=by
 have sc:=NZ;refine F.F.ok (k:=2) sc (fun vs H Q E h=>?_) (fun cdv A outer s H vs Q E hr h=>?_)
 .obtain⟨l,d,v,rfl,_⟩:=h
  rfl
 obtain⟨l,d,v,rfl,hd,q⟩:=h;refine⟨_,(AD (BL (CB (Bt (Ai Bn rfl AW aN (AA (pv 0) (AA (B3 (v:=.ty "list") rfl Bp ak rfl) AB)))))
  (AH (Ae CL))
  Ax)
 (AD (Bg aK rfl (BA (pv 0)) (Am (i:=1) sc.nd rfl (Or.inl rfl))
  (AH (BL (CB (Bt (Aa C5 Hs hr rfl (AA (pv 1) AB))))
   (AH (Ae CL))
   Ax)))
 (AH (Ae CL)))),?_⟩
 refine⟨_,rfl,_,_,_,_,rfl,Ee,hd.ty,DV K d hd.nodict,_,rfl,?_⟩;by_cases I:B7 d=false
 .rw[I];rw[Wa I]at q;exact BI q
 have I:B7 d=true:=by simpa using I
 rw[I];refine C4 ?_;obtain⟨ds,rfl⟩:=F9 I;rw[Dt]at hd;obtain⟨a,xs,rfl,na,ha,ht⟩:=hd;have M:=ht.len;refine⟨_,rfl,a,rfl,⟨_,AQ.of ha⟩,Bx (xs:=xs) (fun i σ H'=>∃R,σ=[some (.ref a),R]/\H=H'/\∀j c,j<i->ds[j]? = some c->Dm c=true) ?_ ?_ ?_ ?_⟩
 .exact⟨_,rfl,rfl,fun j c h=>absurd h (Nat.not_lt_zero _)⟩
 .rintro i σ H' _ ⟨R,rfl,rfl,_⟩;exact AQ.of ha
 .rintro i x σ H' hx ⟨R,rfl,rfl,Z⟩;obtain⟨c,T,tc⟩:=ht.get hx;refine⟨_,rfl,l,c,x,rfl,tc,_,rfl,BP (fun b=>?_) (fun b=>?_)⟩
  .have U:Dm c=false:=by simpa using b
   have e:Cz (.list ds)=false:=af.mpr fun z=>by
    rw[Cz,List.all_eq_true]at z;rw[z c (aJ T)]at U;cases U
   rw[e]at q;exact q
  .have U:Dm c=true:=by simpa using b
   refine⟨_,rfl,rfl,fun j e Y he=>?_⟩;by_cases z:j=i
   .subst z;rw[T]at he;cases he;exact U
   .exact Z j e (by lia) he
 .rintro σ H' ⟨R,rfl,rfl,Z⟩;have e:Cz (.list ds)=true:=by
   rw[Cz,List.all_eq_true];intro c T;obtain⟨j,Y⟩:=ax T;exact Z j c (by rw[M];exact(aB.mp Y).1) Y
  rw[e]at q;exact q
theorem TV:Ab ["thing","k","row"] ["thing"] (AO KW):=⟨rfl,rfl,rfl,by decide +kernel,rfl,by decide +kernel,by decide +kernel⟩
theorem Tg{tk:Tok}(F:Fn K mg "are_rows" KW ["thing"] f fd)(BV:Fn K mg "are_fractions" Dr ["thing"] g1 gd1)
 (Dq:AM P w K mg base AZ 3 g1 gd1 ["thing"] MA)(Jz:mg "MOST_ROWS" = some (.int 40 tk))(AW:mg "isinstance" = none)(Bp:mg "list" = none)(A9:mg "len" = none)(Bu:mg "enumerate" = none):AM P w K mg base AZ 4 f fd ["thing"] Wi:=by
 have sc:=TV;refine F.F.ok (k:=3) sc (fun vs H Q E h=>?_) (fun cdv A outer s H vs Q E hr h=>?_)
 .obtain⟨l,d,v,rfl,_⟩:=h
  rfl
 obtain⟨l,d,v,rfl,hd,q⟩:=h;refine⟨_,(AD (BL (PW.pt (Dk (CB (Bt (Ai Bn rfl AW aN (AA (pv 0) (AA (B3 (v:=.ty "list") rfl Bp ak rfl) AB))))) (Dk (Au MN (Ai BB rfl A9 ai (AA (pv 0) AB)) AI (Av _)) (DQ (Au MP (Ai BB rfl A9 ai (AA (pv 0) AB)) (Ud (v:=.int 40) rfl Jz ⟨_,rfl⟩) (Av _))))))
  (AH (Ae CL))
  Ax)
 (AD (Bg aK rfl (Kk rfl Bu (AA (pv 0) AB)) (Eu rfl (BM (Am (i:=1) sc.nd rfl (Or.inl rfl)) (BM (Am (i:=2) sc.nd rfl (Or.inl rfl)) EC)))
  (AH (BL (PW.pt (Dk (CB (Bt (Aa BV Dq hr rfl (AA (pv 2) AB)))) (DQ (Au Fl (Ai BB rfl A9 ai (AA (pv 2) AB)) (pv 1) (Av _)))))
   (AH (Ae CL))
   Ax)))
 (AH (Ae CL)))),?_⟩
 refine⟨_,rfl,_,_,_,_,rfl,Ee,hd.ty,DV K d hd.nodict,_,rfl,?_⟩;by_cases U:B7 d=false
 .rw[U];have:=q H (.refl H);rw[Tn U]at this;exact BI (BI this)
 have U:B7 d=true:=by simpa using U
 rw[U];refine C4 ?_;obtain⟨M,rfl⟩:=F9 U;rw[Dt]at hd;obtain⟨a,xs,rfl,na,ha,ht⟩:=hd;have I:=ht.len;refine⟨_,rfl,a,xs,rfl,.inl (AQ.of ha),_,_,rfl,rfl,_,rfl,BP (fun c=>?_) (fun c=>?_)⟩
 .have e:C7 (.list M)=false:=by
   have:¬1<=M.length:=by rw[<-I];have:=ae c;lia
   rw[C7,decide_eq_false this,Bool.false_and]
  have:=q H (.refl H);rw[e]at this;exact BI this
 have h1:1<=M.length:=by rw[<-I];have:=bH (af.mpr c);lia
 refine⟨_,rfl,a,xs,rfl,.inl (AQ.of ha),_,_,rfl,rfl,_,rfl,BP (fun c=>?_) (fun c=>?_)⟩
 .have e:C7 (.list M)=false:=by
   have:¬M.length<=40:=by rw[<-I];have:=ae c;lia
   rw[C7,decide_eq_false this,Bool.false_and,Bool.and_false]
  have:=q H (.refl H);rw[e]at this;exact this
 have h2:M.length<=40:=by rw[<-I];have:=bH (af.mpr c);lia
 have e:C7 (.list M)=J6 M:=by rw[C7,decide_eq_true h1,decide_eq_true h2,Bool.true_and,Bool.true_and]
 rw[e]at q;refine⟨_,rfl,a,rfl,⟨_,AQ.of ha⟩,QP (xs:=xs) (fun i σ H'=>∃r1 r2,σ=[some (.ref a),r1,r2]/\AG H H'/\∀j,j<i->rowAt M j=true) ?_ ?_ ?_ ?_⟩
 .exact⟨_,_,rfl,.refl _,fun j h=>absurd h (Nat.not_lt_zero _)⟩
 .rintro i σ H' _ ⟨r1,r2,rfl,e,_⟩;exact AQ.of (e _ _ ha)
 .rintro i x σ H0 hx ⟨r1,r2,rfl,e0,hf⟩ p hp;obtain⟨c,hc,Z⟩:=ht.get hx;have hi:i<M.length:=(aB.mp hc).1;have s1:=AL hp (.tup [.int (i:Nat),x]);have T:=e0.trans s1;have hp':(upd H0 p (.tup [.int (i:Nat),x])) p=some (.tup [.int (i:Nat),x]):=AF;generalize upd H0 p (.tup [.int (i:Nat),x])=H1 at s1 T hp';have Z:=Z.same T;refine⟨p,_,rfl,Ao.of hp',rfl,_,_,rfl,_,_,rfl,rfl,?_⟩;refine⟨_,rfl,l,c,x,rfl,Z,_,rfl,BP (fun b=>?_) (fun b=>?_)⟩
  .have hb:Cz c=false:=by simpa using b
   have:=q H1 T;rw[QO hi (by rw[Kf hc,hb,Bool.false_and])]at this;exact BI this
  have hb:Cz c=true:=by simpa using b
  obtain⟨cs,rfl⟩:=F9 (Ni hb);rw[Dt]at Z;obtain⟨b,ys,rfl,nb,hb',hy⟩:=Z;refine⟨_,rfl,b,ys,rfl,.inl (AQ.of hb'),_,rfl,rfl,_,rfl,BP (fun z=>?_) (fun z=>?_)⟩
  .have R:¬HF (.list cs)=i:=by
    rw[HF,<-hy.len];intro Y;rw[Y]at z;simp at z
   have:=q H1 T;rw[QO hi (by rw[Kf hc,hb,decide_eq_false R,Bool.and_false])]at this;exact this
  .have R:HF (.list cs)=i:=by
    rw[HF,<-hy.len];by_cases Y:ys.length=i
    .exact Y
    .exfalso
     refine z ?_;have:¬(V.int (ys.length:Nat)=V.int (i:Nat)):=by simp;lia
     rw[decide_eq_false this];rfl
   refine⟨_,_,rfl,T,fun j hj=>?_⟩;by_cases Y:j=i
   .subst Y;rw[Kf hc,hb,decide_eq_true R,Bool.and_self]
   .exact hf j (by lia)
 .rintro σ H' ⟨r1,r2,rfl,T,hf⟩;have:=q H' T;rw[PZ fun j hj=>hf j (by rw[I];exact hj)]at this;exact this
theorem TQ:Ab ["thing"] ["thing"] (AO Kg):=⟨rfl,rfl,rfl,by decide +kernel,rfl,by decide +kernel,by decide +kernel⟩
theorem Te(F:Fn K mg "is_table" Kg ["thing"] f fd)(IZ:Fn K mg "are_rows" KW ["thing"] g1 gd1)(BV:Fn K mg "are_fractions" Dr ["thing"] g2 gd2)
 (VI:AM P w K mg base AZ 4 g1 gd1 ["thing"] Wi)(Dq:AM P w K mg base AZ 4 g2 gd2 ["thing"] MA)(AW:mg "isinstance" = none)(Bj:mg "tuple" = none)(A9:mg "len" = none):AM P w K mg base AZ 5 f fd ["thing"] UW:=by
 have sc:=TQ;refine F.F.ok (k:=4) sc (fun vs H Q E h=>?_) (fun cdv A outer s H vs Q E hr h=>?_)
 .obtain⟨l,d,v,rfl,_⟩:=h
  rfl
 obtain⟨l,d,v,rfl,hd,q⟩:=h;refine⟨_,(AD (BL (PW.pt (Dk (CB (Bt (Ai Bn rfl AW aN (AA (pv 0) (AA (B3 (v:=.ty "tuple") rfl Bj bE rfl) AB))))) (DQ (Au Fl (Ai BB rfl A9 ai (AA (pv 0) AB)) AI (Av _)))))
  (AH (Ae CL))
  Ax)
 (AH (Ae (JE (Aa IZ VI hr rfl (AA (A0 BN (pv 0) AI (fun _ _=>rfl)) AB)) (JE (Aa BV Dq hr rfl (AA (A0 BN (pv 0) AI (fun _ _=>rfl)) AB)) (LU (Ie GO (Ai BB rfl A9 ai (AA (A0 BN (pv 0) AI (fun _ _=>rfl)) AB)) (Ai BB rfl A9 ai (AA (A0 BN (pv 0) AI (fun _ _=>rfl)) AB)) (Av _)))))))),?_⟩
 refine⟨_,rfl,_,_,_,_,rfl,Ee,hd.ty,Dy K d hd.nodict,_,rfl,?_⟩;by_cases U:Cd d=false
 .rw[U];have:=q H (.refl H);rw[Wr U]at this;exact BI (BI this)
 have U:Cd d=true:=by simpa using U
 rw[U];refine C4 ?_;obtain⟨Z,rfl⟩:=Nc U;rw[Dt]at hd;obtain⟨a,xs,rfl,na,ha,R⟩:=hd;have Y:=R.len;have s1:Ao K H a xs:=Ao.of ha;refine⟨_,rfl,a,xs,rfl,.inr s1,rfl,_,rfl,BP (fun c=>?_) (fun c=>?_)⟩
 .have:Z.length≠2:=by
   rw[<-Y];intro z;rw[z]at c;exact absurd c (by decide)
  have q:=q H (.refl H);rw[VG this]at q;exact q
 have h2:xs.length=2:=by
  by_cases z:xs.length=2
  .exact z
  .exfalso
   refine c ?_;have:¬(V.int (xs.length:Nat)=V.int 2):=by simp;lia
   rw[decide_eq_false this];rfl
 obtain⟨d0,d1,rfl⟩:∃d0 d1,Z=[d0,d1]:=by
  match Z,(show Z.length=2 by lia) with
  |[x,y],_=>exact⟨x,y,rfl⟩
 rw[AR]at R;obtain⟨x0,r,rfl,M,R⟩:=R;rw[AR]at R;obtain⟨x1,r,rfl,I,R⟩:=R;rw[AR]at R;subst R;rw[KA]at q;refine⟨_,rfl,_,_,_,_,rfl,rfl,s1,rfl,l,d0,x0,rfl,M,fun H1 T=>⟨_,rfl,BP (fun c0=>?_) (fun c0=>?_)⟩⟩
 .rw[c0]at q;refine⟨_,rfl,_,_,_,_,rfl,rfl,T.tup s1,rfl,l,d1,x1,rfl,I.same T,_,rfl,BP (fun c1=>?_) (fun c1=>?_)⟩
  .rw[c1]at q;obtain⟨r0,rfl⟩:=F9 (S0 c0);obtain⟨r1,rfl⟩:=F9 (Ni c1);have M:=M.same T;have I:=I.same T;rw[Dt]at M I;obtain⟨a0,y0,rfl,_,ha0,hy0⟩:=M;obtain⟨a1,y1,rfl,_,ha1,hy1⟩:=I;refine⟨_,rfl,_,_,_,_,rfl,rfl,T.tup s1,rfl,a1,y1,rfl,.inl (AQ.of ha1),_,rfl,_,_,_,_,rfl,rfl,T.tup s1,rfl,a0,y0,rfl,.inl (AQ.of ha0),rfl,?_⟩;have:=q H1 T;rw[Bool.true_and,Bool.true_and,HF,HF,<-hy0.len,<-hy1.len]at this;have e:decide (V.int (y1.length:Nat)=V.int (y0.length:Nat))=decide (y1.length=y0.length):=by
    rw[Bool.eq_iff_iff];simp;lia
   rw[<-e]at this;exact this
  .rw[Bool.eq_false_iff.mpr c1,Bool.false_and,Bool.and_false]at q;exact q H1 T
 .rw[Bool.eq_false_iff.mpr c0,Bool.false_and]at q;exact q H1 T
end
theorem cf{p:Addr}{H H':Hp}{xs:List V}{ds:List PyData}(R:upd H p (.tup xs)=H')(M:H p=none)(k:A3 H ds xs):AG H H'/\DU H' (.tuple ds) (.ref p)/\H' p=some (.tup xs):=by
 subst R;have I:=AL M (.tup xs);exact⟨I,.tup AF (k.same I),AF⟩
theorem PB{p:Addr}{H H':Hp}{xs:List V}{ds:List PyData}(R:upd H p (.lst xs)=H')(M:H p=none)(k:A3 H ds xs):AG H H'/\DU H' (.list ds) (.ref p)/\H' p=some (.lst xs):=by
 subst R;have I:=AL M (.lst xs);exact⟨I,.lst AF (k.same I),AF⟩
theorem Wy(r:Rat):Dm (Ac r)=true:=by
 have h:=r.den_nz;have k:=r.reduced;rw[Ac,Dm,decide_eq_true (show(1:Int)<=(r.den:Int) by lia),Bool.true_and];rw[beq_iff_eq];unfold FM.gi;unfold Nat.Coprime at k;rw[show r.num.gcd (r.den:Int)=1 from k]
 rfl
theorem CI{i n:Nat}(h:i<n)(hn:n<=60):i<sizeLine:=aP (show i<60 by lia) (by rw[sizeLine_eq];decide)
theorem BU{n:Nat}(hn:n<=60):n<=sizeLine:=aR hn (by rw[sizeLine_eq];decide)
structure Tb where
 rs:List (List Rat)
 ls:List Rat
def AN(r:List Rat):List PyData:=r.map Ac
def Ak(r:List Rat):PyData:=.list (AN r)
def Aq(rs:List (List Rat)):List PyData:=rs.map Ak
def CF(t:Tb):PyData:=.tuple [.list (Aq t.rs),.list (AN t.ls)]
structure Tb.Ok(m:Nat)(t:Tb):Prop where
 one:1<=t.rs.length
 most:t.rs.length<=m
 last:t.ls.length=t.rs.length
 row:∀(i:Nat) r,t.rs[i]? = some r->r.length=i
theorem Na(r:List Rat):∀e∈AN r,Dm e=true:=fun e I=>by
 obtain⟨q,_,rfl⟩:=aL.mp I;exact Wy q
theorem FE(r:List Rat):(AN r).length=r.length:=bW _
theorem HB(r:List (List Rat)):(Aq r).length=r.length:=bW _
theorem Tb.Ok.is{m:Nat}(hm:m<=40){t:Tb}(h:t.Ok m):KA (CF t)=true:=by
 have R:=h.one;have T:=h.most;rw[CF,KA,C7,HF,HF,HB,FE,decide_eq_true R,decide_eq_true (show t.rs.length<=40 by lia),decide_eq_true h.last,Cz,Bool.true_and,Bool.true_and,Bool.and_true,List.all_eq_true.mpr (Na _),Bool.and_true];refine PZ fun j M=>?_;rw[HB]at M;have I:t.rs[j]? = some t.rs[j]:=by simp[M]
 rw[Kf (d:=Ak t.rs[j]) (by rw[Aq,List.getElem?_map,I];rfl),Ak,HF,FE,decide_eq_true (h.row j _ I),Cz,Bool.and_true,List.all_eq_true.mpr (Na _)]
mutual
theorem bq{l c:Addr}{H H':Hp}(e:SameBut c H H'):∀ {d:PyData} {v:V},Dt l H d v->Dt c H d v->Dt l H' d v
 |.none,_,h,_=>by rw[Dt]at h ⊢;exact h
 |.bool _,_,h,_=>by rw[Dt]at h ⊢;exact h
 |.int _,_,h,_=>by rw[Dt]at h ⊢;exact h
 |.str _,_,h,_=>by rw[Dt]at h ⊢;exact h
 |.tuple _,_,h,k=>by
  rw[Dt]at h k ⊢;obtain⟨a,xs,e1,n,T,Z⟩:=h;obtain⟨a',U,R,Y,I,M⟩:=k;subst e1;cases R;rw[T]at I;cases I;exact⟨a,xs,rfl,n,e _ _ Y T,IM e Z M⟩
 |.list _,_,h,k=>by
  rw[Dt]at h k ⊢;obtain⟨a,xs,e1,n,T,Z⟩:=h;obtain⟨a',U,R,Y,I,M⟩:=k;subst e1;cases R;rw[T]at I;cases I;exact⟨a,xs,rfl,n,e _ _ Y T,IM e Z M⟩
 |.dict _,_,h,_=>by rw[Dt]at h;exact h.elim
theorem IM{l c:Addr}{H H':Hp}(e:SameBut c H H'):∀ {ds:List PyData} {xs:List V},AR l H ds xs->AR c H ds xs->AR l H' ds xs
 |[],_,h,_=>by rw[AR]at h ⊢;exact h
 |_::_,_,h,k=>by
  rw[AR]at h k ⊢;obtain⟨x,r,Y,U,T⟩:=h;obtain⟨Z,r',R,M,I⟩:=k;subst Y;cases R;exact⟨x,r,rfl,bq e U M,IM e T I⟩
end
theorem A3.ZA{H:Hp}{d:PyData}{ds:List PyData}{xs:List V}(h:A3 H (d::ds) xs):∃x r,xs=x::r/\DU H d x/\A3 H ds r:=by
 obtain⟨N,b⟩:=h;have h0:=b N (aG _);rw[AR]at h0;obtain⟨x,r,rfl,_,_⟩:=h0;refine⟨x,r,rfl,⟨N,fun l I=>?_⟩,⟨N,fun l I=>?_⟩⟩
 .have:=b l I;rw[AR]at this;obtain⟨_,_,e,M,_⟩:=this;cases e;exact M
 .have:=b l I;rw[AR]at this;obtain⟨_,_,e,_,M⟩:=this;cases e;exact M
theorem DU.rat{H:Hp}{q:Rat}{v:V}(h:DU H (Ac q) v):∃p,v=.ref p/\H p=some (.tup (Ll q)):=h.ints (ps:=[q.num,(q.den:Int)])
theorem eV{H:Hp}{q:Rat}{p:Addr}(h:H p=some (.tup (Ll q))):DU H (Ac q) (.ref p):=.tup h (.cons .int (.cons .int .nil))
theorem I0{c:Addr}{zs:List V}{H:Hp}(M:H c=some (.lst zs)):∀ {I:List Rat} {xs:List V},A3 H (AN I) xs->AR c H (AN I) xs
 |[],xs,h=>by
  have:=h.len;rw[show AN []=[] from rfl,List.length_nil]at this;rw[List.eq_nil_of_length_eq_zero this];exact .nil
 |q::I,xs,h=>by
  obtain⟨x,r,rfl,U,T⟩:=A3.ZA h;obtain⟨p,rfl,R⟩:=U.rat;exact .cons (.tup (fun z=>by subst z;rw[R]at M;cases M) R (.cons .int (.cons .int .nil))) (I0 M T)
theorem QM{c:Addr}{zs:List V}{H H':Hp}(M:H c=some (.lst zs))(e:SameBut c H H'){I:List Rat}{xs:List V}(h:A3 H (AN I) xs):A3 H' (AN I) xs:=Ca (.but e (I0 M h))
theorem Xn{c a:Addr}{zs xs:List V}{H:Hp}{I:List Rat}(M:H c=some (.lst zs))(n:a≠c)(ha:H a=some (.lst xs))(h:A3 H (AN I) xs):Dt c H (Ak I) (.ref a):=.lst n ha (I0 M h)
theorem DU.tab{H:Hp}{t:Tb}{v:V}(h:DU H (CF t) v):∃p R L xs ys,v=.ref p/\H p=some (.tup [.ref R,.ref L])/\H R=some (.lst xs)/\A3 H (Aq t.rs) xs/\H L=some (.lst ys)/\A3 H (AN t.ls) ys:=by
 obtain⟨p,zs,rfl,I,h1⟩:=h.WI;obtain⟨x,y,rfl,h2,Z⟩:=h1.Ky;obtain⟨R,xs,rfl,M,Y⟩:=h2.K4;obtain⟨L,ys,rfl,T,U⟩:=Z.K4;exact⟨p,R,L,xs,ys,rfl,I,M,Y,T,U⟩
theorem WU{H:Hp}{t:Tb}{p R L:Addr}{xs ys:List V}(I:H p=some (.tup [.ref R,.ref L]))(M:H R=some (.lst xs))(Y:A3 H (Aq t.rs) xs)(T:H L=some (.lst ys))(U:A3 H (AN t.ls) ys):DU H (CF t) (.ref p) :=
 .tup I (.cons (.lst M Y) (.cons (.lst T U) .nil))
theorem NJ{H:Hp}{rs:List (List Rat)}{xs:List V}{i:Nat}{r:List Rat}(h:A3 H (Aq rs) xs)(I:rs[i]? = some r):∃a ys,xs[i]? = some (.ref a)/\H a=some (.lst ys)/\A3 H (AN r) ys:=by
 obtain⟨v,U,T⟩:=h.get (i:=i) (d:=Ak r) (by rw[Aq,List.getElem?_map,I];rfl);obtain⟨a,ys,rfl,R,M⟩:=T.K4;exact⟨a,ys,U,R,M⟩
def Made(H0:Hp)(D:Addr)(rs:List (List Rat))(i:Nat)(ys:List V)(H:Hp):Prop :=
 AG H0 H/\ys.length=i/\AR D H (Aq (rs.take i)) ys/\∀y∈ys,∃a I,y=.ref a/\a≠D/\H0 a=none/\H a=some (.lst I)
theorem eM{H0:Hp}{D:Addr}{rs:List (List Rat)}(I:H0 D=none):Made H0 D rs 0 [] (upd H0 D (.lst [])):=⟨AL I _,rfl,.nil,fun _ z=>(bO z).elim⟩
theorem Xl{H0 H:Hp}{D l:Addr}{rs:List (List Rat)}{i:Nat}{ys zs:List V}{r:List Rat}(hD:H0 D=none)(m:Made H0 D rs i ys H)(hH:H D=some (.lst ys))(hr:rs[i]? = some r)(U:H l=none)(hz:A3 H (AN r) zs) :
  upd H l (.lst zs) D=some (.lst ys)/\Made H0 D rs (i+1) (ys++[.ref l]) (upd (upd H l (.lst zs)) D (.lst (ys++[.ref l]))):=by
 obtain⟨e,Y,d,n⟩:=m;have nl:l≠D:=fun z=>by subst z;rw[hH]at U;cases U
 have M:=AL U (.lst zs);have I:upd H l (.lst zs) l=some (.lst zs):=AF;generalize upd H l (.lst zs)=H1 at M I;have T:=M _ _ hH;have Z:H0 l=none:=by
  cases hx:H0 l with
  |none=>rfl
  |some o=>have:=e _ _ hx;rw[U]at this;cases this
 refine⟨T,fun b o z=>?_,by simp[Y],?_,fun y R=>?_⟩
 .rw[AE (AJ z hD)];exact M _ _ (e _ _ z)
 .rw[List.take_add_one,hr,Aq,List.map_append];exact .but .upd ((d.same M).app (.cons (Xn T nl I (hz.same M)) .nil))
 .rcases aT.mp R with R|R
  .obtain⟨a,ws,rfl,na,h0,h1⟩:=n y R;exact⟨a,ws,rfl,na,h0,by rw[AE na];exact M _ _ h1⟩
  .rw[List.mem_singleton.mp R];exact⟨l,zs,rfl,nl,Z,by rw[AE nl];exact I⟩
theorem WX(a b:List Rat):AN (a++b)=AN a++AN b:=List.map_append
def GA(c b:Int):Int:=c.fdiv (FM.gi c b)*b
def FT(bs:List Int):Int:=bs.foldl GA 1
theorem RY{k:Nat}:∀(bs:List Int) (c:Int) (n:Nat),1<=c->c.natAbs<2^n->(∀b∈bs,1<=b/\b.natAbs<2^k) ->
  1<=bs.foldl GA c/\(bs.foldl GA c).natAbs<2^(n+k*bs.length)/\c ∣ bs.foldl GA c/\∀b∈bs,b ∣ bs.foldl GA c
 |[],c,n,R,M,_=>⟨R,by simpa using M,Int.dvd_refl _,fun _ z=>(bO z).elim⟩
 |b::bs,c,n,R,M,h=>by
  obtain⟨b1,b2⟩:=h b ag;obtain⟨s1,s2,s3,U⟩:=Sz R b1;have n1:(GA c b).natAbs<2^(n+k):=FM.C8 (aQ U M) b2;obtain⟨r1,Z,T,Y⟩:=RY bs (GA c b) (n+k) s1 n1 fun y I=>h y (aV _ I);refine⟨r1,?_,Int.dvd_trans s2 T,fun y I=>?_⟩
  .rw[List.length_cons,Nat.mul_succ,show n+(k*bs.length+k)=n+k+k*bs.length by lia];exact Z
  .rcases aS.mp I with rfl|I
   .exact Int.dvd_trans s3 T
   .exact Y y I
theorem MS{k:Nat}{bs:List Int}(h:∀b∈bs,1<=b/\b.natAbs<2^k):1<=FT bs/\(FT bs).natAbs<2^(1+k*bs.length)/\∀b∈bs,b ∣ FT bs:=by
 obtain⟨a,b,_,d⟩:=RY bs 1 1 (by decide) (by decide) h;exact⟨a,b,d⟩
theorem Wt(bs:List Int)(b:Int):FT (bs++[b])=GA (FT bs) b:=by
 unfold FT;rw[List.foldl_append]
 rfl
def Nu:Sp:=fun vs H Q _=>∃(a:Addr) (bs:List Int) (k:Nat),vs=[.ref a]/\H a=some (.lst (bs.map V.int))/\(∀b∈bs,1<=b/\b.natAbs<2^k)/\k*bs.length<=4000/\Q (.int (FT bs)) H
def Bq(rs:List Rat)(B:Int):List Int:=rs.map fun r=>r.num*B.fdiv (r.den:Int)
def W0:Sp:=fun vs H Q _=>∃(a:Addr) (xs:List V) (rs:List Rat) (B:Int) (n m:Nat),vs=[.ref a,.int B]/\H a=some (.lst xs)/\A3 H (AN rs) xs/\rs.length<=50/\(∀r∈rs,FM.Fits r n)/\B.natAbs<2^m/\n+m<=4000 /\
 ∀D H',AG H H'->H D=none->H' D=some (.lst ((Bq rs B).map V.int))->Q (.ref D) H'
def AY(rs:List Rat):Int:=FT (rs.map fun r=>(r.den:Int))
def Ui:Sp:=fun vs H Q _=>∃(a:Addr) (xs:List V) (rs:List Rat) (n:Nat),vs=[.ref a]/\H a=some (.lst xs)/\A3 H (AN rs) xs/\rs.length<=50/\(∀r∈rs,FM.Fits r n)/\n*rs.length<=4000/\∀H',AG H H'->Q (.int (AY rs)) H'
theorem GV{H:Hp}{I:List Rat}{xs:List V}{i:Nat}{q:Rat}(h:A3 H (AN I) xs)(M:I[i]? = some q):∃p,xs[i]? = some (.ref p)/\H p=some (.tup (Ll q)):=by
 obtain⟨v,U,T⟩:=h.get (i:=i) (d:=Ac q) (by rw[AN,List.getElem?_map,M];rfl);obtain⟨p,rfl,R⟩:=T.rat;exact⟨p,U,R⟩
theorem MB{rs:List Rat}{n:Nat}(h:∀r∈rs,FM.Fits r n):∀b∈rs.map (fun r=>(r.den:Int)),1<=b/\b.natAbs<2^n:=fun b M=>by
 obtain⟨r,I,rfl⟩:=aL.mp M;have:=r.den_nz;exact⟨by lia,(h r I).d⟩
section
variable{P:Program}{w:World}{K:PySem.W.Frag}{mg:Str->Option Value}{base:Heap}{f g g1:Addr}{fd gd gd1:FuncData}
theorem MW(F:Fn K mg "common_bottom" Dp ["bottoms"] f fd)(BD:Fn K mg "greatest_divisor" C0 ["one","other"] g gd)
 (Cr:AM P w K mg base AZ 1 g gd ["one","other"] OX):AM P w K mg base AZ 2 f fd ["bottoms"] Nu:=by
 have sc:=NL;refine F.F.ok (k:=1) sc (fun vs H Q E h=>?_) (fun cdv A outer s H vs Q E Y h=>?_)
 .obtain⟨a,bs,k,rfl,_⟩:=h
  rfl
 obtain⟨a,bs,k,rfl,ha,M,hk,q⟩:=h;refine⟨_,(AD (AX (i:=1) sc.nd rfl (Or.inl rfl) AI)
 (AD (Bg aK rfl (BA (pv 0)) (Am (i:=2) sc.nd rfl (Or.inl rfl))
  (AH (AX (i:=1) sc.nd rfl (Or.inl rfl) (Af B4 (Af EV (pv 1) (Aa BD Cr Y rfl (AA (pv 1) (AA (pv 2) AB)))) (pv 2)))))
 (AH (Ae (pv 1))))),?_⟩
 refine⟨_,rfl,a,rfl,⟨_,AQ.of ha⟩,Bx (xs:=bs.map V.int) (fun i σ H'=>∃(r:Option V),σ=[some (.ref a),some (.int (FT (bs.take i))),r]/\H=H') ?_ ?_ ?_ ?_⟩
 .exact⟨_,rfl,rfl⟩
 .rintro i σ H' _ ⟨r,rfl,rfl⟩;exact AQ.of ha
 .rintro i x σ H' I ⟨r,rfl,rfl⟩;have hi:i<bs.length:=by have:=(aB.mp I).1;simpa using this
  rw[List.getElem?_map,List.getElem?_eq_getElem hi]at I;cases I;obtain⟨b1,b2⟩:=M _ (aa hi);obtain⟨c1,R,_⟩:=MS (k:=k) (bs:=bs.take i) fun y U=>M y (bU U);rw[List.length_take,Nat.min_eq_left (by lia)]at R;obtain⟨s1,s2,s3,T⟩:=Sz c1 b1;have hg:FM.gi (FT (bs.take i)) bs[i]≠0:=Int.ne_of_gt (FM.Lu (by lia));have Z:k*i+k<=4000:=by
   have:k*(i+1)<=k*bs.length:=aX k hi;rw[Nat.mul_succ]at this
   lia
  have n1:((FT (bs.take i)).fdiv (FM.gi (FT (bs.take i)) bs[i])).natAbs<2^(1+k*i):=aQ T R;refine⟨_,rfl,_,rfl,_,rfl,FT (bs.take i),bs[i],rfl,_,_,rfl,rfl,⟨hg,k,by have:k*1<=k*bs.length:=aX k (by lia);lia,Nat.lt_of_le_of_lt (FM.ZV (by lia)) b2⟩,_,rfl,_,_,rfl,rfl,JK n1 b2 (by lia),some (.int bs[i]),?_,rfl⟩;rw[List.take_add_one,List.getElem?_eq_getElem hi];show _=[some (V.ref a),some (V.int (FT (bs.take i++[bs[i]]))),some (V.int bs[i])];rw[Wt]
  rfl
 .rintro σ H' ⟨r,rfl,rfl⟩;rw[List.length_map,List.take_length];exact⟨_,rfl,q⟩
theorem Sb:Ab ["some","bottom"] ["some","bottom"] (AO Js):=⟨rfl,rfl,rfl,by decide +kernel,rfl,by decide +kernel,by decide +kernel⟩
theorem SU(F:Fn K mg "tops_over" Js ["some","bottom"] f fd):AM P w K mg base AZ 1 f fd ["some","bottom"] W0:=by
 have sc:=Sb;refine F.F.ok (k:=0) sc (fun vs H Q E h=>?_) (fun cdv A outer s H vs Q E T h=>?_)
 .obtain⟨a,xs,rs,B,n,m,rfl,_⟩:=h
  rfl
 obtain⟨a,xs,rs,B,n,m,rfl,ha,dx,hl,hf,hB,hnm,q⟩:=h;have Y:xs.length=rs.length:=by rw[dx.len,FE]
 refine⟨_,(AH (Ae (CU [".0","part","bottom"] 1 [none,none,some 1] (BA (pv 0)) (fun _ _ _ _ _=>Bd) (fun _ _ _ _ _=>(Af B4 (A0 G8 (pv 1) AI (fun _ _=>rfl)) (Af EV (pv 2) (A0 G8 (pv 1) AI (fun _ _=>rfl)))))))),?_⟩;refine⟨_,rfl,a,rfl,⟨_,AQ.of ha⟩,fun D Z=>B5 (n:=xs.length) (fun i ys H'=>AG H H'/\ys=(Bq (rs.take i) B).map V.int) ⟨AL Z _,rfl⟩ ?_ ?_⟩
 .rintro i ys H1 hi ⟨M,rfl⟩ I;have T:rs[i]? = some (rs[i]'(by lia)):=aI _;obtain⟨p,U,R⟩:=GV dx T;have ft:=hf _ (aJ T);generalize rs[i]'(by lia)=r at T R ft;have hd:=r.den_nz;refine⟨⟨xs,.ref p,AQ.of (M _ _ ha),U⟩,CI (n:=60) (by unfold Bq;simp;lia) (by decide),fun x H' y=>?_⟩;obtain⟨rfl,y⟩:=y;have hx:=y xs (AQ.of (M _ _ ha));rw[U]at hx;cases hx;unfold CZ;have n2:(B.fdiv (r.den:Int)).natAbs<2^m:=aQ (FM.BX _ _) hB;refine BI ⟨_,rfl,_,_,_,_,rfl,rfl,Ao.of (M _ _ R),rfl,_,rfl,_,rfl,_,_,_,_,rfl,rfl,Ao.of (M _ _ R),rfl,_,_,rfl,rfl,⟨by lia,n,by lia,ft.d⟩,_,_,rfl,rfl,JK ft.1 n2 (by lia),I,BR hi ⟨fun b o z=>?_,?_⟩⟩
  .rw[AE (AJ z Z)];exact M _ _ z
  .rw[List.take_add_one,T,Bq,Bq,List.map_append,List.map_append]
   rfl
 .rintro ys H1 ⟨M,rfl⟩ I;rw[Y,List.take_length]at I;exact⟨⟨xs,AQ.of (M _ _ ha),Nat.le_refl _⟩,q D H1 M Z I⟩
theorem Tt:Ab ["start"] ["start"] (AO KQ):=⟨rfl,rfl,rfl,by decide +kernel,rfl,by decide +kernel,by decide +kernel⟩
theorem Tq(F:Fn K mg "grain_of" KQ ["start"] f fd)(BZ:Fn K mg "common_bottom" Dp ["bottoms"] g1 gd1)
 (Dg:AM P w K mg base AZ 2 g1 gd1 ["bottoms"] Nu):AM P w K mg base AZ 3 f fd ["start"] Ui:=by
 have sc:=Tt;refine F.F.ok (k:=2) sc (fun vs H Q E h=>?_) (fun cdv A outer s H vs Q E R h=>?_)
 .obtain⟨a,xs,rs,n,rfl,_⟩:=h
  rfl
 obtain⟨a,xs,rs,n,rfl,ha,dx,hl,hf,hn,q⟩:=h;have Y:xs.length=rs.length:=by rw[dx.len,FE]
 refine⟨_,(AH (Ae (Aa BZ Dg R rfl (AA (CU [".0","place"] 1 [none,none] (BA (pv 0)) (fun _ _ _ _ _=>Bd) (fun _ _ _ _ _=>(A0 G8 (pv 1) AI (fun _ _=>rfl)))) AB)))),?_⟩;refine⟨_,rfl,a,rfl,⟨_,AQ.of ha⟩,fun D hD=>B5 (n:=xs.length) (fun i ys H'=>AG H H'/\ys=((rs.take i).map fun r=>(r.den:Int)).map V.int) ⟨AL hD _,rfl⟩ ?_ ?_⟩
 .rintro i ys H1 hi ⟨M,rfl⟩ I;have R:rs[i]? = some (rs[i]'(by lia)):=aI _;obtain⟨p,U,T⟩:=GV dx R;generalize rs[i]'(by lia)=r at R T;refine⟨⟨xs,.ref p,AQ.of (M _ _ ha),U⟩,CI (n:=60) (by simp;lia) (by decide),fun x H' y=>?_⟩;obtain⟨rfl,y⟩:=y;have Z:=y xs (AQ.of (M _ _ ha));rw[U]at Z;cases Z;unfold CZ;refine BI ⟨_,rfl,_,_,_,_,rfl,rfl,Ao.of (M _ _ T),rfl,I,BR hi ⟨fun b o z=>?_,?_⟩⟩
  .rw[AE (AJ z hD)];exact M _ _ z
  .rw[List.take_add_one,R,List.map_append,List.map_append]
   rfl
 .rintro ys H1 ⟨M,rfl⟩ I;rw[Y,List.take_length]at I;exact⟨⟨xs,AQ.of (M _ _ ha),Nat.le_refl _⟩,D,_,n,rfl,I,MB hf,by rw[List.length_map];exact hn,q H1 M⟩
end
abbrev Ah:=List Int×Rat
def DC(m:Ah):PyData:=.tuple [.tuple (m.1.map .int),Ac m.2]
def BS(us:List Ah):PyData:=.list (us.map DC)
theorem DU.mono{H:Hp}{m:Ah}{v:V}(h:DU H (DC m) v):∃c P F,v=.ref c/\H c=some (.tup [.ref P,.ref F])/\H P=some (.tup (m.1.map V.int))/\H F=some (.tup (Ll m.2)):=by
 obtain⟨c,xs,rfl,I,Y⟩:=h.WI;obtain⟨x,y,rfl,U,T⟩:=Y.Ky;obtain⟨P,rfl,M⟩:=U.ints;obtain⟨F,rfl,R⟩:=T.rat;exact⟨c,P,F,rfl,I,M,R⟩
theorem JO{H:Hp}{us:List Ah}{xs:List V}{i:Nat}{m:Ah}(d:A3 H (us.map DC) xs)(h:us[i]? = some m):∃c P F,xs[i]? = some (.ref c)/\H c=some (.tup [.ref P,.ref F])/\H P=some (.tup (m.1.map V.int))/\H F=some (.tup (Ll m.2)):=by
 obtain⟨v,M,I⟩:=d.get (i:=i) (d:=DC m) (by rw[List.getElem?_map,h];rfl);obtain⟨c,P,F,rfl,a,b,e⟩:=I.mono;exact⟨c,P,F,M,a,b,e⟩
theorem Ic{H:Hp}{uss:List (List Ah)}{cs:List V}{i:Nat}{us:List Ah}(d:A3 H (uss.map BS) cs)(h:uss[i]? = some us):∃a xs,cs[i]? = some (.ref a)/\H a=some (.lst xs)/\A3 H (us.map DC) xs:=by
 obtain⟨v,R,M⟩:=d.get (i:=i) (d:=BS us) (by rw[List.getElem?_map,h];rfl);obtain⟨a,xs,rfl,ha,I⟩:=M.K4;exact⟨a,xs,R,ha,I⟩
def IW(us:List Ah):List Int:=us.map fun m=>(m.2.den:Int)
def FI(uss:List (List Ah)):List Int:=(uss.map IW).flatten
def BH(uss:List (List Ah)):Int:=FT (FI uss)
def Be(m:Ah):Int:=m.1.sum
def Gv(g:Int)(us:List Ah):Int:=us.foldl (fun g m=>if Be m > g then Be m else g) g
def EH(uss:List (List Ah)):Int:=uss.foldl Gv 1
structure LJ(H:Hp)(C:Addr)(cs:List V)(uss:List (List Ah))(n:Nat):Prop where
 at_:H C=some (.lst cs)
 du:A3 H (uss.map BS) cs
 len:uss.length<=4
 LZ:∀us∈uss,us.length<=12/\∀m∈us,FM.Fits m.2 n
theorem LJ.same{H H':Hp}{C:Addr}{cs:List V}{uss:List (List Ah)}{n:Nat}(c:LJ H C cs uss n)(e:AG H H'):LJ H' C cs uss n:=⟨e _ _ c.at_,c.du.same e,c.len,c.LZ⟩
theorem LJ.cl{H:Hp}{C:Addr}{cs:List V}{uss:List (List Ah)}{n:Nat}(c:LJ H C cs uss n):cs.length=uss.length:=by rw[c.du.len,List.length_map]
theorem NA{uss:List (List Ah)}:∀(h:∀us∈uss,us.length<=12),(FI uss).length<=12*uss.length:=by
 induction uss with
 |nil=>intro _;simp[FI]
 |cons us uss I=>
  intro h;have T:=h us ag;have R:=I fun y M=>h y (aV _ M);unfold FI at R ⊢;rw[List.map_cons,List.flatten_cons,List.length_append,List.length_cons,Nat.mul_succ];have:(IW us).length=us.length:=bW _
  lia
theorem XU{uss:List (List Ah)}{us:List Ah}{i:Nat}(h:uss[i]? = some us):FI (uss.take (i+1))=FI (uss.take i)++IW us:=by
 unfold FI;rw[List.take_add_one,h,List.map_append,List.flatten_append];simp
theorem SD{uss:List (List Ah)}{n:Nat}(h:∀us∈uss,us.length<=12/\∀m∈us,FM.Fits m.2 n):∀b∈FI uss,1<=b/\b.natAbs<2^n:=fun b I=>by
 unfold FI at I;obtain⟨l,R,I⟩:=List.mem_flatten.mp I;obtain⟨us,M,rfl⟩:=aL.mp R;obtain⟨m,hm,rfl⟩:=aL.mp I;have:=m.2.den_nz;exact⟨by lia,((h us M).2 m hm).d⟩
def Yt:Sp:=fun vs H Q _=>∃(C:Addr) (cs:List V) (uss:List (List Ah)) (n:Nat),vs=[.ref C]/\LJ H C cs uss n/\n<=80/\∀H',AG H H'->Q (.int (BH uss)) H'
def YU:Sp:=fun vs H Q _=>∃(C:Addr) (cs:List V) (uss:List (List Ah)) (n:Nat),vs=[.ref C]/\LJ H C cs uss n/\Q (.int (EH uss)) H
section
variable{P:Program}{w:World}{K:PySem.W.Frag}{mg:Str->Option Value}{base:Heap}{f g1:Addr}{fd gd1:FuncData}
theorem NO:Ab ["change","bottoms","some"] ["change"] (AO Em):=⟨rfl,rfl,rfl,by decide +kernel,rfl,by decide +kernel,by decide +kernel⟩
theorem NR(F:Fn K mg "speeds_bottom" Em ["change"] f fd)(BZ:Fn K mg "common_bottom" Dp ["bottoms"] g1 gd1)
 (Dg:AM P w K mg base AZ 2 g1 gd1 ["bottoms"] Nu):AM P w K mg base AZ 3 f fd ["change"] Yt:=by
 have sc:=NO;refine F.F.ok (k:=2) sc (fun vs H Q E h=>?_) (fun cdv A outer s H vs Q E hr h=>?_)
 .obtain⟨C,cs,uss,n,rfl,_⟩:=h
  rfl
 obtain⟨C,cs,uss,n,rfl,T,hn,q⟩:=h;have hcl:=T.cl;have hl4:=T.len;refine⟨_,(AD (AX (i:=1) sc.nd rfl (Or.inl rfl) (B8 AB))
 (AD (Bg aK rfl (BA (pv 0)) (Am (i:=2) sc.nd rfl (Or.inl rfl))
  (AH (B2 (GW ab PySem.F.slot_list_extend PySem.F.type_list_extend Pc (pv 1) (AA (Lc [".0","powers","part"] 1 2 [none,none,none] (BA (pv 2)) (fun _ _ _ _ _=>Bd) (fun _ _ _ _ _=>(A0 G8 (pv 2) AI (fun _ _=>rfl)))) AB)))))
 (AH (Ae (Aa BZ Dg hr rfl (AA (pv 1) AB)))))),?_⟩
 refine⟨BU (show 0<=60 by decide),fun Z hZ=>?_⟩;have e1:=AL hZ (.lst []);have hZ1:upd H Z (.lst []) Z=some (.lst []):=AF;generalize upd H Z (.lst [])=H1 at e1 hZ1;refine⟨_,rfl,C,rfl,⟨_,AQ.of (e1 _ _ T.at_)⟩,Bx (xs:=cs) (fun i σ H'=>∃r2,σ=[some (.ref C),some (.ref Z),r2]/\AG H H'/\H' Z=some (.lst ((FI (uss.take i)).map V.int))) ?_ ?_ ?_ ?_⟩
 .exact⟨_,rfl,e1,hZ1⟩
 .rintro i σ H' _ ⟨r2,rfl,e,_⟩;exact AQ.of (e _ _ T.at_)
 .rintro i x σ H2 hx ⟨r2,rfl,Y,I⟩;have hi:i<uss.length:=by rw[<-hcl];exact(aB.mp hx).1
  have hu:uss[i]? = some uss[i]:=by simp[hi]
  obtain⟨a,xs,ha1,M,dx⟩:=Ic T.du hu;obtain⟨u12,_⟩:=T.LZ _ (aJ hu);generalize uss[i]=us at hu dx u12;rw[hx]at ha1;cases ha1;have hxl:xs.length=us.length:=by rw[dx.len,List.length_map]
  refine⟨_,rfl,.inl ⟨rfl,_,AQ.of I⟩,_,rfl,a,rfl,⟨_,AQ.of (Y _ _ M)⟩,fun D hD=>Gw (n:=xs.length) (fun j ys H'=>AG H2 H'/\ys=(IW (us.take j)).map V.int) ⟨AL hD _,rfl⟩ ?_ ?_⟩
  .rintro j ys H3 hj ⟨U,rfl⟩ R;have E3:=Y.trans U;have hm:us[j]? = some (us[j]'(by lia)):=aI _;obtain⟨c,Pw,Fr,k1,k2,k3,k4⟩:=JO dx hm;generalize us[j]'(by lia)=m at hm k3 k4;refine⟨⟨xs,.ref c,AQ.of (E3 _ _ M),k1⟩,CI (n:=60) (by unfold IW;simp;lia) (by decide),fun x H' y=>?_⟩;obtain⟨rfl,y⟩:=y;have hx:=y xs (AQ.of (E3 _ _ M));rw[k1]at hx;cases hx;refine⟨c,_,_,rfl,Ao.of (E3 _ _ k2),?_⟩;unfold CZ;refine BI ⟨_,rfl,_,_,_,_,rfl,rfl,Ao.of (E3 _ _ k4),rfl,R,BR hj ⟨fun b o z=>?_,?_⟩⟩
   .rw[AE (AJ z hD)];exact U _ _ z
   .rw[List.take_add_one,hm,IW,IW,List.map_append,List.map_append]
    rfl
  .rintro ys H3 ⟨U,rfl⟩ R;have E3:=Y.trans U;rw[hxl,List.take_length]at R;refine⟨⟨xs,AQ.of (E3 _ _ M),Nat.le_refl _⟩,Z,D,_,_,rfl,rfl,U _ _ I,R,?_,_,rfl,fun b o z=>?_,?_⟩
   .have:=NA (uss:=uss.take i) fun y hy=>(T.LZ y (bU hy)).1;rw[List.length_take,Nat.min_eq_left (by lia)]at this;refine BU ?_;rw[List.length_map,List.length_map,show(IW us).length=us.length from bW _]
    lia
   .rw[AE (AJ z hZ)];exact U _ _ (Y _ _ z)
   .rw[AF,XU hu,List.map_append]
 .rintro σ H2 ⟨r2,rfl,Y,I⟩;rw[hcl,List.take_length]at I;refine⟨_,rfl,Z,_,n,rfl,I,SD T.LZ,?_,q H2 Y⟩;have h1:=NA (uss:=uss) fun y hy=>(T.LZ y hy).1;have h2:(FI uss).length<=48:=by lia
  exact aR (bY hn h2) (by decide)
theorem MZ:Ab ["change","greatest","some","powers","part"] ["change"] (AO EY):=⟨rfl,rfl,rfl,by decide +kernel,rfl,by decide +kernel,by decide +kernel⟩
theorem MX(F:Fn K mg "greatest_power" EY ["change"] f fd)(Vp:mg "max" = none)(Dl:mg "sum" = none):AM P w K mg base AZ 1 f fd ["change"] YU:=by
 have sc:=MZ;refine F.F.ok (k:=0) sc (fun vs H Q E h=>?_) (fun cdv A outer s H vs Q E hr h=>?_)
 .obtain⟨C,cs,uss,n,rfl,_⟩:=h
  rfl
 obtain⟨C,cs,uss,n,rfl,ch,q⟩:=h;have T:=ch.cl;refine⟨_,(AD (AX (i:=1) sc.nd rfl (Or.inl rfl) AI)
 (AD (Bg aK rfl (BA (pv 0)) (Am (i:=2) sc.nd rfl (Or.inl rfl))
  (AH (Bg aK rfl (BA (pv 2)) (Eu rfl (BM (Am (i:=3) sc.nd rfl (Or.inl rfl)) (BM (Am (i:=4) sc.nd rfl (Or.inl rfl)) EC)))
   (AH (AX (i:=1) sc.nd rfl (Or.inl rfl) (Ai (W7 rfl) rfl Vp PyProof.Rows.boot_max (AA (pv 1) (AA (Ai (Jg rfl) rfl Dl bZ (AA (pv 3) AB)) AB))))))))
 (AH (Ae (pv 1))))),?_⟩
 refine⟨_,rfl,C,rfl,⟨_,AQ.of ch.at_⟩,Bx (xs:=cs) (fun i σ H'=>∃(Z M I:Option V),σ=[some (.ref C),some (.int (EH (uss.take i))),Z,M,I]/\H=H') ?_ ?_ ?_ ?_⟩
 .exact⟨_,_,_,rfl,rfl⟩
 .rintro i σ H' _ ⟨Z,M,I,rfl,rfl⟩;exact AQ.of ch.at_
 .rintro i x σ H2 hx ⟨Z,M,I,rfl,rfl⟩;have hi:i<uss.length:=by rw[<-T];exact(aB.mp hx).1
  have hu:uss[i]? = some uss[i]:=by simp[hi]
  obtain⟨a,xs,Y,U,dx⟩:=Ic ch.du hu;generalize uss[i]=us at hu dx;rw[hx]at Y;cases Y;have R:xs.length=us.length:=by rw[dx.len,List.length_map]
  refine⟨_,rfl,a,rfl,⟨_,AQ.of U⟩,Bx (xs:=xs) (fun j σ H'=>∃(M I:Option V),σ=[some (.ref C),some (.int (Gv (EH (uss.take i)) (us.take j))),some (.ref a),M,I]/\H=H') ?_ ?_ ?_ ?_⟩
  .exact⟨_,_,rfl,rfl⟩
  .rintro j σ H' _ ⟨M,I,rfl,rfl⟩;exact AQ.of U
  .rintro j y σ H' hy ⟨M,I,rfl,rfl⟩;have hj:j<us.length:=by rw[<-R];exact(aB.mp hy).1
   have hm:us[j]? = some us[j]:=by simp[hj]
   obtain⟨c,Pw,Fr,k1,k2,k3,k4⟩:=JO dx hm;generalize us[j]=m at hm k3 k4;rw[hy]at k1;cases k1;refine⟨c,_,rfl,Ao.of k2,rfl,_,_,rfl,_,_,rfl,rfl,?_⟩;refine⟨_,rfl,_,rfl,Pw,m.1,rfl,Ao.of k3,_,_,rfl,some (.ref Pw),some (.ref Fr),?_,rfl⟩;rw[List.take_add_one,hm];show _=[some (V.ref C),some (V.int (Gv (EH (uss.take i)) (us.take j++[m]))),some (V.ref a),some (V.ref Pw),some (V.ref Fr)];unfold Gv;rw[List.foldl_append]
   rfl
  .rintro σ H' ⟨M,I,rfl,rfl⟩;refine⟨some (.ref a),M,I,?_,rfl⟩;rw[R,List.take_length,List.take_add_one,hu];show _=[some (V.ref C),some (V.int (EH (uss.take i++[us]))),some (V.ref a),M,I];unfold EH;rw[List.foldl_append]
   rfl
 .rintro σ H' ⟨Z,M,I,rfl,rfl⟩;rw[T,List.take_length];exact⟨_,rfl,q⟩
end
theorem KN{c:Addr}{Y:List V}{H:Hp}(M:H c=some (.lst Y)):∀ {us:List Ah} {zs:List V},A3 H (us.map DC) zs->AR c H (us.map DC) zs
 |[],zs,h=>by
  have:=h.len;rw[List.map_nil,List.length_nil]at this;rw[List.eq_nil_of_length_eq_zero this];exact .nil
 |m::us,zs,h=>by
  obtain⟨x,t,rfl,h1,h2⟩:=A3.ZA h;obtain⟨a,P,F,rfl,U,T,R⟩:=DU.mono h1;have ne:∀ {p:Addr} {xs:List V},H p=some (.tup xs)->p≠c:=fun hp z=>by subst z;rw[hp]at M;cases M
  have I:∀ps:List Int,AR c H (ps.map .int) (ps.map V.int):=fun ps=>by
   induction ps with
   |nil=>exact .nil
   |cons p ps Z=>exact .cons .int Z
  exact .cons (.tup (ne U) U (.cons (.tup (ne T) T (I _)) (.cons (.tup (ne R) R (.cons .int (.cons .int .nil))) .nil))) (KN M h2)
theorem Zv{H:Hp}{P:Addr}{ps:List Int}(h:H P=some (.tup (ps.map V.int))):DU H (.tuple (ps.map .int)) (.ref P):=by
 refine .tup h ?_;clear h
 induction ps with
 |nil=>exact .nil
 |cons p ps I=>exact .cons .int I
def Io(B G:Int)(gr:Nat)(m:Ah):Ah:=(m.1,((m.2.num*B.fdiv (m.2.den:Int)*G^(gr-(Be m).toNat):Int):Rat))
def Ec(B G:Int)(gr:Nat)(us:List Ah):List Ah:=us.map (Io B G gr)
def fM:Sp:=fun vs H Q _=>∃(a:Addr) (xs:List V) (us:List Ah) (B G:Int) (I n b k:Nat),vs=[.ref a,.int B,.int G,.int (I:Nat)]/\H a=some (.lst xs)/\A3 H (us.map DC) xs/\us.length<=12/\I<=3/\(∀m∈us,FM.Fits m.2 n/\0<=Be m/\Be m<=I) /\
 B.natAbs<2^b/\G.natAbs<2^k/\n+b+3*k<=3900/\∀Z H' M,AG H H'->H Z=none->H' Z=some (.lst M)->A3 H' ((Ec B G I us).map DC) M->Q (.ref Z) H'
section
variable{P:Program}{w:World}{K:PySem.W.Frag}{mg:Str->Option Value}{base:Heap}{f g1:Addr}{fd gd1:FuncData}
theorem QW:Ab ["some","bottom","grain","greatest","terms","powers","part","top"] ["some","bottom","grain","greatest"] (AO JG):=⟨rfl,rfl,rfl,by decide +kernel,rfl,by decide +kernel,by decide +kernel⟩
theorem Qi(F:Fn K mg "whole_poly" JG ["some","bottom","grain","greatest"] f fd)(EN:Fn K mg "power_of" IH ["base","power"] g1 gd1)
 (KS:AM P w K mg base AZ 1 g1 gd1 ["base","power"] VT)(Dl:mg "sum" = none):AM P w K mg base AZ 2 f fd ["some","bottom","grain","greatest"] fM:=by
 have sc:=QW;refine F.F.ok (k:=1) sc (fun vs H Q E h=>?_) (fun cdv A outer s H vs Q E hr h=>?_)
 .obtain⟨a,xs,us,B,G,I,n,b,k,rfl,_⟩:=h
  rfl
 obtain⟨a,xs,us,B,G,I,n,b,k,rfl,ha,dx,h12,hgr,hus,hB,hG,hsz,q⟩:=h;have Y:xs.length=us.length:=by rw[dx.len,List.length_map]
 refine⟨_,(AD (AX (i:=4) sc.nd rfl (Or.inl rfl) (B8 AB))
 (AD (Bg aK rfl (BA (pv 0)) (Eu rfl (BM (Am (i:=5) sc.nd rfl (Or.inl rfl)) (BM (Am (i:=6) sc.nd rfl (Or.inl rfl)) EC)))
  (AD (AX (i:=7) sc.nd rfl (Or.inl rfl) (Af B4 (Af B4 (A0 BN (pv 6) AI (fun _ _=>rfl)) (Af EV (pv 1) (A0 BN (pv 6) AI (fun _ _=>rfl)))) (Aa EN KS hr rfl (AA (pv 2) (AA (Af FZ (pv 3) (Ai (Jg rfl) rfl Dl bZ (AA (pv 5) AB))) AB)))))
  (AH (B2 (GW ab ay az DJ (pv 4) (AA (Gf (AA (pv 5) (AA (Gf (AA (pv 7) (AA AI AB))) AB))) AB))))))
 (AH (Ae (pv 4))))),?_⟩
 refine⟨BU (show 0<=60 by decide),fun Z hZ=>?_⟩;have e1:=AL hZ (.lst []);have hZ1:upd H Z (.lst []) Z=some (.lst []):=AF;generalize upd H Z (.lst [])=H1 at e1 hZ1;refine⟨_,rfl,a,rfl,⟨_,AQ.of (e1 _ _ ha)⟩,Bx (xs:=xs) (fun i σ H'=>∃(r5 r6 r7:Option V) (M:List V),σ=[some (.ref a),some (.int B),some (.int G),some (.int (I:Nat)),some (.ref Z),r5,r6,r7]/\AG H H'/\H' Z=some (.lst M)/\A3 H' ((Ec B G I (us.take i)).map DC) M) ?_ ?_ ?_ ?_⟩
 .exact⟨_,_,_,[],rfl,e1,hZ1,.nil⟩
 .rintro i σ H' _ ⟨r5,r6,r7,M,rfl,e,_⟩;exact AQ.of (e _ _ ha)
 .rintro i x σ H2 hx ⟨r5,r6,r7,M,rfl,T,R,dz⟩;have hi:i<us.length:=by rw[<-Y];exact(aB.mp hx).1
  have hm:us[i]? = some us[i]:=by simp[hi]
  obtain⟨c,Pw,Fr,k1,k2,k3,k4⟩:=JO dx hm;obtain⟨fm,s0,s1⟩:=hus _ (aJ hm);generalize us[i]=m at hm k3 k4 fm s0 s1;rw[hx]at k1;cases k1;have hd:=m.2.den_nz;have hzl:M.length=i:=by rw[dz.len,List.length_map,Ec,List.length_map,List.length_take];lia
  have n2:(B.fdiv (m.2.den:Int)).natAbs<2^b:=aQ (FM.BX _ _) hB;have n3:=FM.C8 fm.1 n2;have n4:(G^(I-(Be m).toNat)).natAbs<2^(k*3+1):=ED (p:=3) hG (by lia);refine⟨c,_,rfl,Ao.of (T _ _ k2),rfl,_,_,rfl,_,_,rfl,rfl,?_⟩;refine⟨_,rfl,_,_,_,_,rfl,rfl,Ao.of (T _ _ k4),rfl,_,rfl,_,rfl,_,_,_,_,rfl,rfl,Ao.of (T _ _ k4),rfl,_,_,rfl,rfl,⟨by lia,n,by lia,fm.d⟩,_,_,rfl,rfl,JK fm.1 n2 (by lia),_,rfl,_,rfl,_,rfl,Pw,m.1,rfl,Ao.of (T _ _ k3),_,_,rfl,rfl,G,I-(Be m).toNat,k,?_,hG,?_,_,_,rfl,rfl,JK n3 n4 (by lia),?_⟩
  .show [V.int G,V.int ((I:Int)-m.1.sum)]=[V.int G,V.int ((I-(Be m).toNat:Nat):Int)]
   congr 3
   unfold Be at s0 s1 ⊢
   lia
  .have:k*(I-(Be m).toNat)<=k*3:=aX k (by lia)
   lia
  refine⟨_,rfl,.inl ⟨rfl,_,AQ.of R⟩,_,rfl,_,rfl,BU (show 2<=60 by decide),fun t1 ht1=>?_⟩;generalize hH:upd _ t1 _=H3;obtain⟨e3,d3,_⟩:=cf (ds:=[.int (m.2.num*B.fdiv (m.2.den:Int)*G^(I-(Be m).toNat)),.int 1]) hH ht1 (.cons .int (.cons .int .nil));clear hH;refine⟨BU (show 2<=60 by decide),fun t2 ht2=>?_⟩;generalize hH:upd _ t2 _=H4;obtain⟨e4,d4,_⟩:=cf hH ht2 (.cons ((Zv (T _ _ k3)).same e3) (.cons d3 .nil));clear hH;have U:=e3.trans e4;have hZ4:=U _ _ R;have d4:DU H4 (DC (Io B G I m)) (.ref t2):=d4;refine⟨Z,M,_,rfl,rfl,hZ4,CI (n:=60) (by lia) (by decide),?_⟩;refine⟨_,_,_,M++[.ref t2],rfl,fun b o zz=>?_,AF,?_⟩
  .rw[AE (AJ zz hZ)];exact U _ _ (T _ _ zz)
  .rw[List.take_add_one,hm];have dn:A3 H4 ((Ec B G I (us.take i++[m])).map DC) (M++[.ref t2]):=by
    unfold Ec;rw[List.map_append,List.map_append];exact(dz.same U).app (.cons d4 .nil)
   exact Ca (.but .upd (KN hZ4 dn))
 .rintro σ H2 ⟨r5,r6,r7,M,rfl,T,R,dz⟩;rw[Y,List.take_length]at dz;exact⟨_,rfl,q Z H2 M T hZ R dz⟩
end
theorem Cq{H H':Hp}{a:Addr}(e:AG H H')(h:H' a=none):H a=none:=by
 cases I:H a with
 |none=>rfl
 |some o=>have:=e _ _ I;rw[h]at this;cases this
theorem Uq:∀(us:List Ah) (g:Int),g<=Gv g us/\(∀m∈us,Be m<=Gv g us)/\∀c,g<=c->(∀m∈us,Be m<=c)->Gv g us<=c
 |[],g=>⟨Int.le_refl _,fun _ z=>(bO z).elim,fun _ h _=>h⟩
 |m::us,g=>by
  obtain⟨M,T,R⟩:=Uq us (if Be m > g then Be m else g);have e:Gv g (m::us)=Gv (if Be m > g then Be m else g) us:=rfl;rw[e];have s1:g<=(if Be m > g then Be m else g):=by split<;>lia
  have s2:Be m<=(if Be m > g then Be m else g):=by split<;>lia
  refine⟨Int.le_trans s1 M,fun y I=>?_,fun c U hm=>?_⟩
  .rcases aS.mp I with rfl|I
   .exact Int.le_trans s2 M
   .exact T y I
  .refine R c ?_ fun y I=>hm y (aV _ I);have:=hm m ag;split<;>lia
theorem PX:∀(uss:List (List Ah)) (g:Int),g<=uss.foldl Gv g/\(∀us∈uss,∀m∈us,Be m<=uss.foldl Gv g)/\∀c,g<=c->(∀us∈uss,∀m∈us,Be m<=c)->uss.foldl Gv g<=c
 |[],g=>⟨Int.le_refl _,fun _ z=>(bO z).elim,fun _ h _=>h⟩
 |us::uss,g=>by
  obtain⟨a1,a2,a3⟩:=Uq us g;obtain⟨M,U,T⟩:=PX uss (Gv g us);rw[List.foldl_cons];refine⟨Int.le_trans a1 M,fun y I m hm=>?_,fun c R hm=>?_⟩
  .rcases aS.mp I with rfl|I
   .exact Int.le_trans (a2 m hm) M
   .exact U y I m hm
  .exact T c (a3 c R (hm us ag)) fun y I=>hm y (aV _ I)
theorem HA{uss:List (List Ah)}{c:Int}(I:1<=c)(h:∀us∈uss,∀m∈us,Be m<=c):1<=EH uss/\EH uss<=c/\∀us∈uss,∀m∈us,Be m<=EH uss:=by
 obtain⟨T,R,M⟩:=PX uss 1;exact⟨T,M c I h,R⟩
def A6(uss:List (List Ah)):Nat:=(EH uss).toNat
def Ci(G:Int)(uss:List (List Ah)):List (List Ah):=uss.map (Ec (BH uss) G (A6 uss))
def Jr(uss:List (List Ah))(G:Int):Int:=BH uss*G^(A6 uss-1)
theorem EZ{uss:List (List Ah)}{n:Nat}(R:uss.length<=4)(h:∀us∈uss,us.length<=12/\∀m∈us,FM.Fits m.2 n):1<=BH uss/\(BH uss).natAbs<2^(1+n*48)/\∀us∈uss,∀m∈us,(m.2.den:Int) ∣ BH uss:=by
 obtain⟨a,b,c⟩:=MS (SD h);have T:=NA (uss:=uss) fun y M=>(h y M).1;refine⟨a,FM.Ce b ?_,fun us I m hm=>c _ ?_⟩
 .have:=aX n (show(FI uss).length<=48 by lia)
  lia
 .unfold FI;exact List.mem_flatten.mpr ⟨IW us,List.mem_map.mpr ⟨us,I,rfl⟩,List.mem_map.mpr ⟨m,hm,rfl⟩⟩
def gT:Sp:=fun vs H Q _=>∃(C:Addr) (cs:List V) (uss:List (List Ah)) (G:Int) (k:Nat),vs=[.ref C,.int G]/\LJ H C cs uss 4/\(∀us∈uss,∀m∈us,0<=Be m/\Be m<=3)/\G.natAbs<2^k/\k<=1200 /\
 ∀D H' I,AG H H'->H D=none->H' D=some (.lst I)->A3 H' ((Ci G uss).map BS) I->Q (.ref D) H'
def Vw:Sp:=fun vs H Q _=>∃(C:Addr) (cs:List V) (uss:List (List Ah)) (G:Int) (k:Nat),vs=[.ref C,.int G]/\LJ H C cs uss 4/\(∀us∈uss,∀m∈us,0<=Be m/\Be m<=3)/\G.natAbs<2^k/\k<=1200/\∀H',AG H H'->Q (.int (Jr uss G)) H'
section
variable{P:Program}{w:World}{K:PySem.W.Frag}{mg:Str->Option Value}{base:Heap}{f g1 g2 g3:Addr}{fd gd1 gd2 gd3:FuncData}
theorem OU:Ab ["change","grain","bottom","greatest"] ["change","grain"] (AO Gx):=⟨rfl,rfl,rfl,by decide +kernel,rfl,by decide +kernel,by decide +kernel⟩
theorem OJ(F:Fn K mg "whole_change" Gx ["change","grain"] f fd)(CT:Fn K mg "speeds_bottom" Em ["change"] g1 gd1)(CJ:Fn K mg "greatest_power" EY ["change"] g2 gd2)(Gm:Fn K mg "whole_poly" JG ["some","bottom","grain","greatest"] g3 gd3)
 (GY:AM P w K mg base AZ 3 g1 gd1 ["change"] Yt)(F6:AM P w K mg base AZ 3 g2 gd2 ["change"] YU)(Sg:AM P w K mg base AZ 3 g3 gd3 ["some","bottom","grain","greatest"] fM):AM P w K mg base AZ 4 f fd ["change","grain"] gT:=by
 have sc:=OU;refine F.F.ok (k:=3) sc (fun vs H Q E h=>?_) (fun cdv A outer s H vs Q E hr h=>?_)
 .obtain⟨C,cs,uss,G,k,rfl,_⟩:=h
  rfl
 obtain⟨C,cs,uss,G,k,rfl,M,hs,hG,hk,q⟩:=h;obtain⟨g1',g3',g2'⟩:=HA (c:=3) (by decide) fun us hus m hm=>(hs us hus m hm).2;obtain⟨b1,b2,_⟩:=EZ M.len M.LZ;have Y:EH uss=(A6 uss:Int):=by unfold A6;lia
 have hl4:=M.len;refine⟨_,(AD (AX (i:=2) sc.nd rfl (Or.inr rfl) (Aa CT GY hr rfl (AA (pv 0) AB)))
 (AD (AX (i:=3) sc.nd rfl (Or.inr rfl) (Aa CJ F6 hr rfl (AA (pv 0) AB)))
 (AH (Ae (CU [".0","some","bottom","grain","greatest"] 1 [none,none,some 2,some 1,some 3] (BA (pv 0)) (fun _ _ _ _ _=>Bd) (fun _ _ _ _ _=>(Aa Gm Sg hr rfl (AA (pv 1) (AA (pv 2) (AA (pv 3) (AA (pv 4) AB))))))))))),?_⟩
 refine⟨_,rfl,C,cs,uss,4,rfl,M,by decide,fun H1 e1=>?_⟩;refine⟨_,rfl,C,cs,uss,4,rfl,M.same e1,?_⟩;rw[Y];have M:=M.same e1;have hcl:=M.cl;refine⟨_,rfl,C,rfl,⟨_,AQ.of M.at_⟩,fun D hD=>B5 (n:=cs.length) (fun i ys H'=>AG H1 H'/\ys.length=i/\AR D H' (((uss.take i).map (Ec (BH uss) G (A6 uss))).map BS) ys) ⟨AL hD _,rfl,.nil⟩ ?_ ?_⟩
 .rintro i ys H2 hi ⟨T,U,dy⟩ R;have hu:uss[i]? = some (uss[i]'(by lia)):=aI _;obtain⟨a,xs,k1,k2,k3⟩:=Ic M.du hu;have I:=aJ hu;generalize uss[i]'(by lia)=us at hu k3 I;obtain⟨u12,uf⟩:=M.LZ us I;refine⟨⟨cs,.ref a,AQ.of (T _ _ M.at_),k1⟩,CI (n:=60) (by lia) (by decide),fun x H' y=>?_⟩;obtain⟨rfl,y⟩:=y;have hx:=y cs (AQ.of (T _ _ M.at_));rw[k1]at hx;cases hx;unfold CZ;refine BI ⟨_,rfl,_,rfl,_,rfl,_,rfl,a,xs,us,BH uss,G,A6 uss,4,1+4*48,k,rfl,T _ _ k2,k3.same T,u12,by lia,fun m hm=>⟨uf m hm,(hs us I m hm).1,by rw[<-Y];exact g2' us I m hm⟩,b2,hG,by lia,fun Z H3 zs e3 hZ hZ3 dz=>?_⟩;have hD3:=e3 _ _ R;have nZ:Z≠D:=fun z=>by subst z;rw[R]at hZ;cases hZ
  refine⟨hD3,BR hi ⟨fun b o z=>?_,by simp[U],?_⟩⟩
  .rw[AE (AJ z hD)];exact e3 _ _ (T _ _ z)
  .rw[List.take_add_one,hu,List.map_append,List.map_append];exact .but .upd ((dy.same e3).app (.cons (.lst nZ hZ3 (KN hD3 dz)) .nil))
 .rintro ys H2 ⟨T,U,dy⟩ R;rw[hcl,List.take_length]at dy;exact⟨⟨cs,AQ.of (T _ _ M.at_),Nat.le_refl _⟩,q D H2 ys (e1.trans T) (Cq e1 hD) R (Ca dy)⟩
theorem Vm:Ab ["change","grain"] ["change","grain"] (AO L3):=⟨rfl,rfl,rfl,by decide +kernel,rfl,by decide +kernel,by decide +kernel⟩
theorem VQ(F:Fn K mg "pace_of" L3 ["change","grain"] f fd)(CT:Fn K mg "speeds_bottom" Em ["change"] g1 gd1)(CJ:Fn K mg "greatest_power" EY ["change"] g2 gd2)(EN:Fn K mg "power_of" IH ["base","power"] g3 gd3)
 (GY:AM P w K mg base AZ 3 g1 gd1 ["change"] Yt)(F6:AM P w K mg base AZ 3 g2 gd2 ["change"] YU)(KS:AM P w K mg base AZ 3 g3 gd3 ["base","power"] VT):AM P w K mg base AZ 4 f fd ["change","grain"] Vw:=by
 have sc:=Vm;refine F.F.ok (k:=3) sc (fun vs H Q E h=>?_) (fun cdv A outer s H vs Q E R h=>?_)
 .obtain⟨C,cs,uss,G,k,rfl,_⟩:=h
  rfl
 obtain⟨C,cs,uss,G,k,rfl,I,Y,T,hk,q⟩:=h;obtain⟨g1',g3',g2'⟩:=HA (c:=3) (by decide) fun us M m hm=>(Y us M m hm).2;obtain⟨b1,b2,_⟩:=EZ I.len I.LZ;have Z:EH uss=(A6 uss:Int):=by unfold A6;lia
 have n4:(G^(A6 uss-1)).natAbs<2^(k*3+1):=ED (p:=3) T (by lia);refine⟨_,(AH (Ae (Af B4 (Aa CT GY R rfl (AA (pv 0) AB)) (Aa EN KS R rfl (AA (pv 1) (AA (Af FZ (Aa CJ F6 R rfl (AA (pv 0) AB)) AI) AB)))))),?_⟩;refine⟨_,rfl,C,cs,uss,4,rfl,I,by decide,fun H1 U=>?_⟩;refine⟨_,rfl,_,rfl,C,cs,uss,4,rfl,I.same U,_,_,rfl,rfl,G,A6 uss-1,k,?_,T,?_,_,_,rfl,rfl,JK b2 n4 (by lia),?_⟩
 .show [V.int G,V.int (EH uss-1)]=[V.int G,V.int ((A6 uss-1:Nat):Int)]
  congr 3
  lia
 .have:k*(A6 uss-1)<=k*3:=aX k (by lia)
  lia
 .exact q H1 U
end
def BK(ps:List Int)(k:Nat):List Int:=ps.take k++[ps.getD k 0-1]++ps.drop (k+1)
def Rm:Sp:=fun vs H Q _=>∃(P:Addr) (ps:List Int) (k:Nat),vs=[.ref P,.int k]/\H P=some (.tup (ps.map V.int))/\k<ps.length/\ps.length<=4/\∀(c:Addr) H',AG H H'->H' c=some (.tup ((BK ps k).map V.int))->Q (.ref c) H'
theorem Zx{ps:List Int}{k:Nat}(h:k<ps.length):B6 (ps.map V.int) none (some (k:Int))++[V.int (ps.getD k 0-1)]++B6 (ps.map V.int) (some ((k:Int)+1)) none=(BK ps k).map V.int:=by
 unfold B6 BK;rw[show((k:Int)+1)=((k+1:Nat):Int) by lia];simp only[HT.Ki,HT.Ib,List.length_map,List.drop_zero,Nat.sub_zero,List.map_append,List.map_take,List.map_drop,List.map_cons,List.map_nil];rw[Nat.min_eq_left (by lia),Nat.min_eq_left (by lia)]
 congr 1
 rw[List.take_of_length_le (by rw[List.length_drop,List.length_map];exact aG _)]
theorem gm{n:Nat}{e:Int}(h0:0<=e)(h1:e<(n:Int)):¬(HT.BC n 0 none=0/\HT.BC n n (some e)=n):=by
 rintro⟨_,h⟩;rw[show e=((e.toNat:Nat):Int) by lia,HT.Ib]at h
 lia
theorem iY{n:Nat}{e:Int}{hi:Option Int}(h0:0<=e)(h1:1<=n):¬(HT.BC n 0 (some (e+1))=0/\HT.BC n n hi=n):=by
 rintro⟨h,_⟩;rw[show e+1=(((e+1).toNat:Nat):Int) by lia,HT.Ib]at h
 lia
theorem int_at{ps:List Int}{k:Nat}(h:k<ps.length):DN (ps.map V.int) (k:Int)=some (.int (ps.getD k 0)):=by
 have:=FG (xs:=ps.map V.int) (j:=k) (v:=.int (ps.getD k 0)) (by rw[List.getElem?_map,List.getElem?_eq_getElem h,List.getD_eq_getElem?_getD,List.getElem?_eq_getElem h];rfl);exact this
def fu:List Int->Nat
 |[]=>0
 |p::ps=>if p=0 then fu ps+1 else 0
theorem HK:∀ {ps:List Int},ps.sum≠0->fu ps<ps.length/\ps.getD (fu ps) 0≠0
 |[],h=>absurd rfl h
 |p::ps,h=>by
  unfold fu;by_cases z:p=0
  .subst z;obtain⟨M,I⟩:=HK (ps:=ps) (by simpa using h);rw[if_pos rfl];exact⟨by rw[List.length_cons];lia,by simpa using I⟩
  .rw[if_neg z];exact⟨by simp,by simpa using z⟩
theorem Se:∀ {ps:List Int} {k:Nat},k<fu ps->ps.getD k 0=0
 |[],k,h=>by simp[fu]at h
 |p::ps,k,h=>by
  unfold fu at h;by_cases z:p=0
  .rw[if_pos z]at h;cases k with
   |zero=>simpa using z
   |succ k=>simpa using Se (ps:=ps) (k:=k) (by lia)
  .rw[if_neg z]at h;lia
theorem sum_set:∀(ps:List Int) (k:Nat),k<ps.length->(BK ps k).sum=ps.sum-1
 |[],k,h=>by simp at h
 |p::ps,0,_=>by simp[BK];lia
 |p::ps,k+1,h=>by
  have:=sum_set ps k (by simpa using h);unfold BK at this ⊢;simp at this ⊢
  lia
theorem Ys{ps:List Int}{k:Nat}(h:k<ps.length):(BK ps k).length=ps.length:=by unfold BK;simp;lia
structure Cs(nn:Nat)(ps:List Int):Prop where
 len:ps.length=nn
 nn:∀p∈ps,0<=p
 s3:ps.sum<=3
theorem CS:∀ {ps:List Int},(∀p∈ps,0<=p)->0<=ps.sum
 |[],_=>by simp
 |p::ps,h=>by
  have:=CS (ps:=ps) fun q I=>h q (.tail _ I);have:=h p (.head _);simp;lia
theorem Cs.low{nn:Nat}{ps:List Int}(h:Cs nn ps)(R:ps.sum≠0):Cs nn (BK ps (fu ps)):=by
 obtain⟨M,T⟩:=HK R;refine⟨(Ys M).trans h.len,fun p I=>?_,by rw[sum_set _ _ M];have:=h.s3;lia⟩;unfold BK at I;rcases aT.mp I with I|I
 .rcases aT.mp I with I|I
  .exact h.nn p (bU I)
  .rw[List.mem_singleton.mp I];have:=h.nn (ps.getD (fu ps) 0) (by rw[List.getD_eq_getElem?_getD,List.getElem?_eq_getElem M];exact aa M)
   lia
 .exact h.nn p (List.mem_of_mem_drop I)
def Sy:Nat->Nat->List (List Int)
 |0,_=>[[]]
 |n+1,s=>(List.range (s+1)).flatMap fun p=>(Sy n (s-p)).map fun r=>((p:Nat):Int)::r
theorem SG:∀ {n s:Nat} {ps:List Int},ps.length=n->(∀p∈ps,0<=p)->ps.sum<=(s:Int)->ps∈Sy n s
 |0,s,ps,h,_,_=>by rw[List.eq_nil_of_length_eq_zero h];exact .head _
 |n+1,s,[],h,_,_=>by simp at h
 |n+1,s,p::ps,h,h0,M=>by
  have a:=h0 p (.head _);have b:=CS fun q I=>h0 q (.tail _ I);rw[List.sum_cons]at M;unfold Sy;refine List.mem_flatMap.mpr ⟨p.toNat,List.mem_range.mpr (by lia),List.mem_map.mpr ⟨ps,SG (by simpa using h) (fun q I=>h0 q (.tail _ I)) (by lia),?_⟩⟩;rw[Int.toNat_of_nonneg a]
theorem Ws{α:Type}[DecidableEq α]:∀ {ks l:List α},ks.Nodup->(∀p∈ks,p∈l)->ks.length<=l.length
 |[],_,_,_=>ar _
 |k::ks,l,nd,h=>by
  obtain⟨n1,R⟩:=bo.mp nd;have M:=h k (.head _);have:=Ws (l:=l.erase k) R fun p I=>(List.mem_erase_of_ne (fun z=>by subst z;exact n1 I)).mpr (h p (.tail _ I));rw[List.length_erase_of_mem M]at this;have:=List.length_pos_of_mem M;rw[List.length_cons];lia
theorem SQ{nn:Nat}(hn:nn<=4){ks:List (List Int)}(nd:ks.Nodup)(h:∀p∈ks,Cs nn p):ks.length<=35:=by
 have R:ks.length<=(Sy nn 3).length:=Ws nd fun p I=>SG (h p I).len (h p I).nn (h p I).s3;have M:(Sy nn 3).length<=35:=by
  match nn,hn with
  |0,_=>decide
  |1,_=>decide
  |2,_=>decide
  |3,_=>decide
  |4,_=>decide
 lia
structure Ord(uss:List (List Ah))(nn:Nat)(os:List (List Int)):Prop where
 nd:os.Nodup
 ok:∀p∈os,Cs nn p
 has:∀us∈uss,∀m∈us,m.1∈os
 low:∀p∈os,p.sum≠0->BK p (fu p)∈os
 asc:os.Pairwise fun p q=>p.sum<=q.sum
def X3:Sp:=fun vs H Q _=>∃(P:Addr) (ps:List Int),vs=[.ref P]/\H P=some (.tup (ps.map V.int))/\ps.sum≠0/\Q (.int (fu ps)) H
def eK:Sp:=fun vs H Q _=>∃(C:Addr) (cs:List V) (uss:List (List Ah)) (nn:Nat),vs=[.ref C]/\H C=some (.lst cs)/\A3 H (uss.map BS) cs/\(∀us∈uss,∀m∈us,Cs nn m.1)/\nn<=4 /\
 ∀(D:Addr) H' (L:List (List Int×Addr)),AG H H'->H D=none->H' D=some (.lst (L.map fun l=>V.ref l.2))->Ord uss nn (L.map (·.1))->(∀l∈L,H' l.2=some (.tup (l.1.map V.int)))->Q (.ref D) H'
theorem Yh{a b:List Int}(h:a.map (Sum.inl (β:=Str))=b.map Sum.inl):a=b:=(List.map_inj_right (fun x y e=>by injection e)).mp h
theorem Ia(ps:List Int):(ps.map (Sum.inl (β:=Str))).map kV=ps.map V.int:=by rw[List.map_map];rfl
section
variable{P:Program}{w:World}{K:PySem.W.Frag}{mg:Str->Option Value}{base:Heap}{f:Addr}{fd:FuncData}
theorem Tf:Ab ["powers","k"] ["powers","k"] (AO IK):=⟨rfl,rfl,rfl,by decide +kernel,rfl,by decide +kernel,by decide +kernel⟩
theorem TZ(F:Fn K mg "one_less" IK ["powers","k"] f fd):AM P w K mg base AZ 1 f fd ["powers","k"] Rm:=by
 have sc:=Tf;refine F.F.ok (k:=0) sc (fun vs H Q E h=>?_) (fun cdv A outer s H vs Q E hr h=>?_)
 .obtain⟨P,ps,k,rfl,_⟩:=h
  rfl
 obtain⟨P,ps,k,rfl,Y,hk,h4,q⟩:=h;have hl:(ps.map V.int).length=ps.length:=bW _;refine⟨_,(AH (Ae (Af OW (Af OW (Gz SO (pv 0) Ih (Ig (pv 1))) (Gf (AA (Af FZ (A0 BN (pv 0) (pv 1) (fun _ _=>rfl)) AI) AB))) (Gz SO (pv 0) (Ig (Af CK (pv 1) AI)) Ih)))),?_⟩;refine⟨_,rfl,_,rfl,_,rfl,P,_,rfl,Ao.of Y,gm (by lia) (by lia),fun U I=>?_⟩;have e1:=AL I (.tup (B6 (ps.map V.int) none (some (k:Int))));have h1:upd H U (.tup (B6 (ps.map V.int) none (some (k:Int)))) U=some (.tup (B6 (ps.map V.int) none (some (k:Int)))):=AF;generalize upd H U (.tup (B6 (ps.map V.int) none (some (k:Int))))=H1 at e1 h1;refine⟨_,rfl,_,rfl,_,_,_,_,rfl,rfl,Ao.of (e1 _ _ Y),int_at hk,_,_,rfl,rfl,BU (show 1<=60 by decide),fun T I=>?_⟩;have e2:=AL I (.tup [V.int (ps.getD k 0-1)]);have h2:upd H1 T (.tup [V.int (ps.getD k 0-1)]) T=some (.tup [V.int (ps.getD k 0-1)]):=AF;generalize upd H1 T (.tup [V.int (ps.getD k 0-1)])=H2 at e2 h2;have c1:=Ej (ps.map V.int) none (some (k:Int));have c2:=Ej (ps.map V.int) (some ((k:Int)+1)) none;refine⟨U,T,_,_,rfl,rfl,e2 _ _ h1,h2,BU (by rw[List.length_singleton];lia),fun p3 H3 e3 h3=>?_⟩;have E3:=e1.trans (e2.trans e3);refine⟨_,rfl,_,rfl,_,_,rfl,rfl,_,rfl,P,_,rfl,Ao.of (E3 _ _ Y),iY (by lia) (by lia),fun R I=>?_⟩;have Z:=AL I (.tup (B6 (ps.map V.int) (some ((k:Int)+1)) none));have M:upd H3 R (.tup (B6 (ps.map V.int) (some ((k:Int)+1)) none)) R=some (.tup (B6 (ps.map V.int) (some ((k:Int)+1)) none)):=AF;generalize upd H3 R (.tup (B6 (ps.map V.int) (some ((k:Int)+1)) none))=H4 at Z M;refine⟨p3,R,_,_,rfl,rfl,Z _ _ h3,M,BU (by rw[List.length_append,List.length_singleton];lia),fun p5 H5 e5 h5=>?_⟩;exact q p5 H5 (E3.trans (Z.trans e5)) (by rw[h5,Zx hk])
theorem M6:Ab ["powers","k"] ["powers"] (AO En):=⟨rfl,rfl,rfl,by decide +kernel,rfl,by decide +kernel,by decide +kernel⟩
def kd(n:Nat)(σ:St):Nat:=match σ[1]? with|some (some (V.int l))=>n-l.toNat|_=>0
theorem Mz(F:Fn K mg "first_unknown" En ["powers"] f fd):AM P w K mg base AZ 1 f fd ["powers"] X3:=by
 have sc:=M6;refine F.F.ok (k:=0) sc (fun vs H Q E h=>?_) (fun cdv A outer s H vs Q E hr h=>?_)
 .obtain⟨P,ps,rfl,_⟩:=h
  rfl
 obtain⟨P,ps,rfl,Y,T,q⟩:=h;obtain⟨f1,f2⟩:=HK T;refine⟨_,(AD (AX (i:=1) sc.nd rfl (Or.inl rfl) AI)
 (AD (JF aK (Au GO (A0 BN (pv 0) (pv 1) (fun _ _=>rfl)) AI (Av _))
  (AH (AX (i:=1) sc.nd rfl (Or.inl rfl) (Af CK (pv 1) AI))))
 (AH (Ae (pv 1))))),?_⟩
 refine JD (fun σ H'=>∃k:Nat,σ=[some (.ref P),some (.int (k:Nat))]/\H=H'/\k<=fu ps) (fun σ _=>kd (fu ps) σ) ⟨0,rfl,rfl,Nat.zero_le _⟩ ?_ ?_
 .rintro σ H' ⟨k,rfl,rfl,M⟩;refine⟨_,rfl,_,rfl,_,_,_,_,rfl,rfl,Ao.of Y,int_at (by lia),rfl,_,rfl,BP (fun c=>?_) (fun c=>?_)⟩
  .have c:ps.getD k 0=0:=by simpa using c
   have I:k<fu ps:=by
    rcases Nat.lt_or_eq_of_le M with h|h
    .exact h
    .subst h;exact absurd c f2
   refine⟨_,rfl,_,_,rfl,rfl,⟨k+1,rfl,rfl,I⟩,?_⟩;show fu ps-((k:Int)+1).toNat<fu ps-(k:Int).toNat
   lia
  .have c:ps.getD k 0≠0:=by simpa using c
   have:k=fu ps:=by
    rcases Nat.lt_or_eq_of_le M with h|h
    .exact absurd (Se h) c
    .exact h
   subst this;exact⟨_,rfl,q⟩
 .rintro σ H' Q1 Q2 U ⟨v,e,R,e1,a,b,c,d,h1,h2,h3,h4,x,h5,h6,Z⟩;exact⟨v,e,R,e1,a,b,c,d,h1,h2,h3,h4,x,h5,h6,U _ _ Z⟩
end
def Xm(H:Hp)(d:Addr)(ks:List (List Int)):Prop:=∃kvs,H d=some (.dT kvs)/\kvs.map (·.1)=ks.map (·.map (Sum.inl (β:=Str)))
theorem PN{κ:Type}[DecidableEq κ]{kvs:List (κ×V)}{k:κ}:(CN kvs k).isSome=true ↔ k∈kvs.map (·.1):=by
 rw[<-HE,List.any_eq_true];constructor
 .rintro⟨x,M,I⟩;exact aL.mpr ⟨x,M,of_decide_eq_true I⟩
 .intro h;obtain⟨x,M,I⟩:=aL.mp h;exact⟨x,M,decide_eq_true I⟩
theorem Ox{ks:List (List Int)}{p:List Int}:p.map (Sum.inl (β:=Str))∈ks.map (·.map (Sum.inl (β:=Str))) ↔ p∈ks:=by
 constructor
 .intro h;obtain⟨q,M,I⟩:=aL.mp h;rw[<-Yh I];exact M
 .intro h;exact aL.mpr ⟨p,h,rfl⟩
def RH(d:Addr)(H:Hp):Nat:=match H d with|some (.dT kvs)=>64-kvs.length|_=>0
structure VC(nn:Nat)(ks:List (List Int)):Prop where
 nd:ks.Nodup
 ok:∀p∈ks,Cs nn p
structure Tw(ks:List (List Int))(uss:List (List Ah)):Prop where
 has:∀us∈uss,∀m∈us,m.1∈ks
 low:∀p∈ks,p.sum≠0->BK p (fu p)∈ks
section
variable{P:Program}{w:World}{K:PySem.W.Frag}{mg:Str->Option Value}{base:Heap}{f g1 g2:Addr}{fd gd1 gd2:FuncData}
theorem NU:Ab ["change","needed","some","powers","part","lower"] ["change"] (AO Ge):=⟨rfl,rfl,rfl,by decide +kernel,rfl,by decide +kernel,by decide +kernel⟩
theorem M7(F:Fn K mg "powers_needed" Ge ["change"] f fd)(CY:Fn K mg "first_unknown" En ["powers"] g1 gd1)(EO:Fn K mg "one_less" IK ["powers","k"] g2 gd2)
 (Gh:AM P w K mg base AZ 1 g1 gd1 ["powers"] X3)(Kh:AM P w K mg base AZ 1 g2 gd2 ["powers","k"] Rm)(Dl:mg "sum" = none)(G9:mg "sorted" = none):AM P w K mg base AZ 2 f fd ["change"] eK:=by
 have sc:=NU;refine F.F.ok (k:=1) sc (fun vs H Q E h=>?_) (fun cdv A outer s H vs Q E hr h=>?_)
 .obtain⟨C,cs,uss,nn,rfl,_⟩:=h
  rfl
 obtain⟨C,cs,uss,nn,rfl,hC,dc,I,hn4,q⟩:=h;have hcl:cs.length=uss.length:=by rw[dc.len,List.length_map]
 have HU:∀ {X:Cx},X.A.units+64<cLine->X.A.units+1<cLine:=fun h=>by lia
 refine⟨_,(AD (AX (i:=1) sc.nd rfl (Or.inl rfl) NS)
 (AD (Bg aK rfl (BA (pv 0)) (Am (i:=2) sc.nd rfl (Or.inl rfl))
  (AH (Bg aK rfl (BA (pv 2)) (Eu rfl (BM (Am (i:=3) sc.nd rfl (Or.inl rfl)) (BM (Am (i:=4) sc.nd rfl (Or.inl rfl)) EC)))
   (AD (AX (i:=5) sc.nd rfl (Or.inl rfl) (pv 3))
   (AH (JF aK (eQ (W9 (by have:=hr.units;exact aQ (bX (show 1<=64 by decide) _) this) (pv 5) (pv 1)))
    (AD (PD (by have:=hr.units;exact aQ (bX (show 1<=64 by decide) _) this) (pv 1) (pv 5) CL rfl)
    (AH (BL (Au MP (Ai (Jg rfl) rfl Dl bZ (AA (pv 5) AB)) AI (Av _))
     (AH (AX (i:=5) sc.nd rfl (Or.inl rfl) (Aa EO Kh hr rfl (AA (pv 5) (AA (Aa CY Gh hr rfl (AA (pv 5) AB)) AB)))))
     Ax)))))))))
 (AH (Ae (YJ rfl rfl G9 rfl Dl (pv 1)))))),?_⟩
 refine fun d hd=>?_;have e1:=AL hd (.dT []);have k1:Xm (upd H d (.dT [])) d []:=⟨[],AF,rfl⟩;generalize upd H d (.dT [])=H1 at e1 k1;refine⟨_,rfl,C,rfl,⟨_,AQ.of (e1 _ _ hC)⟩,Bx (xs:=cs) (fun i σ H'=>∃(r2 Y U T:Option V) (ks:List (List Int)),σ=[some (.ref C),some (.ref d),r2,Y,U,T]/\AG H H'/\Xm H' d ks/\VC nn ks/\Tw ks (uss.take i)) ?_ ?_ ?_ ?_⟩
 .exact⟨_,_,_,_,[],rfl,e1,k1,⟨.nil,(fun _ z=>by cases z)⟩,⟨(fun _ z=>by cases z),(fun _ z=>by cases z)⟩⟩
 .rintro i σ H' _ ⟨r2,Y,U,T,ks,rfl,e,_⟩;exact AQ.of (e _ _ hC)
 .rintro i x σ H2 hx ⟨r2,Y,U,T,ks,rfl,e2,k2,g2,c2⟩;have hi:i<uss.length:=by rw[<-hcl];exact(aB.mp hx).1
  have hu:uss[i]? = some uss[i]:=by simp[hi]
  obtain⟨a,xs,ha1,ha2,dx⟩:=Ic dc hu;have hup:=I _ (aJ hu);generalize uss[i]=us at hu dx hup;rw[hx]at ha1;cases ha1;have hxl:xs.length=us.length:=by rw[dx.len,List.length_map]
  refine⟨_,rfl,a,rfl,⟨_,AQ.of (e2 _ _ ha2)⟩,Bx (xs:=xs) (fun j σ H'=>∃(Y U T:Option V) (ks:List (List Int)),σ=[some (.ref C),some (.ref d),some (.ref a),Y,U,T]/\AG H H'/\Xm H' d ks/\VC nn ks/\Tw ks (uss.take i)/\∀m∈us.take j,m.1∈ks) ?_ ?_ ?_ ?_⟩
  .exact⟨_,_,_,ks,rfl,e2,k2,g2,c2,fun _ z=>by cases z⟩
  .rintro j σ H' _ ⟨Y,U,T,ks,rfl,e,_⟩;exact AQ.of (e _ _ ha2)
  .rintro j y σ H3 hy ⟨Y,U,T,ks,rfl,Z,k3,g3,c3,m3⟩;have hj:j<us.length:=by rw[<-hxl];exact(aB.mp hy).1
   have hm:us[j]? = some us[j]:=by simp[hj]
   obtain⟨c,Pw,Fr,q1,q2,q3,q4⟩:=JO dx hm;have hpw:=hup _ (aJ hm);generalize us[j]=m at hm q3 q4 hpw;rw[hy]at q1;cases q1;refine⟨c,_,rfl,Ao.of (Z _ _ q2),rfl,_,_,rfl,_,_,rfl,rfl,?_⟩;refine⟨_,rfl,?_⟩;refine JD (fun σ H'=>∃(lo:Addr) (lw:List Int) (ks:List (List Int)),σ=[some (.ref C),some (.ref d),some (.ref a),some (.ref Pw),some (.ref Fr),some (.ref lo)]/\AG H H'/\H' lo=some (.tup (lw.map V.int))/\Cs nn lw/\Xm H' d ks/\VC nn ks/\(∀us∈uss.take i,∀m∈us,m.1∈ks)/\(∀m∈us.take j,m.1∈ks)/\(m.1∈ks\/lw=m.1)/\∀p∈ks,p.sum≠0->BK p (fu p)∈ks\/BK p (fu p)=lw) (fun _ H'=>RH d H') ?_ ?_ ?_
   .exact⟨Pw,m.1,ks,rfl,Z,Z _ _ q3,hpw,k3,g3,c3.has,m3,.inr rfl,fun p I h0=>.inl (c3.low p I h0)⟩
   .rintro σ H4 ⟨lo,lw,ks,rfl,e4,l4,o4,⟨kvs,M,R⟩,g4,u4,m4,v4,w4⟩;have hlen:kvs.length=ks.length:=by have:=bD List.length R;simpa using this
    have h35:=SQ hn4 g4.nd g4.ok;refine⟨_,rfl,_,rfl,d,_,rfl,GR.t (k:=lw.map Sum.inl) M (by rw[Ia];exact l4),_,rfl,BP (fun cc=>?_) (fun cc=>?_)⟩
    .have hno:CN kvs (lw.map Sum.inl)=none:=by
      cases hv:CN kvs (lw.map Sum.inl) with
      |none=>rfl
      |some z=>rw[hv]at cc;cases cc
     have hnk:lw ∉ ks:=fun z=>by
      have:=PN.mpr (by rw[R];exact Ox.mpr z:lw.map Sum.inl∈kvs.map (·.1));rw[hno]at this;cases this
     refine⟨_,rfl,_,rfl,d,_,rfl,NK.t (k:=lw.map Sum.inl) M (by rw[Ia];exact l4) (CI (n:=60) (by lia) (by decide)),?_⟩;rw[ND _ hno];have k5:Xm (upd H4 d (.dT (kvs++[(lw.map Sum.inl,V.bl true)]))) d (ks++[lw]):=⟨_,AF,by rw[List.map_append,List.map_append,R];rfl⟩;have e5:AG H (upd H4 d (.dT (kvs++[(lw.map Sum.inl,V.bl true)]))):=fun b o z=>by rw[AE (AJ z hd)];exact e4 _ _ z
     have l5:upd H4 d (.dT (kvs++[(lw.map Sum.inl,V.bl true)])) lo=some (.tup (lw.map V.int)):=by
      rw[AE (fun z=>by subst z;rw[l4]at M;cases M)];exact l4
     have mu5:RH d (upd H4 d (.dT (kvs++[(lw.map Sum.inl,V.bl true)])))<RH d H4:=by
      unfold RH;rw[AF,M];simp only[List.length_append,List.length_singleton]
      lia
     generalize upd H4 d (.dT (kvs++[(lw.map Sum.inl,V.bl true)]))=H5 at k5 e5 l5 mu5;have g5:VC nn (ks++[lw]):=⟨by rw[List.nodup_append];exact⟨g4.nd,by simp,fun a ha b hb=>by rw[List.mem_singleton.mp hb];exact fun z=>hnk (z ▸ ha)⟩,fun p I=>by
      rcases aT.mp I with h|h
      .exact g4.ok p h
      .rw[List.mem_singleton.mp h];exact o4⟩
     have u5:∀us∈uss.take i,∀m∈us,m.1∈ks++[lw]:=fun us hus m hm=>bF _ (u4 us hus m hm);have m5:∀m∈us.take j,m.1∈ks++[lw]:=fun m hm=>bF _ (m4 m hm);have v5:m.1∈ks++[lw]:=by
      rcases v4 with h|h
      .exact bF _ h
      .rw[h];simp
     have w5:∀p∈ks,p.sum≠0->BK p (fu p)∈ks++[lw]:=fun p I h0=>by
      rcases w4 p I h0 with h|h
      .exact bF _ h
      .rw[h];simp
     refine⟨_,rfl,lo,lw,rfl,Ao.of l5,_,_,rfl,rfl,_,rfl,BP (fun c6=>?_) (fun c6=>?_)⟩
     .have c6:0<lw.sum:=by simpa using c6
      have c0:lw.sum≠0:=by lia
      obtain⟨f1,_⟩:=HK c0;refine⟨_,rfl,_,rfl,lo,lw,rfl,l5,c0,lo,lw,fu lw,rfl,l5,f1,by rw[o4.len];exact hn4,fun c7 H7 e7 h7=>?_⟩;obtain⟨kv7,hd7,hk7⟩:=k5;refine⟨⟨c7,_,ks++[lw],rfl,e5.trans e7,h7,o4.low c0,⟨kv7,e7 _ _ hd7,hk7⟩,g5,u5,m5,.inl v5,fun p I h0=>?_⟩,?_⟩
      .rcases aT.mp I with h|h
       .exact .inl (w5 p h h0)
       .rw[List.mem_singleton.mp h];exact .inr rfl
      .have:RH d H7=RH d H5:=by unfold RH;rw[e7 _ _ hd7,hd7]
       rw[this];exact mu5
     .have c6:¬0<lw.sum:=by simpa using c6
      have c0:lw.sum=0:=by have:=CS o4.nn;lia
      refine⟨⟨lo,lw,ks++[lw],rfl,e5,l5,o4,k5,g5,u5,m5,.inl v5,fun p I h0=>?_⟩,mu5⟩;rcases aT.mp I with h|h
      .exact .inl (w5 p h h0)
      .rw[List.mem_singleton.mp h]at h0;exact absurd c0 h0
    .have hlk:lw∈ks:=by
      have:(CN kvs (lw.map Sum.inl)).isSome=true:=by
       cases hv:CN kvs (lw.map Sum.inl) with
       |none=>rw[hv]at cc;exact absurd rfl cc
       |some z=>rfl
      have:=PN.mp this;rw[R]at this;exact Ox.mp this
     refine⟨some (.ref Pw),some (.ref Fr),some (.ref lo),ks,rfl,e4,⟨kvs,M,R⟩,g4,⟨u4,fun p I h0=>?_⟩,fun y hy=>?_⟩
     .rcases w4 p I h0 with h|h
      .exact h
      .rw[h];exact hlk
     .rw[List.take_add_one,hm]at hy;rcases aT.mp hy with h|h
      .exact m4 y h
      .have:y=m:=by simpa using h
       subst this;rcases v4 with h|h
       .exact h
       .rw[<-h];exact hlk
   .rintro σ H' Q1 Q2 hq ⟨v,e,w1,e1,a,o,h1,h2,c,h3,h4⟩;exact⟨v,e,w1,e1,a,o,h1,h2,c,h3,hq _ _ h4⟩
  .rintro σ H3 ⟨Y,U,T,ks,rfl,Z,k3,g3,c3,m3⟩;rw[hxl,List.take_length]at m3;refine⟨_,_,_,_,ks,rfl,Z,k3,g3,⟨fun vs hvs m hm=>?_,c3.low⟩⟩;rw[List.take_add_one,hu]at hvs;rcases aT.mp hvs with h|h
   .exact c3.has vs h m hm
   .have:vs=us:=by simpa using h
    subst this;exact m3 m hm
 .rintro σ H2 ⟨r2,Y,U,T,ks,rfl,e2,⟨kvs,hd2,hk2⟩,g2,c2⟩;rw[hcl,List.take_length]at c2;have hlen:kvs.length=ks.length:=by have:=bD List.length hk2;simpa using this
  have h35:=SQ hn4 g2.nd g2.ok;refine⟨_,rfl,d,kvs,ks,rfl,hd2,by lia,hk2,fun D H' L Z _ hD hD' pm pw hL=>?_⟩;refine q D H' L (e2.trans Z) (Cq e2 hD) hD' ⟨pm.nodup_iff.mpr g2.nd,fun p I=>g2.ok p (pm.mem_iff.mp I),fun us hus m hm=>pm.mem_iff.mpr (c2.has us hus m hm),fun p I h0=>pm.mem_iff.mpr (c2.low p (pm.mem_iff.mp I) h0),by rw[List.pairwise_map];exact pw⟩ fun l hl=>Z _ _ (hL l hl)
end
def Bc(f:Nat->Int)(n:Nat):List Int:=(List.range n).map f
def conv(f g:Nat->Int)(k:Nat):Int:=(Bc (fun j=>f j*g (k-j)) (k+1)).sum
def eg(X:Nat->Nat->Int):Nat->List Int->Nat->Int
 |0,_=>fun k=>if k=0 then 1 else 0
 |n+1,ps=>conv (eg X n (BK ps (fu ps))) (X (fu ps))
def D5(X:Nat->Nat->Int)(ps:List Int):Nat->Int:=eg X ps.sum.toNat ps
theorem NX{X:Nat->Nat->Int}{ps:List Int}(h:ps.sum=0)(k:Nat):D5 X ps k=if k=0 then 1 else 0:=by unfold D5;rw[h];rfl
theorem NT{nn:Nat}{X:Nat->Nat->Int}{ps:List Int}(o:Cs nn ps)(h:ps.sum≠0):D5 X ps=conv (D5 X (BK ps (fu ps))) (X (fu ps)):=by
 obtain⟨f1,_⟩:=HK h;have h0:=CS o.nn;obtain⟨n,hn⟩:∃n:Nat,ps.sum=(n:Int)+1:=⟨(ps.sum-1).toNat,by lia⟩;have M:ps.sum.toNat=n+1:=by lia
 have I:(BK ps (fu ps)).sum.toNat=n:=by rw[sum_set _ _ f1];lia
 unfold D5;rw[M,I];rfl
theorem NI(f:Nat->Int)(n:Nat):Bc f (n+1)=Bc f n++[f n]:=by unfold Bc;rw[List.range_succ,List.map_append];rfl
theorem HG(f:Nat->Int)(n:Nat):(Bc f n).length=n:=by unfold Bc;simp
theorem J7{f:Nat->Int}{n j:Nat}(h:j<n):DN ((Bc f n).map V.int) (j:Int)=some (.int (f j)) :=
 FG (xs:=(Bc f n).map V.int) (j:=j) (v:=.int (f j)) (by unfold Bc;simp[h])
def QR(X:Nat->Nat->Int)(us:List Ah)(k:Nat):Int:=(us.map fun m=>m.2.num*D5 X m.1 k).sum
abbrev Fe(ps:List Int):List Key:=ps.map (Sum.inl (β:=Str))
def eo:Sp:=fun vs H Q _=>∃(d R P:Addr) (k n nl nn m:Nat) (X:Nat->Nat->Int) (ps:List Int) (kvs:List (List Key×V)) (I:List V),vs=[.ref d,.ref R,.ref P,.int (k:Nat)]/\H R=some (.lst I) /\
 (∀u,u<nn->∃a,I[u]? = some (.ref a)/\H a=some (.lst ((Bc (X u) n).map V.int)))/\k<n/\H P=some (.tup (ps.map V.int))/\Cs nn ps/\nn<=4/\H d=some (.dT kvs) /\
 (ps.sum≠0->∃l,CN kvs (Fe (BK ps (fu ps)))=some (.ref l)/\H l=some (.lst ((Bc (D5 X (BK ps (fu ps))) nl).map V.int))/\k<nl)/\k<=20 /\
 (∀u j,u<nn->j<=k->(X u j).natAbs<2^m)/\(ps.sum≠0->∀j,j<=k->(D5 X (BK ps (fu ps)) j).natAbs<2^m)/\m<=400000/\∀H',AG H H'->Q (.int (D5 X ps k)) H'
def fV:Sp:=fun vs H Q _=>∃(a d:Addr) (xs:List V) (us:List Ah) (kvs:List (List Key×V)) (X:Nat->Nat->Int) (k nl m:Nat),vs=[.ref a,.ref d,.int (k:Nat)]/\H a=some (.lst xs)/\A3 H (us.map DC) xs/\us.length<=50/\H d=some (.dT kvs) /\
 (∀z∈us,(∃l,CN kvs (Fe z.1)=some (.ref l)/\H l=some (.lst ((Bc (D5 X z.1) nl).map V.int)))/\z.2.num.natAbs<2^m/\(D5 X z.1 k).natAbs<2^m)/\k<nl/\m<=400000/\∀H',AG H H'->Q (.int (QR X us k)) H'
section
variable{P:Program}{w:World}{K:PySem.W.Frag}{mg:Str->Option Value}{base:Heap}{f g1 g2:Addr}{fd gd1 gd2:FuncData}
theorem QX:Ab ["products","rows","powers","k","unknown","lower"] ["products","rows","powers","k"] (AO JJ):=⟨rfl,rfl,rfl,by decide +kernel,rfl,by decide +kernel,by decide +kernel⟩
theorem Ql(F:Fn K mg "product_at" JJ ["products","rows","powers","k"] f fd)(CY:Fn K mg "first_unknown" En ["powers"] g1 gd1)(EO:Fn K mg "one_less" IK ["powers","k"] g2 gd2)
 (Gh:AM P w K mg base AZ 1 g1 gd1 ["powers"] X3)(Kh:AM P w K mg base AZ 1 g2 gd2 ["powers","k"] Rm)(Dl:mg "sum" = none)(Ar:mg "range" = none):AM P w K mg base AZ 2 f fd ["products","rows","powers","k"] eo:=by
 have sc:=QX;refine F.F.ok (k:=1) sc (fun vs H Q E h=>?_) (fun cdv A outer s H vs Q E hr h=>?_)
 .obtain⟨d,R,P,k,n,nl,nn,m,X,ps,kvs,Z,rfl,_⟩:=h
  rfl
 obtain⟨d,R,P,k,n,nl,nn,m,X,ps,kvs,Z,rfl,hR,M,hkn,hP,U,hn4,hd,hl,hk20,hX,hS,hm,q⟩:=h;refine⟨_,(AD (BL (Au GO (Ai (Jg rfl) rfl Dl bZ (AA (pv 2) AB)) AI (Av _))
  (AH (Ae (Xw (Au GO (pv 3) AI (Av _)) AI AI)))
  Ax)
 (AD (AX (i:=4) sc.nd rfl (Or.inr rfl) (Aa CY Gh hr rfl (AA (pv 2) AB)))
 (AD (AX (i:=5) sc.nd rfl (Or.inr rfl) (Oe (by have:=hr.units;exact aQ (bX (show 1<=64 by decide) _) this) (pv 0) (Aa EO Kh hr rfl (AA (pv 2) (AA (pv 4) AB))) (fun _ _=>rfl)))
 (AH (Ae (Ai (Sl rfl) rfl Dl bZ (AA (CU [".0","j","lower","rows","unknown","k"] 1 [none,none,some 5,some 1,some 4,some 3] (Cf rfl Ar (AA (Af CK (pv 3) AI) AB)) (fun _ _ _ _ _=>Bd) (fun _ _ _ _ _=>(Af B4 (A0 KZ (pv 2) (pv 1) (fun _ _=>rfl)) (A0 KZ (A0 KZ (pv 3) (pv 4) (fun _ _=>rfl)) (Af FZ (pv 5) (pv 1)) (fun _ _=>rfl))))) AB))))))),?_⟩
 refine⟨_,rfl,P,ps,rfl,Ao.of hP,rfl,_,rfl,BP (fun c=>?_) (fun c=>?_)⟩
 .have c:ps.sum=0:=by simpa using c
  have:=q H (fun _ _ h=>h);rw[NX c]at this;refine⟨_,rfl,rfl,_,rfl,BP (fun T=>?_) (fun T=>?_)⟩
  .have T:(k:Int)=0:=by simpa using T
   rw[if_pos (by lia)]at this;exact this
  .have T:¬(k:Int)=0:=by simpa using T
   rw[if_neg (by lia)]at this;exact this
 .have c:ps.sum≠0:=by simpa using c
  obtain⟨f1,_⟩:=HK c;obtain⟨l,v1,v2,v3⟩:=hl c;refine⟨_,rfl,P,ps,rfl,hP,c,?_⟩;refine⟨_,rfl,_,rfl,_,rfl,P,ps,fu ps,rfl,hP,f1,by rw[U.len];exact hn4,fun c1 H1 e1 h1=>?_⟩;have hg:GR H1 d (.ref c1) (some (.ref l)):=by
   have:=GR.t (k:=Fe (BK ps (fu ps))) (e1 _ _ hd) (by rw[Ia];exact h1);rw[v1]at this;exact this
  refine⟨d,.ref l,rfl,hg,?_⟩;obtain⟨ra,w1,w2⟩:=M (fu ps) (by rw[<-U.len];exact f1);refine⟨_,rfl,_,_,rfl,rfl,(k:Int)+1,rfl,by lia,by lia,fun D hD=>B5 (n:=((k:Int)+1).toNat) (fun i ys H'=>AG H1 H'/\ys=(Bc (fun j=>D5 X (BK ps (fu ps)) j*X (fu ps) (k-j)) i).map V.int) ⟨AL hD _,rfl⟩ ?_ ?_⟩
  .rintro i ys H2 hi ⟨Y,rfl⟩ I;have E2:=e1.trans Y;have hik:i<=k:=by lia
   refine⟨hi,CI (n:=60) (by rw[List.length_map,HG];lia) (by decide),fun x H' y=>?_⟩;obtain⟨rfl,rfl⟩:=y;unfold CZ;have hix:(0:Int)+(i:Nat)=(i:Nat):=by lia
   have hki:(k:Int)-((0:Int)+(i:Nat))=((k-i:Nat):Int):=by lia
   refine BI ⟨_,rfl,_,rfl,_,_,_,_,rfl,rfl,AQ.of (E2 _ _ v2),(by rw[hix];exact J7 (by lia)),_,rfl,_,rfl,_,_,_,_,rfl,rfl,AQ.of (E2 _ _ hR),FG w1,_,rfl,_,rfl,_,_,rfl,rfl,_,_,_,_,rfl,rfl,AQ.of (E2 _ _ w2),(by rw[hki];exact J7 (by lia)),_,_,rfl,rfl,JK (hS c i hik) (hX _ _ (by rw[<-U.len];exact f1) (by lia)) (by lia),I,BR hi ⟨fun b o z=>?_,?_⟩⟩
   .rw[AE (AJ z hD)];exact Y _ _ z
   .rw[NI,List.map_append];rfl
  .rintro ys H2 ⟨Y,rfl⟩ I;refine⟨aG _,D,_,rfl,AQ.of I,?_⟩;have:=q H2 (e1.trans Y);rw[NT U c]at this;exact this
theorem TJ:Ab ["some","products","k"] ["some","products","k"] (AO Kv):=⟨rfl,rfl,rfl,by decide +kernel,rfl,by decide +kernel,by decide +kernel⟩
theorem TF(F:Fn K mg "speed_at" Kv ["some","products","k"] f fd)(Dl:mg "sum" = none):AM P w K mg base AZ 2 f fd ["some","products","k"] fV:=by
 have sc:=TJ;refine F.F.ok (k:=1) sc (fun vs H Q E h=>?_) (fun cdv A outer s H vs Q E hr h=>?_)
 .obtain⟨a,d,xs,us,kvs,X,k,nl,m,rfl,_⟩:=h
  rfl
 obtain⟨a,d,xs,us,kvs,X,k,nl,m,rfl,ha,dx,h50,hd,hz,U,hm,q⟩:=h;have T:xs.length=us.length:=by rw[dx.len,List.length_map]
 refine⟨_,(AH (Ae (Ai (Sl rfl) rfl Dl bZ (AA (Lc [".0","powers","part","k","products"] 1 2 [none,none,none,some 2,some 1] (BA (pv 0)) (fun _ _ _ _ _=>Bd) (fun _ _ _ _ _=>(Af B4 (A0 G8 (pv 2) AI (fun _ _=>rfl)) (A0 KZ (Oe (by have:=hr.units;exact aQ (bX (show 1<=64 by decide) _) this) (pv 4) (pv 1) (fun _ _=>rfl)) (pv 3) (fun _ _=>rfl))))) AB)))),?_⟩;refine⟨_,rfl,a,rfl,⟨_,AQ.of ha⟩,fun D hD=>Gw (n:=xs.length) (fun i ys H'=>AG H H'/\ys=((us.take i).map fun z=>z.2.num*D5 X z.1 k).map V.int) ⟨AL hD _,rfl⟩ ?_ ?_⟩
 .rintro i ys H2 hi ⟨I,rfl⟩ M;have R:us[i]? = some (us[i]'(by lia)):=aI _;obtain⟨c,Pw,Fr,k1,k2,k3,k4⟩:=JO dx R;obtain⟨⟨l,v1,Z⟩,n1,n2⟩:=hz _ (aJ R);generalize us[i]'(by lia)=z at R k3 k4 v1 Z n1 n2;refine⟨⟨xs,.ref c,AQ.of (I _ _ ha),k1⟩,CI (n:=60) (by rw[List.length_map,List.length_map,List.length_take];lia) (by decide),fun x H' y=>?_⟩;obtain⟨rfl,y⟩:=y;have hx:=y xs (AQ.of (I _ _ ha));rw[k1]at hx;cases hx;refine⟨c,_,_,rfl,Ao.of (I _ _ k2),?_⟩;unfold CZ;have hg:GR H' d (.ref Pw) (some (.ref l)):=by
   have:=GR.t (k:=Fe z.1) (I _ _ hd) (by rw[Ia];exact I _ _ k3);rw[v1]at this;exact this
  refine BI ⟨_,rfl,_,_,_,_,rfl,rfl,Ao.of (I _ _ k4),rfl,_,rfl,_,rfl,d,_,rfl,hg,_,rfl,_,_,_,_,rfl,rfl,AQ.of (I _ _ Z),J7 U,_,_,rfl,rfl,JK n1 n2 (by lia),M,BR hi ⟨fun b o Y=>?_,?_⟩⟩
  .rw[AE (AJ Y hD)];exact I _ _ Y
  .rw[List.take_add_one,R,List.map_append,List.map_append];rfl
 .rintro ys H2 ⟨I,rfl⟩ M;rw[T,List.take_length]at M;exact⟨⟨xs,AQ.of (I _ _ ha),Nat.le_refl _⟩,D,_,rfl,AQ.of M,q H2 I⟩
end
def Lv(H0 H:Hp)(no:Addr->Prop)(M:Addr)(nn n:Nat)(X:Nat->Nat->Int):Prop:=∃I:List V,H M=some (.lst I)/\I.length=nn/\∀u,u<nn->∃a,I[u]? = some (.ref a)/\H a=some (.lst ((Bc (X u) n).map V.int))/\H0 a=none/\¬no a
def Uu(H0 I:Hp)(no:Addr->Prop)(D:Addr)(n:Nat)(X:Nat->Nat->Int)(i:Nat)(ys:List V)(H':Hp):Prop:=AG I H'/\ys.length=i/\∀u,u<i->∃a,ys[u]? = some (.ref a)/\H' a=some (.lst ((Bc (X u) n).map V.int))/\H0 a=none/\¬no a/\a≠D
theorem P5{H0 T M:Hp}{no:Addr->Prop}{D p:Addr}{n i:Nat}{X:Nat->Nat->Int}{ys:List V}(hD:T D=none)(e3:AG T M)(hD3:M D=some (.lst ys))(Y:ys.length=i)(h:∀u,u<i->∃a,ys[u]? = some (.ref a)/\M a=some (.lst ((Bc (X u) n).map V.int))/\H0 a=none/\¬no a/\a≠D)
 (hp:M p=some (.lst ((Bc (X i) n).map V.int)))(h0:H0 p=none)(hn:¬no p)(I:p≠D):Uu H0 T no D n X (i+1) (ys++[.ref p]) (upd M D (.lst (ys++[.ref p]))):=by
 refine⟨fun b o z=>?_,by simp[Y],fun u hu=>?_⟩
 .rw[AE (AJ z hD)];exact e3 _ _ z
 .rcases Nat.lt_or_eq_of_le (Nat.le_of_lt_succ hu) with R|R
  .obtain⟨a,k1,k2,k3,Z,U⟩:=h u R;exact⟨a,by rw[List.getElem?_append_left (by lia)];exact k1,by rw[AE U];exact k2,k3,Z,U⟩
  .subst R;exact⟨p,by rw[List.getElem?_append_right (by lia)];simp[Y],by rw[AE I];exact hp,h0,hn,I⟩
theorem RK{H0 Z H':Hp}{no:Addr->Prop}{D:Addr}{n nn:Nat}{X:Nat->Nat->Int}{ys:List V}(h:Uu H0 Z no D n X nn ys H')(Y:H' D=some (.lst ys)):Lv H0 H' no D nn n X :=
 ⟨ys,Y,h.2.1,fun u U=>let⟨a,T,R,M,I,_⟩:=h.2.2 u U;⟨a,T,R,M,I⟩⟩
structure kR(H1 H:Hp)(d:Addr)(kvs:List (List Key×V))(os:List (List Int))(ls:List Int->Addr):Prop where
 at_:H d=some (.dT kvs)
 key:kvs.map (·.1)=os.map Fe
 val:∀p∈os,CN kvs (Fe p)=some (.ref (ls p))
 new:∀p∈os,H1 (ls p)=none/\ls p≠d
 inj:∀p∈os,∀q∈os,ls p=ls q->p=q
theorem Zn{uss:List (List Ah)}{nn:Nat}{os:List (List Int)}(o:Ord uss nn os){i:Nat}{p:List Int}(hi:os[i]? = some p)(h:p.sum≠0):BK p (fu p)∈os.take i:=by
 have hm:=o.low p (aJ hi) h;obtain⟨j,I⟩:=ax hm;obtain⟨f1,_⟩:=HK h;have Y:=sum_set p (fu p) f1;have T:=(aB.mp I).1;have U:=(aB.mp hi).1;have R:j<i:=by
  rcases Nat.lt_trichotomy j i with M|M|M
  .exact M
  .subst M;rw[hi]at I;have I:=aY I;rw[<-I]at Y;lia
  .have:=(List.pairwise_iff_getElem.mp o.asc) i j U T M;rw[(aB.mp hi).2,(aB.mp I).2]at this
   lia
 exact aJ (i:=j) (by rw[List.getElem?_take,if_pos R];exact I)
theorem Ed{os:List (List Int)}{i:Nat}{p q:List Int}(h:os[i]? = some p):q∈os.take (i+1) ↔ q∈os.take i\/q=p:=by
 rw[List.take_add_one,h,List.mem_append];simp
theorem cF{os:List (List Int)}{i:Nat}{p:List Int}(nd:os.Nodup)(h:os[i]? = some p):p ∉ os.take i:=fun z=>by
 obtain⟨j,I⟩:=ax z;rw[List.getElem?_take]at I;split at I
 .rename_i M;have T:=(aB.mp h);have R:=(aB.mp I);have:=(List.pairwise_iff_getElem.mp nd) j i R.1 T.1 M;rw[T.2,R.2]at this;exact this rfl
 .cases I
def fW(H:Hp)(R:Addr)(nn n:Nat)(X:Nat->Nat->Int):Prop:=∃I:List V,H R=some (.lst I)/\I.length=nn/\∀u,u<nn->∃a,I[u]? = some (.ref a)/\H a=some (.lst ((Bc (X u) n).map V.int))
theorem Lv.kf{H0 H:Hp}{no:Addr->Prop}{R:Addr}{nn n:Nat}{X:Nat->Nat->Int}(h:Lv H0 H no R nn n X):fW H R nn n X:=let⟨I,h1,Z,Y⟩:=h;⟨I,h1,Z,fun u U=>let⟨a,T,M,_⟩:=Y u U;⟨a,T,M⟩⟩
structure jX(uss:List (List Ah))(X:Nat->Nat->Int)(most nn m:Nat):Prop where
 n4:nn<=4
 len:uss.length=nn
 Mn:most<=19
 Gs:∀us∈uss,us.length<=50
 pw:∀us∈uss,∀z∈us,Cs nn z.1
 num:∀us∈uss,∀z∈us,z.2.num.natAbs<2^m
 xs:∀u k,u<nn->k<most->(X u k).natAbs<2^m
 k9:∀ps,Cs nn ps->∀k,k<most->(D5 X ps k).natAbs<2^m
 m4:m<=4000
def Cg(uss:List (List Ah))(X:Nat->Nat->Int):Nat->Nat->Int:=fun u k=>QR X (uss.getD u []) k
def gM:Sp:=fun vs H Q _=>∃(C O R:Addr) (cs:List V) (uss:List (List Ah)) (L:List (List Int×Addr)) (X:Nat->Nat->Int) (most nn m:Nat),vs=[.ref C,.ref O,.ref R,.int (most:Nat)]/\H C=some (.lst cs)/\A3 H (uss.map BS) cs/\H O=some (.lst (L.map fun l=>V.ref l.2))/\Ord uss nn (L.map (·.1))/\(∀l∈L,H l.2=some (.tup (l.1.map V.int))) /\
 fW H R nn (most+1) X/\jX uss X most nn m/\∀(D:Addr) H',AG H H'->H D=none->Lv H H' (fun _=>False) D nn most (Cg uss X)->Q (.ref D) H'
section
variable{P:Program}{w:World}{K:PySem.W.Frag}{mg:Str->Option Value}{base:Heap}{f g2 g3:Addr}{fd gd2 gd3:FuncData}
theorem Qj:Ab ["change","order","places","most","products","powers","k","rows","some"] ["change","order","places","most"] (AO JA):=⟨rfl,rfl,rfl,by decide +kernel,rfl,by decide +kernel,by decide +kernel⟩
theorem Qa(F:Fn K mg "speed_rows" JA ["change","order","places","most"] f fd)(GZ:Fn K mg "product_at" JJ ["products","rows","powers","k"] g2 gd2)(IL:Fn K mg "speed_at" Kv ["some","products","k"] g3 gd3)
 (S3:AM P w K mg base AZ 2 g2 gd2 ["products","rows","powers","k"] eo)(Vd:AM P w K mg base AZ 2 g3 gd3 ["some","products","k"] fV)(Ar:mg "range" = none):AM P w K mg base AZ 3 f fd ["change","order","places","most"] gM:=by
 have sc:=Qj;refine F.F.ok (k:=2) sc (fun vs H Q E h=>?_) (fun cdv A outer s H vs Q E hr h=>?_)
 .obtain⟨C,O,R,cs,uss,L,X,most,nn,m,rfl,_⟩:=h
  rfl
 obtain⟨C,O,R,cs,uss,L,X,most,nn,m,rfl,hC,dc,hO,ord,hL,hR,ok,q⟩:=h;obtain⟨nn4,hul,hmost,hfew,hpw,hnum,hxs,hser,m4⟩:=ok;have hcl:cs.length=uss.length:=by rw[dc.len,List.length_map]
 refine⟨_,(AD (AX (i:=4) sc.nd rfl (Or.inr rfl) NS)
 (AD (Bg aK rfl (BA (pv 1)) (Am (i:=5) sc.nd rfl (Or.inl rfl))
  (AD (PD (by have:=hr.units;exact aQ (bX (show 1<=64 by decide) _) this) (pv 4) (pv 5) (B8 AB) rfl)
  (AH (Bg aK rfl (Cf rfl Ar (AA (pv 3) AB)) (Am (i:=6) sc.nd rfl (Or.inl rfl))
   (AH (B2 (GW ab ay az DJ (Oe (by have:=hr.units;exact aQ (bX (show 1<=64 by decide) _) this) (pv 4) (pv 5) (fun _ _=>rfl)) (AA (Aa GZ S3 hr rfl (AA (pv 4) (AA (pv 2) (AA (pv 5) (AA (pv 6) AB))))) AB))))))))
 (AD (AX (i:=7) sc.nd rfl (Or.inl rfl) (B8 AB))
 (AD (Bg aK rfl (BA (pv 0)) (Am (i:=8) sc.nd rfl (Or.inr rfl))
  (AH (B2 (GW ab ay az DJ (pv 7) (AA (CU [".0","k","some","products"] 1 [none,none,some 8,some 4] (Cf rfl Ar (AA (pv 3) AB)) (fun _ _ _ _ _=>Bd) (fun _ _ _ _ _=>(Aa IL Vd hr rfl (AA (pv 2) (AA (pv 3) (AA (pv 1) AB)))))) AB)))))
 (AH (Ae (pv 7))))))),?_⟩
 generalize hos:L.map (·.1)=os at ord;have hLo:∀(i:Nat) (p:List Int),os[i]? = some p->∃a:Addr,(L.map fun l=>V.ref l.2)[i]? = some (V.ref a)/\H a=some (.tup (p.map V.int)):=fun i p T=>by
  rw[<-hos,List.getElem?_map]at T;obtain⟨l,Z,h2⟩:=aH.mp T;subst h2;exact⟨l.2,by rw[List.getElem?_map,Z];rfl,hL l (aJ Z)⟩
 have hLl:(L.map fun l=>V.ref l.2).length=os.length:=by rw[<-hos];simp
 have h35:=SQ nn4 ord.nd ord.ok;generalize (L.map fun l=>V.ref l.2)=ov at hO hLo hLl;clear hL hos;obtain⟨rvs,q1,q2,q3⟩:=hR;refine fun d hd=>?_;have e3:=AL hd (.dT []);have hd3:upd H d (.dT []) d=some (.dT []):=AF;generalize upd H d (.dT [])=H3 at e3 hd3;refine⟨_,rfl,O,rfl,⟨_,AQ.of (e3 _ _ hO)⟩,Bx (xs:=ov) (fun i σ H'=>∃(r5 r6 r7 r8:Option V) (kvs:List (List Key×V)) (ls:List Int->Addr),σ=[some (.ref C),some (.ref O),some (.ref R),some (.int (most:Nat)),some (.ref d),r5,r6,r7,r8]/\AG H H'/\kR H H' d kvs (os.take i) ls/\∀p∈os.take i,H' (ls p)=some (.lst ((Bc (D5 X p) most).map V.int))) ?_ ?_ ?_ ?_⟩
 .exact⟨_,_,_,_,[],fun _=>0,rfl,e3,⟨hd3,rfl,(fun _ z=>by cases z),(fun _ z=>by cases z),(fun _ z=>by cases z)⟩,(fun _ z=>by cases z)⟩
 .rintro i σ H' _ ⟨r5,r6,r7,r8,kvs,ls,rfl,e,_⟩;exact AQ.of (e _ _ hO)
 .rintro i x σ H4 hx ⟨r5,r6,r7,r8,kvs,ls,rfl,e4,pr,hem⟩;have hi:i<os.length:=by rw[<-hLl];exact(aB.mp hx).1
  have T:os[i]? = some os[i]:=by simp[hi]
  obtain⟨a,k1,k2⟩:=hLo i _ T;have U:=cF ord.nd T;have hpm:=aJ T;generalize os[i]=p at T k2 U hpm;rw[hx]at k1;cases k1;have hpo:=ord.ok p hpm;have hno:CN kvs (Fe p)=none:=by
   cases hv:CN kvs (Fe p) with
   |none=>rfl
   |some z=>
    have:=PN.mp (show(CN kvs (Fe p)).isSome=true by rw[hv];rfl);rw[pr.key]at this;exact absurd (Ox.mp this) U
  have hkl:kvs.length=i:=by have:=bD List.length pr.key;simp at this;lia
  refine⟨BU (show 0<=60 by decide),fun l hl=>?_⟩;have el:=AL hl (.lst []);have hdl:l≠d:=fun z=>by subst z;rw[pr.at_]at hl;cases hl
  refine⟨_,rfl,_,rfl,d,_,rfl,NK.t (k:=Fe p) (el _ _ pr.at_) (by rw[Ia];exact el _ _ (e4 _ _ k2)) (CI (n:=60) (by lia) (by decide)),?_⟩;rw[ND _ hno];have hls:∀z∈os.take i,ls z≠l:=fun z I y=>by rw[<-y,hem z I]at hl;cases hl
  have e5:AG H (upd (upd H4 l (.lst [])) d (.dT (kvs++[(Fe p,V.ref l)]))):=fun b o z=>by rw[AE (AJ z hd)];exact el _ _ (e4 _ _ z)
  have d5:upd (upd H4 l (.lst [])) d (.dT (kvs++[(Fe p,V.ref l)])) d=some (.dT (kvs++[(Fe p,V.ref l)])):=AF;have l5:upd (upd H4 l (.lst [])) d (.dT (kvs++[(Fe p,V.ref l)])) l=some (.lst ((Bc (D5 X p) 0).map V.int)):=by rw[AE hdl,AF];rfl
  have o5:∀z∈os.take i,upd (upd H4 l (.lst [])) d (.dT (kvs++[(Fe p,V.ref l)])) (ls z)=some (.lst ((Bc (D5 X z) most).map V.int)):=fun z I=>by rw[AE (pr.new z I).2];exact el _ _ (hem z I)
  generalize upd (upd H4 l (.lst [])) d (.dT (kvs++[(Fe p,V.ref l)]))=H5 at e5 d5 l5 o5;have hnl:H l=none:=Cq e4 hl;have hvp:CN (kvs++[(Fe p,V.ref l)]) (Fe p)=some (.ref l):=by rw[Jl _ _ _ _ hno,if_pos rfl]
  refine⟨_,rfl,(most:Int),rfl,by lia,by lia,Hm (n:=(most:Int).toNat) (fun k σ H'=>∃(r6 r7 r8:Option V),σ=[some (.ref C),some (.ref O),some (.ref R),some (.int (most:Nat)),some (.ref d),some (.ref a),r6,r7,r8]/\AG H H'/\H' d=some (.dT (kvs++[(Fe p,V.ref l)]))/\H' l=some (.lst ((Bc (D5 X p) k).map V.int))/\∀z∈os.take i,H' (ls z)=some (.lst ((Bc (D5 X z) most).map V.int))) ?_ ?_ ?_⟩
  .exact⟨_,_,_,rfl,e5,d5,l5,o5⟩
  .rintro k σ H6 hk ⟨r6,r7,r8,rfl,e6,d6,l6,o6⟩;have hkm:k<most:=by lia
   have hk0:(0:Int)+(k:Nat)=(k:Nat):=by lia
   rw[hk0];have hg:GR H6 d (.ref a) (some (.ref l)):=by
    have:=GR.t (k:=Fe p) d6 (by rw[Ia];exact e6 _ _ k2);rw[hvp]at this;exact this
   refine⟨_,rfl,_,rfl,d,.ref l,rfl,hg,.inl ⟨rfl,_,AQ.of l6⟩,_,rfl,_,rfl,_,rfl,_,rfl,d,R,a,k,most+1,most,nn,m,X,p,_,rvs,rfl,e6 _ _ q1,fun u Y=>?_,by lia,e6 _ _ k2,hpo,nn4,d6,fun h0=>?_,by lia,fun u j Y hj=>hxs u j Y (by lia),fun h0 j hj=>hser _ (hpo.low h0) j (by lia),by lia,fun H7 e7=>?_⟩
   .obtain⟨a,j1,j2⟩:=q3 u Y;exact⟨a,j1,e6 _ _ j2⟩
   .have hlo:=Zn ord T h0;refine⟨ls (BK p (fu p)),?_,o6 _ hlo,by lia⟩;rw[Jl _ _ _ _ hno,if_neg fun w=>U (by have e:=Yh w;rw[<-e];exact hlo)];exact pr.val _ hlo
   refine⟨l,_,_,rfl,rfl,e7 _ _ l6,CI (n:=60) (by rw[List.length_map,HG];lia) (by decide),?_⟩;refine⟨_,_,_,rfl,fun b o z=>?_,?_,?_,fun z I=>?_⟩
   .rw[AE (AJ z hnl)];exact e7 _ _ (e6 _ _ z)
   .rw[AE (Ne.symm hdl)];exact e7 _ _ d6
   .rw[AF,NI,List.map_append];rfl
   .rw[AE (hls z I)];exact e7 _ _ (o6 z I)
  .rintro σ H6 ⟨r6,r7,r8,rfl,e6,d6,l6,o6⟩;rw[show(most:Int).toNat=most by lia]at l6;refine⟨_,_,_,_,kvs++[(Fe p,.ref l)],fun z=>if z=p then l else ls z,rfl,e6,⟨d6,?_,fun z I=>?_,fun z I=>?_,fun y hy z I=>?_⟩,fun z I=>?_⟩
   .rw[List.map_append,pr.key,List.take_add_one,T,List.map_append];rfl
   .rw[Jl _ _ _ _ hno];by_cases y:z=p
    .rw[if_pos (by rw[y]),if_pos y]
    .rw[if_neg fun w=>y (Yh w),if_neg y];exact pr.val z (((Ed T).mp I).resolve_right y)
   .by_cases y:z=p
    .rw[if_pos y];exact⟨hnl,hdl⟩
    .rw[if_neg y];exact pr.new z (((Ed T).mp I).resolve_right y)
   .rcases(Ed T).mp hy with Z|Z<;>rcases(Ed T).mp I with h2|h2
    .have n1:y≠p:=fun w=>U (w ▸ Z);have n2:z≠p:=fun w=>U (w ▸ h2);rw[if_neg n1,if_neg n2];exact pr.inj y Z z h2
    .have n1:y≠p:=fun w=>U (w ▸ Z);rw[if_neg n1,if_pos h2];exact fun w=>absurd w (hls y Z)
    .have n2:z≠p:=fun w=>U (w ▸ h2);rw[if_pos Z,if_neg n2];exact fun w=>absurd w.symm (hls z h2)
    .exact fun _=>Z.trans h2.symm
   .show H6 (if z=p then l else ls z)=_;by_cases y:z=p
    .rw[if_pos y,y];exact l6
    .rw[if_neg y];exact o6 z (((Ed T).mp I).resolve_right y)
 rintro σ H4 ⟨r5,r6,r7,r8,kvs,ls,rfl,e4,pr,hem⟩;rw[hLl,List.take_length]at pr hem;refine⟨BU (show 0<=60 by decide),fun D hD=>?_⟩;have eD:=AL hD (.lst []);have hD5:upd H4 D (.lst []) D=some (.lst []):=AF;generalize upd H4 D (.lst [])=H5 at eD hD5;have hDn:H D=none:=Cq e4 hD;have nD:∀p∈os,ls p≠D:=fun p T z=>by rw[<-z,hem p T]at hD;cases hD
 refine⟨_,rfl,C,rfl,⟨_,AQ.of (eD _ _ (e4 _ _ hC))⟩,Bx (xs:=cs) (fun i σ H'=>∃(r5 r6 r8:Option V) (ys:List V),σ=[some (.ref C),some (.ref O),some (.ref R),some (.int (most:Nat)),some (.ref d),r5,r6,some (.ref D),r8]/\AG H H'/\(∀b o,b≠D->H5 b=some o->H' b=some o)/\H' D=some (.lst ys)/\ys.length=i/\∀u,u<i->∃a,ys[u]? = some (.ref a)/\H' a=some (.lst ((Bc (Cg uss X u) most).map V.int))/\H a=none/\a≠D) ?_ ?_ ?_ ?_⟩
 .exact⟨_,_,_,[],rfl,e4.trans eD,fun _ _ _ h=>h,hD5,rfl,fun u Y=>absurd Y (by lia)⟩
 .rintro i σ H' _ ⟨r5,r6,r8,ys,rfl,e,_⟩;exact AQ.of (e _ _ hC)
 .rintro i x σ H6 hx ⟨r5,r6,r8,ys,rfl,e6,b6,hD6,hyl,hy⟩;have hi:i<uss.length:=by rw[<-hcl];exact(aB.mp hx).1
  have Y:uss[i]? = some uss[i]:=by simp[hi]
  obtain⟨ca,xs,k1,k2,k3⟩:=Ic dc Y;have M:=aJ Y;have hsu:Cg uss X i=QR X uss[i]:=by unfold Cg;funext k;rw[List.getD_eq_getElem?_getD,Y];rfl
  generalize uss[i]=us at Y k3 M hsu;rw[hx]at k1;cases k1;have hd6:H6 d=some (.dT kvs):=b6 _ _ (fun z=>by subst z;rw[pr.at_]at hD;cases hD) (eD _ _ pr.at_);have pl6:∀p∈os,H6 (ls p)=some (.lst ((Bc (D5 X p) most).map V.int)):=fun p T=>b6 _ _ (nD p T) (eD _ _ (hem p T));refine⟨_,rfl,.inl ⟨rfl,_,AQ.of hD6⟩,_,rfl,(most:Int),rfl,by lia,by lia,fun D1 hD1=>B5 (n:=(most:Int).toNat) (fun k zs H'=>AG H6 H'/\zs=(Bc (QR X us) k).map V.int) ⟨AL hD1 _,rfl⟩ ?_ ?_⟩
  .rintro k zs H7 hk ⟨e7,rfl⟩ hD7;have hkm:k<most:=by lia
   have E7:=e6.trans e7;refine⟨hk,CI (n:=60) (by rw[List.length_map,HG];lia) (by decide),fun x H' y=>?_⟩;obtain⟨rfl,rfl⟩:=y;have hk0:(0:Int)+(k:Nat)=(k:Nat):=by lia
   rw[hk0];unfold CZ;refine BI ⟨_,rfl,_,rfl,_,rfl,ca,d,xs,us,kvs,X,k,most,m,rfl,E7 _ _ k2,k3.same E7,hfew us M,e7 _ _ hd6,fun z I=>⟨⟨ls z.1,pr.val _ (ord.has us M z I),e7 _ _ (pl6 _ (ord.has us M z I))⟩,hnum us M z I,hser _ (hpw us M z I) k hkm⟩,by lia,by lia,fun H8 e8=>?_⟩;refine⟨e8 _ _ hD7,BR hk ⟨fun b o z=>?_,?_⟩⟩
   .rw[AE (AJ z hD1)];exact e8 _ _ (e7 _ _ z)
   .rw[NI,List.map_append];rfl
  rintro zs H7 ⟨e7,rfl⟩ hD7;rw[show(most:Int).toNat=most by lia,<-hsu]at hD7;have n1:D1≠D:=fun z=>by subst z;rw[hD6]at hD1;cases hD1
  refine⟨aG _,D,ys,_,rfl,rfl,e7 _ _ hD6,CI (n:=60) (by lia) (by decide),?_⟩;refine⟨_,_,_,ys++[.ref D1],rfl,fun b o z=>?_,fun b o n z=>?_,AF,by simp[hyl],fun u Y=>?_⟩
  .rw[AE (AJ z hDn)];exact e7 _ _ (e6 _ _ z)
  .rw[AE n];exact e7 _ _ (b6 _ _ n z)
  .rcases Nat.lt_or_eq_of_le (Nat.le_of_lt_succ Y) with Z|Z
   .obtain⟨a,j1,j2,j3,j4⟩:=hy u Z;exact⟨a,by rw[List.getElem?_append_left (by lia)];exact j1,by rw[AE j4];exact e7 _ _ j2,j3,j4⟩
   .subst Z;exact⟨D1,by rw[List.getElem?_append_right (by lia)];simp[hyl],by rw[AE n1];exact hD7,Cq e6 hD1,n1⟩
 .rintro σ H6 ⟨r5,r6,r8,ys,rfl,e6,_,hD6,hyl,hy⟩;refine⟨_,rfl,q D H6 e6 hDn ⟨ys,hD6,by rw[hyl,hcl,hul],fun u Y=>?_⟩⟩;obtain⟨a,j1,j2,j3,_⟩:=hy u (by rw[hcl,hul];exact Y);exact⟨a,j1,j2,j3,fun z=>z⟩
end
mutual
theorem MQ{H:Hp}:∀ {d:PyData} {v:V},d.canLay0=true->Du H d v->DU H d v
 |.none,_,_,h=>by rw[Du]at h;subst h;exact .BJ
 |.bool _,_,_,h=>by rw[Du]at h;subst h;exact .bool
 |.int _,_,_,h=>by rw[Du]at h;subst h;exact .int
 |.str _,_,_,h=>by rw[Du]at h;subst h;exact .str
 |.tuple _,_,c,h=>by
  rw[Du]at h;obtain⟨a,xs,rfl,M,I⟩:=h;exact .tup M (Oh (by simpa only[PyData.canLay0]using c) I)
 |.list _,_,c,h=>by
  rw[Du]at h;obtain⟨a,xs,rfl,M,I⟩:=h;exact .lst M (Oh (by simpa only[PyData.canLay0]using c) I)
 |.dict _,_,c,h=>by simp[PyData.canLay0]at c
theorem Oh{H:Hp}:∀ {ds:List PyData} {xs:List V},PyData.canLayAll0 ds=true->Aj H ds xs->A3 H ds xs
 |[],_,_,h=>by rw[h.nil_eq];exact .nil
 |_::_,_,c,h=>by
  obtain⟨x,r,rfl,M,I⟩:=h.un;simp only[PyData.canLayAll0,Bool.and_eq_true]at c;exact .cons (MQ c.1 M) (Oh c.2 I)
end
mutual
theorem ZI{l:Addr}{H:Hp}:∀ {d:PyData} {v:V},Dt l H d v->Du H d v
 |.none,_,h=>by rw[Dt]at h;rw[Du];exact h
 |.bool _,_,h=>by rw[Dt]at h;rw[Du];exact h
 |.int _,_,h=>by rw[Dt]at h;rw[Du];exact h
 |.str _,_,h=>by rw[Dt]at h;rw[Du];exact h
 |.tuple _,_,h=>by
  rw[Dt]at h;rw[Du];obtain⟨a,xs,rfl,n,M,I⟩:=h;exact⟨a,xs,rfl,M,PU I⟩
 |.list _,_,h=>by
  rw[Dt]at h;rw[Du];obtain⟨a,xs,rfl,n,M,I⟩:=h;exact⟨a,xs,rfl,M,PU I⟩
 |.dict _,_,h=>by rw[Dt]at h;exact h.elim
theorem PU{l:Addr}{H:Hp}:∀ {ds:List PyData} {xs:List V},AR l H ds xs->Aj H ds xs
 |[],_,h=>by rw[AR]at h;subst h;exact .nil
 |_::_,_,h=>by
  rw[AR]at h;obtain⟨x,r,rfl,M,I⟩:=h;exact .cons (ZI M) (PU I)
end
theorem DU.du{H:Hp}{d:PyData}{v:V}(h:DU H d v):Du H d v:=let⟨N,k⟩:=h;ZI (k N (aG _))
theorem gw{G H H':Hp}{l:Addr}{vs:List V}{ds:List PyData}(T:AG G H)(e:AG H H')(M:H' l=some (.tup vs))(d:Aj G ds vs):∃I,AG G I/\Nw G H I/\AG I H'/\Du I (.tuple ds) (.ref l):=by
 have R:AG G (upd G l (.tup vs)):=fun a o h=>by
  by_cases ha:a=l
  .subst ha;have:=e _ _ (T _ _ h);rw[M]at this;rw[AF];exact this
  .rw[AE ha];exact h
 refine⟨upd G l (.tup vs),R,fun a u h=>?_,fun a u h=>?_,?_⟩
 .by_cases ha:a=l
  .subst ha;rw[AF]at h;cases h;exact .inr (.inr ⟨_,rfl⟩)
  .rw[AE ha]at h;exact .inl h
 .by_cases ha:a=l
  .subst ha;rw[AF]at h;rw[M];exact h
  .rw[AE ha]at h;exact e _ _ (T _ _ h)
 .rw[Du];exact⟨l,vs,rfl,AF,d.same R⟩
theorem Kb{G:Hp}:∀ps:List Int,Aj G (ps.map .int) (ps.map V.int)
 |[]=>.nil
 |p::ps=>.cons (by rw[Du]) (Kb ps)
theorem RZ:∀ps:List Int,PyData.canLayAll0 (ps.map .int)=true
 |[]=>by simp[PyData.canLayAll0]
 |p::ps=>by rw[List.map_cons];simp only[PyData.canLayAll0,PyData.canLay0];rw[RZ ps];rfl
theorem LS{ds:List PyData}(h:∀d∈ds,d.canLay0=true):PyData.canLayAll0 ds=true:=by
 induction ds with
 |nil=>simp[PyData.canLayAll0]
 |cons d ds I=>simp only[PyData.canLayAll0];rw[h d (.head _),I fun e M=>h e (.tail _ M)];rfl
theorem U9{ds:List PyData}(h:∀d∈ds,d.canLay0=true):(PyData.list ds).canLay0=true:=by simp only[PyData.canLay0];exact LS h
theorem U7{ds:List PyData}(h:∀d∈ds,d.canLay0=true):(PyData.tuple ds).canLay0=true:=by simp only[PyData.canLay0];exact LS h
def IB(G H H':Hp):Hp:=fun b=>match H' b with
 |some (.tup xs)=>some (.tup xs)
 |some o=>if H b=none then some o else G b
 |none=>none
theorem gN{G H H':Hp}{a:Addr}{xs:List V}(h:H' a=some (.tup xs)):IB G H H' a=some (.tup xs):=by unfold IB;rw[h]
theorem Vx{G H H':Hp}{a:Addr}{xs:List V}(h:H' a=some (.lst xs))(h0:H a=none):IB G H H' a=some (.lst xs):=by unfold IB;rw[h];exact if_pos h0
theorem cH{G H H':Hp}(M:AG G H)(e:AG H H'):AG G (IB G H H')/\Nw G H (IB G H H')/\AG (IB G H H') H':=by
 refine⟨fun a o h=>?_,fun a o h=>?_,fun a o h=>?_⟩
 .have I:=M _ _ h;have R:=e _ _ I;unfold IB;rw[R];cases o with
  |tup xs=>rfl
  |_=>simp only[I];exact h
 .unfold IB at h;split at h
  .cases h;exact .inr (.inr ⟨_,rfl⟩)
  .split at h
   .rename_i z;exact .inr (.inl z)
   .exact .inl h
  .cases h
 .unfold IB at h;cases z:H' a with
  |none=>rw[z]at h;cases h
  |some u=>
   rw[z]at h;cases u with
   |tup xs=>exact h
   |_=>
    simp only at h;split at h
    .exact h
    .rw[<-z];exact e _ _ (M _ _ h)
theorem N6{G H H':Hp}:∀ {I:List Rat} {xs:List V},A3 H' (AN I) xs->Aj (IB G H H') (AN I) xs
 |[],xs,h=>by
  have:=h.len;have e:xs=[]:=bg (by simpa[AN]using this);rw[e];exact .nil
 |q::I,xs,h=>by
  obtain⟨x,r,rfl,T,R⟩:=A3.ZA (d:=Ac q) (ds:=AN I) h;obtain⟨p,rfl,M⟩:=T.rat;refine .cons ?_ (N6 R);unfold Ac;rw[Du];exact⟨p,_,rfl,gN M,Kb [q.num,(q.den:Int)]⟩
section
variable{P:Program}{w:World}{K:PySem.W.Frag}{mg:Str->Option Value}{base:Heap}{f:Addr}{fd:FuncData}
theorem Nm:Ab ["row","speeds","unknown","most","total","part","rows"] ["row","speeds","unknown","most"] (AO LG):=⟨rfl,rfl,rfl,by decide +kernel,rfl,by decide +kernel,by decide +kernel⟩
def Pg:DF :=
 (DW (Fx 4 (Ay HC (L7 (AK (fC (.int 0)) An)) (nm 3)))
 (DW (Gi (Bh zip2 (AK (nm 0) (AK (nm 1) An))) (DY 5 6)
  (Xh (cT (Vy true) (nm 5) (fC (.int 0)))
   (Fx 4 (Bz (DY 1 2) DP (Ay Dc (nm 1) (Ay HC (nm 3) (nm 2))) [none,none,none,some 5] (Bh zip2 (AK (nm 4) (AK (Ay Ct (nm 6) (nm 2)) An)))))
   Vf))
 (Lp (nm 4))))
def L8:List PyData->Option PyData:=HD ["row","speeds","unknown","most"] ["row","speeds","unknown","most","total","part","rows"] (Pg)
theorem VS{k:Nat}(F:Fn K mg "read_at" LG ["row","speeds","unknown","most"] f fd)(I:mg "zip" = none) :
  AM P w K mg base AZ (k+1) f fd ["row","speeds","unknown","most"] (Dh (L8)):=T8 F Nm fun cdv A outer s H E M=>by
 have sc:=Nm;exact(Bw (JH (i:=4) sc.nd rfl (Or.inl rfl) (Cc Iw (Ng (AV A8 A4)) (AU (pv 3))))
 (Bw (He aK rfl (LK rfl I (AV (AU (pv 0)) (AV (AU (pv 1)) A4))) (LP (Eu rfl (BM (Am (i:=5) sc.nd rfl (Or.inr rfl)) (BM (Am (i:=6) sc.nd rfl (Or.inl rfl)) EC))))
  (B0 (Vt (cV (iA (by have:=M.units;exact this)) (AU (pv 5)) A8 (Av _))
   (B0 (Mk (i:=4) [".0","number","speed","part"] 1 2 [none,none,none,some 5] sc.nd rfl rfl (LK rfl I (AV (AU (pv 4)) (AV (Cb (AU (pv 6)) (AU (pv 2)) (fun _ _=>rfl)) A4))) (fun _ _ _ _ _=>GG) (fun _ _ _ _ _=>(Cc Fg (AU (pv 1)) (Cc Iw (AU (pv 3)) (AU (pv 2)))))))
   PJ)))
 (B0 (Ik (AU (pv 4))))))
end
def Gd:PyData->Rat
 |.tuple [.int a,.int b]=>Rat.divInt a b
 |_=>0
theorem NG(r:Rat):Gd (Ac r)=r:=FM.D4 r
theorem Uh(r:Rat):(Ac r).canLay0=true:=by unfold Ac;simp only[PyData.canLay0];exact RZ [r.num,(r.den:Int)]
theorem Rl{n:Nat}{ds:List PyData}(h:∀d∈ds,Ok n d):Fs n ds:=by
 induction ds with
 |nil=>exact⟨by simp[PyData.canLayAll0],by simp[PyData.depthAll]⟩
 |cons d ds I=>
  obtain⟨a,b⟩:=h d (.head _);obtain⟨R,T⟩:=I fun e M=>h e (.tail _ M);exact⟨by simp only[PyData.canLayAll0];rw[a,R];rfl,by simp only[PyData.depthAll];lia⟩
theorem SS{n:Nat}{ds:List PyData}(h:∀d∈ds,Ok n d):Ok (n+1) (.list ds):=.lst (Rl h)
theorem U8{n:Nat}{ds:List PyData}(h:∀d∈ds,Ok n d):Ok (n+1) (.tuple ds):=.tup (Rl h)
theorem Xo(r:Rat):Ok 1 (Ac r):=U8 (n:=0) fun d hd=>by
 rcases aS.mp hd with rfl|hd
 .exact .int
 .rw[List.mem_singleton.mp hd];exact .int
theorem er{i:Nat}{f g:Dv->Option PyData}{δ:Dv}{y:PyData}{p:Nat}{xs:List PyData}(h:f δ=some y)(k:g δ=some (.int (p:Nat)))(o:ow i δ=some xs)(I:p<xs.length):VF i f g δ=some (.nx (δ.set i (.own (.lst (xs.set p y))))):=by
 show(f δ).bind _=_;rw[h];show(g δ).bind _=_;rw[k];show(ow i δ).bind _=_;rw[o];show(K3 xs.length (p:Int)).map _=_;have:K3 xs.length (p:Int)=some p:=by
  unfold K3;rw[if_pos (by lia)]
  first|rfl|(rw[if_pos (by lia)];simp)|simp[I]
 rw[this];rfl
theorem O8{i j:Int}{n:Nat}(h1:i.natAbs<2^n)(I:j.natAbs<2^n)(hn:n<=9000):HC (.int i) (.int j)=some (.int (i*j)):=cj (by
 unfold OO;rw[RE (n:=9000) (aP h1 (bN (by decide) hn)),RE (n:=9000) (aP I (bN (by decide) hn))];simp)
theorem div_is{i j:Int}(h:0<j)(I:j.natAbs<2^64):VL (.int i) (.int j)=some (.int (i / j)):=by
 refine(if_pos ⟨by lia,RE (aP I (bN (by decide) (by decide)))⟩).trans ?_;rw[Int.fdiv_eq_ediv_of_nonneg _ (by lia)]
theorem P8{α:Type}{i j:Nat}{f:Dv->Option PyData}{fs:Dv->Option (List PyData)}{δ:Dv}{fr:List (Option Nat)}{zs:List α}{a b g:α->PyData}(R:fs δ=some (zs.map fun z=>.tuple [a z,b z]))(T:zs.length<=EX)
 (h:∀z∈zs,f (((CV fr δ).set i (.d (a z))).set j (.d (b z)))=some (g z)):D6 (DY i j) DP f fr fs δ=some (zs.map g):=by
 unfold D6;rw[R,Option.bind_some];have:∀zs:List α,(∀z∈zs,f (((CV fr δ).set i (.d (a z))).set j (.d (b z)))=some (g z))->L2.collect (Ht (DY i j) DP f (CV fr δ)) (zs.map fun z=>.tuple [a z,b z])=some (zs.map g):=fun zs=>by
  induction zs with
  |nil=>intro _;rfl
  |cons z zs I=>
   intro h;rw[List.map_cons,List.map_cons];unfold L2.collect;rw[I fun y M=>h y (.tail _ M)];have e:Ht (DY i j) DP f (CV fr δ) (.tuple [a z,b z])=some (some (g z)):=by
    unfold Ht DY;rw[Option.bind_some];show(some true).bind _=_;rw[Option.bind_some,if_pos rfl,h z (.head _)]
    rfl
   rw[e];rfl
 rw[this zs h,Option.bind_some,Gs,if_pos (by rw[List.length_map];exact T)]
theorem Ua(x y:Int):Vy true (.int x) (.int y)=some (.bool (!decide (x=y))):=by
 have h:SeqAt.shaped (.int x)=true/\SeqAt.shaped (.int y)=true:=⟨(Ok.int (n:=0)).shaped (by decide),(Ok.int (n:=0)).shaped (by decide)⟩;refine(if_pos h).trans ?_;simp[PyData.eqv];exact Bool.eq_iff_iff.mpr (by simp)
abbrev JP(f:Nat->Int)(n:Nat):List PyData:=(Bc f n).map .int
abbrev V5(X:Nat->Nat->Int)(nn n:Nat):PyData:=.list ((List.range nn).map fun u=>.list (JP (X u) n))
abbrev Hn(I:List (Nat->Nat->Int))(nn n:Nat):List PyData:=I.map fun S=>V5 S nn n
def Fm(row:List Int)(I:List (Nat->Nat->Int))(u k:Nat):Int:=((row.zip I).map fun q=>q.1*q.2 u k).sum
theorem IU(f:Nat->Int)(n:Nat):JP f n=(List.range n).map fun t=>.int (f t):=by unfold JP Bc;rw[List.map_map];rfl
theorem Pj:∀(l:List Int) (x:Int),(l++[x]).sum=l.sum+x
 |[],x=>by simp
 |y::l,x=>by rw[List.cons_append,List.sum_cons,Pj l x,List.sum_cons,Int.add_assoc]
theorem gE(x:PyData)(n:Nat)(h:n<=500):HC (.list [x]) (.int (n:Nat))=some (.list (List.replicate n [x]).flatten):=by
 show(match Rk (.list [x]) (.int (n:Nat)) with|some z=>some z|none=>Qu (.list [x]) (.int (n:Nat)))=_;exact if_pos ⟨by unfold EX;simp;lia,by lia,by lia⟩
theorem SA{m:List PyData->Option (List PyData)}{fs:Dv->Option (List PyData)}{δ:Dv}{xs:List PyData}(h:fs δ=some xs):Bh m fs δ=m xs:=by
 show(fs δ).bind m=_;rw[h];rfl
theorem Y1(n:Nat)(h:n<=500):HC (.list [.int 0]) (.int (n:Nat))=some (.list ((List.range n).map fun _=>.int 0)):=by
 rw[gE _ _ h]
 congr 2
 clear h
 induction n with
 |zero=>rfl
 |succ n I=>rw[List.replicate_succ',List.flatten_append,I,List.range_succ,List.map_append];rfl
theorem cD{row:List Int}{M:List (Nat->Nat->Int)}{nn most u:Nat}(hl:row.length=M.length)(hu:u<nn)(hm:most<=20)(hr:∀p∈row,p.natAbs<2^4400)(hs:∀S∈M,∀k,k<most->(S u k).natAbs<2^4400) :
  L8 [.list (row.map .int),.list (Hn M nn most),.int (u:Nat),.int (most:Nat)]=some (.list (JP (Fm row M u) most)):=by
 refine MM rfl ?_;unfold Pg;generalize hA:PyData.list (row.map .int)=A;generalize hB:PyData.list (Hn M nn most)=B
 let I:Nat->Nat->Int:=fun i k=>(((row.zip M).take i).map fun q=>q.1*q.2 u k).sum
 refine DK (δ':=[.d A,.d B,.d (.int (u:Nat)),.d (.int (most:Nat)),.d (.list (JP (I 0) most)),.no,.no]) (Ek (CC (x:=.list [.int 0]) (y:=.int (most:Nat)) rfl rfl ((Y1 most (by lia)).trans (by rw[IU];rfl)))) ?_;refine Ke (xs:=EL (row.map .int) (Hn M nn most)) (fun i δ=>∃d5 d6:L,δ=[.d A,.d B,.d (.int (u:Nat)),.d (.int (most:Nat)),.d (.list (JP (I i) most)),d5,d6]) (by rw[<-hA,<-hB];rfl) ⟨_,_,rfl⟩ ?_ ?_
 .rintro i y δ hy ⟨d5,d6,rfl⟩;obtain⟨p',s',U,T,rfl⟩:=Ir hy;have hi:i<row.length:=by have:=(aB.mp U).1;simpa using this
  have hiS:i<M.length:=by lia
  have hp:row[i]? = some row[i]:=aI hi;have hS:M[i]? = some M[i]:=aI hiS;rw[List.getElem?_map,hp]at U;cases U;unfold Hn at T;rw[List.getElem?_map,hS]at T;cases T;have R:∀k,I (i+1) k=I i k+row[i]*M[i] u k:=fun k=>by
   show(((row.zip M).take (i+1)).map _).sum=_;have hz:(row.zip M)[i]? = some (row[i],M[i]):=List.getElem?_zip_eq_some.mpr ⟨hp,hS⟩;rw[List.take_add_one,hz,Option.toList_some,List.map_append];exact Pj _ _
  have Z:=hr _ (aa hi);have Y:=hs _ (aa hiS);generalize row[i]=p at R Z hp;generalize M[i]=S at R Y hS;refine⟨[.d A,.d B,.d (.int (u:Nat)),.d (.int (most:Nat)),.d (.list (JP (I i) most)),.d (.int p),.d (V5 S nn most)],rfl,?_⟩;by_cases z:p=0
  .refine⟨_,VB (Um (x:=.int p) (y:=.int 0) rfl rfl ((Ua _ _).trans (by rw[decide_eq_true z];rfl))) rfl,.d (.int p),.d (V5 S nn most),?_⟩;have:I (i+1)=I i:=by funext k;rw[R,z];simp
   rw[this]
  .refine⟨_,iL (Um (x:=.int p) (y:=.int 0) rfl rfl ((Ua _ _).trans (by rw[decide_eq_false z];rfl))) (Ek (y:=.list (JP (I (i+1)) most)) ?_),_,_,rfl⟩;have hx:Bh zip2 (AK (nm 4) (AK (Ay Ct (nm 6) (nm 2)) An)) [.d A,.d B,.d (.int (u:Nat)),.d (.int (most:Nat)),.d (.list (JP (I i) most)),.d (.int p),.d (V5 S nn most)]=some ((List.range most).map fun k=>PyData.tuple [.int (I i k),.int (S u k)]):=by
    rw[SA (xs:=[.list (JP (I i) most),.list (JP (S u) most)]) (BF rfl (BF (FG (by rw[List.getElem?_map,List.getElem?_range hu];rfl)) rfl))];show some (EL (JP (I i) most) (JP (S u) most))=_;rw[IU,IU];unfold EL;rw[List.zip_map',List.map_map];rfl
   have:=P8 (i:=1) (j:=2) (f:=Ay Dc (nm 1) (Ay HC (nm 3) (nm 2))) (fr:=[none,none,none,some 5]) (zs:=List.range most) (a:=fun k=>PyData.int (I i k)) (b:=fun k=>PyData.int (S u k)) (g:=fun k=>PyData.int (I (i+1) k)) hx (by simp;exact aR hm (by decide)) (fun k hk=>by
    have hk:=av.mp hk;refine CC (x:=.int (I i k)) (y:=.int (p*S u k)) rfl (CC (x:=.int p) (y:=.int (S u k)) rfl rfl (O8 Z (Y k hk) (by decide))) ?_;rw[R];rfl)
   unfold Bz;rw[this,IU];rfl
 .rintro δ' ⟨d5,d6,rfl⟩;have hzl:(EL (row.map PyData.int) (Hn M nn most)).length=(row.zip M).length:=by unfold EL Hn;simp
  rw[hzl];refine J9 ?_;show some (PyData.list (JP (I (row.zip M).length) most))=_;have:I (row.zip M).length=Fm row M u:=by
   funext k
   show(((row.zip M).take (row.zip M).length).map _).sum=_;rw[List.take_length];rfl
  rw[this]
def Ko(x0:Nat->Int)(row:List Int)(I:List (Nat->Nat->Int)):Nat->Nat->Int:=fun u k=>match k with
 |0=>x0 u
 |k+1=>Fm row I u k
def LO(x0:Nat->Int):Nat->Nat->Int:=fun u k=>match k with
 |0=>x0 u
 |_+1=>0
def HR(x0:Nat->Int)(uss:List (List Ah)):List (List Int)->List (Nat->Nat->Int)×(Nat->Nat->Int)->List (Nat->Nat->Int)×(Nat->Nat->Int)
 |[],z=>z
 |row::rows,z=>HR x0 uss rows (z.1++[Cg uss z.2],Ko x0 row (z.1++[Cg uss z.2]))
def Ba(x0:Nat->Int)(uss:List (List Ah))(rows:List (List Int)):List (Nat->Nat->Int)×(Nat->Nat->Int):=HR x0 uss rows ([],LO x0)
theorem Nk(x0:Nat->Int)(uss:List (List Ah))(row:List Int):∀(rows:List (List Int)) (z:List (Nat->Nat->Int)×(Nat->Nat->Int)),HR x0 uss (rows++[row]) z=((HR x0 uss rows z).1++[Cg uss (HR x0 uss rows z).2],Ko x0 row ((HR x0 uss rows z).1++[Cg uss (HR x0 uss rows z).2]))
 |[],z=>rfl
 |r::rows,z=>Nk x0 uss row rows _
theorem IV(x0:Nat->Int)(uss:List (List Ah))(rows:List (List Int))(row:List Int):Ba x0 uss (rows++[row])=((Ba x0 uss rows).1++[Cg uss (Ba x0 uss rows).2],Ko x0 row ((Ba x0 uss rows).1++[Cg uss (Ba x0 uss rows).2])):=Nk x0 uss row rows _
theorem Pe(x0:Nat->Int)(uss:List (List Ah)):∀(rows:List (List Int)) (z:List (Nat->Nat->Int)×(Nat->Nat->Int)),(HR x0 uss rows z).1.length=z.1.length+rows.length
 |[],z=>by simp[HR]
 |r::rows,z=>by rw[HR,Pe x0 uss rows];simp;lia
theorem Xq(x0:Nat->Int)(row:List Int)(I:List (Nat->Nat->Int))(u n:Nat):Bc (Ko x0 row I u) (n+1)=x0 u::Bc (Fm row I u) n:=by
 unfold Bc;rw[List.range_succ_eq_map,List.map_cons,List.map_map];rfl
theorem WD(x0:Nat->Int)(u n:Nat):Bc (LO x0 u) (n+1)=x0 u::List.replicate n 0:=by
 unfold Bc;rw[List.range_succ_eq_map,List.map_cons,List.map_map]
 congr 1
 induction n with
 |zero=>rfl
 |succ n I=>rw[List.range_succ,List.map_append,I,List.replicate_succ'];rfl
theorem Px{x0:Nat->Int}{uss:List (List Ah)}{nn most M:Nat}{rows:List (List Int)}(h:∀i,i<rows.length->∀u k,u<nn->k<most->(Cg uss (Ba x0 uss (rows.take i)).2 u k).natAbs<M):∀i,i<=rows.length->∀S∈(Ba x0 uss (rows.take i)).1,∀u k,u<nn->k<most->(S u k).natAbs<M
 |0,_,S,R,_,_,_,_=>by cases R
 |i+1,hi,S,R,u,k,T,U=>by
  have I:rows[i]? = some (rows[i]' hi):=aI hi;rw[List.take_add_one,I,Option.toList_some,IV]at R;rcases aT.mp R with z|z
  .exact Px h i (by lia) S z u k T U
  .rw[List.mem_singleton.mp z];exact h i hi u k T U
structure eU(uss:List (List Ah))(x0:List Int)(rows:List (List Int))(most nn m:Nat):Prop where
 n4:nn<=4
 len:uss.length=nn
 Kp:x0.length=nn
 Mn:most<=19
 Gs:∀us∈uss,us.length<=50
 pw:∀us∈uss,∀z∈us,Cs nn z.1
 num:∀us∈uss,∀z∈us,z.2.num.natAbs<2^m
 NP:∀i row,rows[i]? = some row->row.length=i+1
 lE:rows.length<=40
 lG:∀row∈rows,∀p∈row,p.natAbs<2^4400
 xs:∀i,i<rows.length->∀u k,u<nn->k<most->((Ba (x0.getD · 0) uss (rows.take i)).2 u k).natAbs<2^m
 k9:∀i,i<rows.length->∀ps,Cs nn ps->∀k,k<most->(D5 (Ba (x0.getD · 0) uss (rows.take i)).2 ps k).natAbs<2^m
 lF:∀i,i<rows.length->∀u k,u<nn->k<most->(Cg uss (Ba (x0.getD · 0) uss (rows.take i)).2 u k).natAbs<2^4400
 m4:m<=4000
theorem RS{D:Addr}{H:Hp}:∀ns:List Int,AR D H (ns.map .int) (ns.map V.int)
 |[]=>.nil
 |_::ns=>.cons .int (RS ns)
theorem P7:∀n:Nat,(List.replicate n [V.int 0]).flatten=(List.replicate n (0:Int)).map V.int
 |0=>rfl
 |n+1=>by rw[List.replicate_succ,List.flatten_cons,P7 n,List.replicate_succ,List.map_cons];rfl
theorem Kc{H:Hp}:∀ {ns:List Int} {xs:List V},Aj H (ns.map .int) xs->xs=ns.map V.int
 |[],xs,h=>h.nil_eq
 |n::ns,xs,h=>by
  obtain⟨x,r,rfl,I,M⟩:=h.un;rw[Du]at I;rw[I,Kc M];rfl
theorem gg{H0 H:Hp}{no:Addr->Prop}{R D:Addr}{nn n:Nat}{X:Nat->Nat->Int}{o:HO}(h:Lv H0 H no R nn n X)(hR:H0 R=none)(I:H0 D=some o):Dt D H (V5 X nn n) (.ref R):=by
 obtain⟨M,h1,h2,h3⟩:=h;refine .lst (fun z=>by subst z;rw[hR]at I;cases I) h1 ?_;have:∀i,i<=nn->AR D H ((List.range i).map fun u=>.list (JP (X u) n)) (M.take i):=fun i=>by
  induction i with
  |zero=>intro _;exact .nil
  |succ i Z=>
   intro hi;obtain⟨a,Y,U,T,_⟩:=h3 i (by lia);rw[List.range_succ,List.map_append,List.take_add_one,Y];refine(Z (by lia)).app (.cons (.lst (fun z=>by subst z;rw[T]at I;cases I) U ?_) .nil);exact RS _
 have:=this nn (aG _);rw[List.take_of_length_le (by lia)]at this;exact this
def ZY:Sp:=fun vs H Q _=>∃(G C S:Addr) (gs cs:List V) (uss:List (List Ah)) (x0:List Int) (rows:List (List Int)) (most nn m:Nat),vs=[.ref G,.ref C,.ref S,.int (most:Nat)]/\H G=some (.lst gs)/\A3 H (rows.map fun r=>.list (r.map .int)) gs/\H C=some (.lst cs)/\A3 H (uss.map BS) cs/\H S=some (.lst (x0.map V.int))/\eU uss x0 rows most nn m /\
 ∀(D:Addr) H',AG H H'->H D=none->Lv H H' (fun _=>False) D nn (most+1) (Ba (x0.getD · 0) uss rows).2->Q (.ref D) H'
section
variable{P:Program}{w:World}{K:PySem.W.Frag}{mg:Str->Option Value}{base:Heap}{f g1 g2 g3:Addr}{fd gd1 gd2 gd3:FuncData}
theorem Qm:Ab ["reading","change","start","most","order","places","speeds","row"] ["reading","change","start","most"] (AO Ii):=⟨rfl,rfl,rfl,by decide +kernel,rfl,by decide +kernel,by decide +kernel⟩
theorem Qd(F:Fn K mg "whole_step" Ii ["reading","change","start","most"] f fd)(Er:Fn K mg "powers_needed" Ge ["change"] g1 gd1)(Gk:Fn K mg "speed_rows" JA ["change","order","places","most"] g2 gd2)(Jk:Fn K mg "read_at" LG ["row","speeds","unknown","most"] g3 gd3)
 (N3:AM P w K mg base AZ 3 g1 gd1 ["change"] eK)(S5:AM P w K mg base AZ 3 g2 gd2 ["change","order","places","most"] gM)(LL:AM P w K mg base AZ 3 g3 gd3 ["row","speeds","unknown","most"] (Dh L8))(Bu:mg "enumerate" = none):AM P w K mg base AZ 4 f fd ["reading","change","start","most"] ZY:=by
 have sc:=Qm;refine F.F.ok (k:=3) sc (fun vs H Q E h=>?_) (fun cdv A outer s H vs Q E hr h=>?_)
 .obtain⟨G,C,S,gs,cs,uss,x0,rows,most,nn,m,rfl,_⟩:=h
  rfl
 obtain⟨G,C,S,gs,cs,uss,x0,rows,most,nn,m,rfl,hG,dg,hC,dc,hS,ok,q⟩:=h;obtain⟨nn4,hul,hxl,hmost,hfew,hpw,hnum,hrl,hrm,hrs,hxs,T,hsps,m4⟩:=ok;have hgl:gs.length=rows.length:=by rw[dg.len,List.length_map]
 refine⟨_,(AD (AX (i:=4) sc.nd rfl (Or.inl rfl) (Aa Er N3 hr rfl (AA (pv 1) AB)))
 (AD (El (i:=5) [".0","number","most"] 1 [none,none,some 3] sc.nd rfl rfl (BA (pv 2)) (fun _ _ _ _ _=>Bd) (fun _ _ _ _ _=>(Af Lk (B8 (AA (pv 1) AB)) (Af Wl (B8 (AA AI AB)) (pv 2)))))
 (AD (AX (i:=6) sc.nd rfl (Or.inr rfl) (B8 AB))
 (AD (Bg aK rfl (BA (pv 0)) (Am (i:=7) sc.nd rfl (Or.inr rfl))
  (AD (B2 (GW ab ay az DJ (pv 6) (AA (Aa Gk S5 hr rfl (AA (pv 1) (AA (pv 4) (AA (pv 5) (AA (pv 3) AB))))) AB)))
  (AH (L4 (i:=5) [".0","k","number","row","speeds","most"] 1 2 [none,none,none,some 7,some 6,some 3] sc.nd rfl rfl (Kk rfl Bu (AA (pv 2) AB)) (fun _ _ _ _ _=>Bd) (fun _ _ _ _ _=>(Af Lk (B8 (AA (pv 2) AB)) (Aa Jk LL hr rfl (AA (pv 3) (AA (pv 4) (AA (pv 1) (AA (pv 5) AB)))))))))))
 (AH (Ae (pv 5))))))),?_⟩
 refine⟨_,rfl,C,cs,uss,nn,rfl,hC,dc,hpw,nn4,fun O H1 L e1 hO hO1 ord hL=>?_⟩;refine⟨_,rfl,S,rfl,⟨_,AQ.of (e1 _ _ hS)⟩,fun D0 hD0=>B5 (n:=(x0.map V.int).length) (Uu H H1 (fun _=>False) D0 (most+1) (LO (x0.getD · 0))) ⟨AL hD0 _,rfl,fun u R=>absurd R (by lia)⟩ ?_ ?_⟩
 .rintro i ys H2 hi ⟨e2,hyl,hy⟩ M;have hi':i<x0.length:=by simpa using hi
  have hx:x0[i]? = some x0[i]:=aI hi';have hv:(x0.map V.int)[i]? = some (.int x0[i]):=by rw[List.getElem?_map,hx];rfl
  have hx0:x0.getD i 0=x0[i]:=by rw[List.getD_eq_getElem?_getD,hx];rfl
  generalize x0[i]=t at hx hv hx0;refine⟨⟨_,_,AQ.of (e2 _ _ (e1 _ _ hS)),hv⟩,CI (n:=60) (by lia) (by decide),fun x H' y=>?_⟩;obtain⟨rfl,y⟩:=y;have hx':=y _ (AQ.of (e2 _ _ (e1 _ _ hS)));rw[hv]at hx';cases hx';unfold CZ;refine BI ⟨_,rfl,BU (show 1<=60 by decide),fun l1 hl1=>⟨BU (show 1<=60 by decide),fun l2 hl2=>?_⟩⟩;have a1:=AL hl1 (.lst [V.int t]);have a2:=AL hl2 (.lst [V.int 0]);refine⟨_,rfl,l2,(most:Int),_,rfl,rfl,AF,by lia,by lia,BU (by simp;lia),fun l3 hl3=>?_⟩;have a3:=AL hl3 (.lst (List.replicate (most:Int).toNat [V.int 0]).flatten);refine⟨l1,l3,_,_,rfl,rfl,a3 _ _ (a2 _ _ AF),AF,BU (by rw[len_rep];simp;lia),fun p hp=>?_⟩;have ap:=AL hp (.lst ([V.int t]++(List.replicate (most:Int).toNat [V.int 0]).flatten));have E:=a1.trans (a2.trans (a3.trans ap));have hDp:=E _ _ M;have npD:p≠D0:=fun z=>by
   have:=(a1.trans (a2.trans a3)) _ _ M;rw[<-z,hp]at this;cases this
  refine⟨hDp,BR hi (P5 hD0 (e2.trans E) hDp hyl (fun u R=>?_) ?_ (Cq (e1.trans (e2.trans (a1.trans (a2.trans a3)))) hp) (fun z=>z) npD)⟩
  .obtain⟨b,j1,j2,j3⟩:=hy u R;exact⟨b,j1,E _ _ j2,j3⟩
  .rw[AF,WD,hx0,show(most:Int).toNat=most by lia,P7];rfl
 rintro ys0 H2 mk0 M;have e2:=mk0.1;refine⟨⟨_,AQ.of (e2 _ _ (e1 _ _ hS)),Nat.le_refl _⟩,?_⟩;rw[List.length_map,hxl]at mk0;have r2:=RK mk0 M;have E2:=e1.trans e2;have hD0n:H D0=none:=Cq e1 hD0;refine⟨BU (show 0<=60 by decide),fun Sp hSp=>?_⟩;have e3:=AL hSp (.lst []);have hSp3:upd H2 Sp (.lst []) Sp=some (.lst []):=AF;have hSpn:H Sp=none:=Cq E2 hSp;have hSp1:H1 Sp=none:=Cq e2 hSp;have r3:Lv H (upd H2 Sp (.lst [])) (fun b=>b=Sp) D0 nn (most+1) (LO (x0.getD · 0)):=by
  obtain⟨rvs,k1,k2,k3⟩:=r2;refine⟨rvs,e3 _ _ k1,k2,fun u R=>?_⟩;obtain⟨b,j1,j2,j3,_⟩:=k3 u R;exact⟨b,j1,e3 _ _ j2,j3,fun z=>by rw[z,hSp]at j2;cases j2⟩
 have nD0:D0≠Sp:=fun z=>by rw[z,hSp]at M;cases M
 generalize upd H2 Sp (.lst [])=H3 at e3 hSp3 r3;have E3:=E2.trans e3;refine⟨_,rfl,G,rfl,⟨_,AQ.of (E3 _ _ hG)⟩,Bx (xs:=gs) (fun i σ H'=>∃(Ra:Addr) (I:List V) (r7:Option V),σ=[some (.ref G),some (.ref C),some (.ref S),some (.int (most:Nat)),some (.ref O),some (.ref Ra),some (.ref Sp),r7]/\AG H1 H'/\H' Sp=some (.lst I)/\AR Sp H' (Hn (Ba (x0.getD · 0) uss (rows.take i)).1 nn most) I/\Lv H H' (fun b=>b=Sp) Ra nn (most+1) (Ba (x0.getD · 0) uss (rows.take i)).2/\H Ra=none/\Ra≠Sp) ?_ ?_ ?_ ?_⟩
 .exact⟨D0,[],_,rfl,e2.trans e3,hSp3,.nil,r3,hD0n,nD0⟩
 .rintro i σ H' _ ⟨Ra,I,r7,rfl,e,_⟩;exact AQ.of (e _ _ (e1 _ _ hG))
 .rintro i x σ H4 hx ⟨Ra,I,r7,rfl,e4,Y,dsp,rw4,hRa,nRa⟩;have E4:=e1.trans e4;have hi:i<rows.length:=by rw[<-hgl];exact(aB.mp hx).1
  have U:rows[i]? = some rows[i]:=aI hi;obtain⟨v,k1,k2⟩:=dg.get (i:=i) (d:=.list ((rows[i]).map .int)) (by rw[List.getElem?_map,U];rfl);have hrlen:=hrl i _ U;have hrsz:=hrs _ (aa hi);have hsn:Ba (x0.getD · 0) uss (rows.take (i+1))=((Ba (x0.getD · 0) uss (rows.take i)).1++[Cg uss (Ba (x0.getD · 0) uss (rows.take i)).2],Ko (x0.getD · 0) rows[i] ((Ba (x0.getD · 0) uss (rows.take i)).1++[Cg uss (Ba (x0.getD · 0) uss (rows.take i)).2])):=by rw[List.take_add_one,U,Option.toList_some];exact IV _ _ _ _
  have hsl:(Ba (x0.getD · 0) uss (rows.take i)).1.length=i:=by
   have:=Pe (x0.getD · 0) uss (rows.take i) ([],LO (x0.getD · 0));rw[List.length_take,Nat.min_eq_left (by lia),List.length_nil,Nat.zero_add]at this;exact this
  have hxs:=hxs i hi;have T:=T i hi;have hspsA:∀S∈(Ba (x0.getD · 0) uss (rows.take i)).1++[Cg uss (Ba (x0.getD · 0) uss (rows.take i)).2],∀u k,u<nn->k<most->(S u k).natAbs<2^4400:=by
   intro S hS u k R hk;rcases aT.mp hS with h|h
   .exact Px hsps i (by lia) S h u k R hk
   .rw[List.mem_singleton.mp h];exact hsps i hi u k R hk
  generalize rows[i]=row at k2 hrlen hrsz U hsn;generalize Ba (x0.getD · 0) uss (rows.take i)=z at dsp rw4 hsn hsl hxs T hspsA;obtain⟨Ss,X⟩:=z;rw[hx]at k1;cases k1;obtain⟨gr,grs,rfl,hgr,dgr⟩:=k2.K4;refine⟨_,rfl,.inl ⟨rfl,_,AQ.of Y⟩,_,rfl,_,rfl,_,rfl,_,rfl,C,O,Ra,cs,uss,L,X,most,nn,m,rfl,E4 _ _ hC,dc.same E4,e4 _ _ hO1,ord,fun l hl=>e4 _ _ (hL l hl),rw4.kf,⟨nn4,hul,hmost,hfew,hpw,hnum,hxs,T,m4⟩,fun D H5 e5 hD rw5=>?_⟩;have hsvl:I.length=i:=by rw[dsp.len];unfold Hn;rw[List.length_map];exact hsl
  refine⟨Sp,I,_,rfl,rfl,e5 _ _ Y,CI (n:=60) (by lia) (by decide),?_⟩;have d6:AR Sp (upd H5 Sp (.lst (I++[.ref D]))) (Hn (Ss++[Cg uss X]) nn most) (I++[.ref D]):=by
   unfold Hn;rw[List.map_append];exact .but .upd ((dsp.same e5).app (.cons (gg rw5 hD Y) .nil))
  have s6:upd H5 Sp (.lst (I++[.ref D])) Sp=some (.lst (I++[.ref D])):=AF;have e6:AG H1 (upd H5 Sp (.lst (I++[.ref D]))):=fun b o zz=>by rw[AE (AJ zz hSp1)];exact e5 _ _ (e4 _ _ zz)
  generalize upd H5 Sp (.lst (I++[.ref D]))=H6 at d6 s6 e6;have E6:=e1.trans e6;have dSp6:DU H6 (.list (Hn (Ss++[Cg uss X]) nn most)) (.ref Sp):=.lst s6 (Ca d6);have dgr6:DU H6 (.list (row.map .int)) (.ref gr):=(DU.lst hgr dgr).same E6;refine⟨_,rfl,S,rfl,⟨_,AQ.of (E6 _ _ hS)⟩,fun D2 M=>Gw (n:=nn) (Uu H H6 (fun b=>b=Sp) D2 (most+1) (Ko (x0.getD · 0) row (Ss++[Cg uss X]))) ⟨AL M _,rfl,fun u R=>absurd R (by lia)⟩ ?_ ?_⟩
  .rintro u ys H7 R ⟨e7,hyl,hy⟩ hD7;have E7:=E6.trans e7;have hx:x0[u]? = some (x0[u]'(by lia)):=aI _;have hv:(x0.map V.int)[u]? = some (.int (x0[u]'(by lia))):=by rw[List.getElem?_map,hx];rfl
   have hx0:x0.getD u 0=x0[u]'(by lia):=by rw[List.getD_eq_getElem?_getD,hx];rfl
   generalize x0[u]'(by lia)=t at hx hv hx0;refine⟨⟨_,_,AQ.of (E7 _ _ hS),hv⟩,CI (n:=60) (by lia) (by decide),fun v H' y=>?_⟩;obtain⟨p,x,rfl,np,rfl,kk⟩:=y;have hx':=kk _ (AQ.of (E7 _ _ hS));rw[hv]at hx';cases hx';have ep:=AL np (.tup [.int (u:Nat),.int t]);refine⟨p,_,_,rfl,Ao.of AF,?_⟩;generalize upd H7 p (.tup [.int (u:Nat),.int t])=H8 at ep;unfold CZ;refine BI ⟨_,rfl,BU (show 1<=60 by decide),fun l1 hl1=>?_⟩;have a1:=AL hl1 (.lst [V.int t]);have hl1':upd H8 l1 (.lst [V.int t]) l1=some (.lst [V.int t]):=AF;generalize upd H8 l1 (.lst [V.int t])=H9 at a1 hl1';have e69:=e7.trans (ep.trans a1);refine⟨_,rfl,_,rfl,_,rfl,_,rfl,[.list (row.map .int),.list (Hn (Ss++[Cg uss X]) nn most),.int (u:Nat),.int (most:Nat)],_,H9,cD (by rw[List.length_append,hsl,List.length_singleton,hrlen]) R (by lia) hrsz (fun S hS k hk=>hspsA S hS u k R hk),.cons (dgr6.same e69).du (.cons (dSp6.same e69).du (.cons (by rw[Du]) (.cons (by rw[Du]) .nil))),.refl _,fun v G10 H10 _ _ gh e10 dv=>?_⟩;rw[Du]at dv;obtain⟨b,bs,rfl,hb,dbs⟩:=dv;have hb:=gh _ _ hb;have hbs:=Kc dbs;subst hbs;refine⟨l1,b,_,_,rfl,rfl,e10 _ _ hl1',hb,BU (by simp[HG];lia),fun p4 hp4=>?_⟩;have a4:=AL hp4 (.lst ([V.int t]++(Bc (Fm row (Ss++[Cg uss X]) u) most).map V.int));have Z:=ep.trans (a1.trans e10);have hD10:=Z _ _ hD7;have npD:p4≠D2:=fun zz=>by rw[zz,hD10]at hp4;cases hp4
   have hp7:H7 p4=none:=Cq Z hp4;refine⟨a4 _ _ hD10,BR R (P5 M (e7.trans (Z.trans a4)) (a4 _ _ hD10) hyl (fun w hw=>?_) ?_ (Cq E7 hp7) ?_ npD)⟩
   .obtain⟨b,j1,j2,j3⟩:=hy w hw;exact⟨b,j1,a4 _ _ (Z _ _ j2),j3⟩
   .rw[AF,Xq,hx0];rfl
   .intro zz;rw[zz,e7 _ _ s6]at hp7;cases hp7
  rintro ys H7 mk hD7;have e7:=mk.1;refine⟨⟨_,AQ.of (E6.trans e7 _ _ hS),by rw[List.length_map];exact hxl⟩,D2,I++[.ref D],_,rfl,e6.trans e7,e7 _ _ s6,?_,?_,Cq E6 M,fun zz=>by rw[zz,s6]at M;cases M⟩
  .rw[hsn];exact d6.same e7
  .rw[hsn];exact RK mk hD7
 .rintro σ H4 ⟨Ra,I,r7,rfl,e4,Y,dsp,rw4,hRa,nRa⟩;rw[hgl,List.take_length]at rw4;obtain⟨rvs,k1,k2,k3⟩:=rw4;exact⟨_,rfl,q Ra H4 (e1.trans e4) hRa ⟨rvs,k1,k2,fun u R=>let⟨a,j1,j2,j3,_⟩:=k3 u R;⟨a,j1,j2,j3,fun z=>z⟩⟩⟩
end
def Ad(f:Nat->Rat)(n:Nat):List Rat:=(List.range n).map f
theorem Pf(f:Nat->Rat)(n:Nat):Ad f (n+1)=Ad f n++[f n]:=by unfold Ad;rw[List.range_succ,List.map_append];rfl
theorem G5(f:Nat->Rat)(n:Nat):(Ad f n).length=n:=by unfold Ad;simp
def Od(f:Nat->Int)(C6 g:Int)(k:Nat):Rat:=Rat.divInt (f k) (g*C6^k)
def Zd:Sp:=fun vs H Q _=>∃(a:Addr) (f:Nat->Int) (n:Nat) (C6 g:Int) (b:Nat),vs=[.ref a,.int C6,.int g]/\H a=some (.lst ((Bc f n).map V.int))/\n<=20/\C6≠0/\g≠0/\g.natAbs<2^b/\C6.natAbs<2^b/\b<=400 /\
 ∀D H' I,AG H H'->H D=none->H' D=some (.lst I)->A3 H' (AN (Ad (Od f C6 g) n)) I->Q (.ref D) H'
def ZH:Sp:=fun vs H Q _=>∃n:Nat,vs=[.int (n:Nat)]/\n<=7/\Q .BJ H
theorem V7{b:Int}(h:b≠0)(n:Nat):b^n≠0:=by
 induction n with
 |zero=>simp
 |succ n I=>rw[Int.pow_succ];exact Int.mul_ne_zero I h
theorem cy{g C6:Int}{b k n:Nat}(h1:g.natAbs<2^b)(M:C6.natAbs<2^b)(I:k<=n):(g*C6^k).natAbs<2^(b+(b*n+1)):=FM.C8 h1 (ED M I)
section
variable{P:Program}{w:World}{K:PySem.W.Frag}{mg:Str->Option Value}{base:Heap}{f g:Addr}{fd gd:FuncData}
theorem LA:Ab ["row","pace","grain","fractions","bottom","number"] ["row","pace","grain"] (AO FA):=⟨rfl,rfl,rfl,by decide +kernel,rfl,by decide +kernel,by decide +kernel⟩
theorem K9(F:Fn K mg "row_of_fractions" FA ["row","pace","grain"] f fd)(Fu:Fn K mg "fraction_of" Hx ["top","bottom"] g gd)(Qk:AM P w K mg base AZ 2 g gd ["top","bottom"] Qw):AM P w K mg base AZ 3 f fd ["row","pace","grain"] Zd:=by
 have sc:=LA;refine F.F.ok (k:=2) sc (fun vs H Q E h=>?_) (fun cdv A outer s H vs Q E hr h=>?_)
 .obtain⟨a,f,n,C6,g,b,rfl,_⟩:=h
  rfl
 obtain⟨a,f,n,C6,g,b,rfl,ha,hn,hp0,hg0,hgb,R,hb,q⟩:=h;refine⟨_,(AD (AX (i:=3) sc.nd rfl (Or.inl rfl) (B8 AB))
 (AD (AX (i:=4) sc.nd rfl (Or.inl rfl) (pv 2))
 (AD (Bg aK rfl (BA (pv 0)) (Am (i:=5) sc.nd rfl (Or.inl rfl))
  (AD (B2 (GW ab ay az DJ (pv 3) (AA (Aa Fu Qk hr rfl (AA (pv 5) (AA (pv 4) AB))) AB)))
  (AH (AX (i:=4) sc.nd rfl (Or.inl rfl) (Af B4 (pv 4) (pv 1))))))
 (AH (Ae (pv 3)))))),?_⟩
 refine⟨BU (show 0<=60 by decide),fun D hD=>?_⟩;have e1:=AL hD (.lst []);have U:upd H D (.lst []) D=some (.lst []):=AF;generalize upd H D (.lst [])=H1 at e1 U;have hbn:b*20<=8000:=by lia
 refine⟨_,rfl,_,rfl,a,rfl,⟨_,AQ.of (e1 _ _ ha)⟩,Bx (xs:=(Bc f n).map V.int) (fun i σ H'=>∃(Z:Option V) (I:List V),σ=[some (.ref a),some (.int C6),some (.int g),some (.ref D),some (.int (g*C6^i)),Z]/\AG H H'/\H' D=some (.lst I)/\A3 H' (AN (Ad (Od f C6 g) i)) I) ?_ ?_ ?_ ?_⟩
 .exact⟨_,[],by simp;rfl,e1,U,.nil⟩
 .rintro i σ H' _ ⟨Z,I,rfl,e,_⟩;exact AQ.of (e _ _ ha)
 .rintro i x σ H2 hx ⟨Z,I,rfl,e2,M,Y⟩;have hi:i<n:=by have:=(aB.mp hx).1;rw[List.length_map,HG]at this;exact this
  have hxi:x=.int (f i):=by
   unfold Bc at hx;simp[hi]at hx;exact hx.symm
  subst hxi;have hzl:I.length=i:=by rw[Y.len];unfold AN;rw[List.length_map,G5]
  have nb:(g*C6^i).natAbs<2^(b+(b*20+1)):=cy hgb R (by lia);refine⟨_,rfl,.inl ⟨rfl,_,AQ.of M⟩,_,rfl,_,rfl,f i,g*C6^i,b+(b*20+1),rfl,Int.mul_ne_zero hg0 (V7 hp0 i),by lia,nb,fun l H3 e3 hl=>?_⟩;have T:=e3 _ _ M;refine⟨D,I,_,rfl,rfl,T,CI (n:=60) (by lia) (by decide),?_⟩;refine⟨_,rfl,_,rfl,_,_,rfl,rfl,JK nb R (by lia),some (.int (f i)),I++[.ref l],?_,fun b o z=>?_,AF,?_⟩
  .show [_,_,_,_,some (V.int (g*C6^i*C6)),_]=[_,_,_,_,some (V.int (g*C6^(i+1))),_];rw[Int.pow_succ,Int.mul_assoc]
  .rw[AE (AJ z hD)];exact e3 _ _ (e2 _ _ z)
  .have dn:A3 H3 (AN (Ad (Od f C6 g) (i+1))) (I++[.ref l]):=by
    rw[Pf];unfold AN;rw[List.map_append];exact(Y.same e3).app (.cons (.tup hl (.cons .int (.cons .int .nil))) .nil)
   exact Ca (.but .upd (I0 T dn))
 .rintro σ H2 ⟨Z,I,rfl,e2,M,Y⟩;rw[List.length_map,HG]at Y;exact⟨_,rfl,q D H2 I e2 hD M Y⟩
theorem LY:Ab ["most"] ["most"] (AO FW):=⟨rfl,rfl,rfl,by decide +kernel,rfl,by decide +kernel,by decide +kernel⟩
theorem LR{tk:Tok}(F:Fn K mg "refuse_too_many" FW ["most"] f fd)(I:mg "MOST_POWER" = some (.int 7 tk)):AM P w K mg base AZ 1 f fd ["most"] ZH:=by
 have sc:=LY;refine F.F.ok (k:=0) sc (fun vs H Q E h=>?_) (fun cdv A outer s H vs Q E M h=>?_)
 .obtain⟨n,rfl,_⟩:=h
  rfl
 obtain⟨n,rfl,hn,q⟩:=h;refine⟨_,(AH (BL (PW.pt (Dk (Au MN (pv 0) AI (Av _)) (DQ (Au MP (pv 0) (Ud (v:=.int 7) rfl I ⟨_,rfl⟩) (Av _)))))
  (AH KI)
  Ax)),?_⟩
 refine⟨_,rfl,_,_,rfl,rfl,_,rfl,BP (fun c=>?_) (fun _=>⟨_,rfl,_,_,rfl,rfl,_,rfl,BP (fun c=>?_) (fun _=>q)⟩)⟩
 .have:=ae c
  lia
 .have:=ae c
  lia
end
theorem N8{M:Nat}:∀ {l:List Int},(∀x∈l,x.natAbs<=M)->l.sum.natAbs<=l.length*M
 |[],_=>by simp
 |x::l,h=>by
  have T:=h x (.head _);have R:=N8 (l:=l) fun y I=>h y (.tail _ I);rw[List.sum_cons,List.length_cons,Nat.succ_mul];have:=Int.natAbs_add_le x l.sum
  lia
theorem Zo{f g:Nat->Int}{k A B b:Nat}(Z:k<=7)(U:∀j,j<=k->(f j).natAbs<=2^(A+b*j))(T:∀j,j<=k->(g j).natAbs<=2^(B+b*j)):(conv f g k).natAbs<=2^(A+B+3+b*k):=by
 unfold conv
 have Y:∀x∈Bc (fun j=>f j*g (k-j)) (k+1),x.natAbs<=2^(A+B+b*k):=fun x I=>by
  unfold Bc at I;obtain⟨j,M,rfl⟩:=aL.mp I;have M:j<k+1:=av.mp M;rw[Int.natAbs_mul];refine aR (bY (U j (by lia)) (T (k-j) (by lia))) ?_;rw[<-Nat.pow_add];refine bN (by decide) ?_;have:b*k=b*j+b*(k-j):=by rw[<-Nat.mul_add];congr 1;lia
  lia
 have R:=N8 Y;rw[HG]at R;refine aR R ?_;rw[show A+B+3+b*k=3+(A+B+b*k) by lia,Nat.pow_add 2 3];exact Nat.mul_le_mul_right _ (by lia)
theorem Wz{X:Nat->Nat->Int}{nn k a b:Nat}(M:k<=7)(h:∀u j,u<nn->j<=k->(X u j).natAbs<=2^(a+b*j)):∀(n:Nat) (ps:List Int),Cs nn ps->ps.sum=(n:Int)->∀j,j<=k->(D5 X ps j).natAbs<=2^((a+3)*n+b*j)
 |0,ps,o,I,j,R=>by
  rw[NX (by lia)];split
  .exact Nat.one_le_two_pow
  .exact ar _
 |n+1,ps,o,I,j,R=>by
  have h0:ps.sum≠0:=by lia
  obtain⟨f1,_⟩:=HK h0;rw[NT o h0];have:=Zo (A:=(a+3)*n) (B:=a) (b:=b) (k:=j) (by lia) (fun i hi=>Wz M h n _ (o.low h0) (by rw[sum_set _ _ f1];lia) i (by lia)) (fun i hi=>h (fu ps) i (by rw[<-o.len];exact f1) (by lia));rw[show(a+3)*(n+1)+b*j=(a+3)*n+a+3+b*j by rw[Nat.mul_succ];lia];exact this
theorem UD{X:Nat->Nat->Int}{nn k a b:Nat}(I:k<=7)(h:∀u j,u<nn->j<=k->(X u j).natAbs<=2^(a+b*j)){ps:List Int}(o:Cs nn ps):(D5 X ps k).natAbs<=2^(3*(a+3)+b*k):=by
 have h0:=CS o.nn;have M:=o.s3;refine aR (Wz I h ps.sum.toNat ps o (by lia) k (aG _)) (bN (by decide) ?_);have:(a+3)*ps.sum.toNat<=(a+3)*3:=aX _ (by lia)
 lia
theorem XO{X:Nat->Nat->Int}{nn k a b c:Nat}(Y:k<=7)(h:∀u j,u<nn->j<=k->(X u j).natAbs<=2^(a+b*j)){us:List Ah}(U:us.length<=16)(T:∀z∈us,Cs nn z.1/\z.2.num.natAbs<=2^c):(QR X us k).natAbs<=2^(13+c+3*a+b*k):=by
 unfold QR;have h1:∀x∈us.map fun m=>m.2.num*D5 X m.1 k,x.natAbs<=2^(c+(3*(a+3)+b*k)):=fun x R=>by
  obtain⟨z,M,rfl⟩:=aL.mp R;obtain⟨o,Z⟩:=T z M;rw[Int.natAbs_mul,Nat.pow_add];exact bY Z (UD Y h o)
 have I:=N8 h1;rw[List.length_map]at I;refine aR I ?_;rw[show 13+c+3*a+b*k=4+(c+(3*(a+3)+b*k)) by lia,Nat.pow_add 2 4];exact Nat.mul_le_mul_right _ U
theorem GI{x m n:Nat}(h:x<=2^m)(hm:m<n):x<2^n:=aQ h (Nat.pow_lt_pow_right (by decide) hm)
theorem FL{g:Int}(h:1<=g):∀n:Nat,1<=g^n
 |0=>by simp
 |n+1=>by rw[Int.pow_succ];exact Int.mul_pos (show 0<g^n from FL h n) (show 0<g from h)
def EK(r:List Rat):List Int:=r.map fun q=>(q.den:Int)
def GL(t:Tb)(i:Nat):List Int:=EK t.ls++((t.rs.take i).map EK).flatten
def DZ(t:Tb):Int:=FT (GL t t.rs.length)
def Tb.Fits(t:Tb)(n:Nat):Prop:=(∀r∈t.rs,∀q∈r,FM.Fits q n)/\∀q∈t.ls,FM.Fits q n
theorem N9{t:Tb}{i:Nat}{r:List Rat}(h:t.rs[i]? = some r):GL t (i+1)=GL t i++EK r:=by
 unfold GL;rw[List.take_add_one,h,List.map_append,List.flatten_append,List.append_assoc];simp
theorem Ja{t:Tb}{m:Nat}(o:t.Ok m):∀i,i<=t.rs.length->(GL t i).length<=t.rs.length+t.rs.length*i
 |0,_=>by unfold GL EK;simp[o.last]
 |i+1,h=>by
  have I:=aI (l:=t.rs) (i:=i) (by lia);have:=Ja o i (by lia);rw[N9 I,List.length_append,show(EK t.rs[i]).length=t.rs[i].length from bW _,o.row i _ I,Nat.mul_succ]
  lia
theorem Ph{t:Tb}{n:Nat}(h:t.Fits n)(i:Nat):∀b∈GL t i,1<=b/\b.natAbs<2^n:=fun b I=>by
 unfold GL at I;rcases aT.mp I with I|I
 .exact MB h.2 b I
 .obtain⟨l,R,I⟩:=List.mem_flatten.mp I;obtain⟨r,M,rfl⟩:=aL.mp R;exact MB (h.1 r (bU M)) b I
def cn:Sp:=fun vs H Q _=>∃(v:V) (t:Tb) (m n:Nat),vs=[v]/\DU H (CF t) v/\t.Ok m/\m<=40/\t.Fits n/\n*(m+m*m)<=4000/\∀H',AG H H'->Q (.int (DZ t)) H'
section
variable{P:Program}{w:World}{K:PySem.W.Frag}{mg:Str->Option Value}{base:Heap}{f g1 g2:Addr}{fd gd1:FuncData}
theorem Ny:Ab ["table","bottoms","row"] ["table"] (AO G6):=⟨rfl,rfl,rfl,by decide +kernel,rfl,by decide +kernel,by decide +kernel⟩
theorem N4(F:Fn K mg "table_bottom" G6 ["table"] f fd)(BZ:Fn K mg "common_bottom" Dp ["bottoms"] g1 gd1)
 (Dg:AM P w K mg base AZ 2 g1 gd1 ["bottoms"] Nu):AM P w K mg base AZ 3 f fd ["table"] cn:=by
 have sc:=Ny;refine F.F.ok (k:=2) sc (fun vs H Q E h=>?_) (fun cdv A outer s H vs Q E I h=>?_)
 .obtain⟨v,t,m,n,rfl,_⟩:=h
  rfl
 obtain⟨v,t,m,n,rfl,dt,ot,hm,ft,hnm,q⟩:=h;obtain⟨p,R,L,xs,ys,rfl,hp,hR,dR,hL,dL⟩:=dt.tab;have hyl:ys.length=t.ls.length:=by rw[dL.len,FE]
 have hxl:xs.length=t.rs.length:=by rw[dR.len,HB]
 have h1:=ot.most;have h2:=ot.last;refine⟨_,(AD (El (i:=1) [".0","part"] 1 [none,none] sc.nd rfl rfl (BA (A0 BN (pv 0) AI (fun _ _=>rfl))) (fun _ _ _ _ _=>Bd) (fun _ _ _ _ _=>(A0 G8 (pv 1) AI (fun _ _=>rfl))))
 (AD (Bg aK rfl (BA (A0 BN (pv 0) AI (fun _ _=>rfl))) (Am (i:=2) sc.nd rfl (Or.inl rfl))
  (AH (B2 (GW ab PySem.F.slot_list_extend PySem.F.type_list_extend Pc (pv 1) (AA (CU [".0","part"] 1 [none,none] (BA (pv 2)) (fun _ _ _ _ _=>Bd) (fun _ _ _ _ _=>(A0 G8 (pv 1) AI (fun _ _=>rfl)))) AB)))))
 (AH (Ae (Aa BZ Dg I rfl (AA (pv 1) AB)))))),?_⟩
 refine⟨_,rfl,_,_,_,_,rfl,rfl,Ao.of hp,rfl,L,rfl,⟨_,AQ.of hL⟩,fun Z hZ=>B5 (n:=ys.length) (fun i us H'=>AG H H'/\us=(EK (t.ls.take i)).map V.int) ⟨AL hZ _,rfl⟩ ?_ ?_⟩
 .rintro i us H1 hi ⟨e1,rfl⟩ hD1;have I:t.ls[i]? = some (t.ls[i]'(by lia)):=aI _;obtain⟨p,T,M⟩:=GV dL I;generalize t.ls[i]'(by lia)=r at I M;refine⟨⟨ys,.ref p,AQ.of (e1 _ _ hL),T⟩,CI (n:=60) (by unfold EK;simp;lia) (by decide),fun x H' y=>?_⟩;obtain⟨rfl,y⟩:=y;have hx:=y ys (AQ.of (e1 _ _ hL));rw[T]at hx;cases hx;unfold CZ;refine BI ⟨_,rfl,_,_,_,_,rfl,rfl,Ao.of (e1 _ _ M),rfl,hD1,BR hi ⟨fun b o z=>?_,?_⟩⟩
  .rw[AE (AJ z hZ)];exact e1 _ _ z
  .rw[List.take_add_one,I,EK,EK,List.map_append,List.map_append]
   rfl
 rintro us H1 ⟨e1,rfl⟩ hZ1;rw[hyl,List.take_length]at hZ1;refine⟨⟨ys,AQ.of (e1 _ _ hL),Nat.le_refl _⟩,?_⟩;refine⟨_,rfl,_,_,_,_,rfl,rfl,Ao.of (e1 _ _ hp),rfl,R,rfl,⟨_,AQ.of (e1 _ _ hR)⟩,Bx (xs:=xs) (fun i σ H'=>∃r2,σ=[some (.ref p),some (.ref Z),r2]/\AG H H'/\H' Z=some (.lst ((GL t i).map V.int))) ?_ ?_ ?_ ?_⟩
 .exact⟨_,rfl,e1,by rw[hZ1];unfold GL;simp⟩
 .rintro i σ H' _ ⟨r2,rfl,e,_⟩;exact AQ.of (e _ _ hR)
 .rintro i x σ H2 hx ⟨r2,rfl,e2,U⟩;have hi:i<t.rs.length:=by rw[<-hxl];exact(aB.mp hx).1
  have I:t.rs[i]? = some t.rs[i]:=aI hi;have hrl:=ot.row _ _ I;obtain⟨a,zs,g1,g2,dz⟩:=NJ dR I;generalize t.rs[i]=row at I dz hrl;rw[hx]at g1;cases g1;have hzl:zs.length=row.length:=by rw[dz.len,FE]
  refine⟨_,rfl,.inl ⟨rfl,_,AQ.of U⟩,_,rfl,a,rfl,⟨_,AQ.of (e2 _ _ g2)⟩,fun D hD=>B5 (n:=zs.length) (fun j ys H'=>AG H2 H'/\ys=(EK (row.take j)).map V.int) ⟨AL hD _,rfl⟩ ?_ ?_⟩
  .rintro j us H3 hj ⟨e3,rfl⟩ Y;have E3:=e2.trans e3;have I:row[j]? = some (row[j]'(by lia)):=aI _;obtain⟨p,T,M⟩:=GV dz I;generalize row[j]'(by lia)=r at I M;refine⟨⟨zs,.ref p,AQ.of (E3 _ _ g2),T⟩,CI (n:=60) (by unfold EK;simp;lia) (by decide),fun x H' y=>?_⟩;obtain⟨rfl,y⟩:=y;have hx:=y zs (AQ.of (E3 _ _ g2));rw[T]at hx;cases hx;unfold CZ;refine BI ⟨_,rfl,_,_,_,_,rfl,rfl,Ao.of (E3 _ _ M),rfl,Y,BR hj ⟨fun b o z=>?_,?_⟩⟩
   .rw[AE (AJ z hD)];exact e3 _ _ z
   .rw[List.take_add_one,I,EK,EK,List.map_append,List.map_append]
    rfl
  .rintro us H3 ⟨e3,rfl⟩ Y;have E3:=e2.trans e3;rw[hzl,List.take_length]at Y;refine⟨⟨zs,AQ.of (E3 _ _ g2),Nat.le_refl _⟩,Z,D,_,_,rfl,rfl,e3 _ _ U,Y,?_,_,rfl,fun b o z=>?_,?_⟩
   .have:=Ja ot i (by lia);rw[List.length_map,List.length_map,show(EK row).length=row.length from bW _];have h40:t.rs.length*i<=40*40:=bY (by lia) (by lia);exact aR (show _<=2000 by lia) (by rw[sizeLine_eq];decide)
   .rw[AE (AJ z hZ)];exact e3 _ _ (e2 _ _ z)
   .rw[AF,N9 I,List.map_append]
 .rintro σ H2 ⟨r2,rfl,e2,U⟩;rw[hxl]at U;refine⟨_,rfl,Z,_,n,rfl,U,Ph ft _,?_,q H2 e2⟩;have:=Ja ot _ (aG _);have h3:t.rs.length*t.rs.length<=m*m:=bY h1 h1;exact aR (aX n (by lia)) hnm
end
def Ag(t:Tb):List (List Rat):=t.rs.drop 1++[t.ls]
def UX:Sp:=fun vs H Q _=>∃(v:V) (t:Tb) (m:Nat),vs=[v]/\DU H (CF t) v/\t.Ok m/\m<=40/\∀D H' I,AG H H'->H D=none->H' D=some (.lst I)->A3 H' (Aq (Ag t)) I->Q (.ref D) H'
theorem WO{xs:List V}(h:1<=xs.length):B6 xs (some 1) none=xs.drop 1:=by
 have:=HT.BC;unfold B6;have M:HT.BC xs.length 0 (some 1)=1:=by
  unfold HT.BC;simp
  lia
 have I:HT.BC xs.length xs.length none=xs.length:=rfl;rw[M,I];exact List.take_of_length_le (by rw[List.length_drop];exact aG _)
section
variable{P:Program}{w:World}{K:PySem.W.Frag}{mg:Str->Option Value}{base:Heap}{f:Addr}{fd:FuncData}
theorem Md:Ab ["table"] ["table"] (AO F0):=⟨rfl,rfl,rfl,by decide +kernel,rfl,by decide +kernel,by decide +kernel⟩
theorem Mf(F:Fn K mg "rows_that_read" F0 ["table"] f fd):AM P w K mg base AZ 1 f fd ["table"] UX:=by
 have sc:=Md;refine F.F.ok (k:=0) sc (fun vs H Q E h=>?_) (fun cdv A outer s H vs Q E hr h=>?_)
 .obtain⟨v,t,m,rfl,_⟩:=h
  rfl
 obtain⟨v,t,m,rfl,d,ok,hm,q⟩:=h;refine⟨_,(AH (Ae (Af Lk (Gz MG (A0 BN (pv 0) AI (fun _ _=>rfl)) (Ig AI) Ih) (B8 (AA (A0 BN (pv 0) AI (fun _ _=>rfl)) AB))))),?_⟩;obtain⟨p,R,L,xs,ys,rfl,hp,hR,dR,hL,dL⟩:=d.tab;have hxl:xs.length=t.rs.length:=by rw[dR.len,HB]
 have h1:=ok.one;have h2:=ok.most;refine⟨_,rfl,_,_,_,_,rfl,rfl,Ao.of hp,rfl,_,rfl,R,xs,rfl,AQ.of hR,fun A1 Z=>?_⟩;rw[WO (by lia)];generalize I:upd _ A1 _=H1;obtain⟨U,_,hA⟩:=PB I Z (dR.drop 1);clear I;refine⟨_,rfl,_,_,_,_,rfl,rfl,Ao.of (U _ _ hp),rfl,BU (show 1<=60 by decide),fun A2 Y=>?_⟩;generalize I:upd _ A2 _=H2;obtain⟨e2,_,hB⟩:=PB I Y (.cons (DU.lst (U _ _ hL) (dL.same U)) .nil);clear I;have M:=U.trans e2;refine⟨A1,A2,_,_,rfl,rfl,e2 _ _ hA,hB,BU (by rw[List.length_drop];simp;lia),fun D hD=>?_⟩;have T:=AL hD (.lst (xs.drop 1++[V.ref L]));refine q D _ _ (M.trans T) (Cq M hD) AF ?_;unfold Ag;rw[Aq,List.map_append,List.map_drop];exact((dR.drop 1).same (M.trans T)).app (.cons (DU.lst ((M.trans T) _ _ hL) (dL.same (M.trans T))) .nil)
end
def Fz:PyData->Bool
 |.int i=>decide (0<=i)
 |_=>false
def FU(n:Int):PyData->Bool
 |.tuple I=>decide ((I.length:Int)=n)&&I.all Fz
 |_=>false
def eF:PyData->Int
 |.tuple (.int a::_)=>a
 |_=>0
def FF(n:Int):PyData->Bool
 |.tuple [p,f]=>FU n p&&(Dm f && !decide (eF f=0))
 |_=>false
def intD:PyData->Int
 |.int i=>i
 |_=>0
def Qt:PyData->List Int
 |.tuple I=>I.map intD
 |_=>[]
def Rx:PyData->List Int
 |.tuple (p::_)=>Qt p
 |_=>[]
def GQ(n:Int)(ds:List PyData)(k:Nat):Bool:=match ds[k]? with
 |some d=>FF n d&&(decide (k=0)||(match ds[k-1]? with
  |some e=>IT.lt (Rx d) (Rx e)
  |none=>true))
 |none=>true
def Eo(n:Int):PyData->Bool
 |.list I=>(List.range I.length).all (GQ n I)
 |_=>false
def J1:PyData->Bool
 |.list I=>!decide (I.length=0)&&I.all (Eo I.length)
 |_=>false
theorem Zq{n:Int}{d:PyData}(h:Cd d=false):FU n d=false:=by cases d<;>first|rfl|exact absurd h (by simp[Cd])
theorem Xx{n:Int}{d:PyData}(h:Cd d=false):FF n d=false:=by cases d<;>first|rfl|exact absurd h (by simp[Cd])
theorem Ye{n:Int}{d:PyData}(h:B7 d=false):Eo n d=false:=by cases d<;>first|rfl|exact absurd h (by simp[B7])
theorem b5{d:PyData}(h:B7 d=false):J1 d=false:=by cases d<;>first|rfl|exact absurd h (by simp[B7])
theorem W4{n:Int}{ds:List PyData}(h:ds.length≠2):FF n (.tuple ds)=false:=by
 match ds,h with
 |[],_=>rfl
 |[_],_=>rfl
 |[_,_],h=>exact absurd rfl h
 |_::_::_::_,_=>rfl
def fZ:Sp:=fun vs H Q _=>∃l d v n,vs=[v,.int n]/\Dt l H d v/\Q (.bl (FU n d)) H
def gJ:Sp:=fun vs H Q _=>∃l d v n,vs=[v,.int n]/\Dt l H d v/\Q (.bl (FF n d)) H
def fJ:Sp:=fun vs H Q _=>∃l d v n,vs=[v,.int n]/\Dt l H d v/\∀H',AG H H'->Q (.bl (Eo n d)) H'
def ZX:Sp:=fun vs H Q _=>∃l d v,vs=[v]/\Dt l H d v/\∀H',AG H H'->Q (.bl (J1 d)) H'
section
variable{P:Program}{w:World}{K:PySem.W.Frag}{mg:Str->Option Value}{base:Heap}{f g1 g2:Addr}{fd gd1 gd2:FuncData}
theorem Qe:Ab ["thing","unknowns","power"] ["thing","unknowns"] (AO JM):=⟨rfl,rfl,rfl,by decide +kernel,rfl,by decide +kernel,by decide +kernel⟩
theorem QY(F:Fn K mg "are_powers" JM ["thing","unknowns"] f fd)(Dw:Fn K mg "is_whole" IQ ["thing"] g1 gd1)
 (IY:AM P w K mg base AZ 1 g1 gd1 ["thing"] Su)(AW:mg "isinstance" = none)(Bj:mg "tuple" = none)(A9:mg "len" = none):AM P w K mg base AZ 2 f fd ["thing","unknowns"] fZ:=by
 have sc:=Qe;refine F.F.ok (k:=1) sc (fun vs H Q E h=>?_) (fun cdv A outer s H vs Q E hr h=>?_)
 .obtain⟨l,d,v,n,rfl,_⟩:=h
  rfl
 obtain⟨l,d,v,n,rfl,hd,q⟩:=h;refine⟨_,(AD (BL (PW.pt (Dk (CB (Bt (Ai Bn rfl AW aN (AA (pv 0) (AA (B3 (v:=.ty "tuple") rfl Bj bE rfl) AB))))) (DQ (Au Fl (Ai BB rfl A9 ai (AA (pv 0) AB)) (pv 1) (Av _)))))
  (AH (Ae CL))
  Ax)
 (AD (Bg aK rfl (XW (pv 0)) (Am (i:=2) sc.nd rfl (Or.inl rfl))
  (AH (BL (PW.pt (Dk (CB (Bt (Aa Dw IY hr rfl (AA (pv 2) AB)))) (DQ (Au MN (pv 2) AI (Av _)))))
   (AH (Ae CL))
   Ax)))
 (AH (Ae CL)))),?_⟩
 refine⟨_,rfl,_,_,_,_,rfl,Ee,hd.ty,Dy K d hd.nodict,_,rfl,?_⟩;by_cases R:Cd d=false
 .rw[R];rw[Zq R]at q;exact BI (BI q)
 have R:Cd d=true:=by simpa using R
 rw[R];refine C4 ?_;obtain⟨T,rfl⟩:=Nc R;rw[Dt]at hd;obtain⟨a,xs,rfl,na,ha,ht⟩:=hd;have I:=ht.len;refine⟨_,rfl,a,xs,rfl,.inr (Ao.of ha),_,rfl,rfl,_,rfl,BP (fun c=>?_) (fun c=>?_)⟩
 .have Z:¬(T.length:Int)=n:=by
   rw[<-I];intro z;rw[z]at c;simp at c
  rw[FU,decide_eq_false Z,Bool.false_and]at q;exact q
 have hn:(T.length:Int)=n:=by
  rw[<-I];by_cases z:(xs.length:Int)=n
  .exact z
  .exact absurd (by simp[z]) c
 rw[FU,decide_eq_true hn,Bool.true_and]at q;refine⟨_,rfl,a,rfl,⟨_,Ao.of ha⟩,a7 (xs:=xs) (fun i σ H'=>∃M,σ=[some (.ref a),some (.int n),M]/\H=H'/\∀j c,j<i->T[j]? = some c->Fz c=true) ?_ ?_ ?_ ?_⟩
 .exact⟨_,rfl,rfl,fun j c h=>absurd h (Nat.not_lt_zero _)⟩
 .rintro i σ H' _ ⟨M,rfl,rfl,_⟩;exact Ao.of ha
 .rintro i x σ H' hx ⟨M,rfl,rfl,hf⟩;obtain⟨c,U,Y⟩:=ht.get hx;have no:Fz c=false->T.all Fz=false:=fun z=>af.mpr fun y=>by
   rw[List.all_eq_true]at y;rw[y c (aJ U)]at z;cases z
  have next:Fz c=true->∃M,[some (V.ref a),some (V.int n),some x]=[some (.ref a),some (.int n),M]/\H=H/\∀j c,j<i+1->T[j]? = some c->Fz c=true:=fun hb=>by
   refine⟨_,rfl,rfl,fun j e hj he=>?_⟩;by_cases z:j=i
   .subst z;rw[U]at he;cases he;exact hb
   .exact hf j e (by lia) he
  refine⟨_,rfl,l,c,x,rfl,Y,_,rfl,BP (fun b=>?_) (fun b=>?_)⟩
  .have:Fz c=false:=by cases c<;>first|rfl|(simp[Hg,GJ]at b)
   rw[no this]at q;exact BI q
  .obtain⟨i',rfl⟩:=Lm (d:=c) (by simpa using b);rw[Dt]at Y;subst Y;refine⟨_,rfl,_,_,rfl,rfl,_,rfl,BP (fun b=>?_) (fun b=>?_)⟩
   .have:Fz (.int i')=false:=by
     have:=ae b;rw[Fz];exact bR (by lia)
    rw[no this]at q;exact q
   .have:Fz (.int i')=true:=by
     have:=bH (af.mpr b);rw[Fz];exact bT (by lia)
    exact next this
 .rintro σ H' ⟨M,rfl,rfl,hf⟩;have e:T.all Fz=true:=by
   rw[List.all_eq_true];intro c U;obtain⟨j,hj⟩:=ax U;exact hf j c (by rw[I];exact(aB.mp hj).1) hj
  rw[e]at q;exact q
theorem VW:Ab ["thing","unknowns"] ["thing","unknowns"] (AO Ld):=⟨rfl,rfl,rfl,by decide +kernel,rfl,by decide +kernel,by decide +kernel⟩
theorem VE(F:Fn K mg "is_term" Ld ["thing","unknowns"] f fd)(GP:Fn K mg "are_powers" JM ["thing","unknowns"] g1 gd1)(C5:Fn K mg "is_fraction" Ft ["thing"] g2 gd2)
 (SW:AM P w K mg base AZ 2 g1 gd1 ["thing","unknowns"] fZ)(Hs:AM P w K mg base AZ 2 g2 gd2 ["thing"] Sr)(AW:mg "isinstance" = none)(Bj:mg "tuple" = none)(A9:mg "len" = none):AM P w K mg base AZ 3 f fd ["thing","unknowns"] gJ:=by
 have sc:=VW;refine F.F.ok (k:=2) sc (fun vs H Q E h=>?_) (fun cdv A outer s H vs Q E hr h=>?_)
 .obtain⟨l,d,v,n,rfl,_⟩:=h
  rfl
 obtain⟨l,d,v,n,rfl,hd,q⟩:=h;refine⟨_,(AD (BL (PW.pt (Dk (CB (Bt (Ai Bn rfl AW aN (AA (pv 0) (AA (B3 (v:=.ty "tuple") rfl Bj bE rfl) AB))))) (Dk (Au Fl (Ai BB rfl A9 ai (AA (pv 0) AB)) AI (Av _)) (DQ (CB (Bt (Aa GP SW hr rfl (AA (A0 BN (pv 0) AI (fun _ _=>rfl)) (AA (pv 1) AB)))))))))
  (AH (Ae CL))
  Ax)
 (AH (Ae (JE (Aa C5 Hs hr rfl (AA (A0 BN (pv 0) AI (fun _ _=>rfl)) AB)) (LU (Ie Fl (A0 BN (A0 BN (pv 0) AI (fun _ _=>rfl)) AI (fun _ _=>rfl)) AI (Av _))))))),?_⟩
 refine⟨_,rfl,_,_,_,_,rfl,Ee,hd.ty,Dy K d hd.nodict,_,rfl,?_⟩;by_cases T:Cd d=false
 .rw[T];rw[Xx T]at q;exact BI (BI q)
 have T:Cd d=true:=by simpa using T
 rw[T];refine C4 ?_;obtain⟨ds,rfl⟩:=Nc T;rw[Dt]at hd;obtain⟨a,xs,rfl,na,ha,I⟩:=hd;have Z:=I.len;have s1:Ao K H a xs:=Ao.of ha;refine⟨_,rfl,a,xs,rfl,.inr s1,rfl,_,rfl,BP (fun c=>?_) (fun c=>?_)⟩
 .have:ds.length≠2:=by
   rw[<-Z];intro z;rw[z]at c;exact absurd c (by decide)
  rw[W4 this]at q;exact BI q
 have h2:xs.length=2:=by
  by_cases z:xs.length=2
  .exact z
  .exfalso
   refine c ?_;have:¬(V.int (xs.length:Nat)=V.int 2):=by simp;lia
   rw[decide_eq_false this];rfl
 obtain⟨d0,d1,rfl⟩:∃d0 d1,ds=[d0,d1]:=by
  match ds,(show ds.length=2 by lia) with
  |[x,y],_=>exact⟨x,y,rfl⟩
 rw[AR]at I;obtain⟨x0,r,rfl,hx0,I⟩:=I;rw[AR]at I;obtain⟨x1,r,rfl,R,I⟩:=I;rw[AR]at I;subst I;rw[FF]at q;refine⟨_,rfl,_,_,_,_,rfl,rfl,s1,rfl,_,rfl,l,d0,x0,n,rfl,hx0,_,rfl,BP (fun c0=>?_) (fun c0=>?_)⟩
 .have:FU n d0=false:=by simpa using c0
  rw[this,Bool.false_and]at q;exact q
 have hp:FU n d0=true:=by simpa using c0
 rw[hp,Bool.true_and]at q;refine⟨_,rfl,_,_,_,_,rfl,rfl,s1,rfl,l,d1,x1,rfl,R,_,rfl,BP (fun U=>?_) (fun U=>?_)⟩
 .rw[U,Bool.true_and]at q;obtain⟨i,j,rfl⟩:∃i j,d1=.tuple [.int i,.int j]:=by
   unfold Dm at U;split at U
   .exact⟨_,_,rfl⟩
   .cases U
  rw[Dt]at R;obtain⟨b,ys,rfl,nb,hb,M⟩:=R;rw[AR]at M;obtain⟨y0,r,rfl,Y,M⟩:=M;rw[AR]at M;obtain⟨y1,r,rfl,hy1,M⟩:=M;rw[AR]at M;subst M;rw[Dt]at Y;subst Y;refine⟨_,rfl,_,_,_,_,rfl,rfl,s1,rfl,_,_,_,_,rfl,rfl,Ao.of hb,rfl,rfl,?_⟩;rw[eF]at q;have e:decide (V.int i=V.int 0)=decide (i=0):=by rw[Bool.eq_iff_iff];simp
  show Q (.bl (!decide (V.int i=V.int 0))) H;rw[e];exact q
 .rw[Bool.eq_false_iff.mpr U,Bool.false_and]at q;exact q
theorem Ux:Ab ["thing","unknowns","k","term"] ["thing","unknowns"] (AO Le):=⟨rfl,rfl,rfl,by decide +kernel,rfl,by decide +kernel,by decide +kernel⟩
theorem XT{l:Addr}{H:Hp}{n:Int}{d:PyData}{v:V}(h:Dt l H d v)(k:FU n d=true):∃a,v=.ref a/\H a=some (.tup ((Qt d).map V.int)):=by
 cases d with
 |tuple R=>
  rw[FU,Bool.and_eq_true]at k;rw[Dt]at h;obtain⟨a,xs,rfl,na,ha,I⟩:=h;refine⟨a,rfl,?_⟩;rw[ha]
  congr 2
  rw[Qt];clear ha
  replace k:=k.2
  induction R generalizing xs with
  |nil=>rw[AR]at I;subst I;rfl
  |cons d R T=>
   rw[AR]at I;obtain⟨x,r,rfl,M,U⟩:=I;rw[List.all_cons,Bool.and_eq_true]at k;rw[List.map_cons,List.map_cons,<-T r U k.2]
   congr 1
   cases d<;>first|(rw[Dt]at M;subst M;rfl)|(have:=k.1;simp[Fz]at this)
 |none=>simp[FU]at k
 |bool _=>simp[FU]at k
 |int _=>simp[FU]at k
 |str _=>simp[FU]at k
 |list _=>simp[FU]at k
 |dict _=>simp[FU]at k
theorem Rc{l:Addr}{H:Hp}{n:Int}{d:PyData}{v:V}(h:Dt l H d v)(k:FF n d=true):∃a b c,v=.ref a/\H a=some (.tup [.ref b,c])/\H b=some (.tup ((Rx d).map V.int)):=by
 unfold FF at k;split at k
 .rename_i p f;rw[Bool.and_eq_true]at k;rw[Dt]at h;obtain⟨a,xs,rfl,na,ha,I⟩:=h;rw[AR]at I;obtain⟨x0,r,rfl,M,I⟩:=I;rw[AR]at I;obtain⟨R,r,rfl,T,I⟩:=I;rw[AR]at I;subst I;obtain⟨b,rfl,U⟩:=XT M k.1;exact⟨a,b,R,rfl,ha,U⟩
 .cases k
theorem U3(F:Fn K mg "is_poly" Le ["thing","unknowns"] f fd)(Jd:Fn K mg "is_term" Ld ["thing","unknowns"] g1 gd1)
 (XZ:AM P w K mg base AZ 3 g1 gd1 ["thing","unknowns"] gJ)(AW:mg "isinstance" = none)(Bp:mg "list" = none)(Bu:mg "enumerate" = none):AM P w K mg base AZ 4 f fd ["thing","unknowns"] fJ:=by
 have sc:=Ux;refine F.F.ok (k:=3) sc (fun vs H Q E h=>?_) (fun cdv A outer s H vs Q E hr h=>?_)
 .obtain⟨l,d,v,n,rfl,_⟩:=h
  rfl
 obtain⟨l,d,v,n,rfl,hd,q⟩:=h;refine⟨_,(AD (BL (CB (Bt (Ai Bn rfl AW aN (AA (pv 0) (AA (B3 (v:=.ty "list") rfl Bp ak rfl) AB)))))
  (AH (Ae CL))
  Ax)
 (AD (Bg aK rfl (Kk rfl Bu (AA (pv 0) AB)) (Eu rfl (BM (Am (i:=2) sc.nd rfl (Or.inl rfl)) (BM (Am (i:=3) sc.nd rfl (Or.inl rfl)) EC)))
  (AH (BL (PW.pt (Dk (CB (Bt (Aa Jd XZ hr rfl (AA (pv 3) (AA (pv 1) AB))))) (DQ (PW.pt (cZ (Au MP (pv 2) AI (Av _)) (b8 (Au (fY (by have:=hr.units;exact this)) (A0 BN (pv 3) AI (fun _ _=>rfl)) (A0 BN (A0 EB (pv 0) (Af FZ (pv 2) AI) (fun _ _=>rfl)) AI (fun _ _=>rfl)) (Av _))))))))
   (AH (Ae CL))
   Ax)))
 (AH (Ae CL)))),?_⟩
 refine⟨_,rfl,_,_,_,_,rfl,Ee,hd.ty,DV K d hd.nodict,_,rfl,?_⟩;by_cases Z:B7 d=false
 .rw[Z];have:=q H (.refl H);rw[Ye Z]at this;exact BI this
 have Z:B7 d=true:=by simpa using Z
 rw[Z];refine C4 ?_;obtain⟨I,rfl⟩:=F9 Z;rw[Dt]at hd;obtain⟨a,xs,rfl,na,ha,ht⟩:=hd;have hlen:=ht.len;refine⟨_,rfl,a,rfl,⟨_,AQ.of ha⟩,QP (xs:=xs) (fun i σ H'=>∃Y U,σ=[some (.ref a),some (.int n),Y,U]/\AG H H'/\∀j,j<i->GQ n I j=true) ?_ ?_ ?_ ?_⟩
 .exact⟨_,_,rfl,.refl _,fun j h=>absurd h (Nat.not_lt_zero _)⟩
 .rintro i σ H' _ ⟨Y,U,rfl,e,_⟩;exact AQ.of (e _ _ ha)
 .rintro i x σ H0 hx ⟨Y,U,rfl,e0,hf⟩ p hp;obtain⟨c,hc,tc⟩:=ht.get hx;have hi:i<I.length:=(aB.mp hc).1;have s1:=AL hp (.tup [.int (i:Nat),x]);have M:=e0.trans s1;have hp':(upd H0 p (.tup [.int (i:Nat),x])) p=some (.tup [.int (i:Nat),x]):=AF;generalize upd H0 p (.tup [.int (i:Nat),x])=H1 at s1 M hp';have tc:=tc.same M;have no:GQ n I i=false->Q (.bl false) H1:=fun z=>by
   have:=q H1 M;have e:Eo n (.list I)=false:=af.mpr fun y=>by
    rw[Eo,List.all_eq_true]at y;rw[y i (av.mpr hi)]at z;cases z
   rw[e]at this;exact this
  have next:GQ n I i=true->∃Y U,[some (V.ref a),some (V.int n),some (V.int (i:Nat)),some x]=[some (.ref a),some (.int n),Y,U]/\AG H H1/\∀j,j<i+1->GQ n I j=true:=fun z=>by
   refine⟨_,_,rfl,M,fun j hj=>?_⟩;by_cases zz:j=i
   .subst zz;exact z
   .exact hf j (by lia)
  have R:GQ n I i=(FF n c&&(decide (i=0)||(match I[i-1]? with
    |some e=>IT.lt (Rx c) (Rx e)
    |none=>true))):=by unfold GQ;rw[hc];all_goals rfl
  refine⟨p,_,rfl,Ao.of hp',rfl,_,_,rfl,_,_,rfl,rfl,?_⟩;refine⟨_,rfl,_,rfl,l,c,x,n,rfl,tc,_,rfl,BP (fun b=>?_) (fun b=>?_)⟩
  .have hb:FF n c=false:=by simpa using b
   exact BI (no (by rw[R,hb,Bool.false_and]))
  have hb:FF n c=true:=by simpa using b
  rw[hb,Bool.true_and]at R;refine⟨_,rfl,_,_,rfl,rfl,_,rfl,BP (fun b=>?_) (fun b=>?_)⟩
  .have hi0:0<i:=by have:=ae b;lia
   rw[decide_eq_false (show ¬i=0 by lia),Bool.false_or]at R;have T:xs[i-1]? = some (xs[i-1]'(by lia)):=by simp[show i-1<xs.length by lia]
   obtain⟨e,he,te⟩:=ht.get T;have hpe:FF n e=true:=by
    have:=hf (i-1) (by lia);unfold GQ at this;rw[he]at this;rw[Bool.and_eq_true]at this;exact this.1
   generalize xs[i-1]'(by lia)=v1 at T te;obtain⟨a1,b1,c1,rfl,ha1,hb1⟩:=Rc (te.same M) hpe;obtain⟨a2,b2,c2,rfl,ha2,hb2⟩:=Rc tc hb;have hat:DN xs ((i:Int)-1)=some (.ref a1):=by
    have:=FG (xs:=xs) (j:=i-1) T
    rwa [show((i-1:Nat):Int)=(i:Int)-1 by lia]at this
   rw[he]at R;refine⟨_,rfl,_,_,_,_,rfl,rfl,Ao.of ha2,rfl,_,rfl,_,rfl,_,_,rfl,rfl,_,_,_,_,rfl,rfl,AQ.of (M _ _ ha),hat,_,_,_,_,rfl,rfl,Ao.of ha1,rfl,b2,b1,_,_,rfl,rfl,hb2,hb1,_,rfl,BP (fun z=>?_) (fun z=>?_)⟩
   .exact no (by rw[R];simpa using z)
   .exact next (by rw[R];simpa using z)
  .have hi0:i=0:=by have:=bH (af.mpr b);lia
   exact C4 (next (by rw[R,decide_eq_true hi0,Bool.true_or]))
 .rintro σ H' ⟨Y,U,rfl,M,hf⟩;have:=q H' M;have e:Eo n (.list I)=true:=by
   rw[Eo,List.all_eq_true];intro j hj;exact hf j (by rw[hlen];exact av.mp hj)
  rw[e]at this;exact this
theorem SF:Ab ["thing","some"] ["thing"] (AO Jt):=⟨rfl,rfl,rfl,by decide +kernel,rfl,by decide +kernel,by decide +kernel⟩
theorem Rq(F:Fn K mg "is_change" Jt ["thing"] f fd)(Jh:Fn K mg "is_poly" Le ["thing","unknowns"] g1 gd1)
 (Xe:AM P w K mg base AZ 4 g1 gd1 ["thing","unknowns"] fJ)(AW:mg "isinstance" = none)(Bp:mg "list" = none)(A9:mg "len" = none):AM P w K mg base AZ 5 f fd ["thing"] ZX:=by
 have sc:=SF;refine F.F.ok (k:=4) sc (fun vs H Q E h=>?_) (fun cdv A outer s H vs Q E hr h=>?_)
 .obtain⟨l,d,v,rfl,_⟩:=h
  rfl
 obtain⟨l,d,v,rfl,hd,q⟩:=h;refine⟨_,(AD (BL (PW.pt (Dk (CB (Bt (Ai Bn rfl AW aN (AA (pv 0) (AA (B3 (v:=.ty "list") rfl Bp ak rfl) AB))))) (DQ (Au GO (Ai BB rfl A9 ai (AA (pv 0) AB)) AI (Av _)))))
  (AH (Ae CL))
  Ax)
 (AD (Bg aK rfl (BA (pv 0)) (Am (i:=1) sc.nd rfl (Or.inl rfl))
  (AH (BL (CB (Bt (Aa Jh Xe hr rfl (AA (pv 1) (AA (Ai BB rfl A9 ai (AA (pv 0) AB)) AB)))))
   (AH (Ae CL))
   Ax)))
 (AH (Ae CL)))),?_⟩
 refine⟨_,rfl,_,_,_,_,rfl,Ee,hd.ty,DV K d hd.nodict,_,rfl,?_⟩;by_cases R:B7 d=false
 .rw[R];have:=q H (.refl H);rw[b5 R]at this;exact BI (BI this)
 have R:B7 d=true:=by simpa using R
 rw[R];refine C4 ?_;obtain⟨M,rfl⟩:=F9 R;rw[Dt]at hd;obtain⟨a,xs,rfl,na,ha,ht⟩:=hd;have I:=ht.len;refine⟨_,rfl,a,xs,rfl,.inl (AQ.of ha),rfl,_,rfl,BP (fun c=>?_) (fun c=>?_)⟩
 .have:M.length=0:=by rw[<-I];have:=ae c;simpa using this
  have q:=q H (.refl H);rw[J1,decide_eq_true this,Bool.not_true,Bool.false_and]at q;exact q
 have h0:¬M.length=0:=by
  rw[<-I];intro z;exact c (by simp[z])
 rw[J1,decide_eq_false h0,Bool.not_false,Bool.true_and]at q;refine⟨_,rfl,a,rfl,⟨_,AQ.of ha⟩,Bx (xs:=xs) (fun i σ H'=>∃U,σ=[some (.ref a),U]/\AG H H'/\∀j c,j<i->M[j]? = some c->Eo M.length c=true) ?_ ?_ ?_ ?_⟩
 .exact⟨_,rfl,.refl _,fun j c h=>absurd h (Nat.not_lt_zero _)⟩
 .rintro i σ H' _ ⟨U,rfl,e,_⟩;exact AQ.of (e _ _ ha)
 .rintro i x σ H1 hx ⟨U,rfl,T,hf⟩;obtain⟨c,Y,tc⟩:=ht.get hx;refine⟨_,rfl,_,rfl,a,xs,rfl,.inl (AQ.of (T _ _ ha)),l,c,x,_,rfl,tc.same T,fun H2 e2=>⟨_,rfl,BP (fun b=>?_) (fun b=>?_)⟩⟩
  .have Z:Eo M.length c=false:=by rw[<-I];simpa using b
   have:=q H2 (T.trans e2);have e:M.all (Eo M.length)=false:=af.mpr fun y=>by
    rw[List.all_eq_true]at y;rw[y c (aJ Y)]at Z;cases Z
   rw[e]at this;exact this
  .have Z:Eo M.length c=true:=by rw[<-I];simpa using b
   refine⟨_,rfl,T.trans e2,fun j e hj he=>?_⟩;by_cases z:j=i
   .subst z;rw[Y]at he;cases he;exact Z
   .exact hf j e (by lia) he
 .rintro σ H' ⟨U,rfl,T,hf⟩;have e:M.all (Eo M.length)=true:=by
   rw[List.all_eq_true];intro c Y;obtain⟨j,hj⟩:=ax Y;exact hf j c (by rw[I];exact(aB.mp hj).1) hj
  have:=q H' T;rw[e]at this;exact this
end
def SV:Sp:=fun vs H Q _=>∃(I:V) (C S:Addr) (t:Tb) (cs xs:List V) (uss:List (List Ah)) (rs:List Rat) (many:Nat),vs=[I,.ref C,.ref S]/\DU H (CF t) I/\t.Ok 4/\LJ H C cs uss 3/\J1 (.list (uss.map BS))=true/\uss.length=many/\H S=some (.lst xs)/\A3 H (AN rs) xs/\rs.length=many/\many<=4/\∀H',AG H H'->Q .BJ H'
def Q9:Sp:=fun vs H Q _=>∃(v:V) (t:Tb) (m:Nat),vs=[v]/\DU H (CF t) v/\t.Ok m/\m<=40/\∀H',AG H H'->Q .BJ H'
section
variable{P:Program}{w:World}{K:PySem.W.Frag}{mg:Str->Option Value}{base:Heap}{f g1:Addr}{fd gd1:FuncData}
theorem Lw:Ab ["thing"] ["thing"] (AO FR):=⟨rfl,rfl,rfl,by decide +kernel,rfl,by decide +kernel,by decide +kernel⟩
theorem LV(F:Fn K mg "refuse_no_table" FR ["thing"] f fd)(R:Fn K mg "is_table" Kg ["thing"] g1 gd1)
 (M:AM P w K mg base AZ 5 g1 gd1 ["thing"] UW):AM P w K mg base AZ 6 f fd ["thing"] Q9:=by
 have sc:=Lw;refine F.F.ok (k:=5) sc (fun vs H Q E h=>?_) (fun cdv A outer s H vs Q E I h=>?_)
 .obtain⟨v,t,m,rfl,_⟩:=h
  rfl
 obtain⟨v,t,m,rfl,⟨N,b⟩,ok,hm,q⟩:=h;refine⟨_,(AH (BL (CB (Bt (Aa R M I rfl (AA (pv 0) AB))))
  (AH KI)
  Ax)),?_⟩
 refine⟨_,rfl,N,CF t,v,rfl,b N (aG _),fun H' e=>?_⟩;rw[ok.is hm];exact⟨_,rfl,C4 (q H' e)⟩
end
def Sk:Sp:=fun vs H Q _=>∃(v:V) (d:PyData),vs=[v]/\DU H d v/\J1 d=true/\∀H',AG H H'->Q .BJ H'
def Nt:Sp:=fun vs H Q _=>∃(S:Addr) (xs:List V) (rs:List Rat),vs=[.ref S,.int (rs.length:Nat)]/\H S=some (.lst xs)/\A3 H (AN rs) xs/\Q .BJ H
theorem iC{X:Cx}{e:Expr}:PE X e (fun _ _ _=>False):=fun _ _ _ _ _ _ z=>z.elim
section
variable{P:Program}{w:World}{K:PySem.W.Frag}{mg:Str->Option Value}{base:Heap}{f g1 g2 g3:Addr}{fd gd1 gd2 gd3:FuncData}
theorem K6:Ab ["thing"] ["thing"] (AO Ez):=⟨rfl,rfl,rfl,by decide +kernel,rfl,by decide +kernel,by decide +kernel⟩
theorem LB(F:Fn K mg "refuse_no_change" Ez ["thing"] f fd)(R:Fn K mg "is_change" Jt ["thing"] g1 gd1)
 (M:AM P w K mg base AZ 6 g1 gd1 ["thing"] ZX):AM P w K mg base AZ 7 f fd ["thing"] Sk:=by
 have sc:=K6;refine F.F.ok (k:=6) sc (fun vs H Q E h=>?_) (fun cdv A outer s H vs Q E I h=>?_)
 .obtain⟨v,d,rfl,_⟩:=h
  rfl
 obtain⟨v,d,rfl,⟨N,b⟩,hd,q⟩:=h;refine⟨_,(AH (BL (CB (Bt (Aa R M I rfl (AA (pv 0) AB))))
  (AH KI)
  Ax)),?_⟩
 refine⟨_,rfl,N,d,v,rfl,b N (aG _),fun H' e=>?_⟩;rw[hd];exact⟨_,rfl,C4 (q H' e)⟩
theorem L6:Ab ["thing","unknowns"] ["thing","unknowns"] (AO FX):=⟨rfl,rfl,rfl,by decide +kernel,rfl,by decide +kernel,by decide +kernel⟩
theorem LM(F:Fn K mg "refuse_no_start" FX ["thing","unknowns"] f fd)(U:Fn K mg "are_fractions" Dr ["thing"] g1 gd1)
 (T:AM P w K mg base AZ 4 g1 gd1 ["thing"] MA)(Y:mg "len" = none):AM P w K mg base AZ 5 f fd ["thing","unknowns"] Nt:=by
 have sc:=L6;refine F.F.ok (k:=4) sc (fun vs H Q E h=>?_) (fun cdv A outer s H vs Q E R h=>?_)
 .obtain⟨S,xs,rs,rfl,_⟩:=h
  rfl
 obtain⟨S,xs,rs,rfl,M,dx,q⟩:=h;have I:xs.length=rs.length:=by rw[dx.len,FE]
 refine⟨_,(AH (BL (PW.pt (Dk (CB (Bt (Aa U T R rfl (AA (pv 0) AB)))) (DQ (Au Fl (Ai BB rfl Y ai (AA (pv 0) AB)) (pv 1) (Av _)))))
  (AH (B2 iC))
  Ax)),?_⟩
 obtain⟨N,b⟩:=DU.lst M dx;have ha:Cz (.list (AN rs))=true:=by rw[Cz,List.all_eq_true];exact Na rs
 refine⟨_,rfl,N,.list (AN rs),.ref S,rfl,b N (aG _),?_⟩;rw[ha];refine⟨_,rfl,C4 ⟨_,rfl,S,xs,rfl,.inl (AQ.of M),_,rfl,rfl,_,rfl,?_⟩⟩;rw[I,show(!decide (V.int (rs.length:Nat)=V.int (rs.length:Nat)))=false by simp];exact C4 q
theorem Mb:Ab ["table","change","start"] ["table","change","start"] (AO F3):=⟨rfl,rfl,rfl,by decide +kernel,rfl,by decide +kernel,by decide +kernel⟩
theorem MU(F:Fn K mg "refuse_no_step" F3 ["table","change","start"] f fd)(D8:Fn K mg "refuse_no_table" FR ["thing"] g1 gd1)(Dj:Fn K mg "refuse_no_change" Ez ["thing"] g2 gd2)(D9:Fn K mg "refuse_no_start" FX ["thing","unknowns"] g3 gd3)
 (MT:AM P w K mg base AZ 7 g1 gd1 ["thing"] Q9)(LF:AM P w K mg base AZ 7 g2 gd2 ["thing"] Sk)(MY:AM P w K mg base AZ 7 g3 gd3 ["thing","unknowns"] Nt)(A9:mg "len" = none):AM P w K mg base AZ 8 f fd ["table","change","start"] SV:=by
 have sc:=Mb;refine F.F.ok (k:=7) sc (fun vs H Q E h=>?_) (fun cdv A outer s H vs Q E U h=>?_)
 .obtain⟨vt,C,S,t,cs,xs,uss,rs,many,rfl,_⟩:=h
  rfl
 obtain⟨vt,C,S,t,cs,xs,uss,rs,many,rfl,dt,ot,ch,Z,R,hS,dx,T,hm4,q⟩:=h;have Y:cs.length=rs.length:=by rw[ch.cl,R,T]
 refine⟨_,(AD (B2 (Aa D8 MT U rfl (AA (pv 0) AB)))
 (AD (B2 (Aa Dj LF U rfl (AA (pv 1) AB)))
 (AH (B2 (Aa D9 MY U rfl (AA (pv 2) (AA (Ai BB rfl A9 ai (AA (pv 1) AB)) AB))))))),?_⟩
 refine⟨_,rfl,vt,t,4,rfl,dt,ot,by decide,fun H1 e1=>?_⟩;have I:=ch.same e1;refine⟨_,rfl,.ref C,_,rfl,DU.lst I.at_ I.du,Z,fun H2 e2=>?_⟩;have M:=e1.trans e2;refine⟨_,rfl,_,rfl,C,cs,rfl,.inl (AQ.of (M _ _ ch.at_)),S,xs,rs,?_,M _ _ hS,dx.same M,q H2 M⟩;rw[Y]
 rfl
end
theorem Ub{x0:Nat->Int}{uss:List (List Ah)}{rows:List (List Int)}{nn a b c r:Nat}(hl:uss.length=nn)(T:∀u,u<nn->(x0 u).natAbs<=2^a)(M:∀us∈uss,us.length<=16/\∀z∈us,Cs nn z.1/\z.2.num.natAbs<=2^c)
 (hr:∀row∈rows,row.length<=4/\∀p∈row,p.natAbs<=2^r)(hb:15+r+c+2*a<=b):∀i,i<=rows.length ->
  (∀S∈(Ba x0 uss (rows.take i)).1,∀u k,u<nn->k<=7->(S u k).natAbs<=2^(13+c+3*a+b*k))/\∀u k,u<nn->k<=8->((Ba x0 uss (rows.take i)).2 u k).natAbs<=2^(a+b*k)
 |0,_=>by
  refine⟨fun S R=>(by cases R),fun u k I hk=>?_⟩;cases k with
  |zero=>exact T u I
  |succ k=>exact ar _
 |i+1,hi=>by
  obtain⟨h1,h2⟩:=Ub hl T M hr hb i (by lia);have Y:rows[i]? = some (rows[i]' hi):=aI hi;obtain⟨r4,rb⟩:=hr _ (aa hi);rw[List.take_add_one,Y,Option.toList_some,IV];generalize rows[i]' hi=row at r4 rb;have R:∀S∈(Ba x0 uss (rows.take i)).1++[Cg uss (Ba x0 uss (rows.take i)).2],∀u k,u<nn->k<=7->(S u k).natAbs<=2^(13+c+3*a+b*k):=fun S R u k I hk=>by
   rcases aT.mp R with h|h
   .exact h1 S h u k I hk
   .rw[List.mem_singleton.mp h];have U:uss.getD u []∈uss:=by rw[List.getD_eq_getElem?_getD,List.getElem?_eq_getElem (show u<uss.length by lia)];exact aa _
    exact XO hk (fun u j I hj=>h2 u j I (by lia)) (M _ U).1 (M _ U).2
  refine⟨R,fun u k I hk=>?_⟩;cases k with
  |zero=>exact T u I
  |succ k=>
   show(Fm row _ u k).natAbs<=_;unfold Fm;have h3:∀x∈(row.zip ((Ba x0 uss (rows.take i)).1++[Cg uss (Ba x0 uss (rows.take i)).2])).map fun q=>q.1*q.2 u k,x.natAbs<=2^(r+(13+c+3*a+b*k)):=fun x T=>by
    obtain⟨q,hq,rfl⟩:=aL.mp T;have Z:=List.of_mem_zip hq;rw[Int.natAbs_mul,Nat.pow_add];exact bY (rb _ Z.1) (R _ Z.2 u k I (by lia))
   have h4:=N8 h3;have h5:((row.zip ((Ba x0 uss (rows.take i)).1++[Cg uss (Ba x0 uss (rows.take i)).2])).map fun q=>q.1*q.2 u k).length<=2^2:=by
    rw[List.length_map,List.length_zip];exact aR (Nat.min_le_left _ _) r4
   refine aR h4 (aR (Nat.mul_le_mul_right _ h5) ?_);rw[<-Nat.pow_add];refine bN (by decide) ?_;rw[Nat.mul_succ];lia
structure A7(t:Tb)(uss:List (List Ah))(rs:List Rat)(most nn:Nat):Prop where
 tab:t.Ok 4
 JQ:t.Fits 3
 n4:nn<=4
 len:uss.length=nn
 Kp:rs.length=nn
 Mn:most<=7
 fit:∀us∈uss,us.length<=12/\∀m∈us,FM.Fits m.2 3
 pw:∀us∈uss,∀m∈us,Cs nn m.1
 cX:∀r∈rs,FM.Fits r 3
 good:J1 (.list (uss.map BS))=true
abbrev CM(t:Tb)(uss:List (List Ah))(rs:List Rat):Int:=Jr uss (AY rs)*DZ t
abbrev ER(t:Tb):List (List Int):=(Ag t).map fun r=>Bq r (DZ t)
def DB(t:Tb)(uss:List (List Ah))(rs:List Rat)(i:Nat):List (Nat->Nat->Int)×(Nat->Nat->Int):=Ba ((Bq rs (AY rs)).getD · 0) (Ci (AY rs) uss) ((ER t).take i)
section
variable{t:Tb}{uss:List (List Ah)}{rs:List Rat}{most nn:Nat}
theorem A7.sum(o:A7 t uss rs most nn):∀us∈uss,∀m∈us,0<=Be m/\Be m<=3:=fun us I m hm=>⟨CS (o.pw us I m hm).nn,(o.pw us I m hm).s3⟩
theorem A7.LN(o:A7 t uss rs most nn):∀us∈uss,us.length<=12/\∀m∈us,FM.Fits m.2 4:=fun us I=>⟨(o.fit us I).1,fun m hm=>((o.fit us I).2 m hm).mono⟩
theorem A7.Qq(o:A7 t uss rs most nn):∀r∈rs,FM.Fits r 4:=fun r I=>(o.cX r I).mono
theorem A7.Je(o:A7 t uss rs most nn):1<=AY rs/\(AY rs).natAbs<2^17/\∀r∈rs,(r.den:Int) ∣ AY rs:=by
 obtain⟨a,b,c⟩:=MS (MB o.Qq);refine⟨a,FM.Ce b ?_,fun r I=>c _ (aL.mpr ⟨r,I,rfl⟩)⟩;rw[List.length_map,o.Kp];have:=o.n4
 lia
theorem A7.bot(o:A7 t uss rs most nn):1<=DZ t/\(DZ t).natAbs<2^61/\∀r∈Ag t,∀q∈r,(q.den:Int) ∣ DZ t:=by
 obtain⟨a,b,c⟩:=MS (Ph o.JQ t.rs.length);have R:=Ja o.tab t.rs.length (aG _);have hm:=o.tab.most;refine⟨a,FM.Ce b ?_,fun r M q I=>c _ ?_⟩
 .have:t.rs.length*t.rs.length<=4*4:=bY hm hm
  lia
 .unfold Ag at M;unfold GL;rcases aT.mp M with h|h
  .refine ah _ (List.mem_flatten.mpr ⟨EK r,List.mem_map.mpr ⟨r,?_,rfl⟩,List.mem_map.mpr ⟨q,I,rfl⟩⟩);rw[List.take_length];exact List.mem_of_mem_drop h
  .rw[List.mem_singleton.mp h]at I;exact bF _ (aL.mpr ⟨q,I,rfl⟩)
theorem A7.NP(o:A7 t uss rs most nn):(Ag t).length=t.rs.length/\∀i r,(Ag t)[i]? = some r->r.length=i+1:=by
 have T:=o.tab.one;refine⟨by unfold Ag;simp;lia,fun i r I=>?_⟩;unfold Ag at I;by_cases hi:i<t.rs.length-1
 .rw[List.getElem?_append_left (by simp;lia),List.getElem?_drop]at I;have:=o.tab.row _ _ I
  lia
 .rw[List.getElem?_append_right (by simp;lia)]at I;simp at I;obtain⟨R,M⟩:=aB.mp I;simp at R;have:r=t.ls:=by rw[<-M];simp
  rw[this,o.tab.last];lia
theorem A7.eO(o:A7 t uss rs most nn):(∀i row,(ER t)[i]? = some row->row.length=i+1)/\(ER t).length=t.rs.length/\∀row∈ER t,row.length<=4/\∀p∈row,p.natAbs<=2^64:=by
 obtain⟨T,Z⟩:=o.NP;obtain⟨b1,b2,_⟩:=o.bot;have hm:=o.tab.most;have Y:∀i row,(ER t)[i]? = some row->row.length=i+1:=fun i row h=>by
  rw[List.getElem?_map]at h;obtain⟨r,I,rfl⟩:=aH.mp h;unfold Bq;rw[List.length_map];exact Z i r I
 refine⟨Y,by rw[List.length_map];exact T,fun row h=>?_⟩;obtain⟨i,hi⟩:=ax h;have R:i<(ER t).length:=(aB.mp hi).1;rw[List.length_map,T]at R;refine⟨by rw[Y i row hi];lia,fun p U=>?_⟩;obtain⟨r,I,rfl⟩:=aL.mp h;unfold Bq at U;obtain⟨q,M,rfl⟩:=aL.mp U;have hf:FM.Fits q 3:=by
  unfold Ag at I;rcases aT.mp I with h|h
  .exact o.JQ.1 r (List.mem_of_mem_drop h) q M
  .rw[List.mem_singleton.mp h]at M;exact o.JQ.2 q M
 have h2:((DZ t).fdiv (q.den:Int)).natAbs<2^61:=aQ (FM.BX _ _) b2;exact bP (FM.C8 hf.1 h2)
theorem A7.i6(o:A7 t uss rs most nn):(∀x∈Bq rs (AY rs),x.natAbs<=2^21)/\(∀us∈Ci (AY rs) uss,us.length<=12/\∀z∈us,Cs nn z.1/\z.2.num.natAbs<=2^250)/\(Ci (AY rs) uss).length=nn/\(Bq rs (AY rs)).length=nn:=by
 obtain⟨g1,g2,_⟩:=o.Je;obtain⟨b1,b2,_⟩:=EZ (by rw[o.len];exact o.n4) o.LN;refine⟨fun x Y=>?_,fun us Z=>?_,by unfold Ci;rw[List.length_map];exact o.len,by unfold Bq;rw[List.length_map];exact o.Kp⟩
 .unfold Bq at Y;obtain⟨r,hr,rfl⟩:=aL.mp Y;have T:=(o.Qq r hr).1;have R:((AY rs).fdiv (r.den:Int)).natAbs<2^17:=aQ (FM.BX _ _) g2;exact bP (FM.C8 T R)
 .unfold Ci at Z;obtain⟨vs,I,rfl⟩:=aL.mp Z;refine⟨by unfold Ec;rw[List.length_map];exact(o.fit vs I).1,fun z U=>?_⟩;unfold Ec at U;obtain⟨m,hm,rfl⟩:=aL.mp U;refine⟨o.pw vs I m hm,?_⟩;have T:=((o.LN vs I).2 m hm).1;have R:((BH uss).fdiv (m.2.den:Int)).natAbs<2^193:=aQ (FM.BX _ _) b2;obtain⟨_,g3,_⟩:=HA (uss:=uss) (c:=3) (by decide) fun us M m hm=>(o.sum us M m hm).2;have h3:((AY rs)^(A6 uss-(Be m).toNat)).natAbs<2^(17*3+1):=ED (p:=3) g2 (by unfold A6;lia);have h4:=FM.C8 (FM.C8 T R) h3;show((Io (BH uss) (AY rs) (A6 uss) m).2.num).natAbs<=_;unfold Io;rw[show((m.2.num*(BH uss).fdiv (m.2.den:Int)*AY rs^(A6 uss-(Be m).toNat):Int):Rat).num=m.2.num*(BH uss).fdiv (m.2.den:Int)*AY rs^(A6 uss-(Be m).toNat) from rfl];exact bP (FM.Ce h4 (by decide))
theorem A7.xb(o:A7 t uss rs most nn):∀i,i<=(ER t).length->(∀S∈(DB t uss rs i).1,∀u k,u<nn->k<=7->(S u k).natAbs<=2^(326+371*k))/\∀u k,u<nn->k<=8->((DB t uss rs i).2 u k).natAbs<=2^(21+371*k):=fun i hi=>by
 obtain⟨U,M,T,R⟩:=o.i6;refine Ub (a:=21) (c:=250) (r:=64) T (fun u I=>?_) (fun us I=>⟨by have:=(M us I).1;lia,(M us I).2⟩) o.eO.2.2 (by decide) i hi;show((Bq rs (AY rs)).getD u 0).natAbs<=_;rw[List.getD_eq_getElem?_getD,List.getElem?_eq_getElem (show u<(Bq rs (AY rs)).length by rw[R];exact I)];exact U _ (aa _)
theorem A7.wt(o:A7 t uss rs most nn):eU (Ci (AY rs) uss) (Bq rs (AY rs)) (ER t) most nn 3200:=by
 obtain⟨h1,U,h3,h4⟩:=o.i6;obtain⟨t1,t2,t3⟩:=o.eO;have hm:=o.Mn;have R:=o.xb;have Y:∀k,k<most->371*k<=2597:=fun k Y=>by lia
 refine⟨o.n4,h3,h4,by lia,fun us I=>by have:=(U us I).1;lia,fun us I z Z=>((U us I).2 z Z).1,fun us I z Z=>GI ((U us I).2 z Z).2 (by decide),t1,by rw[t2];have:=o.tab.most;lia,fun row hr p hp=>GI ((t3 row hr).2 p hp) (by decide),fun i hi u k I M=>GI ((R i (by lia)).2 u k I (by lia)) (by have:=Y k M;lia),fun i hi ps po k M=>GI (UD (k:=k) (by lia) (fun u j I hj=>(R i (by lia)).2 u j I (by lia)) po) (by have:=Y k M;lia),fun i hi u k I M=>?_,by decide⟩;have T:(Ci (AY rs) uss).getD u []∈Ci (AY rs) uss:=by rw[List.getD_eq_getElem?_getD,List.getElem?_eq_getElem (show u<(Ci (AY rs) uss).length by lia)];exact aa _
 refine GI (XO (k:=k) (by lia) (fun u j I hj=>(R i (by lia)).2 u j I (by lia)) (by have:=(U _ T).1;lia) (U _ T).2) (by have:=Y k M;lia)
theorem A7.C6(o:A7 t uss rs most nn):1<=Jr uss (AY rs)/\(Jr uss (AY rs)).natAbs<2^300/\(CM t uss rs).natAbs<2^400/\1<=CM t uss rs:=by
 obtain⟨g1,Y,_⟩:=o.Je;obtain⟨t1,R,_⟩:=o.bot;obtain⟨b1,b2,_⟩:=EZ (by rw[o.len];exact o.n4) o.LN;obtain⟨_,Z,_⟩:=HA (uss:=uss) (c:=3) (by decide) fun us I m hm=>(o.sum us I m hm).2;have U:((AY rs)^(A6 uss-1)).natAbs<2^(17*3+1):=ED (p:=3) Y (by unfold A6;lia);have M:(Jr uss (AY rs)).natAbs<2^300:=FM.Ce (FM.C8 b2 U) (by decide);have h0:1<=(AY rs)^(A6 uss-1):=FL g1 _;have T:1<=Jr uss (AY rs):=Int.mul_pos (show 0<_ by lia) (show 0<_ by lia);exact⟨T,M,FM.Ce (FM.C8 M R) (by decide),Int.mul_pos (show 0<_ by lia) (show 0<_ by lia)⟩
end
def OM(t:Tb)(uss:List (List Ah))(rs:List Rat)(most:Nat):List (List Rat):=(List.range uss.length).map fun u=>Ad (Od ((DB t uss rs (ER t).length).2 u) (CM t uss rs) (AY rs)) (most+1)
def Uv:Sp:=fun vs H Q _=>∃(M:V) (C S:Addr) (cs ss:List V) (t:Tb) (uss:List (List Ah)) (rs:List Rat) (most nn:Nat),vs=[M,.ref C,.ref S,.int (most:Nat)]/\DU H (CF t) M/\H C=some (.lst cs)/\A3 H (uss.map BS) cs/\H S=some (.lst ss)/\A3 H (AN rs) ss/\A7 t uss rs most nn /\
 ∀D H' I,AG H H'->H D=none->H' D=some (.lst I)->A3 H' (Aq (OM t uss rs most)) I->(∀z∈I,∃a,z=.ref a/\H a=none)->Q (.ref D) H'
section
variable{P:Program}{w:World}{K:PySem.W.Frag}{mg:Str->Option Value}{base:Heap}{f g1 g2 g3 g4 g5 g6 g7 g8 g9 g10:Addr}{fd gd1 gd2 gd3 gd4 gd5 gd6 gd7 gd8 gd9 gd10:FuncData}
theorem R5:Ab ["table","change","start","most","grain","bottom","reading","rows","pace"] ["table","change","start","most"] (AO HJ):=⟨rfl,rfl,rfl,by decide +kernel,rfl,by decide +kernel,by decide +kernel⟩
theorem Sh(F:Fn K mg "step_rows" HJ ["table","change","start","most"] f fd)(Ea:Fn K mg "refuse_no_step" F3 ["table","change","start"] g1 gd1)(EA:Fn K mg "refuse_too_many" FW ["most"] g2 gd2)(II:Fn K mg "grain_of" KQ ["start"] g3 gd3)(FP:Fn K mg "table_bottom" G6 ["table"] g4 gd4)(EU:Fn K mg "rows_that_read" F0 ["table"] g5 gd5)
 (Fh:Fn K mg "tops_over" Js ["some","bottom"] g6 gd6)(Gp:Fn K mg "whole_step" Ii ["reading","change","start","most"] g7 gd7)(FQ:Fn K mg "whole_change" Gx ["change","grain"] g8 gd8)(Jj:Fn K mg "pace_of" L3 ["change","grain"] g9 gd9)(Dx:Fn K mg "row_of_fractions" FA ["row","pace","grain"] g10 gd10)
 (M8:AM P w K mg base AZ 8 g1 gd1 ["table","change","start"] SV)(MV:AM P w K mg base AZ 8 g2 gd2 ["most"] ZH)(Uy:AM P w K mg base AZ 8 g3 gd3 ["start"] Ui)(Ov:AM P w K mg base AZ 8 g4 gd4 ["table"] cn)(Mx:AM P w K mg base AZ 8 g5 gd5 ["table"] UX)
 (Mm:AM P w K mg base AZ 8 g6 gd6 ["some","bottom"] W0)(SR:AM P w K mg base AZ 8 g7 gd7 ["reading","change","start","most"] ZY)(OV:AM P w K mg base AZ 8 g8 gd8 ["change","grain"] gT)(XD:AM P w K mg base AZ 8 g9 gd9 ["change","grain"] Vw)(Lb:AM P w K mg base AZ 8 g10 gd10 ["row","pace","grain"] Zd):AM P w K mg base AZ 9 f fd ["table","change","start","most"] Uv:=by
 have sc:=R5;refine F.F.ok (k:=8) sc (fun vs H Q E h=>?_) (fun cdv A outer s H vs Q E M h=>?_)
 .obtain⟨vt,C,S,cs,ss,t,uss,rs,most,nn,rfl,_⟩:=h
  rfl
 obtain⟨vt,C,S,cs,ss,t,uss,rs,most,nn,rfl,dt,hC,dc,hS,ds,ok,q⟩:=h;have n4:=ok.n4;have hul4:uss.length<=4:=by rw[ok.len];exact n4
 have hsl4:rs.length<=4:=by rw[ok.Kp];exact n4
 obtain⟨gr1,gr2,_⟩:=ok.Je;obtain⟨tb1,tb2,_⟩:=ok.bot;obtain⟨pc1,pc2,pc3,pc4⟩:=ok.C6;obtain⟨rl1,rl2⟩:=ok.NP;have hm4:=ok.tab.most;have chg:∀H',AG H H'->LJ H' C cs uss 4:=fun H' e=>⟨e _ _ hC,dc.same e,hul4,ok.LN⟩;refine⟨_,(AD (B2 (Aa Ea M8 M rfl (AA (pv 0) (AA (pv 1) (AA (pv 2) AB)))))
 (AD (B2 (Aa EA MV M rfl (AA (pv 3) AB)))
 (AD (AX (i:=4) sc.nd rfl (Or.inr rfl) (Aa II Uy M rfl (AA (pv 2) AB)))
 (AD (AX (i:=5) sc.nd rfl (Or.inr rfl) (Aa FP Ov M rfl (AA (pv 0) AB)))
 (AD (El (i:=6) [".0","row","bottom"] 1 [none,none,some 5] sc.nd rfl rfl (BA (Aa EU Mx M rfl (AA (pv 0) AB))) (fun _ _ _ _ _=>Bd) (fun _ _ _ _ _=>(Aa Fh Mm M rfl (AA (pv 1) (AA (pv 2) AB)))))
 (AD (AX (i:=7) sc.nd rfl (Or.inl rfl) (Aa Gp SR M rfl (AA (pv 6) (AA (Aa FQ OV M rfl (AA (pv 1) (AA (pv 4) AB))) (AA (Aa Fh Mm M rfl (AA (pv 2) (AA (pv 4) AB))) (AA (pv 3) AB))))))
 (AD (AX (i:=8) sc.nd rfl (Or.inr rfl) (Af B4 (Aa Jj XD M rfl (AA (pv 1) (AA (pv 4) AB))) (pv 5)))
 (AH (Ae (CU [".0","row","pace","grain"] 1 [none,none,some 8,some 4] (BA (pv 7)) (fun _ _ _ _ _=>Bd) (fun _ _ _ _ _=>(Aa Dx Lb M rfl (AA (pv 1) (AA (pv 2) (AA (pv 3) AB))))))))))))))),?_⟩
 refine⟨_,rfl,_,rfl,_,rfl,vt,C,S,t,cs,ss,uss,rs,nn,rfl,dt,ok.tab,⟨hC,dc,hul4,ok.fit⟩,ok.good,ok.len,hS,ds,ok.Kp,n4,fun H1 e1=>?_⟩;refine⟨_,rfl,most,rfl,ok.Mn,?_⟩;refine⟨_,rfl,S,ss,rs,4,rfl,e1 _ _ hS,ds.same e1,by lia,ok.Qq,by lia,fun H2 e2=>?_⟩;have E2:=e1.trans e2;refine⟨_,rfl,vt,t,4,3,rfl,dt.same E2,ok.tab,by decide,ok.JQ,by decide,fun H3 e3=>?_⟩;have E3:=E2.trans e3;refine⟨_,rfl,vt,t,4,rfl,dt.same E3,ok.tab,by decide,fun Rr H4 zs e4 hRr U dz=>?_⟩;have E4:=E3.trans e4;have hzl:zs.length=(Ag t).length:=by rw[dz.len];unfold Aq;rw[List.length_map]
 refine⟨Rr,rfl,⟨_,AQ.of U⟩,fun D hD=>B5 (n:=zs.length) (fun i ys H'=>AG H4 H'/\ys.length=i/\AR D H' (((ER t).take i).map fun r=>.list (r.map .int)) ys) ⟨AL hD _,rfl,.nil⟩ ?_ ?_⟩
 .rintro i ys H5 hi ⟨e5,hyl,dy⟩ hD5;obtain⟨r,M⟩:∃r,(Ag t)[i]? = some r:=⟨(Ag t)[i]'(by lia),List.getElem?_eq_getElem _⟩;obtain⟨a,xs,k1,k2,k3⟩:=NJ dz M;have hrm:=aJ M;have hrl:=rl2 i _ M;have htr:(ER t)[i]? = some (Bq r (DZ t)):=by rw[List.getElem?_map,M];rfl
  have hrf:∀q∈r,FM.Fits q 3:=fun q hq=>by
   unfold Ag at hrm;rcases aT.mp hrm with h|h
   .exact ok.JQ.1 r (List.mem_of_mem_drop h) q hq
   .rw[List.mem_singleton.mp h]at hq;exact ok.JQ.2 q hq
  refine⟨⟨zs,.ref a,AQ.of (e5 _ _ U),k1⟩,CI (n:=60) (by lia) (by decide),fun x H' y=>?_⟩;obtain⟨rfl,y⟩:=y;have hx:=y zs (AQ.of (e5 _ _ U));rw[k1]at hx;cases hx;unfold CZ;refine BI ⟨_,rfl,_,rfl,a,xs,r,DZ t,3,61,rfl,e5 _ _ k2,k3.same e5,by lia,hrf,tb2,by decide,fun Z H6 e6 hZ hZ6=>?_⟩;have hD6:=e6 _ _ hD5;have nZ:Z≠D:=fun z=>by subst z;rw[hD5]at hZ;cases hZ
  refine⟨hD6,BR hi ⟨fun b o z=>?_,by simp[hyl],?_⟩⟩
  .rw[AE (AJ z hD)];exact e6 _ _ (e5 _ _ z)
  .rw[List.take_add_one,htr,List.map_append];exact .but .upd ((dy.same e6).app (.cons (.lst nZ hZ6 (RS _)) .nil))
 rintro ys H5 ⟨e5,hyl,dy⟩ hD5;rw[List.take_of_length_le (by rw[hzl,List.length_map];exact aG _)]at dy;have dy:=Ca dy;refine⟨⟨zs,AQ.of (e5 _ _ U),Nat.le_refl _⟩,?_⟩;have E5:=E4.trans e5;refine⟨_,rfl,_,rfl,_,rfl,C,cs,uss,AY rs,17,rfl,chg H5 E5,ok.sum,gr2,by decide,fun W H6 ws e6 hW hW6 dW=>?_⟩;have E6:=E5.trans e6;refine⟨_,rfl,_,rfl,S,ss,rs,AY rs,4,17,rfl,E6 _ _ hS,ds.same E6,by lia,ok.Qq,gr2,by decide,fun T H7 e7 hT hT7=>?_⟩;have E7:=E6.trans e7;refine⟨_,rfl,D,W,T,ys,ws,Ci (AY rs) uss,Bq rs (AY rs),ER t,most,nn,3200,rfl,e7 _ _ (e6 _ _ hD5),dy.same (e6.trans e7),e7 _ _ hW6,dW.same e7,hT7,ok.wt,fun R H8 e8 hR rw8=>?_⟩;have E8:=E7.trans e8;refine⟨_,rfl,_,rfl,C,cs,uss,AY rs,17,rfl,chg H8 E8,ok.sum,gr2,by decide,fun H9 e9=>?_⟩;have E9:=E8.trans e9;refine⟨_,rfl,_,_,rfl,rfl,JK pc2 tb2 (by decide),?_⟩;obtain⟨rvs,k1,k2,k3⟩:=rw8;have hk1:=e9 _ _ k1;refine⟨_,rfl,R,rfl,⟨_,AQ.of hk1⟩,fun D2 hD2=>B5 (n:=rvs.length) (fun i ys H'=>AG H9 H'/\ys.length=i/\AR D2 H' (Aq ((List.range i).map fun u=>Ad (Od ((DB t uss rs (ER t).length).2 u) (CM t uss rs) (AY rs)) (most+1))) ys/\∀z∈ys,∃a,z=.ref a/\H a=none) ⟨AL hD2 _,rfl,.nil,(fun _ z=>by cases z)⟩ ?_ ?_⟩
 .rintro i ys H10 hi ⟨I,hyl,dy,ny⟩ Y;obtain⟨a,j1,j2,j3,_⟩:=k3 i (by lia);have hst:(Ba ((Bq rs (AY rs)).getD · 0) (Ci (AY rs) uss) (ER t)).2=(DB t uss rs (ER t).length).2:=by unfold DB;rw[List.take_length]
  rw[hst]at j2;refine⟨⟨rvs,.ref a,AQ.of (I _ _ hk1),j1⟩,CI (n:=60) (by lia) (by decide),fun x H' y=>?_⟩;obtain⟨rfl,y⟩:=y;have hx:=y rvs (AQ.of (I _ _ hk1));rw[j1]at hx;cases hx;unfold CZ;refine BI ⟨_,rfl,_,rfl,_,rfl,a,(DB t uss rs (ER t).length).2 i,most+1,CM t uss rs,AY rs,400,rfl,I _ _ (e9 _ _ j2),by have:=ok.Mn;lia,by lia,by lia,FM.Ce gr2 (show 17<=400 by decide),pc3,by decide,fun Z H11 zs e11 hZ hZ11 dz=>?_⟩;have hD11:=e11 _ _ Y;have nZ:Z≠D2:=fun z=>by subst z;rw[Y]at hZ;cases hZ
  refine⟨hD11,BR hi ⟨fun b o z=>?_,by simp[hyl],?_,fun z hz=>?_⟩⟩
  .rw[AE (AJ z hD2)];exact e11 _ _ (I _ _ z)
  .rw[List.range_succ,List.map_append];unfold Aq at dy ⊢;rw[List.map_append];exact .but .upd ((dy.same e11).app (.cons (.lst nZ hZ11 (I0 hD11 dz)) .nil))
  .rcases aT.mp hz with h|h
   .exact ny z h
   .exact⟨Z,List.mem_singleton.mp h,Cq (E9.trans I) hZ⟩
 .rintro ys H10 ⟨I,hyl,dy,ny⟩ Y;rw[k2]at dy;refine⟨⟨rvs,AQ.of (I _ _ hk1),Nat.le_refl _⟩,q D2 H10 ys (E9.trans I) (Cq E9 hD2) Y ?_ ny⟩;unfold OM;rw[ok.len];exact Ca dy
end
def BQ(f g:Nat->Rat)(k:Nat):Rat:=(Ad (fun j=>f j*g (k-j)) (k+1)).sum
def KU(X:Nat->Nat->Rat):Nat->List Int->Nat->Rat
 |0,_=>fun k=>if k=0 then 1 else 0
 |n+1,ps=>BQ (KU X n (BK ps (fu ps))) (X (fu ps))
def Gy(X:Nat->Nat->Rat)(ps:List Int):Nat->Rat:=KU X ps.sum.toNat ps
def KL(X:Nat->Nat->Rat)(us:List Ah)(k:Nat):Rat:=(us.map fun m=>m.2*Gy X m.1 k).sum
theorem Nl{f g:Nat->Rat}{n:Nat}(h:∀j,j<n->f j=g j):Ad f n=Ad g n:=aW fun j I=>h j (av.mp I)
theorem RF{B:Int}(I:B≠0)(t:Int):(t:Rat)=(B:Rat)*Rat.divInt t B:=by
 have h:(B:Rat)≠0:=by simpa using I
 rw[Rat.divInt_eq_div]
 grind
theorem Gj{S:Int}{r:Rat}(h:(r.den:Int) ∣ S):((r.num*S.fdiv (r.den:Int):Int):Rat)=(S:Rat)*r:=by
 obtain⟨c,rfl⟩:=h;have hd:(r.den:Int)≠0:=by have:=r.den_nz;lia
 rw[FM.FN hd rfl,Rat.intCast_mul,Rat.intCast_mul];have e:(r.num:Rat)=((r.den:Int):Rat)*r:=by
  have:=RF hd r.num;rw[FM.D4]at this;exact this
 rw[e]
 grind
theorem Es(b:Int):∀n:Nat,((b^n:Int):Rat)=(b:Rat)^n
 |0=>by simp
 |n+1=>by rw[Int.pow_succ,Rat.intCast_mul,Es b n,Rat.pow_succ]
theorem NN:∀l:List Int,((l.sum:Int):Rat)=(l.map fun x:Int=>(x:Rat)).sum
 |[]=>by simp
 |x::l=>by rw[List.sum_cons,Rat.intCast_add,NN l,List.map_cons,List.sum_cons]
theorem Oo{α:Type}(c:Rat)(f:α->Rat):∀l:List α,(l.map fun x=>c*f x).sum=c*(l.map f).sum
 |[]=>by simp
 |x::l=>by rw[List.map_cons,List.sum_cons,Oo c f l,List.map_cons,List.sum_cons,Rat.mul_add]
theorem LQ(x:Rat)(m:Nat):∀n,x^(m+n)=x^m*x^n
 |0=>by simp
 |n+1=>by rw[<-Nat.add_assoc,Rat.pow_succ,Rat.pow_succ,LQ x m n,Rat.mul_assoc]
theorem PV{X:Nat->Nat->Int}{x:Nat->Nat->Rat}{g P:Rat}{nn k:Nat}(h:∀u j,u<nn->j<=k->((X u j:Int):Rat)=g*P^j*x u j):∀(n:Nat) (ps:List Int),Cs nn ps->ps.sum=(n:Int)->∀j,j<=k->((D5 X ps j:Int):Rat)=g^n*P^j*KU x n ps j
 |0,ps,o,I,j,M=>by
  rw[NX (by lia)];show _=g^0*P^j*(if j=0 then 1 else 0);by_cases z:j=0
  .subst z;simp
  .rw[if_neg z,if_neg z];simp
 |n+1,ps,o,I,j,M=>by
  have h0:ps.sum≠0:=by lia
  obtain⟨f1,_⟩:=HK h0;rw[NT o h0];show _=g^(n+1)*P^j*BQ (KU x n (BK ps (fu ps))) (x (fu ps)) j;unfold conv BQ Ad
  rw[NN,<-Oo];unfold Bc;rw[List.map_map]
  congr 1
  refine aW fun i hi=>?_;have hi:i<j+1:=av.mp hi;show((D5 X (BK ps (fu ps)) i*X (fu ps) (j-i):Int):Rat)=_;rw[Rat.intCast_mul,PV h n _ (o.low h0) (by rw[sum_set _ _ f1];lia) i (by lia),h (fu ps) (j-i) (by rw[<-o.len];exact f1) (by lia),Rat.pow_succ];have e:P^j=P^i*P^(j-i):=by rw[<-LQ];congr 1;lia
  rw[e]
  grind
theorem V2{X:Nat->Nat->Int}{x:Nat->Nat->Rat}{g:Int}{P:Rat}{nn k gr:Nat}{B:Int}(h:∀u j,u<nn->j<=k->((X u j:Int):Rat)=(g:Rat)*P^j*x u j){us:List Ah}(I:∀m∈us,Cs nn m.1/\Be m<=gr/\(m.2.den:Int) ∣ B) :
  ((QR X (Ec B g gr us) k:Int):Rat)=(B:Rat)*(g:Rat)^gr*P^k*KL x us k:=by
 unfold QR Ec KL;rw[NN,<-Oo,List.map_map,List.map_map]
 congr 1
 refine aW fun m hm=>?_;obtain⟨o,M,hd⟩:=I m hm;have s0:=CS o.nn;show(((Io B g gr m).2.num*D5 X (Io B g gr m).1 k:Int):Rat)=_;unfold Io;show(((m.2.num*B.fdiv (m.2.den:Int)*g^(gr-(Be m).toNat))*D5 X m.1 k:Int):Rat)=_;rw[Rat.intCast_mul,Rat.intCast_mul,Gj hd,Es,PV h m.1.sum.toNat m.1 o (by lia) k (aG _)];have e:(g:Rat)^gr=(g:Rat)^(gr-(Be m).toNat)*(g:Rat)^m.1.sum.toNat:=by
  rw[<-LQ]
  congr 1
  unfold Be at M ⊢
  lia
 rw[e];show _=_*(m.2*KU x m.1.sum.toNat m.1 k)
 grind
theorem XX{uss:List (List Ah)}{G:Int}{u:Nat}:(Ci G uss).getD u []=Ec (BH uss) G (A6 uss) (uss.getD u []):=by
 unfold Ci;rw[List.getD_eq_getElem?_getD,List.getElem?_map,List.getD_eq_getElem?_getD];cases uss[u]? <;> rfl
def Kr(row:List Rat)(ss:List (Nat->Nat->Rat))(u k:Nat):Rat:=((row.zip ss).map fun q=>q.1*q.2 u k).sum
def FJ(x0:Nat->Rat)(row:List Rat)(ss:List (Nat->Nat->Rat)):Nat->Nat->Rat:=fun u k=>match k with
 |0=>x0 u
 |k+1=>Kr row ss u k
def XC(x0:Nat->Rat):Nat->Nat->Rat:=fun u k=>match k with
 |0=>x0 u
 |_+1=>0
def Fp(uss:List (List Ah))(X:Nat->Nat->Rat):Nat->Nat->Rat:=fun u k=>KL X (uss.getD u []) k
def HQ(x0:Nat->Rat)(uss:List (List Ah)):List (List Rat)->List (Nat->Nat->Rat)×(Nat->Nat->Rat)->List (Nat->Nat->Rat)×(Nat->Nat->Rat)
 |[],z=>z
 |row::rows,z=>HQ x0 uss rows (z.1++[Fp uss z.2],FJ x0 row (z.1++[Fp uss z.2]))
def C9(x0:Nat->Rat)(uss:List (List Ah))(rows:List (List Rat)):List (Nat->Nat->Rat)×(Nat->Nat->Rat):=HQ x0 uss rows ([],XC x0)
theorem OP(x0:Nat->Rat)(uss:List (List Ah))(row:List Rat):∀(rows:List (List Rat)) (z:List (Nat->Nat->Rat)×(Nat->Nat->Rat)),HQ x0 uss (rows++[row]) z=((HQ x0 uss rows z).1++[Fp uss (HQ x0 uss rows z).2],FJ x0 row ((HQ x0 uss rows z).1++[Fp uss (HQ x0 uss rows z).2]))
 |[],z=>rfl
 |r::rows,z=>OP x0 uss row rows _
theorem HS(x0:Nat->Rat)(uss:List (List Ah))(rows:List (List Rat))(row:List Rat):C9 x0 uss (rows++[row])=((C9 x0 uss rows).1++[Fp uss (C9 x0 uss rows).2],FJ x0 row ((C9 x0 uss rows).1++[Fp uss (C9 x0 uss rows).2])):=OP x0 uss row rows _
def Iy(nn:Nat)(c:Nat->Rat):List (Nat->Nat->Int)->List (Nat->Nat->Rat)->Prop
 |[],[]=>True
 |S::I,s::ss=>(∀u k,u<nn->((S u k:Int):Rat)=c k*s u k)/\Iy nn c I ss
 |_,_=>False
theorem Iy.snoc{nn:Nat}{c:Nat->Rat}{S:Nat->Nat->Int}{s:Nat->Nat->Rat}(h:∀u k,u<nn->((S u k:Int):Rat)=c k*s u k):∀ {I:List (Nat->Nat->Int)} {ss:List (Nat->Nat->Rat)},Iy nn c I ss->Iy nn c (I++[S]) (ss++[s])
 |[],[],_=>⟨h,trivial⟩
 |_::_,_::_,k=>⟨k.1,Iy.snoc h k.2⟩
 |[],_::_,k=>k.elim
 |_::_,[],k=>k.elim
theorem N5{nn:Nat}{c:Nat->Rat}{T:Int}{u k:Nat}(U:u<nn):∀ {r:List Rat} {M:List (Nat->Nat->Int)} {ss:List (Nat->Nat->Rat)},(∀q∈r,(q.den:Int) ∣ T)->Iy nn c M ss->((Fm (Bq r T) M u k:Int):Rat)=(T:Rat)*c k*Kr r ss u k
 |[],M,ss,_,_=>by unfold Fm Kr Bq;simp
 |q::r,[],[],_,_=>by unfold Fm Kr Bq;simp
 |q::r,S::M,s::ss,h,I=>by
  have R:=N5 (k:=k) U (r:=r) (fun p Y=>h p (.tail _ Y)) I.2;unfold Fm Kr Bq at R ⊢;rw[List.map_cons,List.zip_cons_cons,List.map_cons,List.sum_cons,Rat.intCast_add,R,List.zip_cons_cons,List.map_cons,List.sum_cons,Rat.intCast_mul,Gj (h q (.head _)),I.1 u k U]
  grind
 |_::_,[],_::_,_,I=>I.elim
 |_::_,_::_,[],_,I=>I.elim
section
variable{t:Tb}{uss:List (List Ah)}{rs:List Rat}{most nn:Nat}
abbrev Az(t:Tb)(uss:List (List Ah))(rs:List Rat)(i:Nat):List (Nat->Nat->Rat)×(Nat->Nat->Rat):=C9 (rs.getD · 0) uss ((Ag t).take i)
theorem A7.rel(o:A7 t uss rs most nn):∀i,i<=(Ag t).length->Iy nn (fun k=>(BH uss:Rat)*((AY rs:Int):Rat)^A6 uss*((CM t uss rs:Int):Rat)^k) (DB t uss rs i).1 (Az t uss rs i).1/\∀u k,u<nn->(((DB t uss rs i).2 u k:Int):Rat)=((AY rs:Int):Rat)*((CM t uss rs:Int):Rat)^k*(Az t uss rs i).2 u k
 |0,_=>by
  refine⟨trivial,fun u k R=>?_⟩;obtain⟨_,_,g3⟩:=o.Je;have hl:=o.Kp;have Z:rs[u]? = some (rs[u]'(by lia)):=aI _;cases k with
  |zero=>
   show(((Bq rs (AY rs)).getD u 0:Int):Rat)=_*_^0*rs.getD u 0;unfold Bq;rw[List.getD_eq_getElem?_getD,List.getElem?_map,Z,List.getD_eq_getElem?_getD,Z];show((_*_:Int):Rat)=_*_*rs[u];rw[Gj (g3 _ (aa _))];simp
  |succ k=>
   show((0:Int):Rat)=_*_*0;simp
 |i+1,hi=>by
  obtain⟨h1,h2⟩:=o.rel i (by lia);obtain⟨g1,_,_⟩:=o.Je;obtain⟨_,_,t3⟩:=o.bot;obtain⟨b1,_,b3⟩:=EZ (by rw[o.len];exact o.n4) o.LN;obtain⟨gr1,_,Y⟩:=HA (uss:=uss) (c:=3) (by decide) fun us T m hm=>(o.sum us T m hm).2;obtain⟨row,I⟩:∃row,(Ag t)[i]? = some row:=⟨(Ag t)[i]' hi,List.getElem?_eq_getElem hi⟩;have U:(ER t)[i]? = some (Bq row (DZ t)):=by rw[List.getElem?_map,I];rfl
  have e1:DB t uss rs (i+1)=((DB t uss rs i).1++[Cg (Ci (AY rs) uss) (DB t uss rs i).2],Ko ((Bq rs (AY rs)).getD · 0) (Bq row (DZ t)) ((DB t uss rs i).1++[Cg (Ci (AY rs) uss) (DB t uss rs i).2])):=by
   unfold DB;rw[List.take_add_one,U,Option.toList_some];exact IV _ _ _ _
  have e2:Az t uss rs (i+1)=((Az t uss rs i).1++[Fp uss (Az t uss rs i).2],FJ (rs.getD · 0) row ((Az t uss rs i).1++[Fp uss (Az t uss rs i).2])):=by
   unfold Az;rw[List.take_add_one,I,Option.toList_some];exact HS _ _ _ _
  rw[e1,e2];have h3:∀u k,u<nn->((Cg (Ci (AY rs) uss) (DB t uss rs i).2 u k:Int):Rat)=(BH uss:Rat)*((AY rs:Int):Rat)^A6 uss*((CM t uss rs:Int):Rat)^k*Fp uss (Az t uss rs i).2 u k:=fun u k R=>by
   have M:uss.getD u []∈uss:=by rw[List.getD_eq_getElem?_getD,List.getElem?_eq_getElem (show u<uss.length by rw[o.len];exact R)];exact aa _
   unfold Cg;rw[XX];exact V2 (g:=AY rs) (gr:=A6 uss) (B:=BH uss) (fun u j R _=>h2 u j R) fun m hm=>⟨o.pw _ M m hm,by unfold A6;have:=Y _ M m hm;lia,b3 _ M m hm⟩
  have h4:=Iy.snoc (S:=Cg (Ci (AY rs) uss) (DB t uss rs i).2) (s:=Fp uss (Az t uss rs i).2) h3 h1;refine⟨h4,fun u k R=>?_⟩;cases k with
  |zero=>
   have h0:=(o.rel 0 (by lia)).2 u 0 R;exact h0
  |succ k=>
   show((Fm _ _ u k:Int):Rat)=_*_*Kr _ _ u k;rw[N5 R (t3 row (aJ I)) h4];generalize Kr row _ u k=z;have hP:((CM t uss rs:Int):Rat)=(BH uss:Rat)*((AY rs:Int):Rat)^(A6 uss-1)*((DZ t:Int):Rat):=by
    show((BH uss*AY rs^(A6 uss-1)*DZ t:Int):Rat)=_;rw[Rat.intCast_mul,Rat.intCast_mul,Es]
   have hG:((AY rs:Int):Rat)^A6 uss=((AY rs:Int):Rat)^(A6 uss-1)*((AY rs:Int):Rat):=by
    rw[<-Rat.pow_succ]
    congr 1
    unfold A6
    lia
   rw[hG,Rat.pow_succ];generalize ((CM t uss rs:Int):Rat)^k=Pk;generalize ((AY rs:Int):Rat)^(A6 uss-1)=G at hP;rw[hP]
   grind
theorem QL(o:A7 t uss rs most nn):OM t uss rs most=(List.range nn).map fun u=>Ad ((C9 (rs.getD · 0) uss (Ag t)).2 u) (most+1):=by
 obtain⟨g1,_,_⟩:=o.Je;obtain⟨_,_,_,Y⟩:=o.C6;unfold OM;rw[o.len];refine aW fun u M=>Nl fun j Z=>?_;have M:u<nn:=av.mp M;unfold Od;have h:=(o.rel (Ag t).length (aG _)).2 u j M;have T:Az t uss rs (Ag t).length=C9 (rs.getD · 0) uss (Ag t):=by unfold Az;rw[List.take_length]
 rw[T]at h;have U:(ER t).length=(Ag t).length:=bW _;rw[U];have R:AY rs*CM t uss rs^j≠0:=Int.mul_ne_zero (by lia) (V7 (by lia) _);have I:=RF R ((DB t uss rs (Ag t).length).2 u j);rw[h,Rat.intCast_mul (AY rs),Es]at I;have n1:((AY rs:Int):Rat)*((CM t uss rs:Int):Rat)^j≠0:=by
  rw[<-Es,<-Rat.intCast_mul];exact fun z=>R (Rat.intCast_inj.mp (z.trans Rat.intCast_zero.symm))
 generalize ((AY rs:Int):Rat)*((CM t uss rs:Int):Rat)^j=z at I n1;generalize Rat.divInt _ _=q at I ⊢;generalize (C9 (rs.getD · 0) uss (Ag t)).2 u j=p at I ⊢
 grind
end
def IA:Nat->PyData->Prop
 |0,d=>∃i,d=.int i
 |n+1,d=>(∃i,d=.int i)\/∃I,(d=.tuple I\/d=.list I)/\I.length<=60/\∀e∈I,IA n e
theorem YG{n:Nat}{ds:List PyData}(h:IA (n+1) (.list ds)):ds.length<=60/\∀e∈ds,IA n e:=by
 rcases h with ⟨i,z⟩|⟨cs,I,R,M⟩
 .cases z
 .rcases I with I|I
  .cases I
  .cases I;exact⟨R,M⟩
theorem YO{n:Nat}{ds:List PyData}(h:IA (n+1) (.tuple ds)):ds.length<=60/\∀e∈ds,IA n e:=by
 rcases h with ⟨i,z⟩|⟨cs,I,R,M⟩
 .cases z
 .rcases I with I|I
  .cases I;exact⟨R,M⟩
  .cases I
def WA(n:Nat):Sp:=fun vs H Q _=>∃d M I m,vs=[M,I]/\n=m+1/\IA m d/\DU H d M/\DU H d I/\∀H',AG H H'->Q (.bl true) H'
section
variable{P:Program}{w:World}{K:PySem.W.Frag}{mg:Str->Option Value}{base:Heap}{f:Addr}{fd:FuncData}
theorem Q0:Ab ["_law_found","_law_due"] ["_law_found","_law_due"] (AO HN):=⟨rfl,rfl,rfl,by decide +kernel,rfl,by decide +kernel,by decide +kernel⟩
theorem LW(Bl:Fn K mg "_law_same" HN ["_law_found","_law_due"] f fd)(AW:mg "isinstance" = none)(Bp:mg "list" = none)(Bj:mg "tuple" = none)(Kn:mg "int" = none)(Ip:mg "bool" = none)(A9:mg "len" = none)(Qn:mg "all" = none)(ES:mg "zip" = none) :
  ∀n,AM P w K mg base AZ n f fd ["_law_found","_law_due"] (WA n)
 |0=>⟨fun _ _ _ _ ⟨_,_,_,_,_,h,_⟩=>absurd h (Nat.succ_ne_zero _).symm,fun _ _ _ _ _ _ _ _ _ _ _ _ _ ⟨_,_,_,_,_,h,_⟩=>absurd h (Nat.succ_ne_zero _).symm⟩
 |n+1=>by
  have sc:=Q0;have CQ:=LW Bl AW Bp Bj Kn Ip A9 Qn ES n;refine Bl.F.ok (k:=n) sc (fun vs H Q E h=>?_) (fun cdv A outer s H vs Q E hr h=>?_)
  .obtain⟨d,v1,v2,m,rfl,_⟩:=h
   rfl
  obtain⟨d,v1,v2,m,rfl,hm,hn,d1,d2,q⟩:=h;have hm:n=m:=by lia
  subst hm;refine⟨_,(AD (BL (PW.pt (Dk (Bt (Ai Bn rfl AW aN (AA (pv 1) (AA (B3 (v:=.ty "list") rfl Bp ak rfl) AB)))) (DQ (Bt (Ai Bn rfl AW aN (AA (pv 1) (AA (B3 (v:=.ty "tuple") rfl Bj bE rfl) AB)))))))
  (AD (BL (PW.pt (Dk (Au Fl (Ai Bn rfl AW aN (AA (pv 0) (AA (B3 (v:=.ty "list") rfl Bp ak rfl) AB))) (Ai Bn rfl AW aN (AA (pv 1) (AA (B3 (v:=.ty "list") rfl Bp ak rfl) AB))) (Av _)) (DQ (Au Fl (Ai Bn rfl AW aN (AA (pv 0) (AA (B3 (v:=.ty "tuple") rfl Bj bE rfl) AB))) (Ai Bn rfl AW aN (AA (pv 1) (AA (B3 (v:=.ty "tuple") rfl Bj bE rfl) AB))) (Av _)))))
   (AH (Ae CL))
   Ax)
  (AD (BL (Au Fl (Ai BB rfl A9 ai (AA (pv 0) AB)) (Ai BB rfl A9 ai (AA (pv 1) AB)) (Av _))
   (AH (Ae CL))
   Ax)
  (AH (Ae (Ai (Yq rfl) rfl Qn PyProof.Rows.boot_all (AA (Lc [".0","_law_one","_law_other"] 1 2 [none,none,none] (Xa rfl ES (AA (pv 0) (AA (pv 1) AB))) (fun _ _ _ _ _=>Bd) (fun _ _ _ _ _=>(Aa Bl CQ hr rfl (AA (pv 1) (AA (pv 2) AB))))) AB))))))
  Ax)
 (AD (BL (Au WG (pv 1) XE (Av _))
  (AH (Ae (Ie WG (pv 0) XE (Av _))))
  Ax)
 (AH (Ae (JE (Ai Bn rfl AW aN (AA (pv 0) (AA (B3 (v:=.ty "int") rfl Kn PyProof.Rows.boot_int rfl) AB))) (JE (WN (Ai Bn rfl AW aN (AA (pv 0) (AA (B3 (v:=.ty "bool") rfl Ip PyProof.Rows.boot_bool rfl) AB)))) (LU (Ie GO (pv 0) (pv 1) (Av _))))))))),?_⟩
  have kind:(∃i,d=.int i)\/(∃Y,d=.list Y)\/∃Y,d=.tuple Y:=by
   cases n with
   |zero=>exact .inl hn
   |succ n=>
    rcases hn with h|⟨Y,h|h,_⟩
    .exact .inl h
    .exact .inr (.inr ⟨Y,h⟩)
    .exact .inr (.inl ⟨Y,h⟩)
  rcases kind with ⟨i,rfl⟩|⟨Y,rfl⟩|⟨Y,rfl⟩
  .obtain⟨N1,M⟩:=d1;obtain⟨N2,I⟩:=d2
   replace M:=M N1 (aG _)
   replace I:=I N2 (aG _)
   have U:=M;have e2:=I;rw[Dt]at U e2;subst U e2;refine⟨_,rfl,_,_,_,_,rfl,Ee,I.ty,DV K _ I.nodict,_,rfl,C4 ⟨_,rfl,_,_,_,_,rfl,Ee,I.ty,Dy K _ I.nodict,_,rfl,C4 ?_⟩⟩;refine⟨_,rfl,rfl,_,rfl,C4 ?_⟩;refine⟨_,rfl,_,_,_,_,rfl,Ee,M.ty,SH K _ M.nodict,_,rfl,BI ⟨_,rfl,_,_,_,_,rfl,Ee,M.ty,QB K _ M.nodict,_,rfl,_,rfl,BI ⟨_,rfl,_,rfl,rfl,?_⟩⟩⟩;have:=q H (.refl H);have ed:decide (V.int i=V.int i)=true:=bT rfl;rw[<-ed]at this;exact this
  .
   obtain⟨m',rfl⟩:∃m',n=m'+1:=by
    cases n with
    |zero=>obtain⟨_,z⟩:=hn;cases z
    |succ m'=>exact⟨m',rfl⟩
   obtain⟨hlen60,hall⟩:=YG hn;obtain⟨N1,M⟩:=d1;obtain⟨N2,I⟩:=d2;have d1:DU H (.list Y) v1:=⟨N1,M⟩;have d2:DU H (.list Y) v2:=⟨N2,I⟩
   replace M:=M N1 (aG _)
   replace I:=I N2 (aG _)
   refine⟨_,rfl,_,_,_,_,rfl,Ee,I.ty,DV K _ I.nodict,_,rfl,BI (BI ?_)⟩;refine⟨_,rfl,_,_,_,_,rfl,Ee,M.ty,DV K _ M.nodict,_,rfl,_,_,_,_,rfl,Ee,I.ty,DV K _ I.nodict,rfl,_,rfl,C4 ⟨_,rfl,_,_,_,_,rfl,Ee,M.ty,Dy K _ M.nodict,_,rfl,_,_,_,_,rfl,Ee,I.ty,Dy K _ I.nodict,rfl,_,rfl,C4 ?_⟩⟩;obtain⟨a1,xs,rfl,T,k1⟩:=d1.K4;obtain⟨a2,ys,rfl,R,k2⟩:=d2.K4;have l1:=k1.len;have l2:=k2.len;refine⟨_,rfl,a1,xs,rfl,.inl (AQ.of T),_,rfl,a2,ys,rfl,.inl (AQ.of R),rfl,_,rfl,?_⟩;have el:(!decide (V.int (xs.length:Nat)=V.int (ys.length:Nat)))=false:=by rw[l1,l2];simp
   rw[el];refine C4 ⟨_,rfl,_,rfl,false,false,a1,a2,rfl,⟨_,T⟩,⟨_,R⟩,fun D hD=>Gw (n:=xs.length) (fun i zs H'=>AG H H'/\zs=(List.replicate i true).map V.bl) ?_ ?_ ?_⟩
   .exact⟨AL hD _,rfl⟩
   .rintro i zs H1 hi ⟨U,rfl⟩ Z;have e1a:=U _ _ T;have e1b:=U _ _ R;have hx:=aI hi;have hy:=aI (l:=ys) (i:=i) (by lia);refine⟨⟨_,_,_,_,e1a,e1b,hx,hy⟩,Nat.lt_of_lt_of_le (show((List.replicate i true).map V.bl).length<60 by rw[List.length_map,List.length_replicate];lia) (by rw[sizeLine_eq];decide),fun v H' y=>?_⟩;obtain⟨p,x,z,rfl,np,rfl,q1,q2⟩:=y;have hx':=q1 _ e1a;have hy':=q2 _ e1b;rw[hx]at hx';rw[hy]at hy';cases hx';cases hy';obtain⟨e,he⟩:∃e,Y[i]? = some e:=⟨Y[i]'(by lia),by simp[show i<Y.length by lia]⟩;obtain⟨u1,w1,w2⟩:=k1.get he;obtain⟨u2,w3,w4⟩:=k2.get he;rw[hx]at w1;rw[hy]at w3;cases w1;cases w3;have sp:=AL np (.tup [xs[i],ys[i]'(by lia)]);refine⟨p,_,_,rfl,Ao.of AF,?_⟩;have E:=U.trans sp;unfold CZ;refine BI ⟨_,rfl,_,rfl,e,_,_,m',rfl,rfl,hall e (aJ he),w2.same E,w4.same E,fun H2 e2=>⟨e2 _ _ (sp _ _ Z),BR hi ⟨fun c o zz=>?_,?_⟩⟩⟩
    .rw[AE (AJ zz hD)];exact e2 _ _ (E _ _ zz)
    .rw[List.replicate_succ',List.map_append];rfl
   .rintro zs H1 ⟨U,rfl⟩ Z;refine⟨⟨_,_,U _ _ T,U _ _ R,.inl rfl⟩,D,_,rfl,AQ.of Z,?_⟩;have:=q H1 U;have ea:(List.replicate xs.length true).all id=true:=by simp
    rw[<-ea]at this;exact this
  .
   obtain⟨m',rfl⟩:∃m',n=m'+1:=by
    cases n with
    |zero=>obtain⟨_,z⟩:=hn;cases z
    |succ m'=>exact⟨m',rfl⟩
   obtain⟨hlen60,hall⟩:=YO hn;obtain⟨N1,M⟩:=d1;obtain⟨N2,I⟩:=d2;have d1:DU H (.tuple Y) v1:=⟨N1,M⟩;have d2:DU H (.tuple Y) v2:=⟨N2,I⟩
   replace M:=M N1 (aG _)
   replace I:=I N2 (aG _)
   refine⟨_,rfl,_,_,_,_,rfl,Ee,I.ty,DV K _ I.nodict,_,rfl,C4 ⟨_,rfl,_,_,_,_,rfl,Ee,I.ty,Dy K _ I.nodict,_,rfl,BI ?_⟩⟩;refine⟨_,rfl,_,_,_,_,rfl,Ee,M.ty,DV K _ M.nodict,_,rfl,_,_,_,_,rfl,Ee,I.ty,DV K _ I.nodict,rfl,_,rfl,C4 ⟨_,rfl,_,_,_,_,rfl,Ee,M.ty,Dy K _ M.nodict,_,rfl,_,_,_,_,rfl,Ee,I.ty,Dy K _ I.nodict,rfl,_,rfl,C4 ?_⟩⟩;obtain⟨a1,xs,rfl,T,k1⟩:=d1.WI;obtain⟨a2,ys,rfl,R,k2⟩:=d2.WI;have l1:=k1.len;have l2:=k2.len;refine⟨_,rfl,a1,xs,rfl,.inr (Ao.of T),_,rfl,a2,ys,rfl,.inr (Ao.of R),rfl,_,rfl,?_⟩;have el:(!decide (V.int (xs.length:Nat)=V.int (ys.length:Nat)))=false:=by rw[l1,l2];simp
   rw[el];refine C4 ⟨_,rfl,_,rfl,true,true,a1,a2,rfl,⟨_,T⟩,⟨_,R⟩,fun D hD=>Gw (n:=xs.length) (fun i zs H'=>AG H H'/\zs=(List.replicate i true).map V.bl) ?_ ?_ ?_⟩
   .exact⟨AL hD _,rfl⟩
   .rintro i zs H1 hi ⟨U,rfl⟩ Z;have e1a:=U _ _ T;have e1b:=U _ _ R;have hx:=aI hi;have hy:=aI (l:=ys) (i:=i) (by lia);refine⟨⟨_,_,_,_,e1a,e1b,hx,hy⟩,Nat.lt_of_lt_of_le (show((List.replicate i true).map V.bl).length<60 by rw[List.length_map,List.length_replicate];lia) (by rw[sizeLine_eq];decide),fun v H' y=>?_⟩;obtain⟨p,x,z,rfl,np,rfl,q1,q2⟩:=y;have hx':=q1 _ e1a;have hy':=q2 _ e1b;rw[hx]at hx';rw[hy]at hy';cases hx';cases hy';obtain⟨e,he⟩:∃e,Y[i]? = some e:=⟨Y[i]'(by lia),by simp[show i<Y.length by lia]⟩;obtain⟨u1,w1,w2⟩:=k1.get he;obtain⟨u2,w3,w4⟩:=k2.get he;rw[hx]at w1;rw[hy]at w3;cases w1;cases w3;have sp:=AL np (.tup [xs[i],ys[i]'(by lia)]);refine⟨p,_,_,rfl,Ao.of AF,?_⟩;have E:=U.trans sp;unfold CZ;refine BI ⟨_,rfl,_,rfl,e,_,_,m',rfl,rfl,hall e (aJ he),w2.same E,w4.same E,fun H2 e2=>⟨e2 _ _ (sp _ _ Z),BR hi ⟨fun c o zz=>?_,?_⟩⟩⟩
    .rw[AE (AJ zz hD)];exact e2 _ _ (E _ _ zz)
    .rw[List.replicate_succ',List.map_append];rfl
   .rintro zs H1 ⟨U,rfl⟩ Z;refine⟨⟨_,_,U _ _ T,U _ _ R,.inl rfl⟩,D,_,rfl,AQ.of Z,?_⟩;have:=q H1 U;have ea:(List.replicate xs.length true).all id=true:=by simp
    rw[<-ea]at this;exact this
end
def O0(many:Nat)(t:IT.Tm):Prop:=(t.1.length=many/\t.1.sum<=3)/\(∀p∈t.1,(0:Int)<=p/\p<=3)/\∃r:Rat,t.2=[r.num,(r.den:Int)]/\r≠0/\r.num.natAbs<=6/\r.den<=6
def Mp(t:IT.Tm):PyData:=.tuple [.tuple (t.1.map .int),.tuple (t.2.map .int)]
def Hj(many:Nat)(us:List IT.Tm):Prop:=us.length<=12/\(∀t∈us,O0 many t)/\us.Pairwise (fun x y=>IT.lt y.1 x.1=true)
theorem X1{κ:Type}[DecidableEq κ]{kvs:List (κ×V)}{k:κ}{v:V}{x:κ×V}(h:x∈putK kvs k v):x∈kvs\/x=(k,v):=by
 unfold putK at h;split at h
 .obtain⟨y,I,e⟩:=aL.mp h;split at e
  .rename_i z
   right;rw[<-e,<-z]
  .left;rw[<-e];exact I
 .rcases aT.mp h with h|h
  .exact .inl h
  .exact .inr (List.mem_singleton.mp h)
theorem Va{κ:Type}[DecidableEq κ]{kvs:List (κ×V)}{k:κ}(v:V)(h:(kvs.map (·.1)).Nodup):((putK kvs k v).map (·.1)).Nodup:=by
 cases e:CN kvs k with
 |none=>exact Zu v h e
 |some y=>
  unfold putK;rw[HE,e,if_pos (show(some y).isSome=true from rfl),List.map_map];have:(kvs.map ((fun x:κ×V=>x.1) ∘ fun kv=>if kv.1=k then(kv.1,v) else kv))=kvs.map (·.1):=by
   apply aW;intro x _;simp only[Function.comp];split<;>rfl
  rw[this];exact h
def Hy(many:Nat)(H:Hp)(kv:List Key×V):Prop:=∃t:IT.Tm,kv.1=t.1.map Sum.inl/\(∃c,kv.2=.ref c/\H c=some (.tup (t.2.map V.int)))/\O0 many t
theorem Hy.step{many:Nat}{H H':Hp}{kv:List Key×V}(e:∀c ys,H c=some (.tup ys)->H' c=some (.tup ys))(h:Hy many H kv):Hy many H' kv:=by
 obtain⟨t,T,⟨c,R,M⟩,I⟩:=h;exact⟨t,T,⟨c,R,e _ _ M⟩,I⟩
theorem PY{many:Nat}{H:Hp}:∀ {kvs:List (List Key×V)},(∀kv∈kvs,Hy many H kv)->∃ts:List IT.Tm,ts.length=kvs.length/\(∀t∈ts,O0 many t)/\kvs.map (·.1)=ts.map (fun t=>t.1.map Sum.inl) /\
  ∀(j:Nat) k v t,kvs[j]? = some (k,v)->ts[j]? = some t->k=t.1.map Sum.inl/\∃c,v=.ref c/\H c=some (.tup (t.2.map V.int))
 |[],_=>⟨[],rfl,fun _ z=>(bO z).elim,rfl,fun j k v t h=>by simp at h⟩
 |kv::kvs,h=>by
  obtain⟨ts,h1,h2,h3,h4⟩:=PY (kvs:=kvs) fun x I=>h x (aV _ I);obtain⟨t,T,Z,Y⟩:=h kv ag;refine⟨t::ts,by simp[h1],fun x I=>?_,by rw[List.map_cons,List.map_cons,h3,T],fun j k v U R M=>?_⟩
  .rcases aS.mp I with rfl|I
   .exact Y
   .exact h2 x I
  .cases j with
   |zero=>
    simp at R M;subst R M;exact⟨T,Z⟩
   |succ j=>exact h4 j k v U (by simpa using R) (by simpa using M)
theorem Qh{us ts:List IT.Tm}(U:us.Perm ts)(hn:(ts.map fun t=>t.1.map (Sum.inl:Int->Key)).Nodup)(T:us.Pairwise (fun x y=>IT.JT.kle y x)):us.Pairwise (fun x y=>IT.lt y.1 x.1=true):=by
 have M:(us.map fun t=>t.1.map (Sum.inl:Int->Key)).Nodup:=(U.map _).nodup_iff.mpr hn;rw[List.Nodup,List.pairwise_map]at M;refine(T.and M).imp fun {x y} h=>?_;obtain⟨h1,Z⟩:=h;have I:x.1≠y.1:=fun z=>Z (by rw[z]);have R:IT.GD x y=false:=h1;unfold IT.GD at R;rw[if_neg I]at R;cases Y:IT.lt y.1 x.1 with
 |true=>rfl
 |false=>exact absurd (IT.Kt _ _ R Y) I
theorem PR{c:Addr}{H:Hp}:∀(ps:List Int),AR c H (ps.map .int) (ps.map V.int)
 |[]=>.nil
 |p::ps=>.cons .int (PR ps)
theorem RB{c:Addr}{zc:List V}{H1 H':Hp}(e:AG H1 H')(M:H1 c=some (.lst zc)):∀ {us:List IT.Tm} {zs:List V},zs.length=us.length ->
  (∀(j:Nat) z t,zs[j]? = some z->us[j]? = some t->∃p b d,z=.ref p/\H1 p=none/\H' p=some (.tup [.ref b,.ref d])/\H1 b=some (.tup (t.1.map V.int))/\H1 d=some (.tup (t.2.map V.int)))->AR c H' (us.map Mp) zs
 |[],[],_,_=>.nil
 |[],_::_,h,_=>by simp at h
 |_::_,[],h,_=>by simp at h
 |t::us,z::zs,hl,h=>by
  obtain⟨p,b,d,rfl,Z,h2,Y,U⟩:=h 0 z t rfl rfl;have R:∀ {x:Addr} {ys:List V},H1 x=some (.tup ys)->x≠c:=fun T I=>by rw[I,M]at T;cases T
  exact .cons (.tup (fun I=>by rw[I,M]at Z;cases Z) h2 (.cons (.tup (R Y) (e _ _ Y) (PR _)) (.cons (.tup (R U) (e _ _ U) (PR _)) .nil)))
   (RB e M (by simpa using hl) fun j z' t' hz ht=>h (j+1) z' t' (by simpa using hz) (by simpa using ht))
def XH:Sp:=fun vs H Q _=>∃(l:Addr) (x:Int) (many mo:Nat),vs=[.ref l,.int many,.int mo]/\mo<=3/\H l=some (.lst [.int x])/\1<=many/\many<=4 /\
 ∀v H' us,SameBut l H H'->Hj many us->(∀c I,H c=some (.lst I)->Dt c H' (.list (us.map Mp)) v)->Q v H'
theorem cI{ps:List Int}{r:Int}(h0:0<=r)(h1:r<=(ps.length:Nat)):B6 (ps.map V.int) (some r) none++B6 (ps.map V.int) none (some r)=(ps.drop r.toNat++ps.take r.toNat).map V.int:=by
 have e:(some r)=some ((r.toNat:Nat):Int):=by rw[show((r.toNat:Nat):Int)=r by lia]
 unfold B6;rw[e,HT.Ki,HT.Ki,HT.Ib,HT.Ib,List.length_map,Nat.min_eq_left (by lia),List.drop_zero,Nat.sub_zero,List.map_append,List.map_drop,List.map_take]
 congr 1
 rw[List.take_of_length_le (by rw[List.length_drop,List.length_map];lia)]
section
variable{P:Program}{w:World}{K:PySem.W.Frag}{mg:Str->Option Value}{base:Heap}{f g g1 g2 g4 g5:Addr}{fd gd gd1 gd2:FuncData}
theorem Sf:Ab ["_law_pile","_law_many","_law_most","_law_counts","_law_count","_law_k","_law_powers","_law_left","_law_j","_law_turn","_law_part_here"] ["_law_pile","_law_many","_law_most"] (AO J2):=⟨rfl,rfl,rfl,by decide +kernel,rfl,by decide +kernel,by decide +kernel⟩
structure G7(H:Hp)(l C:Addr)(kvs:List (List Key×V))(many n:Nat)(H':Hp):Prop where
 tr:SameBut l H H'
 GX:∃y,H' l=some (.lst [.int y])
 Ji:H' C=some (.dT kvs)
 len:kvs.length<=n
 nd:(kvs.map (·.1)).Nodup
 ok:∀kv∈kvs,Hy many H' kv
theorem G7.same{H:Hp}{l C:Addr}{kvs:List (List Key×V)}{many n:Nat}{H1 I:Hp}(g:G7 H l C kvs many n H1)(e:AG H1 I):G7 H l C kvs many n I :=
 ⟨g.tr.trans (.of e),let⟨y,h⟩:=g.GX;⟨y,e _ _ h⟩,e _ _ g.Ji,g.len,g.nd,fun kv h=>(g.ok kv h).step fun c ys=>e c _⟩
theorem G7.take{H:Hp}{l C:Addr}{kvs:List (List Key×V)}{many n:Nat}{H1:Hp}(g:G7 H l C kvs many n H1)(M:C≠l)(y:Int):G7 H l C kvs many n (upd H1 l (.lst [.int y])) :=
 let⟨_,R⟩:=g.GX
 ⟨g.tr.trans .upd,⟨y,AF⟩,by rw[AE M];exact g.Ji,g.len,g.nd,fun kv h=>(g.ok kv h).step fun c ys I=>by rw[AE (fun z=>by rw[z,R]at I;cases I)];exact I⟩
theorem G7.list{H:Hp}{l C p:Addr}{kvs:List (List Key×V)}{many n:Nat}{H1:Hp}{ys zs:List V}(g:G7 H l C kvs many n H1)(T:H p=none)(np:p≠l)(M:p≠C)(h:H1 p=some (.lst ys)):G7 H l C kvs many n (upd H1 p (.lst zs)) :=
 ⟨fun b o nb z=>by rw[AE (AJ z T)];exact g.tr _ _ nb z,let⟨y,R⟩:=g.GX;⟨y,by rw[AE np.symm];exact R⟩,by rw[AE M.symm];exact g.Ji,g.len,g.nd,fun kv U=>(g.ok kv U).step fun c Y I=>by rw[AE (fun z=>by rw[z,h]at I;cases I)];exact I⟩
theorem S6(F:Fn K mg "_law_poly" J2 ["_law_pile","_law_many","_law_most"] f fd)(B9:Fn K mg "_law_take" HV ["_law_pile","_law_size"] g1 gd1)(CA:Fn K mg "_law_part" Ff ["_law_pile"] g2 gd2)
 (D3:AM P w K mg base AZ 3 g1 gd1 ["_law_pile","_law_size"] Sx)(Ei:AM P w K mg base AZ 3 g2 gd2 ["_law_pile"] ML)(Ar:mg "range" = none)(G9:mg "sorted" = none)(Bj:mg "tuple" = none):AM P w K mg base AZ 4 f fd ["_law_pile","_law_many","_law_most"] XH:=by
 have sc:=Sf;refine F.F.ok (k:=3) sc (fun vs H Q E h=>?_) (fun cdv A outer s H vs Q E hr h=>?_)
 .obtain⟨l,x,many,mo,rfl,_⟩:=h
  rfl
 obtain⟨l,x,many,mo,rfl,hmo,hl,hm1,hm4,q⟩:=h;refine⟨_,(AD (AX (i:=3) sc.nd rfl (Or.inl rfl) NS)
 (AD (AX (i:=4) sc.nd rfl (Or.inl rfl) (Aa B9 D3 hr rfl (AA (pv 0) (AA AI AB))))
 (AD (BL (Au GO (pv 4) AI (Av _))
  (AH (AX (i:=4) sc.nd rfl (Or.inl rfl) (Af CK (pv 4) (Aa B9 D3 hr rfl (AA (pv 0) (AA AI AB))))))
  Ax)
 (AD (Bg aK rfl (Cf rfl Ar (AA (pv 4) AB)) (Am (i:=5) sc.nd rfl (Or.inl rfl))
  (AD (AX (i:=6) sc.nd rfl (Or.inl rfl) (B8 AB))
  (AD (AX (i:=7) sc.nd rfl (Or.inl rfl) (pv 2))
  (AD (Bg aK rfl (Cf rfl Ar (AA (pv 1) AB)) (Am (i:=8) sc.nd rfl (Or.inl rfl))
   (AD (B2 (GW ab ay az DJ (pv 6) (AA (Aa B9 D3 hr rfl (AA (pv 0) (AA (Af CK (pv 7) AI) AB))) AB)))
   (AH (AX (i:=7) sc.nd rfl (Or.inl rfl) (Af FZ (pv 7) (A0 EB (pv 6) (Vc Ru AI) (fun _ _=>rfl)))))))
  (AD (AX (i:=9) sc.nd rfl (Or.inl rfl) (Aa B9 D3 hr rfl (AA (pv 0) (AA (pv 1) AB))))
  (AD (AX (i:=10) sc.nd rfl (Or.inl rfl) (Aa CA Ei hr rfl (AA (pv 0) AB)))
  (AH (BL (Au (Rg (by have:=hr.units;exact this)) (pv 10) (Gf (AA AI (AA AI AB))) (Av _))
   (AH (PD (by have:=hr.units;exact aQ (bX (show 1<=64 by decide) _) this) (pv 3) (Hh Qg rfl Bj bE (AA (Af Lk (Gz MG (pv 6) (Ig (pv 9)) Ih) (Gz MG (pv 6) Ih (Ig (pv 9)))) AB)) (pv 10) rfl))
   Ax))))))))
 (AH (Ae (X6 rfl (by have:=hr.units;exact this) rfl G9 (pv 3)))))))),?_⟩
 refine fun C hC=>?_;have nC:C≠l:=(AJ hl hC).symm;have U:G7 H l C [] many 0 (upd H C (.dT [])):=⟨.of (AL hC _),⟨x,AL hC _ _ _ hl⟩,AF,Nat.le_refl _,List.nodup_nil,fun _ z=>(bO z).elim⟩;generalize upd H C (.dT [])=H1 at U;obtain⟨x1,hl1⟩:=U.GX;refine⟨_,rfl,l,x1,5,rfl,hl1,by decide,by decide,fun cnt y0 c0 c1=>?_⟩;have U:=U.take nC y0;generalize upd H1 l (.lst [.int y0])=H2 at U
 try dsimp only[C1]
 refine F7 (fun σ' H'=>∃n:Nat,n<=12/\σ'=[some (.ref l),some (.int many),some (.int mo),some (.ref C),some (.int n),none,none,none,none,none,none]/\G7 H l C [] many 0 H') (fun nx hnx=>?_) ?_
 .refine⟨_,rfl,rfl,_,rfl,BP (fun c=>?_) (fun c=>?_)⟩
  .obtain⟨x2,hl2⟩:=U.GX;have e4:cnt=4:=by simpa using c
   refine⟨_,rfl,_,rfl,l,x2,9,rfl,hl2,by decide,by decide,fun r y1 r0 r1=>⟨_,_,rfl,rfl,hnx _ _ ⟨(cnt+r).toNat,by lia,?_,U.take nC y1⟩⟩⟩;show [some (V.ref l),some (V.int many),some (V.int mo),some (V.ref C),some (V.int (cnt+r)),none,none,none,none,none,none]=_;rw[show(((cnt+r).toNat:Nat):Int)=cnt+r by lia]
  .refine hnx _ _ ⟨cnt.toNat,by lia,?_,U⟩;show [some (V.ref l),some (V.int many),some (V.int mo),some (V.ref C),some (V.int cnt),none,none,none,none,none,none]=_;rw[show((cnt.toNat:Nat):Int)=cnt by lia]
 rintro σ' H3 ⟨n,hn,rfl,U⟩;refine⟨_,rfl,(n:Int),rfl,by lia,by lia,Hm (n:=(n:Int).toNat) (fun i σ H'=>∃(r5 r6 r7 r8 r9 Y:Option V) (kvs:List (List Key×V)),σ=[some (.ref l),some (.int many),some (.int mo),some (.ref C),some (.int n),r5,r6,r7,r8,r9,Y]/\G7 H l C kvs many i H') ?_ ?_ ?_⟩
 .exact⟨_,_,_,_,_,_,[],rfl,U⟩
 .rintro i σ H4 hi ⟨r5,r6,r7,r8,r9,Y,kvs,rfl,g4⟩;refine⟨BU (by decide),fun p T=>?_⟩;have hpn:H p=none:=by
   cases z:H p with
   |none=>rfl
   |some o=>
    have np:p≠l:=fun zz=>by
     obtain⟨y,hy⟩:=g4.GX;rw[zz,hy]at T;cases T
    rw[g4.tr _ _ np z]at T;cases T
  have np:p≠l:=let⟨y,hy⟩:=g4.GX;(AJ hy T).symm;have npC:p≠C:=(AJ g4.Ji T).symm;have g5:=g4.same (AL T (.lst []));have h5:upd H4 p (.lst []) p=some (.lst []):=AF;generalize upd H4 p (.lst [])=H5 at g5 h5;refine⟨_,rfl,?_⟩;refine⟨_,rfl,(many:Int),rfl,by lia,by lia,Hm (n:=(many:Int).toNat) (fun j σ H'=>∃(r8:Option V) (left:Int) (ps:List Int),σ=[some (.ref l),some (.int many),some (.int mo),some (.ref C),some (.int n),some (.int (0+(i:Nat))),some (.ref p),some (.int left),r8,r9,Y]/\G7 H l C kvs many i H'/\H' p=some (.lst (ps.map V.int))/\ps.length=j/\(∀z∈ps,(0:Int)<=z/\z<=3)/\0<=left/\left<=3/\ps.sum+left=mo) ?_ ?_ ?_⟩
  .exact⟨_,(mo:Int),[],rfl,g5,h5,rfl,fun _ z=>(bO z).elim,by lia,by lia,by simp⟩
  .rintro j σ H6 hj ⟨r8,left,ps,rfl,g6,h6,hpl,Z,l0,l3,lsum⟩;obtain⟨x6,hl6⟩:=g6.GX;refine⟨_,rfl,.inl ⟨rfl,_,AQ.of h6⟩,_,rfl,_,rfl,_,_,rfl,rfl,l,x6,left+1,rfl,hl6,by lia,by lia,fun r y r0 r1=>?_⟩;have g7:=g6.take nC y;have h7:upd H6 l (.lst [.int y]) p=some (.lst (ps.map V.int)):=by rw[AE np];exact h6
   generalize upd H6 l (.lst [.int y])=H7 at g7 h7;refine⟨p,_,_,rfl,rfl,h7,CI (n:=60) (by rw[List.length_map];lia) (by decide),?_⟩;have g8:=g7.list hpn np npC h7 (zs:=ps.map V.int++[.int r]);have h8:upd H7 p (.lst (ps.map V.int++[.int r])) p=some (.lst ((ps++[r]).map V.int)):=by rw[AF,List.map_append];rfl
   generalize upd H7 p (.lst (ps.map V.int++[.int r]))=H8 at g8 h8;have hat:DN ((ps++[r]).map V.int) (-1)=some (.int r):=by
    unfold DN K3;rw[if_neg (by decide),if_pos (by rw[List.length_map,List.length_append,List.length_singleton];lia)];rw[List.length_map,List.length_append,List.length_singleton,show((-1:Int)+((ps.length+1:Nat):Int)).toNat=ps.length by lia];simp
   refine⟨_,rfl,_,rfl,_,rfl,_,_,_,_,rfl,rfl,AQ.of h8,hat,_,_,rfl,rfl,_,left-r,ps++[r],rfl,g8,h8,by simp[hpl],fun z I=>?_,by lia,by lia,by rw[List.sum_append,List.sum_singleton];lia⟩;rcases aT.mp I with I|I
   .exact Z z I
   .rw[List.mem_singleton.mp I];exact⟨r0,by lia⟩
  .rintro σ H6 ⟨r8,left,ps,rfl,g6,h6,hpl,Z,l0,l3,lsum⟩;obtain⟨x6,hl6⟩:=g6.GX;refine⟨_,rfl,_,rfl,l,x6,(many:Int),rfl,hl6,by lia,by lia,fun turn y t0 t1=>?_⟩;have g7:=g6.take nC y;have h7:upd H6 l (.lst [.int y]) p=some (.lst (ps.map V.int)):=by rw[AE np];exact h6
   generalize upd H6 l (.lst [.int y])=H7 at g7 h7;obtain⟨x7,hl7⟩:=g7.GX;refine⟨_,rfl,l,x7,rfl,hl7,fun c fr y8 H8 e8 hc r6 d6=>?_⟩;have g8:=(g7.take nC y8).same e8;have h8:H8 p=some (.lst (ps.map V.int)):=e8 _ _ (by rw[AE np];exact h7);obtain⟨ta,R⟩:∃ta,ta=fr.num:=⟨_,rfl⟩;obtain⟨tb,M⟩:∃tb,tb=(fr.den:Int):=⟨_,rfl⟩
   replace hc:H8 c=some (.tup [.int ta,.int tb]):=by rw[R,M];exact hc
   refine⟨_,rfl,BU (show 2<=60 by decide),fun q0 hq=>?_⟩;have e9:=AL hq (.tup [.int 0,.int 1]);have hq9:upd H8 q0 (.tup [.int 0,.int 1]) q0=some (.tup [.int 0,.int 1]):=AF;generalize upd H8 q0 (.tup [.int 0,.int 1])=H9 at e9 hq9;have g9:=g8.same e9;have h9:=e9 _ _ h8;have hc9:=e9 _ _ hc;have sh:∀a b:Int,SeqAt.shaped (.tuple [.int a,.int b])=true:=fun a b=>(Sm.tup (n:=0) (ds:=[.int a,.int b]) (show 2<=60 by decide) (fun x hx=>by
    rcases aS.mp hx with rfl|hx
    .trivial
    .rw[List.mem_singleton.mp hx];trivial)).ok.shaped (by decide)
   obtain⟨x9,hl9⟩:=g9.GX;have ntl:∀ {b:Addr} {ys:List V},H9 b=some (.tup ys)->b≠l:=fun hb z=>by rw[z,hl9]at hb;cases hb
   refine⟨.tuple [.int ta,.int tb],.tuple [.int 0,.int 1],(Dt.tup (ntl hc9) hc9 (.cons .int (.cons .int .nil))).br,(Dt.tup (ntl hq9) hq9 (.cons .int (.cons .int .nil))).br,sh _ _,sh _ _,_,rfl,BP (fun b=>?_) (fun b=>?_)⟩
   .have hfr0:fr≠0:=fun z=>by
     have e1:ta=0:=by rw[R,z];rfl
     have e2:tb=1:=by rw[M,z];rfl
     subst e1 e2;exact absurd b (by simp[PyData.eqv,PyData.eqvAll])
    refine⟨_,rfl,_,rfl,_,rfl,_,rfl,_,rfl,p,_,rfl,AQ.of h9,fun p1 hp1=>?_⟩;have ea:=AL hp1 (.lst (B6 (ps.map V.int) (some turn) none));have ha1:upd H9 p1 (.lst (B6 (ps.map V.int) (some turn) none)) p1=some (.lst (B6 (ps.map V.int) (some turn) none)):=AF;generalize upd H9 p1 (.lst (B6 (ps.map V.int) (some turn) none))=Ha at ea ha1;refine⟨_,rfl,_,rfl,_,rfl,p,_,rfl,AQ.of (ea _ _ h9),fun p2 hp2=>?_⟩;have eb:=AL hp2 (.lst (B6 (ps.map V.int) none (some turn)));have hb2:upd Ha p2 (.lst (B6 (ps.map V.int) none (some turn))) p2=some (.lst (B6 (ps.map V.int) none (some turn))):=AF;generalize upd Ha p2 (.lst (B6 (ps.map V.int) none (some turn)))=Hb at eb hb2;refine⟨p1,p2,_,_,rfl,rfl,eb _ _ ha1,hb2,?_,fun p3 hp3=>?_⟩
    .have z1:=Ej (ps.map V.int) (some turn) none;have z2:=Ej (ps.map V.int) none (some turn);rw[List.length_map]at z1 z2;exact BU (by lia)
    rw[cI t0 (by lia)]at *;have ec:=AL hp3 (.lst ((ps.drop turn.toNat++ps.take turn.toNat).map V.int));have hc3:upd Hb p3 (.lst ((ps.drop turn.toNat++ps.take turn.toNat).map V.int)) p3=some (.lst ((ps.drop turn.toNat++ps.take turn.toNat).map V.int)):=AF;generalize upd Hb p3 (.lst ((ps.drop turn.toNat++ps.take turn.toNat).map V.int))=Hc at ec hc3;refine⟨p3,_,rfl,.inl ⟨AQ.of hc3,fun p4 hp4=>?_⟩⟩;have ed:=AL hp4 (.tup ((ps.drop turn.toNat++ps.take turn.toNat).map V.int));have hd4:upd Hc p4 (.tup ((ps.drop turn.toNat++ps.take turn.toNat).map V.int)) p4=some (.tup ((ps.drop turn.toNat++ps.take turn.toNat).map V.int)):=AF;generalize upd Hc p4 (.tup ((ps.drop turn.toNat++ps.take turn.toNat).map V.int))=Hd at ed hd4;have E:=ea.trans (eb.trans (ec.trans ed));have gd:=g9.same E;have hcd:=E _ _ hc9;refine⟨C,_,rfl,NK.t gd.Ji (k:=(ps.drop turn.toNat++ps.take turn.toNat).map Sum.inl) (by rw[R7];exact hd4) (CI (n:=60) (by have:=gd.len;lia) (by decide)),?_⟩;have hCn:∀c ys,Hd c=some (.tup ys)->c≠C:=fun c ys hh z=>by rw[z,gd.Ji]at hh;cases hh
    refine⟨_,_,_,_,_,_,_,rfl,⟨fun b o nb z=>by rw[AE (AJ z hC)];exact gd.tr _ _ nb z,let⟨y,hy⟩:=gd.GX;⟨y,by rw[AE nC.symm];exact hy⟩,AF,Nat.le_trans (Jw _ _ _) (Nat.succ_le_succ gd.len),Va _ gd.nd,fun kv hk=>?_⟩⟩;rcases X1 hk with hk|rfl
    .exact(gd.ok kv hk).step fun c ys hh=>by rw[AE (hCn c ys hh)];exact hh
    .refine⟨(ps.drop turn.toNat++ps.take turn.toNat,[ta,tb]),rfl,⟨c,rfl,by rw[AE (hCn _ _ hcd)];exact hcd⟩,?_,fun z I=>?_,fr,by rw[R,M],hfr0,r6,d6⟩
     .refine⟨by simp only[List.length_append,List.length_drop,List.length_take];lia,?_⟩;show(ps.drop turn.toNat++ps.take turn.toNat).sum<=3;have es:(ps.take turn.toNat++ps.drop turn.toNat).sum=ps.sum:=by rw[List.take_append_drop]
      rw[List.sum_append]at es;rw[List.sum_append]
      lia
     .rcases aT.mp I with I|I
      .exact Z z (List.mem_of_mem_drop I)
      .exact Z z (bU I)
   .exact⟨_,_,_,_,_,_,kvs,rfl,⟨g9.tr,g9.GX,g9.Ji,Nat.le_succ_of_le g9.len,g9.nd,g9.ok⟩⟩
 .rintro σ H4 ⟨r5,r6,r7,r8,r9,Y,kvs,rfl,g4⟩;obtain⟨ts,k1,k2,k3,k4⟩:=PY g4.ok;have hlen:=g4.len;refine⟨_,rfl,C,kvs,ts,rfl,g4.Ji,by lia,k1,k4,fun D H' zs us e hD hD' T hs hzl I=>?_⟩;obtain⟨y4,hl4⟩:=g4.GX;refine q _ H' us (g4.tr.trans (.of e)) ⟨by rw[T.length_eq,k1];lia,fun t ht=>k2 t (T.mem_iff.mp ht),Qh T (by rw[<-k3];exact g4.nd) hs⟩ fun c zc hc=>?_;have hc4:∃zc',H4 c=some (.lst zc'):=by
   by_cases z:c=l
   .subst z;exact⟨_,hl4⟩
   .exact⟨_,g4.tr _ _ z hc⟩
  obtain⟨zc',hc4⟩:=hc4;exact .lst (AJ hc4 hD).symm hD' (RB e hc4 hzl I)
end
def HY(us:List IT.Tm):PyData:=.list (us.map Mp)
def Q6(K:PySem.W.Frag):Sp:=fun vs H Q _=>∃(a:Addr) (ns:List Int) (many mo:Nat),vs=[.ref a,.int 1,.int many,.int mo]/\mo<=3/\AQ K H a (ns.map V.int)/\1<=many/\many<=4 /\
 ∀v H' (uss:List (List IT.Tm)),AG H H'->uss.length=many->(∀us∈uss,Hj many us)->DU H' (.list (uss.map HY)) v->Q v H'
def Jq(t:IT.Tm):Ah:=(t.1,Rat.divInt (t.2.getD 0 0) (t.2.getD 1 1))
theorem Xc{many:Nat}{t:IT.Tm}(ok:O0 many t):Mp t=DC (Jq t)/\FM.Fits (Jq t).2 3/\(Jq t).2.den<=6/\(Jq t).2≠0:=by
 obtain⟨_,_,r,M,T,R,I⟩:=ok;have e:(Jq t).2=r:=by
  unfold Jq;rw[M];exact FM.D4 r
 refine⟨?_,?_,by rw[e];exact I,by rw[e];exact T⟩
 .unfold Mp DC;rw[e,M]
  rfl
 .rw[e];exact⟨aQ R (by decide),Nat.lt_of_le_of_lt I (by decide)⟩
theorem T3{many:Nat}{us:List IT.Tm}(ok:Hj many us):HY us=BS (us.map Jq):=by
 unfold HY BS;rw[List.map_map]
 congr 1
 exact aW fun t I=>(Xc (ok.2.1 t I)).1
section
variable{P:Program}{w:World}{K:PySem.W.Frag}{mg:Str->Option Value}{base:Heap}{f g1 g2:Addr}{fd gd1 gd2:FuncData}
theorem O2:Ab ["_law_script","_law_start_here","_law_many","_law_most"] ["_law_script","_law_start_here","_law_many","_law_most"] (AO Hv):=⟨rfl,rfl,rfl,by decide +kernel,rfl,by decide +kernel,by decide +kernel⟩
theorem Ob(F:Fn K mg "_law_change" Hv ["_law_script","_law_start_here","_law_many","_law_most"] f fd)(BW:Fn K mg "_law_cell" Fb ["_law_script","_law_k"] g1 gd1)(HM:Fn K mg "_law_poly" J2 ["_law_pile","_law_many","_law_most"] g2 gd2)
 (Cn:AM P w K mg base AZ 4 g1 gd1 ["_law_script","_law_k"] (ME K))(Th:AM P w K mg base AZ 4 g2 gd2 ["_law_pile","_law_many","_law_most"] XH)(Ar:mg "range" = none):AM P w K mg base AZ 5 f fd ["_law_script","_law_start_here","_law_many","_law_most"] (Q6 K):=by
 have sc:=O2;refine F.F.ok (k:=4) sc (fun vs H Q E h=>?_) (fun cdv A outer s H vs Q E hr h=>?_)
 .obtain⟨a,ns,many,mo,rfl,_⟩:=h
  rfl
 obtain⟨a,ns,many,mo,rfl,hmo,hS,hm1,hm4,q⟩:=h;refine⟨_,(AH (Ae (CU [".0","_law_k","_law_many","_law_most","_law_script","_law_start_here"] 1 [none,none,some 2,some 3,some 0,some 1] (Cf rfl Ar (AA (pv 2) AB)) (fun _ _ _ _ _=>Bd) (fun _ _ _ _ _=>(Aa HM Th hr rfl (AA (B8 (AA (Aa BW Cn hr rfl (AA (pv 4) (AA (Af CK (pv 5) (pv 1)) AB))) AB)) (AA (pv 2) (AA (pv 3) AB)))))))),?_⟩;refine⟨_,rfl,(many:Int),rfl,by lia,by lia,fun D hD=>B5 (n:=(many:Int).toNat) (fun i ys H'=>AG H H'/\∃uss:List (List IT.Tm),uss.length=i/\(∀us∈uss,Hj many us)/\AR D H' (uss.map HY) ys) ?_ ?_ ?_⟩
 .exact⟨AL hD _,[],rfl,fun _ z=>(bO z).elim,.nil⟩
 .rintro i ys H0 hi ⟨e0,uss,T,M,hd⟩ I;refine⟨hi,CI (n:=60) (by rw[hd.len,List.length_map];lia) (by decide),fun x H' y=>?_⟩;obtain⟨rfl,rfl⟩:=y;unfold CZ;refine BI ⟨_,rfl,_,rfl,_,rfl,_,_,rfl,rfl,a,ns,_,rfl,e0.seq hS,by lia,by lia,fun cell=>?_⟩;refine⟨BU (show 1<=60 by decide),fun l Z=>?_⟩;have R:=AL Z (.lst [.int cell]);have Y:upd H' l (.lst [.int cell]) l=some (.lst [.int cell]):=AF;have nl:D≠l:=AJ I Z;have hln:∀o,H l≠some o:=fun o z=>by rw[e0 _ _ z]at Z;cases Z
  have dl:AR l (upd H' l (.lst [.int cell])) (uss.map HY) ys:=(HP Z hd).same R;generalize upd H' l (.lst [.int cell])=H1 at R Y dl;refine⟨_,rfl,_,rfl,l,cell,many,mo,rfl,hmo,Y,hm1,hm4,fun v H2 us e2 ok dt=>?_⟩;have hD2:H2 D=some (.lst ys):=e2 _ _ nl (R _ _ I);have k1:AR D H2 ((uss++[us]).map HY) (ys++[v]):=by
   rw[List.map_append];exact(IM e2 (hd.same R) dl).app (.cons (dt D _ (R _ _ I)) .nil)
  refine⟨hD2,BR hi ⟨fun b o z=>?_,uss++[us],by simp[T],fun u U=>?_,.but .upd k1⟩⟩
  .rw[AE (AJ z hD)];exact e2 _ _ (fun zz=>hln o (zz ▸ z)) (R _ _ (e0 _ _ z))
  .rcases aT.mp U with U|U
   .exact M u U
   .rw[List.mem_singleton.mp U];exact ok
 .rintro ys H0 ⟨e0,uss,T,M,hd⟩ I;exact⟨aG _,q _ H0 uss e0 (by lia) M (.lst I (Ca hd))⟩
end
def T2(r:Rat):Prop:=FM.Fits r 3/\r.den<=6
def KC(l:Addr)(I:Hp)(i:Nat)(ys:List V)(H':Hp):Prop:=SameBut l I H'/\(∃y,H' l=some (.lst [.int y]))/\ys.length=i/\∃rs:List Rat,rs.length=i/\(∀r∈rs,T2 r)/\A3 H' (AN rs) ys
theorem NB{l D:Addr}{I:Hp}{y:Int}(R:I l=some (.lst [.int y]))(M:I D=none):KC l I 0 [] (upd I D (.lst [])):=⟨.of (AL M _),⟨y,AL M _ _ _ R⟩,rfl,[],rfl,fun _ z=>(bO z).elim,.nil⟩
theorem J3{l D p:Addr}{U H1 M:Hp}{yb Y:Int}{i:Nat}{ys:List V}{r:Rat}(hl:U l=some (.lst [.int yb]))(hD:U D=none)(d:KC l U i ys H1)(hD1:H1 D=some (.lst ys))(e2:AG (upd H1 l (.lst [.int Y])) M)(hp:M p=some (.tup (Ll r)))(h6:r.num.natAbs<=6)(h7:r.den<=6) :
  M D=some (.lst ys)/\KC l U (i+1) (ys++[.ref p]) (upd M D (.lst (ys++[.ref p]))):=by
 obtain⟨e1,⟨y1,hl1⟩,Z,rs,hrl,hrs,dr⟩:=d;have nl:l≠D:=AJ hl hD;have hl2:M l=some (.lst [.int Y]):=e2 _ _ AF;have I:SameBut l H1 M:=SameBut.upd.trans (.of e2);have T:=I _ _ nl.symm hD1;have d2:A3 M (AN (rs++[r])) (ys++[.ref p]):=by
  rw[WX];exact(QM hl1 I dr).app (.cons (eV hp) .nil)
 refine⟨T,fun b o nb z=>?_,⟨Y,by rw[AE nl];exact hl2⟩,by simp[Z],rs++[r],by simp[hrl],fun x R=>?_,QM T .upd d2⟩
 .rw[AE (AJ z hD)];exact I _ _ nb (e1 _ _ nb z)
 .rcases aT.mp R with R|R
  .exact hrs x R
  .rw[List.mem_singleton.mp R];exact⟨⟨aQ h6 (by decide),Nat.lt_of_le_of_lt h7 (by decide)⟩,h7⟩
def RX:Sp:=fun vs H Q _=>∃(cell:Int) (many:Nat),vs=[.int cell,.int many]/\many<=4/\∀(S:Addr) H' xs rs,AG H H'->H' S=some (.lst xs)->A3 H' (AN rs) xs->rs.length=many->(∀r∈rs,T2 r)->Q (.ref S) H'
def RP(K:PySem.W.Frag):Sp:=fun vs H Q _=>∃(a:Addr) (ns:List Int),vs=[.ref a,.int 6,.int 4]/\AQ K H a (ns.map V.int)/\∀v H' t,AG H H'->DU H' (CF t) v->t.Ok 4->(∀r∈t.rs,∀q∈r,T2 q)->(∀q∈t.ls,T2 q)->Q v H'
section
variable{P:Program}{w:World}{K:PySem.W.Frag}{mg:Str->Option Value}{base:Heap}{f g g1 g2:Addr}{fd gd gd1 gd2:FuncData}
theorem Qf:Ab ["_law_cell_here","_law_many","_law_pile"] ["_law_cell_here","_law_many"] (AO Iu):=⟨rfl,rfl,rfl,by decide +kernel,rfl,by decide +kernel,by decide +kernel⟩
theorem Oa(F:Fn K mg "_law_start" Iu ["_law_cell_here","_law_many"] f fd)(CA:Fn K mg "_law_part" Ff ["_law_pile"] g gd)
 (Ei:AM P w K mg base AZ 3 g gd ["_law_pile"] ML)(Ar:mg "range" = none):AM P w K mg base AZ 4 f fd ["_law_cell_here","_law_many"] RX:=by
 have sc:=Qf;refine F.F.ok (k:=3) sc (fun vs H Q E h=>?_) (fun cdv A outer s H vs Q E hr h=>?_)
 .obtain⟨cell,many,rfl,_⟩:=h
  rfl
 obtain⟨cell,many,rfl,hm4,q⟩:=h;refine⟨_,(AD (AX (i:=2) sc.nd rfl (Or.inr rfl) (B8 (AA (pv 0) AB)))
 (AH (Ae (CU [".0","_law_k","_law_pile"] 1 [none,none,some 2] (Cf rfl Ar (AA (pv 1) AB)) (fun _ _ _ _ _=>Bd) (fun _ _ _ _ _=>(Aa CA Ei hr rfl (AA (pv 2) AB))))))),?_⟩
 refine⟨_,rfl,BU (show 1<=60 by decide),fun l U=>?_⟩;have Z:=AL U (.lst [.int cell]);have I:upd H l (.lst [.int cell]) l=some (.lst [.int cell]):=AF;generalize upd H l (.lst [.int cell])=H0 at Z I;refine⟨_,rfl,(many:Int),rfl,by lia,by lia,fun D Y=>B5 (n:=(many:Int).toNat) (KC l H0) (NB I Y) ?_ ?_⟩
 .rintro i ys H1 hi d M;refine⟨hi,CI (n:=60) (by rw[d.2.2.1];lia) (by decide),fun x H' y=>?_⟩;obtain⟨rfl,rfl⟩:=y;obtain⟨y1,T⟩:=d.2.1;unfold CZ;refine BI ⟨_,rfl,l,y1,rfl,T,fun p r y2 H2 e2 hp r6 r7=>?_⟩;obtain⟨k1,k2⟩:=J3 I Y d M e2 hp r6 r7;exact⟨k1,BR hi k2⟩
 .rintro ys H1 ⟨e1,_,hyl,rs,hrl,R,dr⟩ M;exact⟨aG _,q D H1 ys rs (fun b o z=>e1 _ _ (AJ z U) (Z _ _ z)) M dr (by lia) R⟩
theorem Qb:Ab ["_law_script","_law_start_here","_law_most","_law_size","_law_rows","_law_k","_law_pile"] ["_law_script","_law_start_here","_law_most"] (AO JI):=⟨rfl,rfl,rfl,by decide +kernel,rfl,by decide +kernel,by decide +kernel⟩
theorem PM(F:Fn K mg "_law_table" JI ["_law_script","_law_start_here","_law_most"] f fd)(BW:Fn K mg "_law_cell" Fb ["_law_script","_law_k"] g1 gd1)(CA:Fn K mg "_law_part" Ff ["_law_pile"] g2 gd2)
 (Cn:AM P w K mg base AZ 3 g1 gd1 ["_law_script","_law_k"] (ME K))(Ei:AM P w K mg base AZ 3 g2 gd2 ["_law_pile"] ML)(Ar:mg "range" = none):AM P w K mg base AZ 4 f fd ["_law_script","_law_start_here","_law_most"] (RP K):=by
 have sc:=Qb;refine F.F.ok (k:=3) sc (fun vs H Q E h=>?_) (fun cdv A outer s H vs Q E I h=>?_)
 .obtain⟨a,ns,rfl,_⟩:=h
  rfl
 obtain⟨a,ns,rfl,hS,q⟩:=h;refine⟨_,(AD (AX (i:=3) sc.nd rfl (Or.inl rfl) (Af CK AI (Af J8 (Aa BW Cn I rfl (AA (pv 0) (AA (pv 1) AB))) (pv 2))))
 (AD (AX (i:=4) sc.nd rfl (Or.inl rfl) (B8 AB))
 (AD (Bg aK rfl (Cf rfl Ar (AA (pv 3) AB)) (Am (i:=5) sc.nd rfl (Or.inl rfl))
  (AD (AX (i:=6) sc.nd rfl (Or.inr rfl) (B8 (AA (Aa BW Cn I rfl (AA (pv 0) (AA (Af CK (Af CK (pv 1) AI) (pv 5)) AB))) AB)))
  (AH (B2 (GW ab ay az DJ (pv 4) (AA (CU [".0","_law_j","_law_pile"] 1 [none,none,some 6] (Cf rfl Ar (AA (pv 5) AB)) (fun _ _ _ _ _=>Bd) (fun _ _ _ _ _=>(Aa CA Ei I rfl (AA (pv 2) AB)))) AB))))))
 (AD (AX (i:=6) sc.nd rfl (Or.inr rfl) (B8 (AA (Aa BW Cn I rfl (AA (pv 0) (AA (Af CK (Af CK (pv 1) AI) (pv 2)) AB))) AB)))
 (AH (Ae (Gf (AA (pv 4) (AA (CU [".0","_law_j","_law_pile"] 1 [none,none,some 6] (Cf rfl Ar (AA (pv 3) AB)) (fun _ _ _ _ _=>Bd) (fun _ _ _ _ _=>(Aa CA Ei I rfl (AA (pv 2) AB)))) AB))))))))),?_⟩
 refine⟨_,rfl,_,rfl,a,ns,6,rfl,hS,by decide,by decide,fun x0=>⟨_,rfl,_,_,rfl,rfl,(by decide:(4:Int)≠0),_,_,rfl,rfl,?_⟩⟩;obtain⟨size,hs1,hs4,es⟩:∃size:Nat,1<=size/\size<=4/\1+x0.fmod 4=(size:Int):=by
  have e:=Int.fmod_eq_emod_of_nonneg x0 (show(0:Int)<=4 by decide);exact⟨(1+x0.fmod 4).toNat,by lia,by lia,by lia⟩
 rw[show((fun i j:Int=>V.int (i+j)) 1 (x0.fmod 4))=V.int (size:Int) from bD V.int es];refine⟨BU (show 0<=60 by decide),fun R hR=>?_⟩;have e1:=AL hR (.lst []);have hR1:upd H R (.lst []) R=some (.lst []):=AF;generalize upd H R (.lst [])=H1 at e1 hR1;refine⟨_,rfl,(size:Int),rfl,by lia,by lia,Hm (n:=(size:Int).toNat) (fun i σ H'=>∃(r5 r6:Option V) (rs:List (List Rat)) (xs:List V),σ=[some (.ref a),some (.int 6),some (.int 4),some (.int (size:Int)),some (.ref R),r5,r6]/\AG H H'/\H' R=some (.lst xs)/\AR R H' (Aq rs) xs/\rs.length=i/\(∀(j:Nat) r,rs[j]? = some r->r.length=j)/\∀r∈rs,∀q∈r,T2 q) ?_ ?_ ?_⟩
 .exact⟨_,_,[],[],rfl,e1,hR1,.nil,rfl,fun j r z=>by simp at z,fun _ z=>(bO z).elim⟩
 .rintro i σ H2 hi ⟨r5,r6,rs,xs,rfl,e2,U,dx,hrl,hrj,hrf⟩;refine⟨_,rfl,_,rfl,_,_,rfl,rfl,_,rfl,_,_,rfl,rfl,a,ns,_,rfl,e2.seq hS,by lia,by lia,fun cell=>⟨BU (show 1<=60 by decide),fun l hl=>?_⟩⟩;have e3:=AL hl (.lst [.int cell]);have M:upd H2 l (.lst [.int cell]) l=some (.lst [.int cell]):=AF;generalize upd H2 l (.lst [.int cell])=H3 at e3 M;have hxl:xs.length=i:=by rw[dx.len,HB,hrl]
  refine⟨_,rfl,.inl ⟨rfl,_,AQ.of (e3 _ _ U)⟩,_,rfl,0+(i:Int),rfl,by lia,by lia,fun D hD=>B5 (n:=(0+(i:Int)).toNat) (KC l H3) (NB M hD) ?_ ?_⟩
  .rintro j ys Z hj d T;refine⟨hj,CI (n:=60) (by rw[d.2.2.1];lia) (by decide),fun x H' y=>?_⟩;obtain⟨rfl,rfl⟩:=y;obtain⟨y1,hl1⟩:=d.2.1;unfold CZ;refine BI ⟨_,rfl,l,y1,rfl,hl1,fun p r y2 H5 Y hp r6 r7=>?_⟩;obtain⟨k1,k2⟩:=J3 M hD d T Y hp r6 r7;exact⟨k1,BR hj k2⟩
  .rintro ys Z ⟨e4,_,hyl,qs,hql,hqs,dq⟩ T;have E4:AG H2 Z:=fun b o z=>e4 _ _ (AJ z hl) (e3 _ _ z);have hR4:=E4 _ _ U;have nD:D≠R:=fun z=>by subst z;rw[e3 _ _ U]at hD;cases hD
   refine⟨aG _,R,xs,_,rfl,rfl,hR4,CI (n:=60) (by lia) (by decide),?_⟩;have u:SameBut R Z (upd Z R (.lst (xs++[.ref D]))):=.upd;refine⟨_,_,rs++[qs],xs++[.ref D],rfl,fun b o z=>?_,AF,?_,by simp[hrl],fun j r I=>?_,fun r I=>?_⟩
   .rw[AE (AJ z hR)];exact E4 _ _ (e2 _ _ z)
   .rw[Aq,List.map_append];exact .but u ((dx.same E4).app (.cons (Xn hR4 nD T dq) .nil))
   .by_cases z:j<rs.length
    .rw[List.getElem?_append_left z]at I;exact hrj j r I
    .rw[List.getElem?_append_right (by lia)]at I;have:=(aB.mp I).1;rw[List.length_singleton]at this;rw[show j-rs.length=0 by lia]at I;cases I
     lia
   .rcases aT.mp I with I|I
    .exact hrf r I
    .rw[List.mem_singleton.mp I];exact hqs
 .rintro σ H2 ⟨r5,r6,rs,xs,rfl,e2,U,dx,hrl,hrj,hrf⟩;refine⟨_,rfl,_,rfl,_,_,rfl,rfl,_,rfl,_,_,rfl,rfl,a,ns,_,rfl,e2.seq hS,by decide,by decide,fun cell=>⟨BU (show 1<=60 by decide),fun l hl=>?_⟩⟩;have e3:=AL hl (.lst [.int cell]);have M:upd H2 l (.lst [.int cell]) l=some (.lst [.int cell]):=AF;generalize upd H2 l (.lst [.int cell])=H3 at e3 M;refine⟨_,rfl,_,rfl,(size:Int),rfl,by lia,by lia,fun D hD=>B5 (n:=(size:Int).toNat) (KC l H3) (NB M hD) ?_ ?_⟩
  .rintro j ys Z hj d T;refine⟨hj,CI (n:=60) (by rw[d.2.2.1];lia) (by decide),fun x H' y=>?_⟩;obtain⟨rfl,rfl⟩:=y;obtain⟨y1,hl1⟩:=d.2.1;unfold CZ;refine BI ⟨_,rfl,l,y1,rfl,hl1,fun p r y2 H5 Y hp r6 r7=>?_⟩;obtain⟨k1,k2⟩:=J3 M hD d T Y hp r6 r7;exact⟨k1,BR hj k2⟩
  .rintro ys Z ⟨e4,_,hyl,qs,hql,hqs,dq⟩ T;have E4:AG H2 Z:=fun b o z=>e4 _ _ (AJ z hl) (e3 _ _ z);refine⟨aG _,BU (show 2<=60 by decide),fun t0 ht=>?_⟩;have Y:=AL ht (.tup [V.ref R,V.ref D]);have h5:upd Z t0 (.tup [V.ref R,V.ref D]) t0=some (.tup [V.ref R,V.ref D]):=AF;generalize upd Z t0 (.tup [V.ref R,V.ref D])=H5 at Y h5;exact q _ H5 ⟨rs,qs⟩ (e2.trans (E4.trans Y)) (WU h5 (Y _ _ (E4 _ _ U)) ((Ca dx).same (E4.trans Y)) (Y _ _ T) (dq.same Y)) ⟨by show 1<=rs.length;lia,by show rs.length<=4;lia,by show qs.length=rs.length;lia,hrj⟩ hrf hqs
end
theorem Sj:∀ {ps:List Int},(∀p∈ps,(0:Int)<=p)->(ps.map PyData.int).all Fz=true
 |[],_=>rfl
 |p::ps,h=>by
  rw[List.map_cons,List.all_cons,Sj (fun q I=>h q (aV _ I)),Bool.and_true,Fz];exact bT (h p ag)
theorem O0.is{many:Nat}{t:IT.Tm}(h:O0 many t):FF many (Mp t)=true:=by
 obtain⟨⟨U,_⟩,T,r,R,M,_,_⟩:=h;have hn:r.num≠0:=fun z=>M (Rat.num_eq_zero.mp z);rw[Mp,FF,FU,Sj fun p I=>(T p I).1,List.length_map,decide_eq_true (by rw[U]),R];show(true&&true&&(Dm (Ac r) && !decide (r.num=0)))=true;rw[Wy,decide_eq_false hn];rfl
theorem RN:∀ps:List Int,(ps.map PyData.int).map intD=ps
 |[]=>rfl
 |p::ps=>by rw[List.map_cons,List.map_cons,RN ps,intD]
theorem XR(t:IT.Tm):Rx (Mp t)=t.1:=by rw[Mp,Rx,Qt,RN]
theorem Hj.is{many:Nat}{us:List IT.Tm}(h:Hj many us):Eo many (.list (us.map Mp))=true:=by
 obtain⟨_,R,M⟩:=h;rw[Eo,List.all_eq_true];intro k I;rw[List.mem_range,List.length_map]at I;unfold GQ;rw[List.getElem?_map,List.getElem?_eq_getElem I,Option.map_some];simp only;rw[(R _ (aa I)).is,Bool.true_and];by_cases z:k=0
 .rw[decide_eq_true z,Bool.true_or]
 .rw[List.getElem?_map,List.getElem?_eq_getElem (show k-1<us.length by lia),Option.map_some];simp only;rw[XR,XR,List.pairwise_iff_getElem.mp M (k-1) k (by lia) I (by lia),Bool.or_true]
theorem YN{many:Nat}{uss:List (List IT.Tm)}(M:uss.length=many)(h1:1<=many)(h:∀us∈uss,Hj many us):J1 (.list ((uss.map fun us=>us.map Jq).map BS))=true:=by
 have e:(uss.map fun us=>us.map Jq).map BS=uss.map HY:=by
  rw[List.map_map];exact aW fun us I=>(T3 (h us I)).symm
 rw[e,J1,List.length_map,M,decide_eq_false (by lia),Bool.not_false,Bool.true_and,List.all_eq_true];intro e R;obtain⟨us,I,rfl⟩:=aL.mp R;exact(h us I).is
section
variable{P:Program}{w:World}{K:PySem.W.Frag}{mg:Str->Option Value}{base:Heap}{f:Addr}{fd:FuncData}
theorem Lz:Ab ["_law_one","_law_other"] ["_law_one","_law_other"] (AO Fi):=⟨rfl,rfl,rfl,by decide +kernel,rfl,by decide +kernel,by decide +kernel⟩
def Mj(I:List PyData->Option PyData):DF :=
 (Lp (Bf I (AK (Ay Dc (Ay HC (Ay Ct (nm 0) (fC (.int 0))) (Ay Ct (nm 1) (fC (.int 1)))) (Ay HC (Ay Ct (nm 1) (fC (.int 0))) (Ay Ct (nm 0) (fC (.int 1))))) (AK (Ay HC (Ay Ct (nm 0) (fC (.int 1))) (Ay Ct (nm 1) (fC (.int 1)))) An))))
def Aw(I:List PyData->Option PyData):List PyData->Option PyData:=HD ["_law_one","_law_other"] ["_law_one","_law_other"] (Mj I)
theorem S4{k:Nat}{R:List PyData->Option PyData}(F:Fn K mg "_law_plus" Fi ["_law_one","_law_other"] f fd)
 {I:Addr}{M:FuncData}(Y:Fn K mg "_law_frac" Fc ["_law_top","_law_bottom"] I M)(U:AM P w K mg base AZ k I M ["_law_top","_law_bottom"] (Dh R)) :
  AM P w K mg base AZ (k+1) f fd ["_law_one","_law_other"] (Dh (Aw R)):=T8 F Lz fun cdv A outer s H E T=>by
 have sc:=Lz;exact(B0 (Ik (Cj Y U T rfl (AV (Cc Fg (Cc Iw (Cb (AU (pv 0)) A8 (fun _ _=>rfl)) (Cb (AU (pv 1)) A8 (fun _ _=>rfl))) (Cc Iw (Cb (AU (pv 1)) A8 (fun _ _=>rfl)) (Cb (AU (pv 0)) A8 (fun _ _=>rfl)))) (AV (Cc Iw (Cb (AU (pv 0)) A8 (fun _ _=>rfl)) (Cb (AU (pv 1)) A8 (fun _ _=>rfl))) A4)))))
theorem Np:Ab ["_law_one","_law_other"] ["_law_one","_law_other"] (AO Jb):=⟨rfl,rfl,rfl,by decide +kernel,rfl,by decide +kernel,by decide +kernel⟩
def QC(I:List PyData->Option PyData):DF :=
 (Lp (Bf I (AK (Ay HC (Ay Ct (nm 0) (fC (.int 0))) (Ay Ct (nm 1) (fC (.int 0)))) (AK (Ay HC (Ay Ct (nm 0) (fC (.int 1))) (Ay Ct (nm 1) (fC (.int 1)))) An))))
def Bm(I:List PyData->Option PyData):List PyData->Option PyData:=HD ["_law_one","_law_other"] ["_law_one","_law_other"] (QC I)
theorem Vq{k:Nat}{R:List PyData->Option PyData}(F:Fn K mg "_law_by" Jb ["_law_one","_law_other"] f fd)
 {I:Addr}{M:FuncData}(Y:Fn K mg "_law_frac" Fc ["_law_top","_law_bottom"] I M)(U:AM P w K mg base AZ k I M ["_law_top","_law_bottom"] (Dh R)) :
  AM P w K mg base AZ (k+1) f fd ["_law_one","_law_other"] (Dh (Bm R)):=T8 F Np fun cdv A outer s H E T=>by
 have sc:=Np;exact(B0 (Ik (Cj Y U T rfl (AV (Cc Iw (Cb (AU (pv 0)) A8 (fun _ _=>rfl)) (Cb (AU (pv 1)) A8 (fun _ _=>rfl))) (AV (Cc Iw (Cb (AU (pv 0)) A8 (fun _ _=>rfl)) (Cb (AU (pv 1)) A8 (fun _ _=>rfl))) A4)))))
theorem Gr:Ab ["_law_one","_law_other","_law_found","_law_k","_law_left","_law_j"] ["_law_one","_law_other"] (AO Ey):=⟨rfl,rfl,rfl,by decide +kernel,rfl,by decide +kernel,by decide +kernel⟩
def Hl(Bm:List PyData->Option PyData)(Aw:List PyData->Option PyData):DF :=
 (DW (ZU 2 (D6 (Cu 1) DP (Ku (AK (fC (.int 0)) (AK (fC (.int 1)) An))) [none,none] (LI (nm 0))))
 (DW (Gi (Bh VA (AK (nm 0) An)) (DY 3 4)
  (Gi (Bh Et (AK (Ay J5 (Bf O1 (AK (nm 0) An)) (nm 3)) An)) (M4 5)
   (VF 2 (Bf Aw (AK (Wd 2 (Ay Dc (nm 3) (nm 5))) (AK (Bf Bm (AK (nm 4) (AK (Ay Ct (nm 1) (nm 5)) An))) An))) (Ay Dc (nm 3) (nm 5)))))
 (Vl 2)))
def BO(Bm:List PyData->Option PyData)(Aw:List PyData->Option PyData):List PyData->Option PyData:=HD ["_law_one","_law_other"] ["_law_one","_law_other","_law_found","_law_k","_law_left","_law_j"] (Hl Bm Aw)
theorem LC{k:Nat}{Bm:List PyData->Option PyData}{Aw:List PyData->Option PyData}(F:Fn K mg "_law_row_product" Ey ["_law_one","_law_other"] f fd)
 {M:Addr}{R:FuncData}(E1:Fn K mg "_law_by" Jb ["_law_one","_law_other"] M R)(GC:AM P w K mg base AZ k M R ["_law_one","_law_other"] (Dh Bm))
 {T:Addr}{U:FuncData}(CO:Fn K mg "_law_plus" Fi ["_law_one","_law_other"] T U)(Cp:AM P w K mg base AZ k T U ["_law_one","_law_other"] (Dh Aw))(Bu:mg "enumerate" = none)(A9:mg "len" = none)(Ar:mg "range" = none) :
  AM P w K mg base AZ (k+1) f fd ["_law_one","_law_other"] (Dh (BO Bm Aw)):=T8 F Gr fun cdv A outer s H E I=>by
 have sc:=Gr;exact(Bw (bw (i:=2) [".0","_law_part_here"] 1 [none,none] sc.nd rfl rfl (Rb (AU (pv 0))) (fun _ _ _ _ _=>GG) (fun _ _ _ _ _=>(OT (AV A8 (AV A8 A4)))))
 (Bw (He aK rfl (Z7 rfl Bu (AV (AU (pv 0)) A4)) (LP (Eu rfl (BM (Am (i:=3) sc.nd rfl (Or.inl rfl)) (BM (Am (i:=4) sc.nd rfl (Or.inl rfl)) EC))))
  (B0 (He aK rfl (GF rfl Ar (AV (Cc MI (SN Xb rfl A9 ai (AV (AU (pv 0)) A4)) (AU (pv 3))) A4)) (PH (Am (i:=5) sc.nd rfl (Or.inl rfl)))
   (B0 (dJ (pv 2) (Cc Fg (AU (pv 3)) (AU (pv 5))) (Cj CO Cp I rfl (AV (Xv (pv 2) (Cc Fg (AU (pv 3)) (AU (pv 5))) (fun _ _=>rfl)) (AV (Cj E1 GC I rfl (AV (AU (pv 4)) (AV (Cb (AU (pv 1)) (AU (pv 5)) (fun _ _=>rfl)) A4))) A4))) (fun h1 Z Y=>XM h1 (WR Z Y set_list)))))))
 (B0 (UT (pv 2)))))
theorem KD:Ab ["_law_some","_law_rows","_law_size","_law_total","_law_powers","_law_part_here","_law_term","_law_power","_law_row","_law_step"] ["_law_some","_law_rows","_law_size"] (AO Ho):=⟨rfl,rfl,rfl,by decide +kernel,rfl,by decide +kernel,by decide +kernel⟩
def K1(Aw:List PyData->Option PyData)(BO:List PyData->Option PyData):DF :=
 (DW (Fx 3 (Bz (Cu 1) DP (Ku (AK (fC (.int 0)) (AK (fC (.int 1)) An))) [none,none] (Bh Et (AK (nm 2) An))))
 (DW (Gi (LI (nm 0)) (DY 4 5)
  (DW (Fx 6 (Ay Dc (L7 (AK (nm 5) An)) (Bz (Cu 1) DP (Ku (AK (fC (.int 0)) (AK (fC (.int 1)) An))) [none,none] (Bh Et (AK (Ay J5 (nm 2) (fC (.int 1))) An)))))
  (DW (Gi (Bh zip2 (AK (nm 4) (AK (nm 1) An))) (DY 7 8)
   (Gi (Bh Et (AK (nm 7) An)) (M4 9)
    (Fx 6 (Bf BO (AK (nm 6) (AK (nm 8) An))))))
  (Fx 3 (Bz (DY 1 2) DP (Bf Aw (AK (nm 1) (AK (nm 2) An))) [none,none,none] (Bh zip2 (AK (nm 3) (AK (nm 6) An))))))))
 (Lp (nm 3))))
def K0(Aw:List PyData->Option PyData)(BO:List PyData->Option PyData):List PyData->Option PyData:=HD ["_law_some","_law_rows","_law_size"] ["_law_some","_law_rows","_law_size","_law_total","_law_powers","_law_part_here","_law_term","_law_power","_law_row","_law_step"] (K1 Aw BO)
theorem Oz{k:Nat}{Aw:List PyData->Option PyData}{BO:List PyData->Option PyData}(F:Fn K mg "_law_row_of" Ho ["_law_some","_law_rows","_law_size"] f fd)
 {Y:Addr}{Z:FuncData}(CO:Fn K mg "_law_plus" Fi ["_law_one","_law_other"] Y Z)(Cp:AM P w K mg base AZ k Y Z ["_law_one","_law_other"] (Dh Aw))
 {R:Addr}{T:FuncData}(Di:Fn K mg "_law_row_product" Ey ["_law_one","_law_other"] R T)(Ew:AM P w K mg base AZ k R T ["_law_one","_law_other"] (Dh BO))(I:mg "range" = none)(U:mg "zip" = none) :
  AM P w K mg base AZ (k+1) f fd ["_law_some","_law_rows","_law_size"] (Dh (K0 Aw BO)):=T8 F KD fun cdv A outer s H E M=>by
 have sc:=KD;exact(Bw (Vv (i:=3) [".0","_law_k"] 1 [none,none] sc.nd rfl rfl (GF rfl I (AV (AU (pv 2)) A4)) (fun _ _ _ _ _=>GG) (fun _ _ _ _ _=>(OT (AV A8 (AV A8 A4)))))
 (Bw (He aK rfl (Rb (AU (pv 0))) (LP (Eu rfl (BM (Am (i:=4) sc.nd rfl (Or.inl rfl)) (BM (Am (i:=5) sc.nd rfl (Or.inl rfl)) EC))))
  (Bw (JH (i:=6) sc.nd rfl (Or.inl rfl) (Cc Fg (Ng (AV (AU (pv 5)) A4)) (MO [".0","_law_k"] 1 [none,none] (GF rfl I (AV (Cc MI (AU (pv 2)) A8) A4)) (fun _ _ _ _ _=>GG) (fun _ _ _ _ _=>(OT (AV A8 (AV A8 A4)))))))
  (Bw (He aK rfl (LK rfl U (AV (AU (pv 4)) (AV (AU (pv 1)) A4))) (LP (Eu rfl (BM (Am (i:=7) sc.nd rfl (Or.inl rfl)) (BM (Am (i:=8) sc.nd rfl (Or.inl rfl)) EC))))
   (B0 (He aK rfl (GF rfl I (AV (AU (pv 7)) A4)) (PH (Am (i:=9) sc.nd rfl (Or.inl rfl)))
    (B0 (JH (i:=6) sc.nd rfl (Or.inl rfl) (Cj Di Ew M rfl (AV (AU (pv 6)) (AV (AU (pv 8)) A4))))))))
  (B0 (Mk (i:=3) [".0","_law_one","_law_other"] 1 2 [none,none,none] sc.nd rfl rfl (LK rfl U (AV (AU (pv 3)) (AV (AU (pv 6)) A4))) (fun _ _ _ _ _=>GG) (fun _ _ _ _ _=>(Cj CO Cp M rfl (AV (AU (pv 1)) (AV (AU (pv 2)) A4)))))))))
 (B0 (Ik (AU (pv 3))))))
theorem JW:Ab ["_law_start_here","_law_speeds","_law_parts","_law_size","_law_found","_law_i","_law_total","_law_some","_law_part_here"] ["_law_start_here","_law_speeds","_law_parts","_law_size"] (AO Gn):=⟨rfl,rfl,rfl,by decide +kernel,rfl,by decide +kernel,by decide +kernel⟩
def Jn(Bm:List PyData->Option PyData)(Aw:List PyData->Option PyData):DF :=
 (DW (jR 4 An)
 (DW (Gi (Bh Et (AK (Bf O1 (AK (nm 0) An)) An)) (M4 5)
  (DW (Fx 6 (Ay Dc (L7 (AK (Ay Ct (nm 0) (nm 5)) An)) (Bz (Cu 1) DP (Ku (AK (fC (.int 0)) (AK (fC (.int 1)) An))) [none,none] (Bh Et (AK (Ay J5 (nm 3) (fC (.int 1))) An)))))
  (DW (Gi (Bh zip2 (AK (nm 1) (AK (nm 2) An))) (DY 7 8)
   (Fx 6 (Ay Dc (L7 (AK (Ay Ct (nm 6) (fC (.int 0))) An)) (Bz (Cu 1) DP (Bf Aw (AK (Ay Ct (nm 2) (nm 1)) (AK (Bf Bm (AK (nm 3) (AK (Ay Ct (Ay Ct (nm 4) (nm 5)) (Ay J5 (nm 1) (fC (.int 1)))) An))) An))) [none,none,some 6,some 8,some 7,some 5] (Bh O3 (AK (fC (.int 1)) (AK (nm 3) An)))))))
  (jb 4 (nm 6)))))
 (Vl 4)))
def Jo(Bm:List PyData->Option PyData)(Aw:List PyData->Option PyData):List PyData->Option PyData:=HD ["_law_start_here","_law_speeds","_law_parts","_law_size"] ["_law_start_here","_law_speeds","_law_parts","_law_size","_law_found","_law_i","_law_total","_law_some","_law_part_here"] (Jn Bm Aw)
theorem Nb{k:Nat}{Bm:List PyData->Option PyData}{Aw:List PyData->Option PyData}(F:Fn K mg "_law_led_rows" Gn ["_law_start_here","_law_speeds","_law_parts","_law_size"] f fd)
 {R:Addr}{T:FuncData}(E1:Fn K mg "_law_by" Jb ["_law_one","_law_other"] R T)(GC:AM P w K mg base AZ k R T ["_law_one","_law_other"] (Dh Bm))
 {U:Addr}{Y:FuncData}(CO:Fn K mg "_law_plus" Fi ["_law_one","_law_other"] U Y)(Cp:AM P w K mg base AZ k U Y ["_law_one","_law_other"] (Dh Aw))(A9:mg "len" = none)(I:mg "range" = none)(ES:mg "zip" = none) :
  AM P w K mg base AZ (k+1) f fd ["_law_start_here","_law_speeds","_law_parts","_law_size"] (Dh (Jo Bm Aw)):=T8 F JW fun cdv A outer s H E M=>by
 have sc:=JW;exact(Bw (eu (i:=4) sc.nd rfl (Or.inl rfl) A4)
 (Bw (He aK rfl (GF rfl I (AV (SN Xb rfl A9 ai (AV (AU (pv 0)) A4)) A4)) (PH (Am (i:=5) sc.nd rfl (Or.inr rfl)))
  (Bw (JH (i:=6) sc.nd rfl (Or.inr rfl) (Cc Fg (Ng (AV (Cb (AU (pv 0)) (AU (pv 5)) (fun _ _=>rfl)) A4)) (MO [".0","_law_k"] 1 [none,none] (GF rfl I (AV (Cc MI (AU (pv 3)) A8) A4)) (fun _ _ _ _ _=>GG) (fun _ _ _ _ _=>(OT (AV A8 (AV A8 A4)))))))
  (Bw (He aK rfl (LK rfl ES (AV (AU (pv 1)) (AV (AU (pv 2)) A4))) (LP (Eu rfl (BM (Am (i:=7) sc.nd rfl (Or.inr rfl)) (BM (Am (i:=8) sc.nd rfl (Or.inr rfl)) EC))))
   (B0 (JH (i:=6) sc.nd rfl (Or.inr rfl) (Cc Fg (Ng (AV (Cb (AU (pv 6)) A8 (fun _ _=>rfl)) A4)) (MO [".0","_law_k","_law_total","_law_part_here","_law_some","_law_i"] 1 [none,none,some 6,some 8,some 7,some 5] (Wu rfl I (AV A8 (AV (AU (pv 3)) A4))) (fun _ _ _ _ _=>GG) (fun _ _ _ _ _=>(Cj CO Cp M rfl (AV (Cb (AU (pv 2)) (AU (pv 1)) (fun _ _=>rfl)) (AV (Cj E1 GC M rfl (AV (AU (pv 3)) (AV (Cb (Cb (AU (pv 4)) (AU (pv 5)) (fun _ _=>rfl)) (Cc MI (AU (pv 1)) A8) (fun _ _=>rfl)) A4))) A4)))))))))
  (B0 (We (pv 4) (AU (pv 6)) (fun Z ha=>B2 (GW ab ay az DJ Z ha)))))))
 (B0 (UT (pv 4)))))
theorem WL:Ab ["_law_script","_law_many","_law_change_here","_law_start_here","_law_table_here","_law_cell_here","_law_most","_law_rows","_law_handed","_law_due","_law_found","_law_row","_law_other","_law_less"] ["_law_script"] (AO Nz):=⟨rfl,rfl,rfl,by decide +kernel,rfl,by decide +kernel,by decide +kernel⟩
def M1(M:List PyData->Option PyData)(R:List PyData->Option PyData)(I:List PyData->Option PyData):DF :=
 (DW (Fx 12 (eC (nm 2) (jT (fC (.int 1)))))
 (DW (Xh (X0 (Y0 (Bf M (AK (Bf I (AK (nm 4) (AK (nm 12) (AK (nm 3) (AK (nm 6) An))))) (AK (Bf R (AK (nm 4) (AK (nm 12) (AK (nm 3) (AK (Ay Dc (nm 6) (fC (.int 1))) An))))) An)))))
  (Lp (fC (.bool false)))
  Vf)
 (DW (Fx 13 (Ay VP (Ay VL (nm 5) (fC (.int 48))) (Ay Dc (nm 6) (fC (.int 1)))))
 (DW (Xh (VO (X0 (Y0 (Bf M (AK (Bf I (AK (Ay Ct (nm 8) (fC (.int 0))) (AK (Ay Ct (nm 8) (fC (.int 1))) (AK (Ay Ct (nm 8) (fC (.int 2))) (AK (nm 13) An))))) (AK (Bz (Cu 1) DP (YC (nm 1) U1 (Vn (Ay Dc (nm 2) (fC (.int 1))))) [none,none,some 13] (LI (nm 9))) An))))))
  (Lp (fC (.bool false)))
  Vf)
 (Lp (Bf M (AK (Bf I (AK (Ay Ct (nm 8) (fC (.int 0))) (AK (Ay Ct (nm 8) (fC (.int 1))) (AK (Ay Ct (nm 8) (fC (.int 2))) (AK (nm 6) An))))) (AK (nm 9) An))))))))
theorem WC{k:Nat}{Eg:List PyData->Option PyData}{EM:List PyData->Option PyData}{Eh:List PyData->Option PyData}
 {Y:Addr}{Lq:FuncData}(U:Fn K mg "_law_same" HN ["_law_found","_law_due"] Y Lq)(T:AM P w K mg base AZ k Y Lq ["_law_found","_law_due"] (Dh Eg))
 {Il:Addr}{ID:FuncData}(CH:Fn K mg "_law_step_rows" EW ["_law_table_here","_law_change_here","_law_start_here","_law_size"] Il ID)(Ck:AM P w K mg base AZ k Il ID ["_law_table_here","_law_change_here","_law_start_here","_law_size"] (Dh EM))
 {Z:Addr}{Ln:FuncData}(R:Fn K mg "step_rows" HJ ["table","change","start","most"] Z Ln)(M:AM P w K mg base AZ k Z Ln ["table","change","start","most"] (Dh Eh))(cdv:Value)(A:Around)(outer:List Env)(s:Shared)(H:Hp)(E:XK)(I:Dz k (A.deeper (PyProof.Rows.envOfC "law" (AO Nz) s.heap.objs.size f cdv))) :
  Mo (Lx AZ P w K mg base ["_law_script","_law_many","_law_change_here","_law_start_here","_law_table_here","_law_cell_here","_law_most","_law_rows","_law_handed","_law_due","_law_found","_law_row","_law_other","_law_less"] "law" (AO Nz) f cdv A outer s H E).UR ((De Nz).drop 13) (M1 Eg EM Eh):=by
 have sc:=WL;exact(Bw (JH (i:=12) sc.nd rfl (Or.inl rfl) (de (AU (pv 2)) (fL A8)))
 (Bw (Vt (W3 (WT (Cj U T I rfl (AV (Cj R M I rfl (AV (AU (pv 4)) (AV (AU (pv 12)) (AV (AU (pv 3)) (AV (AU (pv 6)) A4))))) (AV (Cj CH Ck I rfl (AV (AU (pv 4)) (AV (AU (pv 12)) (AV (AU (pv 3)) (AV (Cc Fg (AU (pv 6)) A8) A4))))) A4)))))
  (B0 (Ik ZQ))
  PJ)
 (Bw (JH (i:=13) sc.nd rfl (Or.inr rfl) (Cc cL (Cc Z4 (AU (pv 5)) A8) (Cc Fg (AU (pv 6)) A8)))
 (Bw (Vt (bz (W3 (WT (Cj U T I rfl (AV (Cj R M I rfl (AV (Cb (AU (pv 8)) A8 (fun _ _=>rfl)) (AV (Cb (AU (pv 8)) A8 (fun _ _=>rfl)) (AV (Cb (AU (pv 8)) A8 (fun _ _=>rfl)) (AV (AU (pv 13)) A4))))) (AV (MO [".0","_law_row","_law_less"] 1 [none,none,some 13] (Rb (AU (pv 9))) (fun _ _ _ _ _=>GG) (fun _ _ _ _ _=>(X8 (AU (pv 1)) b0 (Z0 (Cc Fg (AU (pv 2)) A8))))) A4))))))
  (B0 (Ik ZQ))
  PJ)
 (B0 (Ik (Cj U T I rfl (AV (Cj R M I rfl (AV (Cb (AU (pv 8)) A8 (fun _ _=>rfl)) (AV (Cb (AU (pv 8)) A8 (fun _ _=>rfl)) (AV (Cb (AU (pv 8)) A8 (fun _ _=>rfl)) (AV (AU (pv 6)) A4))))) (AV (AU (pv 9)) A4)))))))))
end
def sh(f:Nat->Rat):Nat->Rat:=fun i=>f (i+1)
def BE:(Nat->Rat)->(Nat->Rat)->Nat->Rat
 |f,g,0=>f 0*g 0
 |f,g,k+1=>f 0*g (k+1)+BE (sh f) g k
theorem Jm(f:Nat->Rat)(n:Nat):Ad f (n+1)=f 0::Ad (sh f) n:=by
 unfold Ad;rw[List.range_succ_eq_map,List.map_cons,List.map_map];rfl
theorem Tu:∀(k:Nat) (f g:Nat->Rat),BQ f g k=BE f g k
 |0,f,g=>by
  show(Ad _ (0+1)).sum=_;rw[Jm];show f 0*g (0-0)+(Ad _ 0).sum=_;simp[Ad,BE,Rat.add_zero]
 |k+1,f,g=>by
  show(Ad _ (k+1+1)).sum=_;rw[Jm,List.sum_cons,BE,<-Tu k (sh f) g]
  congr 1
  unfold BQ
  congr 1
  refine Nl fun j I=>?_;show f (j+1)*g (k+1-(j+1))=f (j+1)*g (k-j)
  congr 2
  lia
theorem Ms:∀(k:Nat) (f g:Nat->Rat),BE f g (k+1)=BE f (sh g) k+f (k+1)*g 0
 |0,f,g=>rfl
 |k+1,f,g=>by
  rw[BE,Ms k (sh f) g,BE];show f 0*g (k+1+1)+(BE (sh f) (sh g) k+f (k+1+1)*g 0)=f 0*g (k+1+1)+BE (sh f) (sh g) k+f (k+1+1)*g 0
  grind
theorem N0:∀(k:Nat) (f g:Nat->Rat),BE f g k=BE g f k
 |0,f,g=>Rat.mul_comm _ _
 |k+1,f,g=>by
  rw[BE,Ms k g f,N0 k (sh f) g]
  grind
theorem QQ(c:Rat):∀(k:Nat) (f g h:Nat->Rat),BE (fun i=>c*f i+g i) h k=c*BE f h k+BE g h k
 |0,f,g,h=>by
  show(c*f 0+g 0)*h 0=c*(f 0*h 0)+g 0*h 0
  grind
 |k+1,f,g,h=>by
  rw[BE,BE,BE];have:=QQ c k (sh f) (sh g) h;show(c*f 0+g 0)*h (k+1)+BE (fun i=>c*sh f i+sh g i) h k=_;rw[this]
  grind
theorem Mv:∀(k:Nat) (f g h:Nat->Rat),BE (BE f g) h k=BE f (BE g h) k
 |0,f,g,h=>Rat.mul_assoc _ _ _
 |k+1,f,g,h=>by
  rw[BE,BE];have e:sh (BE f g)=fun i=>f 0*sh g i+BE (sh f) g i:=rfl;rw[e,QQ,Mv k (sh f) g h];show f 0*g 0*h (k+1)+(f 0*BE (sh g) h k+BE (sh f) (BE g h) k)=f 0*(g 0*h (k+1)+BE (sh g) h k)+BE (sh f) (BE g h) k
  grind
theorem Fw(f g:Nat->Rat):BQ f g=BE f g:=funext fun k=>Tu k f g
theorem UN(f g:Nat->Rat):BQ f g=BQ g f:=by rw[Fw,Fw];exact funext fun k=>N0 k f g
theorem JS(f g h:Nat->Rat):BQ (BQ f g) h=BQ f (BQ g h):=by rw[Fw,Fw,Fw,Fw];exact funext fun k=>Mv k f g h
def DR(c:Rat):Nat->Rat:=fun k=>if k=0 then c else 0
theorem QS:∀(k:Nat) (f g:Nat->Rat),(∀i,f i=0)->BE f g k=0
 |0,f,g,h=>by show f 0*g 0=0;rw[h];simp
 |k+1,f,g,h=>by rw[BE,h,QS k (sh f) g fun i=>h (i+1)];simp[Rat.add_zero]
theorem Wj(c:Rat)(g:Nat->Rat):BQ (DR c) g=fun k=>c*g k:=by
 rw[Fw]
 funext k
 cases k with
 |zero=>rfl
 |succ k=>
  rw[BE,QS k (sh (DR c)) g fun i=>rfl];show c*g (k+1)+0=_;rw[Rat.add_zero]
theorem NH(g:Nat->Rat):BQ g (DR 1)=g:=by
 rw[UN,Wj]
 funext k
 simp
def Hr(x:Nat->Rat):Nat->(Nat->Rat)->Nat->Rat
 |0,f=>f
 |n+1,f=>BQ (Hr x n f) x
def IJ(X:Nat->Nat->Rat):List Int->Nat->Nat->Rat
 |[],_=>DR 1
 |p::ps,u=>BQ (Hr (X u) p.toNat (DR 1)) (IJ X ps (u+1))
theorem Q5(x:Nat->Rat)(f:Nat->Rat):∀n,Hr x n f=BQ f (Hr x n (DR 1))
 |0=>(NH f).symm
 |n+1=>by
  show BQ (Hr x n f) x=BQ f (BQ (Hr x n (DR 1)) x);rw[Q5 x f n,JS]
def MC(X:Nat->Nat->Rat):List Int->Nat->(Nat->Rat)->Nat->Rat
 |[],_,f=>f
 |p::ps,u,f=>MC X ps (u+1) (Hr (X u) p.toNat f)
theorem Qv(X:Nat->Nat->Rat):∀(ps:List Int) (u:Nat) (f:Nat->Rat),MC X ps u f=BQ f (IJ X ps u)
 |[],u,f=>(NH f).symm
 |p::ps,u,f=>by
  rw[MC,Qv X ps,Q5,JS];rfl
theorem QI(X:Nat->Nat->Rat):∀(ps:List Int) (k u:Nat),k<ps.length->1<=ps.getD k 0->IJ X ps u=BQ (IJ X (BK ps k) u) (X (u+k))
 |[],k,u,h,_=>by simp at h
 |p::ps,0,u,_,h=>by
  have h:1<=p:=by simpa using h
  have e:BK (p::ps) 0=(p-1)::ps:=by simp[BK]
  rw[e];show BQ (Hr (X u) p.toNat (DR 1)) _=BQ (BQ (Hr (X u) (p-1).toNat (DR 1)) _) _;rw[show p.toNat=(p-1).toNat+1 by lia,JS,UN (IJ X ps (u+1)),<-JS]
  rfl
 |p::ps,k+1,u,h,I=>by
  have e:BK (p::ps) (k+1)=p::BK ps k:=by simp[BK]
  rw[e];show BQ _ (IJ X ps (u+1))=BQ (BQ _ (IJ X (BK ps k) (u+1))) _;rw[QI X ps k (u+1) (by simpa using h) (by simpa using I),JS,show u+1+k=u+(k+1) by lia]
theorem Pp(X:Nat->Nat->Rat):∀(ps:List Int) (u:Nat),(∀p∈ps,0<=p)->ps.sum=0->IJ X ps u=DR 1
 |[],u,_,_=>rfl
 |p::ps,u,h,M=>by
  have a:=h p (.head _);have b:=CS fun q I=>h q (.tail _ I);rw[List.sum_cons]at M;show BQ (Hr (X u) p.toNat (DR 1)) _=_;rw[show p.toNat=0 by lia,Pp X ps (u+1) (fun q I=>h q (.tail _ I)) (by lia)];exact NH _
theorem Pa{nn:Nat}(X:Nat->Nat->Rat):∀(n:Nat) (ps:List Int),Cs nn ps->ps.sum=(n:Int)->KU X n ps=IJ X ps 0
 |0,ps,o,I=>(Pp X ps 0 o.nn (by lia)).symm
 |n+1,ps,o,I=>by
  have h0:ps.sum≠0:=by lia
  obtain⟨f1,f2⟩:=HK h0;have M:1<=ps.getD (fu ps) 0:=by
   have:=o.nn (ps.getD (fu ps) 0) (by rw[List.getD_eq_getElem?_getD,List.getElem?_eq_getElem f1];exact aa f1)
   lia
  show BQ (KU X n (BK ps (fu ps))) (X (fu ps))=_;rw[Pa X n _ (o.low h0) (by rw[sum_set _ _ f1];lia),QI X ps (fu ps) 0 f1 M,Nat.zero_add]
theorem YF{nn:Nat}(X:Nat->Nat->Rat){ps:List Int}(o:Cs nn ps)(c:Rat):MC X ps 0 (DR c)=fun k=>c*Gy X ps k:=by
 rw[Qv,Wj];unfold Gy;rw[Pa X _ ps o (by have:=CS o.nn;lia)]
def V0(ds:List PyData):Option PyData:=match ds with
 |[.int t,.int b]=>if b≠0/\b.natAbs<2^8800 then some (Ac (Rat.divInt t b)) else none
 |_=>none
theorem jY{P:Program}{w:World}{K:PySem.W.Frag}{mg:Str->Option Value}{base:Heap}{CX:IE}{k:Nat}{f:Addr}{fd:FuncData}{ps:List Str}(F:AM P w K mg base CX k f fd ps Qw):AM P w K mg base CX k f fd ps (Dh V0) :=
 O4 F fun ds x hm G H vs Q E d e kk=>by
  unfold V0 at hm;split at hm
  .split at hm
   .rename_i M;cases hm;obtain⟨v1,v2,rfl,U,T⟩:=d.Ky;rw[Du]at U T;subst U T;refine⟨_,_,8800,rfl,M.1,by decide,M.2,fun l H' R I=>?_⟩;obtain⟨G',n1,Z,Y,n4⟩:=gw e R I (Kb [(Rat.divInt _ _).num,((Rat.divInt _ _).den:Int)]);exact kk _ G' H' n1 Z Y R n4
   .cases hm
  .cases hm
theorem WQ{t b:Int}{n:Nat}(h:b≠0)(I:b.natAbs<2^n)(hn:n<=8800):V0 [.int t,.int b]=some (Ac (Rat.divInt t b)):=if_pos ⟨h,FM.Ce I hn⟩
abbrev UC:List PyData->Option PyData:=Bm V0
abbrev OC:List PyData->Option PyData:=Aw V0
theorem ZF{a b:Rat}{n:Nat}(ha:FM.Fits a n)(I:FM.Fits b n)(hn:n<=4400):UC [Ac a,Ac b]=some (Ac (a*b)):=by
 refine MM rfl ?_;unfold QC;refine J9 (CG (BF (CC (x:=.int a.num) (y:=.int b.num) rfl rfl (O8 ha.1 I.1 (by lia))) (BF (CC (x:=.int (a.den:Int)) (y:=.int (b.den:Int)) rfl rfl (O8 ha.d I.d (by lia))) rfl)) ((WQ (FM.Us a b) (FM.dd ha I) (by lia)).trans ?_));rw[FM.Yv]
theorem Oq{a b:Rat}{n:Nat}(ha:FM.Fits a n)(I:FM.Fits b n)(hn:n<=4400):OC [Ac a,Ac b]=some (Ac (a+b)):=by
 refine MM rfl ?_;unfold Mj;refine J9 (CG (BF (CC (x:=.int (a.num*b.den)) (y:=.int (b.num*a.den)) (CC (x:=.int a.num) (y:=.int (b.den:Int)) rfl rfl (O8 ha.1 I.d (by lia))) (CC (x:=.int b.num) (y:=.int (a.den:Int)) rfl rfl (O8 I.1 ha.d (by lia))) rfl) (BF (CC (x:=.int (a.den:Int)) (y:=.int (b.den:Int)) rfl rfl (O8 ha.d I.d (by lia))) rfl)) ((WQ (FM.Us a b) (FM.dd ha I) (by lia)).trans ?_));rw[FM.et]
theorem Jp:∀(l:List Rat) (x:Rat),(l++[x]).sum=l.sum+x
 |[],x=>by simp[Rat.add_zero,Rat.zero_add]
 |y::l,x=>by rw[List.cons_append,List.sum_cons,Jp l x,List.sum_cons,Rat.add_assoc]
def DM(a b:Nat->Rat)(k t:Nat):Rat:=(Ad (fun i=>a i*b (t-i)) (min k (t+1))).sum
theorem WH(a b:Nat->Rat)(t:Nat):DM a b 0 t=0:=by unfold DM;rw[Nat.zero_min];rfl
theorem XA(a b:Nat->Rat)(k j:Nat):DM a b (k+1) (k+j)=DM a b k (k+j)+a k*b j:=by
 unfold DM;rw[Nat.min_eq_left (by lia),Nat.min_eq_left (by lia),Pf,Jp,show k+j-k=j by lia]
theorem Yr{a b:Nat->Rat}{k t:Nat}(h:t<k):DM a b (k+1) t=DM a b k t:=by
 unfold DM;rw[Nat.min_eq_right (by lia),Nat.min_eq_right (by lia)]
theorem X9{a b:Nat->Rat}{n t:Nat}(h:t<n):DM a b n t=BQ a b t:=by
 unfold DM BQ;rw[Nat.min_eq_right (by lia)]
theorem XS{α:Type}(g:Nat->α)(n p:Nat)(y:α):((List.range n).map g).set p y=(List.range n).map fun t=>if t=p then y else g t:=by
 apply List.ext_getElem?;intro i;rw[List.getElem?_set,List.getElem?_map,List.getElem?_map,List.length_map,List.length_range];by_cases hi:i<n
 .rw[List.getElem?_range hi];by_cases z:p=i
  .subst z;simp[hi]
  .rw[if_neg z];simp[Ne.symm z,fun h:i=p=>z h.symm]
 .rw[List.getElem?_eq_none (by simpa using hi)];by_cases z:p=i
  .subst z;simp[hi]
  .rw[if_neg z];rfl
theorem My{g:Nat->PyData}{n j:Nat}(h:j<n):DN ((List.range n).map g) (j:Int)=some (g j) :=
 FG (by rw[List.getElem?_map,List.getElem?_range h];rfl)
theorem Df(f:Nat->Rat)(n:Nat):AN (Ad f n)=(List.range n).map fun t=>Ac (f t):=by unfold AN Ad;rw[List.map_map];rfl
abbrev Wm:List PyData->Option PyData:=BO UC OC
structure eI(a b:Nat->Rat)(n:Nat):Prop where
 fa:∀i,i<n->FM.Fits (a i) 4400
 fb:∀i,i<n->FM.Fits (b i) 4400
 fp:∀i j,i+j<n->FM.Fits (a i*b j) 4400
 fs:∀k t,t<n->FM.Fits (DM a b k t) 4400
theorem iU{a b:Nat->Rat}{n:Nat}(hn:n<=20)(o:eI a b n):Wm [Ak (Ad a n),Ak (Ad b n)]=some (Ak (Ad (BQ a b) n)):=by
 have ea:Ak (Ad a n)=.list ((List.range n).map fun t=>Ac (a t)):=by unfold Ak;rw[Df]
 have eb:Ak (Ad b n)=.list ((List.range n).map fun t=>Ac (b t)):=by unfold Ak;rw[Df]
 have ec:Ak (Ad (BQ a b) n)=.list ((List.range n).map fun t=>Ac (DM a b n t)):=by
  unfold Ak;rw[Df]
  congr 1
  exact aW fun t Y=>by rw[X9 (av.mp Y)]
 rw[ea,eb,ec];refine Ur rfl ?_;unfold Hl;generalize Z:PyData.list ((List.range n).map fun t=>Ac (a t))=A;generalize hB:PyData.list ((List.range n).map fun t=>Ac (b t))=B;have h0:D6 (Cu 1) DP (Ku (AK (fC (.int 0)) (AK (fC (.int 1)) An))) [none,none] (LI (nm 0)) [.d A,.d B,.no,.no,.no,.no]=some ((List.range n).map fun t=>Ac (DM a b 0 t)):=by
  have e:D6 (Cu 1) DP (Ku (AK (fC (.int 0)) (AK (fC (.int 1)) An))) [none,none] (LI (nm 0)) [.d A,.d B,.no,.no,.no,.no]=some (((List.range n).map fun t=>Ac (a t)).map fun _=>Ac 0):=by
   unfold D6;have R:LI (nm 0) [.d A,.d B,.no,.no,.no,.no]=some ((List.range n).map fun t=>Ac (a t)):=by rw[<-Z];rfl
   rw[R,Option.bind_some,J0 (g:=fun _=>Ac 0) fun x R=>?_,Option.bind_some,Gs,if_pos (by simp;exact aR hn (by decide))]
   rfl
  rw[e,List.map_map];exact bD some (aW fun t _=>by show Ac 0=_;rw[WH])
 refine DK (δ':=[.d A,.d B,.own (.lst ((List.range n).map fun t=>Ac (DM a b 0 t))),.no,.no,.no]) (by show(D6 _ _ _ _ _ [.d A,.d B,.no,.no,.no,.no]).map _=_;rw[h0];rfl) ?_;refine Ke (xs:=Gg ((List.range n).map fun t=>Ac (a t))) (fun k δ=>∃a3 a4 M:L,δ=[.d A,.d B,.own (.lst ((List.range n).map fun t=>Ac (DM a b k t))),a3,a4,M]) (by rw[<-Z];rfl) ⟨_,_,_,rfl⟩ ?_ ?_
 .rintro k x δ R ⟨a3,a4,M,rfl⟩;obtain⟨y,U,rfl⟩:=HX R;have hk:k<n:=by have:=(aB.mp U).1;simpa using this
  have U:y=Ac (a k):=by rw[List.getElem?_map,List.getElem?_range hk]at U;exact(aY U).symm
  subst U;refine⟨_,rfl,?_⟩;have hr:Bh Et (AK (Ay J5 (Bf O1 (AK (nm 0) An)) (nm 3)) An) [.d A,.d B,.own (.lst ((List.range n).map fun t=>Ac (DM a b k t))),.d (.int (k:Nat)),.d (Ac (a k)),M]=some (DX 0 ((n:Int)-(k:Nat)).toNat):=by
   refine Nh (j:=(n:Int)-(k:Nat)) ?_ (by lia) (by lia);refine CC (x:=.int (n:Nat)) (y:=.int (k:Nat)) ?_ rfl rfl;rw[<-Z];show some (PyData.int (((List.range n).map fun t=>Ac (a t)).length:Nat))=_;rw[List.length_map,List.length_range]
  obtain⟨T,e1,a5',rfl⟩:=JN (xs:=DX 0 ((n:Int)-(k:Nat)).toNat) (set:=M4 5) (F:=VF 2 (Bf OC (AK (Wd 2 (Ay Dc (nm 3) (nm 5))) (AK (Bf UC (AK (nm 4) (AK (Ay Ct (nm 1) (nm 5)) An))) An))) (Ay Dc (nm 3) (nm 5))) (fun j δ=>∃M:L,δ=[.d A,.d B,.own (.lst ((List.range n).map fun t=>Ac (if k<=t/\t<k+j then DM a b (k+1) t else DM a b k t))),.d (.int (k:Nat)),.d (Ac (a k)),M]) hr ⟨M,by
   congr 5
   exact aW fun t _=>by rw[if_neg (by lia)]⟩ (by
   rintro j x δ R ⟨M,rfl⟩;obtain⟨rfl,hj⟩:=OZ R;have I:k+j<n:=by lia
   rw[show(0:Int)+(j:Nat)=(j:Nat) by lia];refine⟨_,_,rfl,er (p:=k+j) (xs:=(List.range n).map fun t=>Ac (if k<=t/\t<k+j then DM a b (k+1) t else DM a b k t)) (CG (BF ?_ (BF (CG (BF (x:=Ac (a k)) rfl (BF (x:=Ac (b j)) ?_ rfl)) (ZF (o.fa k hk) (o.fb j (by lia)) (by decide))) rfl)) (Oq (a:=DM a b k (k+j)) (o.fs k (k+j) I) (o.fp k j I) (by decide))) ?_ rfl (by simpa using I),.d (.int (j:Nat)),?_⟩
   .show DN ((List.range n).map fun t=>Ac (if k<=t/\t<k+j then DM a b (k+1) t else DM a b k t)) ((k:Int)+(j:Int))=_;rw[show(k:Int)+(j:Int)=((k+j:Nat):Int) by lia,My I,if_neg (by lia)]
   .rw[<-hB];exact My (show j<n by lia)
   .show some (PyData.int ((k:Int)+(j:Int)))=_;rw[show(k:Int)+(j:Int)=((k+j:Nat):Int) by lia]
   .rw[<-XA,XS];show [_,_,_,_,_,_]=_
    congr 5
    refine aW fun t _=>?_;by_cases z:t=k+j
    .subst z;rw[if_pos rfl,if_pos (by lia)]
    .rw[if_neg z]
     congr 1
     by_cases y:k<=t/\t<k+j
     .rw[if_pos y,if_pos (by lia)]
     .rw[if_neg y,if_neg (by lia)])
  refine⟨_,e1,.d (.int (k:Nat)),.d (Ac (a k)),a5',?_⟩
  congr 5
  refine aW fun t Y=>?_;have Y:=av.mp Y
  congr 1
  simp only[DX,List.length_map,List.length_range];by_cases y:k<=t
  .rw[if_pos (by lia)]
  .rw[if_neg (by lia),Yr (by lia)]
 .rintro T ⟨a3,a4,M,rfl⟩;have hl:(Gg ((List.range n).map fun t=>Ac (a t))).length=n:=by unfold Gg;simp
  rw[hl]
  rfl
def Iz(D:Int)(N:Nat)(r:Rat):Prop:=∃t:Int,r*(D:Rat)=(t:Rat)/\t.natAbs<=2^N
theorem Iz.fits{D:Int}{N:Nat}{r:Rat}(h:Iz D N r)(U:1<=D)(I:D.natAbs<2^4400)(M:N<4400):FM.Fits r 4400:=by
 obtain⟨t,Y,R⟩:=h;have h0:D≠0:=by lia
 have e:=RF h0 t;have T:(D:Rat)≠0:=fun z=>h0 (Rat.intCast_inj.mp (z.trans Rat.intCast_zero.symm));have:r=Rat.divInt t D:=by
  generalize Rat.divInt t D=q at e
  grind
 rw[this];exact .dU h0 (GI R M) I
theorem Iz.mul{T R:Int}{M I:Nat}{r q:Rat}(h:Iz T M r)(k:Iz R I q):Iz (T*R) (M+I) (r*q):=by
 obtain⟨t,h1,Z⟩:=h;obtain⟨u,Y,U⟩:=k;refine⟨t*u,?_,?_⟩
 .rw[Rat.intCast_mul,Rat.intCast_mul,<-h1,<-Y];grind
 .rw[Int.natAbs_mul,Nat.pow_add];exact bY Z U
theorem Iz.up{D E:Int}{N e:Nat}{r:Rat}(h:Iz D N r)(I:E.natAbs<=2^e):Iz (D*E) (N+e) r:=by
 obtain⟨t,R,M⟩:=h;refine⟨t*E,?_,?_⟩
 .rw[Rat.intCast_mul,Rat.intCast_mul,<-R];grind
 .rw[Int.natAbs_mul,Nat.pow_add];exact bY M I
theorem Iz.zero{D:Int}{N:Nat}:Iz D N 0:=⟨0,by simp,by simp⟩
theorem Iz.mono{D:Int}{M N:Nat}{r:Rat}(h:Iz D M r)(I:M<=N):Iz D N r:=let⟨t,T,R⟩:=h;⟨t,T,Nat.le_trans R (bN (by decide) I)⟩
theorem Iz.cast{D E:Int}{N:Nat}{r:Rat}(h:Iz D N r)(e:D=E):Iz E N r:=e ▸ h
theorem Iz.sum{D:Int}{N:Nat}:∀ {l:List Rat},(∀r∈l,Iz D N r)->∃t:Int,l.sum*(D:Rat)=(t:Rat)/\t.natAbs<=l.length*2^N
 |[],_=>⟨0,by simp,by simp⟩
 |r::l,h=>by
  obtain⟨t,R,U⟩:=h r (.head _);obtain⟨u,I,T⟩:=Iz.sum (l:=l) fun q M=>h q (.tail _ M);refine⟨t+u,?_,?_⟩
  .rw[List.sum_cons,Rat.intCast_add,<-R,<-I];grind
  .have:=Int.natAbs_add_le t u;rw[List.length_cons,Nat.succ_mul];lia
theorem Iz.Y4{D:Int}{N e:Nat}{l:List Rat}(h:∀r∈l,Iz D N r)(I:l.length<=2^e):Iz D (N+e) l.sum:=by
 obtain⟨t,R,M⟩:=Iz.sum h;refine⟨t,R,Nat.le_trans M ?_⟩;rw[Nat.add_comm,Nat.pow_add];exact Nat.mul_le_mul_right _ I
structure QT(g P B:Int)(a b c:Nat):Prop where
 g1:1<=g
 P1:1<=P
 B1:1<=B
 gb:g.natAbs<2^17
 Pb:P.natAbs<2^400
 Bb:B.natAbs<2^193
 n:c+3*(a+3)+7*b+60<4400
 iu:14<=a
section
variable{g P B:Int}{a b c:Nat}
theorem QT.bot(z:QT g P B a b c){s k:Nat}(I:s<=3)(M:k<=7):1<=B*g^s*P^k/\(B*g^s*P^k).natAbs<2^4400:=by
 refine⟨Int.mul_pos (Int.mul_pos z.B1 (FL z.g1 s)) (FL z.P1 k),FM.Ce (FM.C8 (FM.C8 z.Bb (ED (p:=3) z.gb I)) (ED (p:=7) z.Pb M)) (by decide)⟩
def O5(g P:Int)(a b n:Nat)(x:Nat->Rat):Prop:=∀k,k<n->Iz (g*P^k) (a+b*k) (x k)
def Mu(g P B:Int)(a b c n s:Nat)(f:Nat->Rat):Prop:=∀k,k<n->Iz (B*g^s*P^k) (c+(a+3)*s+b*k) (f k)
theorem YR(z:QT g P B a b c){n:Nat}(hn:n<=8){x:Nat->Rat}(h:O5 g P a b n x):∀k,k<n->FM.Fits (x k) 4400:=fun k I=>by
 have M:=z.n;have R:b*k<=b*7:=aX _ (by lia);refine(h k I).fits (Int.mul_pos z.g1 (FL z.P1 k)) (FM.Ce (FM.C8 z.gb (ED (p:=7) z.Pb (by lia))) (by decide)) (by lia)
theorem Uc(z:QT g P B a b c){n s:Nat}(hn:n<=8)(I:s<=3){f:Nat->Rat}(h:Mu g P B a b c n s f):∀k,k<n->FM.Fits (f k) 4400:=fun k M=>by
 have R:=z.n;have T:b*k<=b*7:=aX _ (by lia);have ha:(a+3)*s<=(a+3)*3:=aX _ I;obtain⟨b1,b2⟩:=z.bot (s:=s) (k:=k) I (by lia);exact(h k M).fits b1 b2 (by lia)
theorem Tx{n s i j:Nat}{f x:Nat->Rat}(R:Mu g P B a b c n s f)(I:O5 g P a b n x)(M:i+j<n):Iz (B*g^(s+1)*P^(i+j)) (c+(a+3)*s+a+b*(i+j)) (f i*x j):=by
 refine(((R i (by lia)).mul (I j (by lia))).cast ?_).mono ?_
 .rw[Int.pow_succ,Int.pow_add];grind
 .rw[Nat.mul_add];lia
theorem Zz(z:QT g P B a b c){n s:Nat}(hn:n<=8)(Y:s<=2){f x:Nat->Rat}(R:Mu g P B a b c n s f)(I:O5 g P a b n x):eI f x n/\Mu g P B a b c n (s+1) (BQ f x):=by
 have hz:=z.n;have ha:(a+3)*s<=(a+3)*2:=aX _ Y;have ps:∀m t,t<n->m<=t+1->Iz (B*g^(s+1)*P^t) (c+(a+3)*s+a+b*t+3) (Ad (fun i=>f i*x (t-i)) m).sum:=fun m t T hm=>by
  refine Iz.Y4 (fun r U=>?_) (by rw[G5];lia);unfold Ad at U;obtain⟨i,hi,rfl⟩:=aL.mp U;have hi:=av.mp hi;have:=Tx (i:=i) (j:=t-i) R I (by lia);rw[show i+(t-i)=t by lia]at this;exact this
 refine⟨⟨Uc z hn (by lia) R,YR z hn I,fun i j M=>?_,fun k t T=>?_⟩,fun k Z=>?_⟩
 .have hb:b*(i+j)<=b*7:=aX _ (by lia);obtain⟨b1,b2⟩:=z.bot (s:=s+1) (k:=i+j) (by lia) (by lia);exact(Tx R I M).fits b1 b2 (by lia)
 .have hb:b*t<=b*7:=aX _ (by lia);obtain⟨b1,b2⟩:=z.bot (s:=s+1) (k:=t) (by lia) (by lia);exact(ps _ t T (Nat.min_le_right _ _)).fits b1 b2 (by lia)
 .refine(ps (k+1) k Z (aG _)).mono ?_;rw[Nat.mul_succ];lia
end
abbrev fN:List PyData->Option PyData:=K0 OC Wm
abbrev Bo(x:Nat->Nat->Rat)(nn n:Nat):PyData:=.list (Aq ((List.range nn).map fun u=>Ad (x u) n))
theorem NW{δ:Dv}{h:Dv->Option PyData}{n:Nat}(hn:n<=20)(e:h δ=some (.int (n:Nat))):Bz (Cu 1) DP (Ku (AK (fC (.int 0)) (AK (fC (.int 1)) An))) [none,none] (Bh Et (AK h An)) δ=some (.list ((List.range n).map fun _=>Ac 0)):=by
 refine(comp_map (xs:=DX 0 n) (g:=fun _=>Ac 0) ?_ ?_ fun x _=>rfl).trans ?_
 .have:=Nh (j:=(n:Int)) e (by lia) (by lia)
  simpa using this
 .unfold DX;simp;exact aR hn (by decide)
 .unfold DX;rw[List.map_map];rfl
theorem VH{xs ys:List PyData}(h:xs.length+ys.length<=500):Dc (.list xs) (.list ys)=some (.list (xs++ys)):=by
 have e:Sv (.list xs) (.list ys)=some (.list (xs++ys)):=if_pos (by unfold EX;lia);unfold Dc N7;show(match Sv (.list xs) (.list ys) with|some z=>some z|none=>_)=_;rw[e]
theorem Zj{c:Rat}{n:Nat}(hn:1<=n):[Ac c]++((List.range (n-1)).map fun _=>Ac 0)=AN (Ad (DR c) n):=by
 obtain⟨m,rfl⟩:∃m,n=m+1:=⟨n-1,by lia⟩;rw[Jm];show Ac c::_=Ac (DR c 0)::AN (Ad (sh (DR c)) m);rw[Df];rfl
theorem Ju:∀ {ps:List Int} (u:Nat),(∀p∈ps,0<=p)->(ps.take u).sum<=ps.sum/\0<=(ps.take u).sum
 |[],u,_=>by simp
 |p::ps,0,h=>by have:=CS h;simpa using this
 |p::ps,u+1,h=>by
  obtain⟨R,M⟩:=Ju (ps:=ps) u fun q I=>h q (.tail _ I);have:=h p (.head _);simp;lia
section
variable{g P B:Int}{a b c:Nat}{x:Nat->Nat->Rat}{nn n:Nat}
theorem Uo(z:QT g P B a b c)(hn8:n<=8)(hx:∀u,u<nn->O5 g P a b n (x u)){ps:List Int}(o:Cs nn ps){part:Rat}(hp:Mu g P B a b c n 0 (DR part))(d0 d1 d2 Z Y d7 d8 d9:L)(hd1:d1=.d (Bo x nn n)) :
  ∃e7 e8 I:L,Gi (Bh zip2 (AK (nm 4) (AK (nm 1) An))) (DY 7 8) (Gi (Bh Et (AK (nm 7) An)) (M4 9) (Fx 6 (Bf Wm (AK (nm 6) (AK (nm 8) An))))) [d0,d1,d2,Z,.d (.tuple (ps.map .int)),Y,.d (Ak (Ad (DR part) n)),d7,d8,d9]
   = some (.nx [d0,d1,d2,Z,.d (.tuple (ps.map .int)),Y,.d (Ak (Ad (fun k=>part*Gy x ps k) n)),e7,e8,I])/\Mu g P B a b c n 3 (fun k=>part*Gy x ps k):=by
 subst hd1;have hlen:(ps.map PyData.int).length=nn:=by rw[List.length_map];exact o.len
 obtain⟨δ',e1,e7,e8,I,f,rfl,fs,U⟩:=JN (xs:=EL (ps.map .int) (Aq ((List.range nn).map fun u=>Ad (x u) n))) (set:=DY 7 8) (F:=Gi (Bh Et (AK (nm 7) An)) (M4 9) (Fx 6 (Bf Wm (AK (nm 6) (AK (nm 8) An))))) (fs:=Bh zip2 (AK (nm 4) (AK (nm 1) An))) (δ:=[d0,.d (Bo x nn n),d2,Z,.d (.tuple (ps.map .int)),Y,.d (Ak (Ad (DR part) n)),d7,d8,d9])
  (fun u δ=>∃(e7 e8 I:L) (f:Nat->Rat),δ=[d0,.d (Bo x nn n),d2,Z,.d (.tuple (ps.map .int)),Y,.d (Ak (Ad f n)),e7,e8,I]/\Mu g P B a b c n (ps.take u).sum.toNat f/\MC x (ps.drop u) u f=MC x ps 0 (DR part)) rfl ⟨d7,d8,d9,DR part,rfl,hp,rfl⟩ (by
  rintro u y δ hy ⟨e7,e8,I,f,rfl,fs,U⟩;obtain⟨p',r',T,M,rfl⟩:=Ir hy;have hu:u<nn:=by rw[<-hlen];exact(aB.mp T).1
  have R:u<ps.length:=by rw[o.len];exact hu
  have hpu:ps[u]? = some ps[u]:=aI R;rw[List.getElem?_map,hpu]at T;cases T;have M:r'=Ak (Ad (x u) n):=by
   unfold Aq at M;rw[List.getElem?_map,List.getElem?_map,List.getElem?_range hu]at M;exact(aY M).symm
  subst M;have p0:0<=ps[u]:=o.nn _ (aa R);have hts:(ps.take (u+1)).sum=(ps.take u).sum+ps[u]:=by rw[List.take_add_one,hpu,Option.toList_some,List.sum_append,List.sum_singleton]
  obtain⟨t1,t2⟩:=Ju (ps:=ps) (u+1) o.nn;obtain⟨_,t4⟩:=Ju (ps:=ps) u o.nn;have h3:=o.s3;refine⟨[d0,.d (Bo x nn n),d2,Z,.d (.tuple (ps.map .int)),Y,.d (Ak (Ad f n)),.d (.int ps[u]),.d (Ak (Ad (x u) n)),I],?_⟩;obtain⟨δ',q1,e9',rfl,q2⟩:=JN (xs:=DX 0 (ps[u]).toNat) (set:=M4 9) (F:=Fx 6 (Bf Wm (AK (nm 6) (AK (nm 8) An)))) (fs:=Bh Et (AK (nm 7) An)) (δ:=[d0,.d (Bo x nn n),d2,Z,.d (.tuple (ps.map .int)),Y,.d (Ak (Ad f n)),.d (.int ps[u]),.d (Ak (Ad (x u) n)),I])
   (fun s δ=>∃I:L,δ=[d0,.d (Bo x nn n),d2,Z,.d (.tuple (ps.map .int)),Y,.d (Ak (Ad (Hr (x u) s f) n)),.d (.int ps[u]),.d (Ak (Ad (x u) n)),I]/\Mu g P B a b c n ((ps.take u).sum.toNat+s) (Hr (x u) s f)) (Nh (j:=ps[u]) rfl (by lia) (by lia)) ⟨I,rfl,fs⟩ (by
   rintro s y δ hy ⟨I,rfl,q2⟩;obtain⟨rfl,hs⟩:=OZ hy;obtain⟨rp,q3⟩:=Zz z hn8 (by lia) q2 (hx u hu);exact⟨_,_,rfl,Ek (CG rfl (iU (by lia) rp)),_,rfl,q3⟩)
  have hl:(DX 0 (ps[u]).toNat).length=(ps[u]).toNat:=by unfold DX;simp
  rw[hl]at q1 q2;refine⟨_,rfl,q1,_,_,_,_,rfl,?_,?_⟩
  .rw[show(ps.take (u+1)).sum.toNat=(ps.take u).sum.toNat+(ps[u]).toNat by lia];exact q2
  .rw[<-U,List.drop_eq_getElem_cons R];rfl)
 have hzl:(EL (ps.map PyData.int) (Aq ((List.range nn).map fun u=>Ad (x u) n))).length=nn:=by unfold EL Aq;simp[o.len]
 rw[hzl]at fs U;rw[List.take_of_length_le (by rw[o.len];exact aG _)]at fs;rw[List.drop_eq_nil_of_le (by rw[o.len];exact aG _)]at U;have U:f=fun k=>part*Gy x ps k:=by rw[<-YF x o];exact U
 subst U;refine⟨e7,e8,I,e1,fun k hk=>?_⟩;have s0:=CS o.nn;have h3:=o.s3;have hz:=z.n;obtain⟨e,he⟩:∃e,ps.sum.toNat+e=3:=⟨3-ps.sum.toNat,by lia⟩;have h17:(g^e).natAbs<=2^(17*e):=by
  rw[Int.natAbs_pow,Nat.pow_mul];exact Nat.pow_le_pow_left (bP z.gb) e
 have iu:=z.iu;refine(((fs k hk).up h17).cast ?_).mono ?_
 .rw[<-he,Int.pow_add];grind
 .have:17*e<=(a+3)*e:=Nat.mul_le_mul_right _ (by lia);have e3:(a+3)*3=(a+3)*ps.sum.toNat+(a+3)*e:=by rw[<-Nat.mul_add,he]
  lia
theorem of_is(z:QT g P B a b c)(M:n<=8)(hn1:1<=n)(hx:∀u,u<nn->O5 g P a b n (x u)){us:List Ah}(h16:us.length<=16)(ho:∀m∈us,Cs nn m.1/\Mu g P B a b c n 0 (DR m.2)) :
  fN [BS us,Bo x nn n,.int (n:Nat)]=some (Ak (Ad (KL x us) n)):=by
 refine MM rfl ?_;unfold K1
 let I:Nat->Nat->Rat:=fun i k=>((us.take i).map fun m=>m.2*Gy x m.1 k).sum
 have hz:=z.n;have JQ:∀i k,k<n->FM.Fits (I i k) 4400:=fun i k T=>by
  obtain⟨b1,b2⟩:=z.bot (s:=3) (k:=k) (by lia) (by lia);have hb:b*k<=b*7:=aX _ (by lia);refine(Iz.Y4 (D:=B*g^3*P^k) (N:=c+(a+3)*3+b*k) (e:=4) (fun r hr=>?_) ?_).fits b1 b2 (by lia)
  .obtain⟨m,hm,rfl⟩:=aL.mp hr;obtain⟨o,hp⟩:=ho m (bU hm);obtain⟨_,_,_,_,h3⟩:=Uo z M hx o hp .no _ .no .no .no .no .no .no rfl;exact h3 k T
  .rw[List.length_map,List.length_take];exact aR (Nat.min_le_right _ _) h16
 have hr0:AN (Ad (I 0) n)=(List.range n).map fun _=>Ac 0:=by
  rw[Df];rfl
 refine DK (Ek (y:=Ak (Ad (I 0) n)) ((NW (h:=nm 2) (n:=n) (by lia) rfl).trans (by unfold Ak;rw[hr0]))) ?_;refine Ke (xs:=us.map DC) (fun i δ=>∃d4 d5 d6 Z Y U:L,δ=[.d (BS us),.d (Bo x nn n),.d (.int (n:Nat)),.d (Ak (Ad (I i) n)),d4,d5,d6,Z,Y,U]) rfl ⟨_,_,_,_,_,_,rfl⟩ ?_ ?_
 .rintro i y δ hy ⟨d4,d5,d6,Z,Y,U,rfl⟩;have hi:i<us.length:=by have:=(aB.mp hy).1;simpa using this
  have hm:us[i]? = some us[i]:=aI hi;rw[List.getElem?_map,hm]at hy;cases hy;obtain⟨o,hp⟩:=ho _ (aa hi);have R:∀k,I (i+1) k=I i k+us[i].2*Gy x us[i].1 k:=fun k=>by
   show((us.take (i+1)).map _).sum=_;rw[List.take_add_one,hm,Option.toList_some,List.map_append];exact Jp _ _
  generalize us[i]=m at hm o hp R;refine⟨[.d (BS us),.d (Bo x nn n),.d (.int (n:Nat)),.d (Ak (Ad (I i) n)),.d (.tuple (m.1.map .int)),.d (Ac m.2),d6,Z,Y,U],rfl,?_⟩;have t1:Ay Dc (L7 (AK (nm 5) An)) (Bz (Cu 1) DP (Ku (AK (fC (.int 0)) (AK (fC (.int 1)) An))) [none,none] (Bh Et (AK (Ay J5 (nm 2) (fC (.int 1))) An))) [.d (BS us),.d (Bo x nn n),.d (.int (n:Nat)),.d (Ak (Ad (I i) n)),.d (.tuple (m.1.map .int)),.d (Ac m.2),d6,Z,Y,U]=some (Ak (Ad (DR m.2) n)):=by
   refine CC (x:=.list [Ac m.2]) (y:=.list ((List.range (n-1)).map fun _=>Ac 0)) rfl (NW (by lia) (CC (x:=.int (n:Nat)) (y:=.int 1) (z:=some (.int ((n-1:Nat):Int))) rfl rfl (by show some (PyData.int ((n:Int)-1))=_;rw[show(n:Int)-1=((n-1:Nat):Int) by lia]))) ?_;unfold Ak;rw[<-Zj hn1];exact VH (by rw[List.length_map,List.length_range,List.length_singleton];lia)
  obtain⟨e7,e8,e9,q1,q2⟩:=Uo z M hx o hp (.d (BS us)) _ (.d (.int (n:Nat))) (.d (Ak (Ad (I i) n))) (.d (Ac m.2)) Z Y U rfl;have tf:=Uc z M (aG 3) q2;have t3:Bz (DY 1 2) DP (Bf OC (AK (nm 1) (AK (nm 2) An))) [none,none,none] (Bh zip2 (AK (nm 3) (AK (nm 6) An))) [.d (BS us),.d (Bo x nn n),.d (.int (n:Nat)),.d (Ak (Ad (I i) n)),.d (.tuple (m.1.map .int)),.d (Ac m.2),.d (Ak (Ad (fun k=>m.2*Gy x m.1 k) n)),e7,e8,e9]=some (Ak (Ad (I (i+1)) n)):=by
   have:=P8 (i:=1) (j:=2) (f:=Bf OC (AK (nm 1) (AK (nm 2) An))) (fs:=Bh zip2 (AK (nm 3) (AK (nm 6) An))) (δ:=[.d (BS us),.d (Bo x nn n),.d (.int (n:Nat)),.d (Ak (Ad (I i) n)),.d (.tuple (m.1.map .int)),.d (Ac m.2),.d (Ak (Ad (fun k=>m.2*Gy x m.1 k) n)),e7,e8,e9]) (fr:=[none,none,none]) (zs:=List.range n) (a:=fun k=>Ac (I i k)) (b:=fun k=>Ac (m.2*Gy x m.1 k)) (g:=fun k=>Ac (I (i+1) k)) (by
    show some (EL (AN (Ad (I i) n)) (AN (Ad (fun k=>m.2*Gy x m.1 k) n)))=_;rw[Df,Df];unfold EL;rw[List.zip_map',List.map_map];rfl) (by simp;exact aR M (by decide)) (fun k T=>by
    have T:=av.mp T;refine CG (xs:=[Ac (I i k),Ac (m.2*Gy x m.1 k)]) rfl ((Oq (JQ i k T) (tf k T) (by decide)).trans ?_);rw[R])
   unfold Bz;rw[this];unfold Ak;rw[Df];rfl
  exact⟨_,DK (Ek t1) (DK q1 (Ek t3)),_,_,_,_,_,_,rfl⟩
 .rintro δ' ⟨d4,d5,d6,Z,Y,U,rfl⟩;rw[List.length_map];refine J9 ?_;show some (Ak (Ad (I us.length) n))=_;have:I us.length=KL x us:=by
   funext k
   show((us.take us.length).map _).sum=_;rw[List.take_length];rfl
  rw[this]
end
theorem Iz.of_eq{D t:Int}{N:Nat}{r:Rat}(h:r*(D:Rat)=(t:Rat))(I:t.natAbs<=2^N):Iz D N r:=⟨t,h,I⟩
theorem Py{α:Type}{i:Nat}{f:Dv->Option PyData}{fs:Dv->Option (List PyData)}{δ:Dv}{fr:List (Option Nat)}{zs:List α}{a g:α->PyData}(R:fs δ=some (zs.map a))(T:zs.length<=EX)
 (h:∀z∈zs,f ((CV fr δ).set i (.d (a z)))=some (g z)):D6 (Cu i) DP f fr fs δ=some (zs.map g):=by
 unfold D6;rw[R,Option.bind_some];have:∀zs:List α,(∀z∈zs,f ((CV fr δ).set i (.d (a z)))=some (g z))->L2.collect (Ht (Cu i) DP f (CV fr δ)) (zs.map a)=some (zs.map g):=fun zs=>by
  induction zs with
  |nil=>intro _;rfl
  |cons z zs I=>
   intro h;rw[List.map_cons,List.map_cons];unfold L2.collect;rw[I fun y M=>h y (.tail _ M)];have e:Ht (Cu i) DP f (CV fr δ) (a z)=some (some (g z)):=by
    unfold Ht Cu;rw[Option.bind_some];show(some true).bind _=_;rw[Option.bind_some,if_pos rfl,h z (.head _)]
    rfl
   rw[e];rfl
 rw[this zs h,Option.bind_some,Gs,if_pos (by rw[List.length_map];exact T)]
theorem Zk(r:Rat){n:Nat}(h:1<=n):IA n (Ac r):=by
 obtain⟨m,rfl⟩:∃m,n=m+1:=⟨n-1,by lia⟩;have hi:∀i:Int,IA m (.int i):=fun i=>by cases m with|zero=>exact⟨i,rfl⟩|succ m=>exact .inl ⟨i,rfl⟩
 refine .inr ⟨_,.inl rfl,by simp,fun e I=>?_⟩;rcases aS.mp I with rfl|I
 .exact hi _
 .rw[List.mem_singleton.mp I];exact hi _
theorem Zg{i j:Int}(h1:-1000000<=i)(R:i<=1000000)(M:-1000000<=j)(I:j<=1000000):O3 [.int i,.int j]=some (DX i (j-i).toNat):=if_pos ⟨h1,R,M,I⟩
theorem eE{xs:List PyData}{n:Nat}(h:n<=xs.length):VV (.list xs) none (some (n:Int))=some (.list (xs.take n)):=by
 show some (PyData.list (cutD xs none (some (n:Int))))=_;unfold cutD;simp only[HT.Ki,HT.Ib,List.drop_zero,Nat.sub_zero];rw[Nat.min_eq_left h]
theorem Rf{f:Nat->Rat}{n:Nat}(hn:1<=n):AN (Ad f n)=[Ac (f 0)]++((List.range (n-1)).map fun t=>Ac (f (t+1))):=by
 obtain⟨m,rfl⟩:∃m,n=m+1:=⟨n-1,by lia⟩;rw[Jm];show Ac (f 0)::AN (Ad (sh f) m)=_;rw[Df];rfl
structure ZG(row:List Rat)(ss:List (Nat->Nat->Rat))(nn n:Nat):Prop where
 len:row.length=ss.length
 n1:1<=n
 n8:n<=8
 fr:∀q∈row,FM.Fits q 4400
 fs:∀s∈ss,∀u k,u<nn->k<n->FM.Fits (s u k) 4400
 fp:∀(j:Nat) (q:Rat) (s:Nat->Nat->Rat),row[j]? = some q->ss[j]? = some s->∀u k,u<nn->k+1<n->FM.Fits (q*s u k) 4400
 ft:∀j u k,u<nn->k+1<n->FM.Fits (((row.zip ss).take j).map fun q=>q.1*q.2 u k).sum 4400
def FV(x0:Nat->Rat)(row:List Rat)(ss:List (Nat->Nat->Rat))(j u:Nat):Nat->Rat:=fun k=>match k with
 |0=>x0 u
 |k+1=>(((row.zip ss).take j).map fun q=>q.1*q.2 u k).sum
abbrev f9:List PyData->Option PyData:=Jo UC OC
abbrev IG(ss:List (Nat->Nat->Rat))(nn n:Nat):List PyData:=ss.map fun s=>Bo s nn n
theorem ee{x:Nat->Nat->Rat}{nn n u:Nat}(I:u<nn):DN (Aq ((List.range nn).map fun u=>Ad (x u) n)) (u:Int)=some (Ak (Ad (x u) n)) :=
 FG (by unfold Aq;rw[List.getElem?_map,List.getElem?_map,List.getElem?_range I];rfl)
theorem PK{f:Nat->Rat}{n k:Nat}(I:k<n):DN (AN (Ad f n)) (k:Int)=some (Ac (f k)):=by rw[Df];exact My I
theorem Xg{row:List Rat}{ss:List (Nat->Nat->Rat)}{nn n:Nat}(o:ZG row ss nn n){rs:List Rat}(hrl:rs.length=nn)(hn:nn<=20) :
  f9 [.list (AN rs),.list (IG ss nn n),.list (AN row),.int (n:Nat)]=some (Bo (FJ (rs.getD · 0) row ss) nn n):=by
 have n1:=o.n1;have n8:=o.n8;have e0:Bo (FJ (rs.getD · 0) row ss) nn n=.list ((List.range nn).map fun u=>Ak (Ad (FJ (rs.getD · 0) row ss u) n)):=by
  show PyData.list (Aq _)=_;unfold Aq;rw[List.map_map];rfl
 rw[e0];refine Ur rfl ?_;unfold Jn;generalize hA:PyData.list (AN rs)=A;generalize hB:PyData.list (IG ss nn n)=B;generalize hC:PyData.list (AN row)=C;refine DK (δ':=[.d A,.d B,.d C,.d (.int (n:Nat)),.own (.lst []),.no,.no,.no,.no]) rfl ?_;have hlen:Bf O1 (AK (nm 0) An) [.d A,.d B,.d C,.d (.int (n:Nat)),.own (.lst []),.no,.no,.no,.no]=some (.int (nn:Nat)):=by
  rw[<-hA];show some (PyData.int ((AN rs).length:Nat))=_;unfold AN;rw[List.length_map,hrl]
 refine Ke (xs:=DX 0 nn) (fun u δ=>∃d5 d6 U T:L,δ=[.d A,.d B,.d C,.d (.int (n:Nat)),.own (.lst ((List.range u).map fun v=>Ak (Ad (FJ (rs.getD · 0) row ss v) n))),d5,d6,U,T]) (by have:=Nh (j:=(nn:Int)) hlen (by lia) (by lia);simpa using this) ⟨_,_,_,_,rfl⟩ ?_ ?_
 .rintro u y δ hy ⟨d5,d6,U,T,rfl⟩;obtain⟨rfl,hu⟩:=OZ hy;rw[show(0:Int)+(u:Nat)=(u:Nat) by lia];generalize hO:(.own (.lst ((List.range u).map fun v=>Ak (Ad (FJ (rs.getD · 0) row ss v) n))):L)=O;refine⟨[.d A,.d B,.d C,.d (.int (n:Nat)),O,.d (.int (u:Nat)),d6,U,T],rfl,?_⟩;have hr:rs[u]? = some (rs[u]'(by lia)):=aI _;have hx0:rs.getD u 0=rs[u]'(by lia):=by rw[List.getD_eq_getElem?_getD,hr];rfl
  have t1:Ay Dc (L7 (AK (Ay Ct (nm 0) (nm 5)) An)) (Bz (Cu 1) DP (Ku (AK (fC (.int 0)) (AK (fC (.int 1)) An))) [none,none] (Bh Et (AK (Ay J5 (nm 3) (fC (.int 1))) An))) [.d A,.d B,.d C,.d (.int (n:Nat)),O,.d (.int (u:Nat)),d6,U,T]=some (Ak (Ad (FV (rs.getD · 0) row ss 0 u) n)):=by
   refine CC (x:=.list [Ac (rs.getD u 0)]) (y:=.list ((List.range (n-1)).map fun _=>Ac 0)) (Uk (xs:=[Ac (rs.getD u 0)]) (BF ?_ rfl) (show 1<=EX by decide)) (NW (by lia) (CC (x:=.int (n:Nat)) (y:=.int 1) (z:=some (.int ((n-1:Nat):Int))) rfl rfl (by show some (PyData.int ((n:Int)-1))=_;rw[show(n:Int)-1=((n-1:Nat):Int) by lia]))) ?_
   .rw[<-hA,hx0];exact FG (by unfold AN;rw[List.getElem?_map,hr];rfl)
   .unfold Ak;rw[Rf n1];exact VH (by rw[List.length_map,List.length_range,List.length_singleton];lia)
  obtain⟨Y,q1,e7,e8,rfl⟩:=JN (xs:=EL (IG ss nn n) (AN row)) (set:=DY 7 8) (fs:=Bh zip2 (AK (nm 1) (AK (nm 2) An))) (F:=Fx 6 (Ay Dc (L7 (AK (Ay Ct (nm 6) (fC (.int 0))) An)) (Bz (Cu 1) DP (Bf OC (AK (Ay Ct (nm 2) (nm 1)) (AK (Bf UC (AK (nm 3) (AK (Ay Ct (Ay Ct (nm 4) (nm 5)) (Ay J5 (nm 1) (fC (.int 1)))) An))) An))) [none,none,some 6,some 8,some 7,some 5] (Bh O3 (AK (fC (.int 1)) (AK (nm 3) An))))))
   (δ:=[.d A,.d B,.d C,.d (.int (n:Nat)),O,.d (.int (u:Nat)),.d (Ak (Ad (FV (rs.getD · 0) row ss 0 u) n)),U,T])
   (fun j δ=>∃e7 e8:L,δ=[.d A,.d B,.d C,.d (.int (n:Nat)),O,.d (.int (u:Nat)),.d (Ak (Ad (FV (rs.getD · 0) row ss j u) n)),e7,e8]) (by rw[<-hB,<-hC];rfl) ⟨U,T,rfl⟩ (by
   rintro j y δ hy ⟨e7,e8,rfl⟩;obtain⟨s',q',I,M,rfl⟩:=Ir hy;have hj:j<ss.length:=by have:=(aB.mp I).1;unfold IG at this;simpa using this
   have hjr:j<row.length:=by rw[o.len];exact hj
   have hs:ss[j]? = some ss[j]:=aI hj;have hq:row[j]? = some row[j]:=aI hjr;unfold IG at I;rw[List.getElem?_map,hs]at I;have I:=(aY I).symm;unfold AN at M;rw[List.getElem?_map,hq]at M;have M:=(aY M).symm;subst I M;have hz:(row.zip ss)[j]? = some (row[j],ss[j]):=List.getElem?_zip_eq_some.mpr ⟨hq,hs⟩;have fq:=o.fr _ (aa hjr);have fsj:=o.fs _ (aa hj);have R:=o.fp j _ _ hq hs;have ht:∀k,FV (rs.getD · 0) row ss (j+1) u (k+1)=FV (rs.getD · 0) row ss j u (k+1)+row[j]*ss[j] u k:=fun k=>by
    show(((row.zip ss).take (j+1)).map _).sum=_;rw[List.take_add_one,hz,Option.toList_some,List.map_append];exact Jp _ _
   generalize row[j]=q at hq hz fq R ht;generalize ss[j]=s at hs hz fsj R ht;refine⟨[.d A,.d B,.d C,.d (.int (n:Nat)),O,.d (.int (u:Nat)),.d (Ak (Ad (FV (rs.getD · 0) row ss j u) n)),.d (Bo s nn n),.d (Ac q)],_,rfl,Ek (y:=Ak (Ad (FV (rs.getD · 0) row ss (j+1) u) n)) ?_,_,_,rfl⟩;have hx:Bh O3 (AK (fC (.int 1)) (AK (nm 3) An)) [.d A,.d B,.d C,.d (.int (n:Nat)),O,.d (.int (u:Nat)),.d (Ak (Ad (FV (rs.getD · 0) row ss j u) n)),.d (Bo s nn n),.d (Ac q)]=some ((List.range (n-1)).map fun t=>PyData.int ((t+1:Nat):Int)):=by
    rw[SA (xs:=[.int 1,.int (n:Nat)]) rfl,Zg (by lia) (by lia) (by lia) (by lia),show((n:Int)-1).toNat=n-1 by lia];unfold DX;exact bD some (aW fun t _=>by rw[show(1:Int)+(t:Nat)=((t+1:Nat):Int) by lia])
   have hc:=Py (zs:=List.range (n-1)) (a:=fun t=>PyData.int ((t+1:Nat):Int)) (g:=fun t=>Ac (FV (rs.getD · 0) row ss (j+1) u (t+1))) (i:=1) (f:=Bf OC (AK (Ay Ct (nm 2) (nm 1)) (AK (Bf UC (AK (nm 3) (AK (Ay Ct (Ay Ct (nm 4) (nm 5)) (Ay J5 (nm 1) (fC (.int 1)))) An))) An))) (fr:=[none,none,some 6,some 8,some 7,some 5]) hx (by rw[List.length_range];exact aR (show n-1<=20 by lia) (by decide)) fun t Z=>by
    have Z:=av.mp Z;have f1:FM.Fits (FV (rs.getD · 0) row ss j u (t+1)) 4400:=o.ft j u t hu (by lia);refine CG (BF (x:=Ac (FV (rs.getD · 0) row ss j u (t+1))) (PK (show t+1<n by lia)) (BF (x:=Ac (q*s u t)) (CG (BF (x:=Ac q) rfl (BF (x:=Ac (s u t)) (CC (x:=Ak (Ad (s u) n)) (y:=.int (t:Nat)) (CC (x:=Bo s nn n) (y:=.int (u:Nat)) rfl rfl (ee hu)) (CC (x:=.int ((t+1:Nat):Int)) (y:=.int 1) rfl rfl (by show some (PyData.int (((t+1:Nat):Int)-1))=_;rw[show((t+1:Nat):Int)-1=(t:Nat) by lia])) (PK (show t<n by lia))) rfl)) (ZF fq (fsj u t hu (by lia)) (by decide))) rfl)) ((Oq f1 (R u t hu (by lia)) (by decide)).trans ?_);rw[ht]
   refine CC (x:=.list [Ac (FV (rs.getD · 0) row ss (j+1) u 0)]) (y:=.list ((List.range (n-1)).map fun t=>Ac (FV (rs.getD · 0) row ss (j+1) u (t+1)))) (Uk (xs:=[Ac (FV (rs.getD · 0) row ss (j+1) u 0)]) (BF (PK (f:=FV (rs.getD · 0) row ss j u) (show 0<n by lia)) rfl) (show 1<=EX by decide)) (by unfold Bz;rw[hc];rfl) ?_;unfold Ak;rw[Rf n1];exact VH (by rw[List.length_map,List.length_range,List.length_singleton];lia))
  have hzl:(EL (IG ss nn n) (AN row)).length=(row.zip ss).length:=by unfold EL IG AN;simp[o.len]
  have hfin:FV (rs.getD · 0) row ss (EL (IG ss nn n) (AN row)).length u=FJ (rs.getD · 0) row ss u:=by
   funext k
   cases k with
   |zero=>rfl
   |succ k=>
    show(((row.zip ss).take _).map _).sum=_;rw[hzl,List.take_length];rfl
  rw[hfin]at q1;refine⟨_,DK (Ek t1) (DK q1 ?_),.d (.int (u:Nat)),.d (Ak (Ad (FJ (rs.getD · 0) row ss u) n)),e7,e8,rfl⟩;rw[<-hO,List.range_succ,List.map_append];show(if _ then _ else _)=_;exact if_pos (by simp;exact aQ (show u<=20 by lia) (by decide))
 .rintro Y ⟨d5,d6,U,T,rfl⟩;have hl:(DX 0 nn).length=nn:=by unfold DX;simp
  rw[hl];rfl
abbrev Bs(uss:List (List Ah)):PyData:=.list (uss.map BS)
def intOf:PyData->Int
 |.int i=>i
 |_=>0
def V8:PyData->Ah
 |.tuple [.tuple ps,r]=>(ps.map intOf,Gd r)
 |_=>([],0)
def WE:PyData->List Ah
 |.list ts=>ts.map V8
 |_=>[]
def Gu:PyData->List (List Ah)
 |.list xs=>xs.map WE
 |_=>[]
theorem Pl:∀ps:List Int,(ps.map PyData.int).map intOf=ps
 |[]=>rfl
 |p::ps=>by rw[List.map_cons,List.map_cons,Pl ps];rfl
theorem XG(m:Ah):V8 (DC m)=m:=by
 show((m.1.map PyData.int).map intOf,Gd (Ac m.2))=m;rw[Pl,NG]
theorem KO{α β:Type}{f:α->β}{g:β->α}(h:∀a,g (f a)=a):∀l:List α,(l.map f).map g=l
 |[]=>rfl
 |a::l=>by rw[List.map_cons,List.map_cons,KO h l,h]
theorem XF(us:List Ah):WE (BS us)=us:=KO XG us
theorem Vu(uss:List (List Ah)):Gu (Bs uss)=uss:=KO XF uss
theorem Yj(m:Ah):(DC m).canLay0=true:=U7 fun d hd=>by
 rcases aS.mp hd with rfl|hd
 .exact U7 fun d hd=>by obtain⟨p,_,rfl⟩:=aL.mp hd;simp[PyData.canLay0]
 .rw[List.mem_singleton.mp hd];exact Uh _
theorem YX(us:List Ah):(BS us).canLay0=true:=U9 fun d hd=>by obtain⟨p,_,rfl⟩:=aL.mp hd;exact Yj p
theorem WY(rs:List Rat):PyData.canLayAll0 (AN rs)=true:=LS fun d hd=>by
 unfold AN at hd;obtain⟨p,_,rfl⟩:=aL.mp hd;exact Uh p
theorem Pu{G H H':Hp}:∀ {rs:List (List Rat)} {xs:List V},A3 H' (Aq rs) xs->(∀z∈xs,∃a,z=.ref a/\H a=none)->Aj (IB G H H') (Aq rs) xs
 |[],xs,h,_=>by
  have:=h.len;have e:xs=[]:=bg (by simpa[Aq]using this);rw[e];exact .nil
 |q::M,xs,h,hn=>by
  obtain⟨x,r,rfl,Y,U⟩:=A3.ZA (d:=Ak q) (ds:=Aq M) h;obtain⟨a,ys,e,ha,Z⟩:=Y.K4;obtain⟨b,I,T⟩:=hn x (.head _);rw[e]at I;cases I;subst e;refine .cons ?_ (Pu U fun z R=>hn z (.tail _ R));show Du _ (.list (AN q)) _;rw[Du];exact⟨a,ys,rfl,Vx ha T,N6 Z⟩
theorem MD:∀ {n:Nat} {d:PyData},IA n d->d.canLay0=true
 |0,d,⟨i,h⟩=>by rw[h];simp[PyData.canLay0]
 |n+1,d,h=>by
  rcases h with ⟨i,h⟩|⟨R,h,_,M⟩
  .rw[h];simp[PyData.canLay0]
  .rcases h with h|h
   .rw[h];exact U7 fun e I=>MD (M e I)
   .rw[h];exact U9 fun e I=>MD (M e I)
open Classical in
noncomputable def Nx(n:Nat)(ds:List PyData):Option PyData:=match ds with
 |[d,e]=>if d=e/\IA n d then some (.bool true) else none
 |_=>none
theorem KY{n:Nat}{d e:PyData}(h:d=e)(hn:IA n d):Nx n [d,e]=some (.bool true):=if_pos ⟨h,hn⟩
section
variable{P:Program}{w:World}{K:PySem.W.Frag}{mg:Str->Option Value}{base:Heap}{CX:IE}{k:Nat}{f:Addr}{fd:FuncData}{ps:List Str}
theorem gO{n:Nat}(F:AM P w K mg base CX k f fd ps (WA (n+1))):AM P w K mg base CX k f fd ps (Dh (Nx n)) :=
 O4 F fun ds x hm G H vs Q E d e U=>by
  unfold Nx at hm;split at hm
  .split at hm
   .rename_i Y;obtain⟨Z,I⟩:=Y;cases hm;subst Z;obtain⟨T,R,rfl,d1,d2⟩:=d.Ky;refine⟨_,T,R,n,rfl,rfl,I,MQ (MD I) (d1.same e),MQ (MD I) (d2.same e),fun H' M=>?_⟩;exact U (.bl true) G H' (.refl _) Nw.refl (e.trans M) M (by rw[Du])
   .cases hm
  .cases hm
end
def HH:PyData->List Rat
 |.list xs=>xs.map Gd
 |_=>[]
theorem OA(r:List Rat):HH (.list (AN r))=r:=by
 unfold HH AN;show List.map Gd (r.map Ac)=r;rw[List.map_map];exact List.map_id'' (fun q=>NG q) r
def tabOf:PyData->Tb
 |.tuple [.list rs,d]=>⟨rs.map HH,HH d⟩
 |_=>⟨[],[]⟩
theorem Yb(t:Tb):tabOf (CF t)=t:=by
 unfold CF tabOf;have e:(Aq t.rs).map HH=t.rs:=by
  unfold Aq;rw[List.map_map];exact List.map_id'' (fun r=>OA r) t.rs
 show Tb.mk ((Aq t.rs).map HH) (HH (.list (AN t.ls)))=t;rw[e,OA]
theorem cK(t:Tb):(CF t).canLay0=true:=by
 have f:∀r:List Rat,PyData.canLayAll0 (AN r)=true:=fun r=>by
  induction r with
  |nil=>rfl
  |cons q r I=>show PyData.canLayAll0 (Ac q::AN r)=true;simp[PyData.canLayAll0,I,Ac,PyData.canLay0]
 have g:∀rs:List (List Rat),PyData.canLayAll0 (Aq rs)=true:=fun rs=>by
  induction rs with
  |nil=>rfl
  |cons r rs I=>show PyData.canLayAll0 (Ak r::Aq rs)=true;simp[PyData.canLayAll0,I,Ak,PyData.canLay0,f]
 simp[CF,PyData.canLay0,PyData.canLayAll0,f,g]
theorem Iy.get{nn:Nat}{c:Nat->Rat}:∀ {I:List (Nat->Nat->Int)} {ss:List (Nat->Nat->Rat)} {j:Nat} {s:Nat->Nat->Rat},Iy nn c I ss->ss[j]? = some s->∃S,I[j]? = some S/\∀u k,u<nn->((S u k:Int):Rat)=c k*s u k
 |[],[],j,s,_,h=>by simp at h
 |S::_,s0::_,0,s,k,h=>by
  simp at h;subst h;exact⟨S,rfl,k.1⟩
 |_::_,_::_,j+1,s,k,h=>by
  obtain⟨S,R,M⟩:=Iy.get (j:=j) k.2 (by simpa using h);exact⟨S,by simpa using R,M⟩
 |[],_::_,_,_,k,_=>k.elim
 |_::_,[],_,_,k,_=>k.elim
section
variable{t:Tb}{uss:List (List Ah)}{rs:List Rat}{most nn:Nat}
theorem A7.i9(o:A7 t uss rs most nn):QT (AY rs) (CM t uss rs) (BH uss) 21 371 250:=by
 obtain⟨g1,R,_⟩:=o.Je;obtain⟨b1,b2,_⟩:=EZ (by rw[o.len];exact o.n4) o.LN;obtain⟨_,_,M,I⟩:=o.C6;exact⟨g1,I,b1,R,M,b2,by decide,by decide⟩
theorem A7.tl(o:A7 t uss rs most nn):(ER t).length=(Ag t).length:=bW _
theorem A7.jz(o:A7 t uss rs most nn){i:Nat}(hi:i<=(Ag t).length):∀u,u<nn->O5 (AY rs) (CM t uss rs) 21 371 (most+1) ((Az t uss rs i).2 u):=fun u I k M=>by
 have hm:=o.Mn;refine .of_eq (t:=(DB t uss rs i).2 u k) ?_ ((o.xb i (by rw[o.tl];exact hi)).2 u k I (by lia));rw[(o.rel i hi).2 u k I,Rat.intCast_mul (AY rs),Es]
 grind
theorem A7.jE(o:A7 t uss rs most nn){i:Nat}(hi:i<=(Ag t).length){j:Nat}{s:Nat->Nat->Rat}(h:(Az t uss rs i).1[j]? = some s):∀u k,u<nn->k<=7->Iz (BH uss*AY rs^A6 uss*CM t uss rs^k) (326+371*k) (s u k):=fun u k I M=>by
 obtain⟨S,T,R⟩:=(o.rel i hi).1.get h;refine .of_eq (t:=S u k) ?_ ((o.xb i (by rw[o.tl];exact hi)).1 S (aJ T) u k I M);rw[R u k I,Rat.intCast_mul,Rat.intCast_mul,Es,Es]
 grind
theorem A7.lB(o:A7 t uss rs most nn):∀us∈uss,∀m∈us,Mu (AY rs) (CM t uss rs) (BH uss) 21 371 250 (most+1) 0 (DR m.2):=fun us I m hm k U=>by
 obtain⟨b1,b2,T⟩:=EZ (by rw[o.len];exact o.n4) o.LN;cases k with
 |succ k=>exact .zero
 |zero=>
  refine .of_eq (t:=m.2.num*(BH uss).fdiv (m.2.den:Int)) ?_ ?_
  .rw[Gj (T us I m hm)];show m.2*((BH uss*AY rs^0*_^0:Int):Rat)=_;rw[Int.pow_zero,Int.pow_zero,Int.mul_one,Int.mul_one];exact Rat.mul_comm _ _
  .have R:=((o.LN us I).2 m hm).1;have M:((BH uss).fdiv (m.2.den:Int)).natAbs<2^193:=aQ (FM.BX _ _) b2;exact bP (FM.Ce (FM.C8 R M) (by decide))
theorem XB(x0:Nat->Rat)(uss:List (List Ah)):∀(rows:List (List Rat)) (z:List (Nat->Nat->Rat)×(Nat->Nat->Rat)),(HQ x0 uss rows z).1.length=z.1.length+rows.length
 |[],z=>by simp[HQ]
 |r::rows,z=>by rw[HQ,XB x0 uss rows];simp;lia
theorem A7.ql(o:A7 t uss rs most nn){i:Nat}(hi:i<=(Ag t).length):(Az t uss rs i).1.length=i:=by
 have:=XB (rs.getD · 0) uss ((Ag t).take i) ([],XC (rs.getD · 0));rw[List.length_take,Nat.min_eq_left hi,List.length_nil,Nat.zero_add]at this;exact this
theorem A7.led(o:A7 t uss rs most nn){i:Nat}(hi:i<=(Ag t).length){row:List Rat}(hl:row.length=i)(U:∀q∈row,FM.Fits q 3/\(q.den:Int) ∣ DZ t):ZG row (Az t uss rs i).1 nn (most+1):=by
 have hm:=o.Mn;have z:=o.i9;obtain⟨g1,g2,_⟩:=o.Je;obtain⟨t1,t2,_⟩:=o.bot;obtain⟨_,_,p3,p4⟩:=o.C6;obtain⟨gr1,gr3,_⟩:=HA (uss:=uss) (c:=3) (by decide) fun us Y m hm=>(o.sum us Y m hm).2;have hg3:A6 uss<=3:=by unfold A6;lia
 have hql:=o.ql hi;have hi4:i<=4:=by have:=o.NP.1;have:=o.tab.most;lia
 have T:∀k,DZ t*(BH uss*AY rs^A6 uss*CM t uss rs^k)=AY rs*CM t uss rs^(k+1):=fun k=>by
  obtain⟨e,he⟩:∃e,A6 uss=e+1:=⟨A6 uss-1,by unfold A6;lia⟩;have hP:CM t uss rs=BH uss*AY rs^e*DZ t:=by
   show Jr uss (AY rs)*DZ t=_;unfold Jr;rw[he,Nat.add_sub_cancel]
  rw[he,Int.pow_succ _ e,Int.pow_succ _ k];generalize CM t uss rs^k=Pk;rw[hP];generalize AY rs^e=ge
  grind
 have R:∀(j:Nat) (q:Rat) (s:Nat->Nat->Rat),row[j]? = some q->(Az t uss rs i).1[j]? = some s->∀u k,u<nn->k+1<most+1->Iz (AY rs*CM t uss rs^(k+1)) (390+371*k) (q*s u k):=fun j q s R Z u k M I=>by
  obtain⟨f3,dv⟩:=U q (aJ R);have h1:Iz (DZ t) 64 q:=by
   refine .of_eq (t:=q.num*(DZ t).fdiv (q.den:Int)) (by rw[Gj dv];exact Rat.mul_comm _ _) ?_;have h2:((DZ t).fdiv (q.den:Int)).natAbs<2^61:=aQ (FM.BX _ _) t2;exact bP (FM.C8 f3.1 h2)
  exact((h1.mul (o.jE hi Z u k M (by lia))).cast (T k)).mono (by lia)
 have hD:∀k,k+1<most+1->1<=AY rs*CM t uss rs^(k+1)/\(AY rs*CM t uss rs^(k+1)).natAbs<2^4400:=fun k I=>
  ⟨Int.mul_pos g1 (FL p4 _),FM.Ce (FM.C8 g2 (ED (p:=7) p3 (by lia))) (by decide)⟩
 refine⟨by lia,by lia,by lia,fun q R=>(U q R).1.mono,fun s Z u k M I=>?_,fun j q s h1 h2 u k M I=>?_,fun j u k M I=>?_⟩
 .obtain⟨j,hj⟩:=ax Z;obtain⟨b1,b2⟩:=z.bot (s:=A6 uss) (k:=k) hg3 (by lia);exact(o.jE hi hj u k M (by lia)).fits b1 b2 (by lia)
 .obtain⟨b1,b2⟩:=hD k I;exact(R j q s h1 h2 u k M I).fits b1 b2 (by lia)
 .obtain⟨b1,b2⟩:=hD k I;refine(Iz.Y4 (N:=390+371*k) (e:=2) (fun r U=>?_) ?_).fits b1 b2 (by lia)
  .obtain⟨p,hp,rfl⟩:=aL.mp U;obtain⟨j',hj'⟩:=ax (bU hp);obtain⟨k1,k2⟩:=List.getElem?_zip_eq_some.mp hj';exact R j' p.1 p.2 k1 k2 u k M I
  .rw[List.length_map,List.length_take,List.length_zip];have:min row.length (Az t uss rs i).1.length<=4:=by lia
   lia
theorem A7.there(o:A7 t uss rs most nn){i:Nat}{row:List Rat}(I:t.rs[i]? = some row):FJ (rs.getD · 0) row (Az t uss rs i).1=(Az t uss rs i).2/\i<=(Ag t).length/\row.length=i/\∀q∈row,FM.Fits q 3/\(q.den:Int) ∣ DZ t:=by
 obtain⟨Z,Y⟩:=o.NP;obtain⟨_,_,t3⟩:=o.bot;have U:i<t.rs.length:=(aB.mp I).1;have M:=o.tab.row i row I;refine⟨?_,by lia,M,fun q R=>⟨o.JQ.1 row (aJ I) q R,?_⟩⟩
 .cases i with
  |zero=>
   have:row=[]:=bg M;subst this
   funext u k
   cases k with
   |zero=>rfl
   |succ k=>rfl
  |succ i=>
   have T:(Ag t)[i]? = some row:=by
    unfold Ag;rw[List.getElem?_append_left (by simp;lia),List.getElem?_drop,Nat.add_comm];exact I
   unfold Az;rw[List.take_add_one,T,Option.toList_some,HS]
 .cases i with
  |zero=>
   have:row=[]:=bg M;subst this;cases R
  |succ i=>
   refine t3 row ?_ q R;unfold Ag;refine bF _ (aJ (i:=i) ?_);rw[List.getElem?_drop,Nat.add_comm];exact I
theorem A7.last(o:A7 t uss rs most nn):FJ (rs.getD · 0) t.ls (Az t uss rs t.rs.length).1=(C9 (rs.getD · 0) uss (Ag t)).2/\t.ls.length=t.rs.length/\∀q∈t.ls,FM.Fits q 3/\(q.den:Int) ∣ DZ t:=by
 obtain⟨M,U⟩:=o.NP;obtain⟨_,_,t3⟩:=o.bot;have Y:=o.tab.one;refine⟨?_,o.tab.last,fun q I=>⟨o.JQ.2 q I,t3 t.ls (by unfold Ag;simp) q I⟩⟩;have T:Az t uss rs t.rs.length=C9 (rs.getD · 0) uss (Ag t):=by unfold Az;rw[<-M,List.take_length]
 rw[T];have R:Ag t=t.rs.drop 1++[t.ls]:=rfl;rw[R,HS]
theorem A7.next(o:A7 t uss rs most nn){i:Nat}(hi:i<(Ag t).length):(Az t uss rs (i+1)).1=(Az t uss rs i).1++[Fp uss (Az t uss rs i).2]:=by
 have I:(Ag t)[i]? = some (Ag t)[i]:=aI hi;unfold Az;rw[List.take_add_one,I,Option.toList_some,HS]
theorem A7.of(o:A7 t uss rs most nn){i:Nat}(hi:i<=(Ag t).length){us:List Ah}(I:us∈uss):fN [BS us,Bo (Az t uss rs i).2 nn (most+1),.int ((most+1:Nat):Int)]=some (Ak (Ad (KL (Az t uss rs i).2 us) (most+1))) :=
 of_is o.i9 (by have:=o.Mn;lia) (by lia) (o.jz hi) (by have:=(o.fit us I).1;lia) fun m hm=>⟨o.pw us I m hm,o.lB us I m hm⟩
end
open Classical in
noncomputable def Mh(d:Nat)(ds:List PyData):Option PyData:=match ds with
 |[x,c,.list ys,.int n]=>if x=CF (tabOf x)/\c=Bs (Gu c)/\ys=AN (ys.map Gd)/\(d:Int)<=n/\∃nn,A7 (tabOf x) (Gu c) (ys.map Gd) (n-d).toNat nn then some (Bo (C9 ((ys.map Gd).getD · 0) (Gu c) (Ag (tabOf x))).2 (Gu c).length ((n-d).toNat+1)) else none
 |_=>none
theorem LD{d:Nat}{t:Tb}{uss:List (List Ah)}{rs:List Rat}{most nn:Nat}(o:A7 t uss rs most nn):Mh d [CF t,Bs uss,.list (AN rs),.int ((most+d:Nat):Int)]=some (Bo (C9 (rs.getD · 0) uss (Ag t)).2 nn (most+1)):=by
 have R:(AN rs).map Gd=rs:=KO NG rs;have M:=Vu uss;have I:=Yb t;have T:(((most+d:Nat):Int)-(d:Int)).toNat=most:=by lia
 unfold Mh;refine(if_pos ⟨by rw[I],by rw[M],by rw[R],by lia,nn,by rw[R,M,I,T];exact o⟩).trans ?_;rw[R,M,I,T,o.len]
def Qp(H:Hp)(S:Addr):Prop:=∃I:List V,H S=some (.lst I)/\∀v∈I,∃a xs,v=.ref a/\H a=some (.lst xs)
theorem Zy{H:Hp}{S:Addr}(Z:Qp H S){q:Rat}{R:List Rat}{v:V}(h:Du H (Ak (q::R)) v):v≠.ref S:=fun z=>by
 subst z;obtain⟨T,h1,h2⟩:=Z;unfold Ak at h;rw[Du]at h;obtain⟨a,xs,e,ha,U⟩:=h;cases e;rw[h1]at ha;cases ha;obtain⟨x,r,rfl,M,_⟩:=Aj.un (d:=Ac q) (ds:=AN R) U;obtain⟨b,ys,rfl,Y⟩:=h2 x (.head _);unfold Ac at M;rw[Du]at M;obtain⟨b',zs,e,I,_⟩:=M;cases e;rw[Y]at I;cases I
def off(G:Hp)(S:Addr):Hp:=fun a=>if a=S then none else G a
theorem off_ne{G:Hp}{S a:Addr}(h:a≠S):off G S a=G a:=if_neg h
theorem RO{G:Hp}{S:Addr}{M:List V}(U:G S=some (.lst M)):∀ {I:List Rat} {xs:List V},Aj G (AN I) xs->Aj (off G S) (AN I) xs
 |[],xs,h=>by rw[Aj.nil_eq h];exact .nil
 |q::I,xs,h=>by
  obtain⟨x,r,rfl,T,Z⟩:=Aj.un (d:=Ac q) (ds:=AN I) h;refine .cons ?_ (RO U Z);unfold Ac at T ⊢;rw[Du]at T ⊢;obtain⟨a,ys,rfl,ha,Y⟩:=T;have R:=Kc (ns:=[q.num,(q.den:Int)]) Y;refine⟨a,ys,rfl,by rw[off_ne (fun z=>by subst z;rw[U]at ha;cases ha)];exact ha,?_⟩;rw[R];exact Kb [q.num,(q.den:Int)]
theorem X7{G:Hp}{S:Addr}(M:Qp G S){q:Rat}{I:List Rat}{v:V}(h:Du G (Ak (q::I)) v):Du (off G S) (Ak (q::I)) v:=by
 have n:=Zy M h;obtain⟨R,U,_⟩:=M;unfold Ak at h ⊢;rw[Du]at h ⊢;obtain⟨a,xs,rfl,ha,T⟩:=h;exact⟨a,xs,rfl,by rw[off_ne (fun z=>n (by rw[z]))];exact ha,RO U T⟩
theorem QU{G:Hp}{S:Addr}(R:Qp G S):∀ {rs:List (List Rat)} {xs:List V},(∀r∈rs,r≠[])->Aj G (Aq rs) xs->Aj (off G S) (Aq rs) xs
 |[],xs,_,h=>by rw[Aj.nil_eq h];exact .nil
 |r::rs,xs,M,h=>by
  obtain⟨x,Z,rfl,Y,U⟩:=Aj.un (d:=Ak r) (ds:=Aq rs) h;obtain⟨q,I,rfl⟩:∃q I,r=q::I:=by
   cases r with
   |nil=>exact absurd rfl (M _ (.head _))
   |cons q I=>exact⟨q,I,rfl⟩
  exact .cons (X7 R Y) (QU R (fun T h'=>M T (.tail _ h')) U)
theorem Zr{G:Hp}{S:Addr}{I:List V}(hS:G S=some (.lst I))(hl:∀v∈I,∃a x xs,v=.ref a/\G a=some (.lst (x::xs))/\∃b ys,x=.ref b/\G b=some (.lst ys)){r:List Rat}{rs:List (List Rat)}(hr:∀r'∈r::rs,r'≠[]){v:V}(h:Du G (.list (Aq (r::rs))) v):Du (off G S) (.list (Aq (r::rs))) v:=by
 have nr:Qp G S:=⟨I,hS,fun v hv=>let⟨a,x,xs,e,k,_⟩:=hl v hv;⟨a,x::xs,e,k⟩⟩;rw[Du]at h ⊢;obtain⟨a,xs,rfl,ha,Z⟩:=h;refine⟨a,xs,rfl,?_,QU nr hr Z⟩;rw[off_ne]
 .exact ha
 .intro z;subst z;rw[hS]at ha;cases ha;obtain⟨x,xr,rfl,Y,_⟩:=Aj.un (d:=Ak r) (ds:=Aq rs) Z;obtain⟨b,y,ys,e,hb,c,zs,e2,hc⟩:=hl x (.head _);subst e;subst e2;obtain⟨q,M,rfl⟩:∃q M,r=q::M:=by
   cases r with
   |nil=>exact absurd rfl (hr _ (.head _))
   |cons q M=>exact⟨q,M,rfl⟩
  unfold Ak at Y;rw[Du]at Y;obtain⟨b',us,e,R,U⟩:=Y;cases e;rw[hb]at R;cases R;obtain⟨w,wr,e,T,_⟩:=Aj.un (d:=Ac q) (ds:=AN M) U;cases e;unfold Ac at T;rw[Du]at T;obtain⟨d,ds,e,hd,_⟩:=T;cases e;rw[hc]at hd;cases hd
theorem RC{Γ I:Hp}{S:Addr}(M:Γ S=none)(e:AG Γ I):AG Γ (off I S):=fun a o h=>by
 rw[off_ne (fun z=>by subst z;rw[M]at h;cases h)];exact e _ _ h
theorem fi{G:Hp}{S:Addr}:AG (off G S) G:=fun a o h=>by
 unfold off at h;split at h
 .cases h
 .exact h
structure OS(G H Γ H':Hp):Prop where
 ext:AG G Γ
 nw:Nw G H Γ
 ins:AG Γ H'
theorem OS.same{G H Γ H' I:Hp}(g:OS G H Γ H')(e:AG H' I):OS G H Γ I:=⟨g.ext,g.nw,g.ins.trans e⟩
theorem RA{Γ:Hp}{nn n:Nat}(hn:1<=nn):∀ {ss:List (Nat->Nat->Rat)} {I:List V},Aj Γ (IG ss nn n) I->∀v∈I,∃a x xs,v=.ref a/\Γ a=some (.lst (x::xs))/\∃b ys,x=.ref b/\Γ b=some (.lst ys)
 |[],I,h,v,M=>by rw[Aj.nil_eq h]at M;cases M
 |s::ss,I,h,v,M=>by
  obtain⟨x,r,rfl,U,Z⟩:=Aj.un (d:=Bo s nn n) (ds:=IG ss nn n) h;rcases aS.mp M with rfl|M
  .rw[Du]at U;obtain⟨a,xs,rfl,ha,T⟩:=U;obtain⟨m,rfl⟩:∃m,nn=m+1:=⟨nn-1,by lia⟩;rw[List.range_succ_eq_map,List.map_cons]at T;obtain⟨y,yr,rfl,R,_⟩:=Aj.un (d:=Ak (Ad (s 0) n)) T;unfold Ak at R;rw[Du]at R;obtain⟨b,ys,rfl,Y,_⟩:=R;exact⟨a,_,_,rfl,ha,b,ys,rfl,Y⟩
  .exact RA hn Z v M
theorem Z1{uss:List (List Ah)}{nn n:Nat}(h:uss.length=nn)(X:Nat->Nat->Rat):(uss.map fun us=>Ak (Ad (KL X us) n))=Aq ((List.range nn).map fun u=>Ad (Fp uss X u) n):=by
 unfold Aq;rw[List.map_map];apply List.ext_getElem?;intro i;rw[List.getElem?_map,List.getElem?_map];by_cases hi:i<nn
 .have I:uss[i]? = some (uss[i]'(by lia)):=aI _;rw[I,List.getElem?_range hi];show some _=some (Ak (Ad (KL X (uss.getD i [])) n));rw[List.getD_eq_getElem?_getD,I];rfl
 .rw[List.getElem?_eq_none (by lia),List.getElem?_eq_none (by simpa using hi)];rfl
theorem OS.stays{Γ H H' I:Hp}{a:Addr}{xs ys:List V}(nw:Nw Γ H I)(e:AG I H')(h1:Γ a=none)(R:H a=some (.lst xs))(M:H' a=some (.lst ys)):I a=none:=by
 cases z:I a with
 |none=>rfl
 |some o=>
  rcases nw a o z with h|h|⟨T,rfl⟩
  .rw[h1]at h;cases h
  .rw[R]at h;cases h
  .have:=e _ _ z;rw[M]at this;cases this
section
variable{P:Program}{w:World}{K:PySem.W.Frag}{mg:Str->Option Value}{base:Heap}{f g1 g2:Addr}{fd gd1 gd2:FuncData}
theorem Ma:Ab ["_law_table_here","_law_change_here","_law_start_here","_law_size","_law_speeds","_law_row","_law_there"] ["_law_table_here","_law_change_here","_law_start_here","_law_size"] (AO EW):=⟨rfl,rfl,rfl,by decide +kernel,rfl,by decide +kernel,by decide +kernel⟩
theorem Mc{k:Nat}(F:Fn K mg "_law_step_rows" EW ["_law_table_here","_law_change_here","_law_start_here","_law_size"] f fd)(Ds:Fn K mg "_law_led_rows" Gn ["_law_start_here","_law_speeds","_law_parts","_law_size"] g1 gd1)(Fj:Fn K mg "_law_row_of" Ho ["_law_some","_law_rows","_law_size"] g2 gd2)
 (Ep:AM P w K mg base AZ k g1 gd1 ["_law_start_here","_law_speeds","_law_parts","_law_size"] (Dh f9))(Hu:AM P w K mg base AZ k g2 gd2 ["_law_some","_law_rows","_law_size"] (Dh fN)):AM P w K mg base AZ (k+1) f fd ["_law_table_here","_law_change_here","_law_start_here","_law_size"] (Dh (Mh 1)):=by
 have sc:=Ma;refine F.F.ok (k:=k) sc (fun vs H Q E h=>?_) (fun cdv A outer s H vs Q E hr h=>?_)
 .obtain⟨ds,x,G,hm,dv,_⟩:=h;unfold Mh at hm;split at hm
  .rw[dv.len];rfl
  .cases hm
 obtain⟨ds,x,G,hm,dv,eG,q⟩:=h;unfold Mh at hm;split at hm
 case h_2=>cases hm
 rename_i tx cx ys n;split at hm
 case isFalse=>cases hm
 rename_i hh;obtain⟨c1,c2,c3,c4,nn,o⟩:=hh;cases hm;obtain⟨most,hn⟩:∃most:Nat,n=((most+1:Nat):Int):=⟨(n-1).toNat,by lia⟩;subst hn;have hmo:(((most+1:Nat):Int)-((1:Nat):Int)).toNat=most:=by lia
 rw[hmo]at o q;generalize tabOf tx=t at c1 o q;generalize Gu cx=uss at c2 o q;generalize ys.map Gd=rs at c3 o q;subst c1 c2 c3;rw[o.len]at q;obtain⟨v1,r1,rfl,d1,dv⟩:=dv.un;obtain⟨v2,r2,rfl,d2,dv⟩:=dv.un;obtain⟨v3,v4,rfl,d3,d4⟩:=dv.Ky;rw[Du]at d4;subst d4;have d1':=d1;unfold CF at d1';rw[Du]at d1';obtain⟨T,ts,rfl,hT,dts⟩:=d1';obtain⟨x1,x2,rfl,dr,dl⟩:=dts.Ky;rw[Du]at dr;obtain⟨R,rvs,rfl,hR,drs⟩:=dr;have d2':=d2;rw[Du]at d2';obtain⟨C,cs,rfl,hC,dcs⟩:=d2';have hcl:cs.length=nn:=by rw[dcs.len,List.length_map];exact o.len
 have hrl:rvs.length=t.rs.length:=by rw[drs.len];unfold Aq;rw[List.length_map]
 have n4:=o.n4;have hm7:=o.Mn;have ht4:=o.tab.most;obtain⟨l1,l2⟩:=o.NP;have hnn:1<=nn:=by
  have:=o.good;have hl:=o.len;cases uss with
  |nil=>simp[J1]at this
  |cons u us=>simp at hl;lia
 refine⟨_,(AD (AX (i:=4) sc.nd rfl (Or.inl rfl) (B8 AB))
 (AD (Bg aK rfl (BA (A0 BN (pv 0) AI (fun _ _=>rfl))) (Am (i:=5) sc.nd rfl (Or.inl rfl))
  (AD (AX (i:=6) sc.nd rfl (Or.inr rfl) (Aa Ds Ep hr rfl (AA (pv 2) (AA (pv 4) (AA (pv 5) (AA (pv 3) AB))))))
  (AH (B2 (GW ab ay az DJ (pv 4) (AA (CU [".0","_law_some","_law_there","_law_size"] 1 [none,none,some 6,some 3] (BA (pv 1)) (fun _ _ _ _ _=>Bd) (fun _ _ _ _ _=>(Aa Fj Hu hr rfl (AA (pv 1) (AA (pv 2) (AA (pv 3) AB)))))) AB))))))
 (AH (Ae (Aa Ds Ep hr rfl (AA (pv 2) (AA (pv 4) (AA (A0 BN (pv 0) AI (fun _ _=>rfl)) (AA (pv 3) AB))))))))),?_⟩
 refine⟨BU (show 0<=60 by decide),fun Sp hSp=>?_⟩;have e1:=AL hSp (.lst []);have hS1:upd H Sp (.lst []) Sp=some (.lst []):=AF;generalize upd H Sp (.lst [])=H1 at e1 hS1;refine⟨_,rfl,_,_,_,_,rfl,rfl,Ao.of (e1 _ _ (eG _ _ hT)),rfl,R,rfl,⟨_,AQ.of (e1 _ _ (eG _ _ hR))⟩,Bx (xs:=rvs) (fun i σ H'=>∃(Γ:Hp) (I:List V) (r5 r6:Option V),σ=[some (.ref T),some (.ref C),some v3,some (.int ((most+1:Nat):Int)),some (.ref Sp),r5,r6]/\AG H H'/\OS G H Γ H'/\Γ Sp=none/\H' Sp=some (.lst I)/\Aj Γ (IG (Az t uss rs i).1 nn (most+1)) I) ?_ ?_ ?_ ?_⟩
 .exact⟨G,[],_,_,rfl,e1,⟨.refl _,Nw.refl,eG.trans e1⟩,Cq eG hSp,hS1,.nil⟩
 .rintro i σ H' _ ⟨Γ,I,r5,r6,rfl,e,_⟩;exact AQ.of (e _ _ (eG _ _ hR))
 .rintro i x σ H2 hx ⟨Γ,I,r5,r6,rfl,e2,gs,hΓ,hS2,dss⟩;have hi:i<t.rs.length:=by rw[<-hrl];exact(aB.mp hx).1
  obtain⟨row,hrow⟩:∃row,t.rs[i]? = some row:=⟨t.rs[i],List.getElem?_eq_getElem hi⟩;obtain⟨v,k1,k2⟩:=drs.get (i:=i) (d:=Ak row) (by unfold Aq;rw[List.getElem?_map,hrow];rfl);rw[hx]at k1;cases k1;obtain⟨th1,th2,th3,th4⟩:=o.there hrow;have U:=Xg (o.led th2 th3 th4) o.Kp (by lia);rw[th1]at U;have Z:=gs.ext;have en:AG Γ (upd Γ Sp (.lst I)):=AL hΓ _;have eH:AG (upd Γ Sp (.lst I)) H2:=fun a u h=>by
   by_cases z:a=Sp
   .subst z;rw[AF]at h;rw[hS2];exact h
   .rw[AE z]at h;exact gs.ins _ _ h
  refine⟨_,rfl,_,rfl,_,rfl,_,rfl,[.list (AN rs),.list (IG (Az t uss rs i).1 nn (most+1)),.list (AN row),.int ((most+1:Nat):Int)],_,upd Γ Sp (.lst I),U,.cons (d3.same (Z.trans en)) (.cons (by rw[Du];exact⟨Sp,I,rfl,AF,dss.same en⟩) (.cons (Du.same (Z.trans en) k2) (.cons (by rw[Du]) .nil))),eH,fun v2 G2 H3 e3 w3 i3 h3 dv2=>?_⟩;have hS3:=h3 _ _ hS2;have hG2S:G2 Sp=some (.lst I):=e3 _ _ AF;have gs1:OS G H (off G2 Sp) H3:=⟨Z.trans (RC hΓ (en.trans e3)),fun a u h=>by
   have na:a≠Sp:=fun z=>by subst z;rw[show off G2 a a=none from if_pos rfl]at h;cases h
   rw[off_ne na]at h;rcases w3 a u h with k|k|k
   .rw[AE na]at k;exact gs.nw a u k
   .exact .inr (.inl (Cq e2 k))
   .exact .inr (.inr k),fi.trans i3⟩
  have hΓ1:off G2 Sp Sp=none:=if_pos rfl;have dth:Du (off G2 Sp) (Bo (Az t uss rs i).2 nn (most+1)) v2:=by
   obtain⟨m,rfl⟩:∃m,nn=m+1:=⟨nn-1,by lia⟩;have el:(List.range (m+1)).map (fun u=>Ad ((Az t uss rs i).2 u) (most+1))=Ad ((Az t uss rs i).2 0) (most+1)::((List.range m).map Nat.succ).map fun u=>Ad ((Az t uss rs i).2 u) (most+1):=by rw[List.range_succ_eq_map,List.map_cons]
   unfold Bo at dv2 ⊢;rw[el]at dv2 ⊢;refine Zr hG2S (fun v hv=>?_) (fun r' hr'=>?_) dv2
   .obtain⟨a,x,xs,z1,z2,b,ys,z3,z4⟩:=RA hnn dss v hv;exact⟨a,x,xs,z1,e3 _ _ (en _ _ z2),b,ys,z3,e3 _ _ (en _ _ z4)⟩
   .intro z;rcases aS.mp hr' with h|h
    .rw[h]at z;have:=bD List.length z;rw[G5]at this;simp at this
    .obtain⟨u,_,hu⟩:=aL.mp h;rw[<-hu]at z;have:=bD List.length z;rw[G5]at this;simp at this
  have ss1:Aj (off G2 Sp) (IG (Az t uss rs i).1 nn (most+1)) I:=dss.same (RC hΓ (en.trans e3));have E3:=e2.trans h3;generalize off G2 Sp=Γ1 at gs1 hΓ1 dth ss1;clear hG2S w3 i3 dv2 e3 eH en dss gs hΓ;refine⟨_,rfl,.inl ⟨rfl,_,AQ.of hS3⟩,_,rfl,C,rfl,⟨_,AQ.of (E3 _ _ (eG _ _ hC))⟩,fun D hD=>B5 (n:=cs.length) (fun j zs H'=>∃M,AG Γ1 M/\OS G H M H'/\AG H3 H'/\M Sp=none/\M D=none/\zs.length=j/\Aj M ((uss.take j).map fun us=>Ak (Ad (KL (Az t uss rs i).2 us) (most+1))) zs) ⟨Γ1,.refl _,gs1.same (AL hD _),AL hD _,hΓ1,Cq gs1.ins hD,rfl,.nil⟩ ?_ ?_⟩
  .rintro j zs H4 hj ⟨M,eΓ,Y,e4,hΓS,hΓD,hzl,dz⟩ hD4;have hu:uss[j]? = some (uss[j]'(by rw[o.len];lia)):=aI _;obtain⟨cv,m1,m2⟩:=dcs.get (i:=j) (d:=BS (uss[j]'(by rw[o.len];lia))) (by rw[List.getElem?_map,hu];rfl);have hum:=aJ hu;generalize uss[j]'(by rw[o.len];lia)=us at hu m2 hum;have E4:=E3.trans e4;refine⟨⟨cs,cv,AQ.of (E4 _ _ (eG _ _ hC)),m1⟩,CI (n:=60) (by lia) (by decide),fun x H' y=>?_⟩;obtain⟨rfl,y⟩:=y;have hx:=y cs (AQ.of (E4 _ _ (eG _ _ hC)));rw[m1]at hx;cases hx;unfold CZ;refine BI ⟨_,rfl,_,rfl,_,rfl,[BS us,Bo (Az t uss rs i).2 nn (most+1),.int ((most+1:Nat):Int)],_,M,o.of th2 hum,.cons (m2.same Y.ext) (.cons (dth.same eΓ) (.cons (by rw[Du]) .nil)),Y.ins,fun v3 G3 H5 e5 w5 i5 h5 dv3=>?_⟩;have hS5:=h5 _ _ (e4 _ _ hS3);have hD5:=h5 _ _ hD4;have gS:G3 Sp=none:=OS.stays w5 i5 hΓS (e4 _ _ hS3) hS5;have gD:G3 D=none:=OS.stays w5 i5 hΓD hD4 hD5;refine⟨hD5,BR hj ⟨G3,eΓ.trans e5,⟨Y.ext.trans e5,fun a u h=>?_,fun a u h=>?_⟩,fun a u h=>?_,gS,gD,by simp[hzl],?_⟩⟩
   .rcases w5 a u h with k|k|k
    .exact Y.nw a u k
    .exact .inr (.inl (Cq E4 k))
    .exact .inr (.inr k)
   .rw[AE (fun z=>by subst z;rw[gD]at h;cases h)];exact i5 _ _ h
   .rw[AE (AJ h hD)];exact h5 _ _ (e4 _ _ h)
   .rw[List.take_add_one,hu,List.map_append];exact(dz.same e5).app (.cons dv3 .nil)
  rintro zs H4 ⟨M,eΓ,Y,e4,hΓS,hΓD,hzl,dz⟩ hD4;rw[List.take_of_length_le (by rw[o.len];lia),Z1 o.len]at dz;refine⟨⟨cs,AQ.of (E3.trans e4 _ _ (eG _ _ hC)),Nat.le_refl _⟩,?_⟩;have hsl:I.length=i:=by rw[ss1.len];unfold IG;rw[List.length_map];exact o.ql th2
  have nDS:D≠Sp:=fun z=>by subst z;rw[hS3]at hD;cases hD
  have hDn:H D=none:=Cq E3 hD;have eD:AG M (upd M D (.lst zs)):=AL hΓD _;refine⟨Sp,I,_,rfl,rfl,e4 _ _ hS3,CI (n:=60) (by lia) (by decide),?_⟩;refine⟨upd M D (.lst zs),I++[.ref D],_,_,rfl,fun a u h=>?_,⟨Y.ext.trans eD,fun a u h=>?_,fun a u h=>?_⟩,by rw[AE (Ne.symm nDS)];exact hΓS,AF,?_⟩
  .rw[AE (AJ h hSp)];exact e4 _ _ (E3 _ _ h)
  .by_cases z:a=D
   .subst z;exact .inr (.inl hDn)
   .rw[AE z]at h;exact Y.nw a u h
  .by_cases z:a=D
   .subst z;rw[AF]at h;rw[AE nDS,hD4];exact h
   .rw[AE z]at h;rw[AE (fun z=>by subst z;rw[hΓS]at h;cases h)];exact Y.ins _ _ h
  .rw[o.next (by lia)];unfold IG;rw[List.map_append];refine(ss1.same (eΓ.trans eD)).app (.cons ?_ .nil);show Du _ (.list (Aq _)) _;rw[Du];exact⟨D,zs,rfl,AF,dz.same eD⟩
 .rintro σ H2 ⟨Γ,I,r5,r6,rfl,e2,gs,hΓ,hS2,dss⟩;rw[hrl]at dss;obtain⟨la1,la2,la3⟩:=o.last;have U:=Xg (o.led (i:=t.rs.length) (by lia) la2 la3) o.Kp (by lia);rw[la1]at U;have Z:=gs.ext;have en:AG Γ (upd Γ Sp (.lst I)):=AL hΓ _;have eH:AG (upd Γ Sp (.lst I)) H2:=fun a u h=>by
   by_cases z:a=Sp
   .subst z;rw[AF]at h;rw[hS2];exact h
   .rw[AE z]at h;exact gs.ins _ _ h
  refine⟨_,rfl,_,rfl,_,rfl,_,_,_,_,rfl,rfl,Ao.of (e2 _ _ (eG _ _ hT)),rfl,_,rfl,[.list (AN rs),.list (IG (Az t uss rs t.rs.length).1 nn (most+1)),.list (AN t.ls),.int ((most+1:Nat):Int)],_,upd Γ Sp (.lst I),U,.cons (d3.same (Z.trans en)) (.cons (by rw[Du];exact⟨Sp,I,rfl,AF,dss.same en⟩) (.cons (dl.same (Z.trans en)) (.cons (by rw[Du]) .nil))),eH,fun v2 G2 H3 e3 w3 i3 h3 dv2=>?_⟩;refine q v2 G2 H3 (Z.trans (en.trans e3)) (fun a u h=>?_) i3 (e2.trans h3) dv2;rcases w3 a u h with k|k|k
  .by_cases z:a=Sp
   .subst z;exact .inr (.inl hSp)
   .rw[AE z]at k;exact gs.nw a u k
  .exact .inr (.inl (Cq e2 k))
  .exact .inr (.inr k)
end
def Ve(K:PySem.W.Frag):Sp:=fun vs H Q _=>∃(a:Addr) (ns:List Int),vs=[.ref a]/\AQ K H a (ns.map V.int)/\ns.length<=63/\∀H',Q (.bl true) H'
theorem jI{P:Program}{w:World}{K:PySem.W.Frag}{mg:Str->Option Value}{base:Heap}{CX:IE}{k:Nat}{f:Addr}{fd:FuncData}{ps:List Str}(F:AM P w K mg base CX k f fd ps Uv):AM P w K mg base CX k f fd ps (Dh (Mh 0)) :=
 O4 F fun ds x hm G H vs Q E d e I=>by
  unfold Mh at hm;split at hm
  .rename_i tx cx ys n;split at hm
   .rename_i hh;obtain⟨c1,c2,c3,c4,nn,o⟩:=hh;cases hm;obtain⟨most,hn⟩:∃most:Nat,n=(most:Nat):=⟨n.toNat,by lia⟩;subst hn;have M:((most:Int)-((0:Nat):Int)).toNat=most:=by lia
    rw[M]at o I;generalize tabOf tx=t at c1 o I;generalize Gu cx=uss at c2 o I;generalize ys.map Gd=rs at c3 o I;subst c1 c2 c3;obtain⟨v1,r1,rfl,d1,d⟩:=d.un;obtain⟨v2,r2,rfl,U,d⟩:=d.un;obtain⟨v3,v4,rfl,T,d4⟩:=d.Ky;rw[Du]at d4;subst d4;have U:=MQ (U9 fun d hd=>by obtain⟨p,_,rfl⟩:=aL.mp hd;exact YX p) (U.same e);have T:=MQ (by simp only[PyData.canLay0];exact WY _) (T.same e);obtain⟨C,cs,rfl,hC,dc⟩:=U.K4;obtain⟨S,ss,rfl,hS,dS⟩:=T.K4;refine⟨v1,C,S,cs,ss,t,uss,rs,most,nn,rfl,MQ (cK t) (d1.same e),hC,dc,hS,dS,o,fun D H' zs Y hD R Z nz=>?_⟩;rw[QL o]at Z;obtain⟨n1,n2,n3⟩:=cH e Y;refine I (.ref D) _ H' n1 n2 n3 Y ?_;rw[o.len];show Du _ (.list (Aq _)) _;rw[Du];exact⟨D,zs,rfl,Vx R hD,Pu Z nz⟩
   .cases hm
  .cases hm
theorem A7.less{t:Tb}{uss:List (List Ah)}{rs:List Rat}{most nn:Nat}(o:A7 t uss rs most nn){l:Nat}(h:l<=7):A7 t uss rs l nn:=⟨o.tab,o.JQ,o.n4,o.len,o.Kp,h,o.fit,o.pw,o.cX,o.good⟩
theorem SJ{many:Nat}{tss:List (List IT.Tm)}(h1:1<=many)(h4:many<=4)(Y:tss.length=many)(Al:∀us∈tss,Hj many us){rs:List Rat}(T:rs.length=many)(U:∀r∈rs,T2 r){t:Tb}(ot:t.Ok 4)(M:t.Fits 3){most:Nat}(hm:most<=7):A7 t (tss.map fun us=>us.map Jq) rs most many:=by
 refine⟨ot,M,h4,by rw[List.length_map];exact Y,T,hm,fun us R=>?_,fun us R m hm=>?_,fun r hr=>(U r hr).1,YN Y h1 Al⟩
 .obtain⟨ts,M,rfl⟩:=aL.mp R;refine⟨by rw[List.length_map];exact(Al ts M).1,fun m hm=>?_⟩;obtain⟨t,I,rfl⟩:=aL.mp hm;exact(Xc ((Al ts M).2.1 t I)).2.1
 .obtain⟨ts,M,rfl⟩:=aL.mp R;obtain⟨t,I,rfl⟩:=aL.mp hm;obtain⟨⟨l,Z⟩,ps,_⟩:=(Al ts M).2.1 t I;exact⟨l,fun p hp=>(ps p hp).1,Z⟩
abbrev EE(t:Tb)(uss:List (List Ah))(rs:List Rat):PyData:=.list [CF t,Bs uss,.list (AN rs)]
theorem a6(m:Ah):Ok 2 (DC m):=U8 fun d hd=>by
 rcases aS.mp hd with rfl|hd
 .exact U8 (n:=0) fun d hd=>by obtain⟨p,_,rfl⟩:=aL.mp hd;exact .int
 .rw[List.mem_singleton.mp hd];exact Xo _
theorem U4{d:PyData}{n:Nat}(h:Ok n d):Ok (n+1) d:=⟨h.1,Nat.le_trans h.2 (Nat.le_succ _)⟩
theorem VM(rs:List Rat):Ok 2 (.list (AN rs)):=SS (n:=1) fun d hd=>by
 unfold AN at hd;obtain⟨r,_,rfl⟩:=aL.mp hd;exact Xo r
theorem b4(t:Tb)(uss:List (List Ah))(rs:List Rat):Ok 5 (EE t uss rs):=SS fun d hd=>by
 rcases aS.mp hd with rfl|hd
 .refine U8 (n:=3) fun d hd=>?_;rcases aS.mp hd with rfl|hd
  .refine SS (n:=2) fun d hd=>?_;unfold Aq at hd;obtain⟨r,_,rfl⟩:=aL.mp hd;exact VM r
  .rw[List.mem_singleton.mp hd];exact U4 (VM _)
 rcases aS.mp hd with rfl|hd
 .refine SS fun d hd=>?_;obtain⟨us,_,rfl⟩:=aL.mp hd;refine SS fun d hd=>?_;obtain⟨m,_,rfl⟩:=aL.mp hd;exact a6 m
 .rw[List.mem_singleton.mp hd];exact U4 (U4 (VM _))
theorem MH(x:Nat->Nat->Rat){nn n:Nat}(h1:nn<=60)(R:n<=60):IA 3 (Bo x nn n):=by
 refine .inr ⟨_,.inr rfl,by unfold Aq;simp;exact h1,fun e I=>?_⟩;unfold Aq at I;obtain⟨r,M,rfl⟩:=aL.mp I;obtain⟨u,_,rfl⟩:=aL.mp M;refine .inr ⟨_,.inr rfl,by unfold AN;rw[List.length_map,G5];exact R,fun e I=>?_⟩;unfold AN at I;obtain⟨q,_,rfl⟩:=aL.mp I;exact Zk q (aG 1)
theorem di{t:Tb}{uss:List (List Ah)}{rs:List Rat}{most nn:Nat}(o:A7 t uss rs most nn)(o':A7 t uss.reverse rs most nn)(c:Int) :
  M1 (Nx 3) (Mh 1) (Mh 0) [.no,.no,.d (Bs uss),.d (.list (AN rs)),.d (CF t),.d (.int c),.d (.int (most:Nat)),.no,.d (EE t uss rs),.d (Bo (C9 (rs.getD · 0) uss (Ag t)).2 nn (most+1)),.no,.no,.no,.no]=some (.rt (.bool true)):=by
 have R:=o.Mn;have n4:=o.n4;obtain⟨less,hle,T⟩:∃less:Nat,less<=most/\(c / 48) % ((most:Int)+1)=(less:Nat):=by
  have h1:=Int.emod_nonneg (c / 48) (show(most:Int)+1≠0 by lia);have h2:=Int.emod_lt_of_pos (c / 48) (show 0<(most:Int)+1 by lia);exact⟨((c / 48) % ((most:Int)+1)).toNat,by lia,by lia⟩
 unfold M1;generalize hX:(C9 (rs.getD · 0) uss (Ag t)).2=X;refine DK (Ek (y:=Bs uss.reverse) (by show some (PyData.list (uss.map BS).reverse)=some (PyData.list (uss.reverse.map BS));rw[List.map_reverse])) ?_;show DW _ _ [.no,.no,.d (Bs uss),.d (.list (AN rs)),.d (CF t),.d (.int c),.d (.int (most:Nat)),.no,.d (EE t uss rs),.d (Bo X nn (most+1)),.no,.no,.d (Bs uss.reverse),.no]=_;have g1:=LD (d:=0) o';have Y:=LD (d:=1) o';refine DK (VB (T7 (b:=true) (UB (CG (BF (CG (xs:=[CF t,Bs uss.reverse,.list (AN rs),.int ((most+0:Nat):Int)]) rfl g1) (BF (CG (xs:=[CF t,Bs uss.reverse,.list (AN rs),.int ((most+1:Nat):Int)]) rfl Y) rfl)) (KY rfl (MH _ (by lia) (by lia)))))) rfl) ?_;have s1:Ay VP (Ay VL (nm 5) (fC (.int 48))) (Ay Dc (nm 6) (fC (.int 1))) [.no,.no,.d (Bs uss),.d (.list (AN rs)),.d (CF t),.d (.int c),.d (.int (most:Nat)),.no,.d (EE t uss rs),.d (Bo X nn (most+1)),.no,.no,.d (Bs uss.reverse),.no]=some (.int (less:Nat)):=by
  refine CC (x:=.int (c / 48)) (y:=.int ((most:Int)+1)) (CC (x:=.int c) (y:=.int 48) rfl rfl (div_is (by decide) (by decide))) rfl ?_;rw[mod_is (by lia),T]
 refine DK (Ek s1) ?_;show DW _ _ [.no,.no,.d (Bs uss),.d (.list (AN rs)),.d (CF t),.d (.int c),.d (.int (most:Nat)),.no,.d (EE t uss rs),.d (Bo X nn (most+1)),.no,.no,.d (Bs uss.reverse),.d (.int (less:Nat))]=_;have M:=LD (d:=0) (o.less (l:=less) (by lia));have I:=LD (d:=0) o;rw[hX]at M I;have U:Bz (Cu 1) DP (YC (nm 1) U1 (Vn (Ay Dc (nm 2) (fC (.int 1))))) [none,none,some 13] (LI (nm 9)) [.no,.no,.d (Bs uss),.d (.list (AN rs)),.d (CF t),.d (.int c),.d (.int (most:Nat)),.no,.d (EE t uss rs),.d (Bo X nn (most+1)),.no,.no,.d (Bs uss.reverse),.d (.int (less:Nat))]=some (Bo X nn (less+1)):=by
  have:=Py (zs:=List.range nn) (a:=fun u=>Ak (Ad (X u) (most+1))) (g:=fun u=>Ak (Ad (X u) (less+1))) (i:=1) (f:=YC (nm 1) U1 (Vn (Ay Dc (nm 2) (fC (.int 1))))) (fr:=[none,none,some 13]) (fs:=LI (nm 9)) (δ:=[.no,.no,.d (Bs uss),.d (.list (AN rs)),.d (CF t),.d (.int c),.d (.int (most:Nat)),.no,.d (EE t uss rs),.d (Bo X nn (most+1)),.no,.no,.d (Bs uss.reverse),.d (.int (less:Nat))]) (by
   show some (Aq _)=_;unfold Aq;rw[List.map_map];rfl) (by rw[List.length_range];exact aR n4 (by decide)) fun u _=>by
   have e1:Ak (Ad (X u) (most+1))=.list ((List.range (most+1)).map fun t=>Ac (X u t)):=by unfold Ak;rw[Df]
   have Z:Ak (Ad (X u) (less+1))=.list ((List.range (less+1)).map fun t=>Ac (X u t)):=by unfold Ak;rw[Df]
   rw[e1,Z];refine(eE (xs:=(List.range (most+1)).map fun t=>Ac (X u t)) (n:=less+1) (by simp;lia)).trans ?_;rw[<-List.map_take,List.take_range,Nat.min_eq_left (by lia)]
  unfold Bz;rw[this];show some (PyData.list _)=some (PyData.list (Aq _));unfold Aq;rw[List.map_map];rfl
 refine DK (VB (c:=VO _) (T7 (b:=true) (UB (CG (BF (CG (xs:=[CF t,Bs uss,.list (AN rs),.int ((less+0:Nat):Int)]) rfl M) (BF U rfl)) (KY rfl (MH _ (by lia) (by lia)))))) rfl) ?_;exact J9 (CG (BF (CG (xs:=[CF t,Bs uss,.list (AN rs),.int ((most+0:Nat):Int)]) rfl I) (BF (x:=Bo X nn (most+1)) rfl rfl)) (KY rfl (MH _ (by lia) (by lia))))
theorem ik{X:Cx}{U:List Stmt}{F:DF}{s1:Stmt}{t1:TS}{s2:Stmt}{t2:TS}{s3:Stmt}{t3:TS}{s4:Stmt}{t4:TS}{s5:Stmt}{t5:TS}{s6:Stmt}{t6:TS}{s7:Stmt}{t7:TS}{s8:Stmt}{t8:TS}{s9:Stmt}{t9:TS}{s10:Stmt}{T:TS}{s11:Stmt}{R:TS}{Z:Stmt}{M:TS}{Y:Stmt}{I:TS}(d:Mo X U F)(p1:PS X s1 t1)(p2:PS X s2 t2)(p3:PS X s3 t3)(p4:PS X s4 t4)(p5:PS X s5 t5)(p6:PS X s6 t6)(p7:PS X s7 t7)(p8:PS X s8 t8)(p9:PS X s9 t9)(p10:PS X s10 T)(p11:PS X s11 R)(p12:PS X Z M)(p13:PS X Y I){Pz:TS->Prop}(k:∀u:TS,(∀δ r,F δ=some r->∀G0 H0 G H σ D,Rw G0 H0 G H σ δ []->Fin G0 H0 D r->u D σ H)->Pz (F5 t1 (F5 t2 (F5 t3 (F5 t4 (F5 t5 (F5 t6 (F5 t7 (F5 t8 (F5 t9 (F5 T (F5 R (F5 M (F5 I u)))))))))))))):∃t,Ij X (s1::s2::s3::s4::s5::s6::s7::s8::s9::s10::s11::Z::Y::U) t/\Pz t:=by
 obtain⟨t,pt,kt⟩:=d;exact⟨_,(AD p1 (AD p2 (AD p3 (AD p4 (AD p5 (AD p6 (AD p7 (AD p8 (AD p9 (AD p10 (AD p11 (AD p12 (AD p13 pt))))))))))))),k t kt⟩
section
variable{P:Program}{w:World}{K:PySem.W.Frag}{mg:Str->Option Value}{base:Heap}{f g1 g2 g3 g4 g5 g6 g7:Addr}{fd gd1 gd2 gd3 gd4 gd5 gd6 gd7:FuncData}
theorem cU{k:Nat}(F:Fn K mg "law" Nz ["_law_script"] f fd)(BW:Fn K mg "_law_cell" Fb ["_law_script","_law_k"] g1 gd1)(Fv:Fn K mg "_law_change" Hv ["_law_script","_law_start_here","_law_many","_law_most"] g2 gd2)(GN:Fn K mg "_law_start" Iu ["_law_cell_here","_law_many"] g3 gd3)(GK:Fn K mg "_law_table" JI ["_law_script","_law_start_here","_law_most"] g4 gd4)(Co:Fn K mg "step_rows" HJ ["table","change","start","most"] g5 gd5)(CH:Fn K mg "_law_step_rows" EW ["_law_table_here","_law_change_here","_law_start_here","_law_size"] g6 gd6)(Bl:Fn K mg "_law_same" HN ["_law_found","_law_due"] g7 gd7)
 (Cn:AM P w K mg base AZ k g1 gd1 ["_law_script","_law_k"] (ME K))(Qc:AM P w K mg base AZ k g2 gd2 ["_law_script","_law_start_here","_law_many","_law_most"] (Q6 K))(Sw:AM P w K mg base AZ k g3 gd3 ["_law_cell_here","_law_many"] RX)(Qy:AM P w K mg base AZ k g4 gd4 ["_law_script","_law_start_here","_law_most"] (RP K))(Ef:AM P w K mg base AZ k g5 gd5 ["table","change","start","most"] Uv)(Ck:AM P w K mg base AZ k g6 gd6 ["_law_table_here","_law_change_here","_law_start_here","_law_size"] (Dh (Mh 1)))(CQ:AM P w K mg base AZ k g7 gd7 ["_law_found","_law_due"] (Dh (Nx 3)))
 (Bp:mg "list" = none):AM P w K mg base AZ (k+1) f fd ["_law_script"] (Ve K):=by
 have sc:=WL;refine F.F.ok (k:=k) sc (fun vs H Q E h=>?_) (fun cdv A outer s H vs Q E Y h=>?_)
 .obtain⟨a,ns,rfl,_⟩:=h
  rfl
 obtain⟨a,ns,rfl,hSc,h63,q⟩:=h
 refine' ik (WC Bl CQ CH Ck Co (jI Ef) cdv A outer s H E Y) ?p1 ?p2 ?p3 ?p4 ?p5 ?p6 ?p7 ?p8 ?p9 ?p10 ?p11 ?p12 ?p13 ?kk
 case p1=>exact(AX (i:=1) sc.nd rfl (Or.inl rfl) (Af CK AI (Af Hi (Aa BW Cn Y rfl (AA (pv 0) (AA AI AB))) AI)))
 case p2=>exact(AX (i:=2) sc.nd rfl (Or.inl rfl) (Aa Fv Qc Y rfl (AA (pv 0) (AA AI (AA (pv 1) (AA AI AB))))))
 case p3=>exact(AX (i:=3) sc.nd rfl (Or.inl rfl) (Aa GN Sw Y rfl (AA (Aa BW Cn Y rfl (AA (pv 0) (AA AI AB))) (AA (pv 1) AB))))
 case p4=>exact(AX (i:=4) sc.nd rfl (Or.inl rfl) (Aa GK Qy Y rfl (AA (pv 0) (AA AI (AA AI AB)))))
 case p5=>exact(AX (i:=5) sc.nd rfl (Or.inl rfl) (Aa BW Cn Y rfl (AA (pv 0) (AA AI AB))))
 case p6=>exact(AX (i:=6) sc.nd rfl (Or.inl rfl) (Af Hi (pv 5) AI))
 case p7=>exact(BL (Au GO (Af Hi (Af Ut (pv 5) AI) AI) AI (Av _)) (AH (AX (i:=6) sc.nd rfl (Or.inl rfl) AI)) Ax)
 case p8=>exact(El (i:=7) [".0","_law_row"] 1 [none,none] sc.nd rfl rfl (BA (A0 BN (pv 4) AI (fun _ _=>rfl))) (fun _ _ _ _ _=>Bd) (fun _ _ _ _ _=>(Hh Kz rfl Bp ak (AA (pv 1) AB))))
 case p9=>exact(AX (i:=8) sc.nd rfl (Or.inl rfl) (B8 (AA (Gf (AA (pv 7) (AA (Hh Iq rfl Bp ak (AA (A0 BN (pv 4) AI (fun _ _=>rfl)) AB)) AB))) (AA (CU [".0","_law_some"] 1 [none,none] (BA (pv 2)) (fun _ _ _ _ _=>Bd) (fun _ _ _ _ _=>(Hh Kz rfl Bp ak (AA (pv 1) AB)))) (AA (Hh Iq rfl Bp ak (AA (pv 3) AB)) AB)))))
 case p10=>exact(AX (i:=9) sc.nd rfl (Or.inl rfl) (Aa CH Ck Y rfl (AA (pv 4) (AA (pv 2) (AA (pv 3) (AA (Af CK (pv 6) AI) AB))))))
 case p11=>exact(AX (i:=10) sc.nd rfl (Or.inl rfl) (Aa Co Ef Y rfl (AA (A0 EB (pv 8) AI (fun _ _=>rfl)) (AA (A0 EB (pv 8) AI (fun _ _=>rfl)) (AA (A0 EB (pv 8) AI (fun _ _=>rfl)) (AA (pv 6) AB))))))
 case p12=>exact(BL (PW.pt (Dk (CB (Bt (Aa Bl CQ Y rfl (AA (pv 10) (AA (pv 9) AB))))) (DQ (Au (Rg (by have:=Y.units;exact this)) (pv 8) (B8 (AA (pv 4) (AA (pv 2) (AA (pv 3) AB)))) (Av _))))) (AH (Ae CL)) Ax)
 case p13=>exact(Bg aK rfl (BA (pv 10)) (Am (i:=11) sc.nd rfl (Or.inl rfl)) (AH (B2 (ff ab PySem.F.slot_list_clear PySem.F.type_list_clear Ym (pv 11)))))
 intro u kt;refine⟨_,rfl,a,ns,0,rfl,hSc,by decide,by decide,fun x0=>⟨_,_,rfl,rfl,(by show(0:Int)<3;decide),_,_,rfl,rfl,?_⟩⟩;obtain⟨many,hm1,hm3,em⟩:∃many:Nat,1<=many/\many<=3/\1+x0 % 3=(many:Int):=⟨(1+x0 % 3).toNat,by lia,by lia,by lia⟩;rw[show((fun i j:Int=>V.int (i+j)) 1 (x0 % 3))=V.int (many:Int) from bD V.int em];have hm4:many<=4:=by lia
 refine⟨_,rfl,_,rfl,a,ns,many,2,rfl,by decide,hSc,hm1,hm4,fun vC H1 Z e1 htl Al dC=>?_⟩;refine⟨_,rfl,a,ns,5,rfl,e1.seq hSc,by decide,by decide,fun x1=>⟨_,rfl,x1,many,rfl,hm4,fun S H2 xs rs e2 hS dx hrl hrf=>?_⟩⟩;have E2:=e1.trans e2;refine⟨_,rfl,a,ns,rfl,E2.seq hSc,fun vt H3 t e3 dt ot hrs hls=>?_⟩;have E3:=E2.trans e3;have tf:t.Fits 3:=⟨fun r Y q hq=>(hrs r Y q hq).1,fun q hq=>(hls q hq).1⟩;have sto:=fun {most:Nat} (h:most<=7)=>SJ hm1 hm4 htl Al hrl hrf ot tf h;have stor:=fun {most:Nat} (h:most<=7)=>SJ (tss:=Z.reverse) hm1 hm4 (by rw[List.length_reverse];exact htl) (fun us hu=>Al us (List.mem_reverse.mp hu)) hrl hrf ot tf h;have dC:DU H1 (Bs (Z.map fun us=>us.map Jq)) vC:=by
  have e:(Z.map fun us=>us.map Jq).map BS=Z.map HY:=by
   rw[List.map_map];exact aW fun us hu=>(T3 (Al us hu)).symm
  show DU H1 (.list ((Z.map fun us=>us.map Jq).map BS)) vC;rw[e];exact dC
 rw[List.map_reverse]at stor;generalize Z.map (fun us=>us.map Jq)=uss at sto stor dC;obtain⟨C,cs,rfl,hC,dcs⟩:=dC.K4;refine⟨_,rfl,a,ns,13,rfl,E3.seq hSc,by decide,by decide,fun c=>?_⟩;refine⟨_,rfl,_,_,rfl,rfl,(by show(0:Int)<6;decide),?_⟩
 try dsimp only[C1]
 refine F7 (fun σ' H'=>∃most:Nat,most<=7/\σ'=[some (.ref a),some (.int (many:Nat)),some (.ref C),some (.ref S),some vt,some (.int c),some (.int (most:Nat)),none,none,none,none,none,none,none]/\H'=H3) (fun nx hn=>?_) ?_
 .refine⟨_,rfl,_,_,rfl,rfl,⟨by decide,by decide⟩,_,_,rfl,rfl,(by show(0:Int)<8;decide),rfl,_,rfl,BP (fun _=>?_) (fun _=>?_)⟩
  .exact hn _ _ ⟨7,by decide,rfl,rfl⟩
  .refine hn _ _ ⟨(c % 6).toNat,by lia,?_,rfl⟩;rw[Int.toNat_of_nonneg (Int.emod_nonneg _ (by decide))]
   rfl
 rintro σ' H' ⟨most,hmost,rfl,rfl⟩;have o:=sto hmost;have o':=stor hmost;have hC:=e3 _ _ (e2 _ _ hC);have dcs:=dcs.same (e2.trans e3);have hS:=e3 _ _ hS;have dx:=dx.same e3;have hcl:cs.length=uss.length:=by rw[dcs.len,List.length_map]
 have hul:=o.len;obtain⟨pt,R,Lr,ws,ls,rfl,hpt,hR,dR,hLr,dL⟩:=dt.tab;have hwl:ws.length=t.rs.length:=by rw[dR.len,HB]
 have ho4:=ot.most;refine⟨_,rfl,_,_,_,_,rfl,rfl,Ao.of hpt,rfl,R,rfl,⟨_,AQ.of hR⟩,fun D hD=>B5 (n:=ws.length) (Made H' D t.rs) (eM hD) ?_ ?_⟩
 .rintro i ys H6 hi mk hD6;have e6:=mk.1;have Y:t.rs[i]? = some (t.rs[i]'(by lia)):=aI _;obtain⟨r,zs,j1,j2,j3⟩:=NJ dR Y;refine⟨⟨ws,.ref r,AQ.of (e6 _ _ hR),j1⟩,CI (n:=60) (by rw[mk.2.1];lia) (by decide),fun x H' y=>?_⟩;obtain⟨rfl,y⟩:=y;have hx:=y ws (AQ.of (e6 _ _ hR));rw[j1]at hx;cases hx;unfold CZ;refine BI ⟨_,rfl,r,zs,rfl,.inl (AQ.of (e6 _ _ j2)),fun l hl=>?_⟩;obtain⟨k1,k2⟩:=Xl hD mk hD6 Y hl (j3.same e6);exact⟨k1,BR hi k2⟩
 rintro rws H6 ⟨e6,_,drw,_⟩ hD6;refine⟨⟨ws,AQ.of (e6 _ _ hR),Nat.le_refl _⟩,?_⟩;rw[hwl,List.take_length]at drw;have drw:=Ca drw;refine⟨_,rfl,_,rfl,_,_,_,_,rfl,rfl,Ao.of (e6 _ _ hpt),rfl,Lr,ls,rfl,.inl (AQ.of (e6 _ _ hLr)),fun L2 hL2=>?_⟩;generalize hH:upd _ L2 _=H7;obtain⟨e7,_,hL7⟩:=PB hH hL2 (dL.same e6);clear hH hL2;refine⟨BU (show 2<=60 by decide),fun p2 hp2=>?_⟩;have e8:=AL hp2 (.tup [V.ref D,V.ref L2]);have h8:upd H7 p2 (.tup [V.ref D,V.ref L2]) p2=some (.tup [V.ref D,V.ref L2]):=AF;generalize upd H7 p2 (.tup [V.ref D,V.ref L2])=H8 at e8 h8;have E8:=e6.trans (e7.trans e8);have dt2:DU H8 (CF t) (.ref p2):=WU h8 (e8 _ _ (e7 _ _ hD6)) (drw.same (e7.trans e8)) (e8 _ _ hL7) (dL.same E8);refine⟨_,rfl,C,rfl,⟨_,AQ.of (E8 _ _ hC)⟩,fun D2 hD2=>B5 (n:=cs.length) (fun j zs H'=>AG H8 H'/\zs.length=j/\AR D2 H' ((uss.take j).map BS) zs) ⟨AL hD2 _,rfl,.nil⟩ ?_ ?_⟩
 .rintro j zs H9 hj ⟨e9,hzl,dz⟩ hD9;have E9:=E8.trans e9;have hu:uss[j]? = some (uss[j]'(by lia)):=aI _;obtain⟨b,us2,m1,m2,m3⟩:=Ic dcs hu;refine⟨⟨cs,.ref b,AQ.of (E9 _ _ hC),m1⟩,CI (n:=60) (by lia) (by decide),fun x H' y=>?_⟩;obtain⟨rfl,y⟩:=y;have hx:=y cs (AQ.of (E9 _ _ hC));rw[m1]at hx;cases hx;unfold CZ;refine BI ⟨_,rfl,b,us2,rfl,.inl (AQ.of (E9 _ _ m2)),fun l hl=>?_⟩;have nl:l≠D2:=fun z=>by subst z;rw[hD9]at hl;cases hl
  have I:=AL hl (.lst us2);have hD10:=I _ _ hD9;refine⟨hD10,BR hj ⟨fun b o z=>?_,by simp[hzl],?_⟩⟩
  .rw[AE (AJ z hD2)];exact I _ _ (e9 _ _ z)
  .rw[List.take_add_one,hu,List.map_append];exact .but .upd ((dz.same I).app (.cons (.lst nl AF (KN hD10 (m3.same (E9.trans I)))) .nil))
 rintro zs H9 ⟨e9,hzl,dz⟩ hD9;rw[List.take_of_length_le (by lia)]at dz;have dz:=Ca dz;have E9:=E8.trans e9;refine⟨⟨cs,AQ.of (E9 _ _ hC),Nat.le_refl _⟩,?_⟩;refine⟨_,rfl,S,xs,rfl,.inl (AQ.of (E9 _ _ hS)),fun S2 hS2=>?_⟩;generalize hH:upd _ S2 _=H10;obtain⟨I,dS2,hS10⟩:=PB hH hS2 (dx.same E9);clear hH hS2;refine⟨BU (show 3<=60 by decide),fun hd0 hhd=>?_⟩;generalize hH:upd _ hd0 _=H11;obtain⟨e11,dH,hH11⟩:=PB hH hhd (.cons (dt2.same (e9.trans I)) (.cons ((DU.lst hD9 dz).same I) (.cons dS2 .nil)));clear hH hhd;have E11:=E9.trans (I.trans e11);have dH:DU H11 (EE t uss rs) (.ref hd0):=dH;have dt11:=dt.same E11;have dC11:DU H11 (Bs uss) (.ref C):=(DU.lst hC dcs).same E11;have dS11:DU H11 (.list (AN rs)) (.ref S):=(DU.lst hS dx).same E11;refine⟨_,rfl,_,rfl,_,rfl,_,rfl,_,_,rfl,rfl,[CF t,Bs uss,.list (AN rs),.int ((most+1:Nat):Int)],_,H11,LD (d:=1) o,.cons dt11.du (.cons dC11.du (.cons dS11.du (.cons (by rw[Du];rfl) .nil))),.refl _,fun vD G12 H12 _ _ g12 M dD=>?_⟩;have dD:=dD.same g12;refine⟨_,rfl,_,_,_,_,rfl,rfl,AQ.of (M _ _ hH11),rfl,_,rfl,_,_,_,_,rfl,rfl,AQ.of (M _ _ hH11),rfl,_,rfl,_,_,_,_,rfl,rfl,AQ.of (M _ _ hH11),rfl,_,rfl,.ref p2,D2,S2,zs,xs,t,uss,rs,most,many,rfl,dt2.same (e9.trans (I.trans (e11.trans M))),M _ _ (e11 _ _ (I _ _ hD9)),dz.same (I.trans (e11.trans M)),M _ _ (e11 _ _ hS10),dx.same (E11.trans M),o,fun Fo H13 fs e13 hFn hFo dF nF=>?_⟩;rw[QL o]at dF;generalize hX:(C9 (rs.getD · 0) uss (Ag t)).2=X at dF dD;have dFo:DU H13 (Bo X many (most+1)) (.ref Fo):=DU.lst hFo dF;have hfl:fs.length=many:=by rw[dF.len];unfold Aq;simp
 refine⟨_,rfl,_,rfl,[Bo X many (most+1),Bo X many (most+1)],.bool true,H13,KY rfl (MH _ (by lia) (by lia)),.cons dFo.du (.cons (dD.same e13) .nil),.refl _,fun v G14 H14 _ _ _ e14 dv=>?_⟩;rw[Du]at dv;subst dv;refine⟨_,rfl,C4 ?_⟩;have E1214:=e13.trans e14;have U:=M.trans E1214;refine⟨_,rfl,_,rfl,_,rfl,_,rfl,BU (show 3<=60 by decide),fun p4 hp4=>?_⟩;generalize hH:upd _ p4 _=H15;obtain⟨e15,hb,_⟩:=PB hH hp4 (.cons (dt11.same U) (.cons (dC11.same U) (.cons (dS11.same U) .nil)));clear hH hp4;have hb:DU H15 (EE t uss rs) (.ref p4):=hb;have E15:=U.trans e15;have okh:=b4 t uss rs;have z:=Rp _ okh.1;refine⟨_,_,(dH.same E15).br,hb.br,okh.shaped (by decide),okh.shaped (by decide),_,rfl,?_⟩;have z':(if true=true then !PyData.eqv (EE t uss rs) (EE t uss rs) else PyData.eqv (EE t uss rs) (EE t uss rs))=false:=by rw[z];rfl
 rw[z'];refine C4 ?_;have E1315:=e14.trans e15;have T:=E1315 _ _ hFo;have dF15:=dF.same E1315;have rf:∀i,i<many->∃b ys,fs[i]? = some (.ref b)/\H15 b=some (.lst ys)/\A3 H15 (AN (Ad (X i) (most+1))) ys/\H12 b=none:=fun i hi=>by
  obtain⟨v,k1,k2⟩:=dF15.get (i:=i) (d:=Ak (Ad (X i) (most+1))) (by unfold Aq;rw[List.getElem?_map,List.getElem?_map,List.getElem?_range hi];rfl);obtain⟨b,ys,rfl,k3,k4⟩:=k2.K4;obtain⟨b',e,hn⟩:=nF _ (aJ k1);cases e;exact⟨b,ys,k1,k3,k4,hn⟩
 have nFo:∀i,i<many->fs[i]?≠some (.ref Fo):=fun i hi hz=>by
  obtain⟨b,ys,k1,k2,k3,k4⟩:=rf i hi;rw[hz]at k1;cases k1;rw[T]at k2;cases k2;have hl:fs.length=most+1:=by rw[k3.len];unfold AN;rw[List.length_map,G5]
  have hq:(Ad (X i) (most+1))[i]? = some (X i i):=by
   have:i<most+1:=by rw[<-hl,hfl];exact hi
   unfold Ad;rw[List.getElem?_map,List.getElem?_range this];rfl
  obtain⟨p,h1,h2⟩:=GV k3 hq;rw[hz]at h1;cases h1;rw[T]at h2;cases h2
 refine⟨_,rfl,Fo,rfl,⟨_,AQ.of T⟩,Bx (xs:=fs) (fun i σ H'=>∃r11:Option V,σ=[some (.ref a),some (.int (many:Nat)),some (.ref C),some (.ref S),some (.ref pt),some (.int c),some (.int (most:Nat)),some (.ref D),some (.ref hd0),some vD,some (.ref Fo),r11,none,none]/\AG H12 H'/\H' Fo=some (.lst fs)/\∀j,j<many->∃b ys,fs[j]? = some (.ref b)/\H' b=some (.lst ys)/\H12 b=none) ?_ ?_ ?_ ?_⟩
 .exact⟨_,rfl,e13.trans E1315,T,fun j hj=>let⟨b,ys,k1,k2,_,k4⟩:=rf j hj;⟨b,ys,k1,k2,k4⟩⟩
 .rintro i σ H' _ ⟨r11,rfl,_,h,_⟩;exact AQ.of h
 .rintro i x σ H17 hx ⟨r11,rfl,st,hFo17,rr⟩;have hi:i<many:=by rw[<-hfl];exact(aB.mp hx).1
  obtain⟨b,ys,k1,k2,k4⟩:=rr i hi;rw[hx]at k1;cases k1;have nb:b≠Fo:=fun z=>nFo i hi (by rw[hx,z]);refine⟨_,rfl,.inl ⟨rfl,_,AQ.of k2⟩,b,ys,rfl,rfl,k2,?_⟩;refine⟨_,rfl,fun d u h=>by rw[AE (AJ h k4)];exact st _ _ h,by rw[AE (Ne.symm nb)];exact hFo17,fun j hj=>?_⟩;obtain⟨b',ys',j1,j2,j4⟩:=rr j hj;by_cases z:b'=b
  .subst z;exact⟨b',_,j1,AF,j4⟩
  .exact⟨b',ys',j1,by rw[AE z];exact j2,j4⟩
 rintro σ H18 ⟨r11,rfl,st,_,_⟩;have s11:=M.trans st;refine kt _ _ (di o o' c) H18 H18 H18 H18 _ _ ⟨.refl _,Nw.refl,.refl _,.refl _,rfl,fun i x h=>?_,fun i xs h=>?_,fun i j xs ys _ h=>?_,fun q hq=>by cases hq⟩ fun v G' H' _ _ _ _ dv=>?_
 .rcases i with _|_|_|_|_|_|_|_|_|_|_|_|_|_|i
  all_goals first|(cases h;done)|(simp at h;done)|skip
  .cases h;exact⟨_,rfl,(dC11.same s11).du⟩
  .cases h;exact⟨_,rfl,(dS11.same s11).du⟩
  .cases h;exact⟨_,rfl,(dt11.same s11).du⟩
  .cases h;exact⟨_,rfl,by rw[Du]⟩
  .cases h;exact⟨_,rfl,by rw[Du]⟩
  .cases h;exact⟨_,rfl,(dH.same s11).du⟩
  .cases h;exact⟨_,rfl,by rw[hX];exact dD.same st⟩
 .rcases i with _|_|_|_|_|_|_|_|_|_|_|_|_|_|i
  all_goals first|(cases h;done)|(simp at h)
 .rcases i with _|_|_|_|_|_|_|_|_|_|_|_|_|_|i
  all_goals first|(cases h;done)|(simp at h)
 .rw[Du]at dv;subst dv;exact q H'
end
section
open PySem.W
theorem fnX{w:World}{mg:Str->Option Value}{h:Heap}(X:(kH w.params).In h)(G:h.Ns mainGlobals mg)(n:String)(i:Nat)(m:String)(t c f:Nat)(ps:List Str)
 (ha:nsIn (kH w.params) mainGlobals (Str.ofString n)=some (some (.ref f)):=by kernel_rfl)(I:(kH w.params).lookup f=some (fO n i m t c):=by kernel_rfl)(R:codeIn (kH w.params) (.ref c) (Str.ofString n)=true:=by kernel_rfl)(M:keepIn (kH w.params) (.ref f)=true:=by kernel_rfl)
 (T:∀(kV doc pm:Value) (an:Option Addr) (cdv ct:Value) (us:List Value),us.length=ps.length->bindArgs (fnOf (Str.ofString n) (Str.ofString n) (FO (top i)) (De (top i)) (AO (top i)) .none kV doc pm an cdv ct) ⟨us,[]⟩=pure (ps.zip us):=by first|(exact fun _ _ _ _ _ _ us I=>match us,I with|[_],_=>rfl)|(exact fun _ _ _ _ _ _ us I=>match us,I with|[_,_],_=>rfl)|(exact fun _ _ _ _ _ _ us I=>match us,I with|[_,_,_],_=>rfl)|(exact fun _ _ _ _ _ _ us I=>match us,I with|[_,_,_,_],_=>rfl)|(exact fun _ _ _ _ _ _ us I=>match us,I with|[_,_,_,_,_],_=>rfl)|(exact fun _ _ _ _ _ _ us I=>match us,I with|[],_=>rfl)) :
  Fn (kH w.params) mg (Str.ofString n) (top i) ps f (fnOf (Str.ofString n) (Str.ofString n) (FO (top i)) (De (top i)) (AO (top i)) .none .none .none (.str (Str.ofString m) t) none (.ref c) .none) :=
 ⟨Ww I R M,(Ww (st:=top i) I R M).binds T,mg_of X G ha⟩
set_option maxHeartbeats 4000000 in
theorem kB(w:World)(mg:Str->Option Value)(fa:Addr)(h:Heap)(X:(kH w.params).In h)(G:h.Ns mainGlobals mg)(hfa:mg "law" = some (.ref fa)) :
  ∃fd:FuncData,(∀(s:Shared) (v:Value),BindsTo s fd ⟨[v],[]⟩ [("_law_script",v)])/\∀base:Heap,(kH w.params).In base->base.Ns mainGlobals mg->AM C3.prog w (kH w.params) mg base AZ 10 fa fd ["_law_script"] (Ve (kH w.params)):=by
 have e:=hfa.symm.trans (mg_of X G (v:=.ref 432) (by kernel_rfl));cases e;have Fu:=fnX X G "fraction_of" 8 "stepgrove.fracs" 287 93 94 ["top","bottom"];have C5:=fnX X G "is_fraction" 9 "stepgrove.fracs" 287 100 101 ["thing"];have BV:=fnX X G "are_fractions" 10 "stepgrove.fracs" 287 107 108 ["thing"];have Dw:=fnX X G "is_whole" 11 "stepgrove.fracs" 287 114 115 ["thing"];have BD:=fnX X G "greatest_divisor" 12 "stepgrove.fracs" 287 121 122 ["one","other"];have BZ:=fnX X G "common_bottom" 13 "stepgrove.fracs" 287 128 129 ["bottoms"];have EN:=fnX X G "power_of" 14 "stepgrove.fracs" 287 135 136 ["base","power"];have Jh:=fnX X G "is_poly" 16 "stepgrove.polys" 351 142 143 ["thing","unknowns"];have Jd:=fnX X G "is_term" 17 "stepgrove.polys" 351 149 150 ["thing","unknowns"];have GP:=fnX X G "are_powers" 18 "stepgrove.polys" 351 156 157 ["thing","unknowns"];have D9:=fnX X G "refuse_no_start" 19 "stepgrove.polys" 351 163 164 ["thing","unknowns"];have bp:=fnX X G "refuse_start" 20 "stepgrove.polys" 351 170 171 [];have EO:=fnX X G "one_less" 21 "stepgrove.polys" 351 177 178 ["powers","k"];have II:=fnX X G "grain_of" 23 "stepgrove.wholes" 402 182 183 ["start"];have Jj:=fnX X G "pace_of" 24 "stepgrove.wholes" 402 189 190 ["change","grain"];have Fh:=fnX X G "tops_over" 25 "stepgrove.wholes" 402 194 195 ["some","bottom"];have FP:=fnX X G "table_bottom" 26 "stepgrove.wholes" 402 199 200 ["table"];have FQ:=fnX X G "whole_change" 27 "stepgrove.wholes" 402 204 205 ["change","grain"];have Gm:=fnX X G "whole_poly" 28 "stepgrove.wholes" 402 211 212 ["some","bottom","grain","greatest"];have CT:=fnX X G "speeds_bottom" 29 "stepgrove.wholes" 402 216 217 ["change"];have CJ:=fnX X G "greatest_power" 30 "stepgrove.wholes" 402 223 224 ["change"];have HL:=fnX X G "is_change" 32 "stepgrove.changes" 467 230 231 ["thing"];have Dj:=fnX X G "refuse_no_change" 33 "stepgrove.changes" 467 237 238 ["thing"];have EA:=fnX X G "refuse_too_many" 36 "stepgrove.growth" 484 244 245 ["most"];have Dx:=fnX X G "row_of_fractions" 37 "stepgrove.growth" 484 251 252 ["row","pace","grain"];have Er:=fnX X G "powers_needed" 38 "stepgrove.growth" 484 258 259 ["change"];have CY:=fnX X G "first_unknown" 39 "stepgrove.growth" 484 265 266 ["powers"];have GZ:=fnX X G "product_at" 40 "stepgrove.growth" 484 270 271 ["products","rows","powers","k"];have IL:=fnX X G "speed_at" 41 "stepgrove.growth" 484 275 276 ["some","products","k"];have IP:=fnX X G "is_table" 44 "stepgrove.tables" 539 282 283 ["thing"];have D8:=fnX X G "refuse_no_table" 45 "stepgrove.tables" 539 289 290 ["thing"];have IZ:=fnX X G "are_rows" 46 "stepgrove.tables" 539 296 297 ["thing"];have Co:=fnX X G "step_rows" 48 "stepgrove.steps" 566 301 302 ["table","change","start","most"];have Ea:=fnX X G "refuse_no_step" 49 "stepgrove.steps" 566 308 309 ["table","change","start"];have EU:=fnX X G "rows_that_read" 50 "stepgrove.steps" 566 315 316 ["table"];have Gp:=fnX X G "whole_step" 51 "stepgrove.steps" 566 320 321 ["reading","change","start","most"]
 have Gk:=fnX X G "speed_rows" 52 "stepgrove.steps" 566 325 326 ["change","order","places","most"];have Jk:=fnX X G "read_at" 53 "stepgrove.steps" 566 330 331 ["row","speeds","unknown","most"];have BW:=fnX X G "_law_cell" 55 "law_stepgrove_k35_steps_power_by_power" 608 337 338 ["_law_script","_law_k"];have B9:=fnX X G "_law_take" 56 "law_stepgrove_k35_steps_power_by_power" 608 344 345 ["_law_pile","_law_size"];have Fq:=fnX X G "_law_shared" 57 "law_stepgrove_k35_steps_power_by_power" 608 351 352 ["_law_one","_law_other"];have CP:=fnX X G "_law_frac" 58 "law_stepgrove_k35_steps_power_by_power" 608 358 359 ["_law_top","_law_bottom"];have CO:=fnX X G "_law_plus" 59 "law_stepgrove_k35_steps_power_by_power" 608 365 366 ["_law_one","_law_other"];have E1:=fnX X G "_law_by" 60 "law_stepgrove_k35_steps_power_by_power" 608 372 373 ["_law_one","_law_other"];have CA:=fnX X G "_law_part" 61 "law_stepgrove_k35_steps_power_by_power" 608 379 380 ["_law_pile"];have HM:=fnX X G "_law_poly" 62 "law_stepgrove_k35_steps_power_by_power" 608 386 387 ["_law_pile","_law_many","_law_most"];have Fv:=fnX X G "_law_change" 63 "law_stepgrove_k35_steps_power_by_power" 608 391 392 ["_law_script","_law_start_here","_law_many","_law_most"];have GN:=fnX X G "_law_start" 64 "law_stepgrove_k35_steps_power_by_power" 608 396 397 ["_law_cell_here","_law_many"];have GK:=fnX X G "_law_table" 65 "law_stepgrove_k35_steps_power_by_power" 608 401 402 ["_law_script","_law_start_here","_law_most"];have Di:=fnX X G "_law_row_product" 66 "law_stepgrove_k35_steps_power_by_power" 608 406 407 ["_law_one","_law_other"];have Fj:=fnX X G "_law_row_of" 67 "law_stepgrove_k35_steps_power_by_power" 608 411 412 ["_law_some","_law_rows","_law_size"];have Ds:=fnX X G "_law_led_rows" 68 "law_stepgrove_k35_steps_power_by_power" 608 416 417 ["_law_start_here","_law_speeds","_law_parts","_law_size"];have CH:=fnX X G "_law_step_rows" 69 "law_stepgrove_k35_steps_power_by_power" 608 421 422 ["_law_table_here","_law_change_here","_law_start_here","_law_size"];have Bl:=fnX X G "_law_same" 70 "law_stepgrove_k35_steps_power_by_power" 608 426 427 ["_law_found","_law_due"];have iI:=fnX X G "law" 71 "law_stepgrove_k35_steps_power_by_power" 608 431 432 ["_law_script"];have I:mg "len" = none:=mg_none_of X G (by kernel_rfl);have M:mg "range" = none:=mg_none_of X G (by kernel_rfl);have Kq:mg "abs" = none:=mg_none_of X G (by kernel_rfl);have R:mg "isinstance" = none:=mg_none_of X G (by kernel_rfl);have Kn:mg "int" = none:=mg_none_of X G (by kernel_rfl);have Ip:mg "bool" = none:=mg_none_of X G (by kernel_rfl);have U:mg "tuple" = none:=mg_none_of X G (by kernel_rfl);have T:mg "list" = none:=mg_none_of X G (by kernel_rfl);have Bu:mg "enumerate" = none:=mg_none_of X G (by kernel_rfl);have Dl:mg "sum" = none:=mg_none_of X G (by kernel_rfl);have ES:mg "zip" = none:=mg_none_of X G (by kernel_rfl);have G9:mg "sorted" = none:=mg_none_of X G (by kernel_rfl);have Qn:mg "all" = none:=mg_none_of X G (by kernel_rfl)
 have Vp:mg "max" = none:=mg_none_of X G (by kernel_rfl);have Z:nsIn (kH w.params) mainGlobals "MOST_POWER" = some (some (.int 7 486)):=by kernel_rfl
 have Y:nsIn (kH w.params) mainGlobals "MOST_ROWS" = some (some (.int 40 541)):=by kernel_rfl
 refine⟨fnOf (Str.ofString "law") (Str.ofString "law") (FO (top 71)) (De (top 71)) (AO (top 71)) .none .none .none (.str (Str.ofString "law_stepgrove_k35_steps_power_by_power") 608) none (.ref 431) .none,fun s v=>.of_eq rfl,fun base _ _=>?_⟩;have JB:=PySem.W.mg_of X G Z;have Jz:=PySem.W.mg_of X G Y;have Xu:=K8 (P:=C3.prog) (w:=w) (base:=base) BD Kq;have jt:=Ot Fu BD Xu;have da:=Tj (P:=C3.prog) (w:=w) (base:=base) Dw R Kn Ip;have Wx:=Ow C5 Dw BD da Xu R U I;have YK:=M3 BV C5 Wx R T;have jZ:=Tg IZ BV YK Jz R T I Bu;have jG:=Te IP IZ BV jZ (YK.mono) R U I;have kW:=LV D8 IP (jG.mono);have gq:=QY GP Dw da R U I;have kI:=VE Jd GP C5 gq Wx R U I;have jK:=U3 Jh Jd kI R T Bu;have kQ:=Rq HL Jh jK R T I;have jq:=LB Dj HL (kQ.mono);have kC:=LM D9 BV (YK.mono) I;have jv:=MU Ea D8 Dj D9 (kW.mono) jq (kC.mono) I;have gp:=LR (P:=C3.prog) (w:=w) (base:=base) EA JB;have Yp:=MW BZ BD Xu;have kM:=N4 FP BZ Yp;have ZK:=Tp (P:=C3.prog) (w:=w) (base:=base) EN;have j9:=SU (P:=C3.prog) (w:=w) (base:=base) Fh;have kO:=Tq II BZ Yp;have fD:=NR CT BZ Yp;have gB:=MX (P:=C3.prog) (w:=w) (base:=base) CJ Vp Dl;have jQ:=Qi Gm EN ZK Dl;have kF:=OJ FQ CT CJ Gm fD (gB.mono) (jQ.mono);have jm:=VQ Jj CT CJ EN fD (gB.mono) (ZK.mono);have ju:=Mf (P:=C3.prog) (w:=w) (base:=base) EU;have gU:=TZ (P:=C3.prog) (w:=w) (base:=base) EO;have fU:=Mz (P:=C3.prog) (w:=w) (base:=base) CY;have kT:=M7 Er CY EO fU gU Dl G9;have gz:=Ql GZ CY EO fU gU Dl M;have kL:=TF (P:=C3.prog) (w:=w) (base:=base) IL Dl;have ib:=Qa Gk GZ IL gz kL M;have LL:=VS (P:=C3.prog) (w:=w) (base:=base) (k:=0) Jk ES;have gf:=Qd Gp Er Gk Jk (kT.mono) ib (LL.mono) Bu;have gY:=K9 Dx Fu jt;have gn:=Sh Co Ea EA II FP EU Fh Gp FQ Jj Dx jv (gp.mono) (kO.mono) (kM.mono) (ju.mono) (j9.mono) (gf.mono) (kF.mono) (jm.mono) (gY.mono);have Wh:=S7 (P:=C3.prog) (w:=w) (base:=base) B9;have YM:=PQ (P:=C3.prog) (w:=w) (base:=base) Fq Kq;have WV:=R9 CP Fq YM;have So:=Q8 (P:=C3.prog) (w:=w) (base:=base) BW I M;have Rj:=Rz CA B9 CP (Wh.mono) WV;have j6:=S6 HM B9 CA (Wh.mono) Rj M G9 U;have jx:=Ob Fv BW HM (So.mono) j6 M;have jn:=Oa GN CA Rj M;have jN:=PM GK BW CA (So.mono) Rj M;have g_same:=LW (P:=C3.prog) (w:=w) (base:=base) Bl R T U Kn Ip I Qn ES 4;have DH:=jY WV;have CQ:=gO (n:=3) g_same;have Cp:=S4 (P:=C3.prog) (w:=w) (base:=base) (k:=2) CO CP (DH.mono);have GC:=Vq (P:=C3.prog) (w:=w) (base:=base) (k:=2) E1 CP (DH.mono);have Ew:=LC (P:=C3.prog) (w:=w) (base:=base) (k:=3) Di E1 (GC.mono) CO (Cp.mono) Bu I M;have Hu:=Oz (P:=C3.prog) (w:=w) (base:=base) (k:=4) Fj CO (Cp.mono) Di (Ew.mono) M ES;have Ep:=Nb (P:=C3.prog) (w:=w) (base:=base) (k:=3) Ds E1 (GC.mono) CO (Cp.mono) I M ES;have Ck:=Mc (k:=5) CH Ds Fj (Ep.mono) (Hu.mono);exact cU (k:=9) iI BW Fv GN GK Co CH Bl (So.mono) (jx.mono) (jn.mono) (jN.mono) gn (Ck.mono) (CQ.mono) T
theorem walkX:WalkO qX [] (XL qX []) hX.says C3.row.toRowW dX [] (fun f vs=>PySem.call f vs) :=
 L2.cQ (l:=C3) (n:=63) (k:=10) (x := "_law_script") (CX:=fun _=>AZ) (K:=kH) (sp:=fun w=>Ve (kH w.params)) rfl (by decide) rfl ⟨rfl,by decide,by decide⟩ (fun w mg h X G H d e=>by rw[mg_none_of X G (by kernel_rfl)]at e;cases e) (fun w h Y=>kIn_of Y) kB (fun _ _ a ns I _ M=>⟨a,ns,rfl,M,I,fun _=>rfl⟩) fun _ _ _ _ _ z=>z
end
end Q35
open PySem PySem.W PyProof.Rows
set_option maxRecDepth 100000 in
theorem PySem.Challenge.cw_stepgrove_k35_steps_power_by_power_holds : PySem.Challenge.rw_stepgrove_k35_steps_power_by_power.Holds := by
  refine Q35.openX ?hw Q35.walkX
  w_witness2
#print axioms PySem.Challenge.cw_stepgrove_k35_steps_power_by_power_holds
