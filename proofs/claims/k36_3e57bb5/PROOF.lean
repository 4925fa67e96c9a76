import PyProof.Rows.All
import Wide.All
import OpenK.AllK
import Wide.FinOn
import Lean
import PyProof.EqAt
import PyProof.EqKinds
import PyProof.TupleCall
import PySem.Challenge.RW_stepgrove_k36_whole_steps_of_lengths
set_option Elab.async false
set_option linter.all false
set_option maxRecDepth 100000
set_option maxHeartbeats 4000000
abbrev aA:=@PySem.wpAny_bind
abbrev aB:=@List.getElem?_eq_some_iff
abbrev aC:=@PySem.wpAny_pure
abbrev aD:=@Nat.le_refl
abbrev aE:=@PySem.Heap.get?_push_of_some
abbrev aF:=@List.getElem?_eq_getElem
abbrev aG:=@PySem.Heap.lt_size
abbrev aH:=@Option.map_eq_some_iff
abbrev aI:=@List.mem_of_getElem?
abbrev aJ:=@List.mem_map
abbrev aK:=@Option.bind_eq_some_iff
abbrev aL:=@Nat.lt_of_le_of_lt
abbrev aM:=@List.mem_cons_of_mem
abbrev aN:=@Nat.lt_of_lt_of_le
abbrev aO:=@Bool.false_ne_true
abbrev aP:=@PySem.PassesOwn.never
abbrev aQ:=@PyProof.Rows.boot_isinstance
abbrev aR:=@List.mem_cons_self
abbrev aS:=@List.mem_append
abbrev aT:=@Nat.ne_of_lt
abbrev aU:=@Nat.le_trans
abbrev aV:=@Nat.mul_le_mul_left
abbrev aW:=@List.map_congr_left
abbrev aX:=@PySem.Heap.get?_push_size
abbrev aY:=@List.mem_cons
abbrev aZ:=@PySem.wpAny_newObj_type
abbrev aa:=@List.getElem?_of_mem
abbrev ab:=@List.not_mem_nil
abbrev ae:=@Option.some.inj
abbrev af:=@of_decide_eq_true
abbrev ag:=@Bool.eq_false_iff
abbrev ah:=@Nat.zero_le
abbrev ai:=@PySem.F.plainAttrs_list
abbrev aj:=@List.mem_append_right
abbrev ak:=@PySem.wpAny_mono
abbrev ao:=@PySem.wpAny_setField_rec
abbrev aq:=@PySem.wpAny_field
abbrev ar:=@PySem.wpAny_callSpecial?_slot
abbrev au:=@List.getElem_mem
abbrev av:=@PySem.boot_len
abbrev ax:=@PySem.F.slot_list_append
abbrev ay:=@PySem.F.type_list_append
abbrev az:=@PySem.wpAny_call_entry
abbrev bA:=@PyProof.Rows.boot_tuple
abbrev bC:=@List.of_mem_zip
abbrev bD:=@Nat.pow_le_pow_right
abbrev bE:=@Nat.ne_of_gt
abbrev bF:=@PySem.wpAny_typeNameOfWhole_itemiter
abbrev bG:=@of_decide_eq_false
abbrev bH:=@PySem.wpAny_isOneOf_itemiter
abbrev bI:=@PySem.F.slot_dict_itemiterator_next
abbrev bJ:=@PySem.Heap.SameBut.update
abbrev bK:=@PySem.W.kia_one
abbrev bL:=@List.mem_append_left
abbrev bM:=@PySem.wpAny_holding
abbrev bN:=@List.mem_range
abbrev bO:=@PyProof.Rows.boot_list
abbrev bP:=@congrArg
abbrev bQ:=@decide_eq_false
abbrev bR:=@PySem.wpAny_typeNameOf_itemiter
abbrev bS:=@List.length_map
abbrev bT:=@PyProof.Rows.boot_sum
abbrev bU:=@decide_eq_true
abbrev bV:=@Nat.mul_le_mul
abbrev bW:=@Nat.mul_le_mul_right
abbrev bX:=@Nat.lt_succ_of_lt
abbrev bY:=@Nat.add_le_add_left
abbrev bZ:=@Nat.le_of_lt
abbrev ba:=@PySem.F.plain_extend_loop
abbrev bc:=@Int.mul_ne_zero
abbrev bf:=@PyProof.Rows.KeyOrd.kle_refl
abbrev bg:=@List.mem_of_mem_take
abbrev bh:=@List.mem_of_mem_drop
abbrev bj:=@PySem.wpAny_truthy_bool
abbrev bo:=@PySem.wpAny_dictEntries
abbrev bp:=@PySem.wpAny_seqItems
abbrev bq:=@PySem.wpAny_fieldsOf
abbrev bw:=@Int.mul_pos
abbrev bx:=@List.nodup_cons
abbrev bz:=@Nat.not_lt_zero
namespace Opn
open PySem PySem.W PyProof.Rows PySem.Calls
noncomputable def q0:Pos:=⟨0,0,0,0⟩
noncomputable def i5:Obj:={ cls:=.type "tuple",data:=.seq #[]}
noncomputable def i7:Obj:={ cls:=.none,data:=.fields #[]}
noncomputable def i8:Obj:={ cls:=.type "code",data:=.fields #[.str (Str.ofString "<module>") 182,.str (Str.ofString "<module>") 183,.str (Str.ofString "/claim/cut.py") 184,.int 1 0,.int 0 0,.int 0 0,.int 0 0,.int 0 0,.ref 11,.bool false,.int 181 0,.ref 12,.none,.none,.none,.none,.int 185 0,.int 1 0,.str (Str.ofString "/claim/cut.py") 186]}
noncomputable def iz:Obj:={ cls:=.type "frame",slots:=#[some (.ref 13),some (.ref 3),some (.ref 3),none,some (.str (Str.ofString "__main__") 164),none,some (.ref 0)]}
noncomputable def gz(P:Params):List Obj:=(boot_heap P).objs.toList++[i5,i7,i8,iz]
noncomputable def nN(P:Params)(o:Params->Obj)(l r:BT):BT:=.node (o P) l r
noncomputable def lN(P:Params)(o:Params->Obj):BT:=.node (o P) .nil .nil
noncomputable def iB(P:Params):BT :=
 nN P boot_o_0 (nN P boot_o_1 (nN P boot_o_3 (lN P boot_o_7) (.node i5 .nil .nil)) (nN P boot_o_5 (lN P boot_o_9) (.node i8 .nil .nil)))
  (nN P boot_o_2 (nN P boot_o_4 (lN P boot_o_8) (.node i7 .nil .nil)) (nN P boot_o_6 (lN P boot_o_10) (.node iz .nil .nil)))
noncomputable def ZA:Life:=Life.mk [] [] [] 0 [] [] false #[] [] 0 false false false 0 [2000,10,10] false 0 true [] [] 0 false
noncomputable def sA(w:World)(os:OsState):Shared:=⟨⟨⟨gz w.params⟩,ZA⟩,#[],boot_drawn,187,os⟩
noncomputable def sB(w:World)(os:OsState):SharedT:=⟨iB w.params,15,ZA,#[],boot_drawn,187,os⟩
noncomputable def Mv(p:Program):Env:={ scope:=p.main.scope,locals:=mainNs,globals:=mainNs,cells:=[],code:=.ref 13,frame:=some 14}
noncomputable def cB(p:Program):Code:=.body (behindTheImports p) (Mv p)
noncomputable abbrev Hl:Option Value:=some (.ref 6)
noncomputable abbrev bB:List Frame:=[topFrame q0]
noncomputable def VV(p:Program)(M:Nat)(w:World)(os:OsState):Option (Flow×SharedT×Code×Pos) :=
 PySem.W.Fast.tw10110043849684766642 PySem.W.Fast.tw14364793385576792824 p w 11 Hl 1 M (sB w os) (piecesOf (behindTheImports p) (Mv p) (cB p) q0 bB)
noncomputable def U4(p:Program)(M:Nat)(w:World)(os:OsState):SharedT:=match VV p M w os with|some (_,s,_)=>s|none=>sB w os
theorem cH{p:Program}{M:Nat}{w:World}{os:OsState}{r:Option (Flow×SharedT×Code×Pos)}(h:VV p M w os=r) :
  segRunT treeTable p w 11 Hl 1 M (sB w os) (piecesOf (behindTheImports p) (Mv p) (cB p) q0 bB)=r:=by
 have e:segRunT treeTable=PySem.W.Fast.tw10110043849684766642 PySem.W.Fast.tw14364793385576792824:=congr PySem.W.Fast.te10110043849684766642 PySem.W.Fast.te14364793385576792824;rw[e];exact h
theorem ee{p:Program}{M R:Nat}{g:Pos}{w:World}{os:OsState}
 (pre:topGo treeTable p w 11 Hl 12 ⟨boot_heap w.params,#[],boot_drawn,boot_toks,os⟩ (topStub p)=some (sA w os,⟨denote treeTable (cB p),cB p,q0,bB⟩))
 (I:segRun treeTable p w 11 Hl 1 1 (sA w os) (blockOf (behindTheImports p) (Mv p) (cB p) q0 bB)=some (.next,(sB w os).abs,cB p,q0))
 (seg:VV p M w os=some (.next,U4 p M w os,cB p,g))
 (fin:∀s,topRun treeTable p w 11 Hl 2 s (restOf [] (Mv p) (cB p) g bB)=some s)(U:R=12+(1+(M+2))) :
  topRun treeTable p w 11 Hl R ⟨boot_heap w.params,#[],boot_drawn,boot_toks,os⟩ (topStub p)=some (U4 p M w os).abs:=by
 subst U;refine go_top pre (piece_block I ?_);have h:=piece_app (rest:=[]) (segRun_of (cH seg)) (fin _);rw[List.append_nil]at h;exact h
theorem Zv{p q:Program}{loose:List Str}{Xt:Shared->Bool}{α:Type}{Yf:Shared->α}{Ya:World->α}{N M:Nat}{S:World->OsState->Shared}
 (g:∀w:World,(fencedOpening treeTable p w N).map (fun s=>(s.heap,s.gens,s.drawn,s.toks))=some (boot_heap w.params,#[],boot_drawn,boot_toks))
 (size:∀w:World,((boot_heap w.params).isNs mainGlobals&&(#[]:Array GenState).size==0,(boot_heap w.params).objs.size,(boot_heap w.params).nsMap mainGlobals "__annotations__")=(true,11,Hl))
 (run:∀w os,topRun treeTable p w 11 Hl M ⟨boot_heap w.params,#[],boot_drawn,boot_toks,os⟩ (topStub p)=some (S w os))(le:Nat.ble M N=true)
 (ok:∀w os,(staticsOk (importedModules p.main.body) (boot_heap w.params) (S w os).heap&&namesBound p (S w os).heap&&gensDone (S w os)&&laidKept (boot_heap w.params) (S w os).heap)=true)
 (seen:∀w os,openSeen q loose (importedModules p.main.body) Xt true (S w os)=openGood q loose)
 (Z:∀w os,Yf (S w os)=Ya w):LeftO p q loose Xt Yf Ya N:=fun w=>by
 obtain⟨⟨h,gs,d,k,os⟩,e,e'⟩:=aH.mp (g w);obtain⟨rfl,rfl,rfl,rfl⟩:h=boot_heap w.params/\gs=#[]/\d=boot_drawn/\k=boot_toks:=by simpa using e'
 obtain⟨U,R,I⟩:_/\_/\_:=by simpa only[Prod.mk.injEq]using size w
 have Y:=ok w os;have r:=topRun_mono (N-M) _ _ _ _ (run w os);rw[show M+(N-M)=N by have:=Nat.le_of_ble_eq_true le;lia]at r;have t:topFrom treeTable p w N ⟨boot_heap w.params,#[],boot_drawn,boot_toks,os⟩=some (S w os):=by
  unfold topFrom;dsimp only;rw[U,R,I,r];show(match staticsOk (importedModules p.main.body) (boot_heap w.params) (S w os).heap&&namesBound p (S w os).heap&&gensDone (S w os)&&laidKept (boot_heap w.params) (S w os).heap with|true=>_|false=>_)=_;rw[Y]
 unfold openEnds;rw[e];show(topFrom treeTable p w N _).map _=_;rw[t];exact bP some (Prod.ext (seen w os) (Z w os))
theorem gm(w:World):((boot_heap w.params).isNs mainGlobals&&(#[]:Array GenState).size==0,(boot_heap w.params).objs.size,(boot_heap w.params).nsMap mainGlobals "__annotations__")=(true,11,Hl):=by kernel_rfl
end Opn
namespace Q36
open PySem
def top(i:Nat):Stmt:=PySem.Challenge.pw_stepgrove_k36_whole_steps_of_lengths.main.body.getD i (.Pass ⟨0,0,0,0⟩)
end Q36
namespace L2
open PySem
def FL(s:Stmt):Arguments:=match s with
 |.FunctionDef _ a _ _ _ _ _ _ _ _=>a
 |_=>{ posonlyargs:=[],args:=[],vararg:=none,kwonlyargs:=[],kw_defaults:=[],kwarg:=none,defaults:=[]}
def DZ(s:Stmt):List Stmt:=match s with
 |.FunctionDef _ _ b _ _ _ _ _ _ _=>b
 |_=>[]
def AN(s:Stmt):Scope:=match s with
 |.FunctionDef _ _ _ _ _ _ sc _ _ _=>sc
 |_=>{ kind:=.function,names:=[],isGenerator:=false,isCoroutine:=false}
end L2
namespace Q36
open PySem L2
section
open PySem.W PyProof.Rows PySem.Calls
abbrev Ee:Program:=PySem.Challenge.pw_stepgrove_k36_whole_steps_of_lengths
abbrev DQ:OpenLaw:=PySem.Challenge.rw_stepgrove_k36_whole_steps_of_lengths
noncomputable abbrev dE(P:Params)(x:String)(t:Nat)(v:Value):DictEntry:=⟨PyData.keyHash P (Str.ofString x),.str (Str.ofString x) t,v⟩
noncomputable abbrev sV(x:String)(t:Nat):Value:=.str (Str.ofString x) t
noncomputable abbrev fO(n:String)(i:Nat)(m:String)(t c:Nat):Obj:=⟨.type "function",none,.func (fnOf n n (FL (top i)) (DZ (top i)) (AN (top i)) .none .none .none (.str (Str.ofString m) t) none (.ref c) .none),#[]⟩
noncomputable abbrev cO(n:String)(t l a k r:Nat)(b:Bool)(U:Nat)(R M I v4:Value)(g:Nat):Obj:=⟨.type "code",none,.fields #[sV n t,sV n (t+1),sV "/claim/cut.py" (t+2),.int l 0,.int a 0,.int 0 0,.int 0 0,.int k 0,.ref r,.bool b,.int 181 0,.ref U,R,M,I,v4,.int g 0,.int l 0,sV "/claim/cut.py" (g+1)],#[]⟩
noncomputable def kH:Params->Frag:=fun P=>
 (nat_lit 2,⟨.none,none,(.dict #[] 0),#[]⟩) ::
 (nat_lit 3,⟨(.type "dict"),none,(.dict #[dE P "__name__" 165 (sV "law_stepgrove_k36_whole_steps_of_lengths" 651),dE P "__doc__" 166 .none,dE P "__package__" 167 .none,dE P "__loader__" 168 (.builtin "__main__.__loader__#opaque"),dE P "__spec__" 169 .none,dE P "__annotations__" 170 (.ref 6),dE P "__builtins__" 171 (.ref 4),dE P "__file__" 173 (sV "/claim/cut.py" 172),dE P "__cached__" 174 .none,dE P "GroveError" 206 (.ref 24),dE P "NoBottom" 222 (.ref 37),dE P "NoChange" 238 (.ref 49),dE P "NoStart" 254 (.ref 61),dE P "NoTable" 270 (.ref 73),dE P "TooMany" 286 (.ref 85),dE P "fraction_of" 297 (.ref 94),dE P "is_fraction" 304 (.ref 101),dE P "are_fractions" 312 (.ref 108),dE P "is_whole" 319 (.ref 115),dE P "greatest_divisor" 330 (.ref 122),dE P "common_bottom" 339 (.ref 129),dE P "frac_total" 345 (.ref 134),dE P "power_of" 356 (.ref 141),dE P "is_poly" 368 (.ref 148),dE P "is_term" 376 (.ref 155),dE P "are_powers" 385 (.ref 162),dE P "refuse_no_start" 393 (.ref 169),dE P "refuse_start" 399 (.ref 176),dE P "one_less" 407 (.ref 183),dE P "worth_at" 413 (.ref 188),dE P "term_worth" 426 (.ref 195),dE P "grain_of" 434 (.ref 200),dE P "pace_of" 442 (.ref 207),dE P "tops_over" 448 (.ref 212),dE P "table_bottom" 454 (.ref 217),dE P "whole_change" 460 (.ref 222),dE P "whole_poly" 474 (.ref 229),dE P "speeds_bottom" 480 (.ref 234),dE P "greatest_power" 491 (.ref 241),dE P "is_change" 501 (.ref 248),dE P "refuse_no_change" 508 (.ref 255),dE P "MOST_POWER" 512 (.int 7 511),dE P "refuse_too_many" 519 (.ref 262),dE P "row_of_fractions" 531 (.ref 269),dE P "powers_needed" 543 (.ref 276),dE P "first_unknown" 551 (.ref 283),dE P "product_at" 557 (.ref 288),dE P "speed_at" 563 (.ref 293),dE P "MOST_ROWS" 567 (.int 40 566),dE P "is_table" 574 (.ref 300),dE P "refuse_no_table" 581 (.ref 307),dE P "are_rows" 590 (.ref 314),dE P "step_to" 598 (.ref 319),dE P "step_rows" 604 (.ref 324),dE P "refuse_no_step" 613 (.ref 331),dE P "rows_that_read" 620 (.ref 338),dE P "speeds_at" 626 (.ref 343),dE P "led_to" 632 (.ref 348),dE P "whole_step" 638 (.ref 353),dE P "speed_rows" 644 (.ref 358),dE P "read_at" 650 (.ref 363),dE P "_law_cell" 664 (.ref 370),dE P "_law_take" 673 (.ref 377),dE P "_law_shared" 681 (.ref 384),dE P "_law_frac" 690 (.ref 391),dE P "_law_plus" 698 (.ref 398),dE P "_law_by" 706 (.ref 405),dE P "_law_part" 714 (.ref 412),dE P "_law_poly" 731 (.ref 419),dE P "_law_change" 737 (.ref 424),dE P "_law_start" 743 (.ref 429),dE P "_law_table" 749 (.ref 434),dE P "_law_same" 755 (.ref 439),dE P "law" 761 (.ref 444)] 74),#[]⟩) ::
 (nat_lit 15,⟨(.type "tuple"),none,(.seq #[(.type "ValueError")] 0),#[]⟩) ::
 (nat_lit 22,⟨(.type "tuple"),none,(.seq #[] 0),#[]⟩) ::
 (nat_lit 23,⟨(.type "dict"),none,(.dict #[dE P "__module__" 196 (sV "stepgrove.errors" 187),dE P "__firstlineno__" 200 (.int 2 199),dE P "__static_attributes__" 201 (.ref 22),dE P "__weakref__" 203 (.ref 25),dE P "__doc__" 204 .none] 3),#[]⟩) ::
 (nat_lit 24,⟨(.type "type"),none,(.cls ⟨Str.ofString "GroveError",[(.type "ValueError")],[(.ref 24),(.type "ValueError"),(.type "Exception"),(.type "BaseException"),(.type "object")],23,Str.ofString "GroveError",true,[],[(.ref 37),(.ref 49),(.ref 61),(.ref 73),(.ref 85)],false,none,false⟩),#[some (.ref 15),none,some (sV "GroveError" 189),some (sV "GroveError" 197),some (.builtin "ValueError.__new__"),some (.bool true)]⟩) ::
 (nat_lit 25,⟨(.type "getset_descriptor"),none,(.fields #[(sV "__weakref__" 202),(.ref 24),(.builtin "ExceptionGroup.__weakref__"),.none]),#[]⟩) ::
 (nat_lit 28,⟨(.type "tuple"),none,(.seq #[(.ref 24)] 0),#[]⟩) ::
 (nat_lit 35,⟨(.type "tuple"),none,(.seq #[] 0),#[]⟩) ::
 (nat_lit 36,⟨(.type "dict"),none,(.dict #[dE P "__module__" 214 (sV "stepgrove.errors" 187),dE P "__firstlineno__" 218 (.int 4 217),dE P "__static_attributes__" 219 (.ref 35),dE P "__doc__" 220 .none] 2),#[]⟩) ::
 (nat_lit 37,⟨(.type "type"),none,(.cls ⟨Str.ofString "NoBottom",[(.ref 24)],[(.ref 37),(.ref 24),(.type "ValueError"),(.type "Exception"),(.type "BaseException"),(.type "object")],36,Str.ofString "NoBottom",true,[],[],false,none,false⟩),#[some (.ref 28),none,some (sV "NoBottom" 207),some (sV "NoBottom" 215),some (.builtin "ValueError.__new__"),some (.bool true)]⟩) ::
 (nat_lit 40,⟨(.type "tuple"),none,(.seq #[(.ref 24)] 0),#[]⟩) ::
 (nat_lit 47,⟨(.type "tuple"),none,(.seq #[] 0),#[]⟩) ::
 (nat_lit 48,⟨(.type "dict"),none,(.dict #[dE P "__module__" 230 (sV "stepgrove.errors" 187),dE P "__firstlineno__" 234 (.int 6 233),dE P "__static_attributes__" 235 (.ref 47),dE P "__doc__" 236 .none] 2),#[]⟩) ::
 (nat_lit 49,⟨(.type "type"),none,(.cls ⟨Str.ofString "NoChange",[(.ref 24)],[(.ref 49),(.ref 24),(.type "ValueError"),(.type "Exception"),(.type "BaseException"),(.type "object")],48,Str.ofString "NoChange",true,[],[],false,none,false⟩),#[some (.ref 40),none,some (sV "NoChange" 223),some (sV "NoChange" 231),some (.builtin "ValueError.__new__"),some (.bool true)]⟩) ::
 (nat_lit 52,⟨(.type "tuple"),none,(.seq #[(.ref 24)] 0),#[]⟩) ::
 (nat_lit 59,⟨(.type "tuple"),none,(.seq #[] 0),#[]⟩) ::
 (nat_lit 60,⟨(.type "dict"),none,(.dict #[dE P "__module__" 246 (sV "stepgrove.errors" 187),dE P "__firstlineno__" 250 (.int 8 249),dE P "__static_attributes__" 251 (.ref 59),dE P "__doc__" 252 .none] 2),#[]⟩) ::
 (nat_lit 61,⟨(.type "type"),none,(.cls ⟨Str.ofString "NoStart",[(.ref 24)],[(.ref 61),(.ref 24),(.type "ValueError"),(.type "Exception"),(.type "BaseException"),(.type "object")],60,Str.ofString "NoStart",true,[],[],false,none,false⟩),#[some (.ref 52),none,some (sV "NoStart" 239),some (sV "NoStart" 247),some (.builtin "ValueError.__new__"),some (.bool true)]⟩) ::
 (nat_lit 64,⟨(.type "tuple"),none,(.seq #[(.ref 24)] 0),#[]⟩) ::
 (nat_lit 71,⟨(.type "tuple"),none,(.seq #[] 0),#[]⟩) ::
 (nat_lit 72,⟨(.type "dict"),none,(.dict #[dE P "__module__" 262 (sV "stepgrove.errors" 187),dE P "__firstlineno__" 266 (.int 10 265),dE P "__static_attributes__" 267 (.ref 71),dE P "__doc__" 268 .none] 2),#[]⟩) ::
 (nat_lit 73,⟨(.type "type"),none,(.cls ⟨Str.ofString "NoTable",[(.ref 24)],[(.ref 73),(.ref 24),(.type "ValueError"),(.type "Exception"),(.type "BaseException"),(.type "object")],72,Str.ofString "NoTable",true,[],[],false,none,false⟩),#[some (.ref 64),none,some (sV "NoTable" 255),some (sV "NoTable" 263),some (.builtin "ValueError.__new__"),some (.bool true)]⟩) ::
 (nat_lit 76,⟨(.type "tuple"),none,(.seq #[(.ref 24)] 0),#[]⟩) ::
 (nat_lit 83,⟨(.type "tuple"),none,(.seq #[] 0),#[]⟩) ::
 (nat_lit 84,⟨(.type "dict"),none,(.dict #[dE P "__module__" 278 (sV "stepgrove.errors" 187),dE P "__firstlineno__" 282 (.int 12 281),dE P "__static_attributes__" 283 (.ref 83),dE P "__doc__" 284 .none] 2),#[]⟩) ::
 (nat_lit 85,⟨(.type "type"),none,(.cls ⟨Str.ofString "TooMany",[(.ref 24)],[(.ref 85),(.ref 24),(.type "ValueError"),(.type "Exception"),(.type "BaseException"),(.type "object")],84,Str.ofString "TooMany",true,[],[],false,none,false⟩),#[some (.ref 76),none,some (sV "TooMany" 271),some (sV "TooMany" 279),some (.builtin "ValueError.__new__"),some (.bool true)]⟩) ::
 (nat_lit 93,cO "fraction_of" 289 15 2 3 88 true 89 .none (.ref 90) (.ref 91) (.ref 92) 295) ::
 (nat_lit 94,fO "fraction_of" 8 "stepgrove.fracs" 287 93) ::
 (nat_lit 100,cO "is_fraction" 298 22 1 3 95 true 96 .none (.ref 97) (.ref 98) (.ref 99) 302) ::
 (nat_lit 101,fO "is_fraction" 9 "stepgrove.fracs" 287 100) ::
 (nat_lit 107,cO "are_fractions" 305 28 1 3 102 true 103 .none (.ref 104) (.ref 105) (.ref 106) 310) ::
 (nat_lit 108,fO "are_fractions" 10 "stepgrove.fracs" 287 107) ::
 (nat_lit 114,cO "is_whole" 313 35 1 3 109 true 110 .none (.ref 111) (.ref 112) (.ref 113) 317) ::
 (nat_lit 115,fO "is_whole" 11 "stepgrove.fracs" 287 114) ::
 (nat_lit 121,cO "greatest_divisor" 320 37 2 3 116 true 117 .none (.ref 118) (.ref 119) (.ref 120) 328) ::
 (nat_lit 122,fO "greatest_divisor" 12 "stepgrove.fracs" 287 121) ::
 (nat_lit 128,cO "common_bottom" 331 45 1 3 123 true 124 .none (.ref 125) (.ref 126) (.ref 127) 337) ::
 (nat_lit 129,fO "common_bottom" 13 "stepgrove.fracs" 287 128) ::
 (nat_lit 133,cO "frac_total" 340 50 1 3 130 true 131 .none .none .none (.ref 132) 343) ::
 (nat_lit 134,fO "frac_total" 14 "stepgrove.fracs" 287 133) ::
 (nat_lit 140,cO "power_of" 346 53 2 3 135 true 136 .none (.ref 137) (.ref 138) (.ref 139) 354) ::
 (nat_lit 141,fO "power_of" 15 "stepgrove.fracs" 287 140) ::
 (nat_lit 147,cO "is_poly" 359 65 2 3 142 true 143 .none (.ref 144) (.ref 145) (.ref 146) 366) ::
 (nat_lit 148,fO "is_poly" 17 "stepgrove.polys" 357 147) ::
 (nat_lit 154,cO "is_term" 369 72 2 3 149 true 150 .none (.ref 151) (.ref 152) (.ref 153) 374) ::
 (nat_lit 155,fO "is_term" 18 "stepgrove.polys" 357 154) ::
 (nat_lit 161,cO "are_powers" 377 76 2 3 156 true 157 .none (.ref 158) (.ref 159) (.ref 160) 383) ::
 (nat_lit 162,fO "are_powers" 19 "stepgrove.polys" 357 161) ::
 (nat_lit 168,cO "refuse_no_start" 386 83 2 3 163 true 164 .none (.ref 165) (.ref 166) (.ref 167) 391) ::
 (nat_lit 169,fO "refuse_no_start" 20 "stepgrove.polys" 357 168) ::
 (nat_lit 175,cO "refuse_start" 394 86 0 3 170 true 171 .none (.ref 172) (.ref 173) (.ref 174) 397) ::
 (nat_lit 176,fO "refuse_start" 21 "stepgrove.polys" 357 175) ::
 (nat_lit 182,cO "one_less" 400 88 2 3 177 true 178 .none (.ref 179) (.ref 180) (.ref 181) 405) ::
 (nat_lit 183,fO "one_less" 22 "stepgrove.polys" 357 182) ::
 (nat_lit 187,cO "worth_at" 408 90 2 3 184 true 185 .none .none .none (.ref 186) 411) ::
 (nat_lit 188,fO "worth_at" 23 "stepgrove.polys" 357 187) ::
 (nat_lit 194,cO "term_worth" 414 92 3 3 189 true 190 .none (.ref 191) (.ref 192) (.ref 193) 424) ::
 (nat_lit 195,fO "term_worth" 24 "stepgrove.polys" 357 194) ::
 (nat_lit 199,cO "grain_of" 429 100 1 3 196 true 197 .none .none .none (.ref 198) 432) ::
 (nat_lit 200,fO "grain_of" 26 "stepgrove.wholes" 427 199) ::
 (nat_lit 206,cO "pace_of" 435 102 2 3 201 true 202 .none (.ref 203) (.ref 204) (.ref 205) 440) ::
 (nat_lit 207,fO "pace_of" 27 "stepgrove.wholes" 427 206) ::
 (nat_lit 211,cO "tops_over" 443 104 2 3 208 true 209 .none .none .none (.ref 210) 446) ::
 (nat_lit 212,fO "tops_over" 28 "stepgrove.wholes" 427 211) ::
 (nat_lit 216,cO "table_bottom" 449 106 1 3 213 true 214 .none .none .none (.ref 215) 452) ::
 (nat_lit 217,fO "table_bottom" 29 "stepgrove.wholes" 427 216) ::
 (nat_lit 221,cO "whole_change" 455 111 2 3 218 true 219 .none .none .none (.ref 220) 458) ::
 (nat_lit 222,fO "whole_change" 30 "stepgrove.wholes" 427 221) ::
 (nat_lit 228,cO "whole_poly" 461 115 4 3 223 true 224 .none (.ref 225) (.ref 226) (.ref 227) 472) ::
 (nat_lit 229,fO "whole_poly" 31 "stepgrove.wholes" 427 228) ::
 (nat_lit 233,cO "speeds_bottom" 475 121 1 3 230 true 231 .none .none .none (.ref 232) 478) ::
 (nat_lit 234,fO "speeds_bottom" 32 "stepgrove.wholes" 427 233) ::
 (nat_lit 240,cO "greatest_power" 481 126 1 3 235 true 236 .none (.ref 237) (.ref 238) (.ref 239) 489) ::
 (nat_lit 241,fO "greatest_power" 33 "stepgrove.wholes" 427 240) ::
 (nat_lit 247,cO "is_change" 494 133 1 3 242 true 243 .none (.ref 244) (.ref 245) (.ref 246) 499) ::
 (nat_lit 248,fO "is_change" 35 "stepgrove.changes" 492 247) ::
 (nat_lit 254,cO "refuse_no_change" 502 140 1 3 249 true 250 .none (.ref 251) (.ref 252) (.ref 253) 506) ::
 (nat_lit 255,fO "refuse_no_change" 36 "stepgrove.changes" 492 254) ::
 (nat_lit 261,cO "refuse_too_many" 513 145 1 3 256 true 257 .none (.ref 258) (.ref 259) (.ref 260) 517) ::
 (nat_lit 262,fO "refuse_too_many" 39 "stepgrove.growth" 509 261) ::
 (nat_lit 268,cO "row_of_fractions" 520 148 3 3 263 true 264 .none (.ref 265) (.ref 266) (.ref 267) 529) ::
 (nat_lit 269,fO "row_of_fractions" 40 "stepgrove.growth" 509 268) ::
 (nat_lit 275,cO "powers_needed" 532 155 1 3 270 true 271 .none (.ref 272) (.ref 273) (.ref 274) 541) ::
 (nat_lit 276,fO "powers_needed" 41 "stepgrove.growth" 509 275) ::
 (nat_lit 282,cO "first_unknown" 544 165 1 3 277 true 278 .none (.ref 279) (.ref 280) (.ref 281) 549) ::
 (nat_lit 283,fO "first_unknown" 42 "stepgrove.growth" 509 282) ::
 (nat_lit 287,cO "product_at" 552 170 4 3 284 true 285 .none .none .none (.ref 286) 555) ::
 (nat_lit 288,fO "product_at" 43 "stepgrove.growth" 509 287) ::
 (nat_lit 292,cO "speed_at" 558 176 3 3 289 true 290 .none .none .none (.ref 291) 561) ::
 (nat_lit 293,fO "speed_at" 44 "stepgrove.growth" 509 292) ::
 (nat_lit 299,cO "is_table" 568 180 1 3 294 true 295 .none (.ref 296) (.ref 297) (.ref 298) 572) ::
 (nat_lit 300,fO "is_table" 47 "stepgrove.tables" 564 299) ::
 (nat_lit 306,cO "refuse_no_table" 575 184 1 3 301 true 302 .none (.ref 303) (.ref 304) (.ref 305) 579) ::
 (nat_lit 307,fO "refuse_no_table" 48 "stepgrove.tables" 564 306) ::
 (nat_lit 313,cO "are_rows" 582 187 1 3 308 true 309 .none (.ref 310) (.ref 311) (.ref 312) 588) ::
 (nat_lit 314,fO "are_rows" 49 "stepgrove.tables" 564 313) ::
 (nat_lit 318,cO "step_to" 593 195 4 3 315 true 316 .none .none .none (.ref 317) 596) ::
 (nat_lit 319,fO "step_to" 51 "stepgrove.steps" 591 318) ::
 (nat_lit 323,cO "step_rows" 599 204 4 3 320 true 321 .none .none .none (.ref 322) 602) ::
 (nat_lit 324,fO "step_rows" 52 "stepgrove.steps" 591 323) ::
 (nat_lit 330,cO "refuse_no_step" 605 213 3 3 325 true 326 .none (.ref 327) (.ref 328) (.ref 329) 611) ::
 (nat_lit 331,fO "refuse_no_step" 53 "stepgrove.steps" 591 330) ::
 (nat_lit 337,cO "rows_that_read" 614 217 1 3 332 true 333 .none (.ref 334) (.ref 335) (.ref 336) 618) ::
 (nat_lit 338,fO "rows_that_read" 54 "stepgrove.steps" 591 337) ::
 (nat_lit 342,cO "speeds_at" 621 219 2 3 339 true 340 .none .none .none (.ref 341) 624) ::
 (nat_lit 343,fO "speeds_at" 55 "stepgrove.steps" 591 342) ::
 (nat_lit 347,cO "led_to" 627 223 4 3 344 true 345 .none .none .none (.ref 346) 630) ::
 (nat_lit 348,fO "led_to" 56 "stepgrove.steps" 591 347) ::
 (nat_lit 352,cO "whole_step" 633 230 4 3 349 true 350 .none .none .none (.ref 351) 636) ::
 (nat_lit 353,fO "whole_step" 57 "stepgrove.steps" 591 352) ::
 (nat_lit 357,cO "speed_rows" 639 238 4 3 354 true 355 .none .none .none (.ref 356) 642) ::
 (nat_lit 358,fO "speed_rows" 58 "stepgrove.steps" 591 357) ::
 (nat_lit 362,cO "read_at" 645 248 4 3 359 true 360 .none .none .none (.ref 361) 648) ::
 (nat_lit 363,fO "read_at" 59 "stepgrove.steps" 591 362) ::
 (nat_lit 369,cO "_law_cell" 653 255 2 3 364 true 365 .none (.ref 366) (.ref 367) (.ref 368) 662) ::
 (nat_lit 370,fO "_law_cell" 61 "law_stepgrove_k36_whole_steps_of_lengths" 651 369) ::
 (nat_lit 376,cO "_law_take" 665 267 2 3 371 true 372 .none (.ref 373) (.ref 374) (.ref 375) 671) ::
 (nat_lit 377,fO "_law_take" 62 "law_stepgrove_k36_whole_steps_of_lengths" 651 376) ::
 (nat_lit 383,cO "_law_shared" 674 271 2 3 378 true 379 .none (.ref 380) (.ref 381) (.ref 382) 679) ::
 (nat_lit 384,fO "_law_shared" 63 "law_stepgrove_k36_whole_steps_of_lengths" 651 383) ::
 (nat_lit 390,cO "_law_frac" 682 275 2 3 385 true 386 .none (.ref 387) (.ref 388) (.ref 389) 688) ::
 (nat_lit 391,fO "_law_frac" 64 "law_stepgrove_k36_whole_steps_of_lengths" 651 390) ::
 (nat_lit 397,cO "_law_plus" 691 280 2 3 392 true 393 .none (.ref 394) (.ref 395) (.ref 396) 696) ::
 (nat_lit 398,fO "_law_plus" 65 "law_stepgrove_k36_whole_steps_of_lengths" 651 397) ::
 (nat_lit 404,cO "_law_by" 699 282 2 3 399 true 400 .none (.ref 401) (.ref 402) (.ref 403) 704) ::
 (nat_lit 405,fO "_law_by" 66 "law_stepgrove_k36_whole_steps_of_lengths" 651 404) ::
 (nat_lit 411,cO "_law_part" 707 284 1 3 406 true 407 .none (.ref 408) (.ref 409) (.ref 410) 712) ::
 (nat_lit 412,fO "_law_part" 67 "law_stepgrove_k36_whole_steps_of_lengths" 651 411) ::
 (nat_lit 418,cO "_law_poly" 715 287 3 3 413 true 414 .none (.ref 415) (.ref 416) (.ref 417) 729) ::
 (nat_lit 419,fO "_law_poly" 68 "law_stepgrove_k36_whole_steps_of_lengths" 651 418) ::
 (nat_lit 423,cO "_law_change" 732 303 4 3 420 true 421 .none .none .none (.ref 422) 735) ::
 (nat_lit 424,fO "_law_change" 69 "law_stepgrove_k36_whole_steps_of_lengths" 651 423) ::
 (nat_lit 428,cO "_law_start" 738 305 2 3 425 true 426 .none .none .none (.ref 427) 741) ::
 (nat_lit 429,fO "_law_start" 70 "law_stepgrove_k36_whole_steps_of_lengths" 651 428) ::
 (nat_lit 433,cO "_law_table" 744 308 3 3 430 true 431 .none .none .none (.ref 432) 747) ::
 (nat_lit 434,fO "_law_table" 71 "law_stepgrove_k36_whole_steps_of_lengths" 651 433) ::
 (nat_lit 438,cO "_law_same" 750 316 2 3 435 true 436 .none .none .none (.ref 437) 753) ::
 (nat_lit 439,fO "_law_same" 72 "law_stepgrove_k36_whole_steps_of_lengths" 651 438) ::
 (nat_lit 443,cO "law" 756 326 1 3 440 true 441 .none .none .none (.ref 442) 759) ::
 (nat_lit 444,fO "law" 73 "law_stepgrove_k36_whole_steps_of_lengths" 651 443)::[]
abbrev qX:Program:=view Ee [1,2,3,4,5,6,8,9,10,11,12,13,14,15,17,18,19,20,21,22,23,24,26,27,28,29,30,31,32,33,35,36,38,39,40,41,42,43,44,46,47,48,49,51,52,53,54,55,56,57,58,59,61,62,63,64,65,66,67,68,69,70,71,72,73]
noncomputable abbrev hX:Hook:=kHook kH [nat_lit 2,nat_lit 3,nat_lit 15,nat_lit 22,nat_lit 23,nat_lit 24,nat_lit 25,nat_lit 28,nat_lit 35,nat_lit 36,nat_lit 37,nat_lit 40,nat_lit 47,nat_lit 48,nat_lit 49,nat_lit 52,nat_lit 59,nat_lit 60,nat_lit 61,nat_lit 64,nat_lit 71,nat_lit 72,nat_lit 73,nat_lit 76,nat_lit 83,nat_lit 84,nat_lit 85,nat_lit 93,nat_lit 94,nat_lit 100,nat_lit 101,nat_lit 107,nat_lit 108,nat_lit 114,nat_lit 115,nat_lit 121,nat_lit 122,nat_lit 128,nat_lit 129,nat_lit 133,nat_lit 134,nat_lit 140,nat_lit 141,nat_lit 147,nat_lit 148,nat_lit 154,nat_lit 155,nat_lit 161,nat_lit 162,nat_lit 168,nat_lit 169,nat_lit 175,nat_lit 176,nat_lit 182,nat_lit 183,nat_lit 187,nat_lit 188,nat_lit 194,nat_lit 195,nat_lit 199,nat_lit 200,nat_lit 206,nat_lit 207,nat_lit 211,nat_lit 212,nat_lit 216,nat_lit 217,nat_lit 221,nat_lit 222,nat_lit 228,nat_lit 229,nat_lit 233,nat_lit 234,nat_lit 240,nat_lit 241,nat_lit 247,nat_lit 248,nat_lit 254,nat_lit 255,nat_lit 261,nat_lit 262,nat_lit 268,nat_lit 269,nat_lit 275,nat_lit 276,nat_lit 282,nat_lit 283,nat_lit 287,nat_lit 288,nat_lit 292,nat_lit 293,nat_lit 299,nat_lit 300,nat_lit 306,nat_lit 307,nat_lit 313,nat_lit 314,nat_lit 318,nat_lit 319,nat_lit 323,nat_lit 324,nat_lit 330,nat_lit 331,nat_lit 337,nat_lit 338,nat_lit 342,nat_lit 343,nat_lit 347,nat_lit 348,nat_lit 352,nat_lit 353,nat_lit 357,nat_lit 358,nat_lit 362,nat_lit 363,nat_lit 369,nat_lit 370,nat_lit 376,nat_lit 377,nat_lit 383,nat_lit 384,nat_lit 390,nat_lit 391,nat_lit 397,nat_lit 398,nat_lit 404,nat_lit 405,nat_lit 411,nat_lit 412,nat_lit 418,nat_lit 419,nat_lit 423,nat_lit 424,nat_lit 428,nat_lit 429,nat_lit 433,nat_lit 434,nat_lit 438,nat_lit 439,nat_lit 443,nat_lit 444] (fun _=>by kernel_rfl)
noncomputable def dX:DefRec:=⟨Str.ofString "law",FL (top 73),DZ (top 73),AN (top 73),⟨326,0,344,191⟩⟩
theorem gq:DQ.wellSaid=true:=(congrFun PySem.W.Fast.te9446332074065402090 _).trans (by kernel_rfl)
theorem jn(w:World)(os:OsState):topGo treeTable Ee w 11 Opn.Hl 12 ⟨boot_heap w.params,#[],boot_drawn,boot_toks,os⟩ (topStub Ee)=some (Opn.sA w os,⟨denote treeTable (Opn.cB Ee),Opn.cB Ee,Opn.q0,Opn.bB⟩):=by kernel_rfl
theorem jq(w:World)(os:OsState):segRun treeTable Ee w 11 Opn.Hl 1 1 (Opn.sA w os) (blockOf (behindTheImports Ee) (Opn.Mv Ee) (Opn.cB Ee) Opn.q0 Opn.bB)=some (.next,(Opn.sB w os).abs,Opn.cB Ee,Opn.q0):=by kernel_rfl
theorem j7(w:World)(s:Shared):topRun treeTable Ee w 11 Opn.Hl 2 s (restOf [] (Opn.Mv Ee) (Opn.cB Ee) ⟨326,0,344,191⟩ Opn.bB)=some s:=by kernel_rfl
theorem jK(w:World)(os:OsState):Opn.VV Ee 3018 w os=some (.next,Opn.U4 Ee 3018 w os,Opn.cB Ee,⟨326,0,344,191⟩):=by kernel_rfl
noncomputable abbrev sX(w:World)(os:OsState):Shared:=(Opn.U4 Ee 3018 w os).abs
theorem jC(w:World)(os:OsState):(staticsOk (importedModules Ee.main.body) (boot_heap w.params) (sX w os).heap&&namesBound Ee (sX w os).heap&&gensDone (sX w os)&&laidKept (boot_heap w.params) (sX w os).heap)=true:=by kernel_rfl
theorem iM(w:World)(os:OsState):hX.obs (sX w os)=hX.val w:=by kernel_rfl
noncomputable abbrev eP:Shared->Bool:=fun s=>xlAt qX [] s&&recOk (RowW.records DQ.row.toRowW) s
theorem iA(w:World)(os:OsState):openSeen qX [] (importedModules Ee.main.body) eP true (sX w os)=openGood qX []:=by kernel_rfl
theorem ia(w:World):(fencedOpening treeTable Ee w 6160).map (fun s=>(s.heap,s.gens,s.drawn,s.toks))=some (boot_heap w.params,#[],boot_drawn,boot_toks):=boot_open (p:=Ee) (N:=6160) (by kernel_rfl) (by kernel_rfl) (fun _=>by kernel_rfl) w
theorem gZ:LeftO Ee qX [] eP hX.obs hX.val 6160:=Opn.Zv (M:=3033) (S:=sX) ia Opn.gm (fun w os=>Opn.ee (jn w os) (jq w os) (jK w os) (j7 w) (by kernel_rfl)) (by kernel_rfl) jC iA iM
theorem j6:defOf qX DQ.row.name=some (dX,[]):=by kernel_rfl
theorem kG:Ee.theDef DQ.row.name=some (dX.params,dX.body,dX.scope):=by kernel_rfl
theorem kx:kwWritten? dX.params.kwonlyargs dX.params.kw_defaults=some []:=by kernel_rfl
theorem kL:(chainsOk qX&&opensWell DQ.row.prog&&(frees DQ.row.toRowW&&DQ.row.within.isEmpty))=true:=by kernel_rfl
theorem iq:Ee.bare:=⟨rfl,rfl,rfl,rfl,rfl,by decide +kernel⟩
theorem openX(R:DQ.row.toRowW.promised)(U:WalkO qX [] (XL qX []) hX.says DQ.row.toRowW dX [] (fun f vs=>PySem.call f vs)):DQ.Holds :=
 holds_law gq fun g=>holds_open (r:=DQ.row) (q:=qX) (loose:=[]) (Xt:=eP) (XP:=XL qX []) (Yf:=hX.obs) (Ya:=hX.val) (YP:=hX.says) (d:=dX) (kwd:=[]) (N:=6160) gZ hX.of hX.keeps (fun s e=>xl_of s (Bool.and_eq_true_iff.mp e).1) XL.keeps j6 kG kx (fun s e=>recFacts_of (Bool.and_eq_true_iff.mp e).2) rfl g kL iq R U
end
end Q36
namespace L2
open PySem PySem.Spec PyProof.Rows
abbrev Key:=Sum Int Str
def MC:Key->Value->Bool
 |.inl k,v=>Value.isInt k v
 |.inr x,v=>Value.isStrOf x v
def jw(w:World):Key->Int
 |.inl k=>hashInt k
 |.inr x=>hashStr w x
theorem Cg:∀ {k:Key} {v:Value},MC k v=true->(∃i t,k=Sum.inl i/\v=Value.int i t)\/(∃x t,k=Sum.inr x/\v=Value.str x t)
 |.inl i,v,h=>by
  obtain⟨t,e⟩:=Value.isInt_shape (k:=i) (v:=v) h;exact .inl ⟨i,t,rfl,e⟩
 |.inr x,v,h=>by
  obtain⟨t,e⟩:=Value.isStrOf_shape (x:=x) (v:=v) h;exact .inr ⟨x,t,rfl,e⟩
theorem XQ(i:Int)(t:Tok):MC (.inl i) (.int i t)=true:=by simp[MC,Value.isInt]
theorem WN(x:Str)(t:Tok):MC (.inr x) (.str x t)=true:=by simp[MC,Value.isStrOf]
theorem fy(a b:Int):decide ((Sum.inl a:Key)=Sum.inl b)=(a==b):=by
 by_cases e:a=b
 .subst e;simp
 .have h:¬(Sum.inl a:Key)=Sum.inl b:=fun q=>e (Sum.inl.inj q);rw[decide_eq_false h];exact(beq_eq_false_iff_ne.mpr e).symm
theorem eM(a b:Str):decide ((Sum.inr a:Key)=Sum.inr b)=decide (a=b):=by
 by_cases e:a=b
 .subst e;simp
 .have h:¬(Sum.inr a:Key)=Sum.inr b:=fun q=>e (Sum.inr.inj q);rw[decide_eq_false h,decide_eq_false e]
theorem eV(a:Int)(b:Str):decide ((Sum.inl a:Key)=Sum.inr b)=false:=bQ (fun q=>nomatch q)
theorem cJ(a:Str)(b:Int):decide ((Sum.inr a:Key)=Sum.inl b)=false:=bQ (fun q=>nomatch q)
def DB(prog:Program)(w:World):PySem.KeyKind prog w Key where
 is:=MC
 hash:=jw w
 inj:=fun v a b ha hb=>by
  rcases Cg ha with ⟨i,t,rfl,rfl⟩|⟨x,t,rfl,rfl⟩
  .rcases Cg hb with ⟨j,u,rfl,e⟩|⟨y,u,rfl,e⟩
   .injection e with e1 _;rw[e1]
   .exact nomatch e
  .rcases Cg hb with ⟨j,u,rfl,e⟩|⟨y,u,rfl,e⟩
   .exact nomatch e
   .injection e with e1 _;rw[e1]
 byValue:=fun k v h=>by
  rcases Cg h with ⟨i,t,rfl,rfl⟩|⟨x,t,rfl,rfl⟩<;>rfl
 pyHash:=fun hv h=>by
  rcases Cg hv with ⟨i,t,rfl,rfl⟩|⟨x,t,rfl,rfl⟩
  .exact wpAny_pyHash_int h
  .exact wpAny_pyHash_str h
 eqBool:=fun hu hv h=>by
  rcases Cg hu with ⟨i,t,rfl,rfl⟩|⟨x,t,rfl,rfl⟩
  .rcases Cg hv with ⟨j,u,rfl,rfl⟩|⟨y,u,rfl,rfl⟩
   .rw[fy]at h;exact wpAny_eqBool_int h
   .rw[eV]at h;exact SeqAt.EqAt.int_str i t y u _ _ _ _ h
  .rcases Cg hv with ⟨j,u,rfl,rfl⟩|⟨y,u,rfl,rfl⟩
   .rw[cJ]at h;exact SeqAt.EqAt.str_int x t j u _ _ _ _ h
   .rw[eM]at h;exact wpAny_eqBool_str h
 «strs»:=fun k x t v h=>by
  rcases Cg h with ⟨i,u,rfl,e⟩|⟨y,u,rfl,e⟩
  .exact nomatch e
  .injection e with e1 _
   subst e1;cases v<;>rfl
theorem TX(prog:Program)(w:World)(i:Int)(t:Tok):(DB prog w).is (.inl i) (.int i t)=true:=XQ i t
theorem TR(prog:Program)(w:World)(x:Str)(t:Tok):(DB prog w).is (.inr x) (.str x t)=true:=WN x t
inductive V where
 |BM|bl (b:Bool)|int (i:Int)|str (x:Str)|Lo (b:Array UInt8)|T8 (b:UInt64)|ref (a:Addr)|ty (n:String)
 deriving DecidableEq
def RelV:V->Value->Prop
 |.BM,u=>u=Value.none
 |.bl b,u=>u=Value.bool b
 |.int i,u=>∃t,u=Value.int i t
 |.str x,u=>∃t,u=Value.str x t
 |.Lo b,u=>∃t,u=Value.bytes b t
 |.T8 b,u=>∃t,u=Value.float b t
 |.ref a,u=>u=Value.ref a
 |.ty n,u=>u=Value.type n
abbrev Vals:List V->List Value->Prop:=Paired RelV
theorem Vals.length{xs:List V}{us:List Value}(r:Vals xs us):xs.length=us.length:=Paired.length r
theorem Vals.get:∀ {xs:List V} {us:List Value} {i:Nat} {x:V},Vals xs us->xs[i]? = some x->∃u,us[i]? = some u/\RelV x u
 |_,_,_,_,.nil,e=>by simp at e
 |_,_,0,_,.cons r _,e=>by simp at e;subst e;exact⟨_,rfl,r⟩
 |_,_,i+1,x,.cons _ t,e=>by
  obtain⟨u,I,g⟩:=Vals.get (i:=i) (x:=x) t (by simpa using e);exact⟨u,by simpa using I,g⟩
theorem Vals.set{x:V}{u:Value}(r:RelV x u):∀ {xs:List V} {us:List Value} (i:Nat),Vals xs us->Vals (xs.set i x) (us.set i u)
 |_,_,_,.nil=>.nil
 |_,_,0,.cons _ t=>.cons r t
 |_,_,i+1,.cons q t=>.cons q (Vals.set r i t)
theorem Vals.append:∀ {xs ys:List V} {us g:List Value},Vals xs us->Vals ys g->Vals (xs++ys) (us++g)
 |_,_,_,_,.nil,s=>s
 |_,_,_,_,.cons r t,s=>.cons r (Vals.append t s)
theorem Vals.take:∀ {xs:List V} {us:List Value} (n:Nat),Vals xs us->Vals (xs.take n) (us.take n)
 |_,_,0,_=>.nil
 |_,_,_+1,.nil=>.nil
 |_,_,n+1,.cons r t=>.cons r (Vals.take n t)
theorem Vals.drop:∀ {xs:List V} {us:List Value} (n:Nat),Vals xs us->Vals (xs.drop n) (us.drop n)
 |_,_,0,r=>r
 |_,_,_+1,.nil=>.nil
 |_,_,n+1,.cons _ t=>Vals.drop n t
def Ie:Option V->Option Value->Prop
 |some v,some u=>RelV v u
 |none,none=>True
 |_,_=>False
def KV{κ:Type}:List (κ×V)->List (κ×Value)->Prop:=Paired fun(p:κ×V) (q:κ×Value)=>p.1=q.1/\RelV p.2 q.2
def kV:Key->V
 |.inl i=>.int i
 |.inr x=>.str x
inductive HO where
 |lst (xs:List V)
 |tup (xs:List V)
 |dK (kvs:List (Key×V))|dT (kvs:List (List Key×V))
 |set (S:Int->Bool) (n:Nat)
 |ins (C dx:Addr) (fs:List (Str×V))
 |own (x:Addr)
 |xd (fs:List (Str×V))
 |met (f x:Addr)
 |fv (lo hi:Int)
 |JK (o:Obj) (u:HO)
 |So (ps:Array Value)
 |ext (φ:Heap->Prop)
abbrev Hp:=Addr->Option HO
def upd(H:Hp)(a:Addr)(o:HO):Hp:=fun b=>if b=a then some o else H b
theorem AH{H:Hp}{a:Addr}{o:HO}:upd H a o a=some o:=by unfold upd;rw[if_pos rfl]
theorem AI{H:Hp}{a b:Addr}{o:HO}(h:b≠a):upd H a o b=H b:=by unfold upd;rw[if_neg h]
theorem gT{H:Hp}{a b:Addr}{o u:HO}(h:H a=some o)(h':H b=some u)(d:o≠u):a≠b:=by
 intro e;subst e;rw[h]at h';exact d (ae h')
theorem AM{H:Hp}{a b:Addr}{o:HO}(h:H a=some o)(h':H b=none):a≠b:=by
 intro e;subst e;rw[h]at h';cases h'
section
variable(P:Program)(w:World)
def Bq(H:Hp)(h:Heap)(a:Addr):HO->Prop
 |.lst xs=>xs.length<=sizeLine/\∃(g:List Value) (n:Nat),Vals xs g/\h.get? a=some { cls:=.type "list",data:=.seq g.toArray n}
 |.tup xs=>xs.length<=sizeLine/\∃g:List Value,Vals xs g/\IsTup h a g.toArray
 |.dK kvs=>kvs.length<=sizeLine/\(a==sysModules)=false/\∃vs,KV kvs vs/\h.DictOf (DB P w) a vs
 |.dT kvs=>kvs.length<=sizeLine/\(a==sysModules)=false/\∃xs:List (List Key×Addr×Value),
   Paired (fun(p:List Key×V) (q:List Key×Addr×Value)=>p.1=q.1/\H q.2.1=some (.tup (p.1.map kV))/\RelV p.2 q.2.2) kvs xs /\
   ∃o R U,h.get? a=some o/\o.ExactDict/\o.data=.dict R U/\R.toList=xs.map (entryOfKey (tupleKind (DB P w)))/\(xs.map (·.1)).Nodup
 |.set S n=>h.SetOf (intKind P w) a S n
 |.ins C dx fs=>H dx=some (.own a)/\fs.length<=1000/\dx≠a/\h.get? a=some (PySem.W.instObj C dx) /\
   ∃mA,h.Ns1 dx mA/\(∀f,Ie (fs.lookup f) (mA f))/\PySem.Within mA (fs.map (·.1))
 |.own _=>∃o,h.get? a=some o
 |.xd fs=>∃mA,h.Ns1 a mA/\∀f,Ie (fs.lookup f) (mA f)
 |.fv lo hi=>∃t u v,h.get? a=some { cls:=.type "range",data:=.fields #[.int lo t,.int hi u,.int 1 v]}
 |.JK o u=>h.get? a=some o/\Bq H h a u
 |.So ps=>h.get? a=some { cls:=.none,data:=.fields ps}
 |.met f x=>h.get? a=some (PySem.W.methodObj (.ref f) (.ref x))
 |.ext φ=>φ h/\(∃o,h.get? a=some o)/\∀M I:Heap,φ M->(∀o,M.get? a=some o->I.get? a=some o)->φ I
def Cq(H:Hp)(h:Heap):Prop:=∀a o,H a=some o->Bq P w H h a o
end
section
variable{P:Program}{w:World}{H H':Hp}{h h':Heap}{a:Addr}{o:HO}
theorem Bq.lt(x:Bq P w H h a o):a<h.objs.size:=by
 cases o with
 |lst xs=>obtain⟨_,_,_,_,e⟩:=x;exact aG e
 |tup xs=>obtain⟨_,_,_,p⟩:=x;exact p.lt
 |dK kvs=>obtain⟨_,_,_,_,o,_,_,e,_⟩:=x;exact aG e
 |dT kvs=>obtain⟨_,_,_,_,o,_,_,e,_⟩:=x;exact aG e
 |set S n=>obtain⟨o,_,_,_,e,_⟩:=x;exact aG e
 |ins C dx fs=>obtain⟨_,_,_,e,_⟩:=x;exact aG e
 |own y=>obtain⟨_,e⟩:=x;exact aG e
 |xd fs=>obtain⟨_,⟨_,_,_,e,_⟩,_⟩:=x;exact aG e
 |fv lo hi=>obtain⟨_,_,_,e⟩:=x;exact aG e
 |JK g u=>obtain⟨e,_⟩:=x;exact aG e
 |So ps=>exact aG (show h.get? a=some _ from x)
 |met f y=>exact aG (show h.get? a=some _ from x)
 |ext φ=>obtain⟨_,⟨_,e⟩,_⟩:=x;exact aG e
theorem Paired.Xd{α β:Type}{F G:α->β->Prop}:∀ {I:List α} {g:List β},Paired F I g->(∀a b,F a b->G a b)->Paired G I g
 |_,_,.nil,_=>.nil
 |_,_,.cons r t,f=>.cons (f _ _ r) (Paired.Xd t f)
theorem Bq.Ip(x:Bq P w H h a o)(k:∀b u,(b=a\/H b=some (.own a))->h.get? b=some u->h'.get? b=some u)
 (Z:∀b,H b=some (.own a)->H' b=some (.own a))(Y:∀b xs,H b=some (.tup xs)->H' b=some (.tup xs)):Bq P w H' h' a o:=by
 induction o with
 |lst xs=>obtain⟨z,R,n,r,e⟩:=x;exact⟨z,R,n,r,k _ _ (.inl rfl) e⟩
 |tup xs=>obtain⟨z,R,r,g,e,c⟩:=x;exact⟨z,R,r,g,k _ _ (.inl rfl) e,c⟩
 |dK kvs=>obtain⟨z,y,vs,r,g,I,M,e,c⟩:=x;exact⟨z,y,vs,r,g,I,M,k _ _ (.inl rfl) e,c⟩
 |dT kvs=>
  obtain⟨z,y,xs,r,g,I,M,e,c⟩:=x;exact⟨z,y,xs,Paired.Xd r fun p q z=>⟨z.1,Y _ _ z.2.1,z.2.2⟩,g,I,M,k _ _ (.inl rfl) e,c⟩
 |set S n=>obtain⟨g,I,M,t,e,c⟩:=x;exact⟨g,I,M,t,k _ _ (.inl rfl) e,c⟩
 |ins C dx fs=>
  obtain⟨d,z,ne,e,mA,⟨od,I,M,e2,c⟩,r⟩:=x;exact⟨Z _ d,z,ne,k _ _ (.inl rfl) e,mA,⟨od,I,M,k _ _ (.inr d) e2,c⟩,r⟩
 |own y=>obtain⟨g,e⟩:=x;exact⟨g,k _ _ (.inl rfl) e⟩
 |xd fs=>obtain⟨mA,⟨od,I,M,e,c⟩,r⟩:=x;exact⟨mA,⟨od,I,M,k _ _ (.inl rfl) e,c⟩,r⟩
 |fv lo hi=>obtain⟨t,u,v,e⟩:=x;exact⟨t,u,v,k _ _ (.inl rfl) e⟩
 |JK g u U=>obtain⟨e,q⟩:=x;exact⟨k _ _ (.inl rfl) e,U q⟩
 |So ps=>
  have e:h.get? a=some { cls:=.none,data:=.fields ps}:=x;show h'.get? a=some { cls:=.none,data:=.fields ps};exact k a _ (.inl rfl) e
 |met f y=>
  have e:h.get? a=some (PySem.W.methodObj (.ref f) (.ref y)):=x;show h'.get? a=some (PySem.W.methodObj (.ref f) (.ref y));exact k a _ (.inl rfl) e
 |ext φ=>obtain⟨p,⟨o,e⟩,st⟩:=x;exact⟨st _ _ p fun o q=>k _ _ (.inl rfl) q,⟨o,k _ _ (.inl rfl) e⟩,st⟩
theorem Cq.lt(x:Cq P w H h)(e:H a=some o):a<h.objs.size:=(x a o e).lt
theorem Cq.fresh(x:Cq P w H h)(e:h.objs.size<=a):H a=none:=by
 cases q:H a with
 |none=>rfl
 |some u=>exact absurd (aN (x.lt q) e) (Nat.lt_irrefl _)
theorem Cq.kept(x:Cq P w H h)(k:∀b u,h.get? b=some u->h'.get? b=some u):Cq P w H h':=fun a o e=>
 (x a o e).Ip (fun b u _ q=>k b u q) (fun _ q=>q) fun _ _ q=>q
theorem Cq.laid(x:Cq P w H h)(k:∀b u,h.get? b=some u->h'.get? b=some u)(I:h.objs.size<=a)(new:Bq P w (upd H a o) h' a o):Cq P w (upd H a o) h':=fun b u e=>by
 have hn:=x.fresh I;by_cases g:b=a
 .subst g;rw[AH]at e;cases e;exact new
 .rw[AI g]at e;exact(x b u e).Ip (fun c v _ q=>k c v q) (fun c q=>by rw[AI (AM q hn)];exact q) fun c xs q=>by rw[AI (AM q hn)];exact q
end
def Rd(H:Hp)(a:Addr)(u:HO):Prop:=H a=some u\/∃o,H a=some (.JK o u)
theorem Rd.ok{P:Program}{w:World}{H:Hp}{h:Heap}{a:Addr}{u:HO}(r:Rd H a u)(x:Cq P w H h):Bq P w H h a u:=by
 rcases r with r|⟨o,r⟩
 .exact x a u r
 .obtain⟨_,q⟩:=x a _ r;exact q
def Vq:Option HO->Prop
 |some (.lst _)=>True
 |some (.dK _)=>True
 |some (.dT _)=>True
 |some (.set _ _)=>True
 |some (.ins _ _ _)=>True
 |some (.ext _)=>True
 |_=>False
section
variable{P:Program}{w:World}{H:Hp}{h h':Heap}{x e:Addr}{o':HO}
theorem Cq.write(ok:Cq P w H h)(M:Vq (H x))(he:e=x\/H e=some (.own x))(k:∀b u,b≠e->h.get? b=some u->h'.get? b=some u)(Y:∃u,h'.get? e=some u)
 (new:Bq P w (upd H x o') h' x o'):Cq P w (upd H x o') h':=fun b u q=>by
 have I:∀c y,H c=some (.own y)->c≠x:=fun c y r z=>by subst z;rw[r]at M;exact M
 have VZ:∀c xs,H c=some (.tup xs)->c≠x:=fun c xs r z=>by subst z;rw[r]at M;exact M
 by_cases U:b=x
 .subst U;rw[AH]at q;cases q;exact new
 .rw[AI U]at q;by_cases g:b=e
  .have Z:H b=some (.own x):=by
    rcases he with z|z
    .exact absurd (g.trans z) U
    .rw[g];exact z
   rw[q]at Z;cases Z;obtain⟨v,hv⟩:=Y;exact⟨v,by rw[g];exact hv⟩
  .refine(ok b u q).Ip (fun c v R r=>k c v ?_ r) (fun c r=>by rw[AI (I c b r)];exact r) fun c xs r=>by rw[AI (VZ c xs r)];exact r
   rcases R with rfl|R
   .exact g
   .rintro rfl;rcases he with z|z
    .exact I c b R z
    .rw[R]at z;cases z;exact U rfl
end
structure Un(fs ex:List Addr)(H H':Hp)(h h':Heap):Prop where
 keep:∀b o,h.get? b=some o->H b=none->b ∉ fs->b ∉ ex->h'.get? b=some o
 slot:∀b o,h.get? b=some o->H b=none->b∈fs->b ∉ ex->∃sl,h'.get? b=some {o with slots:=sl}
 free:∀b o,h.get? b=some o->H b=none->b ∉ ex->H' b=none
 there:∀b o,h.get? b=some o->b ∉ ex->∃o',h'.get? b=some o'
 JG:∀b xs,H b=some (.tup xs)->H' b=some (.tup xs)
 JE:∀b o u,H b=some (.JK o u)->H' b=some (.JK o u)
 Kc:∀b ps,H b=some (.So ps)->∃more,H' b=some (.So (ps++more))
 Ki:∀b xs o,H b=some (.tup xs)->h.get? b=some o->b ∉ ex->h'.get? b=some o
section
variable{fs ex:List Addr}{H H1:Hp}{h h1 h':Heap}{a x e:Addr}{o:HO}
theorem Un.any(u:Un fs ex H H1 h h1){b:Addr}{g:Obj}(q:h.get? b=some g)(n:H b=none)(I:b ∉ ex):∃sl,h1.get? b=some {g with slots:=sl}:=by
 by_cases M:b∈fs
 .exact u.slot b g q n M I
 .exact⟨g.slots,u.keep b g q n M I⟩
theorem Un.kept(k:∀b u,h.get? b=some u->h'.get? b=some u):Un fs ex H H h h' :=
 ⟨fun b g q _ _ _=>k b g q,fun b g q _ _ _=>⟨g.slots,k b g q⟩,fun _ _ _ n _=>n,fun b g q _=>⟨g,k b g q⟩,fun _ _ q=>q,fun _ _ _ q=>q,fun _ ps q=>⟨#[],by rw[q];simp⟩,fun _ _ g _ e _=>k _ g e⟩
theorem Un.refl:Un fs ex H H h h:=Un.kept fun _ _ q=>q
theorem Un.laid(k:∀b u,h.get? b=some u->h'.get? b=some u)(hp:h.objs.size<=a)(hn:H a=none):Un fs ex H (upd H a o) h h' where
 keep:=fun b u q _ _ _=>k b u q
 slot:=fun b u q _ _ _=>⟨u.slots,k b u q⟩
 free:=fun b u q n _=>by rw[AI (aT (aN (aG q) hp))];exact n
 there:=fun b u q _=>⟨u,k b u q⟩
 JG:=fun b xs q=>by rw[AI (AM q hn)];exact q
 JE:=fun b u xs q=>by rw[AI (AM q hn)];exact q
 Kc:=fun b ps q=>⟨#[],by rw[AI (AM q hn),q];simp⟩
 Ki:=fun b _ u _ e _=>k b u e
theorem Un.write(I:Vq (H x))(U:e=x\/H e=some (.own x))(k:∀b u,b≠e->h.get? b=some u->h'.get? b=some u)(M:∃u,h'.get? e=some u):Un fs ex H (upd H x o) h h':=by
 have R:∀b,H b=none->b≠x:=fun b n z=>by subst z;rw[n]at I;exact I
 have Y:∀b,H b=none->b≠e:=fun b n z=>by
  subst z;rcases U with r|r
  .exact R b n r
  .rw[n]at r;cases r
 have hm:∀b u,H b=some u->¬Vq (some u)->b≠x:=fun b u q nm z=>by subst z;rw[q]at I;exact nm I
 refine⟨fun b u q n _ _=>k b u (Y b n) q,fun b u q n _ _=>⟨u.slots,k b u (Y b n) q⟩,fun b u q n _=>by rw[AI (R b n)];exact n,fun b u q _=>?_,
  fun b xs q=>by rw[AI (hm b _ q fun z=>z)];exact q,fun b u xs q=>by rw[AI (hm b _ q fun z=>z)];exact q,fun b ps q=>⟨#[],by rw[AI (hm b _ q fun z=>z),q];simp⟩,fun b xs u q e _=>k b u (fun z=>by
   rcases U with r|r
   .exact hm b _ q (fun z=>z) (z.trans r)
   .rw[<-z,q]at r;cases r) e⟩
 by_cases g:b=e
 .subst g;exact M
 .exact⟨u,k b u g q⟩
end
def JA(h:Heap)(H:Hp):List Addr:=(List.range h.objs.size).filter fun a=>(H a).isSome
def Kj(h:Heap)(H:Hp):Heap:=PySem.W.hideAll h (JA h H)
theorem Wa(h:Heap)(H:Hp):(Kj h H).objs.size=h.objs.size:=PySem.W.hideAll_size _ _
theorem Xk{h:Heap}{H:Hp}{b:Addr}{o:Obj}(e:h.get? b=some o)(n:H b=none):(Kj h H).get? b=some o :=
 PySem.W.hideAll_get _ e fun hm=>by
  have q:(H b).isSome=true:=(List.mem_filter.mp hm).2;rw[n]at q;simp at q
theorem Zs{h:Heap}{H:Hp}{b:Addr}{o:Obj}(e:(Kj h H).get? b=some o):h.get? b=some o/\H b=none:=by
 have g:h.get? b=some o:=PySem.W.of_hideAll (JA h H) e;refine⟨g,?_⟩;cases q:H b with
 |none=>rfl
 |some x=>
  have hm:b∈JA h H:=List.mem_filter.mpr ⟨bN.mpr (aG g),by simp[q]⟩;have z:(Kj h H).get? b=none:=PySem.W.hideAll_none (JA h H) hm;rw[z]at e;cases e
structure Mod(K:PySem.W.Frag)(mg:Str->Option Value)(base:Heap):Prop where
 d7:K.In base
 glob:base.Ns mainGlobals mg
 blt:∃mb,base.Ns builtinsNs mb/\∀x:Str,x ≠ "__name__" -> mb x=bootBuiltins x
 nolimit:base.NoLimit
def k7(d:Nat):List (List V):=[[],[.ref (d+1)],[.int 1,.int 1],[.ref (d+3)],[.ref (d+2),.ref (d+4)],[],[.int 1,.int 2],[.ref (d+7)],[.ref (d+6),.ref (d+8)],[.int 0,.int 1],[.int 1,.int 1],[.ref (d+10),.ref (d+11)],[.ref (d+9),.ref (d+12)],[],[.int 1,.int 1],[.ref (d+15)],[.ref (d+14),.ref (d+16)],[.int 1,.int 2],[.int 1,.int 2],[.ref (d+18),.ref (d+19)],[.ref (d+17),.ref (d+20)],[],[.int 1,.int 3],[.ref (d+23)],[.int 0,.int 1],[.int 2,.int 3],[.ref (d+25),.ref (d+26)],[.ref (d+22),.ref (d+24),.ref (d+27)],[.int 1,.int 4],[.int 0,.int 1],[.int 3,.int 4],[.ref (d+29),.ref (d+30),.ref (d+31)],[.ref (d+28),.ref (d+32)],[],[.int 1,.int 2],[.ref (d+35)],[.int 0,.int 1],[.int 1,.int 2],[.ref (d+37),.ref (d+38)],[.int 0,.int 1],[.int 0,.int 1],[.int 1,.int 1],[.ref (d+40),.ref (d+41),.ref (d+42)],[.ref (d+34),.ref (d+36),.ref (d+39),.ref (d+43)],[.int 1,.int 6],[.int 1,.int 3],[.int 1,.int 3],[.int 1,.int 6],[.ref (d+45),.ref (d+46),.ref (d+47),.ref (d+48)],[.ref (d+44),.ref (d+49)]]
def ky(d:Nat):List (Key×V):=[(.inr "plain",.ref (d+5)),(.inr "middle",.ref (d+13)),(.inr "heel",.ref (d+21)),(.inr "third",.ref (d+33)),(.inr "fourth",.ref (d+50))]
def KTb(mg:Str->Option Value)(H:Hp):Prop:=∀d:Addr,mg "NAMED_TABLES" = some (.ref d)->(∃o,H d=some (.JK o (.dK (ky d))))/\∀j xs,(k7 d)[j]? = some xs->H (d+1+j)=some (.tup xs)
theorem KTb.un{mg:Str->Option Value}{fs ex:List Addr}{H H':Hp}{h h':Heap}(k:KTb mg H)(u:Un fs ex H H' h h'):KTb mg H':=fun d e=>by
 obtain⟨⟨o,I⟩,g⟩:=k d e;exact⟨⟨o,u.JE _ _ _ I⟩,fun j xs q=>u.JG _ _ (g j xs q)⟩
structure Cx where
 prog:Program
 w:World
 K:PySem.W.Frag
 mg:Str->Option Value
 base:Heap
 A:Around
 N:List Str
 s₀:Shared
 H₀:Hp
 env:Env
 outer:List Env
 stack:List Env
 ex:List Addr
 fn:Str->Bool
 calm:Bool
 pn:List (Addr×Obj)
 xe:Value->Shared->Prop
def Kq(l:List Env):List Addr:=l.filterMap (·.frame)
abbrev Cx.fs(X:Cx):List Addr:=Kq X.outer
def fU(sc:Scope)(x:Str):Prop:=sc.names.lookup x=some .local\/sc.names.lookup x=some .cell\/sc.names.lookup x=some .free
def Loc(sc:Scope)(x:Str):Prop:=sc.names.lookup x=some .local\/sc.names.lookup x=some .cell
def Look(env:Env)(h:Heap)(m:Str->Option Value)(x:Str)(u:Value):Prop :=
 (env.kindOf x=some .local/\m x=some u)\/((env.kindOf x=some .cell\/env.kindOf x=some .free)/\∃c,env.cells.lookup x=some c/\h.IsCell c (some u))
structure Cx.Ok(X:Cx):Prop where
 mod:Mod X.K X.mg X.base
 kind:X.env.scope.kind=.function
 glob:X.env.globals=mainGlobals
 blt:X.env.builtins=builtinsNs
 above:X.s₀.heap.objs.size<=X.env.locals
 inj:∀x y c,X.env.cells.lookup x=some c->X.env.cells.lookup y=some c->x=y
 has:∀x,(X.env.kindOf x=some .cell\/X.env.kindOf x=some .free)->∃c,X.env.cells.lookup x=some c
 UM:∀x c,X.fn x=true->X.env.cells.lookup x=some c->X.s₀.heap.objs.size<=c
 hd:X.calm=true->X.A.handled=none
 frames:X.A.frames=some X.stack
 O5:X.stack=X.outer\/(X.stack=X.env::X.outer/\X.env.frame=some X.env.locals)
 iu:∀b∈X.ex,b≠X.env.locals/\∀x c,X.env.cells.lookup x=some c->c≠b
 bs:∀b o,X.base.get? b=some o->X.s₀.heap.get? b=some o/\X.H₀ b=none
 P5:X.base.objs.size<=X.s₀.heap.objs.size
 RC:∀b o,X.base.get? b=some o->b ∉ X.ex
 SU:∀b∈X.ex,b ∉ X.fs
 JD:X.s₀.heap.FunFrames X.base X.outer
 UY:∀b∈X.fs,X.H₀ b=none
 kt:KTb X.mg X.H₀
structure Inv(X:Cx)(pins:List (Addr×Obj))(σ:List (Option V))(H:Hp)(s:Shared):Prop where
 ok:X.Ok
 os:s.os=X.s₀.os
 bare:AllBare s.gens
 base:Un X.fs X.ex X.H₀ H X.s₀.heap s.heap
 loc:∃m,s.heap.Ns X.env.locals m/\∀(i:Nat) (x:Str) (v:V),X.N[i]? = some x->σ[i]? = some (some v)->fU X.env.scope x->∃u,RelV v u/\Look X.env s.heap m x u
 cell:∀x c,X.env.cells.lookup x=some c->∃v,s.heap.IsCell c v
 free:H X.env.locals=none
 HP:∀x c,X.env.cells.lookup x=some c->H c=none
 pin:∀p∈X.pn++pins,s.heap.get? p.1=some p.2/\H p.1=none/\p.1≠X.env.locals/\p.1 ∉ X.fs/\∀v,p.2.data≠.cell v
 Ah:Cq X.prog X.w H s.heap
 len:σ.length=X.N.length
theorem Inv.kt{X:Cx}{pins:List (Addr×Obj)}{σ:List (Option V)}{H:Hp}{s:Shared}(I:Inv X pins σ H s):KTb X.mg H:=I.ok.kt.un I.base
section
variable{X:Cx}{pins:List (Addr×Obj)}{σ:List (Option V)}{H H':Hp}{s:Shared}{h':Heap}
theorem Cx.Ok.je(ok:X.Ok){b:Addr}{o:Obj}(e:X.base.get? b=some o):b ∉ X.fs:=fun g=>by
 have:=(ok.JD.mem g).1;rw[e]at this;cases this
theorem Inv.bs(I:Inv X pins σ H s):∀b o,X.base.get? b=some o->s.heap.get? b=some o/\H b=none:=fun b o e=>
 ⟨I.base.keep b o (I.ok.bs b o e).1 (I.ok.bs b o e).2 (I.ok.je e) (I.ok.RC b o e),I.base.free b o (I.ok.bs b o e).1 (I.ok.bs b o e).2 (I.ok.RC b o e)⟩
theorem Inv.bk(I:Inv X pins σ H s):∀b o,X.base.get? b=some o->s.heap.get? b=some o:=fun b o e=>(I.bs b o e).1
theorem Inv.mod(I:Inv X pins σ H s):Mod X.K X.mg X.base:=I.ok.mod
theorem Inv.Hf(I:Inv X pins σ H s):X.K.In s.heap:=I.ok.mod.d7.keeps I.bk
theorem Inv.lt(I:Inv X pins σ H s):X.env.locals<s.heap.objs.size:=let⟨_,hn,_⟩:=I.loc;hn.lt
theorem Inv.sz(I:Inv X pins σ H s):X.s₀.heap.objs.size<=s.heap.objs.size:=aU I.ok.above (bZ I.lt)
theorem Inv.jo(I:Inv X pins σ H s){a:Addr}(h:s.heap.objs.size<=a):a ∉ X.fs:=fun M=>by
 obtain⟨_,o,g,_⟩:=I.ok.JD.mem M;exact absurd (aN (aG g) (aU I.sz h)) (Nat.lt_irrefl _)
theorem Inv.SX(I:Inv X pins σ H s):∀x c,X.env.cells.lookup x=some c->c≠X.env.locals:=fun x c e z=>by
 obtain⟨v,o,R,hd⟩:=I.cell x c e;obtain⟨m,⟨o',U,Y,g,M,_⟩,_⟩:=I.loc;rw[z,g]at R;cases R;rw[M]at hd;cases hd
theorem Inv.JD(I:Inv X pins σ H s):s.heap.FunFrames X.base X.outer:=by
 have all:∀(l:List Env),(∀b∈Kq l,b∈X.fs)->X.s₀.heap.FunFrames X.base l->s.heap.FunFrames X.base l:=by
  intro l
  induction l with
  |nil=>intro _ _;trivial
  |cons env r U=>
   intro R hl;obtain⟨hk,⟨L,o,hf,hn,Z,hd⟩,Y⟩:=hl;have M:L∈X.fs:=R L (by unfold Kq;rw[List.filterMap_cons,hf];exact aR);obtain⟨sl,e⟩:=I.base.slot L o Z (I.ok.UY L M) M fun z=>I.ok.SU L z M;exact⟨hk,⟨L,_,hf,hn,e,hd⟩,U (fun b g=>R b (by unfold Kq;rw[List.filterMap_cons,hf];exact aM _ g)) Y⟩
 exact all X.outer (fun _ g=>g) I.ok.JD
theorem Inv.stack(I:Inv X pins σ H s):s.heap.FunFrames X.base X.stack:=by
 rcases I.ok.O5 with e|⟨e,hf⟩
 .rw[e];exact I.JD
 .rw[e];obtain⟨m,hn,_⟩:=I.loc;refine .cons (by rw[I.ok.kind];decide) hf hn ?_ I.JD;exact Heap.get?_none_of_le (aU I.ok.P5 I.ok.above)
theorem Inv.R6(I:Inv X pins σ H s):∀b∈Kq X.stack,b∈X.env.locals::X.fs:=fun b g=>by
 rcases I.ok.O5 with e|⟨e,hf⟩
 .rw[e]at g;exact aM _ g
 .rw[e]at g;unfold Kq at g;rw[List.filterMap_cons,hf]at g;exact g
theorem Inv.Uj(I:Inv X pins σ H s):∀b∈Kq X.stack,H b=none:=fun b g=>by
 rcases aY.mp (I.R6 b g) with e|g
 .rw[e];exact I.free
 .obtain⟨_,o,M,_⟩:=I.ok.JD.mem g;exact I.base.free b o M (I.ok.UY b g) fun z=>I.ok.SU b z g
theorem Inv.step{g':Array GenState}{t':Nat}{d':Drawn}{ch:List Addr}(I:Inv X pins σ H s)
 (U:∀b∈ch,(b∈X.ex\/X.s₀.heap.objs.size<=b)/\b≠X.env.locals/\(∀x c,X.env.cells.lookup x=some c->c≠b)/\∀p∈X.pn++pins,p.1≠b)
 (keep:∀b o,b≠X.env.locals->b ∉ X.fs->b ∉ ch->s.heap.get? b=some o->H b=none->h'.get? b=some o)
 (slot:∀b o,b≠X.env.locals->b∈X.fs->b ∉ ch->s.heap.get? b=some o->H b=none->∃sl,h'.get? b=some {o with slots:=sl})(free:∀b o,b ∉ ch->s.heap.get? b=some o->H b=none->H' b=none)
 (there:∀b o,b ∉ ch->s.heap.get? b=some o->∃o',h'.get? b=some o')
 (JG:∀b xs,H b=some (.tup xs)->H' b=some (.tup xs))(JE:∀b o u,H b=some (.JK o u)->H' b=some (.JK o u))(Kc:∀b ps,H b=some (.So ps)->∃more,H' b=some (.So (ps++more)))
 (Ki:∀b xs o,b ∉ ch->H b=some (.tup xs)->s.heap.get? b=some o->h'.get? b=some o)
 (ns:∀m,s.heap.Ns X.env.locals m->h'.Ns X.env.locals m)(Ah:Cq X.prog X.w H' h')(hg:AllBare g') :
  Inv X pins σ H' {s with heap:=h',gens:=g',drawn:=d',toks:=t'}:=by
 have neL:∀b o,X.s₀.heap.get? b=some o->b≠X.env.locals:=fun b o e=>aT (aN (aG e) I.ok.above);have M:∀b o,X.s₀.heap.get? b=some o->b ∉ X.ex->b ∉ ch:=fun b o e g Z=>by
  rcases(U b Z).1 with z|z
  .exact g z
  .exact absurd (aN (aG e) z) (Nat.lt_irrefl _)
 have cellK:∀x c,X.env.cells.lookup x=some c->∀v,s.heap.IsCell c v->h'.IsCell c v:=fun x c e v ⟨o,ho,hd⟩=>by
  have R:c ∉ ch:=fun z=>(U c z).2.2.1 x c e rfl;by_cases hc:c∈X.fs
  .obtain⟨sl,q⟩:=slot c o (I.SX x c e) hc R ho (I.HP x c e);exact⟨_,q,hd⟩
  .exact⟨o,keep c o (I.SX x c e) hc R ho (I.HP x c e),hd⟩
 refine⟨I.ok,I.os,hg,⟨fun b o e n Z g=>?_,fun b o e n Z g=>?_,fun b o e n g=>?_,fun b o e g=>?_,fun b xs e=>JG b xs (I.base.JG b xs e),fun b o xs e=>JE b o xs (I.base.JE b o xs e),fun b ps e=>?_,fun b xs o q e g=>Ki b xs o (M b o e g) (I.base.JG b xs q) (I.base.Ki b xs o q e g)⟩,?_,fun x c e=>?_,?_,fun x c e=>?_,fun p hp=>?_,Ah,I.len⟩
 .exact keep b o (neL b o e) Z (M b o e g) (I.base.keep b o e n Z g) (I.base.free b o e n g)
 .obtain⟨sl,Y⟩:=I.base.slot b o e n Z g;obtain⟨sl',e2⟩:=slot b _ (neL b o e) Z (M b o e g) Y (I.base.free b o e n g);exact⟨sl',e2⟩
 .obtain⟨o',Y⟩:=I.base.there b o e g;exact free b o' (M b o e g) Y (I.base.free b o e n g)
 .obtain⟨o',Y⟩:=I.base.there b o e g;exact there b o' (M b o e g) Y
 .obtain⟨m1,Y⟩:=I.base.Kc b ps e;obtain⟨m2,e2⟩:=Kc b _ Y;exact⟨m1++m2,by rw[e2,Array.append_assoc]⟩
 .obtain⟨m,hn,hl⟩:=I.loc;refine⟨m,ns m hn,fun i x v Y e2 e3=>?_⟩;obtain⟨u,r,l⟩:=hl i x v Y e2 e3;refine⟨u,r,?_⟩;rcases l with l|⟨k,c,e,z⟩
  .exact .inl l
  .exact .inr ⟨k,c,e,cellK x c e _ z⟩
 .obtain⟨v,z⟩:=I.cell x c e;exact⟨v,cellK x c e v z⟩
 .obtain⟨m,⟨o,_,_,ho,_⟩,_⟩:=I.loc;exact free _ o (fun z=>(U _ z).2.1 rfl) ho I.free
 .obtain⟨v,o,ho,hd⟩:=I.cell x c e;exact free c o (fun z=>(U c z).2.2.1 x c e rfl) ho (I.HP x c e)
 .obtain⟨e,n,ne,nf,d⟩:=I.pin p hp;have R:p.1 ∉ ch:=fun z=>(U p.1 z).2.2.2 p hp rfl;exact⟨keep p.1 p.2 ne nf R e n,free p.1 p.2 R e n,ne,nf,d⟩
theorem Inv.un{t':Nat}(I:Inv X pins σ H s)(u:Un X.fs [] H H' s.heap h')(Ah:Cq X.prog X.w H' h'):Inv X pins σ H' {s with heap:=h',toks:=t'}:=by
 obtain⟨m,⟨o,es,ep,Y,r⟩,_⟩:=id I.loc;obtain⟨sl,hL⟩:=u.any Y I.free (by simp);exact I.step (g':=s.gens) (d':=s.drawn) (ch:=[]) (fun _ z=>nomatch z) (fun b o _ M _ e n=>u.keep b o e n M (by simp)) (fun b o _ M _ e n=>u.slot b o e n M (by simp)) (fun b o _ e n=>u.free b o e n (by simp)) (fun b o _ e=>u.there b o e (by simp)) u.JG u.JE u.Kc (fun b xs o _ q e=>u.Ki b xs o q e (by simp)) (fun m' hm=>by
  obtain⟨o',R,U,g,Z⟩:=hm;rw[Y]at g;cases g;exact⟨_,R,U,hL,Z⟩) Ah I.bare
theorem Inv.call{g':Array GenState}{t':Nat}{d':Drawn}{ch:List Addr}(I:Inv X pins σ H s)(u:Un (Kq X.stack) ch H H' s.heap h')(Ah:Cq X.prog X.w H' h')(hg:AllBare g')
 (R:∀b∈ch,(b∈X.ex\/X.s₀.heap.objs.size<=b)/\b≠X.env.locals/\(∀x c,X.env.cells.lookup x=some c->c≠b)/\∀p∈X.pn++pins,p.1≠b) :
  Inv X pins σ H' {s with heap:=h',gens:=g',drawn:=d',toks:=t'}:=by
 obtain⟨m,⟨o,es,ep,ho,r⟩,_⟩:=id I.loc;obtain⟨sl,U⟩:=u.any ho I.free fun z=>(R _ z).2.1 rfl;exact I.step (ch:=ch) R (fun b o U hb g e n=>u.keep b o e n (fun z=>(aY.mp (I.R6 b z)).elim U hb) g) (fun b o _ _ g e n=>u.any e n g) (fun b o g e n=>u.free b o e n g) (fun b o g e=>u.there b o e g) u.JG u.JE u.Kc (fun b xs o g q e=>u.Ki b xs o q e g) (fun m' hm=>by
  obtain⟨o',Y,Z,M,r'⟩:=hm;rw[ho]at M;cases M;exact⟨_,Y,Z,U,r'⟩) Ah hg
theorem Inv.turned{t':Nat}{it:Addr}(I:Inv X pins σ H s)(k:∀b o,b≠it->s.heap.get? b=some o->h'.get? b=some o)(hn:H it=none)(R:it≠X.env.locals)
 (h1:it∈X.ex\/X.s₀.heap.objs.size<=it)(h2:∀x c,X.env.cells.lookup x=some c->c≠it)(Z:∀p∈X.pn++pins,p.1≠it):Inv X pins σ H {s with heap:=h',toks:=t'}:=by
 have M:∀b u,H b=some u->b≠it:=fun b u e z=>by rw[z,hn]at e;cases e
 refine I.step (g':=s.gens) (d':=s.drawn) (ch:=[it]) (fun b Y=>?_) (fun b o _ _ g e _=>k b o (fun z=>g (by simp[z])) e) (fun b o _ _ g e _=>⟨o.slots,k b o (fun z=>g (by simp[z])) e⟩) (fun _ _ _ _ n=>n)
  (fun b o g e=>⟨o,k b o (fun z=>g (by simp[z])) e⟩) (fun _ _ e=>e) (fun _ _ _ e=>e) (fun b ps e=>⟨#[],by rw[e];simp⟩) (fun b xs o g _ e=>k b o (fun z=>g (by simp[z])) e) (fun m hm=>?_) (fun b u e=>?_) I.bare
 .have e:b=it:=by simpa using Y
  subst e;exact⟨h1,R,h2,Z⟩
 .obtain⟨o,es,ep,U,r⟩:=hm;exact⟨o,es,ep,k _ o (Ne.symm R) U,r⟩
 .refine(I.Ah b u e).Ip (fun c v g q=>k c v ?_ q) (fun _ q=>q) fun _ _ q=>q;rcases g with z|z
  .rw[z];exact M b u e
  .exact M c _ z
theorem Inv.tok(I:Inv X pins σ H s)(t:Nat):Inv X pins σ H {s with toks:=t}:=I.un (h':=s.heap) (t':=t) Un.refl I.Ah
theorem Inv.kept{t':Nat}(I:Inv X pins σ H s)(k:∀b u,s.heap.get? b=some u->h'.get? b=some u):Inv X pins σ H {s with heap:=h',toks:=t'}:=I.un (Un.kept k) (I.Ah.kept k)
theorem Inv.laid{a:Addr}{o:HO}{t':Nat}(I:Inv X pins σ H s)(k:∀b u,s.heap.get? b=some u->h'.get? b=some u)(g:s.heap.objs.size<=a)(new:Bq X.prog X.w (upd H a o) h' a o) :
  Inv X pins σ (upd H a o) {s with heap:=h',toks:=t'}:=I.un (Un.laid k g (I.Ah.fresh g)) (I.Ah.laid k g new)
theorem Inv.write{x e:Addr}{o:HO}{t':Nat}(I:Inv X pins σ H s)(M:Vq (H x))(R:e=x\/H e=some (.own x))(k:∀b u,b≠e->s.heap.get? b=some u->h'.get? b=some u)(g:∃u,h'.get? e=some u)
 (new:Bq X.prog X.w (upd H x o) h' x o):Inv X pins σ (upd H x o) {s with heap:=h',toks:=t'}:=I.un (Un.write M R k g) (I.Ah.write M R k g new)
theorem Inv.Ue{g:List (Addr×Obj)}(I:Inv X pins σ H s)(h:∀p∈g,s.heap.get? p.1=some p.2/\H p.1=none/\p.1≠X.env.locals/\p.1 ∉ X.fs/\∀v,p.2.data≠.cell v):Inv X g σ H s :=
 ⟨I.ok,I.os,I.bare,I.base,I.loc,I.cell,I.free,I.HP,fun p M=>(aS.mp M).elim (fun z=>I.pin p (bL _ z)) (h p),I.Ah,I.len⟩
theorem RG{N:List Str}(g:N.Nodup){i j:Nat}{x:Str}(a:N[i]? = some x)(b:N[j]? = some x):i=j:=by
 obtain⟨U,M⟩:=aB.mp a;obtain⟨R,I⟩:=aB.mp b;exact(List.getElem_inj g).mp (M.trans I.symm)
theorem LO{M:Model}{A:Around}{E:Value->Shared->Prop}{i:Nat}{x:Str}{v:V}{u:Value}{Q:Unit->Shared->Prop}(I:Inv X pins σ H s)(hN:X.N.Nodup)(hi:X.N[i]? = some x)(R:Loc X.env.scope x)(r:RelV v u)
 (h:∀s',Inv X pins (σ.set i (some v)) H s'->(∃a,Heap.SameBut a s.heap s'.heap/\(a=X.env.locals\/X.env.cells.lookup x=some a))->Q () s')(hf:X.fn x=true\/X.env.scope.names.lookup x=some .local:=by first|exact .inl rfl|exact .inr rfl|assumption):wpAny M A (storeName X.env x u) Q E s:=by
 obtain⟨m,hn,hl⟩:=id I.loc;have hcls:(X.env.scope.kind==.class||(X.env.scope.kind==.module&&X.env.locals != X.env.globals))=false:=by rw[I.ok.kind];rfl
 have hiσ:i<σ.length:=by rw[I.len];exact(aB.mp hi).1
 have SX:=I.SX;have tracked:∀ {a:Addr} {h':Heap},(∃o,s.heap.get? a=some o/\H a=none)->Heap.SameBut a s.heap h'->Cq X.prog X.w H h':=fun {a h'} ha g b ob e=>by
  obtain⟨_,_,Z⟩:=ha;refine(I.Ah b ob e).Ip (fun c w' Y q=>(g.2 c ?_).trans q) (fun _ q=>q) fun _ _ q=>q;rintro rfl;rcases Y with rfl|Y
  .rw[Z]at e;cases e
  .rw[Z]at Y;cases Y
 rcases R with hk|hk
 .refine wpAny_storeName_local hk hn (fun h' hn' g=>?_) hcls;obtain⟨oL,_,_,hoL,_⟩:=id hn;refine h _ ⟨I.ok,I.os,I.bare,⟨fun b o e n hb R=>?_,fun b o e n hb R=>?_,I.base.free,fun b o e R=>?_,I.base.JG,I.base.JE,I.base.Kc,fun b xs o q e R=>(g.2 b (aT (aN (aG e) I.ok.above))).trans (I.base.Ki b xs o q e R)⟩,⟨_,hn',fun j y v' U e2 e3=>?_⟩,fun y c e=>?_,I.free,I.HP,fun p hp=>?_,tracked ⟨oL,hoL,I.free⟩ g,by simpa using I.len⟩ ⟨_,g,.inl rfl⟩
  .exact(g.2 b (aT (aN (aG e) I.ok.above))).trans (I.base.keep b o e n hb R)
  .obtain⟨sl,U⟩:=I.base.slot b o e n hb R;exact⟨sl,(g.2 b (aT (aN (aG e) I.ok.above))).trans U⟩
  .obtain⟨o',U⟩:=I.base.there b o e R;exact⟨o',(g.2 b (aT (aN (aG e) I.ok.above))).trans U⟩
  .by_cases hj:j=i
   .subst hj;rw[hi]at U;cases U;rw[List.getElem?_set_self hiσ]at e2;cases e2;exact⟨u,r,.inl ⟨hk,by simp⟩⟩
   .rw[List.getElem?_set_ne (Ne.symm hj)]at e2;obtain⟨u',r',q⟩:=hl j y v' U e2 e3;refine⟨u',r',?_⟩;rcases q with ⟨k,e⟩|⟨k,c,e,z⟩
    .refine .inl ⟨k,?_⟩;have:y≠x:=fun e=>hj (RG hN U (e ▸ hi));simp[this,e]
    .exact .inr ⟨k,c,e,z.sameBut g (SX y c e)⟩
  .obtain⟨w',z⟩:=I.cell y c e;exact⟨w',z.sameBut g (SX y c e)⟩
  .obtain⟨e,n,ne,nf,d⟩:=I.pin p hp;exact⟨(g.2 p.1 ne).trans e,n,ne,nf,d⟩
 .have hfn:X.fn x=true:=by
   rcases hf with z|z
   .exact z
   .rw[z]at hk;cases hk
  obtain⟨c,Y⟩:=I.ok.has x (.inl hk);obtain⟨w',z⟩:=I.cell x c Y;refine wpAny_storeName_cell I.ok.kind hk Y z (fun h' hc' g=>?_);obtain⟨oc,hoc,hocd⟩:=id z;refine h {s with heap:=h'} ⟨I.ok,I.os,I.bare,⟨fun b o e n hb R=>?_,fun b o e n hb R=>?_,I.base.free,fun b o e R=>?_,I.base.JG,I.base.JE,I.base.Kc,fun b xs o q e R=>(g.2 b (aT (aN (aG e) (I.ok.UM x c hfn Y)))).trans (I.base.Ki b xs o q e R)⟩,⟨m,hn.sameBut g (Ne.symm (SX x c Y)),fun j y v' U e2 e3=>?_⟩,fun y c' e=>?_,I.free,I.HP,fun p hp=>?_,tracked ⟨oc,hoc,I.HP x c Y⟩ g,by simpa using I.len⟩ ⟨c,g,.inr Y⟩
  .exact(g.2 b (aT (aN (aG e) (I.ok.UM x c hfn Y)))).trans (I.base.keep b o e n hb R)
  .obtain⟨sl,U⟩:=I.base.slot b o e n hb R;exact⟨sl,(g.2 b (aT (aN (aG e) (I.ok.UM x c hfn Y)))).trans U⟩
  .obtain⟨o',U⟩:=I.base.there b o e R;exact⟨o',(g.2 b (aT (aN (aG e) (I.ok.UM x c hfn Y)))).trans U⟩
  .by_cases hj:j=i
   .subst hj;rw[hi]at U;cases U;rw[List.getElem?_set_self hiσ]at e2;cases e2;exact⟨u,r,.inr ⟨.inl hk,c,Y,hc'⟩⟩
   .rw[List.getElem?_set_ne (Ne.symm hj)]at e2;obtain⟨u',r',q⟩:=hl j y v' U e2 e3;refine⟨u',r',?_⟩;rcases q with q|⟨k,c',e,z'⟩
    .exact .inl q
    .refine .inr ⟨k,c',e,z'.sameBut g ?_⟩;rintro rfl;exact hj (RG hN U (I.ok.inj _ _ _ e Y ▸ hi))
  .by_cases hcc:c'=c
   .subst hcc;exact⟨_,hc'⟩
   .obtain⟨w2,z2⟩:=I.cell y c' e;exact⟨w2,z2.sameBut g hcc⟩
  .obtain⟨e,n,ne,nf,d⟩:=I.pin p hp;refine⟨(g.2 p.1 ?_).trans e,n,ne,nf,d⟩;intro q;rw[q,hoc]at e;have q':oc=p.2:=ae e;exact d w' (by rw[<-q'];exact hocd)
theorem KZ{M:Model}{A:Around}{E:Value->Shared->Prop}{i:Nat}{x:Str}{v:V}{u:Value}{Q:Unit->Shared->Prop}(I:Inv X pins σ H s)(R:X.N.Nodup)(hi:X.N[i]? = some x)(g:Loc X.env.scope x)(r:RelV v u)
 (h:∀s',Inv X pins (σ.set i (some v)) H s'->Q () s')(hf:X.fn x=true\/X.env.scope.names.lookup x=some .local:=by first|exact .inl rfl|exact .inr rfl|assumption):wpAny M A (storeName X.env x u) Q E s :=
 LO I R hi g r (fun s' U _=>h s' U) hf
theorem Inv.gW{s':Shared}{ch:List Addr}(I:Inv X pins σ H s)(Y:s'.os=s.os)(u:Un (Kq X.stack) ch H H' s.heap s'.heap)(Ah:Cq X.prog X.w H' s'.heap)(Z:AllBare s'.gens)
 (g:∀b∈ch,(b∈X.ex\/X.s₀.heap.objs.size<=b)/\b≠X.env.locals/\(∀x c,X.env.cells.lookup x=some c->c≠b)/\∀p∈X.pn++pins,p.1≠b):Inv X pins σ H' s':=by
 obtain⟨h',R,U,M,o'⟩:=s';have e:o'=s.os:=Y;subst e;exact I.call (g':=R) (t':=M) (d':=U) u Ah Z g
end
abbrev XK:=Value->Option Addr->Hp->Prop
abbrev St:=List (Option V)
abbrev VK:=V->Hp->Prop
abbrev TE:=St->Hp->VK->Prop
abbrev TT:=St->Hp->(Bool->Hp->Prop)->Prop
abbrev TA:=St->Hp->(List V->Hp->Prop)->Prop
structure Ends where
 nx:St->Hp->Prop
 rt:VK
 bk:St->Hp->Prop:=fun _ _=>False
 ct:St->Hp->Prop:=fun _ _=>False
abbrev TS:=Ends->St->Hp->Prop
def EP(X:Cx)(pins:List (Addr×Obj))(σ:St)(Q:VK)(u:Value)(s':Shared):Prop:=∃v H',Inv X pins σ H' s'/\RelV v u/\Q v H'
def TP(X:Cx)(pins:List (Addr×Obj))(σ:St)(Q:Bool->Hp->Prop)(b:Bool)(s':Shared):Prop:=∃H',Inv X pins σ H' s'/\Q b H'
def AP(X:Cx)(pins:List (Addr×Obj))(σ:St)(Q:List V->Hp->Prop)(us:List Value)(s':Shared):Prop:=∃vs H',Inv X pins σ H' s'/\Vals vs us/\Q vs H'
def SP(X:Cx)(pins:List (Addr×Obj))(D:Ends)(f:Flow)(s':Shared):Prop :=
 match f with
 |.next=>∃g H',Inv X pins g H' s'/\D.nx g H'
 |.brk=>∃g H',Inv X pins g H' s'/\D.bk g H'
 |.cont=>∃g H',Inv X pins g H' s'/\D.ct g H'
 |.ret u=>∃v g H',Inv X pins g H' s'/\RelV v u/\D.rt v H'
def PE(X:Cx)(e:Expr)(t:TE):Prop :=
 ∀(pins:List (Addr×Obj)) (s:Shared) (σ:St) (H:Hp) (Q:VK),Inv X pins σ H s->t σ H Q->wpAny (model X.prog X.w) X.A (eval e X.env) (EP X pins σ Q) X.xe s
def PT(X:Cx)(e:Expr)(t:TT):Prop :=
 ∀(pins:List (Addr×Obj)) (s:Shared) (σ:St) (H:Hp) (Q:Bool->Hp->Prop),Inv X pins σ H s->t σ H Q->wpAny (model X.prog X.w) X.A (isTrue e X.env (eval e X.env)) (TP X pins σ Q) X.xe s
def PW(X:Cx)(e:Expr)(t:TT):Prop :=
 ∀(g:Sem Value) (pins:List (Addr×Obj)) (s:Shared) (σ:St) (H:Hp) (Q:Bool->Hp->Prop),Inv X pins σ H s->t σ H Q->wpAny (model X.prog X.w) X.A (isTrue e X.env g) (TP X pins σ Q) X.xe s
theorem PW.pt{X:Cx}{e:Expr}{t:TT}(h:PW X e t):PT X e t:=h _
def PA(X:Cx)(es:List Expr)(t:TA):Prop :=
 ∀(pos:Pos) (pins:List (Addr×Obj)) (s:Shared) (σ:St) (H:Hp) (Q:List V->Hp->Prop),Inv X pins σ H s->t σ H Q->wpAny (model X.prog X.w) X.A (spliced (backTo pos (starEach es X.env))) (AP X pins σ Q) X.xe s
def PS(X:Cx)(st:Stmt)(t:TS):Prop :=
 ∀(pins:List (Addr×Obj)) (s:Shared) (σ:St) (H:Hp) (D:Ends),Inv X pins σ H s->t D σ H->wpAny (model X.prog X.w) X.A (exec st X.env) (SP X pins D) X.xe s
def Ig(X:Cx)(st:List Stmt)(t:TS):Prop :=
 ∀(pins:List (Addr×Obj)) (s:Shared) (σ:St) (H:Hp) (D:Ends),Inv X pins σ H s->t D σ H->wpAny (model X.prog X.w) X.A (execs st X.env) (SP X pins D) X.xe s
theorem A4{α:Type}{t:Sem α}{Q g:α->Shared->Prop}{M:Model}{A:Around}{E:Value->Shared->Prop}{s:Shared}(h:wpAny M A t Q E s)(I:∀a s,Q a s->g a s):wpAny M A t g E s:=ak h I fun _ _ x=>x
section
variable{X:Cx}
def VG(i:Nat):TE:=fun σ H Q=>∃v,σ[i]? = some (some v)/\Q v H
def tC(v:V):TE:=fun _ H Q=>Q v H
theorem cI{i:Nat}{x:Str}{pos:Pos}(hN:X.N[i]? = some x)(Y:fU X.env.scope x)(hd:(x==("__debug__" : Str))=false:=by decide)(R:(x==("__classdict__" : Str))=false:=by decide):PE X (.Name x pos) (VG i):=by
 intro pins s σ H Q I h;obtain⟨v,e,h⟩:=h;obtain⟨m,hn,Z⟩:=I.loc;obtain⟨u,r,l⟩:=Z i x v hN e Y;have fin:EP X pins σ Q u s:=⟨v,H,I,r,h⟩;rcases l with ⟨M,hm⟩|⟨M,c,U,g⟩
 .exact wpAny_Name (wpAny_loadName_local I.ok.kind M hn hm fin) hd
 .rcases M with M|M
  .exact wpAny_Name (wpAny_loadName_cell I.ok.kind M U g fin) hd
  .exact wpAny_Name (wpAny_loadName_free I.ok.kind M U g fin R) hd
theorem AE{i j pos}:PE X (.Constant (.int i) j pos) (tC (.int i)):=fun _ _ _ H _ I h=>wpAny_Constant_int ⟨.int i,H,I.tok _,⟨_,rfl⟩,h⟩
theorem CO{b j pos}:PE X (.Constant (.bool b) j pos) (tC (.bl b)):=fun _ _ _ H _ I h=>Constant_bool ⟨.bl b,H,I,rfl,h⟩
theorem Vw{j pos}:PE X (.Constant .none j pos) (tC .BM):=fun _ _ _ H _ I h=>Constant_none ⟨.BM,H,I,rfl,h⟩
def Gl(X:Cx)(x:Str):Prop:=X.env.kindOf x=some .globalImplicit
theorem UR{E:Value->Shared->Prop}{pins:List (Addr×Obj)}{s:Shared}{σ:St}{H:Hp}{x:Str}{u:Value}{pos:Pos}{Q:Value->Shared->Prop}(I:Inv X pins σ H s)(g:Gl X x)(hm:X.mg x=some u)(h:Q u s)
 (hd:(x==("__debug__" : Str))=false:=by decide):wpAny (model X.prog X.w) X.A (eval (.Name x pos) X.env) Q E s :=
 Calls.Name_function_global I.ok.kind g (Calls.loadGlobal_global (by rw[I.ok.glob];exact I.mod.glob.keeps I.bk) hm h) hd
theorem GI{E:Value->Shared->Prop}{pins:List (Addr×Obj)}{s:Shared}{σ:St}{H:Hp}{x:Str}{u:Value}{pos:Pos}{Q:Value->Shared->Prop}(I:Inv X pins σ H s)(M:Gl X x)(hm:X.mg x=none)(g:bootBuiltins x=some u)(h:Q u s)
 (hn:x ≠ "__name__":=by decide)(hd:(x==("__debug__" : Str))=false:=by decide):wpAny (model X.prog X.w) X.A (eval (.Name x pos) X.env) Q E s:=by
 obtain⟨mb,U,R⟩:=I.mod.blt;exact Calls.Name_function_global I.ok.kind M (Calls.loadGlobal_builtin (by rw[I.ok.glob];exact I.mod.glob.keeps I.bk) hm (by rw[I.ok.blt];exact U.keeps I.bk) ((R x hn).trans g) h) hd
theorem Uk{x:Str}{v:V}{u:Value}{pos:Pos}(g:Gl X x)(hm:X.mg x=some u)(r:RelV v u)(hd:(x==("__debug__" : Str))=false:=by decide):PE X (.Name x pos) (tC v) :=
 fun _ _ _ H _ I h=>UR I g hm ⟨v,H,I,r,h⟩ hd
theorem Bt{x:Str}{v:V}{u:Value}{pos:Pos}(M:Gl X x)(hm:X.mg x=none)(g:bootBuiltins x=some u)(r:RelV v u)(hn:x ≠ "__name__":=by decide)(hd:(x==("__debug__" : Str))=false:=by decide):PE X (.Name x pos) (tC v) :=
 fun _ _ _ H _ I h=>GI I M hm g ⟨v,H,I,r,h⟩ hn hd
variable{a b:Expr}{ta tb:TE}{pos:Pos}
def PC(X:Cx)(op:CmpOp)(a b:Expr)(t:TE):Prop :=
 ∀(pins:List (Addr×Obj)) (s:Shared) (σ:St) (H:Hp) (Q:VK),Inv X pins σ H s->t σ H Q ->
  wpAny (model X.prog X.w) X.A (eval a X.env) (fun v I=>wpAny (model X.prog X.w) X.A (eval b X.env) (fun u g=>wpAny (model X.prog X.w) X.A (compareOp op v u) (EP X pins σ Q) X.xe g) X.xe I) X.xe s
def tB(t:TE):TT:=fun σ H Q=>t σ H fun x H1=>∃c,x=.bl c/\Q c H1
theorem de{op:CmpOp}{t:TE}(h:PC X op a b t)(h1:behindInMarks op b=false:=by first|exact g _ (by decide) (by decide)|rfl):PT X (.Compare a [op] [b] pos) (tB t):=by
 intro pins s σ H Q I U;refine wpAny_isTrue_Compare1 (A4 (h pins s σ H _ I U) fun v s1 h1=>A4 h1 fun u s2 Y=>A4 Y fun c s3 ⟨x,H1,Z,M,R⟩=>?_) h1;obtain⟨d,rfl,q⟩:=R;cases M;exact bj ⟨H1,Z,q⟩
theorem Bo{e : Expr}{t : TE}(h : PE X e t)(he : ∀ whole,isTrue e X.env whole = (do let v <- whole; standAt e.pos; holding [v] (truthy v)):=by intro _; rfl):PT X e (tB t):=by
  intro pins s σ H Q I hw
  refine isTrue_plain (A4 (h pins s σ H _ I hw) fun v s1 ⟨x,H1,I1,r1,q1⟩ => ?_) (he _)
  obtain ⟨d,rfl,q⟩:=q1
  cases r1
  exact bj ⟨H1,I1,q⟩
variable{tA tB':TT}{rest:List Expr}
def kT(t u:TT):TT:=fun σ H Q=>t σ H fun c H1=>if c=true then u σ H1 Q else Q false H1
def kZ(t u:TT):TT:=fun σ H Q=>t σ H fun c H1=>if c=true then Q true H1 else u σ H1 Q
def kN(t:TT):TT:=fun σ H Q=>t σ H fun c H1=>Q (!c) H1
theorem Zb(ha:PT X a tA):PW X (.BoolOp .And [a] pos) tA:=by
 intro g pins s σ H Q I h;refine isTrue_and (A4 (ha pins s σ H Q I h) fun c s1 e=>?_);cases c with
 |true=>exact isTrue_and_nil e
 |false=>exact e
theorem Df(ha:PT X a tA):PW X (.BoolOp .Or [a] pos) tA:=by
 intro g pins s σ H Q I h;refine isTrue_or (A4 (ha pins s σ H Q I h) fun c s1 e=>?_);cases c with
 |false=>exact isTrue_or_nil e
 |true=>exact e
theorem eI(ha:PT X a tA)(U:PW X (.BoolOp .And (b::rest) pos) tB'):PW X (.BoolOp .And (a::b::rest) pos) (kT tA tB'):=by
 intro R pins s σ H Q I h;refine isTrue_and (A4 (ha pins s σ H _ I h) fun c s1 ⟨H1,M,g⟩=>?_);cases c with
 |true=>exact U R pins s1 σ H1 Q M g
 |false=>exact⟨H1,M,g⟩
theorem D6(ha:PT X a tA)(U:PW X (.BoolOp .Or (b::rest) pos) tB'):PW X (.BoolOp .Or (a::b::rest) pos) (kZ tA tB'):=by
 intro R pins s σ H Q I h;refine isTrue_or (A4 (ha pins s σ H _ I h) fun c s1 ⟨H1,M,g⟩=>?_);cases c with
 |true=>exact⟨H1,M,g⟩
 |false=>exact U R pins s1 σ H1 Q M g
theorem B8(ha:PT X a tA):PT X (.UnaryOp .Not a pos) (kN tA):=by
 intro pins s σ H Q I h;exact isTrue_not (ha pins s σ H (fun c H1=>Q (!c) H1) I h)
def gP(ta tb:TE):TE:=fun σ H Q=>ta σ H fun x H1=>∃c,x=.bl c/\if c=true then tb σ H1 Q else Q (.bl false) H1
def gy(ta:TE):TE:=fun σ H Q=>ta σ H fun x H1=>∃c,x=.bl c/\Q (.bl (!c)) H1
theorem K2{op}{t:TE}(h:PE X a t):PE X (.BoolOp op [a] pos) t:=fun pins s σ H Q I g=>BoolOp_one (h pins s σ H Q I g)
theorem Iw(ha:PE X a ta)(U:PE X (.BoolOp .And (b::rest) pos) tb):PE X (.BoolOp .And (a::b::rest) pos) (gP ta tb):=by
 intro pins s σ H Q I h;refine BoolOp_and (A4 (ha pins s σ H _ I h) fun v s1 ⟨x,H1,M,R,g⟩=>?_);obtain⟨c,rfl,g⟩:=g;cases R;refine bj ?_;cases c with
 |true=>exact U pins s1 σ H1 Q M g
 |false=>exact⟨.bl false,H1,M,rfl,g⟩
theorem WO(ha:PE X a ta):PE X (.UnaryOp .Not a pos) (gy ta):=by
 intro pins s σ H Q I h;refine UnaryOp_ (A4 (ha pins s σ H _ I h) fun v s1 ⟨x,H1,R,M,g⟩=>?_);obtain⟨c,rfl,g⟩:=g;cases M;exact not_of (bj ⟨.bl (!c),H1,R,rfl,g⟩)
def lC(t:TT)(ta tb:TE):TE:=fun σ H Q=>t σ H fun c H1=>if c=true then ta σ H1 Q else tb σ H1 Q
theorem YX{c:Expr}(R:PT X c tA)(ha:PE X a ta)(U:PE X b tb):PE X (.IfExp c a b pos) (lC tA ta tb):=by
 intro pins s σ H Q I h;refine wpAny_IfExp (A4 (R pins s σ H _ I h) fun d s1 ⟨H1,M,g⟩=>?_);cases d with
 |true=>exact ha pins s1 σ H1 Q M g
 |false=>exact U pins s1 σ H1 Q M g
end
def AO(K:PySem.W.Frag)(H:Hp)(a:Addr)(xs:List V):Prop :=
 Rd H a (.lst xs) \/
  ∃(o:Obj) (g:Array Value) (n:Nat),K.lookup a=some o/\o.cls=.type "list" /\ o.dict=none/\o.data=.seq g n/\g.size<=sizeLine/\Vals xs g.toList
def Af(K:PySem.W.Frag)(H:Hp)(a:Addr)(xs:List V):Prop :=
 Rd H a (.tup xs) \/
  ∃(o:Obj) (g:Array Value) (n:Nat),K.lookup a=some o/\o.cls=.type "tuple" /\ o.data=.seq g n/\g.size<=sizeLine/\Vals xs g.toList
def jz:Value->Option V
 |.none=>some .BM
 |.bool b=>some (.bl b)
 |.int i _=>some (.int i)
 |.str x _=>some (.str x)
 |.bytes b _=>some (.Lo b)
 |.float b _=>some (.T8 b)
 |.ref a=>some (.ref a)
 |.type n=>some (.ty n)
 |_=>none
theorem RelV.abs{x:V}{u:Value}(r:RelV x u):jz u=some x:=by
 cases x with
 |BM=>cases r;rfl
 |bl _=>cases r;rfl
 |int _=>obtain⟨t,rfl⟩:=r;rfl
 |str _=>obtain⟨t,rfl⟩:=r;rfl
 |Lo _=>obtain⟨t,rfl⟩:=r;rfl
 |T8 _=>obtain⟨t,rfl⟩:=r;rfl
 |ref _=>cases r;rfl
 |ty _=>cases r;rfl
theorem RelV.inj{x y:V}{u:Value}(r:RelV x u)(q:RelV y u):x=y:=ae (r.abs.symm.trans q.abs)
theorem Vals.inj:∀ {xs ys:List V} {us:List Value},Vals xs us->Vals ys us->xs=ys
 |_,_,_,.nil,.nil=>rfl
 |_,_,_,.cons r t,.cons I g=>by rw[r.inj I,Vals.inj t g]
section
variable{X:Cx}{pins:List (Addr×Obj)}{σ:St}{H:Hp}{s:Shared}{a:Addr}{xs ys:List V}
theorem AO.of{K:PySem.W.Frag}(h:H a=some (.lst xs)):AO K H a xs:=.inl (.inl h)
theorem Af.of{K:PySem.W.Frag}(h:H a=some (.tup xs)):Af K H a xs:=.inl (.inl h)
theorem Inv.list(I:Inv X pins σ H s)(h:AO X.K H a xs):∃g:List Value,Vals xs g/\PlainL s.heap a g.toArray/\xs.length<=sizeLine:=by
 rcases h with h|⟨o,g,n,R,U,hd,M,Y,r⟩
 .obtain⟨z,g,n,r,e⟩:=h.ok I.Ah;exact⟨g,r,⟨_,n,e,rfl,rfl,rfl⟩,z⟩
 .refine⟨g.toList,r,⟨o,n,I.Hf a o R,U,hd,by simpa using M⟩,?_⟩;have e:=r.length;simp only[Array.length_toList]at e
  lia
theorem Inv.tuple(I:Inv X pins σ H s)(h:Af X.K H a xs):∃g:List Value,Vals xs g/\IsTup s.heap a g.toArray/\xs.length<=sizeLine:=by
 rcases h with h|⟨o,g,n,R,U,M,Y,r⟩
 .obtain⟨z,g,r,p⟩:=h.ok I.Ah;exact⟨g,r,p,z⟩
 .refine⟨g.toList,r,⟨o,I.Hf a o R,U,n,by simpa using M⟩,?_⟩;have e:=r.length;simp only[Array.length_toList]at e
  lia
theorem Inv.Sl(I:Inv X pins σ H s)(h:AO X.K H a xs)(h':AO X.K H a ys):xs=ys:=by
 obtain⟨M,r,⟨o,n,e,_,_,d⟩,_⟩:=I.list h;obtain⟨g,Y,⟨o',n',R,_,_,U⟩,_⟩:=I.list h';rw[e]at R;cases R;rw[d]at U
 injection U with Z _
 have:M=g:=by simpa using bP Array.toList Z
 subst this;exact r.inj Y
theorem Inv.XS(I:Inv X pins σ H s)(h:Af X.K H a xs)(h':Af X.K H a ys):xs=ys:=by
 obtain⟨M,r,⟨o,e,_,n,d⟩,_⟩:=I.tuple h;obtain⟨g,Y,⟨o',R,_,n',U⟩,_⟩:=I.tuple h';rw[e]at R;cases R;rw[d]at U
 injection U with Z _
 have:M=g:=by simpa using bP Array.toList Z
 subst this;exact r.inj Y
end
abbrev Cx.Jn(X:Cx)(E:Value->Shared->Prop):Cx:={X with xe:=E}
abbrev Cx.Ug(X:Cx):Cx:=X.Jn fun _ _=>False
theorem Cx.Ok.Jn{X:Cx}(ok:X.Ok)(E:Value->Shared->Prop):(X.Jn E).Ok :=
 ⟨ok.mod,ok.kind,ok.glob,ok.blt,ok.above,ok.inj,ok.has,ok.UM,ok.hd,ok.frames,ok.O5,ok.iu,ok.bs,ok.P5,ok.RC,ok.SU,ok.JD,ok.UY,ok.kt⟩
theorem Cx.Ok.Hi{X:Cx}{E:Value->Shared->Prop}(ok:(X.Jn E).Ok):X.Ok :=
 ⟨ok.mod,ok.kind,ok.glob,ok.blt,ok.above,ok.inj,ok.has,ok.UM,ok.hd,ok.frames,ok.O5,ok.iu,ok.bs,ok.P5,ok.RC,ok.SU,ok.JD,ok.UY,ok.kt⟩
section
variable{X:Cx}{pins:List (Addr×Obj)}{σ:St}{H:Hp}{s:Shared}{E:Value->Shared->Prop}
theorem Inv.Jn(I:Inv X pins σ H s)(E:Value->Shared->Prop):Inv (X.Jn E) pins σ H s:=⟨I.ok.Jn E,I.os,I.bare,I.base,I.loc,I.cell,I.free,I.HP,I.pin,I.Ah,I.len⟩
theorem Inv.Hi(I:Inv (X.Jn E) pins σ H s):Inv X pins σ H s:=⟨I.ok.Hi,I.os,I.bare,I.base,I.loc,I.cell,I.free,I.HP,I.pin,I.Ah,I.len⟩
theorem SP.Hi{D:Ends}{f:Flow}{s':Shared}(h:SP (X.Jn E) pins D f s'):SP X pins D f s':=by
 cases f with
 |next=>obtain⟨g,H',I,q⟩:=h;exact⟨g,H',I.Hi,q⟩
 |brk=>obtain⟨g,H',I,q⟩:=h;exact⟨g,H',I.Hi,q⟩
 |cont=>obtain⟨g,H',I,q⟩:=h;exact⟨g,H',I.Hi,q⟩
 |ret u=>obtain⟨v,g,H',I,r,q⟩:=h;exact⟨v,g,H',I.Hi,r,q⟩
theorem Ig.Ug{st:List Stmt}{t:TS}(h:Ig X.Ug st t):Ig X st t:=fun pins s σ H D I g=>
 ak (h pins s σ H D (I.Jn _) g) (fun _ _ q=>q.Hi) fun _ _ z=>False.elim z
end
section
variable{X:Cx}{st:Stmt}{rest:List Stmt}{t u:TS}{e:Expr}{te:TE}{pos:Pos}
def iZ:TS:=fun D σ H=>D.nx σ H
def Jo(t u:TS):TS:=fun D σ H=>t {D with nx:=u D} σ H
theorem Az:Ig X [] iZ:=fun _ _ σ H _ I h=>wpAny_execs_nil ⟨σ,H,I,h⟩
theorem AD(h1:PS X st t)(M:Ig X rest u):Ig X (st::rest) (Jo t u):=by
 intro pins s σ H D I h;refine wpAny_execs_cons (A4 (h1 pins s σ H {D with nx:=u D} I h) fun f s1 q=>?_);cases f with
 |next=>
  obtain⟨g,H',R,q⟩:=q;exact M pins s1 g H' D R q
 |ret v=>exact q
 |brk=>exact q
 |cont=>exact q
theorem AF(h1:PS X st t):Ig X [st] t:=by
 intro pins s σ H D I h;refine wpAny_execs_cons (A4 (h1 pins s σ H D I h) fun f s1 q=>?_);cases f with
 |next=>exact wpAny_execs_nil q
 |ret v=>exact q
 |brk=>exact q
 |cont=>exact q
theorem Inv.quiet{pins:List (Addr×Obj)}{σ:St}{H:Hp}{s:Shared}(I:Inv X pins σ H s):interactive X.env=false:=by simp[interactive,I.ok.kind]
def ZH(te:TE):TS:=fun D σ H=>te σ H fun _ H1=>D.nx σ H1
theorem Bu(R:PE X e te)(M:swapsWith e none pos.line X.env=pure false:=by rfl):PS X (.Expr e pos) (ZH te):=by
 intro pins s σ H D I h;exact wpAny_Expr_any (A4 (R pins s σ H _ I h) fun v s1 ⟨x,H1,U,Y,g⟩=>⟨σ,H1,U,g⟩) I.quiet M
def kF(te:TE):TS:=fun D σ H=>te σ H D.rt
theorem Ac(R:PE X e te):PS X (.Return (some e) pos) (kF te):=by
 intro pins s σ H D I h;exact wpAny_Return_some (A4 (R pins s σ H _ I h) fun v s1 ⟨x,H1,U,g,M⟩=>⟨x,σ,H1,U,g,M⟩)
def kR(c:TT)(t u:TS):TS:=fun D σ H=>c σ H fun b H1=>if b=true then t D σ H1 else u D σ H1
theorem BQ{c:Expr}{a b:List Stmt}{g:TT}(U:PT X c g)(ha:Ig X a t)(Y:Ig X b u):PS X (.If c a b pos) (kR g t u):=by
 intro pins s σ H D I h;refine wpAny_If (A4 (U pins s σ H _ I h) fun d s1 ⟨H1,R,M⟩=>?_);cases d with
 |true=>exact ha pins s1 σ H1 D R M
 |false=>exact Y pins s1 σ H1 D R M
def cT:TS:=fun _ _ _=>False
theorem KH:PS X st cT:=fun _ _ _ _ _ _ h=>h.elim
end
abbrev TG:=V->St->Hp->(St->Hp->Prop)->Prop
abbrev Qh:=List V->St->Hp->(St->Hp->Prop)->Prop
def PG(X:Cx)(target:Expr)(t:TG):Prop :=
 ∀(pins:List (Addr×Obj)) (s:Shared) (σ:St) (H:Hp) (v:V) (u:Value) (Q:St->Hp->Prop),Inv X pins σ H s->RelV v u->t v σ H Q ->
  wpAny (model X.prog X.w) X.A (assign target X.env u) (fun _ I=>∃g H',Inv X pins g H' I/\Q g H') X.xe s
def ZE(X:Cx)(ts:List Expr)(t:Qh):Prop :=
 ∀(pins:List (Addr×Obj)) (s:Shared) (σ:St) (H:Hp) (vs:List V) (us:List Value) (Q:St->Hp->Prop),Inv X pins σ H s->Vals vs us->t vs σ H Q ->
  wpAny (model X.prog X.w) X.A (assignInOrder ((assignEach ts X.env).map (·.2)) us) (fun _ I=>∃g H',Inv X pins g H' I/\Q g H') X.xe s
abbrev Xs:=V->V->V->Hp->(Hp->Prop)->Prop
def fG(X:Cx)(t:Xs):Prop :=
 ∀(pins:List (Addr×Obj)) (s:Shared) (σ:St) (H:Hp) (o i v:V) (g I u:Value) (Q:Hp->Prop),Inv X pins σ H s->RelV o g->RelV i I->RelV v u->t o i v H Q ->
  wpAny (model X.prog X.w) X.A (setItem g I u) (fun _ M=>∃H',Inv X pins σ H' M/\Q H') X.xe s
section
variable{X:Cx}{pos:Pos}
def C0(i:Nat):TG:=fun v σ H Q=>Q (σ.set i (some v)) H
theorem An{i:Nat}{x:Str}(M:X.N.Nodup)(hi:X.N[i]? = some x)(g:Loc X.env.scope x)(hf:X.fn x=true\/X.env.scope.names.lookup x=some .local:=by first|exact .inl rfl|exact .inr rfl|assumption):PG X (.Name x pos) (C0 i):=by
 intro pins s σ H v u Q I r h;exact wpAny_assign_Name (KZ I M hi g r (fun U R=>⟨_,H,R,h⟩) hf)
def Yb:Qh:=fun vs σ H Q=>vs=[]/\Q σ H
def NS(t:TG)(u:Qh):Qh:=fun vs σ H Q=>∃v r,vs=v::r/\t v σ H fun g H'=>u r g H' Q
theorem FK:ZE X [] Yb:=by
 intro pins s σ H vs us Q I r h;obtain⟨e,h⟩:=h;subst e;cases r;exact assignInOrder_nil ⟨σ,H,I,h⟩
theorem Bg{e:Expr}{es:List Expr}{t:TG}{u:Qh}(h1:PG X e t)(Y:ZE X es u)
 (U:(assignEach (e::es) X.env).map (·.2)=assign e X.env::(assignEach es X.env).map (·.2):=by rfl):ZE X (e::es) (NS t u):=by
 intro pins s σ H vs us Q I r h;obtain⟨v,vr,Z,h⟩:=h;subst Z;cases r with
 |cons r M=>
  rw[U];refine assignInOrder_cons (A4 (h1 pins s σ H _ _ _ I r h) fun _ s1 ⟨g,H1,I1,R⟩=>?_);exact Y pins s1 g H1 _ _ Q I1 M R
def YL(K:PySem.W.Frag)(n:Nat)(t:Qh):TG:=fun v σ H Q=>∃a xs,v=.ref a/\Af K H a xs/\xs.length=n/\t xs σ H Q
theorem GY{es:List Expr}{k:Nat}{t:Qh}{n:Nat}(hc:X.calm=true)(h:ZE X es t)
 (hn:(assignEach es X.env).length=n:=by rfl)(M:(assignEach es X.env).findIdx? (·.1)=none:=by rfl):PG X (.Tuple es k pos) (YL X.K n t):=by
 intro pins s σ H v u Q I r g;obtain⟨a,xs,e1,hq,hl,g⟩:=g;subst e1;cases r;obtain⟨U,R,Z,hz⟩:=I.tuple hq;refine assign_Tuple_tuple (I.ok.hd hc) Z (by simp[hn,<-hl,R.length]) M fun h' Y=>?_;have I1:Inv X pins σ H {s with heap:=h'}:=I.kept (t':=s.toks) fun b o e=>Y b o (aT (aG e)) e;exact h pins _ σ H xs _ Q I1 (by simpa using R) g
def jP(g I:TE)(t:Xs):TG:=fun v σ H Q=>g σ H fun o H1=>I σ H1 fun i R=>t o i v R fun M=>Q σ M
theorem ef{o i:Expr}{to ti:TE}{t:Xs}(ho:PE X o to)(hi:PE X i ti)(hs:fG X t)
 (ha:∀v,assign (.Subscript o i pos) X.env v=(do
      let ov <-holding [v] (eval o X.env)
      let iv <-holding [v,ov] (eval i X.env)
      standAt pos
      holding [v,ov,iv] (setItem ov iv v)
      release [v,ov,iv] []):=by intro _;rfl):PG X (.Subscript o i pos) (jP to ti t):=by
  intro pins s σ H v u Q I r h
  rw[ha]
  refine aA (bM (A4 (ho pins s σ H _ I h) fun ov s1 ⟨x,H1,I1,r1,q1⟩=>?_))
  refine aA (bM (A4 (hi pins s1 σ H1 _ I1 q1) fun iv s2 ⟨y,H2,I2,r2,q2⟩=>?_))
  refine aA (wpAny_standAt (aA (bM (A4 (hs pins s2 σ H2 x y v ov iv u _ I2 r1 r2 r q2) fun _ s3 ⟨H3,I3,q3⟩=>?_))))
  exact wpAny_release ⟨σ,H3,I3,q3⟩
def OH(I:TE)(g:TG):TS:=fun D σ H=>I σ H fun x H1=>g x σ H1 D.nx
theorem dP{tg e:Expr}{M:TE}{g:TG}(he:PE X e M)(hg:PG X tg g)(Z:swapsWithSole [tg] e pos.line X.env=pure false:=by rfl)(Y:swappedStores [tg] e X.env=pure none:=by rfl)
 (h1:(assignEach [tg] X.env).map (·.2)=[assign tg X.env]:=by rfl):PS X (.Assign [tg] e pos) (OH M g):=by
 intro pins s σ H D I h;refine wpAny_Assign_stores (A4 (he pins s σ H _ I h) fun v s1 ⟨x,H1,I1,R,U⟩=>?_) Z Y;rw[h1];exact A4 (hg pins s1 σ H1 x v _ I1 R U) fun _ s2 q=>q
theorem AU{i:Nat}{x:Str}{e:Expr}{M:TE}{g:Pos}(hN:X.N.Nodup)(hi:X.N[i]? = some x)(Y:Loc X.env.scope x)(he:PE X e M)(Z:swapsWith e (some (.Name x g)) pos.line X.env=pure false:=by rfl)(hf:X.fn x=true\/X.env.scope.names.lookup x=some .local:=by first|exact .inl rfl|exact .inr rfl|assumption) :
  PS X (.Assign [.Name x g] e pos) (OH M (C0 i)):=by
 intro pins s σ H D I h;refine wpAny_Assign_Name (A4 (he pins s σ H _ I h) fun v s1 ⟨y,H1,I1,R,U⟩=>?_) Z;exact KZ I1 hN hi Y R (fun s2 I2=>⟨_,H1,I2,U⟩) hf
def jt(i j:Nat)(g:TA):TS:=fun D σ H=>g σ H fun vs H1=>∃v w,vs=[v,w]/\D.nx ((σ.set i (some v)).set j (some w)) H1
theorem eW{i j:Nat}{x y:Str}{a b:Expr}{ta:TA}{px py pt:Pos}{kt k2 M}(hc:X.calm=true)(hN:X.N.Nodup)(hi:X.N[i]? = some x)(hj:X.N[j]? = some y)(hij:i≠j)
 (hx:X.env.scope.names.lookup x=some .local)(hy:X.env.scope.names.lookup y=some .local)(ha:PA X [a,b] ta)
 (hw:swappedStores [.Tuple [.Name x px,.Name y py] kt pt] (.Tuple [a,b] k2 M) X.env=pure (some [x,y]))
 (hs:swapsWithSole [.Tuple [.Name x px,.Name y py] kt pt] (.Tuple [a,b] k2 M) pos.line X.env=pure false:=by rfl) :
  PS X (.Assign [.Tuple [.Name x px,.Name y py] kt pt] (.Tuple [a,b] k2 M) pos) (jt i j ta):=by
 intro pins s σ H D I h;rw[exec_Assign_arm];refine aA (wpAny_standAt ?_);rw[hs];refine aA (aC ?_);rw[if_neg (by decide)];refine aA (Tuple_ (A4 (ha _ pins s σ H _ I h) fun us s1 ⟨vs,H1,I1,r1,Z⟩=>?_));obtain⟨v,w,e1,Z⟩:=Z;subst e1;obtain⟨U,R,rfl,rv,Y⟩:∃U R,us=[U,R]/\RelV v U/\RelV w R:=by
  cases r1 with
  |cons p q=>
   cases q with
   |cons p' q'=>
    cases q';exact⟨_,_,rfl,p,p'⟩
 refine aZ ?_ (by show 2<=sizeLine;decide);have I2:Inv X pins σ H1 {s1 with heap:=s1.heap.push { cls:=.type "tuple",data:=.seq [U,R].toArray} }:=I1.kept (t':=s1.toks) fun b o e=>aE _ e;rw[hw];refine aA (aC ?_);show wpAny (model X.prog X.w) X.A (do rule "assign.swapped-stores"; let g <-unpackItems (.ref s1.heap.objs.size) 2 none;assignInOrder [fun v=>bindName X.env y v,fun v=>bindName X.env x v] g.reverse;pure Flow.next) _ _ _;refine aA (wpAny_rule (aA (unpackItems_tuple (items:=#[U,R]) (I.ok.hd hc) (IsTup.new s1.heap _) fun h' hx'=>?_)));have I3:=I2.kept (h':=h') (t':=s1.toks) fun b o e=>hx' b o (aT (aG e)) e;show wpAny _ _ (assignInOrder [fun v=>bindName X.env y v,fun v=>bindName X.env x v] [R,U]>>=fun _=>pure Flow.next) _ _ _;refine aA (assignInOrder_cons (wpAny_bindName (KZ I3 hN hj (.inl hy) Y (fun s2 I4=>?_) (.inr hy))));refine assignInOrder_cons (wpAny_bindName (KZ I4 hN hi (.inl hx) rv (fun s3 I5=>assignInOrder_nil (aC ?_)) (.inr hx)));rw[List.set_comm _ _ (Ne.symm hij)]at I5;exact⟨_,H1,I5,Z⟩
end
section
variable{X:Cx}{pos:Pos}
def W5(c:TT)(tb:TS):TS:=fun D σ H=>∃W:Nat->St->Hp->Prop,(∃m,W m σ H)/\∀m σ H,W m σ H ->
 c σ H fun b H1=>if b=true then ∃N:St->Hp->Prop,(∀g H',N g H'->∃I,I<m/\W I g H')/\tb {D with nx:=N,ct:=N,bk:=D.nx} σ H1 else D.nx σ H1
theorem I0{c:Expr}{R:List Stmt}{tc:TT}{tb:TS}(hp:PassesOwn (model X.prog X.w) X.A X.env X.xe)(hc:PT X c tc)(hb:Ig X R tb):PS X (.While c R [] pos) (W5 tc tb):=by
 intro pins s σ H D I h;obtain⟨W,⟨m0,w0⟩,turn⟩:=h;refine wpAny_While (codeAny_whileLoop (fun n s'=>∃U H',Inv X pins U H' s'/\W n U H') ?_ m0 ⟨σ,H,I,w0⟩);rintro n s1 ⟨M,H1,I1,w1⟩;refine wpAny_passesOwn hp (A4 (hc pins s1 M H1 _ I1 (turn n M H1 w1)) fun b s2 ⟨H2,I2,q2⟩=>?_);cases b with
 |true=>
  obtain⟨N,hN,q2⟩:=q2;rw[if_pos rfl];refine wpAny_passesOwn hp (A4 (hb pins s2 M H2 _ I2 q2) fun f s3 Z=>?_);cases f with
  |next=>
   obtain⟨g,Y,I3,n3⟩:=Z;obtain⟨m',hm,w3⟩:=hN g Y n3;exact⟨m',hm,g,Y,I3,w3⟩
  |cont=>
   obtain⟨g,Y,I3,n3⟩:=Z;obtain⟨m',hm,w3⟩:=hN g Y n3;exact⟨m',hm,g,Y,I3,w3⟩
  |brk=>exact Z
  |ret v=>exact Z
 |false=>
  rw[if_neg aO];exact wpAny_execs_nil ⟨M,H2,I2,q2⟩
end
structure It where
 go:Nat->Hp->Prop
 Ec:Nat->Hp->V->Hp->Prop
 stop:Nat->Hp->Prop
def Jp(X:Cx)(pins:List (Addr×Obj))(H:Hp)(b:Addr):Prop :=
 H b=none/\b≠X.env.locals/\b ∉ X.fs/\(b∈X.ex\/X.s₀.heap.objs.size<=b)/\(∀x c,X.env.cells.lookup x=some c->c≠b)/\∀p∈X.pn++pins,p.1≠b
theorem Inv.Sg{X:Cx}{pins:List (Addr×Obj)}{σ:St}{H H':Hp}{s:Shared}{b:Addr}(I:Inv X pins σ H s)(g:s.heap.objs.size<=b)(hn:H' b=none):Jp X pins H' b:=by
 refine⟨hn,Nat.ne_of_gt (aN I.lt g),I.jo g,.inr (aU I.sz g),fun x c e z=>?_,fun p M z=>?_⟩
 .obtain⟨v,q⟩:=I.cell x c e;exact absurd (aN q.lt (by rw[z];exact g)) (Nat.lt_irrefl _)
 .exact absurd (aN (aG (I.pin p M).1) (by rw[z];exact g)) (Nat.lt_irrefl _)
structure Turn(P:Program)(w:World)(K:PySem.W.Frag)(tg:Expr)(J:It)(fp:List Addr)(it:Addr)(tn:Nat->Heap->Prop):Prop where
 mem:it∈fp
 obj:∀i h,tn i h->∀b∈fp,∃o,h.get? b=some o/\∀v,o.data≠.cell v
 keep:∀i h h',tn i h->(∀b∈fp,∀o,h.get? b=some o->h'.get? b=some o)->tn i h'
 item:∀(X:Cx),X.prog=P->X.w=w->X.K=K->X.calm=true->∀(i:Nat) (pins:List (Addr×Obj)) (s:Shared) (σ:St) (H:Hp) (E:Value->Shared->Prop),Inv X pins σ H s->(∀b∈fp,Jp X pins H b)->tn i s.heap->J.go i H ->
  wpAny (model P w) X.A (pyNext (.ref it)) (fun r s1=>∃u,r=some u /\
   wpAny (model P w) X.A (letOwnedTupleGo tg (.ref it) u) (fun _ s2=>∃x H',Inv X pins σ H' s2/\RelV x u/\J.Ec i H x H'/\tn (i+1) s2.heap/\∀b∈fp,H' b=none) E s1) E s
 done:∀(X:Cx),X.prog=P->X.w=w->X.K=K->X.calm=true->∀(i:Nat) (pins:List (Addr×Obj)) (s:Shared) (σ:St) (H:Hp) (E:Value->Shared->Prop),Inv X pins σ H s->(∀b∈fp,Jp X pins H b)->tn i s.heap->J.stop i H ->
  wpAny (model P w) X.A (pyNext (.ref it)) (fun r s1=>r=none/\Inv X pins σ H s1) E s
 self:∀(A:Around) (i:Nat) (s:Shared) (Q:Value->Shared->Prop) (E:Value->Shared->Prop),tn i s.heap->Q (.ref it) s->wpAny (model P w) A (pyIter (.ref it)) Q E s
abbrev TI:=St->Hp->(It->Hp->Prop)->Prop
def i9(X:Cx)(pins:List (Addr×Obj))(σ:St)(tg:Expr)(R:It->Hp->Prop)(g:Value)(s2:Shared):Prop :=
 ∃(it:Addr) (fp:List Addr) (tn:Nat->Heap->Prop) (J:It) (H':Hp),g=.ref it/\Inv X pins σ H' s2/\Turn X.prog X.w X.K tg J fp it tn/\tn 0 s2.heap/\(∀b∈fp,Jp X pins H' b)/\R J H'
def PI(X:Cx)(tg iter:Expr)(g:TI):Prop :=
 ∀(pins:List (Addr×Obj)) (s:Shared) (σ:St) (H:Hp) (R:It->Hp->Prop),Inv X pins σ H s->g σ H R ->
  wpAny (model X.prog X.w) X.A (eval iter X.env) (fun v s1=>wpAny (model X.prog X.w) X.A (pyIter v) (i9 X pins σ tg R) X.xe s1) X.xe s
theorem Ux{M:Model}{A:Around}{E:Value->Shared->Prop}{s:Shared}{tg:Expr}{it:Addr}{u:Value}{o:Obj}{n:String}{vs:Array Value}{Q:Unit->Shared->Prop}(I:s.heap.get? it=some o)(R:o.cls=.type n)(hd:o.data=.fields vs)
 (hn:["enumerate","zip","dict_itemiterator","dict_reverseitemiterator","odict_iterator","itertools.zip_longest","itertools.pairwise"].contains n=false)(g:Q () s):wpAny M A (letOwnedTupleGo tg (.ref it) u) Q E s:=by
 unfold letOwnedTupleGo;cases tg<;>first
  |exact aC g
  |(cases u<;>first
    |exact aC g
    |(refine aA (wpAny_load I ?_)
      rw[R,hd];show wpAny M A (if(["enumerate","zip","dict_itemiterator","dict_reverseitemiterator","odict_iterator","itertools.zip_longest","itertools.pairwise"].contains n&&vs[0]? == some (rawInt _))=true then _ else _) Q E s;rw[if_neg (by intro h;rw[hn,Bool.false_and]at h;cases h)];exact aC g))
def Tj(K:PySem.W.Frag)(a:Addr):It :=
 ⟨fun i H=>∃xs x,AO K H a xs/\xs[i]? = some x,fun i H x H'=>H'=H/\∀xs,AO K H a xs->xs[i]? = some x,fun i H=>∃xs,AO K H a xs/\xs.length<=i⟩
def T4(K:PySem.W.Frag)(a:Addr):It :=
 ⟨fun i H=>∃xs x,Af K H a xs/\xs[i]? = some x,fun i H x H'=>H'=H/\∀xs,Af K H a xs->xs[i]? = some x,fun i H=>∃xs,Af K H a xs/\xs.length<=i⟩
def Ui(lo:Int)(n:Nat):It:=⟨fun i _=>i<n,fun i H x H'=>H'=H/\x=.int (lo+i),fun i _=>n<=i⟩
theorem V6{P:Program}{w:World}{K:PySem.W.Frag}{tg:Expr}(a it:Addr):Turn P w K tg (Tj K a) [it] it (fun i h=>h.IsListIter it a i) where
 mem:=by simp
 obj:=fun i h st b hb=>by
  have e:b=it:=by simpa using hb
  subst e;obtain⟨o,e,c,d⟩:=st;exact⟨o,e,fun v z=>by rw[d]at z;cases z⟩
 keep:=fun i h h' st k=>st.at fun o e=>k it (by simp) o e
 item:=by
  intro X hP hw hK hc i pins s σ H E I hf st hg;subst hP hw hK;obtain⟨xs,x,hq,hx⟩:=hg;obtain⟨its,rv,p,hz⟩:=I.list hq;obtain⟨u,hu,ru⟩:=rv.get hx;obtain⟨f0,f1,f2,f3,f4,f5⟩:=hf it (by simp);refine wpAny_pyNext_list_item st p.isList (x:=u) (by simpa using hu) fun h' st' sb=>?_;have I1:Inv X pins σ H {s with heap:=h'}:=I.turned (t':=s.toks) (fun b o hb e=>(sb.2 b hb).trans e) f0 f1 f3 f4 f5;obtain⟨o,e,c,d⟩:=id st';exact⟨u,rfl,Ux (s:={s with heap:=h'}) e c d (by decide) ⟨x,H,I1,ru,⟨rfl,fun ys hy=>by rw[I.Sl hy hq];exact hx⟩,st',fun b hb=>(hf b hb).1⟩⟩
 done:=by
  intro X hP hw hK hc i pins s σ H E I hf st hg;subst hP hw hK;obtain⟨xs,hq,hx⟩:=hg;obtain⟨its,rv,p,hz⟩:=I.list hq;obtain⟨f0,f1,f2,f3,f4,f5⟩:=hf it (by simp);have hl:=rv.length;exact wpAny_pyNext_list_end (I.ok.hd hc) st p.isList (by simp;lia) fun h' eb=>⟨rfl,I.turned (t':=s.toks) (fun b o hb e=>eb b o hb e) f0 f1 f3 f4 f5⟩
 self:=fun _ _ _ _ _ st h=>wpAny_pyIter_listiter st h
theorem U1{P:Program}{w:World}{K:PySem.W.Frag}{tg:Expr}(a it:Addr):Turn P w K tg (T4 K a) [it] it (fun i h=>h.IsTupleIter it a i) where
 mem:=by simp
 obj:=fun i h st b hb=>by
  have e:b=it:=by simpa using hb
  subst e;obtain⟨o,e,c,d⟩:=st;exact⟨o,e,fun v z=>by rw[d]at z;cases z⟩
 keep:=fun i h h' st k=>st.at fun o e=>k it (by simp) o e
 item:=by
  intro X hP hw hK hc i pins s σ H E I hf st hg;subst hP hw hK;obtain⟨xs,x,hq,hx⟩:=hg;obtain⟨its,rv,p,hz⟩:=I.tuple hq;obtain⟨u,hu,ru⟩:=rv.get hx;obtain⟨f0,f1,f2,f3,f4,f5⟩:=hf it (by simp);refine wpAny_pyNext_tuple_item st (show s.heap.IsTuple a its.toArray from p) (x:=u) (by simpa using hu) fun h' st' sb=>?_;have I1:Inv X pins σ H {s with heap:=h'}:=I.turned (t':=s.toks) (fun b o hb e=>(sb.2 b hb).trans e) f0 f1 f3 f4 f5;obtain⟨o,e,c,d⟩:=id st';exact⟨u,rfl,Ux (s:={s with heap:=h'}) e c d (by decide) ⟨x,H,I1,ru,⟨rfl,fun ys hy=>by rw[I.XS hy hq];exact hx⟩,st',fun b hb=>(hf b hb).1⟩⟩
 done:=by
  intro X hP hw hK hc i pins s σ H E I hf st hg;subst hP hw hK;obtain⟨xs,hq,hx⟩:=hg;obtain⟨its,rv,p,hz⟩:=I.tuple hq;obtain⟨f0,f1,f2,f3,f4,f5⟩:=hf it (by simp);have hl:=rv.length;exact wpAny_pyNext_tuple_end (I.ok.hd hc) st (show s.heap.IsTuple a its.toArray from p) (by simp;lia) fun h' eb=>⟨rfl,I.turned (t':=s.toks) (fun b o hb e=>eb b o hb e) f0 f1 f3 f4 f5⟩
 self:=fun _ _ _ _ _ st h=>wpAny_pyIter_tupleiter st h
theorem Vf{P:Program}{w:World}{K:PySem.W.Frag}{tg:Expr}(it:Addr)(lo:Int)(n:Nat):Turn P w K tg (Ui lo n) [it] it (fun i h=>IsRangeIter h it (lo+(i:Nat)*1) ((n:Int)-(i:Nat)) 1) where
 mem:=by simp
 obj:=fun i h st b hb=>by
  have e:b=it:=by simpa using hb
  subst e;exact⟨_,st,fun v z=>by
   have z':Data.fields _=Data.cell v:=z;cases z'⟩
 keep:=fun i h h' st k=>k it (by simp) _ st
 item:=by
  intro X hP hw hK hc i pins s σ H E I hf st hg;subst hP hw hK;obtain⟨f0,f1,f2,f3,f4,f5⟩:=hf it (by simp);have W:=Walks.range (prog:=X.prog) (w:=X.w) (I.ok.hd hc) it lo 1 n;refine W.item i s _ _ hg st fun v h' tk hv st' kk=>?_;obtain⟨t,rfl⟩:=hv;have I1:Inv X pins σ H {s with heap:=h',toks:=tk}:=I.turned (fun b o hb e=>kk b o (by simpa using hb) e) f0 f1 f3 f4 f5;refine⟨_,rfl,Ux (s:={s with heap:=h',toks:=tk}) (n := "range_iterator") st' rfl rfl (by decide) ⟨.int (lo+i),H,I1,⟨t,?_⟩,⟨rfl,rfl⟩,st',fun b hb=>(hf b hb).1⟩⟩;rw[Int.mul_one]
 done:=by
  intro X hP hw hK hc i pins s σ H E I hf st hg;subst hP hw hK;obtain⟨f0,f1,f2,f3,f4,f5⟩:=hf it (by simp);exact wpAny_pyNext_range_end (I.ok.hd hc) st (by have:n<=i:=hg;lia) fun h' eb=>⟨rfl,I.turned (t':=s.toks) (fun b o hb e=>eb b o hb e) f0 f1 f3 f4 f5⟩
 self:=fun _ _ _ _ _ st h=>wpAny_pyIter_rangeiter st h
section
variable{X:Cx}{tg:Expr}
def ij(K:PySem.W.Frag)(tl:TE):TI:=fun σ H R=>tl σ H fun x H1=>∃a,x=.ref a/\(∃xs,AO K H1 a xs)/\R (Tj K a) H1
def jL(K:PySem.W.Frag)(tl:TE):TI:=fun σ H R=>tl σ H fun x H1=>∃a,x=.ref a/\(∃xs,Af K H1 a xs)/\R (T4 K a) H1
theorem Av{l:Expr}{tl:TE}(hl:PE X l tl):PI X tg l (ij X.K tl):=by
 intro pins s σ H R I h;refine A4 (hl pins s σ H _ I h) fun v s1 ⟨x,H1,g,M,U⟩=>?_;obtain⟨a,e,⟨xs,Z⟩,q⟩:=U;subst e;cases M;obtain⟨Y,rv,p,hz⟩:=g.list Z;refine wpAny_pyIter_list p.isList ?_;refine⟨s1.heap.objs.size,[s1.heap.objs.size],_,_,H1,rfl,g.kept (t':=s1.toks) fun b o e=>aE _ e,V6 a _,⟨_,Heap.get?_push_size _ rfl,rfl,rfl⟩,fun b hb=>?_,q⟩;have e:b=s1.heap.objs.size:=by simpa using hb
 subst e;exact g.Sg (aD _) (g.Ah.fresh (aD _))
theorem WW{l:Expr}{tl:TE}(hl:PE X l tl):PI X tg l (jL X.K tl):=by
 intro pins s σ H R I h;refine A4 (hl pins s σ H _ I h) fun v s1 ⟨x,H1,g,U,Y⟩=>?_;obtain⟨a,e,⟨xs,Z⟩,q⟩:=Y;subst e;cases U;obtain⟨M,rv,p,hz⟩:=g.tuple Z;refine wpAny_pyIter_tuple (show s1.heap.IsTuple a M.toArray from p) ?_;refine⟨s1.heap.objs.size,[s1.heap.objs.size],_,_,H1,rfl,g.kept (t':=s1.toks) fun b o e=>aE _ e,U1 a _,⟨_,Heap.get?_push_size _ rfl,rfl,rfl⟩,fun b hb=>?_,q⟩;have e:b=s1.heap.objs.size:=by simpa using hb
 subst e;exact g.Sg (aD _) (g.Ah.fresh (aD _))
theorem YZ{pins:List (Addr×Obj)}{σ:St}{H:Hp}{s:Shared}{R:It->Hp->Prop}{E:Value->Shared->Prop}{lo hi:Int}{t u v:Tok}{tk:Nat}(I:Inv X pins σ H s)(h1:-(2^62)<=lo)(Z:lo<2^62)(Y:-(2^62)<=hi)(U:hi<2^62)
 (q:R (Ui lo (hi-lo).toNat) H):wpAny (model X.prog X.w) X.A (pyIter (.ref s.heap.objs.size)) (i9 X pins σ tg R) E {s with heap:=s.heap.push { cls:=.type "range",data:=.fields #[.int lo t,.int hi u,.int 1 v]},toks:=tk}:=by
 refine wpAny_pyIter_range (IsRange.new ..) (small_one h1 Z Y U) ?_;have g:Inv X pins σ H {s with heap:=s.heap.push { cls:=.type "range",data:=.fields #[.int lo t,.int hi u,.int 1 v]},toks:=tk}:=I.kept fun b o e=>aE _ e;refine⟨(s.heap.push { cls:=.type "range",data:=.fields #[.int lo t,.int hi u,.int 1 v]}).objs.size,[(s.heap.push { cls:=.type "range",data:=.fields #[.int lo t,.int hi u,.int 1 v]}).objs.size],_,_,H,rfl,
  g.kept (t':=tk) fun b o e=>aE _ e,Vf _ lo (hi-lo).toNat,?_,fun b M=>?_,q⟩
 .have e1:lo+((0:Nat):Int)*1=lo:=by simp
  have e2:(((hi-lo).toNat:Nat):Int)-((0:Nat):Int)=Builtin.Range.rangeSize lo hi 1:=by rw[rangeSize_one];split<;>lia
  show IsRangeIter _ _ (lo+((0:Nat):Int)*1) ((((hi-lo).toNat:Nat):Int)-((0:Nat):Int)) 1;rw[e1,e2];exact aX _ rfl
 .have e:b=(s.heap.push { cls:=.type "range",data:=.fields #[.int lo t,.int hi u,.int 1 v]}).objs.size:=by simpa using M
  subst e;exact g.Sg (aD _) (g.Ah.fresh (aD _))
def iX(g:TA):TI:=fun σ H R=>g σ H fun vs H1=>∃j:Int,vs=[.int j]/\-(2^62)<=j/\j<2^62/\R (Ui 0 j.toNat) H1
theorem Cp{a:Expr}{M:TA}{p pos:Pos}(hg:Gl X "range")(hm:X.mg "range" = none)(ha:PA X [a] M)(hs:starEach [a] X.env=[(false,eval a X.env)]:=by rfl):PI X tg (.Call (.Name "range" p) [a] [] pos) (iX M):=by
 intro pins s σ H R I h;refine Call_ (GI I hg hm boot_range (PyProof.Rows.callWith_type1 (A4 (ha pos pins s σ H _ I h) fun us s1 ⟨vs,H1,I1,Y,g⟩=>?_) hs rfl));obtain⟨j,e,g,Z,q⟩:=g;subst e;cases Y with
 |cons r U=>
  cases U;obtain⟨t,rfl⟩:=r;exact call_range_1 (YZ I1 (by lia) (by lia) g Z (by simpa using q))
def jJ(U:TI)(g:TG)(tb:TS):TS:=fun D σ H=>U σ H fun J H1=>∃W:Nat->Nat->St->Hp->Prop,(∃m,W 0 m σ H1)/\∀i m σ H,W i m σ H ->
 (J.stop i H/\D.nx σ H)\/(J.go i H/\∃N:St->Hp->Prop,(∀I H',N I H'->∃R,R<m/\W (i+1) R I H')/\∀x H',J.Ec i H x H'->g x σ H' fun M Y=>tb {D with nx:=N,ct:=N,bk:=D.nx} M Y)
def Lu(fp:List Addr)(h:Heap):List (Addr×Obj):=fp.filterMap fun b=>(h.get? b).map fun o=>(b,o)
theorem ID{fp:List Addr}{h:Heap}{b:Addr}{o:Obj}(g:b∈fp)(e:h.get? b=some o):(b,o)∈Lu fp h:=List.mem_filterMap.mpr ⟨b,g,by rw[e];rfl⟩
theorem WT{fp:List Addr}{h:Heap}{p:Addr×Obj}(g:p∈Lu fp h):p.1∈fp/\h.get? p.1=some p.2:=by
 obtain⟨b,I,e⟩:=List.mem_filterMap.mp g;cases q:h.get? b with
 |none=>rw[q]at e;cases e
 |some o=>
  rw[q]at e;have M:(b,o)=p:=ae e;subst M;exact⟨I,q⟩
theorem Inv.pinned{pins:List (Addr×Obj)}{σ:St}{H:Hp}{s:Shared}{fp:List Addr}(I:Inv X pins σ H s)(hf:∀b∈fp,Jp X pins H b)(U:∀b∈fp,∃o,s.heap.get? b=some o/\∀v,o.data≠.cell v):Inv X (pins++Lu fp s.heap) σ H s :=
 I.Ue fun p R=>(aS.mp R).elim (fun z=>I.pin p (aj _ z)) fun z=>by
  obtain⟨g,e⟩:=WT z;obtain⟨Y,f1,f2,_⟩:=hf p.1 g;obtain⟨o,M,d⟩:=U p.1 g;rw[e]at M;cases M;exact⟨e,Y,f1,f2,d⟩
theorem Inv.KG{pins g:List (Addr×Obj)}{σ:St}{H:Hp}{s:Shared}(I:Inv X (pins++g) σ H s):Inv X pins σ H s:=I.Ue fun p M=>I.pin p (aj _ (bL _ M))
theorem BU{iter:Expr}{body:List Stmt}{wi:TI}{g:TG}{tb:TS}{pos:Pos}(hp:PassesOwn (model X.prog X.w) X.A X.env X.xe)(hc:X.calm=true)(hi:PI X tg iter wi)(hg:PG X tg g)(Z:Ig X body tb)
 (hs:∀x,foldedSetIterable iter X.env x=pure x:=by intro _;rfl):PS X (.For tg iter body [] pos) (jJ wi g tb):=by
 intro pins s σ H D I h;refine wpAny_For (A4 (hi pins s σ H _ I h) fun v s1 h1=>A4 h1 fun itv s2 h2=>?_) hs;obtain⟨it,fp,tn,J,H2,e,I2,T,st2,f2,W,⟨m0,w0⟩,turn⟩:=h2;subst e;have Y:∀ {H':Hp},(∀b∈fp,H' b=none)->∀b∈fp,Jp X pins H' b:=fun hn b Z=>⟨hn b Z,(f2 b Z).2⟩;refine codeAny_forLoop_any (fun n s'=>∃i U H',Inv X pins U H' s'/\tn i s'.heap/\(∀b∈fp,H' b=none)/\W i n U H') ?_ m0 ⟨0,σ,H2,I2,st2,fun b Z=>(f2 b Z).1,w0⟩;rintro n s3 ⟨i,R,H3,I3,st3,fr3,w3⟩;rcases turn i n R H3 w3 with ⟨stop,qn⟩|⟨go,N,hN,step⟩
 .refine wpAny_passesOwn hp (A4 (T.done X rfl rfl rfl hc i pins s3 R H3 X.xe I3 (Y fr3) st3 stop) fun r s4 ⟨hr,I4⟩=>?_);subst hr;exact wpAny_execs_nil ⟨R,H3,I4,qn⟩
 .refine wpAny_passesOwn hp (A4 (T.item X rfl rfl rfl hc i pins s3 R H3 X.xe I3 (Y fr3) st3 go) fun r s4 ⟨u,hr,h4⟩=>?_);subst hr;refine wpAny_passesOwn hp (A4 h4 fun _ s5 ⟨x,H5,I5,r5,y5,st5,fr5⟩=>?_);have I5':=I5.pinned (Y fr5) (T.obj _ _ st5);refine wpAny_passesOwn hp (A4 (hg _ s5 R H5 x u _ I5' r5 (step x H5 y5)) fun _ s6 ⟨σ6,H6,I6,q6⟩=>?_);refine wpAny_passesOwn hp (A4 (Z _ s6 σ6 H6 _ I6 q6) fun f s7 q7=>?_);have again:∀ {M:St} {H7:Hp},Inv X (pins++Lu fp s5.heap) M H7 s7->N M H7->∃m,m<n/\∃i U H',Inv X pins U H' s7/\tn i s7.heap/\(∀b∈fp,H' b=none)/\W i m U H':=fun {M H7} I7 n7=>by
   obtain⟨m',hm,w7⟩:=hN M H7 n7;refine⟨m',hm,i+1,M,H7,I7.KG,T.keep _ _ _ st5 fun b Z o e=>(I7.pin (b,o) (aj _ (aj _ (ID Z e)))).1,fun b Z=>?_,w7⟩;obtain⟨o,e,d⟩:=T.obj _ _ st5 b Z;exact(I7.pin (b,o) (aj _ (aj _ (ID Z e)))).2.1
  cases f with
  |next=>obtain⟨M,H7,I7,n7⟩:=q7;exact again I7 n7
  |cont=>obtain⟨M,H7,I7,n7⟩:=q7;exact again I7 n7
  |brk=>obtain⟨M,H7,I7,q7⟩:=q7;exact⟨M,H7,I7.KG,q7⟩
  |ret v=>obtain⟨x7,M,H7,I7,r7,q7⟩:=q7;exact⟨x7,M,H7,I7.KG,r7,q7⟩
end
theorem Bp{K:PySem.W.Frag}{a:Addr}{xs:List V}{g:TG}{tb:TS}{D:Ends}{σ:St}{H:Hp}(Pv:Nat->St->Hp->Prop)(h0:Pv 0 σ H)(hl:∀i σ H,i<=xs.length->Pv i σ H->AO K H a xs)
 (hs:∀i x σ H,xs[i]? = some x->Pv i σ H->g x σ H fun I U=>tb {D with nx:=Pv (i+1),ct:=Pv (i+1),bk:=D.nx} I U)(hd:∀σ H,Pv xs.length σ H->D.nx σ H) :
  ∃W:Nat->Nat->St->Hp->Prop,(∃m,W 0 m σ H)/\∀i m σ H,W i m σ H ->
   ((Tj K a).stop i H/\D.nx σ H)\/((Tj K a).go i H/\∃N:St->Hp->Prop,(∀M H',N M H'->∃Y,Y<m/\W (i+1) Y M H')/\∀x H',(Tj K a).Ec i H x H'->g x σ H' fun I U=>tb {D with nx:=N,ct:=N,bk:=D.nx} I U):=by
 refine⟨fun i m σ H=>m=xs.length-i/\i<=xs.length/\Pv i σ H,⟨xs.length,by simp,Nat.zero_le _,h0⟩,?_⟩;rintro i m σ H ⟨rfl,hi,p⟩;have q:=hl i σ H hi p;by_cases R:i<xs.length
 .refine .inr ⟨⟨xs,xs[i],q,by simp[R]⟩,Pv (i+1),fun M H' Z=>⟨xs.length-(i+1),by lia,rfl,R,Z⟩,fun x H' y=>?_⟩;obtain⟨e,y⟩:=y;subst e;exact hs i x σ _ (y xs q) p
 .have e:i=xs.length:=by lia
  subst e;exact .inl ⟨⟨xs,q,Nat.le_refl _⟩,hd σ H p⟩
theorem a8{K:PySem.W.Frag}{a:Addr}{xs:List V}{g:TG}{tb:TS}{D:Ends}{σ:St}{H:Hp}(Pv:Nat->St->Hp->Prop)(h0:Pv 0 σ H)(hl:∀i σ H,i<=xs.length->Pv i σ H->Af K H a xs)
 (hs:∀i x σ H,xs[i]? = some x->Pv i σ H->g x σ H fun I U=>tb {D with nx:=Pv (i+1),ct:=Pv (i+1),bk:=D.nx} I U)(hd:∀σ H,Pv xs.length σ H->D.nx σ H) :
  ∃W:Nat->Nat->St->Hp->Prop,(∃m,W 0 m σ H)/\∀i m σ H,W i m σ H ->
   ((T4 K a).stop i H/\D.nx σ H)\/((T4 K a).go i H/\∃N:St->Hp->Prop,(∀M H',N M H'->∃Y,Y<m/\W (i+1) Y M H')/\∀x H',(T4 K a).Ec i H x H'->g x σ H' fun I U=>tb {D with nx:=N,ct:=N,bk:=D.nx} I U):=by
 refine⟨fun i m σ H=>m=xs.length-i/\i<=xs.length/\Pv i σ H,⟨xs.length,by simp,Nat.zero_le _,h0⟩,?_⟩;rintro i m σ H ⟨rfl,hi,p⟩;have q:=hl i σ H hi p;by_cases R:i<xs.length
 .refine .inr ⟨⟨xs,xs[i],q,by simp[R]⟩,Pv (i+1),fun M H' Z=>⟨xs.length-(i+1),by lia,rfl,R,Z⟩,fun x H' y=>?_⟩;obtain⟨e,y⟩:=y;subst e;exact hs i x σ _ (y xs q) p
 .have e:i=xs.length:=by lia
  subst e;exact .inl ⟨⟨xs,q,Nat.le_refl _⟩,hd σ H p⟩
theorem Hh{lo:Int}{n:Nat}{g:TG}{tb:TS}{D:Ends}{σ:St}{H:Hp}(Pv:Nat->St->Hp->Prop)(h0:Pv 0 σ H)
 (hs:∀i σ H,i<n->Pv i σ H->g (.int (lo+i)) σ H fun I U=>tb {D with nx:=Pv (i+1),ct:=Pv (i+1),bk:=D.nx} I U)(hd:∀σ H,Pv n σ H->D.nx σ H) :
  ∃W:Nat->Nat->St->Hp->Prop,(∃m,W 0 m σ H)/\∀i m σ H,W i m σ H ->
   ((Ui lo n).stop i H/\D.nx σ H)\/((Ui lo n).go i H/\∃N:St->Hp->Prop,(∀M H',N M H'->∃Y,Y<m/\W (i+1) Y M H')/\∀x H',(Ui lo n).Ec i H x H'->g x σ H' fun I U=>tb {D with nx:=N,ct:=N,bk:=D.nx} I U):=by
 refine⟨fun i m σ H=>m=n-i/\i<=n/\Pv i σ H,⟨n,by simp,Nat.zero_le _,h0⟩,?_⟩;rintro i m σ H ⟨rfl,hi,p⟩;by_cases R:i<n
 .refine .inr ⟨R,Pv (i+1),fun M H' Z=>⟨n-(i+1),by lia,rfl,R,Z⟩,fun x H' y=>?_⟩;obtain⟨e,y⟩:=y;subst e y;exact hs i σ _ R p
 .have e:i=n:=by lia
  subst e;exact .inl ⟨aD _,hd σ H p⟩
theorem JR{c:TT}{tb:TS}{D:Ends}{σ:St}{H:Hp}(Pv:St->Hp->Prop)(I:St->Hp->Nat)(h0:Pv σ H)
 (U:∀σ H,Pv σ H->c σ H fun b H1=>if b=true then tb {D with nx:=fun g H'=>Pv g H'/\I g H'<I σ H,ct:=fun g H'=>Pv g H'/\I g H'<I σ H,bk:=D.nx} σ H1 else D.nx σ H1)
 (mono:∀σ H Q M,(∀b H1,Q b H1->M b H1)->c σ H Q->c σ H M):W5 c tb D σ H:=by
 refine⟨fun m σ H=>m=I σ H/\Pv σ H,⟨_,rfl,h0⟩,?_⟩;rintro m σ H ⟨rfl,p⟩;refine mono σ H _ _ (fun b H1 q=>?_) (U σ H p);cases b with
 |true=>exact⟨_,fun g H' ⟨R,l⟩=>⟨_,l,rfl,R⟩,q⟩
 |false=>exact q
abbrev R2:=V->V->Hp->VK->Prop
def Cn(X:Cx)(f:Value->Value->Sem Value)(r:R2):Prop :=
 ∀(pins:List (Addr×Obj)) (s:Shared) (σ:St) (H:Hp) (x y:V) (v u:Value) (Q:VK),Inv X pins σ H s->RelV x v->RelV y u->r x y H Q ->
  wpAny (model X.prog X.w) X.A (f v u) (EP X pins σ Q) X.xe s
def en(X:Cx)(f:Value->Sem Value)(r:V->Hp->VK->Prop):Prop :=
 ∀(pins:List (Addr×Obj)) (s:Shared) (σ:St) (H:Hp) (x:V) (v:Value) (Q:VK),Inv X pins σ H s->RelV x v->r x H Q ->
  wpAny (model X.prog X.w) X.A (f v) (EP X pins σ Q) X.xe s
def HN(X:Cx)(f:Value)(r:List V->Hp->VK->Prop):Prop :=
 ∀(pins:List (Addr×Obj)) (s:Shared) (σ:St) (H:Hp) (xs:List V) (us:List Value) (Q:VK),Inv X pins σ H s->Vals xs us->r xs H Q ->
  wpAny (model X.prog X.w) X.A (call f us) (EP X pins σ Q) X.xe s
def ZI(r:R2)(g tb:TE):TE:=fun σ H Q=>g σ H fun x H1=>tb σ H1 fun y I=>r x y I Q
def k8(r:V->Hp->VK->Prop)(g:TE):TE:=fun σ H Q=>g σ H fun x H1=>r x H1 Q
def rI(C:Int->Int->Prop)(g:Int->Int->V):R2:=fun x y H Q=>∃i j,x=.int i/\y=.int j/\C i j/\Q (g i j) H
def Py(g:Int->Int->V):R2:=fun x y H Q=>∃i j,x=.int i/\y=.int j/\Q (g i j) H
def rU(g:Int->V):V->Hp->VK->Prop:=fun x H Q=>∃i,x=.int i/\Q (g i) H
section
variable{X:Cx}{a b:Expr}{ta tb:TE}{pos:Pos}
theorem YO(ha:PE X a ta)(hb:PE X b tb){pins:List (Addr×Obj)}{s:Shared}{σ:St}{H:Hp}{R:V->V->Hp->Prop}(I:Inv X pins σ H s)
 (h:ta σ H fun x H1=>tb σ H1 fun y g=>R x y g){Q:Value->Shared->Prop}{f:Value->Value->Sem Value}
 (hf:∀v u s2 x y g,Inv X pins σ g s2->RelV x v->RelV y u->R x y g->wpAny (model X.prog X.w) X.A (f v u) Q X.xe s2) :
  wpAny (model X.prog X.w) X.A (eval a X.env) (fun v U=>wpAny (model X.prog X.w) X.A (eval b X.env) (fun u M=>wpAny (model X.prog X.w) X.A (f v u) Q X.xe M) X.xe U) X.xe s:=by
 refine A4 (ha pins s σ H _ I h) fun v s1 ⟨x,H1,I1,Z,q1⟩=>?_;refine A4 (hb pins s1 σ H1 _ I1 q1) fun u s2 ⟨y,g,I2,Y,q2⟩=>?_;exact hf v u s2 x y g I2 Z Y q2
theorem Aa{op:Operator}{r:R2}(R:Cn X (binaryOp op) r)(ha:PE X a ta)(U:PE X b tb):PE X (.BinOp a op b pos) (ZI r ta tb):=by
 intro pins s σ H Q I h;exact wpAny_BinOp (YO ha U I h fun v u s2 x y Z Y M g q=>R pins s2 σ Z x y v u Q Y M g q)
theorem QT{op:UnaryOp}{r:V->Hp->VK->Prop}(R:en X (unaryOp op) r)(ha:PE X a ta):PE X (.UnaryOp op a pos) (k8 r ta):=by
 intro pins s σ H Q I h;exact UnaryOp_ (A4 (ha pins s σ H _ I h) fun v s1 ⟨x,H1,U,g,M⟩=>R pins s1 σ H1 x v Q U g M)
theorem UQ{f:Value->Value->Sem Value}{C:Int->Int->Prop}{g:Int->Int->Int}
 (rule:∀(i j:Int) (t u:Tok) (s:Shared) (Q:Value->Shared->Prop) (E:Value->Shared->Prop),C i j->Q (.int (g i j) s.toks) {s with toks:=s.toks+1}->wpAny (model X.prog X.w) X.A (f (.int i t) (.int j u)) Q E s) :
  Cn X f (rI C fun i j=>.int (g i j)):=by
 intro pins s σ H x y v u Q I U R h;obtain⟨i,j,rfl,rfl,Y,q⟩:=h;obtain⟨t,rfl⟩:=U;obtain⟨M,rfl⟩:=R;exact rule i j t M s _ _ Y ⟨.int (g i j),H,I.tok _,⟨_,rfl⟩,q⟩
theorem eB{f:Value->Value->Sem Value}{g:Int->Int->Int}
 (rule:∀(i j:Int) (t u:Tok) (s:Shared) (Q:Value->Shared->Prop) (E:Value->Shared->Prop),Q (.int (g i j) s.toks) {s with toks:=s.toks+1}->wpAny (model X.prog X.w) X.A (f (.int i t) (.int j u)) Q E s) :
  Cn X f (Py fun i j=>.int (g i j)):=by
 intro pins s σ H x y v u Q I U R h;obtain⟨i,j,rfl,rfl,q⟩:=h;obtain⟨t,rfl⟩:=U;obtain⟨M,rfl⟩:=R;exact rule i j t M s _ _ ⟨.int (g i j),H,I.tok _,⟨_,rfl⟩,q⟩
theorem Xh{f:Value->Value->Sem Value}{g:Int->Int->Bool}
 (rule:∀(i j:Int) (t u:Tok) (s:Shared) (Q:Value->Shared->Prop) (E:Value->Shared->Prop),Q (.bool (g i j)) s->wpAny (model X.prog X.w) X.A (f (.int i t) (.int j u)) Q E s) :
  Cn X f (Py fun i j=>.bl (g i j)):=by
 intro pins s σ H x y v u Q I U R h;obtain⟨i,j,rfl,rfl,q⟩:=h;obtain⟨t,rfl⟩:=U;obtain⟨M,rfl⟩:=R;exact rule i j t M s _ _ ⟨.bl (g i j),H,I,rfl,q⟩
def kM(i j:Int):Prop:=0<j/\j<1073741824
def jN(i j:Int):Prop:=0<=j/\j<=1000000/\i.natAbs<2^64
def OA(i j:Int):Prop:=(-(2^64)<i/\i<2^64)\/(-(2^64)<j/\j<2^64)
theorem OA.ok{i j:Int}(h:OA i j):IntMulOk i j:=by
 rcases h with ⟨I,g⟩|⟨I,g⟩
 .exact .of_left (intBits_le_64 I g)
 .exact .of_right (intBits_le_64 I g)
theorem B2:Cn X (binaryOp .Add) (Py fun i j=>.int (i+j)):=eB fun _ _ _ _ _ _ _ q=>add_int q
theorem FW:Cn X (binaryOp .Sub) (Py fun i j=>.int (i-j)):=eB fun _ _ _ _ _ _ _ q=>sub_int q
theorem Ti:Cn X (binaryOp .FloorDiv) (rI kM fun i j=>.int (i / j)):=UQ fun i j _ _ _ _ _ g q=>by
 have M:(0:Int)<j:=g.1;have I:j<1073741824:=g.2;exact floordiv_int (by lia) (by rw[Int.fdiv_eq_ediv_of_nonneg i (by lia)];exact q) (.inl (PyProof.noPylong_small (by lia)))
theorem JQ:Cn X (binaryOp .Mod) (rI (fun _ j=>0<j) fun i j=>.int (i % j)):=UQ fun i j _ _ _ _ _ g q=>by
 have I:(0:Int)<j:=g;exact mod_int' (by lia) (by rw[Int.fmod_eq_emod_of_nonneg i (by lia)];exact q)
theorem L9:Cn X (binaryOp .Mod) (rI (fun _ j=>j≠0) fun i j=>.int (i.fmod j)):=UQ fun _ _ _ _ _ _ _ g q=>mod_int' g q
theorem SF:Cn X (binaryOp .Pow) (rI jN fun i j=>.int (i^j.toNat)):=UQ fun _ _ _ _ _ _ _ g q=>pow_int_small g.1 g.2.1 g.2.2 q
theorem kn{f:Value->Sem Value}{g:Int->Int}
 (rule:∀(i:Int) (t:Tok) (s:Shared) (Q:Value->Shared->Prop) (E:Value->Shared->Prop),Q (.int (g i) s.toks) {s with toks:=s.toks+1}->wpAny (model X.prog X.w) X.A (f (.int i t)) Q E s) :
  en X f (rU fun i=>.int (g i)):=by
 intro pins s σ H x v Q I M h;obtain⟨i,rfl,q⟩:=h;obtain⟨t,rfl⟩:=M;exact rule i t s _ _ ⟨.int (g i),H,I.tok _,⟨_,rfl⟩,q⟩
theorem NY:en X (unaryOp .USub) (rU fun i=>.int (-i)):=kn fun _ _ _ _ _ q=>neg_int q
end
def cu:V->V->Bool
 |.BM,.BM=>true|.BM,.int _=>true|.int _,.BM=>true|.BM,.bl _=>true|.bl _,.BM=>true|.BM,.str _=>true|.str _,.BM=>true
 |.int _,.int _=>true|.bl _,.bl _=>true|.str _,.str _=>true|.Lo _,.Lo _=>true
 |.int _,.str _=>true|.str _,.int _=>true|.bl _,.str _=>true|.str _,.bl _=>true
 |_,_=>false
def kl:R2:=fun x y H Q=>cu x y=true/\Q (.bl (decide (x=y))) H
def kW:R2:=fun x y H Q=>cu x y=true/\Q (.bl (!decide (x=y))) H
theorem UL{i j:Int}:decide (V.int i=V.int j)=(i==j):=by
 rw[Bool.eq_iff_iff];simp
theorem WR{i j:Bool}:decide (V.bl i=V.bl j)=(i==j):=by
 rw[Bool.eq_iff_iff];simp
theorem UZ{i j:Str}:decide (V.str i=V.str j)=(i==j):=by
 rw[Bool.eq_iff_iff];simp
theorem T3{i j:Array UInt8}:decide (V.Lo i=V.Lo j)=(i.toList==j.toList):=by
 rw[Bool.eq_iff_iff];cases i;cases j;simp
section
variable{X:Cx}{a b c:Expr}{ta tb:TE}{pos:Pos}
theorem BE{pins:List (Addr×Obj)}{σ:St}{H:Hp}{s:Shared}{Q:VK}{k g:Bool}(I:Inv X pins σ H s)(q:Q (.bl k) H)(e:k=g):EP X pins σ Q (.bool g) s:=by
 subst e;exact⟨.bl k,H,I,rfl,q⟩
theorem HG:Cn X (compareOp .Eq) kl:=by
 intro pins s σ H x y v u Q I U g h;obtain⟨R,q⟩:=h;cases x with
 |BM=>
  cases U;cases y with
  |BM=>cases g;exact PySem.EqNone.eq_none_none (BE I q (by simp))
  |bl j=>cases g;exact PySem.EqNone.eq_none_bool (BE I q (by simp))
  |int j=>obtain⟨M,rfl⟩:=g;exact PySem.EqNone.eq_none_int (BE I q (by simp))
  |str j=>obtain⟨M,rfl⟩:=g;exact PySem.EqNone.eq_none_str (BE I q (by simp))
  |_=>exact absurd (show false=true from R) aO
 |bl i=>
  cases U;cases y with
  |BM=>cases g;exact PySem.EqNone.eq_bool_none (BE I q (by simp))
  |bl j=>cases g;exact eq_bool (BE I q WR)
  |str j=>obtain⟨M,rfl⟩:=g;exact PySem.EqMixed.eq_bool_str (BE I q (by simp))
  |_=>exact absurd (show false=true from R) aO
 |int i=>
  obtain⟨t,rfl⟩:=U;cases y with
  |BM=>cases g;exact PySem.EqNone.eq_int_none (BE I q (by simp))
  |int j=>obtain⟨M,rfl⟩:=g;exact eq_int (BE I q UL)
  |str j=>obtain⟨M,rfl⟩:=g;exact PySem.EqMixed.eq_int_str (BE I q (by simp))
  |_=>exact absurd (show false=true from R) aO
 |str i=>
  obtain⟨t,rfl⟩:=U;cases y with
  |BM=>cases g;exact PySem.EqNone.eq_str_none (BE I q (by simp))
  |bl j=>cases g;exact PySem.EqMixed.eq_str_bool (BE I q (by simp))
  |int j=>obtain⟨M,rfl⟩:=g;exact PySem.EqMixed.eq_str_int (BE I q (by simp))
  |str j=>obtain⟨M,rfl⟩:=g;exact eq_str (BE I q UZ)
  |_=>exact absurd (show false=true from R) aO
 |Lo i=>
  obtain⟨t,rfl⟩:=U;cases y with
  |Lo j=>obtain⟨M,rfl⟩:=g;exact PySem.W.eq_bytes (BE I q T3)
  |_=>exact absurd (show false=true from R) aO
 |_=>cases y<;>exact absurd (show false=true from R) aO
theorem Fq:Cn X (compareOp .NotEq) kW:=by
 intro pins s σ H x y v u Q I U g h;obtain⟨R,q⟩:=h;cases x with
 |BM=>
  cases U;cases y with
  |BM=>cases g;exact PySem.EqNone.ne_none_none (BE I q (by simp))
  |bl j=>cases g;exact PySem.EqNone.ne_none_bool (BE I q (by simp))
  |int j=>obtain⟨M,rfl⟩:=g;exact PySem.EqNone.ne_none_int (BE I q (by simp))
  |str j=>obtain⟨M,rfl⟩:=g;exact PySem.EqNone.ne_none_str (BE I q (by simp))
  |_=>exact absurd (show false=true from R) aO
 |bl i=>
  cases U;cases y with
  |BM=>cases g;exact PySem.EqNone.ne_bool_none (BE I q (by simp))
  |bl j=>cases g;exact ne_bool (BE I q (bP not WR))
  |str j=>obtain⟨M,rfl⟩:=g;exact PySem.EqMixed.ne_bool_str (BE I q (by simp))
  |_=>exact absurd (show false=true from R) aO
 |int i=>
  obtain⟨t,rfl⟩:=U;cases y with
  |BM=>cases g;exact PySem.EqNone.ne_int_none (BE I q (by simp))
  |int j=>obtain⟨M,rfl⟩:=g;exact ne_int (BE I q (bP not UL))
  |str j=>obtain⟨M,rfl⟩:=g;exact PySem.EqMixed.ne_int_str (BE I q (by simp))
  |_=>exact absurd (show false=true from R) aO
 |str i=>
  obtain⟨t,rfl⟩:=U;cases y with
  |BM=>cases g;exact PySem.EqNone.ne_str_none (BE I q (by simp))
  |bl j=>cases g;exact PySem.EqMixed.ne_str_bool (BE I q (by simp))
  |int j=>obtain⟨M,rfl⟩:=g;exact PySem.EqMixed.ne_str_int (BE I q (by simp))
  |str j=>obtain⟨M,rfl⟩:=g;exact ne_str (BE I q (bP not UZ))
  |_=>exact absurd (show false=true from R) aO
 |Lo i=>
  obtain⟨t,rfl⟩:=U;cases y with
  |Lo j=>obtain⟨M,rfl⟩:=g;exact PySem.W.ne_bytes (BE I q (bP not T3))
  |_=>exact absurd (show false=true from R) aO
 |_=>cases y<;>exact absurd (show false=true from R) aO
theorem L6:Cn X (compareOp .Lt) (Py fun i j=>.bl (decide (i<j))):=Xh fun _ _ _ _ _ _ _ q=>lt_int q
theorem L3:Cn X (compareOp .Gt) (Py fun i j=>.bl (decide (j<i))):=Xh fun _ _ _ _ _ _ _ q=>gt_int q
theorem ZO:Cn X (compareOp .GtE) (Py fun i j=>.bl (decide (j<=i))):=Xh fun _ _ _ _ _ _ _ q=>ge_int q
theorem XC:Cn X (compareOp .Is) (fun x y H Q=>y=.BM/\Q (.bl (decide (x=.BM))) H):=by
 intro pins s σ H x y v u Q I g M h;obtain⟨rfl,q⟩:=h;cases M;refine is_none_gen (BE I q ?_);cases x<;>first
  |(cases g;rfl)
  |(obtain⟨t,rfl⟩:=g;rfl)
theorem Cn.or{f:Value->Value->Sem Value}{r R:R2}(h:Cn X f r)(h':Cn X f R):Cn X f (fun x y H Q=>r x y H Q\/R x y H Q):=by
 intro pins s σ H x y v u Q I M g q;rcases q with q|q
 .exact h pins s σ H x y v u Q I M g q
 .exact h' pins s σ H x y v u Q I M g q
theorem Ay(b:Expr){op:CmpOp}(h:op≠.In:=by decide)(g:op≠.NotIn:=by decide):behindInMarks op b=false:=by
 have M:(op==CmpOp.In)=false:=by cases op<;>first|rfl|exact absurd rfl h
 have I:(op==CmpOp.NotIn)=false:=by cases op<;>first|rfl|exact absurd rfl g
 cases b<;>simp[behindInMarks,M,I]
theorem IW{op:CmpOp}{r:R2}(R:Cn X (compareOp op) r)(ha:PE X a ta)(U:PE X b tb)(hm:behindInMarks op b=false):PE X (.Compare a [op] [b] pos) (ZI r ta tb):=by
 intro pins s σ H Q I h;exact wpAny_Compare1 (YO ha U I h fun v u s2 x y Z Y M g q=>R pins s2 σ Z x y v u Q Y M g q) hm
def gx(t:TE):TT:=fun σ H Q=>t σ H fun x H'=>∃k,x=.bl k/\Q k H'
theorem Aw{op:CmpOp}{r:R2}(ho:Cn X (compareOp op) r)(ha:PE X a ta)(hb:PE X b tb)(hm:behindInMarks op b=false):PT X (.Compare a [op] [b] pos) (gx (ZI r ta tb)):=by
 intro pins s σ H Q I h;refine wpAny_isTrue_Compare1 (A4 (ha pins s σ H _ I h) fun v s1 ⟨x,H1,I1,R,Z⟩=>A4 (hb pins s1 σ H1 _ I1 Z) fun u s2 ⟨y,H2,I2,M,Y⟩=>
  A4 (ho pins s2 σ H2 x y v u _ I2 R M Y) fun c s3 ⟨z,H3,I3,g,k,e,U⟩=>?_) hm
 subst e;cases g;exact bj ⟨H3,I3,U⟩
theorem Ky:(sizeLine:Nat)<2^63:=by rw[sizeLine_eq];decide
theorem Vo:Cn X (binaryOp .Add) (fun x y H Q=>∃i j,x=.str i/\y=.str j/\i.length+j.length<=sizeLine/\Q (.str (i++j)) H):=by
 intro pins s σ H x y v u Q I R M h;obtain⟨i,j,rfl,rfl,U,q⟩:=h;obtain⟨t,rfl⟩:=R;obtain⟨g,rfl⟩:=M;exact add_str (fun g Y=>⟨.str (i++j),H,I.tok _,⟨_,rfl⟩,q⟩) U
theorem vals1{x:V}{us:List Value}(r:Vals [x] us):∃u,us=[u]/\RelV x u:=by
 cases r with
 |cons I g=>cases g;exact⟨_,rfl,I⟩
theorem vals2{x y:V}{us:List Value}(r:Vals [x,y] us):∃u g,us=[u,g]/\RelV x u/\RelV y g:=by
 cases r with
 |cons U R=>
  cases R with
  |cons M I=>cases I;exact⟨_,_,rfl,U,M⟩
theorem ND:HN X (.builtin "abs") (fun xs H Q=>∃i,xs=[.int i]/\Q (.int (if i<0 then -i else i)) H):=by
 intro pins s σ H xs us Q I r h;obtain⟨i,rfl,q⟩:=h;obtain⟨u,rfl,t,rfl⟩:=vals1 r;exact call_abs_int fun u g=>⟨.int (if i<0 then -i else i),H,I.tok _,⟨_,rfl⟩,q⟩
theorem XJ(M:X.calm=true):HN X (.builtin "max") (fun xs H Q=>∃i j,xs=[.int i,.int j]/\Q (.int (if j > i then j else i)) H):=by
 intro pins s σ H xs us Q I r h;obtain⟨i,j,rfl,q⟩:=h;obtain⟨u,R,rfl,⟨t,rfl⟩,⟨Y,rfl⟩⟩:=vals2 r;refine max_two_ints (I.ok.hd M) fun h' U k=>⟨_,H,I.kept k,?_,q⟩;by_cases g:j > i
 .rw[if_pos g,if_pos g];exact⟨_,rfl⟩
 .rw[if_neg g,if_neg g];exact⟨_,rfl⟩
end
structure Xv(h:Heap)(x dx C:Addr)(mA:Str->Option Value):Prop where
 obj:h.get? x=some (PySem.W.instObj C dx)
 ns:h.Ns1 dx mA
 ne:dx≠x
theorem WJ{h:Heap}{dx:Addr}{mA:Str->Option Value}(n:h.Ns1 dx mA):∃od,h.get? dx=some od/\∀name,PySem.W.lookIn name od=some (mA name):=by
 obtain⟨o,I,Z,R,hd,U,_,hm⟩:=n;refine⟨o,R,fun name=>?_⟩;have e:=hm name;unfold nsFind findBy at e;rw[<-Array.find?_toList]at e;unfold PySem.W.lookIn;rw[hd];dsimp only;split
 .rename_i y q;rw[q]at e;exact bP some e
 .rename_i q;rw[q]at e;have a:I.toList.any (·.refKey)=false:=by
   rw[List.any_eq_false];intro y M;obtain⟨z,t,g⟩:=U y (Array.mem_toList_iff.mp M);simp[DictEntry.refKey,g]
  have Y:¬I.toList.any (·.refKey)=true:=by rw[a];exact aO
  rw[if_neg Y];exact bP some e
theorem Xv.look{h:Heap}{x dx C:Addr}{mA:Str->Option Value}(I:Xv h x dx C mA):∃od,PySem.W.InstAt h x (PySem.W.instObj C dx) C (some od)/\∀name,PySem.W.lookIn name od=some (mA name) :=
 let⟨od,g,M⟩:=WJ I.ns
 ⟨od,⟨I.obj,rfl,rfl,g⟩,M⟩
theorem Ie.some_of{v:V}{o:Option Value}(r:Ie (some v) o):∃u,o=some u/\RelV v u:=by
 cases o with
 |none=>exact(show False from r).elim
 |some u=>exact⟨u,rfl,r⟩
section
variable{P:Program}{w:World}{H:Hp}{h:Heap}{a C dx:Addr}{fs:List (Str×V)}
theorem Z3(Ah:Cq P w H h)(e:H a=some (.ins C dx fs)):∃mA,Xv h a dx C mA/\(∀f,Ie (fs.lookup f) (mA f))/\PySem.Within mA (fs.map (·.1))/\fs.length<=1000/\H dx=some (.own a):=by
 obtain⟨d,z,ne,g,mA,n,r,q⟩:=(show Bq P w H h a (.ins C dx fs) from Ah a _ e);exact⟨mA,⟨g,n,ne⟩,r,q,z,d⟩
end
structure UP(K:PySem.W.Frag)(C:Addr):Prop where
 pg:PySem.W.plainGet K C Str.empty=true
 hd:PySem.W.hasDictIn K C=true
 po:PySem.W.plainOver K C=true
 sa:PySem.W.findIn K (.ref C) "__setattr__" = some (some (.builtin "object.__setattr__"))
theorem UP.get{K:PySem.W.Frag}{C:Addr}(c:UP K C)(f:Str):PySem.W.plainGet K C f=true:=c.pg
section
variable{X:Cx}{pins:List (Addr×Obj)}{σ:St}{H:Hp}{s:Shared}{A:Around}{E:Value->Shared->Prop}{Q:Value->Shared->Prop}{c:Value}{b:Bool}
inductive GL(K:PySem.W.Frag)(H:Hp):V->Value->Prop where
 |BM:GL K H .BM (.type "NoneType")
 |bl (x:Bool):GL K H (.bl x) (.type "bool")
 |int (i:Int):GL K H (.int i) (.type "int")
 |str (x:Str):GL K H (.str x) (.type "str")
 |T8 (x:UInt64):GL K H (.T8 x) (.type "float")
 |lst {a:Addr} {xs:List V} (e:H a=some (.lst xs)):GL K H (.ref a) (.type "list")
 |JK {a:Addr} {o:Obj} {xs:List V} (e:H a=some (.JK o (.lst xs))):GL K H (.ref a) (.type "list")
 |tup {a:Addr} {xs:List V} (e:H a=some (.tup xs)):GL K H (.ref a) (.type "tuple")
 |dK {a:Addr} {kvs:List (Key×V)} (e:H a=some (.dK kvs)):GL K H (.ref a) (.type "dict")
 |dT {a:Addr} {kvs:List (List Key×V)} (e:H a=some (.dT kvs)):GL K H (.ref a) (.type "dict")
 |ins {a C dx:Addr} {fs:List (Str×V)} (e:H a=some (.ins C dx fs)) (cl:UP K C) (ha:PySem.W.findIn K (.ref C) "__class__" = some (some (.builtin "object.__class__")))
   (hn:PySem.W.specialIn K (.builtin "object.__class__") "__get__" = some (some (.builtin "getset_descriptor.__get__"))) (htk:PySem.W.takesIn K (.builtin "object.__class__")=some true)
   (hm:PySem.W.mroIn K C (.type "object")=some true):GL K H (.ref a) (.ref C)
theorem Wy{x:V}{u t:Value}(I:Inv X pins σ H s)(g:RelV x u)(ty:GL X.K H x t)(e:PySem.W.kitOne X.K t c=some b)(h:∀tk,Q (.bool b) {s with toks:=tk}) :
  wpAny (model X.prog X.w) A (call (.builtin "isinstance") [u,c]) Q E s:=by
 cases ty with
 |BM=>cases (show u=Value.none from g);exact bK PySem.W.kitx_none I.Hf True.intro e (fun z=>nomatch z) h
 |bl y=>cases (show u=Value.bool y from g);exact bK PySem.W.kitx_bool I.Hf True.intro e (fun z=>nomatch z) h
 |int i=>obtain⟨t,q⟩:=(show ∃t,u=Value.int i t from g);cases q;exact bK PySem.W.kitx_int I.Hf True.intro e (fun z=>nomatch z) h
 |str y=>obtain⟨t,q⟩:=(show ∃t,u=Value.str y t from g);cases q;exact bK PySem.W.kitx_str I.Hf True.intro e (fun z=>nomatch z) h
 |T8 y=>obtain⟨t,q⟩:=(show ∃t,u=Value.float y t from g);cases q;exact bK PySem.W.kitx_float I.Hf True.intro e (fun z=>nomatch z) h
 | @lst a xs M=>
  cases (show u=Value.ref a from g);obtain⟨_,_,n,_,R⟩:=(show Bq X.prog X.w H s.heap a (.lst xs) from I.Ah a _ M);exact bK PySem.W.kitx_list I.Hf ⟨_,R,rfl⟩ e (fun z=>nomatch z) h
 | @JK a Y xs M=>
  cases (show u=Value.ref a from g);obtain⟨_,_,_,n,_,R⟩:=(show Bq X.prog X.w H s.heap a (.JK Y (.lst xs)) from I.Ah a _ M);exact bK PySem.W.kitx_list I.Hf ⟨_,R,rfl⟩ e (fun z=>nomatch z) h
 | @tup a xs M=>
  cases (show u=Value.ref a from g);obtain⟨_,_,_,p⟩:=(show Bq X.prog X.w H s.heap a (.tup xs) from I.Ah a _ M);obtain⟨o,R,U,_⟩:=p;exact bK PySem.W.kitx_tuple I.Hf ⟨o,R,U⟩ e (fun z=>nomatch z) h
 | @dK a kvs M=>
  cases (show u=Value.ref a from g);obtain⟨_,_,vs,_,p⟩:=(show Bq X.prog X.w H s.heap a (.dK kvs) from I.Ah a _ M);obtain⟨o,Z,ep,R,U,_⟩:=p;exact bK PySem.W.kitx_dict I.Hf ⟨o,R,U.1⟩ e (fun z=>nomatch z) h
 | @dT a kvs M=>
  cases (show u=Value.ref a from g);obtain⟨_,_,xs,_,o,Z,ep,R,U,_⟩:=(show Bq X.prog X.w H s.heap a (.dT kvs) from I.Ah a _ M);exact bK PySem.W.kitx_dict I.Hf ⟨o,R,U.1⟩ e (fun z=>nomatch z) h
 | @ins a C dx fs M cl ha hn htk hm=>
  cases (show u=Value.ref a from g);obtain⟨mA,O,_⟩:=Z3 I.Ah M;obtain⟨od,J,_⟩:=O.look;exact bK (PySem.W.kitx_own (cl.get _) cl.hd ha hn htk hm) I.Hf J e (fun z=>nomatch z) h
end
structure Dr(k:Nat)(A:Around):Prop where
 hd:A.handled=none
 dp:A.depth+3*k+5<recursionLimit
 un:A.units+16*k+200<cLine
theorem Dr.mono{j k:Nat}{A:Around}(r:Dr k A)(h:j<=k:=by decide):Dr j A:=⟨r.hd,by have:=r.dp;lia,by have:=r.un;lia⟩
theorem Dr.deeper{k:Nat}{A:Around}(r:Dr (k+1) A)(env:Env):Dr k (A.deeper env) :=
 ⟨r.hd,by have:=r.dp;show A.depth+1+3*k+5<_;lia,by have:=r.un;show A.units+3+16*k+200<_;lia⟩
theorem Dr.depth{k:Nat}{A:Around}(r:Dr k A):A.depth<recursionLimit:=by have:=r.dp;lia
theorem Dr.units{k:Nat}{A:Around}(r:Dr k A):A.units+64<cLine:=by have:=r.un;lia
def jy:TA:=fun _ H Q=>Q [] H
def gX(g:TE)(tr:TA):TA:=fun σ H Q=>g σ H fun x H1=>tr σ H1 fun xs I=>Q (x::xs) I
section
variable{X:Cx}{e:Expr}{es:List Expr}{te:TE}{t:TA}{pos:Pos}
theorem AB:PA X [] jy:=fun _ _ _ _ H Q I h=>Calls.spliced_nil ⟨[],H,I,.nil,h⟩
theorem AA(ha:PE X e te)(Z:PA X es t)(Y:starEach (e::es) X.env=(false,eval e X.env)::starEach es X.env:=by rfl):PA X (e::es) (gX te t):=by
 intro pos pins s σ H Q I h;rw[Y];show wpAny _ _ (spliced ((false,eval e X.env)::backTo pos (starEach es X.env))) _ _ s;refine Calls.spliced_cons (A4 (ha pins s σ H _ I h) fun u s1 ⟨x,H1,I1,M,U⟩=>?_);exact A4 (Z pos pins s1 σ H1 _ I1 U) fun us s2 ⟨xs,H2,I2,g,R⟩=>⟨x::xs,H2,I2,.cons M g,R⟩
def kO(t:TA):TE:=fun σ H Q=>t σ H fun xs H1=>xs.length<=sizeLine/\∀p,H1 p=none->Q (.ref p) (upd H1 p (.tup xs))
def jT(t:TA):TE:=fun σ H Q=>t σ H fun xs H1=>xs.length<=sizeLine/\∀p,H1 p=none->Q (.ref p) (upd H1 p (.lst xs))
theorem EE{M}(h:PA X es t):PE X (.Tuple es M pos) (kO t):=by
 intro pins s σ H Q I R;refine wpAny_Tuple_spliced (A4 (h pos pins s σ H _ I R) fun us s1 ⟨xs,H1,g,r,z,q⟩=>⟨by rw[<-r.length];exact z,?_⟩);have hf:H1 s1.heap.objs.size=none:=g.Ah.fresh (aD _);refine⟨.ref s1.heap.objs.size,upd H1 s1.heap.objs.size (.tup xs),g.laid (t':=s1.toks) (fun b u e=>aE _ e) (aD _) ?_,rfl,q _ hf⟩;exact⟨z,us,r,⟨_,Heap.get?_push_size _ rfl,rfl,_,rfl⟩⟩
theorem CA(h:PA X es t):PE X (.List es pos) (jT t):=by
 intro pins s σ H Q I M;refine wpAny_List_spliced (A4 (h pos pins s σ H _ I M) fun us s1 ⟨xs,H1,g,r,z,q⟩=>⟨by rw[<-r.length];exact z,?_⟩);have hf:H1 s1.heap.objs.size=none:=g.Ah.fresh (aD _);refine⟨.ref s1.heap.objs.size,upd H1 s1.heap.objs.size (.lst xs),g.laid (t':=s1.toks) (fun b u e=>aE _ e) (aD _) ?_,rfl,q _ hf⟩;exact⟨z,us,0,r,Heap.get?_push_size _ rfl⟩
end
abbrev Sp:=List V->Hp->VK->XK->Prop
abbrev He:=List Env->Hp->Shared->XK->Value->Shared->Prop
structure Uw(P:Program)(w:World)(K:PySem.W.Frag)(mg:Str->Option Value)(base:Heap)(A:Around)(outer:List Env)(s:Shared)(H:Hp):Prop where
 frames:A.frames=some outer
 mod:Mod K mg base
 bs:∀b o,base.get? b=some o->s.heap.get? b=some o/\H b=none
 P5:base.objs.size<=s.heap.objs.size
 JD:s.heap.FunFrames base outer
 UY:∀b∈Kq outer,H b=none
 Ah:Cq P w H s.heap
 bare:AllBare s.gens
 kt:KTb mg H
def CE(outer:List Env)(P:Program)(w:World)(H:Hp)(s:Shared)(Q:VK)(u:Value)(s':Shared):Prop :=
 ∃v H',s'.os=s.os/\AllBare s'.gens/\Un (Kq outer) [] H H' s.heap s'.heap/\Cq P w H' s'.heap/\RelV v u/\Q v H'
def CR(CX:He)(outer:List Env)(P:Program)(w:World)(H:Hp)(s:Shared)(Q:VK)(E:XK)(r:Result)(s':Shared):Prop :=
 match r with
 |.ok (.ret u)=>CE outer P w H s Q u s'
 |.ok _=>False
 |.error e=>CX outer H s E e s'
structure AL(P:Program)(w:World)(K:PySem.W.Frag)(mg:Str->Option Value)(base:Heap)(CX:He)(k:Nat)(f:Addr)(fd:FuncData)(ps:List Str)(sp:Sp):Prop where
 len:∀vs H Q E,sp vs H Q E->vs.length=ps.length
 run:∀(A:Around) (outer:List Env) (s:Shared) (H:Hp) (args:Args) (us:List Value) (vs:List V) (Q:VK) (E:XK),Dr k A->Uw P w K mg base A outer s H->BindsTo s fd args (ps.zip us)->Vals vs us->sp vs H Q E ->
  codeAny (model P w) A (.call (.ref f) args) (CR CX outer P w H s Q E) s
theorem AL.mono{P:Program}{w:World}{K:PySem.W.Frag}{mg:Str->Option Value}{base:Heap}{CX:He}{j k:Nat}{f:Addr}{fd:FuncData}{ps:List Str}{sp:Sp}(F:AL P w K mg base CX j f fd ps sp)(h:j<=k:=by decide) :
  AL P w K mg base CX k f fd ps sp:=⟨F.len,fun A outer s H args us vs Q E g=>F.run A outer s H args us vs Q E (g.mono h)⟩
theorem AL.imp{P:Program}{w:World}{K:PySem.W.Frag}{mg:Str->Option Value}{base:Heap}{CX:He}{k:Nat}{f:Addr}{fd:FuncData}{ps:List Str}{sp g:Sp}(F:AL P w K mg base CX k f fd ps sp)
 (h:∀vs H Q E,g vs H Q E->sp vs H Q E):AL P w K mg base CX k f fd ps g :=
 ⟨fun vs H Q E q=>F.len vs H Q E (h _ _ _ _ q),fun A outer s H args us vs Q E R U Y I M=>F.run A outer s H args us vs Q E R U Y I (h _ _ _ _ M)⟩
section
variable{X:Cx}{pins:List (Addr×Obj)}{σ:St}{H:Hp}{s s':Shared}
theorem Inv.kE(I:Inv X pins σ H s):Uw X.prog X.w X.K X.mg X.base X.A X.stack s H :=
 ⟨I.ok.frames,I.ok.mod,I.bs,Nat.le_trans I.ok.P5 I.sz,I.stack,I.Uj,I.Ah,I.bare,I.kt⟩
theorem Inv.after{Q:VK}{u:Value}(I:Inv X pins σ H s)(h:CE X.stack X.prog X.w H s Q u s'):EP X pins σ Q u s':=by
 obtain⟨v,H',os,bare,un,Ah,r,q⟩:=h;obtain⟨R,g,d,t,M⟩:=s';obtain rfl:M=s.os:=os;exact⟨v,H',I.call (h':=R) (g':=g) (d':=d) (t':=t) (ch:=[]) un Ah bare (fun b z=>absurd z (by simp)),r,q⟩
end
def ZL(sp:Sp)(g:List V)(E:XK)(t:TA):TE:=fun σ H Q=>t σ H fun vs H1=>sp (vs++g) H1 Q E
def Binds(K:PySem.W.Frag)(fd:FuncData)(ps:List Str)(ds:List Value):Prop :=
 ∀(s:Shared) (us:List Value),K.In s.heap->(us++ds).length=ps.length->BindsTo s fd ⟨us,[]⟩ (ps.zip (us++ds))
theorem Binds.all{K:PySem.W.Frag}{fd:FuncData}{ps:List Str}(h:∀us:List Value,us.length=ps.length->bindArgs fd ⟨us,[]⟩=pure (ps.zip us)):Binds K fd ps []:=fun s us _ g=>by
 rw[List.append_nil]at g ⊢;exact .of_eq (h us g)
def Passes(CX:He)(X:Cx)(E:XK):Prop:=∀(pins:List (Addr×Obj)) (σ:St) (H:Hp) (s:Shared) (e:Value) (g:Shared),Inv X pins σ H s->CX X.stack H s E e g->X.xe e g
section
variable{X:Cx}{CX:He}{k:Nat}{f:Addr}{fd:FuncData}{ps:List Str}{sp:Sp}{dvs:List V}{ds:List Value}{E:XK}{x:Str}{p pos:Pos}{e:Expr}{es:List Expr}{t:TA}
theorem dI{pins:List (Addr×Obj)}{σ:St}{H:Hp}{s:Shared}{Q:VK}{us:List Value}{vs:List V}(F:AL X.prog X.w X.K X.mg X.base CX k f fd ps sp)(Y:Dr k X.A)(hb:Binds X.K fd ps ds)(hd:Vals dvs ds)(U:Passes CX X E)
 (I:Inv X pins σ H s)(r:Vals vs us)(h:sp (vs++dvs) H Q E):wpAny (model X.prog X.w) X.A (call (.ref f) us) (EP X pins σ Q) X.xe s:=by
 have M:Vals (vs++dvs) (us++ds):=r.append hd;have Z:(us++ds).length=ps.length:=by rw[<-M.length];exact F.len _ _ _ _ h
 refine wpAny_call (codeAny_mono (F.run X.A X.stack s H ⟨us,[]⟩ (us++ds) (vs++dvs) Q E Y I.kE (hb s us I.Hf Z) M h) fun r R g=>?_);cases r with
 |error e=>exact U pins σ H s e R I g
 |ok fl=>
  cases fl with
  |ret u=>exact I.after g
  |next=>exact False.elim g
  |brk=>exact False.elim g
  |cont=>exact False.elim g
theorem b8(F:AL X.prog X.w X.K X.mg X.base CX k f fd ps sp)(Y:Dr k X.A)(hg:Gl X x)(hm:X.mg x=some (.ref f))(Z:PySem.W.keepIn X.K (.ref f)=true)(hb:Binds X.K fd ps ds)(hd:Vals dvs ds)(U:Passes CX X E)
 (ha:PA X (e::es) t)(M:(x==("__debug__" : Str))=false:=by decide)(he:starEach (e::es) X.env=(false,eval e X.env)::starEach es X.env:=by rfl)(g:(backTo pos (starEach es X.env)).any (·.1)=false:=by rfl) :
  PE X (.Call (.Name x p) (e::es) [] pos) (ZL sp dvs E t):=by
 intro pins s σ H Q I h;refine wpAny_Call_Name_kw (UR I hg hm ?_ M);refine PySem.W.callWith_K (h₀:=X.base) I.ok.mod.d7 Z (A4 (ha pos pins s σ H _ I h) fun us s1 ⟨vs,H1,R,r,q⟩=>⟨R.Hf,?_⟩) he g;exact dI F Y hb hd U R r q
end
structure Ab(N P:List Str)(sc:Scope):Prop where
 kind:sc.kind=.function
 co:sc.isCoroutine=false
 gen:sc.isGenerator=false
 nd:N.Nodup
 pre:N.take P.length=P
 par:∀x∈P,sc.names.lookup x=some .local\/sc.names.lookup x=some .cell
 eZ:∀y∈sc.names,y.2≠.free
theorem Pd{kindOf:Str->Option NameKind}{x:Str}:∀ {binds:List (Str×Value)} {m:Str->Option Value},(∀v,(x,v) ∉ binds)->bindL kindOf binds m x=m x
 |[],_,_=>rfl
 |(n,v)::r,m,h=>by
  unfold bindL;rw[Pd fun w g=>h w (aM _ g)];split
  .have:x≠n:=by rintro rfl;exact h v aR
   simp[this]
  .rfl
theorem O8{kindOf:Str->Option NameKind}{x:Str}:∀ {binds:List (Str×Value)} {m:Str->Option Value},(∀v,(x,v) ∉ binds)->bindC kindOf binds m x=m x
 |[],_,_=>rfl
 |(n,v)::r,m,h=>by
  unfold bindC;rw[O8 fun w g=>h w (aM _ g)];split
  .rfl
  .have:x≠n:=by rintro rfl;exact h v aR
   simp[this]
theorem PF{kindOf:Str->Option NameKind}{x:Str}{v:Value}:∀ {P:List Str} {vs:List Value} {i:Nat} {m:Str->Option Value},P.Nodup->P[i]? = some x->vs[i]? = some v->kindOf x=some .local ->
  bindL kindOf (P.zip vs) m x=some v
 |[],_,_,_,_,h,_,_=>by simp at h
 |_::_,[],_,_,_,_,h,_=>by simp at h
 |p::P,w::vs,0,m,nd,I,g,M=>by
  simp at I g;subst I;subst g;show bindL kindOf ((p,w)::P.zip vs) m p=_;unfold bindL;rw[Pd fun v R=>(bx.mp nd).1 (bC R).1,if_pos M];simp
 |p::P,w::vs,i+1,m,nd,I,g,M=>by
  show bindL kindOf ((p,w)::P.zip vs) m x=_;unfold bindL;exact PF (i:=i) (bx.mp nd).2 (by simpa using I) (by simpa using g) M
theorem Pe{kindOf:Str->Option NameKind}{x:Str}{v:Value}:∀ {P:List Str} {vs:List Value} {i:Nat} {m:Str->Option Value},P.Nodup->P[i]? = some x->vs[i]? = some v->kindOf x≠some .local ->
  bindC kindOf (P.zip vs) m x=some v
 |[],_,_,_,_,h,_,_=>by simp at h
 |_::_,[],_,_,_,_,h,_=>by simp at h
 |p::P,w::vs,0,m,nd,I,g,M=>by
  simp at I g;subst I;subst g;show bindC kindOf ((p,w)::P.zip vs) m p=_;unfold bindC;rw[O8 fun v R=>(bx.mp nd).1 (bC R).1,if_neg M];simp
 |p::P,w::vs,i+1,m,nd,I,g,M=>by
  show bindC kindOf ((p,w)::P.zip vs) m x=_;unfold bindC;exact Pe (i:=i) (bx.mp nd).2 (by simpa using I) (by simpa using g) M
def start(N:List Str)(vs:List V):St:=vs.map some++List.replicate (N.length-vs.length) none
def LN(CX:He)(P:Program)(w:World)(K:PySem.W.Frag)(mg:Str->Option Value)(base:Heap)(N:List Str)(qual:Str)(scope:Scope)(f:Addr)(cd:Value)(A:Around)(outer:List Env)(s:Shared)(H:Hp)(E:XK):Cx where
 prog:=P
 w:=w
 K:=K
 mg:=mg
 base:=base
 A:=A.deeper (envOfC qual scope s.heap.objs.size f cd)
 N:=N
 s₀:=s
 H₀:=H
 env:=envOfC qual scope s.heap.objs.size f cd
 outer:=outer
 stack:=envOfC qual scope s.heap.objs.size f cd::outer
 ex:=[]
 calm:=true
 fn:=fun _=>true
 pn:=[]
 xe:=fun e s'=>wpAny (model P w) (A.deeper (envOfC qual scope s.heap.objs.size f cd)) (leaving (envOfC qual scope s.heap.objs.size f cd) e) (fun _ s''=>CX outer H s E e s'') (fun e' s''=>CX outer H s E e' s'') s'
theorem Q7{sc:Scope}{n:Nat}{x:Str}(h:sc.names.lookup x=some .cell):∃c,(cellsFrom n sc.names []).lookup x=some c:=by
 have q:=PySem.W.cellsFrom_some sc.names n [] (.inl h);exact Option.isSome_iff_exists.mp q
theorem We{CX:He}{P:Program}{w:World}{K:PySem.W.Frag}{mg:Str->Option Value}{base:Heap}{N ps:List Str}{qual:Str}{scope:Scope}{f:Addr}{cd:Value}{A:Around}{outer:List Env}{s s1:Shared}{H:Hp}{E:XK}{us:List Value}{vs:List V}
 (S:Ab N ps scope)(hd:A.handled=none)(I:Uw P w K mg base A outer s H)(hl:vs.length=ps.length)(r:Vals vs us)
 (x:InCallC s s.heap.objs.size (bindL (envOfC qual scope s.heap.objs.size f cd).kindOf (ps.zip us) fun _=>none) (cellsFrom (s.heap.objs.size+1) scope.names []) (bindC (envOfC qual scope s.heap.objs.size f cd).kindOf (ps.zip us) fun _=>none) s1) :
  Inv (LN CX P w K mg base N qual scope f cd A outer s H E) [] (start N vs) H s1:=by
 have hpl:ps.length<=N.length:=by have:=bP List.length S.pre;rw[List.length_take]at this;lia
 obtain⟨Z,tk,rfl,hk⟩:=x.done;have M:∀b:Addr,b ∉ (LN CX P w K mg base N qual scope f cd A outer s H E).ex:=fun b z=>absurd (show b∈([]:List Addr) from z) (by simp);refine⟨⟨I.mod,S.kind,rfl,rfl,Nat.le_refl _,fun y z c Z g=>?_,fun y R=>?_,fun y c _ h=>?_,fun _=>hd,Around.frames_deeper I.frames,.inr ⟨rfl,rfl⟩,fun b z=>absurd z (M b),I.bs,I.P5,fun b _ _=>M b,fun b z=>absurd z (M b),I.JD,I.UY,I.kt⟩,
  rfl,I.bare,Un.kept hk,⟨_,x.toInCall.ns,fun i y v Z g h3=>?_⟩,fun y c h=>⟨_,x.cell y c h⟩,I.Ah.fresh (aD _),fun y c h=>?_,fun p Y=>absurd (show p∈([]:List (Addr×Obj)) from Y) (by simp),I.Ah.kept hk,?_⟩
 .exact name_of_addr x.apart (PySem.mem_of_lookup Z) (PySem.mem_of_lookup g)
 .have R:scope.names.lookup y=some .cell\/scope.names.lookup y=some .free:=R;rcases R with R|R
  .exact Q7 R
  .exact absurd rfl (S.eZ _ (PySem.mem_of_lookup R))
 .exact bZ (x.above y c (PySem.mem_of_lookup h))
 .have hi:i<vs.length:=by
   unfold start at g;by_cases hi:i<vs.length
   .exact hi
   .rw[List.getElem?_append_right (by simpa using hi)]at g;rw[List.getElem?_replicate]at g;split at g<;>cases g
  have ha:vs[i]? = some v:=by
   unfold start at g;rw[List.getElem?_append_left (by simpa using hi),List.getElem?_map]at g;cases e:vs[i]? with
   |none=>rw[e]at g;cases g
   |some a=>rw[e]at g;cases g;rfl
  obtain⟨u,hu,rv⟩:=r.get ha;have Y:ps[i]? = some y:=by
   rw[<-S.pre,List.getElem?_take_of_lt (by lia)];exact Z
  have U:ps.Nodup:=by rw[<-S.pre];exact S.nd.sublist (List.take_sublist _ _)
  refine⟨u,rv,?_⟩;rcases S.par y (aI Y) with k|k
  .exact .inl ⟨k,PF U Y hu k⟩
  .obtain⟨c,e⟩:=Q7 (n:=s.heap.objs.size+1) k;refine .inr ⟨.inl k,c,e,?_⟩;have q:=x.cell y c e;rw[Pe U Y hu (by show scope.names.lookup y≠_;rw[k];decide)]at q;exact q
 .exact I.Ah.fresh (bZ (x.above y c (PySem.mem_of_lookup h)))
 .unfold start;show _=N.length;rw[List.length_append,List.length_map,List.length_replicate]
  lia
theorem hV{CX:He}{P:Program}{w:World}{K:PySem.W.Frag}{mg:Str->Option Value}{base:Heap}{k:Nat}{f:Addr}{name qual:Str}{params:Arguments}{g:List Stmt}{scope:Scope}{dV kV doc pm cdv ct oc:Value}{an od:Option Addr}
 {osl:Array (Option Value)}{N ps:List Str}{sp:Sp}(lk:K.lookup f=some ⟨oc,od,.func (PySem.W.fnOf name qual params g scope dV kV doc pm an cdv ct),osl⟩)(hcd:PySem.W.codeIn K cdv qual=true)(S:Ab N ps scope)
 (len:∀vs H Q E,sp vs H Q E->vs.length=ps.length)
 (U:∀(A:Around) (outer:List Env) (s:Shared) (H:Hp) (vs:List V) (Q:VK) (E:XK),Dr k (A.deeper (envOfC qual scope s.heap.objs.size f cdv))->sp vs H Q E ->
   ∃t,Ig (LN CX P w K mg base N qual scope f cdv A outer s H E) g t/\t { nx:=fun _ H'=>Q .BM H',rt:=Q} (start N vs) H) :
  AL P w K mg base CX (k+1) f (PySem.W.fnOf name qual params g scope dV kV doc pm an cdv ct) ps sp:=by
 refine⟨len,fun A outer s H args us vs Q E hr e0 hb r Z=>?_⟩;have hl:=len _ _ _ _ Z;have KX:K.In s.heap:=e0.mod.d7.keeps fun b o e=>(e0.bs b o e).1;have lim:s.heap.NoLimit:=e0.mod.nolimit.keeps fun b o e=>(e0.bs b o e).1;have R:∀y∈ps.zip us,scope.names.lookup y.1=some .local\/(scope.names.lookup y.1=some .cell/\((cellsFrom (s.heap.objs.size+1) scope.names []).lookup y.1).isSome=true):=fun⟨n,v⟩ hy=>by
  rcases S.par n (bC hy).1 with q|q
  .exact .inl q
  .exact .inr ⟨q,PySem.W.cellsFrom_some _ _ _ (.inl q)⟩
 refine codeAny_call_function hr.depth (KX _ _ lk) rfl S.co S.gen rfl (PySem.W.codeRec_of KX hcd) (hb _ _ _ _ ?_);refine wpAny_newFunctionEnv_cells S.kind R fun env he s1 x=>?_;subst he;refine⟨lim.keeps x.toInCall.keep,codeAny_func ?_⟩;obtain⟨t,ht,hq⟩:=U A outer s H vs Q E (hr.deeper _) Z;have I:Inv (LN CX P w K mg base N qual scope f cdv A outer s H E) [] (start N vs) H s1:=We S hr.hd e0 hl r x;refine ak (ht [] s1 (start N vs) H _ I hq) (fun fl s' Y=>?_) fun e s' Y=>Y;have fin:∀ {M:St} {H':Hp} {v:V} {u:Value},Inv (LN CX P w K mg base N qual scope f cdv A outer s H E) [] M H' s'->RelV v u->Q v H'->CE outer P w H s Q u s' :=
  fun {M H' v u} J rv q=>⟨v,H',J.os,J.bare,J.base,J.Ah,rv,q⟩
 cases fl with
 |ret u=>
  obtain⟨v,M,H',J,rv,q⟩:=Y;exact fin J rv q
 |next=>
  obtain⟨M,H',J,q⟩:=Y;exact fin (v:=V.BM) (u:=Value.none) J rfl q
 |brk=>
  obtain⟨_,_,_,q⟩:=Y;exact False.elim q
 |cont=>
  obtain⟨_,_,_,q⟩:=Y;exact False.elim q
section
variable{X:Cx}{x:Str}{p pos:Pos}{e:Expr}{es:List Expr}{t:TA}{id T:String}{r:List V->Hp->VK->Prop}
def i6(r:List V->Hp->VK->Prop)(t:TA):TE:=fun σ H Q=>t σ H fun vs H1=>r vs H1 Q
theorem Ad(hc:HN X (.builtin id) r)(Z:Gl X x)(hm:X.mg x=none)(Y:bootBuiltins x=some (.builtin id))(ha:PA X (e::es) t)(hn:x ≠ "__name__":=by decide)(M:(x==("__debug__" : Str))=false:=by decide)
 (he:starEach (e::es) X.env=(false,eval e X.env)::starEach es X.env:=by rfl)(g:(backTo pos (starEach es X.env)).any (·.1)=false:=by rfl):PE X (.Call (.Name x p) (e::es) [] pos) (i6 r t):=by
 intro pins s σ H Q I h;refine wpAny_Call_Name_kw (GI I Z hm Y ?_ hn M);exact PyProof.Rows.callWith_builtin1 (A4 (ha pos pins s σ H _ I h) fun us s1 ⟨vs,H1,I1,R,U⟩=>hc pins s1 σ H1 vs us Q I1 R U) he g
theorem Wq(hc:HN X (.type T) r)(Z:Gl X x)(hm:X.mg x=none)(Y:bootBuiltins x=some (.type T))(ha:PA X (e::es) t)(hn:x ≠ "__name__":=by decide)(M:(x==("__debug__" : Str))=false:=by decide)
 (he:starEach (e::es) X.env=(false,eval e X.env)::starEach es X.env:=by rfl)(g:(backTo pos (starEach es X.env)).any (·.1)=false:=by rfl):PE X (.Call (.Name x p) (e::es) [] pos) (i6 r t):=by
 intro pins s σ H Q I h;refine wpAny_Call_Name_kw (GI I Z hm Y ?_ hn M);exact PyProof.Rows.callWith_type1 (A4 (ha pos pins s σ H _ I h) fun us s1 ⟨vs,H1,I1,R,U⟩=>hc pins s1 σ H1 vs us Q I1 R U) he g
end
end L2
namespace HT
open PySem PyProof.Rows
section
variable{prog:Program}{w:World}{A:Around}{E:Value->Shared->Prop}{s:Shared}
theorem Zo{t b:Addr}{vs g:List Value}{Q:Value->Shared->Prop}(ht:IsTup s.heap t vs.toArray)(hb:IsTup s.heap b g.toArray)(hv:vs≠[])
 (h1:g=[]->Q (.ref t) s)(h2:g≠[]->Q (.ref s.heap.objs.size) {s with heap:=s.heap.push { cls:=.type "tuple",data:=.seq (vs++g).toArray} })
 (hsz:vs.length+g.length<=sizeLine):wpAny (model prog w) A (binaryOp .Add (.ref t) (.ref b)) Q E s:=by
 obtain⟨⟨cls,dd,data,sl⟩,ho,hc,n,hd⟩:=id ht;obtain⟨⟨cls2,Y,data2,M⟩,I,U,n2,R⟩:=id hb;simp only at hc hd U R;subst hc hd U R;have e:vs.toArray++g.toArray=(vs++g).toArray:=by simp
 by_cases Z:g=[]
 .exact concat_meets ⟨_,ho,rfl⟩ ⟨_,I,rfl⟩ noFill_tuple_add seq_tuple_add PySem.F.slot_tuple_add PySem.F.entry_tuple_add (PySem.F.args_tuple_add_2 _ _)
   (tuple_addW1 t b vs.toArray g.toArray n n2 dd Y sl M (by simpa using hv) (by simp[Z])) ⟨ho,I,h1 Z⟩
 .refine concat_meets ⟨_,ho,rfl⟩ ⟨_,I,rfl⟩ noFill_tuple_add seq_tuple_add PySem.F.slot_tuple_add PySem.F.entry_tuple_add (PySem.F.args_tuple_add_2 _ _)
   (tuple_addW2 t b vs.toArray g.toArray n n2 dd Y sl M (by simpa using hv) (by simpa using Z) (by rw[List.size_toArray,List.size_toArray];exact hsz)) ⟨ho,I,?_⟩
  rw[e];exact h2 Z
def BH(n d:Nat):Option Int->Nat
 |none=>d
 |some v=>if v<0 then(v+(n:Int)).toNat else min v.toNat n
theorem MY(n d:Nat):BH n d none=d:=rfl
theorem J2(n d k:Nat):BH n d (some (k:Int))=min k n:=by
 show(if(k:Int)<0 then((k:Int)+(n:Int)).toNat else min (k:Int).toNat n)=min k n;rw[if_neg (by lia),Int.toNat_natCast]
theorem dj(n d:Nat)(hd:d<=n)(o:Option Int):BH n d o<=n:=by
 cases o with
 |none=>exact hd
 |some v=>
  show(if v<0 then(v+(n:Int)).toNat else min v.toNat n)<=n;by_cases g:v<0
  .rw[if_pos g];lia
  .rw[if_neg g];exact Nat.min_le_right _ _
theorem T6(v:Int)(n d:Nat):(if v<0 then max (v+(n:Int)) 0 else min v (n:Int))=((BH n d (some v):Nat):Int):=by
 show(if v<0 then max (v+(n:Int)) 0 else min v (n:Int))=(((if v<0 then(v+(n:Int)).toNat else min v.toNat n):Nat):Int);by_cases g:v<0
 .simp only[if_pos g];lia
 .simp only[if_neg g];lia
theorem Vh(lo hi:Option Int)(n:Nat):Builtin.Slice.sliceAdjust lo hi 1 (n:Int)=(((BH n 0 lo:Nat):Int),((BH n n hi:Nat):Int)):=by
 have g:¬((1:Int)<0):=by lia
 unfold Builtin.Slice.sliceAdjust;simp only[g,if_false];refine Prod.ext ?_ ?_
 .cases lo with
  |none=>rfl
  |some v=>exact T6 v n 0
 .cases hi with
  |none=>rfl
  |some v=>exact T6 v n n
theorem VX(i j:Nat):Builtin.Slice.slicePlaces (i:Int) (j:Int) 1=j-i:=by
 unfold Builtin.Slice.slicePlaces;have g:(1:Int) > 0:=by lia
 simp only[g,if_true,Int.ediv_one];split<;>lia
theorem Ni{v:Value}{o:Option Int}{Q:Option Int->Shared->Prop}(p:IsPart v o)(h:Q o s):wpAny (model prog w) A (Builtin.Slice.slicePartIndex v) Q E s:=by
 cases p with
 |none=>exact slicePart_none h
 |int i t=>exact slicePart_int h
theorem Ma{sl:Addr}{R M:Value}{lo hi:Option Int}{n:Nat}{Q:Int×Int×Nat->Shared->Prop}(Z:s.heap.IsSliceOf sl R M .none)(Y:IsPart R lo)(U:IsPart M hi)
 (h:Q (((BH n 0 lo:Nat):Int),1,BH n n hi-BH n 0 lo) s):wpAny (model prog w) A (Builtin.Slice.sliceApplied (.ref sl) (pure (n:Int))) Q E s:=by
 obtain⟨os,g,hcs,I⟩:=id Z;unfold Builtin.Slice.sliceApplied Builtin.Slice.sliceFields;refine aA (aA (aq g I (x:=R) rfl (aA (aq g I (x:=M) rfl (aA (aq g I (x:=.none) rfl (aC ?_)))))));refine aA (slicePart_none ?_);show wpAny _ _ (if((1:Int)==0)=true then _ else _) _ _ s;rw[if_neg (by decide)];refine aA (Ni Y (aA (Ni U (aA (aC ?_)))));show wpAny _ _ (match Builtin.Slice.sliceAdjust lo hi 1 (n:Int) with|(lo,hi)=>pure (lo,(1:Int),Builtin.Slice.slicePlaces lo hi 1)) _ _ s;rw[Vh lo hi n];show wpAny _ _ (pure (((BH n 0 lo:Nat):Int),(1:Int),Builtin.Slice.slicePlaces ((BH n 0 lo:Nat):Int) ((BH n n hi:Nat):Int) 1)) _ _ s;rw[VX];exact aC h
theorem Xn(xs:Array Value)(i k:Nat):((List.range k).filterMap fun(m:Nat)=>xs[((i:Int)+(m:Int)*1).toNat]?).toArray=((xs.toList.drop i).take k).toArray:=by
 have e:(fun(m:Nat)=>xs[((i:Int)+(m:Int)*1).toNat]?)=fun m=>xs[i+m]? := by
  funext m
  have:((i:Int)+(m:Int)*1).toNat=i+m:=by lia
  rw[this]
 rw[e];have:=pick_run xs i k;rw[List.filterMap_map]at this;have g:((fun x=>xs[x]?) ∘ fun x=>i+x)=fun m=>xs[i+m]?:=rfl;rw[g]at this;rw[this]
theorem MG{t sl:Addr}{items:Array Value}{vl Z:Value}{lo hi:Option Int}{Q:Value->Shared->Prop}(I:IsTup s.heap t items)(hs:s.heap.IsSliceOf sl vl Z .none)(pl:IsPart vl lo)(pu:IsPart Z hi)
 (hw:¬(BH items.size 0 lo=0/\BH items.size items.size hi=items.size))
 (h:Q (.ref s.heap.objs.size) {s with heap:=s.heap.push { cls:=.type "tuple",data:=.seq ((items.toList.drop (BH items.size 0 lo)).take (BH items.size items.size hi-BH items.size 0 lo)).toArray} })
 (hsz:items.size<=sizeLine):wpAny (model prog w) A (getItem (.ref t) (.ref sl)) Q E s:=by
 have g:sizeOk (.seq ((items.toList.drop (BH items.size 0 lo)).take (BH items.size items.size hi-BH items.size 0 lo)).toArray):=by
  show((items.toList.drop (BH items.size 0 lo)).take (BH items.size items.size hi-BH items.size 0 lo)).toArray.size<=sizeLine;rw[List.size_toArray,List.length_take,List.length_drop,Array.length_toList]
  lia
 have hj:BH items.size items.size hi<=items.size:=dj _ _ (aD _) hi;obtain⟨os,M,U,hds⟩:=id hs;have Y:s.TypeIs (.ref sl) "slice" := ⟨os,M,U⟩;unfold getItem
 try with_reducible refine bM ?_
 first|refine aA (aC ?_)|skip
 refine aA (wpAny_sequenceKey I.typeIs (by decide) ?_);refine aA (ar (name:=Str.ofString "__getitem__") I.typeIs PyProof.Rows.slot_tuple_getitem
  (az PyProof.Rows.slot_tuple_getitem I.typeIs entry_tuple_getitem ?_ (args_tuple_getitem _ _)))
 show wpAny _ _ (Builtin.Tuple.tupleItemsOf (.ref t)>>=_) _ _ s;refine aA (tupleItemsOf_ I ?_);refine aA (wpAny_typeOf Y ?_);rw[if_pos (by decide)];refine aA (Ma hs pl pu ?_);have R:¬((((BH items.size 0 lo:Nat):Int)==0&&(1:Int)==1&&(BH items.size items.size hi-BH items.size 0 lo)==items.size)=true):=by
  intro q;rw[Bool.and_eq_true,Bool.and_eq_true]at q;have q1:((BH items.size 0 lo:Nat):Int)=0:=eq_of_beq q.1.1;have q2:BH items.size items.size hi-BH items.size 0 lo=items.size:=eq_of_beq q.2;exact hw ⟨by lia,by lia⟩
 show wpAny _ _ (if(((BH items.size 0 lo:Nat):Int)==0&&(1:Int)==1&&(BH items.size items.size hi-BH items.size 0 lo)==items.size)=true then _ else _) _ _ s;rw[if_neg R,Xn]
 first
  |exact aA (m:=Builtin.Tuple.tupleExact _) (aZ (aC ⟨_,rfl,wpAny_pure h⟩) g)
  |exact aA (m:=Builtin.Tuple.tupleExact _) (aZ (aA (aC (aC ⟨_,rfl,wpAny_pure h⟩))) g)
  |exact aA (aA (m:=Builtin.Tuple.tupleExact _) (aZ (aC (aC ⟨_,rfl,wpAny_pure h⟩)) g))
  |exact aA (aA (m:=Builtin.Tuple.tupleExact _) (aZ (aC ⟨_,rfl,wpAny_pure h⟩) g))
end
end HT
namespace L2
open PySem PySem.Spec PyProof.Rows
abbrev TO:=St->Hp->(Option Int->Hp->Prop)->Prop
def PO(X:Cx)(e:Option Expr)(t:TO):Prop :=
 ∀(pins:List (Addr×Obj)) (s:Shared) (σ:St) (H:Hp) (Q:Option Int->Hp->Prop),Inv X pins σ H s->t σ H Q ->
  wpAny (model X.prog X.w) X.A (evalPart e X.env) (fun u g=>∃o H',Inv X pins σ H' g/\IsPart u o/\Q o H') X.xe s
def cG:TO:=fun _ H Q=>Q none H
def gU(t:TE):TO:=fun σ H Q=>t σ H fun x H1=>∃i,x=.int i/\Q (some i) H1
theorem intsAre_of{ns:List Int}:∀ {us:List Value},Vals (ns.map V.int) us->IntsAre us ns:=by
 induction ns with
 |nil=>intro us r;rw[List.map_nil]at r;cases r;exact .nil
 |cons n ns M=>
  intro us r;rw[List.map_cons]at r;cases r with
  |cons I g=>
   obtain⟨t,e⟩:=I;subst e;exact .cons n t (M g)
section
variable{X:Cx}{e:Expr}{te:TE}{lo hi:Option Expr}{tl th:TO}{pos p2:Pos}
theorem KA:PO X none cG:=by
 intro pins s σ H Q I h;rw[evalPart_none];exact aC ⟨none,H,I,.none,h⟩
theorem J4(h:PE X e te):PO X (some e) (gU te):=by
 intro pins s σ H Q I R;rw[evalPart_some];refine A4 (h pins s σ H _ I R) fun u s1 ⟨x,H1,U,g,M⟩=>?_;obtain⟨i,rfl,q⟩:=M;obtain⟨t,rfl⟩:=g;exact⟨some i,H1,U,.int i t,q⟩
def gE(X:Cx)(r:V->Option Int->Option Int->Hp->VK->Prop):Prop :=
 ∀(pins:List (Addr×Obj)) (s:Shared) (σ:St) (H:Hp) (x:V) (v I g:Value) (lo hi:Option Int) (sl:Addr) (Q:VK),Inv X pins σ H s->RelV x v->s.heap.IsSliceOf sl I g .none->IsPart I lo->IsPart g hi->r x lo hi H Q ->
  ∃T id,typeLookup (.type T) "__getitem__" = pure (some (.builtin id))/\s.TypeIs v T/\wpAny (model X.prog X.w) X.A (getItem v (.ref sl)) (EP X pins σ Q) X.xe s
def kj(r:V->Option Int->Option Int->Hp->VK->Prop)(te:TE)(tl th:TO):TE:=fun σ H Q=>te σ H fun x H1=>tl σ H1 fun l I=>th σ I fun u g=>r x l u g Q
theorem JM{r:V->Option Int->Option Int->Hp->VK->Prop}(hr:gE X r)(he:PE X e te)(hl:PO X lo tl)(hu:PO X hi th):PE X (.Subscript e (.Slice lo hi none p2) pos) (kj r te tl th):=by
 intro pins s σ H Q I h;refine Subscript_ (A4 (he pins s σ H _ I h) fun v s1 ⟨x,H1,I1,U,q1⟩=>?_);refine wpAny_Slice (A4 (hl pins s1 σ H1 _ I1 q1) fun M s2 ⟨l,H2,I2,pl,Z⟩=>A4 (hu pins s2 σ H2 _ I2 Z) fun g s3 ⟨u,R,I3,pu,Y⟩=>?_);rw[evalPart_none];refine aC ?_;have I4:Inv X pins σ R {s3 with heap:=s3.heap.push { cls:=.type "slice",data:=.fields #[M,g,.none]} }:=I3.kept (t':=s3.toks) fun b ob q=>aE _ q;obtain⟨T,id,hT,ht,hg⟩:=hr pins {s3 with heap:=s3.heap.push { cls:=.type "slice",data:=.fields #[M,g,.none]} } σ R x v M g l u s3.heap.objs.size Q I4 U (Heap.IsSliceOf.new ..) pl pu Y;show wpAny (model X.prog X.w) X.A (subscriptTail e (.Slice lo hi none p2) v (.ref s3.heap.objs.size)) (EP X pins σ Q) X.xe {s3 with heap:=s3.heap.push { cls:=.type "slice",data:=.fields #[M,g,.none]} };exact tail_any (ops:=[.ref s3.heap.objs.size,v]) ht hT hg (by with_unfolding_all rfl)
def CB(xs:List V)(lo hi:Option Int):List V:=(xs.drop (HT.BH xs.length 0 lo)).take (HT.BH xs.length xs.length hi-HT.BH xs.length 0 lo)
theorem Ej(xs:List V)(lo hi:Option Int):(CB xs lo hi).length<=xs.length:=by
 unfold CB;rw[List.length_take,List.length_drop]
 lia
def jA(K:PySem.W.Frag):V->Option Int->Option Int->Hp->VK->Prop:=fun x lo hi H Q=>∃a xs,x=.ref a/\Af K H a xs /\
 ¬(HT.BH xs.length 0 lo=0/\HT.BH xs.length xs.length hi=xs.length)/\∀p,H p=none->Q (.ref p) (upd H p (.tup (CB xs lo hi)))
theorem Wl:gE X (jA X.K):=by
 intro pins s σ H x v vl vu lo hi sl Q I Y hs pl Z h;obtain⟨a,xs,rfl,hx,hw,q⟩:=h;cases Y;obtain⟨M,r,U,R⟩:=I.tuple hx;have g:M.toArray.size=xs.length:=by rw[List.size_toArray];exact r.length.symm
 refine⟨"tuple",_,PyProof.Rows.slot_tuple_getitem.lookup,U.typeIs,?_⟩;refine HT.MG U hs pl Z (by rw[g];exact hw) ?_ (by rw[g];exact R);rw[g];refine⟨.ref s.heap.objs.size,_,I.laid (t':=s.toks) (o:=.tup (CB xs lo hi)) (fun b ob q=>aE _ q) (aD _) ?_,rfl,q _ (I.Ah.fresh (aD _))⟩;exact⟨aU (Ej xs lo hi) R,_,(r.drop (HT.BH xs.length 0 lo)).take (HT.BH xs.length xs.length hi-HT.BH xs.length 0 lo),IsTup.new _ _⟩
theorem Vals.UA{xs:List V}{us:List Value}(r:Vals xs us):us=[] ↔ xs=[]:=by
 cases r with
 |nil=>simp
 |cons _ _=>simp
end
def NU(n:Nat)(i:Int):Option Nat:=if 0<=i then(if i<n then some i.toNat else none) else if -(n:Int)<=i then some (i+n).toNat else none
def EI{α:Type}(xs:List α)(i:Int):Option α:=(NU xs.length i).bind fun j=>xs[j]?
theorem Ul{n:Nat}{i:Int}{j:Nat}(h:NU n i=some j):seqIndex? i n=some j/\j<n/\-(n:Int)<=i/\i<n:=by
 unfold NU at h;by_cases h0:0<=i
 .rw[if_pos h0]at h;by_cases g:i<n
  .rw[if_pos g]at h;have e:i.toNat=j:=ae h;exact⟨by rw[seqIndex_of h0 g,e],by lia,by lia,g⟩
  .rw[if_neg g]at h;cases h
 .rw[if_neg h0]at h;by_cases g:-(n:Int)<=i
  .rw[if_pos g]at h;have e:(i+n).toNat=j:=ae h;exact⟨by rw[seqIndex_neg (by lia) g,e],by lia,g,by lia⟩
  .rw[if_neg g]at h;cases h
theorem OI{α:Type}{xs:List α}{i:Int}{v:α}(h:EI xs i=some v):∃j,seqIndex? i xs.length=some j/\xs[j]? = some v/\j<xs.length/\-(xs.length:Int)<=i/\i<xs.length:=by
 unfold EI at h;cases e:NU xs.length i with
 |none=>rw[e]at h;cases h
 |some j=>
  rw[e]at h;obtain⟨R,M,I,g⟩:=Ul e;exact⟨j,R,h,M,I,g⟩
theorem IV{α:Type}{xs:List α}{j:Nat}{v:α}(h:xs[j]? = some v):EI xs (j:Int)=some v:=by
 have g:j<xs.length:=(aB.mp h).1;have e:NU xs.length (j:Int)=some j:=by
  unfold NU;rw[if_pos (by lia),if_pos (by lia)];simp
 unfold EI;rw[e];exact h
def UW(b:Expr):Prop:=∀o i,subscripted b false o i=operate [o,i] (getItem o i)
def K9(X:Cx)(r:R2):Prop :=
 ∀(value slice:Expr) (pins:List (Addr×Obj)) (s:Shared) (σ:St) (H:Hp) (x y:V) (v u:Value) (Q:VK),Inv X pins σ H s->RelV x v->RelV y u->r x y H Q ->
  subscripted slice false v u=operate [v,u] (getItem v u)->wpAny (model X.prog X.w) X.A (subscriptTail value slice v u) (EP X pins σ Q) X.xe s
def k9(X:Cx)(id:String)(r:V->List V->Hp->VK->Prop):Prop :=
 ∀(pins:List (Addr×Obj)) (s:Shared) (σ:St) (H:Hp) (x:V) (xs:List V) (v:Value) (us:List Value) (Q:VK),Inv X pins σ H s->RelV x v->Vals xs us->r x xs H Q ->
  wpAny (model X.prog X.w) X.A (call (.builtin id) (v::us)) (EP X pins σ Q) X.xe s
section
variable{X:Cx}{a b:Expr}{ta tb:TE}{pos:Pos}
theorem K9.or{r R:R2}(h:K9 X r)(h':K9 X R):K9 X (fun x y H Q=>r x y H Q\/R x y H Q):=by
 intro value slice pins s σ H x y v u Q I M g q U;rcases q with q|q
 .exact h value slice pins s σ H x y v u Q I M g q U
 .exact h' value slice pins s σ H x y v u Q I M g q U
theorem Ag{r:R2}(U:K9 X r)(ha:PE X a ta)(Y:PE X b tb)(R:UW b):PE X (.Subscript a b pos) (ZI r ta tb):=by
 intro pins s σ H Q I h;exact Subscript_ (YO ha Y I h fun v u s2 x y H2 Z M g q=>U a b pins s2 σ H2 x y v u Q Z M g q (R _ _))
def YJ(K:PySem.W.Frag):R2:=fun x y H Q=>∃p xs i v,x=.ref p/\y=.int i/\AO K H p xs/\EI xs i=some v/\Q v H
def Yj(K:PySem.W.Frag):R2:=fun x y H Q=>∃p xs i v,x=.ref p/\y=.int i/\Af K H p xs/\EI xs i=some v/\Q v H
def fV:R2:=fun x y H Q=>∃z i c,x=.str z/\y=.int i/\z.length<=sizeLine/\EI z.cps.toList i=some c/\Q (.str ⟨#[c]⟩) H
theorem F9:K9 X (YJ X.K):=by
 intro value slice pins s σ H x y v u Q I rx ry h Z;obtain⟨p,xs,i,z,rfl,rfl,hq,he,q⟩:=h;cases rx;obtain⟨t,rfl⟩:=ry;obtain⟨U,r,R,hz⟩:=I.list hq;obtain⟨j,g,h2,h3,h4,h5⟩:=OI he;obtain⟨w,ew,M⟩:=r.get h2;have hl:=r.length;have hn:=Ky;have fin:EP X pins σ Q w s:=⟨z,H,I,M,q⟩;by_cases h0:0<=i
 .have Y:i.toNat=j:=by
   rw[seqIndex_of h0 h5]at g;exact ae g
  exact item_listR R.isList h0 (by lia) (by rw[Y];simpa using ew) fin Z
 .have Y:(i+(U.toArray.size:Int)).toNat=j:=by
   rw[seqIndex_neg (by lia) h4]at g;rw[List.size_toArray,<-hl];exact ae g
  exact subscriptTail_builtinR (x:=w) R.isList.typeIs slot_list_getitem.lookup
   (wpAny_getItem_list_neg (Q:=fun r s'=>r=w/\EP X pins σ Q r s') R.isList (by lia) (by rw[List.size_toArray]<;>lia) (by lia) (by rw[Y];simpa using ew) ⟨rfl,fin⟩) Z
theorem Ar:K9 X (Yj X.K):=by
 intro value slice pins s σ H x y v u Q I Y U h hs;obtain⟨p,xs,i,z,rfl,rfl,hq,he,q⟩:=h;cases Y;obtain⟨t,rfl⟩:=U;obtain⟨Z,r,M,hz⟩:=I.tuple hq;obtain⟨j,h1,h2,h3,h4,h5⟩:=OI he;obtain⟨w,ew,g⟩:=r.get h2;have hl:=r.length;have hn:=Ky;have fin:EP X pins σ Q w s:=⟨z,H,I,g,q⟩;exact subscriptTail_builtinR (x:=w) M.typeIs slot_tuple_getitem.lookup
  (getItem_tuple (j:=j) (Q:=fun r R=>r=w/\EP X pins σ Q r R) M (by lia) (by lia) (by rw[List.size_toArray,<-hl];exact h1) (by simpa using ew) ⟨rfl,fin⟩) hs
theorem gF:K9 X fV:=by
 intro value slice pins s σ H x y v u Q I R M h U;obtain⟨z,i,c,rfl,rfl,hz,Z,q⟩:=h;obtain⟨t,rfl⟩:=R;obtain⟨t',rfl⟩:=M;obtain⟨j,g,h2,h3,h4,h5⟩:=OI Z;have Y:z.cps.toList.length=z.length:=by simp[Str.length]
 rw[Y]at g h4 h5;have hn:=Ky;exact tail_any (typeIs_str s z t) slot_str_getitem.lookup (getItem_str (c:=c) (by
  have e1:decide (i < -(2^63:Int))=false:=bQ (by lia);have e2:decide (i >= 2^63)=false:=bQ (by lia);rw[e1,e2,Bool.or_false]) (by rw[g];simpa using h2) ⟨.str ⟨#[c]⟩,H,I.tok _,⟨_,rfl⟩,q⟩) U
def lA(K:PySem.W.Frag):R2:=fun x y H Q=>YJ K x y H Q\/Yj K x y H Q\/fV x y H Q
theorem et:K9 X (lA X.K):=F9.or (Ar.or gF)
theorem Vd(g:List Value)(n j:Nat)(u:Value):Obj.mapSeq (·.setIfInBounds j u) { cls:=.type "list",data:=.seq g.toArray n}={ cls:=.type "list",data:=.seq (g.set j u).toArray n}:=by
 simp[Obj.mapSeq]
theorem Inv.lst{pins:List (Addr×Obj)}{σ:St}{H:Hp}{s:Shared}{p:Addr}{xs:List V}(I:Inv X pins σ H s)(h:H p=some (.lst xs)) :
  ∃(g:List Value) (n:Nat),Vals xs g/\s.heap.get? p=some { cls:=.type "list",data:=.seq g.toArray n}/\xs.length<=sizeLine:=by
 obtain⟨z,g,n,r,e⟩:=I.Ah p _ h;exact⟨g,n,r,e,z⟩
theorem Inv.fJ{pins:List (Addr×Obj)}{σ:St}{H:Hp}{s:Shared}{p:Addr}{xs ys:List V}{g its':List Value}{n M:Nat}{f:Obj->Obj}(I:Inv X pins σ H s)(h:H p=some (.lst xs))
 (R:s.heap.get? p=some { cls:=.type "list",data:=.seq g.toArray n})(hf:f { cls:=.type "list",data:=.seq g.toArray n}={ cls:=.type "list",data:=.seq its'.toArray M})(r:Vals ys its')(hz:ys.length<=sizeLine)(t:Nat) :
  Inv X pins σ (upd H p (.lst ys)) {s with heap:=s.heap.update p f,toks:=t}:=by
 have e:(s.heap.update p f).get? p=some { cls:=.type "list",data:=.seq its'.toArray M}:=by
  rw[Heap.get?_update_self f R (by rw[hf]<;>rfl),hf]
 refine I.write (x:=p) (e:=p) (by rw[h];trivial) (.inl rfl) (fun b u U q=>(Heap.get?_update_other _ _ (Ne.symm U)).trans q) ⟨_,e⟩ ?_;exact⟨hz,its',M,r,e⟩
def iR:V->V->V->Hp->(Hp->Prop)->Prop:=fun o i v H Q=>∃p xs k j,o=.ref p/\i=.int k/\H p=some (.lst xs)/\NU xs.length k=some j/\Q (upd H p (.lst (xs.set j v)))
theorem set_list:fG X iR:=by
 intro pins s σ H o i v ov iv u Q I ro ri rv h;obtain⟨p,xs,k,j,rfl,rfl,Z,hj,q⟩:=h;cases ro;obtain⟨t,rfl⟩:=ri;obtain⟨g,n,r,R,hz⟩:=I.lst Z;obtain⟨M,h2,h3,h4⟩:=Ul hj;have U:=r.length;have hn:=Ky;have I':Inv X pins σ (upd H p (.lst (xs.set j v))) {s with heap:=s.heap.update p (Obj.mapSeq (·.setIfInBounds j u))} :=
  I.fJ Z R (Vd g n j u) (r.set rv j) (by rw[List.length_set];exact hz) s.toks
 by_cases h0:0<=k
 .have Y:k.toNat=j:=by
   rw[seqIndex_of h0 h4]at M;exact ae M
  exact PySem.W.ki_setAt R h0 (by lia) (by rw[List.size_toArray,<-U];exact h4) (by rw[Y];exact⟨_,I',q⟩)
 .have Y:(k+(g.toArray.size:Int)).toNat=j:=by
   rw[seqIndex_neg (by lia) h3]at M;rw[List.size_toArray,<-U];exact ae M
  exact PySem.W.ki_setBack R (by lia) (by rw[List.size_toArray,<-U];exact h3) (by lia) (by rw[Y];exact⟨_,I',q⟩)
theorem RO(lo hi:Option Int)(n:Nat):(sliceBounds lo hi none n).1=((HT.BH n 0 lo:Nat):Int)/\(sliceBounds lo hi none n).2.1=((HT.BH n n hi:Nat):Int)/\(sliceBounds lo hi none n).2.2=1:=by
 refine⟨?_,?_,rfl⟩
 .cases lo with
  |none=>simp[sliceBounds,HT.BH]
  |some i=>
   simp only[sliceBounds,HT.BH,Option.getD_none,show(1:Int) > 0 by decide,if_true];by_cases h:i<0
   .simp only[h,if_true]<;>lia
   .simp only[h,if_false]<;>lia
 .cases hi with
  |none=>simp[sliceBounds,HT.BH]
  |some i=>
   simp only[sliceBounds,HT.BH,Option.getD_none,show(1:Int) > 0 by decide,if_true];by_cases h:i<0
   .simp only[h,if_true]<;>lia
   .simp only[h,if_false]<;>lia
theorem QH(g:List Value)(lo hi:Option Int):slicePick g.toArray lo hi none=((g.drop (HT.BH g.length 0 lo)).take (HT.BH g.length g.length hi-HT.BH g.length 0 lo)).toArray:=by
 obtain⟨R,M,I⟩:=RO lo hi g.toArray.size;unfold slicePick;rw[R,M,I];simp only[sliceRange_one,pick_run,List.size_toArray]<;>rfl
def kD(K:PySem.W.Frag):V->Option Int->Option Int->Hp->VK->Prop:=fun x lo hi H Q=>∃a xs,x=.ref a/\AO K H a xs/\∀p,H p=none->Q (.ref p) (upd H p (.lst (CB xs lo hi)))
theorem Ov:gE X (kD X.K):=by
 intro pins s σ H x v vl vu lo hi sl Q I R hs Y U h;obtain⟨a,xs,rfl,hx,q⟩:=h;cases R;obtain⟨Z,r,M,hz⟩:=I.list hx;have g:=r.length;refine⟨"list",_,slot_list_getitem.lookup,M.isList.typeIs,?_⟩;refine wpAny_getItem_list_slice M.isList hs Y U .none (by simp) ?_ (by rw[List.size_toArray]<;>lia);rw[QH,<-g];refine⟨.ref s.heap.objs.size,_,I.laid (t':=s.toks) (o:=.lst (CB xs lo hi)) (fun b ob q=>aE _ q) (aD _) ?_,rfl,q _ (I.Ah.fresh (aD _))⟩;exact⟨aU (Ej xs lo hi) hz,_,0,(r.drop (HT.BH xs.length 0 lo)).take (HT.BH xs.length xs.length hi-HT.BH xs.length 0 lo),Heap.get?_push_size _ rfl⟩
theorem BB:HN X (.builtin "len") (fun xs H Q=>∃p ys,xs=[.ref p]/\(AO X.K H p ys\/Af X.K H p ys)/\Q (.int ys.length) H):=by
 intro pins s σ H xs us Q I r h;obtain⟨p,ys,rfl,M,q⟩:=h;obtain⟨u,rfl,Z⟩:=vals1 r;cases Z;have hn:=Ky;rcases M with M|M
 .obtain⟨Y,R,U,hz⟩:=I.list M;have g:=R.length;exact Calls.call_len_list U.isList (by simp only[List.size_toArray]<;>lia) ⟨.int ys.length,H,I.tok _,⟨s.toks+1,by rw[List.size_toArray,g]⟩,q⟩
 .obtain⟨Y,R,U,hz⟩:=I.tuple M;have g:=R.length;exact len_tuple U (by simp only[List.size_toArray]<;>lia) ⟨.int ys.length,H,I.tok _,⟨s.toks+1,by rw[List.size_toArray,g]⟩,q⟩
theorem QE:HN X (.type "tuple") (fun xs H Q=>∃p ys,xs=[.ref p]/\((AO X.K H p ys/\∀l,H l=none->Q (.ref l) (upd H l (.tup ys)))\/(Af X.K H p ys/\Q (.ref p) H))):=by
 intro pins s σ H xs us Q I r h;obtain⟨p,ys,rfl,h⟩:=h;obtain⟨u,rfl,rx⟩:=vals1 r;cases rx;rcases h with ⟨U,q⟩|⟨U,q⟩
 .obtain⟨g,M,R,Y⟩:=I.list U;have Z:=M.length;refine call_tuple_list R.isList (fun h' kp=>?_) (by simp only[List.size_toArray]<;>lia);have I1:Inv X pins σ H {s with heap:=h'}:=I.kept (t':=s.toks) kp;have I2:Inv X pins σ (upd H h'.objs.size (.tup ys)) {s with heap:=h'.push { cls:=.type "tuple",data:=.seq g.toArray} } :=
   I1.laid (t':=s.toks) (fun b o e=>aE _ e) (aD _) (show Bq X.prog X.w _ _ _ (.tup ys) from⟨Y,g,M,IsTup.new _ _⟩)
  exact⟨.ref h'.objs.size,_,I2,rfl,q _ (I1.Ah.fresh (aD _))⟩
 .obtain⟨g,M,R,Y⟩:=I.tuple U;exact call_tuple_same R ⟨.ref p,H,I,rfl,q⟩
def i4(K:PySem.W.Frag)(T:String)(x:V)(H:Hp):Prop:=match x with
 |.str _=>T = "str"
 |.int _=>T = "int"
 |.ref p=>(T = "list" /\ ∃xs,AO K H p xs)\/(T = "tuple" /\ ∃o,K.lookup p=some o/\o.cls=.type "tuple" /\ o.dict=none) \/
   (T = "dict" /\((∃kvs,H p=some (.dK kvs))\/∃kvs,H p=some (.dT kvs)))\/(T = "set" /\ ∃S n,H p=some (.set S n))
 |_=>False
theorem dB{pins:List (Addr×Obj)}{σ:St}{H:Hp}{s:Shared}{T:String}{x:V}{v:Value}(I:Inv X pins σ H s)(r:RelV x v)(ty:i4 X.K T x H) :
  s.TypeIs v T/\∀a,v=.ref a->∃U,s.heap.get? a=some U/\U.dict=none:=by
 cases x with
 |str z=>
  obtain⟨t,rfl⟩:=r;cases (show T = "str" from ty);exact⟨typeIs_str s z t,fun _ e=>nomatch e⟩
 |int i=>
  obtain⟨t,rfl⟩:=r;cases (show T = "int" from ty);exact⟨typeIs_int s i t,fun _ e=>nomatch e⟩
 |ref p=>
  cases r;rcases ty with ⟨rfl,xs,Z⟩|⟨rfl,o,g,hc,hd⟩|⟨rfl,g⟩|⟨rfl,S,n,g⟩
  .obtain⟨Y,_,R,_⟩:=I.list Z;refine⟨R.isList.typeIs,fun a e=>?_⟩;cases e;obtain⟨o,n,e,c,hd,_⟩:=R;exact⟨o,e,hd⟩
  .refine⟨⟨o,I.Hf p o g,hc⟩,fun a e=>?_⟩;cases e;exact⟨o,I.Hf _ o g,hd⟩
  .have z:∃o,s.heap.get? p=some o/\o.ExactDict:=by
    rcases g with ⟨kvs,g⟩|⟨kvs,g⟩
    .obtain⟨_,_,_,_,o,_,_,e,ex,_⟩:=I.Ah p _ g;exact⟨o,e,ex⟩
    .obtain⟨_,_,_,_,o,_,_,e,ex,_⟩:=I.Ah p _ g;exact⟨o,e,ex⟩
   obtain⟨o,e,ex⟩:=z;refine⟨⟨o,e,ex.1⟩,fun a M=>?_⟩;cases M;exact⟨o,e,ex.2.1⟩
  .obtain⟨o,_,_,_,e,ex,_⟩:=I.Ah p _ g;refine⟨⟨o,e,ex.1⟩,fun a M=>?_⟩;cases M;exact⟨o,e,ex.2.1⟩
 |_=>exact False.elim ty
def ir(K:PySem.W.Frag)(T:String)(r:V->List V->Hp->VK->Prop)(g:TE)(t:TA):TE:=fun σ H Q=>g σ H fun x H1=>i4 K T x H1/\t σ H1 fun xs I=>r x xs I Q
variable{o e:Expr}{es:List Expr}{to:TE}{t:TA}{name:Str}{apos cpos:Pos}{T id:String}{r:V->List V->Hp->VK->Prop}
theorem GN(pa:PlainAttrs T)(slot:Slot T name id)(Y:typeOf (.builtin id)=pure (.type "method_descriptor"))(hm:k9 X id r)(ho:PE X o to)(ha:PA X (e::es) t)
 (R:attributeBase o name X.env (eval o X.env)=eval o X.env:=by rfl)
 (U:((backTo cpos (starEach (e::es) X.env)).all (fun x=>!x.1)&&(backToKw cpos (keywordEach [] X.env)).all (fun x=>x.1.isSome)
   && decide ((e::es).length+([]:List Keyword).length+(if([]:List Keyword).isEmpty then 0 else 1)<30))=true:=by rfl)
 (M:(apos.endLine==cpos.line)=true:=by rfl)(hs:starEach (e::es) X.env=(false,eval e X.env)::starEach es X.env:=by rfl)(g:(backTo cpos (starEach es X.env)).any (·.1)=false:=by rfl) :
  PE X (.Call (.Attribute o name apos) (e::es) [] cpos) (ir X.K T r to t):=by
 intro pins s σ H Q I h;refine wpAny_Call_method_late R U M rfl (A4 (ho pins s σ H _ I h) fun v s1 ⟨x,H1,I1,Z,ty,q1⟩=>?_);obtain⟨h1,h2⟩:=dB I1 Z ty;refine⟨T,id,pa,slot,Y,h1,h2,?_⟩;have hA:=ha cpos pins s1 σ H1 _ I1 q1;rw[hs]at hA ⊢;refine Calls.callWith_builtin (by show(false||(backTo cpos (starEach es X.env)).any (·.1))=false;rw[g]<;>rfl) (Calls.evalArgs_plain ?_);exact A4 hA fun us s2 ⟨vs,H2,I2,r2,q2⟩=>hm pins s2 σ H2 x vs v us Q I2 Z r2 q2
end
def iw(X:Cx)(id:String)(r:V->List V->Hp->VK->Prop):Prop :=
 ∀(pins:List (Addr×Obj)) (s:Shared) (σ:St) (H:Hp) (x:V) (xs:List V) (v:Value) (us:List Value) (Q:VK),Inv X pins σ H s->RelV x v->Vals xs us->r x xs H Q ->
  wpAny (model X.prog X.w) X.A (call (.builtin id) (v::us)) (EP X pins σ Q) X.xe s
theorem Vals.one:∀ {x:V} {us:List Value},Vals [x] us->∃u,us=[u]/\RelV x u
 |_,_,.cons r .nil=>⟨_,rfl,r⟩
theorem Vals.two:∀ {x y:V} {us:List Value},Vals [x,y] us->∃u v,us=[u,v]/\RelV x u/\RelV y v
 |_,_,_,.cons r (.cons q .nil)=>⟨_,_,rfl,r,q⟩
theorem Vals.reverse{xs:List V}{us:List Value}(h:Vals xs us):Vals xs.reverse us.reverse:=by
 induction h with
 |nil=>exact .nil
 |cons r t g=>rw[List.reverse_cons,List.reverse_cons];exact Vals.append g (.cons r .nil)
theorem Vals.rep{xs:List V}{us:List Value}(h:Vals xs us):∀k:Nat,Vals (List.replicate k xs).flatten (List.replicate k us).flatten
 |0=>.nil
 |k+1=>by
  rw[List.replicate_succ,List.replicate_succ,List.flatten_cons,List.flatten_cons];exact Vals.append h (Vals.rep h k)
theorem foldl_rep(g:List Value):∀(k:Nat) (I:List Value),
  List.foldl (fun R M=>R++M) I.toArray (List.replicate k g.toArray)=(I++(List.replicate k g).flatten).toArray
 |0,I=>by simp
 |k+1,I=>by
  have e:I.toArray++g.toArray=(I++g).toArray:=by simp
  have U:(I++g)++(List.replicate k g).flatten=I++(List.replicate (k+1) g).flatten:=by
   rw[List.replicate_succ,List.flatten_cons,List.append_assoc]
  rw[<-U,<-foldl_rep g k (I++g),<-e,List.replicate_succ,List.foldl_cons]
section
variable{X:Cx}{pins:List (Addr×Obj)}{σ:St}{H:Hp}{s:Shared}{l:Addr}{xs ys:List V}
theorem Inv.eQ{g its':List Value}{n:Nat}{f:Array Value->Array Value}{t':Nat}(I:Inv X pins σ H s)(Y:H l=some (.lst xs))
 (e:s.heap.get? l=some { cls:=.type "list",data:=.seq g.toArray n})(hf:f g.toArray=its'.toArray)(M:Vals ys its')(hz:ys.length<=sizeLine) :
  Inv X pins σ (upd H l (.lst ys)) {s with heap:=s.heap.update l (Obj.mapSeq f),toks:=t'}:=by
 have q:=PySem.IsL.update e f;rw[hf]at q;refine I.write (x:=l) (e:=l) (by rw[Y];exact trivial) (.inl rfl) (fun Z u U R=>(Heap.get?_update_other s.heap (Obj.mapSeq f) (Ne.symm U)).trans R) ⟨_,q⟩ ?_;exact⟨hz,its',_,M,q⟩
theorem Inv.d8{g:List Value}{t':Nat}(I:Inv X pins σ H s)(M:Vals ys g)(hz:ys.length<=sizeLine) :
  Inv X pins σ (upd H s.heap.objs.size (.lst ys)) {s with heap:=s.heap.push { cls:=.type "list",data:=.seq g.toArray},toks:=t'} :=
 I.laid (fun _ _ q=>aE _ q) (aD _) ⟨hz,g,0,M,Heap.get?_push_size _ rfl⟩
theorem Inv.fresh(I:Inv X pins σ H s):H s.heap.objs.size=none:=I.Ah.fresh (aD _)
theorem Inv.N9(I:Inv X pins σ H s)(M:H l=some (.lst xs)):xs.length<=sizeLine/\∃(g:List Value) (n:Nat),Vals xs g/\xs.length=g.length/\s.heap.get? l=some { cls:=.type "list",data:=.seq g.toArray n}:=by
 obtain⟨z,g,n,r,e⟩:=I.Ah l _ M;exact⟨z,g,n,r,r.length,e⟩
theorem RK{n:Nat}(h:n<=sizeLine):Builtin.List.listTooLong n=false:=by
 unfold Builtin.List.listTooLong;exact bQ (by lia)
end
section
variable{X:Cx}
def T7:V->List V->Hp->VK->Prop:=fun x vs H Q=>∃l xs y,x=.ref l/\vs=[y]/\H l=some (.lst xs)/\xs.length<sizeLine/\Q .BM (upd H l (.lst (xs++[y])))
theorem C6:iw X "list.append" T7:=by
 intro pins s σ H x vs v us Q I U Y h;obtain⟨l,xs,y,rfl,rfl,R,hz,q⟩:=h;cases U;obtain⟨u,rfl,Z⟩:=Y.one;obtain⟨z,g,n,r,hl,e⟩:=I.N9 R;refine call_meets F.slot_list_append ⟨_,e,rfl⟩ F.entry_list_append (F.args_list_append_2 _ _) (PySem.list_append l g.toArray n u (by rw[List.size_toArray];lia)) ⟨e,?_⟩;refine⟨.BM,_,I.eQ (its':=g++[u]) R e (by simp) (r.append (.cons Z .nil)) ?_,rfl,q⟩;rw[List.length_append,List.length_singleton]
 lia
def Z1:V->List V->Hp->VK->Prop:=fun x vs H Q=>∃l b xs g,x=.ref l/\vs=[.ref b]/\H l=some (.lst xs)/\H b=some (.lst g)/\xs.length+g.length<=sizeLine/\Q .BM (upd H l (.lst (xs++g)))
theorem O6:iw X "list.extend" Z1:=by
 intro pins s σ H x vs v us Q I rx rv h;obtain⟨l,b,xs,zs,rfl,rfl,Z,hB,hz,q⟩:=h;cases rx;obtain⟨u,rfl,ru⟩:=rv.one;cases ru;obtain⟨z,M,n,r,hl,e⟩:=I.N9 Z;obtain⟨z2,g,n2,r2,hl2,e2⟩:=I.N9 hB;have U:M.toArray.size+g.toArray.size<=sizeLine:=by rw[List.size_toArray,List.size_toArray];lia
 have R:¬(!M.toArray.isEmpty&&Builtin.List.listTooLong (M.toArray.size+g.toArray.size))=true:=by
  rw[RK U,Bool.and_false];exact aO
 refine call_meets F.slot_list_extend ⟨_,e,rfl⟩ F.entry_list_extend (F.args_list_extend_2 _ _)
  (AutoSeq1.list_extend_list_list_0 l M.toArray n b g.toArray n2 R (by rw[List.size_toArray];lia) (by lia)) ⟨e,e2,?_⟩
 refine⟨.BM,_,I.eQ (its':=M++g) Z e (by simp) (r.append r2) ?_,rfl,q⟩;rw[List.length_append]
 lia
def kC:R2:=fun x y H Q=>∃l b xs g,x=.ref l/\y=.ref b/\H l=some (.lst xs)/\H b=some (.lst g)/\xs.length+g.length<=sizeLine/\∀p,H p=none->Q (.ref p) (upd H p (.lst (xs++g)))
theorem Lg:Cn X (binaryOp .Add) kC:=by
 intro pins s σ H x y v u Q I U R h;obtain⟨l,b,xs,zs,rfl,rfl,hH,hB,hz,q⟩:=h;cases U;cases R;obtain⟨z,M,n,r,hl,e⟩:=I.N9 hH;obtain⟨z2,g,n2,Y,Z,e2⟩:=I.N9 hB;refine PySem.P.add_list e e2 ?_ (by rw[List.size_toArray,List.size_toArray];lia);have ea:M.toArray++g.toArray=(M++g).toArray:=by simp
 rw[ea];exact⟨.ref _,_,I.d8 (t':=s.toks) (r.append Y) (by rw[List.length_append];lia),rfl,q _ I.fresh⟩
def jm:R2:=fun x y H Q=>∃l k xs,x=.ref l/\y=.int k/\H l=some (.lst xs)/\-(2^63)<=k/\k<2^63/\xs.length*k.toNat<=sizeLine /\
 ∀p,H p=none->Q (.ref p) (upd H p (.lst (List.replicate k.toNat xs).flatten))
theorem len_rep{α:Type}(xs:List α)(k:Nat):(List.replicate k xs).flatten.length=k*xs.length:=by
 induction k with
 |zero=>simp
 |succ k g=>rw[List.replicate_succ,List.flatten_cons,List.length_append,g,Nat.succ_mul,Nat.add_comm]
theorem V4:Cn X (binaryOp .Mult) jm:=by
 intro pins s σ H x y v u Q I rx ry h;obtain⟨l,k,xs,rfl,rfl,hH,h1,h2,hz,q⟩:=h;cases rx;obtain⟨t,rfl⟩:=ry;obtain⟨z,g,n,r,hl,e⟩:=I.N9 hH;have Y:g.toArray.size*k.toNat<=sizeLine:=by rw[List.size_toArray,<-hl];exact hz
 have hcap:¬g.toArray.size*k.toNat > (2^63-1) / 8:=by
  have:(sizeLine:Nat)<=(2^63-1) / 8:=by decide
  lia
 have Z:¬(!Builtin.List.listFitsIndex k)=true:=by
  rw[fitsIndex_both h1 h2];exact aO
 have M:¬Builtin.List.listTooLong (g.toArray.size*k.toNat)=true:=by
  rw[RK Y];exact aO
 have R:List.foldl (fun x1 x2=>x1++x2) #[] (List.replicate (if g.toArray.isEmpty=true then 0 else k.toNat) g.toArray)=(List.replicate k.toNat g).flatten.toArray:=by
  have f0:∀m:Nat,List.foldl (fun x1 x2=>x1++x2) #[] (List.replicate m g.toArray)=(List.replicate m g).flatten.toArray:=fun m=>by
   have:=foldl_rep g m [];rw[List.nil_append]at this;exact this
  rw[f0];cases g with
  |nil=>simp
  |cons a r'=>rw[if_neg (by simp)]
 refine wpAny_binaryOp_repeat_ref (T := "list") (U := "int") (by decide) ⟨_,e,rfl⟩ (fun s'=>typeIs_int s' k t) noFill_list_mul F.fills_int_mul F.slot_int_rmul repeat_list F.slot_int_index.lookup
  (call_meets F.slot_int_rmul (typeIs_int s k t) F.entry_int_rmul (F.args_int_rmul_2 _ _) (int___rmul___int_list k t l g.toArray n)
   ⟨e,rfl,⟨_,e,rfl⟩,call_meets F.slot_list_mul ⟨_,e,rfl⟩ F.entry_list_mul (F.args_list_mul_2 _ _) (AutoListH.list___mul___list_int_3 l g.toArray n k t Z hcap M) ⟨e,?_⟩⟩)
 rw[R];exact⟨.ref _,_,I.d8 (t':=s.toks) (r.rep k.toNat) (by rw[len_rep,Nat.mul_comm];exact hz),rfl,q _ I.fresh⟩
end
end L2
namespace Att
open PySem PySem.W PySem.Calls PyProof.Rows
theorem NZ{P:Params}{h:Heap}:∀(ns:List Int) (vs:List Value),WellAll P h vs (ns.map WData.int)->IntsAre vs ns:=by
 intro ns
 induction ns with
 |nil=>
  intro vs w;rw[List.map_nil]at w;cases w;exact .nil
 |cons n ns g=>
  intro vs w;rw[List.map_cons]at w;cases w with
  |cons a b=>
   cases a;exact .cons _ _ (g _ b)
theorem WE{l:OpenLaw}{n:Nat}(hn:l.most=some n){P:Params}{h:Heap}{args:List WData}{vals:List Value}
 (g:l.row.toRowW.claim.pre args=true)(Y:WellAll P h vals args) :
  ∃a vs ns,vals=[Value.ref a]/\args=[WData.list (ns.map WData.int)]/\h.get? a=some { cls:=.type "list",data:=.seq vs.toArray}/\IntsAre vs ns/\ns.length<=n:=by
 have Z:WShape.hasAll [] args [.list .int]=true:=(pre_splitW g).1;have hc:l.pre.holds [] { args:=args}=true:=(pre_splitW g).2;obtain⟨d,r,rfl,h1,h2⟩:=hasAllW_cons Z;obtain rfl:=hasAllW_nil h2;obtain⟨xs,rfl,h3⟩:=hasW_list h1;obtain⟨ns,rfl⟩:=items_int h3;have I:ns.length<=n:=by
  unfold OpenLaw.pre at hc;have U:(WTm.not (.lt (.lit (.int (n:Int))) (.len (.arg 0)))).holds [] { args:=[.list (ns.map .int)]}=true:=by
   have U:=(holds_andW hc).1;rw[hn]at U;exact U
  have R:=condW_of U (w_not (w_lt w_lit (w_len_list (w_arg rfl))));rw[List.length_map]at R;refine Nat.le_of_not_lt fun q=>?_;have q':(n:Int)<((ns.length:Nat):Int):=by lia
  first
   |(rw[decide_eq_true q']at R;exact absurd R (by decide))
   |(simp at R;lia)
 cases Y with
 |cons w1 w2=>
  cases w2;cases w1 with
  |list ho M=>exact⟨_,_,ns,rfl,rfl,ho,NZ ns _ M,I⟩
theorem WX(l:OpenLaw)(args:List WData):l.row.toRowW.claim.post args (.bool true) args=true :=
 postW_of (r:=l.row.toRowW) (X:=(true==true))
  (show WShape.has [] (.bool true) .bool=true by first|rfl|decide|simp[WShape.has,WShape.arms,WShape.armsAll])
  (show(WTm.eq .res (.lit (.bool true))).value [] { args:=args,res:=some (.bool true),after:=args}=some (.bool (true==true)) from w_eq_bool (w_res rfl) w_lit) rfl
theorem S4{l:OpenLaw}{n:Nat}{q:Program}{loose:List Str}{XP:(Str->Option Value)->Heap->Prop}{YP:World->Heap->Prop}{d:DefRec}
 (hn:l.most=some n)(hdf:d.params.defaults=[])
 (call:∀(w:World) (s₀ g:Shared) (mg mb:Str->Option Value) (U:Addr) (o:Obj) (pm Z doc:Value) (a:Addr) (vs:List Value) (ns:List Int),
   Ground q loose [] XP w s₀ mg mb g.heap->YP w g.heap ->
   g.heap.get? U=some o->o.data=.func (docDef d.name d.params d.body d.scope pm Z doc)->g.heap.CodeRec Z d.name->mg d.name=some (.ref U) ->
   g.heap.get? a=some { cls:=.type "list",data:=.seq vs.toArray}->IntsAre vs ns->ns.length<=n->g.gens=#[] ->
   codeAny (model l.prog w) callerA (.call (.ref U) ⟨[.ref a],[]⟩) (fun r s'=>r=.ok (.ret (.bool true))/\OldK g.heap s'.heap/\s'.os=g.os/\AllBare s'.gens) g) :
  WalkO q loose XP YP l.row.toRowW d [] (fun f vs=>PySem.call f vs):=by
 intro w s₀ g mg mb G Y U o pm Z doc dV kV ho hd hcd hD hmg hg args vals as I hlay hrd hwl hlo;obtain rfl:dV=.none:=Dflts.none hD hdf;obtain rfl:kV=.none:=Dflts.noKw hD;obtain⟨a,vs,ns,rfl,rfl,M,hints,R⟩:=WE hn I hwl;refine enter_call (codeAny_mono (call w s₀ g mg mb U o pm Z doc a vs ns G Y ho (fd_plain hd) hcd hmg M hints R hg) fun r s' hq=>?_);obtain⟨rfl,h2,h3,h4⟩:=hq;exact⟨.inl ⟨.bool true,.bool true,[],rfl,fun _=>rfl,.bool true,WX l _,fun _=>⟨List.Pairwise.nil,fun _ hm=>(nomatch hm)⟩⟩,h2,h3,h4⟩
end Att
namespace L2
open PySem PySem.Spec PyProof.Rows
theorem Px:∀ {vs:List Value} {ns:List Int},IntsAre vs ns->Vals (ns.map V.int) vs
 |_,_,.nil=>.nil
 |_,_,.cons n t h=>.cons ⟨t,rfl⟩ (Px h)
def Xg(H:Hp):Prop:=∀b,H b=none\/∃o xs,H b=some (.JK o (.lst xs))
theorem X7{P:Program}{w:World}{K:PySem.W.Frag}{mg mb:Str->Option Value}{CX:He}{k:Nat}{fa a:Addr}{fd:FuncData}{x:Str}{sp:Sp}{g:Shared}{vs:List Value}{ns:List Int}
 (KX:K.In g.heap)(hns:g.heap.Ns mainGlobals mg)(I:g.heap.Ns builtinsNs mb)(hbb:∀x:Str,x ≠ "__name__" -> mb x=bootBuiltins x)(hlim:g.heap.NoLimit)(hg:g.gens=#[])
 (ha:g.heap.get? a=some { cls:=.type "list",data:=.seq vs.toArray})(hi:IntsAre vs ns)(hl:ns.length<=sizeLine)(hr:Dr k callerA)(hkt:∀H,KTb mg H)
 (F:∀base:Heap,K.In base->base.Ns mainGlobals mg->AL P w K mg base CX k fa fd [x] sp)(R:∀(s:Shared) (u:Value),BindsTo s fd ⟨[u],[]⟩ [(x,u)])
 (hsp:∀H:Hp,Xg H->AO K H a (ns.map V.int)->sp [.ref a] H (fun v _=>v=.bl true) fun _ _ _=>False)
 (hCX:∀H e s',CX [] H g (fun _ _ _=>False) e s'->False) :
  codeAny (model P w) callerA (.call (.ref fa) ⟨[.ref a],[]⟩) (fun r s'=>r=.ok (.ret (.bool true))/\OldK g.heap s'.heap/\s'.os=g.os/\AllBare s'.gens) g:=by
 have rv:=Px hi;have Y:=hi.length;have core:∀H:Hp,Xg H->AO K H a (ns.map V.int)->Cq P w H g.heap->(∀b,H b≠none->b=a)->(H a≠none->K.lookup a=none) ->
   codeAny (model P w) callerA (.call (.ref fa) ⟨[.ref a],[]⟩) (fun r s'=>r=.ok (.ret (.bool true))/\OldK g.heap s'.heap/\s'.os=g.os/\AllBare s'.gens) g:=by
  intro H hO hS Ah hA hK;have base_of:∀ {b:Addr} {o:Obj},g.heap.get? b=some o->H b=none->(Kj g.heap H).get? b=some o:=fun e n=>Xk e n;have noA:∀ {b:Addr} {o:Obj} {es:Array DictEntry} {ep:Nat},g.heap.get? b=some o->o.data=.dict es ep->H b=none:=fun {b o es ep} e d=>by
   cases q:H b with
   |none=>rfl
   |some u=>
    have e':b=a:=hA b (by rw[q];simp);subst e';rw[ha]at e;cases e;have d':Data.seq vs.toArray _=Data.dict es ep:=d;cases d'
  have M:∀ {b:Addr} {m:Str->Option Value},g.heap.Ns b m->(Kj g.heap H).Ns b m:=fun {b m} ⟨o,es,ep,e,d,r⟩=>⟨o,es,ep,base_of e (noA e d),d,r⟩;have hKb:K.In (Kj g.heap H):=fun b o e=>base_of (KX b o e) (by
   cases q:H b with
   |none=>rfl
   |some u=>
    have e':b=a:=hA b (by rw[q];simp);subst e';rw[hK (by rw[q];simp)]at e;cases e)
  have hM:Mod K mg (Kj g.heap H):=⟨hKb,M hns,⟨mb,M I,hbb⟩,let⟨mc,h1,h2⟩:=hlim;⟨mc,M h1,h2⟩⟩;have e0:Uw P w K mg (Kj g.heap H) callerA [] g H:=⟨rfl,hM,fun b o e=>Zs e,Nat.le_of_eq (Wa _ _),trivial,fun b I=>absurd (show b∈([]:List Addr) from I) (by simp),Ah,.of_eq hg,hkt H⟩;refine codeAny_mono ((F _ hKb (M hns)).run callerA [] g H ⟨[.ref a],[]⟩ [.ref a] [.ref a] _ _ hr e0 (R g (.ref a)) (.cons rfl .nil) (hsp H hO hS)) fun r s' h=>?_;cases r with
  |error e=>exact(hCX H e s' h).elim
  |ok fl=>
   cases fl with
   |next=>exact False.elim h
   |brk=>exact False.elim h
   |cont=>exact False.elim h
   |ret u=>
    obtain⟨v,H',os,bare,un,Z,r',q⟩:=h;have q':v=.bl true:=q;subst q';obtain rfl:u=Value.bool true:=r';refine⟨rfl,OldK.of_keep fun b o e=>?_,os,bare⟩;cases q:H b with
    |none=>exact un.keep b o e q (by intro z;exact absurd (show b∈([]:List Addr) from z) (by simp)) (by simp)
    |some u=>
     rcases hO b with z|⟨ob,xs,z⟩
     .rw[q]at z;cases z
     .have z2:=un.JE b ob _ z;obtain⟨e1,_⟩:=Ah b _ z;obtain⟨e2,_⟩:=Z b _ z2;rw[e]at e1;cases e1;exact e2
 cases hk:K.lookup a with
 |some o=>
  have e:=KX a o hk;rw[ha]at e;cases e;refine core (fun _=>none) (fun _=>.inl rfl) (.inr ⟨_,vs.toArray,_,hk,rfl,rfl,rfl,by rw[List.size_toArray,Y];exact hl,by simpa using rv⟩) (fun b u z=>by have U:(none:Option HO)=some u:=z;cases U) (fun b z=>absurd rfl z) fun z=>absurd rfl z
 |none=>
  refine core (fun b=>if b=a then some (.JK { cls:=.type "list",data:=.seq vs.toArray} (.lst (ns.map V.int))) else none) (fun b=>?_) (.inl (.inr ⟨{ cls:=.type "list",data:=.seq vs.toArray},if_pos rfl⟩)) (fun b u z=>?_) (fun b z=>?_) fun _=>hk
  .by_cases I:b=a
   .exact .inr ⟨_,_,if_pos I⟩
   .exact .inl (if_neg I)
  .by_cases I:b=a
   .have U:=(if_pos I).symm.trans z;cases U;subst I;exact⟨ha,by rw[List.length_map];exact hl,vs,_,rv,ha⟩
   .have U:=(if_neg I).symm.trans z;cases U
  .by_cases I:b=a
   .exact I
   .exact absurd (if_neg I) z
theorem Z0{l:PySem.W.OpenLaw}{n k:Nat}{q:Program}{loose:List Str}{XP:(Str->Option Value)->Heap->Prop}{YP:World->Heap->Prop}{d:DefRec}{K:Params->PySem.W.Frag}{CX:World->He}{sp:World->Sp}{x:Str}
 (hn:l.most=some n)(hn2:n<=sizeLine)(hdf:d.params.defaults=[])(hr:Dr k callerA)(hkt:∀(w:World) (mg:Str->Option Value) (h:Heap),(K w.params).In h->h.Ns mainGlobals mg->∀H,KTb mg H)
 (hY:∀(w:World) (h:Heap),YP w h->(K w.params).In h)
 (F:∀(w:World) (mg:Str->Option Value) (U:Addr) (h:Heap),(K w.params).In h->h.Ns mainGlobals mg->mg d.name=some (.ref U) ->
   ∃fd:FuncData,(∀(s:Shared) (u:Value),BindsTo s fd ⟨[u],[]⟩ [(x,u)]) /\
    ∀base:Heap,(K w.params).In base->base.Ns mainGlobals mg->AL l.prog w (K w.params) mg base (CX w) k U fd [x] (sp w))
 (Z:∀(w:World) (H:Hp) (a:Addr) (ns:List Int),ns.length<=n->Xg H->AO (K w.params) H a (ns.map V.int)->sp w [.ref a] H (fun v _=>v=.bl true) fun _ _ _=>False)
 (hCX:∀(w:World) (H:Hp) (s:Shared) (e:Value) (s':Shared),CX w [] H s (fun _ _ _=>False) e s'->False) :
  PySem.W.WalkO q loose XP YP l.row.toRowW d [] (fun f vs=>PySem.call f vs):=by
 refine Att.S4 hn hdf fun w s₀ M mg mb U o pm cd doc a vs ns G Y ho hd hcd hmg R hints I hg=>?_;have KX:=hY w _ Y;obtain⟨fd,hb,hF⟩:=F w mg U _ KX G.T.g hmg;exact X7 (hkt:=hkt w mg _ KX G.T.g) KX G.T.g G.T.b G.T.builtins G.T.nolimit hg R hints (aU I hn2) hr hF hb (fun H hO hS=>Z w H a ns I hO hS) fun H e s'=>hCX w H M e s'
abbrev AY:He:=fun _ _ _ _ _ _=>False
abbrev E0:XK:=fun _ _ _=>False
theorem ip{X:Cx}:Passes AY X E0:=fun _ _ _ _ _ _ _ h=>h.elim
structure Us(K:PySem.W.Frag)(x qual:Str)(st:Stmt)(f:Addr)(fd:FuncData):Prop where
 ex:∃(oc:Value) (od:Option Addr) (kV doc pm:Value) (an:Option Addr) (cdv ct:Value) (osl:Array (Option Value)),
  fd=PySem.W.fnOf x qual (FL st) (DZ st) (AN st) .none kV doc pm an cdv ct/\K.lookup f=some ⟨oc,od,.func fd,osl⟩/\PySem.W.codeIn K cdv qual=true
 kp:PySem.W.keepIn K (.ref f)=true
section
variable{P:Program}{w:World}{K:PySem.W.Frag}{mg:Str->Option Value}{base:Heap}
theorem Us.ok{x qual:Str}{st:Stmt}{f:Addr}{fd:FuncData}{N ps:List Str}{k:Nat}{sp:Sp}(F:Us K x qual st f fd)(S:Ab N ps (AN st))(len:∀vs H Q E,sp vs H Q E->vs.length=ps.length)
 (g:∀(cdv:Value) (A:Around) (outer:List Env) (s:Shared) (H:Hp) (vs:List V) (Q:VK) (E:XK),Dr k (A.deeper (envOfC qual (AN st) s.heap.objs.size f cdv))->sp vs H Q E ->
   ∃t,Ig (LN AY P w K mg base N qual (AN st) f cdv A outer s H E).Ug (DZ st) t/\t { nx:=fun _ H'=>Q .BM H',rt:=Q} (start N vs) H):AL P w K mg base AY (k+1) f fd ps sp:=by
 obtain⟨oc,od,kV,doc,pm,an,cdv,ct,osl,rfl,lk,M⟩:=F.ex;refine hV lk M S len fun A outer s H vs Q E R I=>?_;obtain⟨t,h,q⟩:=g cdv A outer s H vs Q E R I;exact⟨t,h.Ug,q⟩
theorem Us.binds{x qual:Str}{st:Stmt}{f:Addr}{fd:FuncData}{ps:List Str}(F:Us K x qual st f fd)
 (h:∀(kV doc pm:Value) (an:Option Addr) (cdv ct:Value) (us:List Value),us.length=ps.length->bindArgs (PySem.W.fnOf x qual (FL st) (DZ st) (AN st) .none kV doc pm an cdv ct) ⟨us,[]⟩=pure (ps.zip us)):Binds K fd ps []:=by
 obtain⟨oc,od,kV,doc,pm,an,cdv,ct,osl,rfl,lk,g⟩:=F.ex;exact .all (h kV doc pm an cdv ct)
theorem WU{x qual:Str}{st:Stmt}{f:Addr}{oc:Value}{od an:Option Addr}{osl:Array (Option Value)}{kV doc pm cdv ct:Value}(l:K.lookup f=some ⟨oc,od,.func (PySem.W.fnOf x qual (FL st) (DZ st) (AN st) .none kV doc pm an cdv ct),osl⟩)
 (c:PySem.W.codeIn K cdv qual=true)(k:PySem.W.keepIn K (.ref f)=true):Us K x qual st f (PySem.W.fnOf x qual (FL st) (DZ st) (AN st) .none kV doc pm an cdv ct):=⟨⟨oc,od,kV,doc,pm,an,cdv,ct,osl,rfl,l,c⟩,k⟩
end
theorem P6{n:Nat}(h:n<=1000):n<sizeLine:=aL h (by decide)
section
variable{X:Cx}
theorem pv(i:Nat){x:Str}{pos:Pos}(M:X.N[i]? = some x:=by rfl)(I:fU X.env.scope x:=by first|exact Or.inl rfl|exact Or.inr (Or.inl rfl)|exact Or.inr (Or.inr rfl))(hd:(x==("__debug__" : Str))=false:=by decide)
 (g:(x==("__classdict__" : Str))=false:=by decide):PE X (.Name x pos) (VG i):=cI M I hd g
end
theorem DJ{A B:Prop}(h:B):if false=true then A else B:=by
 rw[if_neg aO];exact h
theorem BA{A B:Prop}(h:A):if true=true then A else B:=by
 rw[if_pos rfl];exact h
theorem BP{c A B:Prop}[Decidable c](h1:c->A)(g:¬c->B):if c then A else B:=by
 by_cases h:c
 .rw[if_pos h];exact h1 h
 .rw[if_neg h];exact g h
def AG(H H':Hp):Prop:=∀b o,H b=some o->H' b=some o
theorem AG.refl(H:Hp):AG H H:=fun _ _ h=>h
theorem AG.trans{H H1 g:Hp}(a:AG H H1)(b:AG H1 g):AG H g:=fun c o h=>b c o (a c o h)
theorem AG.seq{K:PySem.W.Frag}{H H':Hp}{a:Addr}{xs:List V}(e:AG H H')(h:AO K H a xs):AO K H' a xs:=by
 rcases h with (h|⟨o,h⟩)|h
 .exact .inl (.inl (e _ _ h))
 .exact .inl (.inr ⟨o,e _ _ h⟩)
 .exact .inr h
section
variable{X:Cx}
def L8(i j:Int):Prop:=∃m:Nat,m<=1000000/\i.natAbs<2^m/\j.natAbs<2^m
theorem L8.ok{i j:Int}(h:L8 i j):IntMulOk i j:=by
 obtain⟨m,hm,I,g⟩:=h;exact IntMulOk.of_le (intBits_le_iff.mpr I) (intBits_le_iff.mpr g) (by lia)
theorem A9:Cn X (binaryOp .Mult) (rI (fun i j=>OA i j\/L8 i j) fun i j=>.int (i*j)) :=
 UQ fun _ _ _ _ _ _ _ g q=>mul_int q (g.elim (fun z=>z.ok) fun z=>z.ok)
def gR(_i j:Int):Prop:=j≠0/\∃m:Nat,m<=9000/\j.natAbs<2^m
theorem DL:Cn X (binaryOp .FloorDiv) (rI gR fun i j=>.int (i.fdiv j)):=UQ fun i j _ _ _ _ _ I q=>by
 obtain⟨h0,m,hm,M⟩:=I;refine floordiv_int h0 q (.inl (PyProof.noPylong_of_log2 ?_));have g:j.natAbs≠0:=by lia
 have:j.natAbs.log2<m:=(Nat.log2_lt g).mpr M
 lia
mutual
def Br(K:PySem.W.Frag)(H:Hp):PyData->V->Prop
 |.none,v=>v=.BM
 |.bool b,v=>v=.bl b
 |.int i,v=>v=.int i
 |.str x,v=>v=.str x
 |.tuple g,v=>∃a xs,v=.ref a/\Af K H a xs/\Dz K H g xs
 |.list g,v=>∃a xs,v=.ref a/\AO K H a xs/\Dz K H g xs
 |.dict _,_=>False
def Dz(K:PySem.W.Frag)(H:Hp):List PyData->List V->Prop
 |[],xs=>xs=[]
 |d::g,xs=>∃x r,xs=x::r/\Br K H d x/\Dz K H g r
end
theorem AG.tup{K:PySem.W.Frag}{H H':Hp}{a:Addr}{xs:List V}(e:AG H H')(h:Af K H a xs):Af K H' a xs:=by
 rcases h with (h|⟨o,h⟩)|h
 .exact .inl (.inl (e _ _ h))
 .exact .inl (.inr ⟨o,e _ _ h⟩)
 .exact .inr h
mutual
theorem Br.reads{pins:List (Addr×Obj)}{σ:St}{H:Hp}{s:Shared}(I:Inv X pins σ H s):∀ {d:PyData} {v:V} {u:Value},Br X.K H d v->RelV v u->∃as,Reads s.heap u d as
 |.none,_,u,h,r=>by rw[Br]at h;subst h;cases r;exact⟨_,.none⟩
 |.bool b,_,u,h,r=>by rw[Br]at h;subst h;cases r;exact⟨_,.bool b⟩
 |.int i,_,u,h,r=>by rw[Br]at h;subst h;obtain⟨t,rfl⟩:=r;exact⟨_,.int i t⟩
 |.str x,_,u,h,r=>by rw[Br]at h;subst h;obtain⟨t,rfl⟩:=r;exact⟨_,.str x t⟩
 |.tuple ds,_,u,h,r=>by
  rw[Br]at h;obtain⟨a,xs,Z,Y,U⟩:=h;subst Z;cases r;obtain⟨R,g,⟨o,e,c,n,hd⟩,_⟩:=I.tuple Y;obtain⟨as,M⟩:=Dz.reads I U g;exact⟨_,.tuple e c hd (by simpa using M)⟩
 |.list ds,_,u,h,r=>by
  rw[Br]at h;obtain⟨a,xs,Z,Y,U⟩:=h;subst Z;cases r;obtain⟨R,g,⟨o,n,e,c,_,hd⟩,_⟩:=I.list Y;obtain⟨as,M⟩:=Dz.reads I U g;exact⟨_,.list e c hd (by simpa using M)⟩
 |.dict _,_,_,h,_=>by rw[Br]at h;exact h.elim
theorem Dz.reads{pins:List (Addr×Obj)}{σ:St}{H:Hp}{s:Shared}(I:Inv X pins σ H s):∀ {ds:List PyData} {xs:List V} {us:List Value},Dz X.K H ds xs->Vals xs us->∃as,ReadsAll s.heap us ds as
 |[],_,us,h,r=>by rw[Dz]at h;subst h;cases r;exact⟨_,.nil⟩
 |_::_,_,us,h,r=>by
  rw[Dz]at h;obtain⟨x,q,e1,Z,Y⟩:=h;subst e1;cases r with
  |cons U R=>
   obtain⟨as,M⟩:=Br.reads I Z U;obtain⟨bs,g⟩:=Dz.reads I Y R;exact⟨_,.cons M g⟩
end
def eS(K:PySem.W.Frag)(neg:Bool):R2:=fun x y H Q=>∃d e,Br K H d x/\Br K H e y/\SeqAt.shaped d=true/\SeqAt.shaped e=true/\Q (.bl (if neg then !PyData.eqv d e else PyData.eqv d e)) H
theorem WQ(Y:X.A.units+64<cLine):Cn X (compareOp .NotEq) (eS X.K true):=by
 intro pins s σ H x y v u Q I M g h;obtain⟨d,e,h1,Z,s1,s2,q⟩:=h;obtain⟨as,U⟩:=Br.reads I h1 M;obtain⟨bs,R⟩:=Br.reads I Z g;exact ne_dataH U R s1 s2 Y ⟨.bl _,H,I,rfl,q⟩
end
def J9(X:Cx)(g:List Expr)(t:TT):Prop :=
 ∀(pins:List (Addr×Obj)) (s:Shared) (σ:St) (H:Hp) (Q:Bool->Hp->Prop),Inv X pins σ H s->t σ H Q ->
  wpAny (model X.prog X.w) X.A (forIn g true fun c r=>if r=true then do let ok <-isTrue c X.env (eval c X.env);pure (ForInStep.yield ok) else pure (ForInStep.yield r)) (TP X pins σ Q) X.xe s
def Bj:TT:=fun _ H Q=>Q true H
theorem BC{X:Cx}:J9 X [] Bj:=fun _ _ σ H _ I h=>wpAny_tests_nil ⟨H,I,h⟩
def En(N I:List Str)(sc g:Scope):List (Option Nat)->Nat->Bool
 |[],_=>true
 |none::r,i=>En N I sc g r (i+1)
 |some j::r,i=>(match N[i]?,I[j]? with
   |some n,some m=>n==m&&sc.names.lookup n==some .free&&g.names.lookup n==some .cell
   |_,_=>false)&&En N I sc g r (i+1)
theorem Mp{N R:List Str}{sc g:Scope}:∀ {fr:List (Option Nat)} {k:Nat},En N R sc g fr k=true->∀ {i j:Nat},fr[i]? = some (some j) ->
  ∃n,N[k+i]? = some n/\R[j]? = some n/\sc.names.lookup n=some .free/\g.names.lookup n=some .cell
 |[],_,_,i,j,e=>by simp at e
 |none::r,k,h,0,j,e=>by simp at e
 |none::r,k,h,i+1,j,e=>by
  have q:=Mp (fr:=r) (k:=k+1) h (i:=i) (j:=j) (by simpa using e);have z:k+(i+1)=k+1+i:=by lia
  rw[z];exact q
 |some M::r,k,h,0,j,e=>by
  have Z:M=j:=by simpa using e
  subst Z;rw[En,Bool.and_eq_true]at h;have I:=h.1;split at I
  .rename_i n m hn hm;simp only[Bool.and_eq_true,beq_iff_eq]at I;obtain⟨⟨rfl,Y⟩,U⟩:=I;exact⟨n,by simpa using hn,hm,Y,U⟩
  .cases I
 |some M::r,k,h,i+1,j,e=>by
  rw[En,Bool.and_eq_true]at h;have q:=Mp (fr:=r) (k:=k+1) h.2 (i:=i) (j:=j) (by simpa using e);have z:k+(i+1)=k+1+i:=by lia
  rw[z];exact q
def carry(fr:List (Option Nat))(σ:St):St:=fr.map fun o=>match o with
 |some j=>(σ[j]?).join
 |none=>none
theorem Vv{fr:List (Option Nat)}{σ:St}{i:Nat}{v:V}(h:(carry fr σ)[i]? = some (some v)):∃j,fr[i]? = some (some j)/\σ[j]? = some (some v):=by
 unfold carry at h;rw[List.getElem?_map]at h;cases e:fr[i]? with
 |none=>rw[e]at h;cases h
 |some o=>
  rw[e]at h;cases o with
  |none=>simp at h
  |some j=>
   refine⟨j,rfl,?_⟩;simp only[Option.map_some,Option.some.injEq]at h;cases q:σ[j]? with
   |none=>rw[q]at h;cases h
   |some w=>rw[q]at h;simp at h;rw[h]
theorem FP{env:Env}:∀(names:List (Str×NameKind)) (cs:List (Str×Addr)),(∀x∈names,x.2=NameKind.free->∃c,env.cells.lookup x.1=some c)->(∀x c,cs.lookup x=some c->env.cells.lookup x=some c) ->
  ∃cl,(forIn names cs (fun(x:Str×NameKind) (r:List (Str×Addr))=>do if(x.2==NameKind.free)=true then do let a <-cellOf env x.1;pure (ForInStep.yield ((x.1,a)::r)) else pure (ForInStep.yield r)):Sem (List (Str×Addr)))=pure cl /\
   (∀x c,cl.lookup x=some c->env.cells.lookup x=some c)/\(∀x,(∃c,cs.lookup x=some c)->∃c,cl.lookup x=some c)/\∀x∈names,x.2=NameKind.free->∃c,cl.lookup x.1=some c
 |[],cs,_,U=>⟨cs,rfl,U,fun _ q=>q,fun _ z=>(by cases z)⟩
 |(n,k)::r,cs,h1,U=>by
  rw[List.forIn_cons];by_cases R:(k==NameKind.free)=true
  .obtain⟨c,hc⟩:=h1 (n,k) aR (by simpa using R);have h2':∀x I,((n,c)::cs).lookup x=some I->env.cells.lookup x=some I:=fun x I e=>by
    rw[List.lookup_cons]at e;cases g:x==n with
    |true=>rw[g]at e;have:=beq_iff_eq.mp g;subst this;simp at e;rw[<-e];exact hc
    |false=>rw[g]at e;exact U x I e
   obtain⟨cl,q1,Z,M,Y⟩:=FP r ((n,c)::cs) (fun x g=>h1 x (aM _ g)) h2';have hn:∃I,cl.lookup n=some I:=M n ⟨c,by rw[List.lookup_cons,beq_self_eq_true]⟩;refine⟨cl,?_,Z,fun x g=>?_,fun x g hf=>?_⟩
   .simp only[R,if_true];unfold cellOf;rw[hc];exact q1
   .refine M x ?_;rw[List.lookup_cons];cases hxn:x==n with
    |true=>exact⟨c,rfl⟩
    |false=>exact g
   .rcases aY.mp g with e|g
    .subst e;exact hn
    .exact Y x g hf
  .obtain⟨cl,q1,Z,M,Y⟩:=FP r cs (fun x g=>h1 x (aM _ g)) U;refine⟨cl,?_,Z,M,fun x g hf=>?_⟩
   .simp only[R];exact q1
   .rcases aY.mp g with e|g
    .subst e;exact absurd (by simpa using hf) R
    .exact Y x g hf
def Ap(X:Cx)(scope:Scope)(cl:List (Str×Addr))(N:List Str)(C:Addr)(s₀:Shared)(H₀:Hp)(fp:List Addr):Cx where
 prog:=X.prog
 w:=X.w
 K:=X.K
 mg:=X.mg
 base:=X.base
 A:=X.A
 N:=N
 s₀:=s₀
 H₀:=H₀
 env:=compEnvC scope cl C X.env
 outer:=X.stack
 stack:=X.stack
 ex:=fp
 fn:=fun _=>false
 calm:=X.calm
 pn:=[]
 xe:=fun _ _=>False
def L4(U:TI)(fr:List (Option Nat))(ix:Nat)(I:TT)(Y:TE):TE:=fun σ H Q=>U σ H fun J H1=>∀D,H1 D=none->∃W:Nat->Nat->List V->Hp->Prop,(∃m,W 0 m [] (upd H1 D (.lst []))) /\
 ∀i m ys H,W i m ys H->H D=some (.lst ys)/\((J.stop i H/\Q (.ref D) H)\/(J.go i H/\ys.length<sizeLine/\∀x H',J.Ec i H x H' ->
  I ((carry fr σ).set ix (some x)) H' fun b R=>if b=true then Y ((carry fr σ).set ix (some x)) R fun y M=>M D=some (.lst ys)/\∃g,g<m/\W (i+1) g (ys++[y]) (upd M D (.lst (ys++[y])))
   else ∃g,g<m/\W (i+1) g ys R))
structure Cj(scope:Scope)(N:List Str)(x:Str)(ix:Nat):Prop where
 kind:scope.kind=.function
 cell:∀y∈scope.names,y.2≠.cell
 names:∀y∈scope.names,y.2=.local->scope.names.lookup y.1=some .local
 free:∀y∈scope.names,y.2=.free->scope.names.lookup y.1=some .free
 loc:scope.names.lookup x=some .local
 nd:N.Nodup
 at_:N[ix]? = some x
theorem lookup_mem{names:List (Str×NameKind)}{n:Str}{k:NameKind}:names.lookup n=some k->(n,k)∈names:=by
 induction names with
 |nil=>intro h;cases h
 |cons y r g=>
  intro h;obtain⟨m,j⟩:=y;rw[List.lookup_cons]at h;cases e:n==m with
  |true=>rw[e]at h;have:=beq_iff_eq.mp e;subst this;simp at h;subst h;exact aR
  |false=>rw[e]at h;exact aM _ (g h)
theorem Qw{scope:Scope}{env:Env}(Z:∀y∈scope.names,y.2≠.cell){n:Str}(h:(relabel scope env).names.lookup n=some .cell\/(relabel scope env).names.lookup n=some .free):∃k,(n,k)∈scope.names/\k=NameKind.free:=by
 have key:∀I,(relabel scope env).names.lookup n=some I->(I=.cell\/I=.free)->∃k,(n,k)∈scope.names/\k=NameKind.free:=fun I h Y=>by
  have hm:=lookup_mem h;unfold relabel at hm;obtain⟨⟨m,k⟩,M,e⟩:=aJ.mp hm;dsimp only at e;by_cases g:(k==NameKind.free&&env.scope.kind==.function&&env.kindOf m==some .cell)=true
  .rw[if_pos g]at e
   injection e with R U
   subst R;refine⟨k,M,?_⟩;simp only[Bool.and_eq_true,beq_iff_eq]at g;exact g.1.1
  .rw[if_neg g]at e
   injection e with R U
   subst R U;rcases Y with rfl|rfl
   .exact absurd rfl (Z _ M)
   .exact⟨_,M,rfl⟩
 rcases h with h|h
 .exact key _ h (.inl rfl)
 .exact key _ h (.inr rfl)
section
variable{X:Cx}{elt iter:Expr}{x:Str}{px pos:Pos}{ifs:List Expr}{scope:Scope}{wi:TI}{fr:List (Option Nat)}{ix:Nat}{tif:TT}{te:TE}{N:List Str}
theorem JT{prog:Program}{w:World}{A:Around}{R:Result->Shared->Prop}{s:Shared}{elt target iter:Expr}{ifs:List Expr}{scope:Scope}{pos:Pos}{it acc:Value}{env:Env}(I:Nat->Shared->Prop)
 (turn:∀n s,I n s->wpAny (model prog w) A (pyNext it) (fun r g=>match r with
   |none=>R (.ok .next) g
   |some v=>wpAny (model prog w) A (letOwnedTupleGo target it v>>=fun _=>assign target env v) (fun _ Z=>
     wpAny (model prog w) A (forIn ifs true fun c r=>if r=true then do let ok <-isTrue c env (eval c env);pure (ForInStep.yield ok) else pure (ForInStep.yield r)) (fun ok M=>
      if ok=true then wpAny (model prog w) A (eval elt env) (fun x Y=>
       wpAny (model prog w) A (call (.builtin "list.append") [acc,x]) (fun _ U=>∃m,m<n/\I m U) (notedBy (model prog w) A env fun e s'=>R (.error e) s') Y) (notedBy (model prog w) A env fun e s'=>R (.error e) s') M
      else ∃m,m<n/\I m M) (notedBy (model prog w) A env fun e s'=>R (.error e) s') Z) (notedBy (model prog w) A env fun e s'=>R (.error e) s') g) (notedBy (model prog w) A env fun e s'=>R (.error e) s') s)
 (n:Nat)(h:I n s) :
  codeAny (model prog w) A (.compLoop (.ListComp elt [⟨target,iter,ifs,0⟩] scope pos) 0 it acc env) R s:=by
 refine codeAny_loop rfl I (fun n s hI=>?_) n h;show wpAny _ A ((compTurn (.ListComp elt [⟨target,iter,ifs,0⟩] scope pos) 0 it acc env).onRaise (fun x=>do noteFrame x env;theTreesLotGoes x)) _ _ s;refine wpAny_noted ?_;rw[compTurn_list];refine aA (wpAny_standAt (aA (ak (turn n s hI) (fun r g h₁=>?_) fun _ _ h'=>h')));cases r with
 |none=>exact aC h₁
 |some v=>
  show wpAny (model prog w) A (letOwnedTupleGo target it v>>=fun _=>assign target env v>>=_) _ _ g;rw[<-bind_assoc];refine aA (ak h₁ (fun _ Z h₂=>aA (ak h₂ (fun ok M h₃=>?_) fun _ _ h'=>h')) fun _ _ h'=>h');cases ok with
  |false=>exact aC ⟨rfl,h₃⟩
  |true=>
   exact aA (aA (ak h₃ (fun x Y h₄=>aA (ak h₄ (fun _ U h₅=>aC (aC ⟨rfl,h₅⟩)) fun _ _ h'=>h')) fun _ _ h'=>h'))
theorem MO{pins:List (Addr×Obj)}{σ:St}{U:Hp}{s2:Shared}{Q:VK}{it:Addr}{fp:List Addr}{tn:Nat->Heap->Prop}{J:It}{cl:List (Str×Addr)}{E:Value->Shared->Prop}{RR:Value->Addr->Result->Shared->Prop}
 (S:Cj scope N x ix)(hcalm:X.calm=true){tgE:Expr}{g:TG}(Rv:St->Prop)(r0:Rv (carry fr σ))(hpg:∀C,PG (Ap X scope cl N C s2 U fp) tgE g)(hfr:En N X.N scope X.env.scope fr 0=true)(hlen:fr.length=N.length)
 (hif:∀cl C s₀ H₀ fp,J9 (Ap X scope cl N C s₀ H₀ fp) ifs tif)(he:∀cl C s₀ H₀ fp,PE (Ap X scope cl N C s₀ H₀ fp) elt te)
 (R:Inv X pins σ U s2)(T:Turn X.prog X.w X.K tgE J fp it tn)(st2:tn 0 s2.heap)(f2:∀b∈fp,Jp X pins U b)
 (c1:∀x c,cl.lookup x=some c->X.env.cells.lookup x=some c)(c2:∀x∈scope.names,x.2=NameKind.free->∃c,cl.lookup x.1=some c)
 (W:∀D,U D=none->∃W:Nat->Nat->List V->Hp->Prop,(∃m,W 0 m [] (upd U D (.lst []))) /\
   ∀i m ys H,W i m ys H->H D=some (.lst ys)/\((J.stop i H/\Q (.ref D) H)\/(J.go i H/\ys.length<sizeLine/\∀x H',J.Ec i H x H'->∀σ',Rv σ'->g x σ' H' fun σ6 H6=>Rv σ6 /\
    tif σ6 H6 fun b U=>if b=true then te σ6 U fun y H3=>H3 D=some (.lst ys)/\∃m',m'<m/\W (i+1) m' (ys++[y]) (upd H3 D (.lst (ys++[y])))
     else ∃m',m'<m/\W (i+1) m' ys U)))
 (fin:∀(D C:Addr) (s':Shared) (H':Hp) m,s'.heap.Ns C m->Q (.ref D) H'->(∀h',Heap.SameBut C s'.heap h'->Inv X pins σ H' { s' with heap:=h'})->C≠D->(∀b o,s2.heap.get? b=some o->b≠C)->H' C=none->s2.heap.objs.size<=C->RR (.ref D) C (.ok .next) s') :
  wpAny (model X.prog X.w) X.A (newList []) (fun acc s₃=>wpAny (model X.prog X.w) X.A (newFunctionEnv scope X.env.globals cl [] X.env.qual none .none (some X.env)) (fun cenv s₄=>
   codeAny (model X.prog X.w) X.A (.compStart (.ListComp elt [⟨tgE,iter,ifs,0⟩] scope pos) 0 (.ref it) acc {cenv with scope:=relabel scope X.env}) (RR acc cenv.locals) s₄) E s₃) E s2:=by
 refine aZ (wpAny_newFunctionEnv S.cell (by intro y hy;simp at hy) (fun h₁ Z M=>?_) S.kind);dsimp only at Z M ⊢;generalize hHp:s2.heap.push { cls:=.type "list",dict:=none,data:=.seq ([]:List Value).toArray}=Y at Z M ⊢;have hC:Y.objs.size=s2.heap.objs.size+1:=by rw[<-hHp,Heap.size_push]
 have hDC:s2.heap.objs.size≠Y.objs.size:=by rw[hC];exact aT (Nat.lt_succ_self _)
 have below:∀b,b<s2.heap.objs.size->b≠Y.objs.size/\b≠s2.heap.objs.size:=fun b I=>⟨by rw[hC];exact aT (bX I),Nat.ne_of_lt I⟩;have old:∀b o,s2.heap.get? b=some o->h₁.get? b=some o:=fun b o e=>M.extBut b o (below b (aG e)).1 (aE _ (hHp ▸ aE _ e));have hacc:h₁.get? s2.heap.objs.size=some { cls:=.type "list",data:=.seq ([]:List Value).toArray}:=M.extBut _ _ hDC (aE _ (hHp ▸ aX _ rfl));have hD2:U s2.heap.objs.size=none:=R.Ah.fresh (aD _);have hC2:U Y.objs.size=none:=R.Ah.fresh (by rw[hC];exact Nat.le_succ _);have fpo:∀b∈fp,b<s2.heap.objs.size:=fun b I=>by
  obtain⟨o,e,_⟩:=T.obj _ _ st2 b I;exact aG e
 obtain⟨W,⟨m0,w0⟩,turn⟩:=W s2.heap.objs.size hD2;have ok:(Ap X scope cl N Y.objs.size s2 U fp).Ok:=by
  refine⟨R.ok.mod,S.kind,R.ok.glob,R.ok.blt,by show s2.heap.objs.size<=Y.objs.size;rw[hC];exact Nat.le_succ _,?_,?_,?_,fun _=>R.ok.hd hcalm,R.ok.frames,.inl rfl,?_,R.bs,Nat.le_trans R.ok.P5 R.sz,?_,?_,R.stack,R.Uj,R.kt⟩
  .exact fun a b c h1 h2=>R.ok.inj a b c (c1 _ _ h1) (c1 _ _ h2)
  .intro y hy;obtain⟨k,hm,rfl⟩:=Qw S.cell hy;exact c2 _ hm rfl
  .intro y c hf;cases hf
  .intro b I;refine⟨(below b (fpo b I)).1,fun y c e=>?_⟩;obtain⟨_,_,_,_,f5,_⟩:=f2 b I;exact f5 y c (c1 _ _ e)
  .intro b o e I;obtain⟨_,_,_,f4,_,_⟩:=f2 b I;rcases f4 with z|z
   .exact R.ok.RC b o e z
   .exact absurd (aN (aG e) (aU R.ok.P5 z)) (Nat.lt_irrefl _)
  .intro b I hs;obtain⟨_,f1,f3,_⟩:=f2 b I;rcases aY.mp (R.R6 b hs) with z|z
   .exact f1 z
   .exact f3 z
 have I4:Inv (Ap X scope cl N Y.objs.size s2 U fp) [] (carry fr σ) (upd U s2.heap.objs.size (.lst [])) {s2 with heap:=h₁,toks:=s2.toks+([]:List (Str×Value)).length}:=by
  refine⟨ok,rfl,R.bare,Un.laid old (aD _) hD2,⟨_,Z,fun i y v h1 h2 h3=>?_⟩,fun y c e=>?_,?_,fun y c e=>?_,fun p hp=>(by cases hp),R.Ah.laid old (aD _) ⟨ah _,[],0,.nil,hacc⟩,?_⟩
  .obtain⟨j,e1,e2⟩:=Vv h2;obtain⟨n,n1,n2,n3,n4⟩:=Mp hfr e1;rw[Nat.zero_add]at n1;have:y=n:=by
    have h1':N[i]? = some y:=h1;rw[h1']at n1;exact ae n1
   subst this;obtain⟨m,hn,hl⟩:=R.loc;obtain⟨u,ru,lk⟩:=hl j y v n2 e2 (.inr (.inl n4));refine⟨u,ru,?_⟩;obtain⟨c,hc⟩:=c2 _ (lookup_mem n3) rfl;rcases lk with ⟨k1,_⟩|⟨_,c',hc',hcell⟩
   .have k1':X.env.scope.names.lookup y=some .local:=k1;rw[n4]at k1';cases k1'
   .have:=c1 _ _ hc;rw[hc']at this;cases this;refine .inr ⟨?_,c,hc,hcell.keeps old⟩;rcases h3 with z|z|z
    .obtain⟨k,hm⟩:∃k,(y,k)∈scope.names/\k=NameKind.local:=by
      have hm:=lookup_mem z;have hm':(y,NameKind.local)∈(relabel scope X.env).names:=hm;unfold relabel at hm';obtain⟨⟨m',k⟩,hy,e⟩:=aJ.mp hm';dsimp only at e;by_cases hcond:(k==NameKind.free&&X.env.scope.kind==.function&&X.env.kindOf m'==some .cell)=true
      .rw[if_pos hcond]at e;injection e with _ e2';cases e2'
      .rw[if_neg hcond]at e;injection e with e1' e2';subst e1' e2';exact⟨_,hy,rfl⟩
     obtain⟨hm,rfl⟩:=hm;have:=S.names _ hm rfl;rw[n3]at this;cases this
    .exact .inl z
    .exact .inr z
  .obtain⟨v,z⟩:=R.cell y c (c1 _ _ e);exact⟨v,z.keeps old⟩
  .show upd U s2.heap.objs.size _ Y.objs.size=none;rw[AI (Ne.symm hDC)];exact hC2
  .obtain⟨v,o,ho,_⟩:=R.cell y c (c1 _ _ e);rw[AI (below c (aG ho)).2];exact R.HP y c (c1 _ _ e)
  .show(carry fr σ).length=N.length;unfold carry;rw[List.length_map];exact hlen
 have fpX:∀(p:List (Addr×Obj)) (H':Hp),(∀q∈p,q.1∈fp->False)->(∀b∈fp,H' b=none)->∀b∈fp,Jp (Ap X scope cl N Y.objs.size s2 U fp) p H' b:=fun p H' hp hn b I=>by
  obtain⟨_,f1,f3,f4,f5,_⟩:=f2 b I;refine⟨hn b I,(below b (fpo b I)).1,fun hs=>ok.SU b I hs,.inl I,fun y c e=>f5 y c (c1 _ _ e),fun q hq e=>?_⟩;exact hp q hq (e ▸ I)
 have hxv:(relabel scope X.env).names.lookup x=some .local:=lookup_relabel_local S.loc;have loop:∀s₃:Shared,s₃={s2 with heap:=h₁,toks:=s2.toks+([]:List (Str×Value)).length} ->
   codeAny (model X.prog X.w) X.A (.compLoop (.ListComp elt [⟨tgE,iter,ifs,0⟩] scope pos) 0 (.ref it) (.ref s2.heap.objs.size) (compEnvC scope cl Y.objs.size X.env)) (RR (.ref s2.heap.objs.size) Y.objs.size) s₃:=by
  rintro s₃ rfl;refine JT (fun n s'=>∃i ys σ' H',Inv (Ap X scope cl N Y.objs.size s2 U fp) [] σ' H' s'/\Rv σ'/\tn i s'.heap/\(∀b∈fp,H' b=none)/\W i n ys H') ?_ m0
   ⟨0,[],carry fr σ,_,I4,r0,T.keep _ _ _ st2 fun b _ o e=>old b o e,fun b I=>by rw[AI (below b (fpo b I)).2];exact(f2 b I).1,w0⟩
  rintro n s3 ⟨i,ys,σ3,H3,I3,hσ,st3,fr3,w3⟩;obtain⟨hD3,way⟩:=turn i n ys H3 w3;rcases way with ⟨stop,qn⟩|⟨go,hsz,step⟩
  .refine ak (T.done (Ap X scope cl N Y.objs.size s2 U fp) rfl rfl rfl hcalm i [] s3 σ3 H3 (fun _ _=>False) I3 (fpX [] H3 (fun _ z=>by cases z) fr3) st3 stop) (fun r s4 ⟨hr,I5⟩=>?_) fun _ _ z=>z.elim;subst hr;obtain⟨m,hn,_⟩:=id I5.loc;refine fin _ _ s4 H3 m hn qn (fun h' hs'=>?_) (Ne.symm hDC) (fun b o e=>(below b (aG e)).1) I5.free (by rw[hC];exact Nat.le_succ _);have nC:∀b u,H3 b=some u->b≠Y.objs.size:=fun b u e z=>by
    have:=I5.free;rw[show(Ap X scope cl N Y.objs.size s2 U fp).env.locals=Y.objs.size from rfl,<-z,e]at this;cases this
   have keepU:Un (Kq X.stack) fp U H3 s2.heap h':=by
    have u:=I5.base;refine⟨fun b o e n I hx=>?_,fun b o e n I hx=>?_,fun b o e n hx=>u.free b o e n hx,fun b o e hx=>?_,u.JG,u.JE,u.Kc,fun b xs o q e hx=>(hs'.2 b (below b (aG e)).1).trans (u.Ki b xs o q e hx)⟩
    .exact(hs'.2 b (below b (aG e)).1).trans (u.keep b o e n I hx)
    .obtain⟨sl,e1⟩:=u.slot b o e n I hx;exact⟨sl,(hs'.2 b (below b (aG e)).1).trans e1⟩
    .obtain⟨o',e1⟩:=u.there b o e hx;exact⟨o',(hs'.2 b (below b (aG e)).1).trans e1⟩
   have hok':Cq X.prog X.w H3 h':=fun b u e=>(I5.Ah b u e).Ip (fun c v hc q=>(hs'.2 c (by
    rcases hc with rfl|hc
    .exact nC _ _ e
    .exact nC _ _ hc)).trans q) (fun _ q=>q) fun _ _ q=>q
   refine R.gW (s':={s4 with heap:=h'}) (ch:=fp) I5.os keepU hok' I5.bare fun b I=>?_;obtain⟨_,f1,_,f4,f5,f6⟩:=f2 b I;exact⟨f4,f1,f5,f6⟩
  .refine ak (T.item (Ap X scope cl N Y.objs.size s2 U fp) rfl rfl rfl hcalm i [] s3 σ3 H3 (fun _ _=>False) I3 (fpX [] H3 (fun _ z=>by cases z) fr3) st3 go) (fun r s4 ⟨u,hr,h4⟩=>?_) fun _ _ z=>z.elim;subst hr;show wpAny (model X.prog X.w) X.A (letOwnedTupleGo tgE (.ref it) u>>=fun _=>assign tgE (compEnvC scope cl Y.objs.size X.env) u) _ _ s4;refine aA (ak h4 (fun _ s5 ⟨xv,H5,I5,r5,y5,st5,fr5⟩=>?_) fun _ _ z=>z.elim);have I5':=I5.pinned (fpX [] H5 (fun _ z=>by cases z) fr5) (T.obj _ _ st5);refine ak (hpg _ _ s5 σ3 H5 xv u _ I5' r5 (step xv H5 y5 σ3 hσ)) (fun _ s6 ⟨σ6,H6,I6,rv6,step5⟩=>?_) fun _ _ z=>z.elim;refine ak (hif _ _ _ _ _ _ s6 _ H6 _ I6 step5) (fun b s7 ⟨H7,I7,q7⟩=>?_) fun _ _ z=>z.elim;have again:∀ {s8:Shared} {H8:Hp} {k:Nat} {zs:List V},Inv (Ap X scope cl N Y.objs.size s2 U fp) ([]++Lu fp s5.heap) σ6 H8 s8->W (i+1) k zs H8->k<n ->
     ∃m,m<n/\∃i ys σ' H',Inv (Ap X scope cl N Y.objs.size s2 U fp) [] σ' H' s8/\Rv σ'/\tn i s8.heap/\(∀b∈fp,H' b=none)/\W i m ys H':=fun {s8 H8 k zs} I8 w8 hk=>by
    refine⟨k,hk,i+1,zs,_,H8,I8.KG,rv6,T.keep _ _ _ st5 fun b I o e=>(I8.pin (b,o) (aj _ (aj _ (ID I e)))).1,fun b I=>?_,w8⟩;obtain⟨o,e,d⟩:=T.obj _ _ st5 b I;exact(I8.pin (b,o) (aj _ (aj _ (ID I e)))).2.1
   cases b with
   |false=>
    rw[if_neg aO]at q7 ⊢;obtain⟨k,hk,w7⟩:=q7;exact again I7 w7 hk
   |true=>
    rw[if_pos rfl]at q7 ⊢;refine ak (he _ _ _ _ _ _ s7 _ H7 _ I7 q7) (fun yv s8 ⟨y,H8,I8,r8,hD8,k,hk,w8⟩=>?_) fun _ _ z=>z.elim;refine ak (C6 (X:=Ap X scope cl N Y.objs.size s2 U fp) _ s8 _ H8 (.ref s2.heap.objs.size) [y] (.ref s2.heap.objs.size) [yv] (fun _ H9=>H9=upd H8 s2.heap.objs.size (.lst (ys++[y]))) I8 rfl (.cons r8 .nil) ⟨_,ys,y,rfl,rfl,hD8,hsz,rfl⟩) (fun _ s9 ⟨_,H9,I9,_,e9⟩=>?_) fun _ _ z=>z.elim;subst e9;exact again I9 w8 hk
 exact codeAny_compStart_list (loop _ rfl) (T.self X.A 0 _ _ _ (T.keep _ _ _ st2 fun b _ o e=>old b o e) (loop _ rfl))
theorem NH{pins:List (Addr×Obj)}{σ:St}{I:Hp}{s2:Shared}{Q:VK}{it:Addr}{fp:List Addr}{tn:Nat->Heap->Prop}{J:It}{cl:List (Str×Addr)}{E:Value->Shared->Prop}{RR:Value->Addr->Result->Shared->Prop}
 (S:Cj scope N x ix)(M:X.calm=true)(hfr:En N X.N scope X.env.scope fr 0=true)(hlen:fr.length=N.length)
 (hif:∀cl C s₀ H₀ fp,J9 (Ap X scope cl N C s₀ H₀ fp) ifs tif)(he:∀cl C s₀ H₀ fp,PE (Ap X scope cl N C s₀ H₀ fp) elt te)
 (I2:Inv X pins σ I s2)(T:Turn X.prog X.w X.K (.Name x px) J fp it tn)(st2:tn 0 s2.heap)(f2:∀b∈fp,Jp X pins I b)
 (c1:∀x c,cl.lookup x=some c->X.env.cells.lookup x=some c)(c2:∀x∈scope.names,x.2=NameKind.free->∃c,cl.lookup x.1=some c)
 (W:∀D,I D=none->∃W:Nat->Nat->List V->Hp->Prop,(∃m,W 0 m [] (upd I D (.lst []))) /\
   ∀i m ys H,W i m ys H->H D=some (.lst ys)/\((J.stop i H/\Q (.ref D) H)\/(J.go i H/\ys.length<sizeLine/\∀x H',J.Ec i H x H' ->
    tif ((carry fr σ).set ix (some x)) H' fun b I=>if b=true then te ((carry fr σ).set ix (some x)) I fun y H3=>H3 D=some (.lst ys)/\∃Z,Z<m/\W (i+1) Z (ys++[y]) (upd H3 D (.lst (ys++[y])))
     else ∃Z,Z<m/\W (i+1) Z ys I)))
 (fin:∀(D C:Addr) (s':Shared) (H':Hp) m,s'.heap.Ns C m->Q (.ref D) H'->(∀h',Heap.SameBut C s'.heap h'->Inv X pins σ H' { s' with heap:=h'})->C≠D->(∀b o,s2.heap.get? b=some o->b≠C)->H' C=none->s2.heap.objs.size<=C->RR (.ref D) C (.ok .next) s') :
  wpAny (model X.prog X.w) X.A (newList []) (fun acc Y=>wpAny (model X.prog X.w) X.A (newFunctionEnv scope X.env.globals cl [] X.env.qual none .none (some X.env)) (fun g U=>
   codeAny (model X.prog X.w) X.A (.compStart (.ListComp elt [⟨.Name x px,iter,ifs,0⟩] scope pos) 0 (.ref it) acc {g with scope:=relabel scope X.env}) (RR acc g.locals) U) E Y) E s2:=by
 have hxv:(relabel scope X.env).names.lookup x=some .local:=lookup_relabel_local S.loc;refine MO S M (fun R=>∀v,R.set ix v=(carry fr σ).set ix v) (fun _=>rfl) (fun C=>An (X:=Ap X scope cl N C s2 I fp) S.nd S.at_ (.inl hxv) (.inr hxv)) hfr hlen hif he I2 T st2 f2 c1 c2 (fun D hD=>?_) fin;obtain⟨W,w0,st⟩:=W D hD;refine⟨W,w0,fun i m ys H w=>?_⟩;obtain⟨h1,h2|⟨h2,h3,h4⟩⟩:=st i m ys H w
 .exact⟨h1,.inl h2⟩
 .refine⟨h1,.inr ⟨h2,h3,fun x H' hy R hr=>?_⟩⟩;have:=h4 x H' hy;rw[<-hr]at this;exact⟨fun v=>by rw[List.set_set,hr],this⟩
theorem Ze(S:Cj scope N x ix)(U:X.calm=true)(hfr:En N X.N scope X.env.scope fr 0=true)(Y:fr.length=N.length)(M:∀y∈scope.names,y.2=.free->X.env.scope.names.lookup y.1=some .cell\/X.env.scope.names.lookup y.1=some .free)
 (hi:PI X (.Name x px) iter wi)(hif:∀cl C s₀ H₀ fp,J9 (Ap X scope cl N C s₀ H₀ fp) ifs tif)(he:∀cl C s₀ H₀ fp,PE (Ap X scope cl N C s₀ H₀ fp) elt te)
 (hs:∀x,foldedSetIterable iter X.env x=pure x:=by intro _;rfl):PE X (.ListComp elt [⟨.Name x px,iter,ifs,0⟩] scope pos) (L4 wi fr ix tif te):=by
 intro pins s σ H Q I hw;obtain⟨cl,R,c1,_,c2⟩:=FP (env:=X.env) scope.names [] (fun y hy hf=>I.ok.has y.1 (M y hy hf)) (fun y c z=>by cases z);have g:closureFor scope X.env=pure cl:=by
  have e:closureFor scope X.env=((forIn scope.names [] (fun(x:Str×NameKind) (r:List (Str×Addr))=>do if(x.2==NameKind.free)=true then do let a <-cellOf X.env x.1;pure (ForInStep.yield ((x.1,a)::r)) else pure (ForInStep.yield r)):Sem (List (Str×Addr)))>>=fun cs=>pure cs):=rfl;rw[e,R]
  rfl
 rw[eval_ListComp];refine wpAny_comprehension_free (use:=none) rfl hs g S.kind S.names (A4 (hi pins s σ H _ I hw) fun v s1 h1=>A4 h1 fun itv s2 h2=>?_);obtain⟨it,fp,tn,J,H2,e,I2,T,Z,f2,W⟩:=h2;subst e;refine NH (RR:=fun acc C=>compPost (model X.prog X.w) X.A X.xe none (EP X pins σ Q) acc C) S U hfr Y hif he I2 T Z f2 c1 c2 W ?_;intro D C s' H' m hn q hI _ _ _ _;exact⟨m,hn,fun h' hs'=>⟨.ref D,H',hI h' hs',rfl,q⟩⟩
theorem Vj{i : Nat}{y : Str}{py spos : Pos}(hN : X.N.Nodup)(hy : X.N[i]? = some y)(hly : X.env.scope.names.lookup y = some .local)(S : Cj scope N x ix)(hcalm : X.calm = true)(hfr : En N X.N scope X.env.scope fr 0 = true)(hlen : fr.length = N.length)
 (hfree : ∀ y∈scope.names,y.2 = .free->X.env.scope.names.lookup y.1 = some .cell\/X.env.scope.names.lookup y.1 = some .free)
 (hi : PI X (.Name x px) iter wi)(hif : ∀ cl C s₀ H₀ fp,J9 (Ap X scope cl N C s₀ H₀ fp) ifs tif)(he : ∀ cl C s₀ H₀ fp,PE (Ap X scope cl N C s₀ H₀ fp) elt te)
 (hsw : swapsWith (.ListComp elt [⟨.Name x px,iter,ifs,0⟩] scope pos) (some (.Name y py)) spos.line X.env = pure true:=by rfl)
 (hs : ∀ x,foldedSetIterable iter X.env x = pure x:=by intro _; rfl) :
    PS X (.Assign [.Name y py] (.ListComp elt [⟨.Name x px,iter,ifs,0⟩] scope pos) spos) (OH (L4 wi fr ix tif te) (C0 i)):=by
  intro pins s σ H D I hw
  obtain ⟨cl,hclos,c1,_,c2⟩:=FP (env:=X.env) scope.names [] (fun y hy hf => I.ok.has y.1 (hfree y hy hf)) (fun y c z => by cases z)
  have hclos' : closureFor scope X.env = pure cl:=by
    have e : closureFor scope X.env = ((forIn scope.names [] (fun (x : Str×NameKind) (r : List (Str×Addr)) => do if (x.2 == NameKind.free) = true then do let a <- cellOf X.env x.1; pure (ForInStep.yield ((x.1,a) :: r)) else pure (ForInStep.yield r)):Sem (List (Str×Addr))) >>= fun cs => pure cs):=rfl
    rw [e,hclos]
    rfl
  rw [exec_Assign_Name_used _ _ _ _ hsw]
  refine aA (wpAny_standAt (aA ?_))
  show wpAny _ X.A (do let _ <- comprehension (.ListComp elt [⟨.Name x px,iter,ifs,0⟩] scope pos) scope X.env _ (newList []) false (eval iter X.env) (some (assign (.Name y py) X.env))) _ _ s
  refine aA (ak (wpAny_comprehension_free (use:=some (assign (.Name y py) X.env)) (Q:=fun _ s' => SP X pins D .next s') rfl hs hclos' S.kind S.names
    (A4 (hi pins s σ H _ I hw) fun v s1 h1 => A4 h1 fun itv s2 h2 => ?_)) (fun _ s' hq => aC (aC hq)) fun _ _ e => e)
  obtain ⟨it,fp,tn,J,H2,e,I2,T,st2,f2,W⟩:=h2
  subst e
  refine NH (Q:=fun x H1 => C0 i x σ H1 D.nx) (RR:=fun acc C => compPost (model X.prog X.w) X.A X.xe (some (assign (.Name y py) X.env)) (fun _ s' => SP X pins D .next s') acc C) S hcalm hfr hlen hif he I2 T st2 f2 c1 c2 W ?_
  intro D' C s' H' m hn q hI hCD hold hfreeC hsz
  have I5 : Inv X pins σ H' s':=hI s'.heap (Heap.SameBut.refl ..)
  refine wpAny_assign_Name (LO I5 hN hy (.inl hly) (v:=.ref D') rfl (fun s'' I6 ⟨a,hsb,ha⟩ => ?_) (.inr hly))
  have hL : C≠X.env.locals:=fun z => by
    obtain ⟨_,⟨o,_,_,e,_⟩,_⟩:=I2.loc
    exact hold _ _ e z.symm
  have hcl : ∀ z c,X.env.cells.lookup z = some c->c≠C:=fun z c e => by
    obtain ⟨_,o,ho,_⟩:=I2.cell z c e
    exact hold _ _ ho
  have hCa : C≠a:=by
    rcases ha with z | z
    . rw [z]; exact hL
    . exact Ne.symm (hcl _ _ z)
  refine ⟨m,hn.sameBut hsb hCa,fun h' hs' => ⟨_,H',I6.turned (t':=s''.toks) (it:=C) (fun b o hb e => (hs'.2 b hb).trans e) hfreeC hL (.inr (aU I2.sz hsz)) hcl fun p hp => ?_,q⟩⟩
  obtain ⟨e,_⟩:=I2.pin p hp
  exact hold _ _ e
end
end L2
namespace FM
def gi(a b:Int):Int:=(Int.gcd a b:Int)
theorem R7(a b:Int):Int.gcd b (a.fmod b)=Int.gcd a b:=by
 have e:a.fmod b=a-b*a.fdiv b:=Int.fmod_def a b;rw[e,Int.gcd_comm a b];exact Int.gcd_sub_mul_left_right b a (a.fdiv b)
theorem Pj(a b:Int)(g:b≠0):(a.fmod b).natAbs<b.natAbs:=by
 rcases Int.lt_or_gt_of_ne g with h|h
 .have R:-(a.fmod b)=(-a).fmod (-b):=by
   rw[Int.fmod_def,Int.fmod_def,Int.neg_fdiv_neg];have:-b*a.fdiv b=-(b*a.fdiv b):=Int.neg_mul _ _
   lia
  have M:=Int.fmod_nonneg_of_pos (-a) (show 0 < -b by lia);have I:=Int.fmod_lt_of_pos (-a) (show 0 < -b by lia)
  lia
 .have M:=Int.fmod_nonneg_of_pos a h;have I:=Int.fmod_lt_of_pos a h
  lia
theorem JJ{a b:Int}(g:b≠0):0<gi a b:=by
 have:0<Int.gcd a b:=Int.gcd_pos_of_ne_zero_right a g;unfold gi;lia
theorem Vl{a b:Int}(I:b≠0):(gi a b).natAbs<=b.natAbs:=by
 have h:Int.gcd a b ∣ b.natAbs:=by
  have:=Int.gcd_dvd_right a b;exact Int.natAbs_dvd_natAbs.mpr this
 have g:0<b.natAbs:=by lia
 have:=Nat.le_of_dvd g h;unfold gi;lia
def gs(t b:Int):Int:=if b<0 then -gi t b else gi t b
theorem ZG{t b:Int}(g:b≠0):gs t b≠0:=by
 have:=JJ (a:=t) g;unfold gs;split<;>lia
theorem Y9{t b:Int}(g:b≠0):(gs t b).natAbs<=b.natAbs:=by
 have:=Vl (a:=t) g;unfold gs;split<;>lia
theorem C5{g x k:Int}(I:g≠0)(e:x=g*k):x.fdiv g=k:=by
 subst e;exact Int.mul_fdiv_cancel_left k I
theorem Jt(a b:Int):gi a b ∣ a:=Int.gcd_dvd_left a b
theorem LK(a b:Int):gi a b ∣ b:=Int.gcd_dvd_right a b
theorem RQ{t b:Int}(M:b≠0):t.fdiv (gs t b)=(Rat.divInt t b).num:=by
 have R:=JJ (a:=t) M;obtain⟨k,I⟩:=Jt t b;rw[Rat.num_divInt,Int.gcd_comm b t];show t.fdiv (gs t b)=b.sign*t / gi t b;unfold gs;generalize gi t b=g at R I ⊢;rcases Int.lt_or_gt_of_ne M with h|h
 .rw[if_pos h,Int.sign_eq_neg_one_of_neg h,C5 (k:=-k) (by lia) (by rw[I];simp[Int.mul_neg,Int.neg_mul])];have:-1*t=g*(-k):=by rw[I];simp[Int.mul_neg]
  rw[this,Int.mul_ediv_cancel_left _ (by lia)]
 .rw[if_neg (by lia),Int.sign_eq_one_of_pos h,C5 (k:=k) (by lia) I,Int.one_mul,I,Int.mul_ediv_cancel_left _ (by lia)]
theorem Qo{t b:Int}(M:b≠0):b.fdiv (gs t b)=((Rat.divInt t b).den:Int):=by
 have R:=JJ (a:=t) M;obtain⟨k,I⟩:=LK t b;rw[Rat.den_divInt,if_neg M,Int.gcd_comm b t];have e:(((b.natAbs / Int.gcd t b:Nat)):Int)=(b.natAbs:Int) / gi t b:=by unfold gi;simp
 rw[e];unfold gs;generalize gi t b=g at R I ⊢;rcases Int.lt_or_gt_of_ne M with h|h
 .rw[if_pos h,C5 (k:=-k) (by lia) (by rw[Int.neg_mul_neg];exact I)];have:(b.natAbs:Int)=g*(-k):=by rw[Int.mul_neg,<-I];lia
  rw[this,Int.mul_ediv_cancel_left _ (by lia)]
 .rw[if_neg (by lia),C5 (k:=k) (by lia) I];have:(b.natAbs:Int)=g*k:=by rw[<-I];lia
  rw[this,Int.mul_ediv_cancel_left _ (by lia)]
theorem A3(a b:Int):(a.fdiv b).natAbs<=a.natAbs:=by
 cases a with
 |ofNat n=>
  cases n with
  |zero=>
   have e:Int.fdiv (.ofNat 0) b=0:=Int.zero_fdiv b;rw[e];exact ah _
  |succ k=>
   cases b with
   |ofNat j=>exact Nat.div_le_self (k+1) j
   |negSucc j=>exact Nat.succ_le_succ (Nat.div_le_self k (j+1))
 |negSucc k=>
  cases b with
  |ofNat j=>
   cases j with
   |zero=>exact ah _
   |succ j=>exact Nat.succ_le_succ (Nat.div_le_self k (j+1))
  |negSucc j=>exact Nat.div_le_self (k+1) (j+1)
theorem dk{t b:Int}(g:b≠0):(Rat.divInt t b).num.natAbs<=t.natAbs:=by
 rw[<-RQ g];exact A3 _ _
theorem fc{t b:Int}(g:b≠0):(Rat.divInt t b).den<=b.natAbs:=by
 have h:=A3 b (gs t b);rw[Qo g]at h
 simpa using h
theorem Np(p:Rat):(p.den:Int)≠0:=by
 have:=p.den_nz
 lia
theorem Bc(p:Rat):Rat.divInt p.num p.den=p:=Rat.num_divInt_den p
theorem cz(p q:Rat):Rat.divInt (p.num*q.den+q.num*p.den) (p.den*q.den)=p+q:=by
 rw[<-Rat.divInt_add_divInt _ _ (Np p) (Np q),Bc,Bc]
theorem Q6(p q:Rat):Rat.divInt (p.num*q.num) (p.den*q.den)=p*q:=by
 rw[<-Rat.divInt_mul_divInt,Bc,Bc]
theorem Ow(p q:Rat):(p.den:Int)*q.den≠0:=bc (Np p) (Np q)
theorem Ax{x y:Int}{m n:Nat}(I:x.natAbs<2^m)(g:y.natAbs<2^n):(x*y).natAbs<2^(m+n):=by
 rw[Int.natAbs_mul,Nat.pow_add];exact Nat.mul_lt_mul'' I g
theorem A6{x:Nat}{m n:Nat}(g:x<2^m)(h:m<=n):x<2^n:=aN g (bD (by decide) h)
def Fits(p:Rat)(n:Nat):Prop:=p.num.natAbs<2^n/\p.den<2^n
theorem Fits.mono{p:Rat}{m n:Nat}(h:Fits p m)(l:m<=n:=by decide):Fits p n:=⟨A6 h.1 l,A6 h.2 l⟩
theorem Fits.d{p:Rat}{n:Nat}(h:Fits p n):((p.den:Int)).natAbs<2^n:=by simpa using h.2
theorem Fits.Vx{t b:Int}{n:Nat}(g:b≠0)(h1:t.natAbs<2^n)(I:b.natAbs<2^n):Fits (Rat.divInt t b) n :=
 ⟨aL (dk g) h1,Nat.lt_of_le_of_lt (fc g) I⟩
theorem dd{p q:Rat}{m n:Nat}(h:Fits p m)(k:Fits q n):((p.den:Int)*q.den).natAbs<2^(m+n):=Ax h.d k.d
theorem nn{p q:Rat}{m n:Nat}(h:Fits p m)(k:Fits q n):(p.num*q.num).natAbs<2^(m+n):=Ax h.1 k.1
theorem Fits.times{p q:Rat}{m n:Nat}(h:Fits p m)(k:Fits q n):Fits (p*q) (m+n):=by
 rw[<-Q6];exact .Vx (Ow p q) (nn h k) (dd h k)
end FM
namespace FM
theorem Zt(a b:Int):Int.gcd (if a<0 then -a else a) (if b<0 then -b else b)=Int.gcd a b:=by
 split<;>split<;>simp[Int.gcd_neg,Int.neg_gcd]
theorem abs_nonneg(a:Int):0<=(if a<0 then -a else a):=by split<;>lia
theorem eL{g a b:Int}(h:Int.gcd g 0=Int.gcd a b)(h0:0<=g):g=gi a b:=by
 unfold gi;rw[<-h,Int.gcd_zero_right]
 lia
theorem Zu{g a b:Int}(h:Int.gcd g 0=Int.gcd a b):(if g<0 then -g else g)=gi a b:=by
 unfold gi;rw[<-h,Int.gcd_zero_right];split<;>lia
theorem fmod_nonneg{g l:Int}(I:l≠0)(h:0<=l):0<=g.fmod l:=Int.fmod_nonneg_of_pos g (by lia)
end FM
namespace L2
open PySem PySem.Spec PyProof.Rows
structure Fn(K:PySem.W.Frag)(mg:Str->Option Value)(x:Str)(st:Stmt)(ps:List Str)(f:Addr)(fd:FuncData):Prop where
 F:Us K x x st f fd
 b:Binds K fd ps []
 m:mg x=some (.ref f)
section
variable{X:Cx}{k:Nat}{f:Addr}{fd:FuncData}{ps:List Str}{sp:Sp}{x:Str}{st:Stmt}{p pos:Pos}{e:Expr}{es:List Expr}{t:TA}
theorem AX(T:Fn X.K X.mg x st ps f fd)(G:AL X.prog X.w X.K X.mg X.base AY k f fd ps sp)(M:Dr k X.A)(R:Gl X x)(ha:PA X (e::es) t)
 (I:(x==("__debug__" : Str))=false:=by decide)(U:starEach (e::es) X.env=(false,eval e X.env)::starEach es X.env:=by rfl)(g:(backTo pos (starEach es X.env)).any (·.1)=false:=by rfl) :
  PE X (.Call (.Name x p) (e::es) [] pos) (ZL sp [] E0 t):=b8 G M R T.m T.F.kp T.b .nil ip ha I U g
end
theorem Gx{t u:TS}{D:Ends}{σ:St}{H:Hp}(P:St->Hp->Prop)(h1:∀nx:St->Hp->Prop,(∀g H',P g H'->nx g H')->t {D with nx:=nx} σ H)(I:∀g H',P g H'->u D g H'):Jo t u D σ H:=h1 _ I
theorem Wn:2<=sizeLine:=by decide
theorem AK{H:Hp}{p:Addr}(h:H p=none)(o:HO):AG H (upd H p o):=fun b u q=>by rw[AI (AM q h)];exact q
def SameBut(l:Addr)(H H':Hp):Prop:=∀b o,b≠l->H b=some o->H' b=some o
theorem SameBut.of{l:Addr}{H H':Hp}(h:AG H H'):SameBut l H H':=fun b o _ q=>h b o q
theorem SameBut.trans{l:Addr}{H H1 g:Hp}(a:SameBut l H H1)(b:SameBut l H1 g):SameBut l H g:=fun c o n h=>b c o n (a c o n h)
theorem SameBut.upd{l:Addr}{H:Hp}{o:HO}:SameBut l H (upd H l o):=fun b u n q=>by rw[AI n];exact q
def Gd(p:Rat):List V:=[.int p.num,.int (p.den:Int)]
def Aj(p:Rat):PyData:=.tuple [.int p.num,.int (p.den:Int)]
theorem DP{i j:Int}{m n:Nat}(h1:i.natAbs<2^m)(g:j.natAbs<2^n)(h:m+n<=1000000):OA i j\/L8 i j :=
 .inr ⟨m+n,h,FM.A6 h1 (Nat.le_add_right _ _),FM.A6 g (Nat.le_add_left _ _)⟩
def jf(g:Addr)(cls:Value):HO:=.ext fun h=>∃o vs,h.get? g=some o/\o.cls=cls/\o.data=.fields vs
open PySem PySem.Spec PyProof.Rows PySem.Builtin.ObjectAttr PySem.Builtin.Getset_descriptor
def Qt:V->Value
 |.ref C=>.ref C
 |.ty n=>.type n
 |_=>.none
theorem Zz{c:V}{u:Value}(r:RelV c u)(h:Qt c≠.none):u=Qt c:=by
 cases c with
 |ref C=>exact r
 |ty n=>exact r
 |_=>exact absurd rfl h
section
variable{X:Cx}
def jg(K:PySem.W.Frag):List V->Hp->VK->Prop:=fun xs H Q=>∃x c t b,xs=[x,c]/\Qt c≠.none/\GL K H x t/\PySem.W.kitOne K t (Qt c)=some b/\Q (.bl b) H
theorem Be:HN X (.builtin "isinstance") (jg X.K):=by
 intro pins s σ H xs us Q I r h;obtain⟨x,c,t,b,rfl,U,ty,e,q⟩:=h;obtain⟨u,v,rfl,R,M⟩:=r.two;rw[Zz M U];exact Wy I R ty e fun g=>⟨.bl b,H,I.tok g,rfl,q⟩
end
theorem eN(K:PySem.W.Frag):PySem.W.kitOne K (.type "tuple") (.type "tuple")=some true:=rfl
theorem fM(K:PySem.W.Frag):PySem.W.kitOne K (.type "int") (.type "int")=some true:=rfl
theorem gK(K:PySem.W.Frag):PySem.W.kitOne K (.type "bool") (.type "bool")=some true:=rfl
theorem fP(K:PySem.W.Frag):PySem.W.kitOne K (.type "int") (.type "bool")=some false:=by kernel_rfl
theorem df(K:PySem.W.Frag):PySem.W.kitOne K (.type "bool") (.type "int")=some true:=by kernel_rfl
theorem cU(K:PySem.W.Frag):PySem.W.kitOne K (.type "list") (.type "tuple")=some false:=by kernel_rfl
theorem cW(K:PySem.W.Frag):PySem.W.kitOne K (.type "tuple") (.type "list")=some false:=by kernel_rfl
theorem fL(K:PySem.W.Frag):PySem.W.kitOne K (.type "list") (.type "list")=some true:=rfl
theorem fI(K:PySem.W.Frag):PySem.W.kitOne K (.type "int") (.type "tuple")=some false:=by kernel_rfl
theorem cw(K:PySem.W.Frag):PySem.W.kitOne K (.type "bool") (.type "tuple")=some false:=by kernel_rfl
theorem f9(K:PySem.W.Frag):PySem.W.kitOne K (.type "NoneType") (.type "tuple")=some false:=by kernel_rfl
theorem cP(K:PySem.W.Frag):PySem.W.kitOne K (.type "str") (.type "tuple")=some false:=by kernel_rfl
theorem cX(K:PySem.W.Frag):PySem.W.kitOne K (.type "tuple") (.type "int")=some false:=by kernel_rfl
theorem cZ(K:PySem.W.Frag):PySem.W.kitOne K (.type "list") (.type "int")=some false:=by kernel_rfl
theorem gC(K:PySem.W.Frag):PySem.W.kitOne K (.type "NoneType") (.type "int")=some false:=by kernel_rfl
theorem fk(K:PySem.W.Frag):PySem.W.kitOne K (.type "str") (.type "int")=some false:=by kernel_rfl
theorem gO(K:PySem.W.Frag):PySem.W.kitOne K (.type "int") (.type "list")=some false:=by kernel_rfl
theorem fi(K:PySem.W.Frag):PySem.W.kitOne K (.type "bool") (.type "list")=some false:=by kernel_rfl
theorem fB(K:PySem.W.Frag):PySem.W.kitOne K (.type "NoneType") (.type "list")=some false:=by kernel_rfl
theorem cg(K:PySem.W.Frag):PySem.W.kitOne K (.type "str") (.type "list")=some false:=by kernel_rfl
def freeOk(g:Scope)(names:List (Str×NameKind)):Bool:=names.all fun y=>y.2 != .free||g.names.lookup y.1==some .cell||g.names.lookup y.1==some .free
theorem Jl{g:Scope}{names:List (Str×NameKind)}(h:freeOk g names=true):∀y∈names,y.2=.free->g.names.lookup y.1=some .cell\/g.names.lookup y.1=some .free:=fun y I hf=>by
 have q:=List.all_eq_true.mp h y I;rw[hf]at q;simp only[bne_self_eq_false,Bool.false_or,Bool.or_eq_true,beq_iff_eq]at q;exact q
def B1(scope:Scope)(N:List Str)(x:Str)(ix:Nat):Bool :=
 scope.kind==.function&&(scope.names.all fun y=>y.2 != .cell&&(y.2 != .local||scope.names.lookup y.1==some .local)&&(y.2 != .free||scope.names.lookup y.1==some .free))&&scope.names.lookup x==some .local&&decide N.Nodup&&N[ix]? == some x
theorem ED{scope:Scope}{N:List Str}{x:Str}{ix:Nat}(h:B1 scope N x ix=true):Cj scope N x ix:=by
 unfold B1 at h;simp only[Bool.and_eq_true,beq_iff_eq,decide_eq_true_eq,List.all_eq_true,bne_iff_ne,Bool.or_eq_true]at h;obtain⟨⟨⟨⟨Z,M⟩,Y⟩,U⟩,R⟩:=h;exact⟨Z,fun y g=>(M y g).1.1,fun y g I=>(M y g).1.2.resolve_left fun z=>z I,fun y g I=>(M y g).2.resolve_left fun z=>z I,Y,U,R⟩
section
variable{X:Cx}{elt iter:Expr}{x:Str}{px pos:Pos}{ifs:List Expr}{scope:Scope}{wi:TI}{tif:TT}{te:TE}
theorem Bf(N:List Str)(ix:Nat)(fr:List (Option Nat))(hi:PI X (.Name x px) iter wi)(g:∀cl C s₀ H₀ fp,J9 (Ap X scope cl N C s₀ H₀ fp) ifs tif)(M:∀cl C s₀ H₀ fp,PE (Ap X scope cl N C s₀ H₀ fp) elt te)
 (h1:B1 scope N x ix=true:=by decide +kernel)(Z:X.calm=true:=by rfl)(Y:En N X.N scope X.env.scope fr 0=true:=by rfl)(U:fr.length=N.length:=by rfl)(R:freeOk X.env.scope scope.names=true:=by rfl)
 (I:∀x,foldedSetIterable iter X.env x=pure x:=by intro _;rfl):PE X (.ListComp elt [⟨.Name x px,iter,ifs,0⟩] scope pos) (L4 wi fr ix tif te) :=
 Ze (ED h1) Z Y U (Jl R) hi g M I
theorem HS{i:Nat}{y:Str}{U g:Pos}(N:List Str)(ix:Nat)(fr:List (Option Nat))(hN:X.N.Nodup)(Y:X.N[i]? = some y)(M:X.env.scope.names.lookup y=some .local)
 (hi:PI X (.Name x px) iter wi)(R:∀cl C s₀ H₀ fp,J9 (Ap X scope cl N C s₀ H₀ fp) ifs tif)(he:∀cl C s₀ H₀ fp,PE (Ap X scope cl N C s₀ H₀ fp) elt te)
 (h1:B1 scope N x ix=true:=by decide +kernel)(h2:X.calm=true:=by rfl)(h3:En N X.N scope X.env.scope fr 0=true:=by rfl)(h4:fr.length=N.length:=by rfl)(h5:freeOk X.env.scope scope.names=true:=by rfl)
 (I:swapsWith (.ListComp elt [⟨.Name x px,iter,ifs,0⟩] scope pos) (some (.Name y U)) g.line X.env=pure true:=by rfl)
 (Z:∀x,foldedSetIterable iter X.env x=pure x:=by intro _;rfl):PS X (.Assign [.Name y U] (.ListComp elt [⟨.Name x px,iter,ifs,0⟩] scope pos) g) (OH (L4 wi fr ix tif te) (C0 i)) :=
 Vj hN Y M (ED h1) h2 h3 h4 (Jl h5) hi R he I Z
end
end L2
inductive Tr where
 |nil
 |cons (b r:Tr)
 deriving DecidableEq
namespace Tr
def deep:Tr->Nat
 |.nil=>0
 |.cons b r=>max (b.deep+1) r.deep
end Tr
namespace SM
open PySem.W PyProof.Rows
def Wp{α:Type}(lt:Nat->Nat->Bool)(n:Nat):KasT α->(α->Prop)->Prop
 |.ret a,Q=>Q a
 |.ask i j k,Q=>i<n/\j<n/\Wp lt n (k (lt i j)) Q
theorem Wp.mono{α:Type}{lt:Nat->Nat->Bool}{n:Nat}{Q I:α->Prop}(g:∀a,Q a->I a):∀t:KasT α,Wp lt n t Q->Wp lt n t I
 |.ret a,h=>g a h
 |.ask i j k,h=>⟨h.1,h.2.1,Wp.mono g (k (lt i j)) h.2.2⟩
theorem Wp.bind{α β:Type}{lt:Nat->Nat->Bool}{n:Nat}{f:α->KasT β}{Q:β->Prop}:∀t:KasT α,Wp lt n t (fun a=>Wp lt n (f a) Q)->Wp lt n (t.bind f) Q
 |.ret _,h=>h
 |.ask i j k,h=>⟨h.1,h.2.1,Wp.bind (k (lt i j)) h.2.2⟩
theorem Ii{p:Array Nat}{i j:Nat}(g:j<=p.size)(k:Nat):(kas_rev p i j).getD k 0=if i<=k/\k<j then p.getD (i+j-1-k) 0 else p.getD k 0:=by
 have e:=getElem?_mirror_all (i:=i) g k;unfold kas_rev;rw[Array.getD_eq_getD_getElem?,Array.getD_eq_getD_getElem?,Array.getD_eq_getD_getElem?,e];split<;>rfl
theorem Td{p:Array Nat}{src d:Nat}(g:src<p.size)(hd:d<=src)(k:Nat) :
  (bubble p src d).getD k 0=if k=src-d then p.getD src 0 else if src-d<k/\k<=src then p.getD (k-1) 0 else p.getD k 0:=by
 have e:=getElem?_bubble g d hd k;simp only[Array.getD_eq_getD_getElem?,e];split
 .rfl
 .split<;>rfl
section
variable{O:KeyOrd}{key:Nat->O.α}{n:Nat}
def Key(key:Nat->O.α)(p:Array Nat)(i:Nat):O.α:=key (p.getD i 0)
def Up(key:Nat->O.α)(p:Array Nat)(m:Nat):Prop:=∀i j,i<=j->j<m->O.kle (Key key p i) (Key key p j)
def Dn(key:Nat->O.α)(p:Array Nat)(m:Nat):Prop:=∀i j,i<=j->j<m->O.kle (Key key p j) (Key key p i)
structure Pm(n:Nat)(p:Array Nat):Prop where
 perm:p.Perm (List.toArray (List.range n))
 pos:0<n
theorem Pm.size{p:Array Nat}(h:Pm n p):p.size=n:=by rw[h.perm.size_eq];simp
theorem Pm.lt{p:Array Nat}(h:Pm n p)(i:Nat):p.getD i 0<n:=by
 rw[Array.getD_eq_getD_getElem?];by_cases hi:i<p.size
 .rw[Array.getElem?_eq_getElem hi];have hm:p[i]∈p:=Array.getElem_mem hi;have:=(h.perm.mem_iff).mp hm
  simpa using this
 .rw[Array.getElem?_eq_none (by lia)];exact h.pos
theorem Pm.rev{p:Array Nat}(h:Pm n p)(i j:Nat):Pm n (kas_rev p i j):=⟨(mirror_perm _ _ _ _).trans h.perm,h.pos⟩
theorem Pm.bubble{p:Array Nat}(h:Pm n p)(i j:Nat):Pm n (bubble p i j):=⟨(bubble_perm _ _ _).trans h.perm,h.pos⟩
abbrev Fs(key:Nat->O.α):Nat->Nat->Bool:=fun i j=>O.blt (key i) (key j)
theorem Up.one{p:Array Nat}:Up key p 1:=fun i j I g=>by
 have:i=j:=by lia
 subst this;exact bf _
theorem Up.more{p:Array Nat}{m:Nat}(h:Up key p m)(h1:1<=m)(I:O.kle (Key key p (m-1)) (Key key p m)):Up key p (m+1):=fun i j g R=>by
 by_cases e:j=m
 .subst e;by_cases M:i=j
  .subst M;exact bf _
  .exact KeyOrd.kle_trans (h i (j-1) (by lia) (by lia)) I
 .exact h i j g (by lia)
theorem Dn.more{p:Array Nat}{m:Nat}(h:Dn key p m)(h1:1<=m)(I:O.kle (Key key p m) (Key key p (m-1))):Dn key p (m+1):=fun i j g R=>by
 by_cases e:j=m
 .subst e;by_cases M:i=j
  .subst M;exact bf _
  .exact KeyOrd.kle_trans I (h i (j-1) (by lia) (by lia))
 .exact h i j g (by lia)
theorem asc{p:Array Nat}(g:Pm n p):∀(f m:Nat),1<=m->Up key p m->Wp (Fs key) n (kas_asc p f m) fun r=>m<=r/\r<=m+f/\Up key p r/\(r=m+f\/O.klt (Key key p r) (Key key p (r-1)))
 |0,m,_,h=>⟨aD _,Nat.le_refl _,h,.inl rfl⟩
 |f+1,m,M,h=>by
  refine⟨g.lt _,g.lt _,?_⟩;cases c:Fs key (p.getD m 0) (p.getD (m-1) 0) with
  |true=>exact⟨aD _,by lia,h,.inr c⟩
  |false=>
   simp only[Bool.false_eq_true,if_false];refine Wp.mono (fun r I=>?_) _ (asc g f (m+1) (by lia) (h.more M c));exact⟨by lia,by lia,I.2.2.1,I.2.2.2.elim (fun z=>.inl (by lia)) .inr⟩
def Eq(key:Nat->O.α)(p:Array Nat)(m q:Nat):Prop:=q<m/\∀k,m-(q+1)<=k->k<m->Key key p k=Key key p (m-1)
theorem rev_eq{p:Array Nat}{m q:Nat}(h:Eq key p m q)(hm:m<=p.size)(k:Nat):Key key (kas_rev p (m-(q+1)) m) k=Key key p k:=by
 unfold Key;rw[Ii hm];split
 .have a:=h.2 (m-(q+1)+m-1-k) (by have:=h.1;lia) (by have:=h.1;lia);have b:=h.2 k (by lia) (by lia);exact a.trans b.symm
 .rfl
theorem desc:∀(f:Nat) (p:Array Nat) (m q:Nat),Pm n p->1<=m->m+f<=n->Dn key p m->Eq key p m q->Wp (Fs key) n (kas_desc f p m q) fun r=>Pm n r.1/\m<=r.2.1/\r.2.1<=m+f/\Dn key r.1 r.2.1/\Eq key r.1 r.2.1 r.2.2
 |0,p,m,q,g,_,_,h,e=>⟨g,Nat.le_refl _,Nat.le_refl _,h,e⟩
 |f+1,p,m,q,g,Y,hf,h,e=>by
  refine⟨g.lt _,g.lt _,?_⟩;have hm:m<=p.size:=by rw[g.size];lia
  cases c:Fs key (p.getD m 0) (p.getD (m-1) 0) with
  |true=>
   have ck:O.klt (Key key p m) (Key key p (m-1)):=c;simp only[if_true];have fin:∀I:Array Nat,Pm n I->(∀k,Key key I k=Key key p k)->Wp (Fs key) n (kas_desc f I (m+1) 0) fun r=>Pm n r.1/\m<=r.2.1/\r.2.1<=m+(f+1)/\Dn key r.1 r.2.1/\Eq key r.1 r.2.1 r.2.2:=fun I R hk=>by
    have hd:Dn key I (m+1):=fun i j U hj=>by rw[hk,hk];exact h.more Y (KeyOrd.kle_of_klt ck) i j U hj
    have he:Eq key I (m+1) 0:=⟨by lia,fun k Y h2=>by rw[show k=m+1-1 by lia]⟩;exact Wp.mono (fun r M=>⟨M.1,by lia,by lia,M.2.2.2.1,M.2.2.2.2⟩) _ (desc f I (m+1) 0 R (by lia) (by lia) hd he)
   split
   .exact fin _ (g.rev _ _) (rev_eq e hm)
   .exact fin _ g fun _=>rfl
  |false=>
   simp only[Bool.false_eq_true,if_false];refine⟨g.lt _,g.lt _,?_⟩;cases d:Fs key (p.getD (m-1) 0) (p.getD m 0) with
   |true=>
    simp only[if_true];exact⟨g,Nat.le_refl _,Nat.le_add_right _ _,h,e⟩
   |false=>
    simp only[Bool.false_eq_true,if_false];have Z:Key key p m=Key key p (m-1):=KeyOrd.kle_antisymm (show O.kle (Key key p m) (Key key p (m-1)) from d) (show O.kle (Key key p (m-1)) (Key key p m) from c);refine Wp.mono (fun r M=>⟨M.1,by lia,by lia,M.2.2.2.1,M.2.2.2.2⟩) _ (desc f p (m+1) (q+1) g (by lia) (by lia) (h.more Y (by rw[Z];exact bf _)) ⟨by have:=e.1;lia,fun k h2 h3=>?_⟩);rw[show m+1-1=m by lia,Z];by_cases z:k=m
    .rw[z,Z]
    .exact e.2 k (by lia) (by lia)
theorem eC{p:Array Nat}{m:Nat}(h:Dn key p m)(hm:m<=p.size):Up key (kas_rev p 0 m) m:=fun i j g I=>by
 unfold Key;rw[Ii hm,Ii hm,if_pos ⟨ah _,by lia⟩,if_pos ⟨ah _,by lia⟩];exact h (0+m-1-j) (0+m-1-i) (by lia) (by lia)
theorem tail3{p:Array Nat}{m:Nat}(g:Pm n p)(h1:1<=m)(hm:m<=n)(h:Dn key p m):Wp (Fs key) n (kas_tail3 m n p) fun r=>Pm n r.2/\1<=r.1/\r.1<=n/\Up key r.2 r.1:=by
 unfold kas_tail3;refine Wp.bind _ (Wp.mono (fun r I=>?_) _ (asc (g.rev 0 m) (n-m) m h1 (eC h (by rw[g.size];exact hm))));exact⟨g.rev 0 m,by lia,by lia,I.2.2.1⟩
theorem descPart{p:Array Nat}{m:Nat}(R:Pm n p)(h1:1<=m)(hm:m+1<=n)(h:Dn key p (m+1)):Wp (Fs key) n (kas_descPart m n p) fun r=>Pm n r.2/\1<=r.1/\r.1<=n/\Up key r.2 r.1:=by
 unfold kas_descPart;refine Wp.bind _ (Wp.mono (fun r M=>?_) _ (desc (n-(m+1)) p (m+1) 0 R (by lia) (by lia) h ⟨by lia,fun k h1 Y=>by rw[show k=m+1-1 by lia]⟩));obtain⟨a,b,c,d,e⟩:=M;have I:r.2.1<=r.1.size:=by rw[a.size];lia
 split
 .refine tail3 (a.rev _ _) (by lia) (by lia) fun i j g U=>?_;rw[rev_eq e I,rev_eq e I];exact d i j g U
 .exact tail3 a (by lia) (by lia) d
theorem count{p:Array Nat}(g:Pm n p):Wp (Fs key) n (kas_count n p) fun r=>Pm n r.2/\1<=r.1/\r.1<=n/\Up key r.2 r.1:=by
 have hn:=g.pos;unfold kas_count;refine Wp.bind _ (Wp.mono (fun m hm=>?_) _ (asc g (n-1) 1 (aD _) Up.one));obtain⟨U,h2,R,h4⟩:=hm;split
 .exact⟨g,U,by lia,R⟩
 .rename_i Y;have M:m≠n:=by simpa using Y
  have hk:O.klt (Key key p m) (Key key p (m-1)):=by
   rcases h4 with z|z
   .exact absurd (by lia) M
   .exact z
  have hz:m<=p.size:=by rw[g.size];lia
  split
  .refine⟨g.lt _,g.lt _,?_⟩;cases c:Fs key (p.getD 0 0) (p.getD (m-1) 0) with
   |true=>simp only[if_true];exact⟨g,U,by lia,R⟩
   |false=>
    simp only[Bool.false_eq_true,if_false];have all:∀k,k<m->Key key p k=Key key p (m-1):=fun k I=>KeyOrd.kle_antisymm (R k (m-1) (by lia) (by lia)) (KeyOrd.kle_trans (show O.kle (Key key p (m-1)) (Key key p 0) from c) (R 0 k (by lia) I));have ek:∀k,Key key (kas_rev p 0 m) k=Key key p k:=fun k=>by
     by_cases I:k<m
     .have:Key key (kas_rev p 0 m) k=Key key p (0+m-1-k):=by
       unfold Key;rw[Ii hz,if_pos ⟨ah _,I⟩]
      rw[this,all _ (by lia),all k I]
     .unfold Key;rw[Ii hz,if_neg (by lia)]
    refine descPart (g.rev _ _) U (by lia) fun i j Z hj=>?_;rw[ek,ek];by_cases e:j=m
    .subst e;by_cases e2:i=j
     .subst e2;exact bf _
     .rw[all i (by lia)];exact KeyOrd.kle_of_klt hk
    .rw[all i (by lia),all j (by lia)];exact bf _
  .have:m=1:=by lia
   subst this;refine descPart g U (by lia) fun i j Z hj=>?_;by_cases e:i=j
   .subst e;exact bf _
   .rw[show i=0 by lia,show j=1 by lia];exact KeyOrd.kle_of_klt hk
theorem place{p:Array Nat}{k:Nat}(I:Pm n p)(g:Up key p k):∀(f l r:Nat),l<=r->r<=k->r-l<=f->(∀i,i<l->O.kle (Key key p i) (Key key p k))->(∀i,r<=i->i<k->O.klt (Key key p k) (Key key p i)) ->
  Wp (Fs key) n (kas_place p k f l r) fun x=>x<=k/\(∀i,i<x->O.kle (Key key p i) (Key key p k))/\∀i,x<=i->i<k->O.klt (Key key p k) (Key key p i)
 |0,l,r,Z,M,Y,a,b=>by
  have:l=r:=by lia
  subst this;exact⟨M,a,b⟩
 |f+1,l,r,Z,M,Y,a,b=>by
  unfold kas_place;split
  .have:l=r:=by lia
   subst this;exact⟨M,a,b⟩
  .refine⟨I.lt _,I.lt _,?_⟩;cases c:Fs key (p.getD k 0) (p.getD ((l+r) / 2) 0) with
   |true=>
    simp only[if_true];exact place I g f l ((l+r) / 2) (by lia) (by lia) (by lia) a fun i R U=>KeyOrd.klt_of_klt_of_kle (show O.klt (Key key p k) (Key key p ((l+r) / 2)) from c) (g _ _ R U)
   |false=>
    simp only[Bool.false_eq_true,if_false];exact place I g f ((l+r) / 2+1) r (by lia) M (by lia) (fun i R=>KeyOrd.kle_trans (g i ((l+r) / 2) (by lia) (by lia)) (show O.kle (Key key p ((l+r) / 2)) (Key key p k) from c)) b
theorem bin:∀(f:Nat) (p:Array Nat) (k:Nat),Pm n p->1<=k->k+f=n->Up key p k->Wp (Fs key) n (kas_bin f p k) fun r=>Pm n r/\Up key r n
 |0,p,k,g,_,hk,h=>by
  have:k=n:=by lia
  subst this;exact⟨g,h⟩
 |f+1,p,k,g,h1,hk,h=>by
  have M:k<p.size:=by rw[g.size];lia
  refine Wp.bind _ (Wp.mono (fun l hl=>?_) _ (place g h k 0 k (ah _) (aD _) (by lia) (fun i z=>absurd z (by lia)) fun i Y z2=>absurd Y (by lia)));obtain⟨Z,I,R⟩:=hl;refine bin f _ (k+1) (g.bubble _ _) (by lia) (by lia) fun i j hij hj=>?_;have U:∀x,Key key (PyProof.Rows.bubble p k (k-l)) x=if x=l then Key key p k else if l<x/\x<=k then Key key p (x-1) else Key key p x:=fun x=>by
   unfold Key;rw[Td M (by lia),show k-(k-l)=l by lia];split
   .rfl
   .split<;>rfl
  rw[U,U]
  repeat' split
  all_goals first
   |(exfalso;lia)
   |exact bf _
   |exact I _ (by lia)
   |exact KeyOrd.kle_of_klt (R _ (by lia) (by lia))
   |exact h _ _ (by lia) (by lia)
theorem sort(hn:0<n):Wp (Fs key) n (kas_sort n) fun p=>Pm n p/\Up key p n:=by
 have I:Pm n (List.toArray (List.range n)):=⟨Array.Perm.refl _,hn⟩;unfold kas_sort;refine Wp.bind _ (Wp.mono (fun r g=>?_) _ (count I));obtain⟨a,b,c,d⟩:=g;split
 .rw[show max r.1 1=r.1 by lia];exact bin _ _ _ a b (by lia) d
 .have:r.1=n:=by lia
  rw[this]at d;exact⟨a,d⟩
end
end SM
namespace TH
open PySem PySem.W PyProof.Rows PySem.SeqAt
section
variable{A:Around}{E:Value->Shared->Prop}{s:Shared}{a:Addr}{Q:Bool->Shared->Prop}
theorem TU{M:Model}{h:Heap}{a:Addr}{x:Array Value}(h1:h.IsTuple a x):Looks M h (typeOf (.ref a)) (.type "tuple"):=by
 obtain⟨o,g,I,_⟩:=h1;exact I ▸ (Looks.ld g).andThen .now
theorem Z8{M:Model}{vs:List Value}{Q:Option Value->Shared->Prop}(U:∀v∈vs,Looks M s.heap (typeOf v) (.type "tuple"))(h0:vs=[]->Q none s)(h1:Q (some (.type "tuple")) s):wpAny M A (oneTypeOnly' vs.toArray) Q E s:=by
 rw[oneTypeOnly'_eq,List.mapM_toArray,map_eq_pure_bind];refine aA (aA (kas_mapM (r:=Value.type "tuple") _ (fun v I Z R=>(U v I).here R) (aC ?_)));cases vs with
 |nil=>exact aC (h0 rfl)
 |cons f r=>
  have g:((List.map (fun _=>Value.type "tuple") (f::r)).toArray.all fun x=>x==Value.type "tuple")=true:=by
   simp only[List.all_toArray,List.all_map,List.all_eq_true];intro _ _
   rfl
  have Y:(List.map (fun _=>Value.type "tuple") (f::r)).toArray[0]? = some (Value.type "tuple"):=by simp
  rw[Y];simp only[g,if_true];exact aC h1
theorem Sj{α:Type}{cmp:Nat->Nat->(Bool->Shared->Prop)->Shared->Prop}{lt:Nat->Nat->Bool}{n:Nat}{I:α->Prop}(g:∀i j C,i<n->j<n->C (lt i j) s->cmp i j C s):∀T:KasT α,SM.Wp lt n T I->T.kasWp cmp (fun a s'=>s'=s/\I a) s
 |.ret a,h=>⟨rfl,h⟩
 |.ask i j k,h=>g i j _ h.1 h.2.1 (Sj g (k (lt i j)) h.2.2)
end
end TH
namespace TH
open PySem PySem.W PyProof.Rows PySem.SeqAt
theorem map_getD{α:Type}(d:α)(l:List α):(List.range l.length).map (fun i=>l.getD i d)=l:=by
 refine List.ext_getElem (by simp) fun i I g=>?_;simp[g]
section
theorem XE(b:Bool)(us:List Value)(hz:us.length<2):(if b=true then((if b=true then(us.toArray.zip us.toArray).reverse else us.toArray.zip us.toArray).map (·.2)).reverse else(if b=true then(us.toArray.zip us.toArray).reverse else us.toArray.zip us.toArray).map (·.2))=us.toArray:=by
 match us,hz with
 |[],_=>cases b<;>simp
 |[x],_=>cases b<;>simp
end
end TH
namespace ET
open PySem
section
variable{prog:Program}{w:World}{A:Around}{E:Value->Shared->Prop}{s:Shared}
theorem next_item{it t:Addr}{i:Nat}{items}{x:Value}{Q:Value->Shared->Prop}(hit:s.heap.IsTupleIter it t i)(U:s.heap.IsTuple t items)(R:items[i]? = some x)
 (Z:∀h',h'.IsTupleIter it t (i+1)->Heap.SameBut it s.heap h'->Q x {s with heap:=h'}):wpAny (model prog w) A (Builtin.SmallTypes.nextOf (.ref it)) Q E s:=by
 obtain⟨o,g,Y,hd⟩:=id hit;obtain⟨ol,I,_,nl,M⟩:=U;unfold Builtin.SmallTypes.nextOf;refine aA (ar (name:=Str.ofString "__next__") hit.typeIs F.slot_tuple_iterator_next
  (az F.slot_tuple_iterator_next hit.typeIs F.entry_tuple_iterator_next ?_ (F.args_tuple_iterator_next_1 _)))
 show wpAny _ _ (field (.ref it) 0>>=_) _ _ s;refine aA (aq g hd (x:=.ref t) rfl ?_);show wpAny _ _ (if(Value.ref t==Value.none)=true then _ else _) _ _ s;rw[if_neg (show ¬((Value.ref t==Value.none)=true) from aO)];show wpAny _ _ (field (.ref it) 1>>=_) _ _ s;refine aA (aq g hd (x:=.int i 0) rfl ?_);show wpAny _ _ (seqItems? (.ref t)>>=_) _ _ s;refine aA (bp I M ?_);simp only[Int.toNat_natCast,R];refine aA (wpAny_setField g hd (by simp) (aC ⟨x,rfl,wpAny_pure (Z _ ?_ (bJ ..))⟩));exact⟨_,Heap.get?_update_self _ g (Obj.isFreed_of_fields (Obj.data_mapFields hd _)),(Obj.cls_mapFields ..).trans Y,by
  rw[Obj.data_mapFields hd];simp[rawInt]⟩
theorem next_end{it t:Addr}{i:Nat}{items}{Q:Value->Shared->Prop}(R:A.handled=none)(hit:s.heap.IsTupleIter it t i)(Y:s.heap.IsTuple t items)(U:items[i]? = none)
 (Z:∀h' e,Heap.ExtBut it s.heap h'->(∃o,h'.get? e=some o/\o.cls=.type "StopIteration")->E (.ref e) {s with heap:=h'}):wpAny (model prog w) A (Builtin.SmallTypes.nextOf (.ref it)) Q E s:=by
 obtain⟨o,I,hc,hd⟩:=id hit;obtain⟨ol,g,_,nl,M⟩:=Y;unfold Builtin.SmallTypes.nextOf;refine aA (ar (name:=Str.ofString "__next__") hit.typeIs F.slot_tuple_iterator_next
  (az F.slot_tuple_iterator_next hit.typeIs F.entry_tuple_iterator_next ?_ (F.args_tuple_iterator_next_1 _)))
 show wpAny _ _ (field (.ref it) 0>>=_) _ _ s;refine aA (aq I hd (x:=.ref t) rfl ?_);show wpAny _ _ (if(Value.ref t==Value.none)=true then _ else _) _ _ s;rw[if_neg (show ¬((Value.ref t==Value.none)=true) from aO)];show wpAny _ _ (field (.ref it) 1>>=_) _ _ s;refine aA (aq I hd (x:=.int i 0) rfl ?_);show wpAny _ _ (seqItems? (.ref t)>>=_) _ _ s;refine aA (bp g M ?_);simp only[Int.toNat_natCast,U];refine aA (wpAny_rule (aA (wpAny_setField I hd (by simp) ?_)));show wpAny _ _ (newExc (.type "StopIteration") []>>=_) _ _ _;refine aA ?_;simp only[newExc,newTuple];refine aA (aZ ?_ (by size_fits));refine aA (m:=firstArgMember _ _) (wpAny_of_eq (a:=Value.none) (by first|rfl|(simp only[firstArgMember];rfl)) ?_);refine aZ ?_ (by size_fits);simp only[raiseNew];refine aA (wpAny_handled ?_)
 first|rw[show A.in1.handled=none from R]|rw[R]
 refine aA (aC (wpAny_throw ?_));exact Z _ _ (((bJ ..).extBut.push _).push _) ⟨_,Heap.get?_push_size _ rfl,rfl⟩
end
theorem draws{prog:Program}{w:World}{A:Around}(hh:A.handled=none)(it a:Addr)(its:List Value)(hne:a≠it) :
  Draws prog w A it [it,a] its.length (fun i x=>its[i]? = some x) (fun i h=>h.IsTupleIter it a i/\h.IsTuple a its.toArray) where
 live:=fun i h st=>let⟨o,e,_⟩:=st.1;⟨o,e⟩
 frame:=fun i h h' st k=>by
  obtain⟨⟨o,e,r⟩,o2,e2,r2⟩:=st;exact⟨⟨o,k it (by simp) o e,r⟩,o2,k a (by simp) o2 e2,r2⟩
 item:=fun i s Q E hi st hQ=>next_item st.1 st.2 (x:=its[i]) (by simp[hi]) fun h' st' sb=>
  hQ _ h' s.toks (by simp[hi]) ⟨st',let⟨o,e,r⟩:=st.2;⟨o,(sb.2 a hne).trans e,r⟩⟩ sb
 done:=fun s Q E st hE=>next_end hh st.1 st.2 (by simp) hE
end ET
namespace L2
open PySem PySem.Spec PyProof.Rows
def Ts(H:Hp):Tr->List V->Prop
 |.nil,xs=>xs=[]
 |.cons b r,xs=>∃(a:Addr) (ys g:List V),xs=.ref a::g/\H a=some (.tup ys)/\Ts H b ys/\Ts H r g
def Tv(H:Hp)(t:Tr)(v:V):Prop:=∃(a:Addr) (ys:List V),v=.ref a/\H a=some (.tup ys)/\Ts H t ys
theorem Ts.same{H H':Hp}(e:AG H H'):∀ {t:Tr} {xs:List V},Ts H t xs->Ts H' t xs
 |.nil,xs,h=>by rw[Ts]at h ⊢;exact h
 |.cons b r,xs,h=>by
  rw[Ts]at h ⊢;obtain⟨a,ys,g,U,R,M,I⟩:=h;exact⟨a,ys,g,U,e _ _ R,M.same e,I.same e⟩
theorem Tv.same{H H':Hp}{t:Tr}{v:V}(h:Tv H t v)(e:AG H H'):Tv H' t v:=let⟨a,ys,M,I,g⟩:=h;⟨a,ys,M,e _ _ I,g.same e⟩
end L2
namespace L2
open PySem PySem.Spec PyProof.Rows
theorem Vals.pick{xs:List V}{us:List Value}(r:Vals xs us):∀ix:List Nat,(∀i∈ix,i<xs.length)->Vals (ix.map fun i=>xs.getD i .BM) (ix.map fun i=>us.getD i Value.none)
 |[],_=>.nil
 |i::ix,h=>by
  refine .cons ?_ (Vals.pick r ix fun k g=>h k (aM _ g));have hi:=h i aR;obtain⟨u,M,I⟩:=r.get (i:=i) (x:=xs[i]) (by simp[hi]);show RelV (xs.getD i .BM) (us.getD i Value.none);rw[List.getD_eq_getElem?_getD,List.getD_eq_getElem?_getD,M,List.getElem?_eq_getElem hi];exact I
section
variable{X:Cx}
theorem eT{e k:Expr}{Y tk:TE}{pos p2:Pos}(he:PE X e Y)(hk:PE X k tk):PE X (.Subscript e (.Slice none none (some k) p2) pos)
  (fun σ H Q=>Y σ H fun x H1=>tk σ H1 fun z U=>∃(a:Addr) (xs:List V),x=.ref a/\z=.int (-1)/\AO X.K U a xs/\∀p,U p=none->Q (.ref p) (upd U p (.lst xs.reverse))):=by
 intro pins s σ H Q I h;refine Subscript_ (A4 (he pins s σ H _ I h) fun v s1 ⟨x,H1,I1,r1,q1⟩=>?_);refine wpAny_Slice ?_;rw[evalPart_none];refine aC ?_;refine aC ?_;rw[evalPart_some];refine A4 (hk pins s1 σ H1 _ I1 q1) fun vk s3 ⟨z,H3,I3,r3,q3⟩=>?_;obtain⟨a,xs,rfl,rfl,hq,q⟩:=q3;cases r1;obtain⟨g,rfl⟩:=r3;have R:Inv X pins σ H3 {s3 with heap:=s3.heap.push { cls:=.type "slice",data:=.fields #[.none,.none,.int (-1) g]} }:=I3.kept (t':=s3.toks) fun b ob q=>aE _ q;obtain⟨M,Z,pl,hz⟩:=R.list hq;have hlen:=Z.length;show wpAny (model X.prog X.w) X.A (subscriptTail e (.Slice none none (some k) p2) (.ref a) (.ref s3.heap.objs.size)) (EP X pins σ Q) X.xe {s3 with heap:=s3.heap.push { cls:=.type "slice",data:=.fields #[.none,.none,.int (-1) g]} };refine tail_any (ops:=[.ref a,.ref s3.heap.objs.size]) (T := "list") pl.isList.typeIs slot_list_getitem.lookup ?_ (by with_unfolding_all rfl);refine wpAny_getItem_list_slice pl.isList (Heap.IsSliceOf.new ..) .none .none (.int (-1) g) (by decide) ?_ (by rw[List.size_toArray]<;>lia);rw[PySem.W.krv_pick];refine⟨.ref _,_,R.laid (t':=s3.toks) (o:=.lst xs.reverse) (fun b ob q=>aE _ q) (aD _) ?_,rfl,q _ (R.Ah.fresh (aD _))⟩;exact⟨by rw[List.length_reverse];exact hz,M.reverse,0,Z.reverse,Heap.get?_push_size _ rfl⟩
end
def CW(Pv:Nat->List V->Hp->Prop)(n:Nat)(D:Addr):Nat->Nat->List V->Hp->Prop:=fun i m ys H=>m=n-i/\i<=n/\H D=some (.lst ys)/\Pv i ys H
theorem A8{Pv:Nat->List V->Hp->Prop}{n i:Nat}{D:Addr}{ys:List V}{y:V}{H:Hp}(hi:i<n)(p:Pv (i+1) (ys++[y]) (upd H D (.lst (ys++[y])))):∃g,g<n-i/\CW Pv n D (i+1) g (ys++[y]) (upd H D (.lst (ys++[y]))) :=
 ⟨n-(i+1),by lia,rfl,hi,AH,p⟩
theorem UG{Pv:Nat->List V->Hp->Prop}{n i:Nat}{D:Addr}{ys:List V}{H:Hp}(hi:i<n)(I:H D=some (.lst ys))(p:Pv (i+1) ys H):∃g,g<n-i/\CW Pv n D (i+1) g ys H:=⟨n-(i+1),by lia,rfl,hi,I,p⟩
theorem Ba{J:It}{n:Nat}{D:Addr}{H1:Hp}{fr:List (Option Nat)}{σ:St}{ix:Nat}{M:TT}{te:TE}{G:Hp->Prop}(Pv:Nat->List V->Hp->Prop)(h0:Pv 0 [] (upd H1 D (.lst [])))
 (Z:∀i ys H,i<n->Pv i ys H->H D=some (.lst ys)->J.go i H/\ys.length<sizeLine/\∀x H',J.Ec i H x H' ->
   M ((carry fr σ).set ix (some x)) H' fun b U=>if b=true then te ((carry fr σ).set ix (some x)) U fun y R=>R D=some (.lst ys)/\∃g,g<n-i/\CW Pv n D (i+1) g (ys++[y]) (upd R D (.lst (ys++[y])))
    else ∃g,g<n-i/\CW Pv n D (i+1) g ys U)
 (I:∀ys H,Pv n ys H->H D=some (.lst ys)->J.stop n H/\G H) :
  ∃W:Nat->Nat->List V->Hp->Prop,(∃m,W 0 m [] (upd H1 D (.lst []))) /\
   ∀i m ys H,W i m ys H->H D=some (.lst ys)/\((J.stop i H/\G H)\/(J.go i H/\ys.length<sizeLine/\∀x H',J.Ec i H x H' ->
    M ((carry fr σ).set ix (some x)) H' fun b U=>if b=true then te ((carry fr σ).set ix (some x)) U fun y R=>R D=some (.lst ys)/\∃g,g<m/\W (i+1) g (ys++[y]) (upd R D (.lst (ys++[y])))
     else ∃g,g<m/\W (i+1) g ys U)):=by
 refine⟨CW Pv n D,⟨n,by simp,Nat.zero_le _,AH,h0⟩,?_⟩;rintro i m ys H ⟨rfl,hi,hH,p⟩;refine⟨hH,?_⟩;by_cases Y:i<n
 .exact .inr (Z i ys H Y p hH)
 .have e:i=n:=by lia
  subst e;exact .inl (I ys H p hH)
section
variable{X:Cx}
theorem X6(hc:X.calm=true):HN X (.builtin "all") (fun xs H Q=>∃(p:Addr) (bs:List Bool),xs=[.ref p]/\AO X.K H p (bs.map V.bl)/\Q (.bl (bs.all id)) H):=by
 intro pins s σ H xs us Q I r h;obtain⟨p,bs,rfl,hq,q⟩:=h;obtain⟨u,rfl,r1⟩:=r.one;cases r1;obtain⟨g,Y,pl,hz⟩:=I.list hq;have U:s.heap.IsList p g.toArray:=pl.isList;have R:p<s.heap.objs.size:=by obtain⟨_,e,_⟩:=U;exact aG e
 have M:g.length=bs.length:=by rw[<-Y.length,List.length_map]
 refine call_all_walk (wpAny_pyIter_list U ?_);refine⟨s.heap.objs.size,[s.heap.objs.size,p],[s.heap.objs.size],g.toArray.size,_,_,fun i=>(bs[i]?).getD true,rfl,Walks.list (A:=X.A.in1) (I.ok.hd hc) _ p (aT R) g.toArray,
  ⟨⟨_,Heap.get?_push_size _ rfl,rfl,rfl⟩,U.push _⟩,fun i v s' Q' E' hP hQ=>?_,fun h' tk hk=>?_⟩
 .have Z:g[i]? = some v:=by simpa using hP
  have hi:i<bs.length:=by rw[<-M];exact(aB.mp Z).1
  obtain⟨u,h1,h2⟩:=Y.get (i:=i) (x:=.bl bs[i]) (by rw[List.getElem?_map,List.getElem?_eq_getElem hi];rfl);rw[Z]at h1;cases h1;cases h2;simp only[List.getElem?_eq_getElem hi,Option.getD_some]at hQ;exact bj hQ
 .have e:((List.range g.toArray.size).all fun i=>(bs[i]?).getD true)=bs.all id:=by
   rw[List.size_toArray,M];exact PyProof.Rows.LSm.range_all bs
  rw[e];exact⟨.bl _,H,I.kept (t':=tk) (PyProof.Rows.LSm.kept_iter hk),rfl,q⟩
theorem Mi(hc:X.calm=true):HN X (.builtin "sum") (fun xs H Q=>∃(p:Addr) (ns:List Int),xs=[.ref p]/\AO X.K H p (ns.map V.int)/\Q (.int ns.sum) H):=by
 intro pins s σ H xs us Q I r h;obtain⟨p,ns,rfl,hq,q⟩:=h;obtain⟨u,rfl,r1⟩:=r.one;cases r1;obtain⟨g,Z,pl,hz⟩:=I.list hq;have hi:=intsAre_of Z;obtain⟨xs,U⟩:=hi.allInts.items;have M:s.heap.IsList p (intItems xs):=U ▸ pl.isList
 refine sum_intListG (I.ok.hd hc) M fun h' Y R hk=>?_;have e1:ns=xs.toList.map (·.1):=by
  rw[<-nums_intItems,<-U];exact(show numsOf g.toArray.toList=ns from hi.numsOf).symm
 have e2:preSum (numAt xs) xs.size=ns.sum:=by
  rw[preSum_eq,List.take_of_length_le (by simp),e1]
 rw[e2];exact⟨.int _,H,I.kept (t':=Y) hk,⟨R,rfl⟩,q⟩
end
section
variable{X:Cx}{scope:Scope}{cl:List (Str×Addr)}{N:List Str}{C:Addr}{s₀:Shared}{H₀:Hp}{fp:List Addr}
theorem Kf:K9 (Ap X scope cl N C s₀ H₀ fp) (YJ X.K):=F9
theorem DD:K9 (Ap X scope cl N C s₀ H₀ fp) (Yj X.K):=Ar
end
mutual
def Dt(l:Addr)(H:Hp):PyData->V->Prop
 |.none,v=>v=.BM
 |.bool b,v=>v=.bl b
 |.int i,v=>v=.int i
 |.str x,v=>v=.str x
 |.tuple g,v=>∃(a:Addr) (xs:List V),v=.ref a/\a≠l/\H a=some (.tup xs)/\AQ l H g xs
 |.list g,v=>∃(a:Addr) (xs:List V),v=.ref a/\a≠l/\H a=some (.lst xs)/\AQ l H g xs
 |.dict _,_=>False
def AQ(l:Addr)(H:Hp):List PyData->List V->Prop
 |[],xs=>xs=[]
 |d::g,xs=>∃x r,xs=x::r/\Dt l H d x/\AQ l H g r
end
mutual
theorem Dt.but{l:Addr}{H H':Hp}(e:SameBut l H H'):∀ {d:PyData} {v:V},Dt l H d v->Dt l H' d v
 |.none,_,h=>by rw[Dt]at h ⊢;exact h
 |.bool _,_,h=>by rw[Dt]at h ⊢;exact h
 |.int _,_,h=>by rw[Dt]at h ⊢;exact h
 |.str _,_,h=>by rw[Dt]at h ⊢;exact h
 |.tuple _,_,h=>by
  rw[Dt]at h ⊢;obtain⟨a,xs,M,n,I,g⟩:=h;exact⟨a,xs,M,n,e _ _ n I,AQ.but e g⟩
 |.list _,_,h=>by
  rw[Dt]at h ⊢;obtain⟨a,xs,M,n,I,g⟩:=h;exact⟨a,xs,M,n,e _ _ n I,AQ.but e g⟩
 |.dict _,_,h=>by rw[Dt]at h;exact h.elim
theorem AQ.but{l:Addr}{H H':Hp}(e:SameBut l H H'):∀ {ds:List PyData} {xs:List V},AQ l H ds xs->AQ l H' ds xs
 |[],_,h=>by rw[AQ]at h ⊢;exact h
 |_::_,_,h=>by
  rw[AQ]at h ⊢;obtain⟨x,r,M,I,g⟩:=h;exact⟨x,r,M,Dt.but e I,AQ.but e g⟩
end
theorem Dt.same{l:Addr}{H H':Hp}{d:PyData}{v:V}(h:Dt l H d v)(e:AG H H'):Dt l H' d v:=Dt.but (.of e) h
theorem AQ.same{l:Addr}{H H':Hp}{d:List PyData}{v:List V}(h:AQ l H d v)(e:AG H H'):AQ l H' d v:=AQ.but (.of e) h
mutual
theorem Dt.br{K:PySem.W.Frag}{l:Addr}{H:Hp}:∀ {d:PyData} {v:V},Dt l H d v->Br K H d v
 |.none,_,h=>by rw[Dt]at h;rw[Br];exact h
 |.bool _,_,h=>by rw[Dt]at h;rw[Br];exact h
 |.int _,_,h=>by rw[Dt]at h;rw[Br];exact h
 |.str _,_,h=>by rw[Dt]at h;rw[Br];exact h
 |.tuple _,_,h=>by
  rw[Dt]at h;rw[Br];obtain⟨a,xs,M,n,I,g⟩:=h;exact⟨a,xs,M,Af.of I,AQ.br g⟩
 |.list _,_,h=>by
  rw[Dt]at h;rw[Br];obtain⟨a,xs,M,n,I,g⟩:=h;exact⟨a,xs,M,AO.of I,AQ.br g⟩
 |.dict _,_,h=>by rw[Dt]at h;exact h.elim
theorem AQ.br{K:PySem.W.Frag}{l:Addr}{H:Hp}:∀ {ds:List PyData} {xs:List V},AQ l H ds xs->Dz K H ds xs
 |[],_,h=>by rw[AQ]at h;rw[Dz];exact h
 |_::_,_,h=>by
  rw[AQ]at h;rw[Dz];obtain⟨x,r,M,I,g⟩:=h;exact⟨x,r,M,Dt.br I,AQ.br g⟩
end
theorem AQ.len{l:Addr}{H:Hp}:∀ {ds:List PyData} {xs:List V},AQ l H ds xs->xs.length=ds.length
 |[],_,h=>by rw[AQ]at h;rw[h];rfl
 |_::_,_,h=>by
  rw[AQ]at h;obtain⟨x,r,rfl,_,g⟩:=h;rw[List.length_cons,List.length_cons,AQ.len g]
theorem AQ.get{l:Addr}{H:Hp}:∀ {ds:List PyData} {xs:List V} {i:Nat} {v:V},AQ l H ds xs->xs[i]? = some v->∃d,ds[i]? = some d/\Dt l H d v
 |[],_,i,v,h,e=>by rw[AQ]at h;subst h;simp at e
 |d::ds,_,i,v,h,e=>by
  rw[AQ]at h;obtain⟨x,r,rfl,R,M⟩:=h;cases i with
  |zero=>simp at e;subst e;exact⟨d,rfl,R⟩
  |succ i=>
   obtain⟨c,I,g⟩:=M.get (i:=i) (v:=v) (by simpa using e);exact⟨c,by simpa using I,g⟩
theorem AQ.nil{l:Addr}{H:Hp}:AQ l H [] []:=by rw[AQ]
theorem AQ.cons{l:Addr}{H:Hp}{d:PyData}{ds:List PyData}{x:V}{xs:List V}(h:Dt l H d x)(k:AQ l H ds xs):AQ l H (d::ds) (x::xs):=by
 rw[AQ];exact⟨x,xs,rfl,h,k⟩
theorem AQ.app{l:Addr}{H:Hp}:∀ {ds es:List PyData} {xs ys:List V},AQ l H ds xs->AQ l H es ys->AQ l H (ds++es) (xs++ys)
 |[],_,_,_,h,k=>by rw[AQ]at h;subst h;exact k
 |d::ds,es,_,ys,h,k=>by
  rw[AQ]at h;obtain⟨x,r,rfl,I,g⟩:=h;exact .cons I (g.app k)
theorem Dt.int{l:Addr}{H:Hp}{i:Int}:Dt l H (.int i) (.int i):=by rw[Dt]
theorem Dt.bool{l:Addr}{H:Hp}{b:Bool}:Dt l H (.bool b) (.bl b):=by rw[Dt]
theorem Dt.BM{l:Addr}{H:Hp}:Dt l H .none .BM:=by rw[Dt]
theorem Dt.str{l:Addr}{H:Hp}{x:Str}:Dt l H (.str x) (.str x):=by rw[Dt]
theorem Dt.tup{l a:Addr}{H:Hp}{ds:List PyData}{xs:List V}(n:a≠l)(h:H a=some (.tup xs))(k:AQ l H ds xs):Dt l H (.tuple ds) (.ref a):=by rw[Dt];exact⟨a,xs,rfl,n,h,k⟩
theorem Dt.lst{l a:Addr}{H:Hp}{ds:List PyData}{xs:List V}(n:a≠l)(h:H a=some (.lst xs))(k:AQ l H ds xs):Dt l H (.list ds) (.ref a):=by rw[Dt];exact⟨a,xs,rfl,n,h,k⟩
def Ok(n:Nat)(d:PyData):Prop:=d.canLay0=true/\d.depth<=n
def Gg(n:Nat)(ds:List PyData):Prop:=PyData.canLayAll0 ds=true/\PyData.depthAll ds<=n
theorem Ok.shaped{n:Nat}{d:PyData}(h:Ok n d)(hn:n<=64):SeqAt.shaped d=true:=by
 unfold SeqAt.shaped;rw[h.1,Bool.true_and];exact bU (aU h.2 hn)
theorem Gg.nil{n:Nat}:Gg n []:=⟨by simp[PyData.canLayAll0],by simp[PyData.depthAll]⟩
theorem Gg.cons{n:Nat}{d:PyData}{ds:List PyData}(h:Ok n d)(k:Gg n ds):Gg n (d::ds):=⟨by simp[PyData.canLayAll0,h.1,k.1],by simp only[PyData.depthAll];exact Nat.max_le.mpr ⟨h.2,k.2⟩⟩
theorem Gg.of{n:Nat}:∀ {ds:List PyData},(∀d∈ds,Ok n d)->Gg n ds
 |[],_=>.nil
 |d::ds,h=>.cons (h d aR) (Gg.of fun e g=>h e (aM _ g))
theorem Ok.tup{n:Nat}{ds:List PyData}(h:Gg n ds):Ok (n+1) (.tuple ds):=⟨by simp only[PyData.canLay0];exact h.1,by simp only[PyData.depth];exact Nat.succ_le_succ h.2⟩
theorem Ok.lst{n:Nat}{ds:List PyData}(h:Gg n ds):Ok (n+1) (.list ds):=⟨by simp only[PyData.canLay0];exact h.1,by simp only[PyData.depth];exact Nat.succ_le_succ h.2⟩
theorem Ok.int{n:Nat}{i:Int}:Ok n (.int i):=⟨by simp[PyData.canLay0],by simp[PyData.depth]⟩
theorem Ok.bool{n:Nat}{b:Bool}:Ok n (.bool b):=⟨by simp[PyData.canLay0],by simp[PyData.depth]⟩
theorem Ok.BM{n:Nat}:Ok n .none:=⟨by simp[PyData.canLay0],by simp[PyData.depth]⟩
theorem Ok.str{n:Nat}{x:Str}(h:PyData.strOk x=true):Ok n (.str x):=⟨by simp[PyData.canLay0,h],by simp[PyData.depth]⟩
def SH:PyData->String
 |.none => "NoneType"
 |.bool _ => "bool"
 |.int _ => "int"
 |.str _ => "str"
 |.tuple _ => "tuple"
 |.list _ => "list"
 |.dict _ => "dict"
theorem Dt.ty{K:PySem.W.Frag}{l:Addr}{H:Hp}:∀ {d:PyData} {v:V},Dt l H d v->GL K H v (.type (SH d))
 |.none,_,h=>by rw[Dt]at h;subst h;exact .BM
 |.bool _,_,h=>by rw[Dt]at h;subst h;exact .bl _
 |.int _,_,h=>by rw[Dt]at h;subst h;exact .int _
 |.str _,_,h=>by rw[Dt]at h;subst h;exact .str _
 |.tuple _,_,h=>by rw[Dt]at h;obtain⟨a,xs,rfl,_,g,_⟩:=h;exact .tup g
 |.list _,_,h=>by rw[Dt]at h;obtain⟨a,xs,rfl,_,g,_⟩:=h;exact .lst g
 |.dict _,_,h=>by rw[Dt]at h;exact h.elim
def CK:PyData->Bool
 |.tuple _=>true
 |_=>false
def B0:PyData->Bool
 |.list _=>true
 |_=>false
def HY:PyData->Bool
 |.int _=>true
 |.bool _=>true
 |_=>false
def GC:PyData->Bool
 |.bool _=>true
 |_=>false
theorem Ds(K:PySem.W.Frag):∀d:PyData,(∀kv,d≠.dict kv)->PySem.W.kitOne K (.type (SH d)) (.type "tuple")=some (CK d)
 |.none,_=>f9 K
 |.bool _,_=>cw K
 |.int _,_=>fI K
 |.str _,_=>cP K
 |.tuple _,_=>eN K
 |.list _,_=>cU K
 |.dict kv,h=>absurd rfl (h kv)
theorem DM(K:PySem.W.Frag):∀d:PyData,(∀kv,d≠.dict kv)->PySem.W.kitOne K (.type (SH d)) (.type "list")=some (B0 d)
 |.none,_=>fB K
 |.bool _,_=>fi K
 |.int _,_=>gO K
 |.str _,_=>cg K
 |.tuple _,_=>cW K
 |.list _,_=>fL K
 |.dict kv,h=>absurd rfl (h kv)
theorem cn(K:PySem.W.Frag):PySem.W.kitOne K (.type "NoneType") (.type "bool")=some false:=by kernel_rfl
theorem dQ(K:PySem.W.Frag):PySem.W.kitOne K (.type "str") (.type "bool")=some false:=by kernel_rfl
theorem cY(K:PySem.W.Frag):PySem.W.kitOne K (.type "tuple") (.type "bool")=some false:=by kernel_rfl
theorem gA(K:PySem.W.Frag):PySem.W.kitOne K (.type "list") (.type "bool")=some false:=by kernel_rfl
theorem RP(K:PySem.W.Frag):∀d:PyData,(∀kv,d≠.dict kv)->PySem.W.kitOne K (.type (SH d)) (.type "int")=some (HY d)
 |.none,_=>gC K
 |.bool _,_=>df K
 |.int _,_=>fM K
 |.str _,_=>fk K
 |.tuple _,_=>cX K
 |.list _,_=>cZ K
 |.dict kv,h=>absurd rfl (h kv)
theorem PU(K:PySem.W.Frag):∀d:PyData,(∀kv,d≠.dict kv)->PySem.W.kitOne K (.type (SH d)) (.type "bool")=some (GC d)
 |.none,_=>cn K
 |.bool _,_=>gK K
 |.int _,_=>fP K
 |.str _,_=>dQ K
 |.tuple _,_=>cY K
 |.list _,_=>gA K
 |.dict kv,h=>absurd rfl (h kv)
theorem Dt.nodict{l:Addr}{H:Hp}{d:PyData}{v:V}(h:Dt l H d v):∀kv,d≠.dict kv:=fun kv z=>by subst z;rw[Dt]at h;exact h
end L2
namespace L2
open PySem PySem.Spec PyProof.Rows
def leaf:PyData->Prop
 |.none=>True
 |.bool _=>True
 |.int _=>True
 |.str x=>PyData.strOk x=true
 |_=>False
def Sm:Nat->PyData->Prop
 |0,d=>leaf d
 |n+1,d=>leaf d\/∃g,(d=.tuple g\/d=.list g)/\g.length<=60/\∀e∈g,Sm n e
theorem leaf.ok{n:Nat}:∀ {d:PyData},leaf d->Ok n d
 |.none,_=>.BM
 |.bool _,_=>.bool
 |.int _,_=>.int
 |.str _,h=>.str h
theorem Sm.ok:∀ {n:Nat} {d:PyData},Sm n d->Ok n d
 |0,_,h=>leaf.ok h
 |n+1,d,h=>by
  rcases h with h|⟨R,M,_,I⟩
  .exact h.ok
  .have:=Gg.of fun e g=>(I e g).ok;rcases M with rfl|rfl
   .exact .tup this
   .exact .lst this
theorem Sm.tup{n:Nat}{ds:List PyData}(h:ds.length<=60)(k:∀e∈ds,Sm n e):Sm (n+1) (.tuple ds):=.inr ⟨ds,.inl rfl,h,k⟩
section
variable{X:Cx}
def hU:R2:=fun x y H Q=>∃a b xs ys,x=.ref a/\y=.ref b/\H a=some (.tup xs)/\H b=some (.tup ys)/\xs.length+ys.length<=sizeLine/\∀p H',AG H H'->H' p=some (.tup (xs++ys))->Q (.ref p) H'
theorem Oi:Cn X (binaryOp .Add) hU:=by
 intro pins s σ H x y v u Q I rx ry h;obtain⟨a,b,xs,ys,rfl,rfl,ha,hb,hz,q⟩:=h;cases rx;cases ry;obtain⟨its,Z,p1,_⟩:=I.tuple (Af.of (K:=X.K) ha);obtain⟨its2,Y,p2,_⟩:=I.tuple (Af.of (K:=X.K) hb);by_cases hv:its=[]
 .have hx:=Z.UA.mp hv;subst hv hx;obtain⟨⟨cls,dd,data,sl⟩,ho,hc,n,hd⟩:=id p1;obtain⟨⟨cls2,dd2,data2,U⟩,g,R,n2,M⟩:=id p2;simp only at hc hd R M;subst hc hd R M;exact concat_meets ⟨_,ho,rfl⟩ ⟨_,g,rfl⟩ noFill_tuple_add seq_tuple_add PySem.F.slot_tuple_add PySem.F.entry_tuple_add (PySem.F.args_tuple_add_2 _ _)
   (tuple_addW0 a b _ _ n n2 dd dd2 sl U (by simp)) ⟨ho,g,⟨.ref b,H,I,rfl,q b H (.refl H) (by simpa using hb)⟩⟩
 .refine HT.Zo p1 p2 hv (fun z=>?_) (fun z=>?_) (by rw[<-Z.length,<-Y.length];exact hz)
  .have hy:=Y.UA.mp z;subst hy;exact⟨.ref a,H,I,rfl,q a H (.refl H) (by simpa using ha)⟩
  .refine⟨.ref s.heap.objs.size,_,I.laid (t':=s.toks) (o:=.tup (xs++ys)) (fun b ob q=>aE _ q) (aD _) ?_,rfl,q _ _ (AK (I.Ah.fresh (aD _)) _) AH⟩;exact⟨by rw[List.length_append];exact hz,_,Z.append Y,IsTup.new _ _⟩
end
end L2
namespace Tim
open PySem PyProof.Rows
section pure
end pure
section
section pure
end pure
section pure
end pure
end
end Tim
namespace GS
open PySem PySem.W PyProof.Rows PySem.SeqAt
abbrev Ext(h0 h:Heap):Prop:=∀c o,h0.get? c=some o->h.get? c=some o
def OQ(O:KeyOrd)(prog:Program)(w:World)(κ:SortKind)(A:Around)(s:Shared)(ks:List O.α)(us:List Value):Prop :=
 ∀(E:Value->Shared->Prop) (i j:Nat) (x y:O.α) (u v:Value) (Q:Bool->Shared->Prop),us[i]? = some u->us[j]? = some v->ks[i]? = some x->ks[j]? = some y->Q (O.blt x y) s->wpAny (model prog w) A (keyLt' κ u v) Q E s
structure ZS(O:KeyOrd)(prog:Program)(w:World)(h0:Heap)(r:Nat)(ks:List O.α)(us:List Value):Prop where
 len:us.length=ks.length
 go:∃ok:SortKind->Prop,(∀(A:Around) (E:Value->Shared->Prop) (s:Shared) (Q:SortKind->Shared->Prop),Ext h0 s.heap->(∀κ,ok κ->Q κ s)->wpAny (model prog w) A (keyKind' us.toArray) Q E s) /\
  ∀(A:Around) (s:Shared) (κ:SortKind),Ext h0 s.heap->A.units+r<cLine->ok κ->OQ O prog w κ A s ks us
def Runs(O:KeyOrd)(prog:Program)(w:World)(ks:List O.α):Prop :=
 ∀(d:O.α) (A:Around) (E:Value->Shared->Prop) (s:Shared) (κ:SortKind) (g:List Value),g.length=ks.length->2<=g.length->OQ O prog w κ A s ks g ->
  wpAny (model prog w) A ((sortRuns').run (SortSt.mk' κ (g.toArray.zip g.toArray) #[] 7 none)) (fun r I=>I=s/\failedOf r.2=none/\∃ix:List Nat,ix.Perm (List.range g.length) /\
   (arrOf r.2).map (·.2)=(ix.map fun i=>g.getD i Value.none).toArray/\(ix.map fun i=>ks.getD i d).Pairwise O.kle) E s
theorem NT{O:KeyOrd}{prog:Program}{w:World}{ks:List O.α}(U:ks.length<64):Runs O prog w ks:=by
 intro d A E s κ g hl h2 ask;have U:g.length<64:=by lia
 refine kat_run (Q:=fun I Y=>Y=s/\failedOf I=none/\∃ix:List Nat,ix.Perm (List.range g.length)/\(arrOf I).map (·.2)=(ix.map fun i=>g.getD i Value.none).toArray/\(ix.map fun i=>ks.getD i d).Pairwise O.kle)
  (G:=fun p Y=>Y=s/\SM.Pm g.length p/\SM.Up (O:=O) (fun i=>ks.getD i d) p g.length) rfl h2 U (fun p I Y hp har hf hG=>?_)
  (TH.Sj (lt:=SM.Fs (O:=O) fun i=>ks.getD i d) (n:=g.length) (fun i j C hi R Z=>?_) _ (SM.sort (by lia)))
 .obtain⟨rfl,hpm,hup⟩:=hG;have h1:p.toList.Perm (List.range g.length):=by simpa using Array.perm_iff_toList_perm.mp hpm.perm
  refine⟨rfl,hf,p.toList,h1,kat_snds rfl har,?_⟩;refine List.pairwise_iff_getElem.mpr fun i j hi R hij=>?_;rw[List.length_map,Array.length_toList,hp]at hi R;have:=hup i j (by lia) R;have e1:∀k,k<g.length->∀M,(p.toList.map fun i=>ks.getD i d)[k]' M=ks.getD (p.getD k 0) d:=fun k M hk'=>by
   rw[List.getElem_map,Array.getElem_toList,Array.getD,dif_pos (by lia)]
   rfl
  rw[e1 i hi,e1 j R];exact this
 .have gi:∀k,k<g.length->∃u x,g[k]? = some u/\ks[k]? = some x/\g.getD k Value.none=u/\ks.getD k d=x:=fun k M=>by
   refine⟨g[k],ks[k]'(by lia),List.getElem?_eq_getElem M,List.getElem?_eq_getElem (by lia),?_,?_⟩
   .rw[List.getD_eq_getElem?_getD,List.getElem?_eq_getElem M];rfl
   .rw[List.getD_eq_getElem?_getD,List.getElem?_eq_getElem (by lia)];rfl
  obtain⟨u,x,q1,q2,q3,q4⟩:=gi i hi;obtain⟨v,y,r1,r2,r3,r4⟩:=gi j R;unfold kas_ask;rw[q3,r3];refine ask _ i j x y u v C q1 r1 q2 r2 ?_;have Z:C (O.blt (ks.getD i d) (ks.getD j d)) s:=Z;rw[q4,r4]at Z;exact Z
section
variable{O:KeyOrd}{prog:Program}{w:World}{A:Around}{E:Value->Shared->Prop}{s:Shared}{h0:Heap}{r:Nat}{ks:List O.α}{us:List Value}
theorem OQ.rev{κ:SortKind}(U:us.length=ks.length)(a:OQ O prog w κ A s ks us):OQ O prog w κ A s ks.reverse us.reverse:=fun E i j x y u v Q R M I g q=>by
 have b1:=(aB.mp R).1;have b2:=(aB.mp M).1;rw[List.length_reverse]at b1 b2;rw[List.getElem?_reverse (by lia)]at R M I g;rw[<-U]at I g;exact a E _ _ x y u v Q R M I g q
theorem YI{α:Type}{R:α->α->Prop}:∀ {l:List α},l.length<2->l.Pairwise R
 |[],_=>.nil
 |[_],_=>List.pairwise_singleton ..
 |_::_::_,h=>by simp at h;lia
theorem XH(d : O.α){a : Addr}{n : Nat}{b : Bool}{P : PySem.Fin->Shared->Prop}(C : ZS O prog w h0 r ks us)(hx : Ext h0 s.heap)(ha0 : h0.objs.size<=a)(ho : s.heap.get? a = some (seqObj "list" us.toArray n))(hsz : us.length<=1000)(hr : Runs O prog w (if b then ks.reverse else ks))(hu : A.units + r < cLine)
 (h : ∀ ix : List Nat,ix.Perm (List.range us.length)->(ix.map fun i => ks.getD i d).Pairwise (fun x y => if b = true then O.kle y x else O.kle x y)->P (.done (.ret .none)) { s with heap:=sortedHeap s.heap a us (ix.map fun i => us.getD i Value.none).toArray }) :
    wpAny (model prog w) A (Builtin.«list.sort» ⟨[.ref a],[(Str.ofString "reverse",.bool b)]⟩) P E s:=by
  rw [list_sort_rev]
  have ha : a < s.heap.objs.size:=aG ho
  refine aA (listItems_at ho rfl ?_)
  refine aA (listUpdate_at ho rfl ?_ (by rw [List.size_toArray,sizeLine_eq]; lia) (ah _))
  obtain ⟨e1,ho1⟩ : ∃ e1,(s.heap.update a (Obj.mapSeq fun _ => #[])).get? a = some (seqObj "list" #[] e1):=⟨_,get?_update_seq ho (fun _ => #[])⟩
  refine aA (seqEpoch_at ho1 rfl ?_)
  refine aA (wpAny_newTuple ?_ (by show us.length<=_; rw [sizeLine_eq]; lia))
  refine aA (wpAny_newList ?_ (ah _))
  refine bM ?_
  have ho6 : (((s.heap.update a (Obj.mapSeq fun _ => #[])).push (seqObj "tuple" us.toArray 0)).push (seqObj "list" #[] 0)).get? a = some (seqObj "list" #[] e1):=by
    rw [Heap.get?_push_ne _ _ _ (by rw [size_push',Heap.size_update]; exact aT (bX ha)),Heap.get?_push_ne _ _ _ (by rw [Heap.size_update]; exact aT ha)]
    exact ho1
  have keep : Ext h0 (((s.heap.update a (Obj.mapSeq fun _ => #[])).push (seqObj "tuple" us.toArray 0)).push (seqObj "list" #[] 0)):=fun c o hc => by
    have hlt : c < h0.objs.size:=aG hc
    have hne : c≠a:=fun z => Nat.not_lt.mpr ha0 (z ▸ hlt)
    refine aE _ (aE _ ?_)
    rw [Heap.get?_update_ne _ _ _ _ hne]
    exact hx c o hc
  show wpAny (model prog w) A _ P E { s with heap:=((s.heap.update a (Obj.mapSeq fun _ => #[])).push (seqObj "tuple" us.toArray 0)).push (seqObj "list" #[] 0) }
  dsimp only
  have step : ∀ T : Sem PySem.Fin,wpAny (model prog w) A T P E { s with heap:=((s.heap.update a (Obj.mapSeq fun _ => #[])).push (seqObj "tuple" us.toArray 0)).push (seqObj "list" #[] 0) } ->
      wpAny (model prog w) A (if b = true then (do let _ <- rule "list.sort.reverse"; T) else T) P E { s with heap:=((s.heap.update a (Obj.mapSeq fun _ => #[])).push (seqObj "tuple" us.toArray 0)).push (seqObj "list" #[] 0) }:=by
    intro T hT
    split
    . exact aA (wpAny_rule hT)
    . exact hT
  refine step _ ?_
  obtain ⟨ok,hkind,hask⟩:=C.go
  have hl:=C.len
  by_cases h2 : us.toArray.size < 2
  . rw [if_pos h2,if_pos h2]
    refine aA (aC ?_)
    rw [StateT.run_pure]
    refine aA (aC ?_)
    dsimp only
    have hz : us.length < 2:=by simpa using h2
    have hout:=TH.XE b us hz
    refine aA (seqEpoch_at ho6 rfl ?_)
    refine aA (listUpdate_at ho6 rfl ?_ (ah _) (by
      refine aU (Nat.le_of_eq (bP Array.size hout)) ?_
      rw [List.size_toArray,sizeLine_eq]; lia))
    simp only [bne_self_eq_false,Bool.false_eq_true,if_false]
    have fin:=h (List.range us.length) (.refl _) (YI (by simpa using hz))
    rw [TH.map_getD] at fin
    rw [<- hout] at fin
    exact aC fin
  . rw [if_neg h2,if_neg h2]
    have hz : 2<=us.length:=by simpa using h2
    refine aA (hkind A E { s with heap:=((s.heap.update a (Obj.mapSeq fun _ => #[])).push (seqObj "tuple" us.toArray 0)).push (seqObj "list" #[] 0) } _ keep fun κ hκ => ?_)
    have ask:=hask A { s with heap:=((s.heap.update a (Obj.mapSeq fun _ => #[])).push (seqObj "tuple" us.toArray 0)).push (seqObj "list" #[] 0) } κ keep hu hκ
    obtain ⟨ws,kw,aw,hwl,hwk,hws,hrw,pick⟩ : ∃ (ws : List Value) (kw : List O.α),OQ O prog w κ A { s with heap:=((s.heap.update a (Obj.mapSeq fun _ => #[])).push (seqObj "tuple" us.toArray 0)).push (seqObj "list" #[] 0) } kw ws/\ws.length = us.length/\ws.length = kw.length /\
        (if b = true then (us.toArray.zip us.toArray).reverse else us.toArray.zip us.toArray) = ws.toArray.zip ws.toArray/\Runs O prog w kw /\
        ∀ ix : List Nat,ix.Perm (List.range ws.length)->(ix.map fun i => kw.getD i d).Pairwise O.kle->∃ iy : List Nat,iy.Perm (List.range us.length)/\(iy.map fun i => ks.getD i d).Pairwise (fun x y => if b = true then O.kle y x else O.kle x y) /\
          (if b = true then ((ix.map fun i => ws.getD i Value.none).toArray).reverse else (ix.map fun i => ws.getD i Value.none).toArray) = (iy.map fun i => us.getD i Value.none).toArray:=by
      cases b with
      | false => exact ⟨us,ks,ask,rfl,hl,rfl,hr,fun ix h1 h2 => ⟨ix,h1,by simpa using h2,rfl⟩⟩
      | true=>
        refine ⟨us.reverse,ks.reverse,ask.rev hl,by simp,by simp [hl],kat_pairs (ks:=us) (vs:=us) true rfl,hr,fun ix h1 h2 => ⟨(ix.map fun i => us.length - 1 - i).reverse,?_,?_,?_⟩⟩
        . rw [List.length_reverse] at h1
          refine (List.reverse_perm _).trans ((h1.map fun i => us.length - 1 - i).trans ?_)
          have : (List.range us.length).map (fun i => us.length - 1 - i) = (List.range us.length).reverse:=by
            refine List.ext_getElem (by simp) fun i a1 a2 => ?_
            simp
          rw [this]
          exact List.reverse_perm _
        . have hb : ∀ i∈ix,i < us.length:=fun i hi => by simpa using h1.mem_iff.mp hi
          have e : ((ix.map fun i => us.length - 1 - i).reverse.map fun i => ks.getD i d) = (ix.map fun i => ks.reverse.getD i d).reverse:=by
            rw [List.map_reverse,List.map_map]
            congr 1
            exact aW fun i hi => by
              have:=hb i hi
              show ks.getD (us.length - 1 - i) d = _
              rw [List.getD_eq_getElem?_getD,List.getD_eq_getElem?_getD,List.getElem?_reverse (by lia),hl]
          rw [e,List.pairwise_reverse]
          simpa using h2
        . have hb : ∀ i∈ix,i < us.length:=fun i hi => by simpa using h1.mem_iff.mp hi
          rw [if_pos rfl,List.map_reverse,List.map_map,List.reverse_toArray]
          congr 2
          exact aW fun i hi => by
            have:=hb i hi
            show us.reverse.getD i Value.none = us.getD (us.length - 1 - i) Value.none
            rw [List.getD_eq_getElem?_getD,List.getD_eq_getElem?_getD,List.getElem?_reverse (by lia)]
    rw [hws]
    refine aA (ak (hrw d A E { s with heap:=((s.heap.update a (Obj.mapSeq fun _ => #[])).push (seqObj "tuple" us.toArray 0)).push (seqObj "list" #[] 0) } κ ws hwk (by lia) aw) ?_ fun _ _ z => z)
    rintro ⟨⟨⟩,st'⟩ s' ⟨rfl,hf,ix,hix,hout,hst⟩
    dsimp only
    refine aA (seqEpoch_at ho6 rfl ?_)
    obtain ⟨iy,y1,y2,hfin⟩ : ∃ iy : List Nat,iy.Perm (List.range us.length)/\(iy.map fun i => ks.getD i d).Pairwise (fun x y => if b = true then O.kle y x else O.kle x y) /\
        (if b = true then ((arrOf st').map (·.2)).reverse else (arrOf st').map (·.2)) = (iy.map fun i => us.getD i Value.none).toArray:=by
      rw [show (arrOf st').map (·.2) = _ from hout]
      exact pick ix hix hst
    refine aA (listUpdate_at ho6 rfl ?_ (ah _) (by
      refine aU (Nat.le_of_eq (bP Array.size hfin)) ?_
      have:=y1.length_eq
      rw [List.length_range] at this
      rw [List.size_toArray,List.length_map,this,sizeLine_eq]; lia))
    rw [show failedOf st' = none from hf]
    simp only [bne_self_eq_false,Bool.false_eq_true,if_false]
    have fin:=h iy y1 y2
    rw [<- hfin] at fin
    exact aC fin
theorem S3(d:O.α){b:Bool}{Q:Value->Shared->Prop}{h1:Heap}{tk:Nat}{T:Sem PySem.Fin}(C:ZS O prog w s.heap r ks us)(hsz:us.length<=1000)(hr:Runs O prog w (if b then ks.reverse else ks))(g:Ext s.heap h1)(Y:s.heap.objs.size<=h1.objs.size)
 (h:∀(h':Heap) (D tk:Nat) (ix:List Nat) (M:Nat),s.heap.objs.size<=D->Ext s.heap h'->h'.get? D=some (seqObj "list" (ix.map fun i=>us.getD i Value.none).toArray M)->ix.Perm (List.range us.length)->(ix.map fun i=>ks.getD i d).Pairwise (fun x y=>if b=true then O.kle y x else O.kle x y)->Q (.ref D) {s with heap:=h',toks:=tk}) :
  (h1.push (seqObj "list" us.toArray 0)).get? h1.objs.size=some (seqObj "list" us.toArray 0)/\Ext s.heap (h1.push (seqObj "list" us.toArray 0)) /\
  ∀ix:List Nat,ix.Perm (List.range us.length)->(ix.map fun i=>ks.getD i d).Pairwise (fun x y=>if b=true then O.kle y x else O.kle x y)->Q (.ref h1.objs.size) {s with heap:=sortedHeap (h1.push (seqObj "list" us.toArray 0)) h1.objs.size us (ix.map fun i=>us.getD i Value.none).toArray,toks:=tk}:=by
 have U:(h1.push (seqObj "list" us.toArray 0)).get? h1.objs.size=some (seqObj "list" us.toArray 0):=aX _ rfl;refine⟨U,fun b u e=>aE _ (g b u e),fun ix p1 Z=>?_⟩;obtain⟨M,I⟩:=sortedHeap_at (vs:=us) (out:=(ix.map fun i=>us.getD i Value.none).toArray) U;refine h _ h1.objs.size tk ix M Y (fun b u e=>?_) I p1 Z;have R:b<h1.objs.size:=aG (g b u e);rw[sortedHeap_old (aT R) (by rw[Heap.size_push];exact bX R)];exact aE _ (g b u e)
end
end GS
set_option maxHeartbeats 0
set_option maxHeartbeats 4000000
namespace TH
open PySem PySem.W PyProof.Rows PySem.SeqAt
theorem Oa{h h':Heap}(k:GS.Ext h h'){a:Addr}{x:Array Value}(e:h.IsTuple a x):h'.IsTuple a x:=let⟨o,g,c,n,d⟩:=e;⟨o,k _ _ g,c,n,d⟩
section
open PySem.MeetsSeq PySem.MeetsSeq2 PySem.MeetsSeq3
variable{A:Around}{E:Value->Shared->Prop}{s:Shared}
def Q3(h:Heap)(v:Value):Prop:=∃(a b:Addr) (xs:Array Value) (g:List Value),v=.ref a/\h.IsTuple a ((.ref b::g).toArray)/\h.IsTuple b xs
theorem PR{M:Model}:∀(us:List Value) {Q:List (Option Value)->Shared->Prop},(∀v∈us,Q3 s.heap v)->(∀fs:List Value,fs.length=us.length->(∀v∈fs,Looks M s.heap (typeOf v) (.type "tuple"))->Q (fs.map some) s)->wpAny M A (us.mapM firstOfTuple') Q E s
 |[],Q,_,h=>by
  rw[List.mapM_nil];exact aC (h [] rfl fun _ z=>by cases z)
 |v::us,Q,e,h=>by
  obtain⟨a,b,xs,I,rfl,h1,h2⟩:=e v aR;obtain⟨o,U,hc,n,hd⟩:=id h1;rw[List.mapM_cons];refine aA ?_;rw[kas_first_eq];refine aA (Looks.here (show Looks M s.heap (typeOf (.ref a)) o.cls from(Looks.ld U).andThen .now) ?_);rw[hc,if_neg (by first|decide|simp)];refine aA (listItems_at U hd (aC ?_));refine aA (PR us (Q:=fun bs Y=>wpAny M A (pure ((.ref b::I).toArray[0]? :: bs)) Q E Y) (fun v g=>e v (aM _ g)) fun fs Z R=>aC ?_);have:=h (.ref b::fs) (by simp[Z]) fun v g=>by
   rcases aY.mp g with rfl|g
   .exact TU h2
   .exact R v g
  simpa using this
theorem cD{M:Model}{us:List Value}{Q:SortKind->Shared->Prop}(e:∀v∈us,Q3 s.heap v)(h:Q (tuples' false) s):wpAny M A (keyKind' us.toArray) Q E s:=by
 rw[kat_kind_eq,List.mapM_toArray,map_eq_pure_bind];refine aA (aA (PR us e fun fs R g=>aC ?_));rw[if_pos (by simp)];refine aA (wpAny_rule ?_);have I:((fs.map some).toArray.filterMap id)=fs.toArray:=by simp
 rw[I];exact aA (Z8 g (fun _=>aC h) (aC h))
end
end TH
namespace L2
open PySem PySem.Spec PyProof.Rows
abbrev MR(x y:Str)(M I:Pos)(tk:Nat)(g:Pos):Expr:=.Tuple [.Name x M,.Name y I] tk g
theorem Z9{ix g:Nat}(h:ix≠g)(σ:St)(a b c d:Option V):((((σ.set ix a).set g b).set ix c).set g d)=(σ.set ix c).set g d:=by
 rw[List.set_comm _ _ h.symm,List.set_set,List.set_set]
def J5(K:PySem.W.Frag)(wi:TI)(fr:List (Option Nat))(ix U:Nat)(R:TT)(te:TE):TE:=fun σ H Q=>wi σ H fun J H1=>∀D,H1 D=none->∃W:Nat->Nat->List V->Hp->Prop,(∃m,W 0 m [] (upd H1 D (.lst []))) /\
 ∀i m ys H,W i m ys H->H D=some (.lst ys)/\((J.stop i H/\Q (.ref D) H)\/(J.go i H/\ys.length<sizeLine/\∀x H',J.Ec i H x H'->∃a M I,x=.ref a/\Af K H' a [M,I] /\
  R (((carry fr σ).set ix (some M)).set U (some I)) H' fun b Z=>if b=true then te (((carry fr σ).set ix (some M)).set U (some I)) Z fun y Y=>Y D=some (.lst ys)/\∃g,g<m/\W (i+1) g (ys++[y]) (upd Y D (.lst (ys++[y])))
   else ∃g,g<m/\W (i+1) g ys Z))
section
variable{X:Cx}{elt iter:Expr}{x y:Str}{px py tp pos:Pos}{tk:Nat}{ifs:List Expr}{scope:Scope}{wi:TI}{fr:List (Option Nat)}{ix iy:Nat}{tif:TT}{te:TE}{N:List Str}
theorem MX{pins:List (Addr×Obj)}{σ:St}{M:Hp}{s2:Shared}{Q:VK}{it:Addr}{fp:List Addr}{tn:Nat->Heap->Prop}{J:It}{cl:List (Str×Addr)}{E:Value->Shared->Prop}{RR:Value->Addr->Result->Shared->Prop}
 (S:Cj scope N x ix)(S2:Cj scope N y iy)(hxy:ix≠iy)(I:X.calm=true)(hfr:En N X.N scope X.env.scope fr 0=true)(hlen:fr.length=N.length)
 (hif:∀cl C s₀ H₀ fp,J9 (Ap X scope cl N C s₀ H₀ fp) ifs tif)(he:∀cl C s₀ H₀ fp,PE (Ap X scope cl N C s₀ H₀ fp) elt te)
 (I2:Inv X pins σ M s2)(T:Turn X.prog X.w X.K (MR x y px py tk tp) J fp it tn)(st2:tn 0 s2.heap)(f2:∀b∈fp,Jp X pins M b)
 (c1:∀x c,cl.lookup x=some c->X.env.cells.lookup x=some c)(c2:∀x∈scope.names,x.2=NameKind.free->∃c,cl.lookup x.1=some c)
 (W:∀D,M D=none->∃W:Nat->Nat->List V->Hp->Prop,(∃m,W 0 m [] (upd M D (.lst []))) /\
   ∀i m ys H,W i m ys H->H D=some (.lst ys)/\((J.stop i H/\Q (.ref D) H)\/(J.go i H/\ys.length<sizeLine/\∀x H',J.Ec i H x H'->∃a Y U,x=.ref a/\Af X.K H' a [Y,U] /\
    tif (((carry fr σ).set ix (some Y)).set iy (some U)) H' fun b M=>if b=true then te (((carry fr σ).set ix (some Y)).set iy (some U)) M fun y H3=>H3 D=some (.lst ys)/\∃m',m'<m/\W (i+1) m' (ys++[y]) (upd H3 D (.lst (ys++[y])))
     else ∃m',m'<m/\W (i+1) m' ys M)))
 (fin:∀(D C:Addr) (s':Shared) (H':Hp) m,s'.heap.Ns C m->Q (.ref D) H'->(∀h',Heap.SameBut C s'.heap h'->Inv X pins σ H' { s' with heap:=h'})->C≠D->(∀b o,s2.heap.get? b=some o->b≠C)->H' C=none->s2.heap.objs.size<=C->RR (.ref D) C (.ok .next) s') :
  wpAny (model X.prog X.w) X.A (newList []) (fun acc s₃=>wpAny (model X.prog X.w) X.A (newFunctionEnv scope X.env.globals cl [] X.env.qual none .none (some X.env)) (fun R s₄=>
   codeAny (model X.prog X.w) X.A (.compStart (.ListComp elt [⟨MR x y px py tk tp,iter,ifs,0⟩] scope pos) 0 (.ref it) acc {R with scope:=relabel scope X.env}) (RR acc R.locals) s₄) E s₃) E s2:=by
 have hxv:(relabel scope X.env).names.lookup x=some .local:=lookup_relabel_local S.loc;have hyv:(relabel scope X.env).names.lookup y=some .local:=lookup_relabel_local S2.loc;refine MO (g:=YL X.K 2 (NS (C0 ix) (NS (C0 iy) Yb))) S I (fun Z=>∀v w,(Z.set ix v).set iy w=((carry fr σ).set ix v).set iy w) (fun _ _=>rfl) (fun C=>GY (X:=Ap X scope cl N C s2 M fp) I (Bg (An (X:=Ap X scope cl N C s2 M fp) S.nd S.at_ (.inl hxv) (.inr hxv)) (Bg (An (X:=Ap X scope cl N C s2 M fp) S2.nd S2.at_ (.inl hyv) (.inr hyv)) FK))) hfr hlen hif he I2 T st2 f2 c1 c2 (fun D hD=>?_) fin;obtain⟨W,w0,st⟩:=W D hD;refine⟨W,w0,fun i m ys H w=>?_⟩;obtain⟨h1,h2|⟨h2,h3,h4⟩⟩:=st i m ys H w
 .exact⟨h1,.inl h2⟩
 .refine⟨h1,.inr ⟨h2,h3,fun x H' hy Z hr=>?_⟩⟩;obtain⟨a,Y,U,rfl,hs,q⟩:=h4 x H' hy;rw[<-hr]at q;exact⟨a,[Y,U],rfl,hs,rfl,Y,[U],rfl,U,[],rfl,rfl,fun v w=>by rw[Z9 hxy,hr],q⟩
theorem Yx(S:Cj scope N x ix)(S2:Cj scope N y iy)(hxy:ix≠iy)(U:X.calm=true)(hfr:En N X.N scope X.env.scope fr 0=true)(Y:fr.length=N.length)(M:∀y∈scope.names,y.2=.free->X.env.scope.names.lookup y.1=some .cell\/X.env.scope.names.lookup y.1=some .free)
 (hi:PI X (MR x y px py tk tp) iter wi)(hif:∀cl C s₀ H₀ fp,J9 (Ap X scope cl N C s₀ H₀ fp) ifs tif)(he:∀cl C s₀ H₀ fp,PE (Ap X scope cl N C s₀ H₀ fp) elt te)
 (hs:∀x,foldedSetIterable iter X.env x=pure x:=by intro _;rfl):PE X (.ListComp elt [⟨MR x y px py tk tp,iter,ifs,0⟩] scope pos) (J5 X.K wi fr ix iy tif te):=by
 intro pins s σ H Q I hw;obtain⟨cl,R,c1,_,c2⟩:=FP (env:=X.env) scope.names [] (fun y hy hf=>I.ok.has y.1 (M y hy hf)) (fun y c z=>by cases z);have g:closureFor scope X.env=pure cl:=by
  have e:closureFor scope X.env=((forIn scope.names [] (fun(x:Str×NameKind) (r:List (Str×Addr))=>do if(x.2==NameKind.free)=true then do let a <-cellOf X.env x.1;pure (ForInStep.yield ((x.1,a)::r)) else pure (ForInStep.yield r)):Sem (List (Str×Addr)))>>=fun cs=>pure cs):=rfl;rw[e,R]
  rfl
 rw[eval_ListComp];refine wpAny_comprehension_free (use:=none) rfl hs g S.kind S.names (A4 (hi pins s σ H _ I hw) fun v s1 h1=>A4 h1 fun itv s2 h2=>?_);obtain⟨it,fp,tn,J,H2,e,I2,T,Z,f2,W⟩:=h2;subst e;refine MX (RR:=fun acc C=>compPost (model X.prog X.w) X.A X.xe none (EP X pins σ Q) acc C) S S2 hxy U hfr Y hif he I2 T Z f2 c1 c2 W ?_;intro D C s' H' m hn q hI _ _ _ _;exact⟨m,hn,fun h' hs'=>⟨.ref D,H',hI h' hs',rfl,q⟩⟩
theorem Sy{i : Nat}{z : Str}{pz spos : Pos}(hN : X.N.Nodup)(hy : X.N[i]? = some z)(hly : X.env.scope.names.lookup z = some .local)(S : Cj scope N x ix)(S2 : Cj scope N y iy)(hxy : ix≠iy)(hcalm : X.calm = true)(hfr : En N X.N scope X.env.scope fr 0 = true)(hlen : fr.length = N.length)
 (hfree : ∀ y∈scope.names,y.2 = .free->X.env.scope.names.lookup y.1 = some .cell\/X.env.scope.names.lookup y.1 = some .free)
 (hi : PI X (MR x y px py tk tp) iter wi)(hif : ∀ cl C s₀ H₀ fp,J9 (Ap X scope cl N C s₀ H₀ fp) ifs tif)(he : ∀ cl C s₀ H₀ fp,PE (Ap X scope cl N C s₀ H₀ fp) elt te)
 (hsw : swapsWith (.ListComp elt [⟨MR x y px py tk tp,iter,ifs,0⟩] scope pos) (some (.Name z pz)) spos.line X.env = pure true:=by rfl)
 (hs : ∀ x,foldedSetIterable iter X.env x = pure x:=by intro _; rfl) :
    PS X (.Assign [.Name z pz] (.ListComp elt [⟨MR x y px py tk tp,iter,ifs,0⟩] scope pos) spos) (OH (J5 X.K wi fr ix iy tif te) (C0 i)):=by
  intro pins s σ H D I hw
  obtain ⟨cl,hclos,c1,_,c2⟩:=FP (env:=X.env) scope.names [] (fun y hy hf => I.ok.has y.1 (hfree y hy hf)) (fun y c z => by cases z)
  have hclos' : closureFor scope X.env = pure cl:=by
    have e : closureFor scope X.env = ((forIn scope.names [] (fun (x : Str×NameKind) (r : List (Str×Addr)) => do if (x.2 == NameKind.free) = true then do let a <- cellOf X.env x.1; pure (ForInStep.yield ((x.1,a) :: r)) else pure (ForInStep.yield r)):Sem (List (Str×Addr))) >>= fun cs => pure cs):=rfl
    rw [e,hclos]
    rfl
  rw [exec_Assign_Name_used _ _ _ _ hsw]
  refine aA (wpAny_standAt (aA ?_))
  show wpAny _ X.A (do let _ <- comprehension (.ListComp elt [⟨MR x y px py tk tp,iter,ifs,0⟩] scope pos) scope X.env _ (newList []) false (eval iter X.env) (some (assign (.Name z pz) X.env))) _ _ s
  refine aA (ak (wpAny_comprehension_free (use:=some (assign (.Name z pz) X.env)) (Q:=fun _ s' => SP X pins D .next s') rfl hs hclos' S.kind S.names
    (A4 (hi pins s σ H _ I hw) fun v s1 h1 => A4 h1 fun itv s2 h2 => ?_)) (fun _ s' hq => aC (aC hq)) fun _ _ e => e)
  obtain ⟨it,fp,tn,J,H2,e,I2,T,st2,f2,W⟩:=h2
  subst e
  refine MX (Q:=fun x H1 => C0 i x σ H1 D.nx) (RR:=fun acc C => compPost (model X.prog X.w) X.A X.xe (some (assign (.Name z pz) X.env)) (fun _ s' => SP X pins D .next s') acc C) S S2 hxy hcalm hfr hlen hif he I2 T st2 f2 c1 c2 W ?_
  intro D' C s' H' m hn q hI hCD hold hfreeC hsz
  have I5 : Inv X pins σ H' s':=hI s'.heap (Heap.SameBut.refl ..)
  refine wpAny_assign_Name (LO I5 hN hy (.inl hly) (v:=.ref D') rfl (fun s'' I6 ⟨a,hsb,ha⟩ => ?_) (.inr hly))
  have hL : C≠X.env.locals:=fun z => by
    obtain ⟨_,⟨o,_,_,e,_⟩,_⟩:=I2.loc
    exact hold _ _ e z.symm
  have hcl : ∀ z c,X.env.cells.lookup z = some c->c≠C:=fun z c e => by
    obtain ⟨_,o,ho,_⟩:=I2.cell z c e
    exact hold _ _ ho
  have hCa : C≠a:=by
    rcases ha with z | z
    . rw [z]; exact hL
    . exact Ne.symm (hcl _ _ z)
  refine ⟨m,hn.sameBut hsb hCa,fun h' hs' => ⟨_,H',I6.turned (t':=s''.toks) (it:=C) (fun b o hb e => (hs'.2 b hb).trans e) hfreeC hL (.inr (aU I2.sz hsz)) hcl fun p hp => ?_,q⟩⟩
  obtain ⟨e,_⟩:=I2.pin p hp
  exact hold _ _ e
end
section
variable{X:Cx}{elt iter:Expr}{x y:Str}{px py tp pos:Pos}{tk:Nat}{ifs:List Expr}{scope:Scope}{wi:TI}{tif:TT}{te:TE}
theorem Jg(N:List Str)(ix g:Nat)(fr:List (Option Nat))(hi:PI X (MR x y px py tk tp) iter wi)(M:∀cl C s₀ H₀ fp,J9 (Ap X scope cl N C s₀ H₀ fp) ifs tif)(Y:∀cl C s₀ H₀ fp,PE (Ap X scope cl N C s₀ H₀ fp) elt te)
 (h1:B1 scope N x ix=true:=by decide +kernel)(R:B1 scope N y g=true:=by decide +kernel)(I:ix≠g:=by decide)(h2:X.calm=true:=by rfl)(h3:En N X.N scope X.env.scope fr 0=true:=by rfl)(h4:fr.length=N.length:=by rfl)(Z:freeOk X.env.scope scope.names=true:=by rfl)
 (U:∀x,foldedSetIterable iter X.env x=pure x:=by intro _;rfl):PE X (.ListComp elt [⟨.Tuple [.Name x px,.Name y py] tk tp,iter,ifs,0⟩] scope pos) (J5 X.K wi fr ix g tif te) :=
 Yx (ED h1) (ED R) I h2 h3 h4 (Jl Z) hi M Y U
theorem JB{i:Nat}{z:Str}{pz g:Pos}(N:List Str)(ix I:Nat)(fr:List (Option Nat))(hN:X.N.Nodup)(hy:X.N[i]? = some z)(U:X.env.scope.names.lookup z=some .local)
 (hi:PI X (MR x y px py tk tp) iter wi)(Y:∀cl C s₀ H₀ fp,J9 (Ap X scope cl N C s₀ H₀ fp) ifs tif)(he:∀cl C s₀ H₀ fp,PE (Ap X scope cl N C s₀ H₀ fp) elt te)
 (h1:B1 scope N x ix=true:=by decide +kernel)(Z:B1 scope N y I=true:=by decide +kernel)(M:ix≠I:=by decide)(h2:X.calm=true:=by rfl)(h3:En N X.N scope X.env.scope fr 0=true:=by rfl)(h4:fr.length=N.length:=by rfl)(h5:freeOk X.env.scope scope.names=true:=by rfl)
 (R:swapsWith (.ListComp elt [⟨.Tuple [.Name x px,.Name y py] tk tp,iter,ifs,0⟩] scope pos) (some (.Name z pz)) g.line X.env=pure true:=by rfl)
 (hs:∀x,foldedSetIterable iter X.env x=pure x:=by intro _;rfl):PS X (.Assign [.Name z pz] (.ListComp elt [⟨.Tuple [.Name x px,.Name y py] tk tp,iter,ifs,0⟩] scope pos) g) (OH (J5 X.K wi fr ix I tif te) (C0 i)) :=
 Sy hN hy U (ED h1) (ED Z) M h2 h3 h4 (Jl h5) hi Y he R hs
end
theorem Ey{K:PySem.W.Frag}{J:It}{n:Nat}{D:Addr}{H1:Hp}{fr:List (Option Nat)}{σ:St}{ix iy:Nat}{U:TT}{te:TE}{G:Hp->Prop}(Pv:Nat->List V->Hp->Prop)(h0:Pv 0 [] (upd H1 D (.lst [])))
 (hgo:∀i ys H,i<n->Pv i ys H->H D=some (.lst ys)->J.go i H/\ys.length<sizeLine/\∀x H',J.Ec i H x H'->∃a M I,x=.ref a/\Af K H' a [M,I] /\
   U (((carry fr σ).set ix (some M)).set iy (some I)) H' fun b Z=>if b=true then te (((carry fr σ).set ix (some M)).set iy (some I)) Z fun y Y=>Y D=some (.lst ys)/\∃g,g<n-i/\CW Pv n D (i+1) g (ys++[y]) (upd Y D (.lst (ys++[y])))
    else ∃g,g<n-i/\CW Pv n D (i+1) g ys Z)
 (R:∀ys H,Pv n ys H->H D=some (.lst ys)->J.stop n H/\G H) :
  ∃W:Nat->Nat->List V->Hp->Prop,(∃m,W 0 m [] (upd H1 D (.lst []))) /\
   ∀i m ys H,W i m ys H->H D=some (.lst ys)/\((J.stop i H/\G H)\/(J.go i H/\ys.length<sizeLine/\∀x H',J.Ec i H x H'->∃a M I,x=.ref a/\Af K H' a [M,I] /\
    U (((carry fr σ).set ix (some M)).set iy (some I)) H' fun b Z=>if b=true then te (((carry fr σ).set ix (some M)).set iy (some I)) Z fun y Y=>Y D=some (.lst ys)/\∃g,g<m/\W (i+1) g (ys++[y]) (upd Y D (.lst (ys++[y])))
     else ∃g,g<m/\W (i+1) g ys Z)):=by
 refine⟨CW Pv n D,⟨n,by simp,Nat.zero_le _,AH,h0⟩,?_⟩;rintro i m ys H ⟨rfl,hi,hH,p⟩;refine⟨hH,?_⟩;by_cases hlt:i<n
 .exact .inr (hgo i ys H hlt p hH)
 .have:i=n:=by lia
  subst this;exact .inl (R ys H p hH)
end L2
namespace ZT
open PySem PyProof.Rows
structure Apart(z TI TO i1 i2:Addr)(f1 f2:List Addr):Prop where
 a1:TI≠z/\TI≠TO/\TI≠i1/\TI≠i2
 a2:TO≠z/\TO≠i1/\TO≠i2
 a3:i1≠z/\i2≠z/\i1≠i2
 b1:z ∉ f1/\TO ∉ f1/\i2 ∉ f1
 b2:z ∉ f2/\TO ∉ f2/\i1 ∉ f2
section
variable{prog:Program}{w:World}{A:Around}{E:Value->Shared->Prop}{s:Shared}{z TI TO i1 i2:Addr}{f1 f2:List Addr}{n1 n2 k:Nat}{P1 P2:Nat->Value->Prop}{S1 S2:Nat->Heap->Prop}{a b:Value}
theorem DY{f:List Addr}{x:Addr}{h h':Heap}(g:x ∉ f)(e:Heap.SameBut x h h'):∀c∈f,∀o,h.get? c=some o->h'.get? c=some o:=fun c I o q=>(e.2 c fun y=>g (y ▸ I)).trans q
theorem item{Q:Value->Shared->Prop}(Z:Draws prog w A i1 f1 n1 P1 S1)(Y:Draws prog w A i2 f2 n2 P2 S2)(ap:Apart z TI TO i1 i2 f1 f2)(hz:IsZip s.heap z TI TO .none)(hI:IsPair s.heap TI (.ref i1) (.ref i2))(hO:IsPair s.heap TO a b)
 (t1:S1 k s.heap)(t2:S2 k s.heap)(l1:k<n1)(l2:k<n2)
 (q:∀x y h' tk,P1 k x->P2 k y->IsZip h' z TI TO (rawInt s.heap.objs.size)->IsPair h' TO x y->S1 (k+1) h'->S2 (k+1) h'->IsPair h' s.heap.objs.size x y->h'.objs.size=s.heap.objs.size+1 ->
   (∀c o,c≠z->c≠TO->c≠i1->c≠i2->s.heap.get? c=some o->h'.get? c=some o)->Q (.ref s.heap.objs.size) {s with heap:=h',toks:=tk}) :
  wpAny (model prog w) A (Builtin.«zip.__next__» ⟨[.ref z],[]⟩) (fun fin s'=>∃v,fin=.done (.ret v)/\Q v s') E s:=by
 obtain⟨⟨c1,c2,c3,c4⟩,⟨c5,c6,c7⟩,⟨c8,c9,c10⟩,⟨d1,d2,d3⟩,d4,d5,d6⟩:=ap;show wpAny _ _ (field (.ref z) 2>>=_) _ _ _;refine aA (aq hz rfl (x:=.bool false) rfl ?_);show wpAny _ _ (field (.ref z) 3>>=_) _ _ _;refine aA (aq hz rfl (x:=.ref TI) rfl (aA (bp hI rfl ?_)));show wpAny _ _ (Builtin.SmallTypes.ownedTupleIsFree (.ref z)>>=_) _ _ _;unfold Builtin.SmallTypes.ownedTupleIsFree;refine aA (aA (aq hz rfl (x:=.none) rfl (aC ?_)));simp only[if_true];refine aA (wpAny_rule (aA (aq hz rfl (x:=.ref TO) rfl (aA (ao hz (by simp) fun g1 z1 m1=>aA ?_)))));have m1:Heap.SameBut z s.heap g1:=m1;have z1:IsZip g1 z TI TO .ellipsis:=z1;simp only[List.zipIdx_cons,List.zipIdx_nil,List.forIn_cons,List.forIn_nil];refine aA (aA (wpAny_onRaise ?_));show wpAny _ _ (Builtin.SmallTypes.nextOf (.ref i1)>>=_) _ _ _;refine aA (Z.item k _ _ _ l1 (Z.frame _ _ _ t1 (DY d1 m1)) fun x g2 tk2 p1 u1 R=>aC ?_);have o2:IsPair g2 TO a b:=(R.2 _ c6).trans ((m1.2 _ c5).trans hO);refine aA (bp o2 rfl (aA (wpAny_updateSeq_pair o2 fun g3 o3 M=>aA (wpAny_letGo (aC ?_)))));have o3:IsPair g3 TO x b:=o3;have t2':S2 k g3:=Y.frame _ _ _ (Y.frame _ _ _ (Y.frame _ _ _ t2 (DY d4 m1)) (DY d6 R)) (DY d5 M);refine aA (aA (wpAny_onRaise ?_));show wpAny _ _ (Builtin.SmallTypes.nextOf (.ref i2)>>=_) _ _ _;refine aA (Y.item k _ _ _ l2 t2' fun y g4 tk4 p2 u2 m4=>aC ?_);have M:Heap.SameBut TO g2 g3:=M;have m4:Heap.SameBut i2 g3 g4:=m4;have o4:IsPair g4 TO x b:=(m4.2 _ c7).trans o3;refine aA (bp o4 rfl (aA (wpAny_updateSeq_pair o4 fun g o5 I=>aA (wpAny_letGo (aC (aC ?_))))));have I:Heap.SameBut TO g4 g:=I;have o5:IsPair g TO x y:=o5;refine aA (bp o5 rfl (aA (wpAny_newTuple ?_)));have R:Heap.SameBut i1 g1 g2:=R;have sz:g.objs.size=s.heap.objs.size:=by rw[I.1,m4.1,M.1,R.1,m1.1]
 have z5:IsZip g z TI TO .ellipsis:=(I.2 _ c5.symm).trans ((m4.2 _ c9.symm).trans ((M.2 _ c5.symm).trans ((R.2 _ c8.symm).trans z1)));have kp:∀c o,c≠z->c≠TO->c≠i1->c≠i2->s.heap.get? c=some o->g.get? c=some o:=fun c o U e2 e3 e4 e=>(I.2 _ e2).trans ((m4.2 _ e4).trans ((M.2 _ e2).trans ((R.2 _ e3).trans ((m1.2 _ U).trans e))));have v1:S1 (k+1) g:=Z.frame _ _ _ (Z.frame _ _ _ (Z.frame _ _ _ u1 (DY d2 M)) (DY d3 m4)) (DY d2 I);have v2:S2 (k+1) g:=Y.frame _ _ _ u2 (DY d5 I);show wpAny _ _ (Builtin.SmallTypes.ownedTupleHandOut (.ref z) (.ref g.objs.size)>>=_) _ _ _;unfold Builtin.SmallTypes.ownedTupleHandOut;have z6:IsZip (g.push { cls:=.type "tuple",data:=.seq #[x,y]}) z TI TO .ellipsis:=aE _ z5;refine aA (aA (ao z6 (by simp) fun g7 z7 m7=>ao (show IsZip g7 z TI TO (rawInt g.objs.size) from z7) (by simp) fun g8 z8 m8=>?_));have z8:IsZip g8 z TI TO (rawInt g.objs.size):=z8;have up:∀c o,c≠z->(g.push { cls:=.type "tuple",data:=.seq #[x,y]}).get? c=some o->g8.get? c=some o:=fun c o U e=>(m8.2 _ U).trans ((m7.2 _ U).trans e);have zl:z<g.objs.size:=aG z5;refine aC ⟨_,rfl,?_⟩;show Q (.ref g.objs.size) _;have fin:=q x y g8 tk4 p1 p2 (by rw[<-sz];exact z8) (up _ _ c5 (aE _ o5)) (Z.frame _ _ _ v1 fun c hc o e=>up c o (fun y=>d1 (y ▸ hc)) (aE _ e)) (Y.frame _ _ _ v2 fun c hc o e=>up c o (fun y=>d4 (y ▸ hc)) (aE _ e))
  (by rw[<-sz];exact up _ _ (bE zl) (aX _ rfl)) (by rw[<-sz,m8.1,m7.1,Heap.size_push]) fun c o U e2 e3 e4 e=>up c o U (aE _ (kp c o U e2 e3 e4 e))
 rw[sz];exact fin
theorem ended{Q:Fin->Shared->Prop}(D1:Draws prog w A i1 f1 n1 P1 S1)(D2:Draws prog w A i2 f2 n2 P2 S2)(ap:Apart z TI TO i1 i2 f1 f2)(hz:IsZip s.heap z TI TO .none)(hI:IsPair s.heap TI (.ref i1) (.ref i2))(hO:IsPair s.heap TO a b)
 (t1:S1 k s.heap)(t2:S2 k s.heap)(he:k=n1\/(k<n1/\k=n2))
 (q:∀h' e tk,(∀c o,c≠z->c≠TO->c≠i1->c≠i2->s.heap.get? c=some o->h'.get? c=some o)->(∃o,h'.get? e=some o/\o.cls=.type "StopIteration")->E (.ref e) {s with heap:=h',toks:=tk}) :
  wpAny (model prog w) A (Builtin.«zip.__next__» ⟨[.ref z],[]⟩) Q E s:=by
 obtain⟨⟨c1,c2,c3,c4⟩,⟨c5,c6,c7⟩,⟨c8,c9,c10⟩,⟨d1,d2,d3⟩,d4,d5,d6⟩:=ap;show wpAny _ _ (field (.ref z) 2>>=_) _ _ _;refine aA (aq hz rfl (x:=.bool false) rfl ?_);show wpAny _ _ (field (.ref z) 3>>=_) _ _ _;refine aA (aq hz rfl (x:=.ref TI) rfl (aA (bp hI rfl ?_)));show wpAny _ _ (Builtin.SmallTypes.ownedTupleIsFree (.ref z)>>=_) _ _ _;unfold Builtin.SmallTypes.ownedTupleIsFree;refine aA (aA (aq hz rfl (x:=.none) rfl (aC ?_)));simp only[if_true];refine aA (wpAny_rule (aA (aq hz rfl (x:=.ref TO) rfl (aA (ao hz (by simp) fun g1 z1 m1=>aA ?_)))));have m1:Heap.SameBut z s.heap g1:=m1;have z1:IsZip g1 z TI TO .ellipsis:=z1;simp only[List.zipIdx_cons,List.zipIdx_nil,List.forIn_cons,List.forIn_nil];refine aA (aA (wpAny_onRaise ?_));show wpAny _ _ (Builtin.SmallTypes.nextOf (.ref i1)>>=_) _ _ _;have R:=D1.frame _ _ _ t1 (DY d1 m1);rcases he with he|⟨he1,he2⟩
 .rw[he]at R;refine aA (D1.done _ _ _ R fun Z e I g=>?_);obtain⟨o,g,Y⟩:=g;have z2:IsZip Z z TI TO .ellipsis:=I _ _ c8.symm z1;have ez:e≠z:=fun y=>by subst y;rw[z2]at g;cases g;simp at Y
  exact ao z2 (by simp) fun g3 _ M=>q g3 e _ (fun c o e1 e2 e3 e4 y=>(M.2 _ e1).trans (I _ _ e3 ((m1.2 _ e1).trans y))) ⟨o,(M.2 _ ez).trans g,Y⟩
 .refine aA (D1.item k _ _ _ he1 R fun x Z tk2 p1 u1 I=>aC ?_);have o2:IsPair Z TO a b:=(I.2 _ c6).trans ((m1.2 _ c5).trans hO);refine aA (bp o2 rfl (aA (wpAny_updateSeq_pair o2 fun g3 o3 M=>aA (wpAny_letGo (aC ?_)))));have U:S2 k g3:=D2.frame _ _ _ (D2.frame _ _ _ (D2.frame _ _ _ t2 (DY d4 m1)) (DY d6 I)) (DY d5 M);rw[he2]at U;have I:Heap.SameBut i1 g1 Z:=I;have M:Heap.SameBut TO Z g3:=M;refine aA (aA (wpAny_onRaise ?_));show wpAny _ _ (Builtin.SmallTypes.nextOf (.ref i2)>>=_) _ _ _;refine aA (D2.done _ _ _ U fun g4 e m4 g=>?_);obtain⟨o,g,Y⟩:=g;have z4:IsZip g4 z TI TO .ellipsis:=m4 _ _ c9.symm ((M.2 _ c5.symm).trans ((I.2 _ c8.symm).trans z1));have ez:e≠z:=fun y=>by subst y;rw[z4]at g;cases g;simp at Y
  exact ao z4 (by simp) fun g5 _ m5=>q g5 e _ (fun c o e1 e2 e3 e4 y=>(m5.2 _ e1).trans (m4 _ _ e4 ((M.2 _ e2).trans ((I.2 _ e3).trans ((m1.2 _ e1).trans y))))) ⟨o,(m5.2 _ ez).trans g,Y⟩
theorem next_item{Q:Option Value->Shared->Prop}(D1:Draws prog w A.in1 i1 f1 n1 P1 S1)(D2:Draws prog w A.in1 i2 f2 n2 P2 S2)(ap:Apart z TI TO i1 i2 f1 f2)(hz:IsZip s.heap z TI TO .none)(hI:IsPair s.heap TI (.ref i1) (.ref i2))(hO:IsPair s.heap TO a b)
 (t1:S1 k s.heap)(I:S2 k s.heap)(l1:k<n1)(l2:k<n2)
 (q:∀x y h' tk,P1 k x->P2 k y->IsZip h' z TI TO (rawInt s.heap.objs.size)->IsPair h' TO x y->S1 (k+1) h'->S2 (k+1) h'->IsPair h' s.heap.objs.size x y->h'.objs.size=s.heap.objs.size+1 ->
   (∀c o,c≠z->c≠TO->c≠i1->c≠i2->s.heap.get? c=some o->h'.get? c=some o)->Q (some (.ref s.heap.objs.size)) {s with heap:=h',toks:=tk}) :
  wpAny (model prog w) A (pyNext (.ref z)) Q E s:=by
 have g:s.TypeIs (.ref z) "zip" := ⟨_,hz,rfl⟩;unfold pyNext;exact aA (wpAny_attempt (ar (name:=Str.ofString "__next__") g F.slot_zip_next
  (az F.slot_zip_next g F.entry_zip_next (item D1 D2 ap hz hI hO t1 I l1 l2 fun x y h' tk r1 r2 r3 r4 Z Y U R M=>aC (q x y h' tk r1 r2 r3 r4 Z Y U R M)) (F.args_zip_next_1 _))))
theorem next_end{Q:Option Value->Shared->Prop}(D1:Draws prog w A.in1 i1 f1 n1 P1 S1)(D2:Draws prog w A.in1 i2 f2 n2 P2 S2)(ap:Apart z TI TO i1 i2 f1 f2)(hz:IsZip s.heap z TI TO .none)(Z:IsPair s.heap TI (.ref i1) (.ref i2))(Y:IsPair s.heap TO a b)
 (t1:S1 k s.heap)(M:S2 k s.heap)(R:k=n1\/(k<n1/\k=n2))
 (q:∀h' tk,(∀c o,c≠z->c≠TO->c≠i1->c≠i2->s.heap.get? c=some o->h'.get? c=some o)->Q none {s with heap:=h',toks:=tk}) :
  wpAny (model prog w) A (pyNext (.ref z)) Q E s:=by
 have I:s.TypeIs (.ref z) "zip" := ⟨_,hz,rfl⟩;unfold pyNext;refine aA (wpAny_attempt (ar (name:=Str.ofString "__next__") I F.slot_zip_next
  (az F.slot_zip_next I F.entry_zip_next (ended D1 D2 ap hz Z Y t1 M R fun h' e tk kp g=>?_) (F.args_zip_next_1 _))))
 obtain⟨o,g,U⟩:=g;exact aA (wpAny_isInstance (T := "StopIteration") (b:=true) ⟨o,g,U⟩ isSubtype_stop (aC (q _ _ kp)))
end
end ZT
namespace ZT
open PySem PyProof.Rows
def Sq(b:Bool)(h:Heap)(l:Addr)(xs:List Value):Prop:=if b then h.IsTuple l xs.toArray else h.IsList l xs.toArray
def EH(b:Bool)(l:Addr):Obj:=if b then { cls:=.type "tuple_iterator",data:=.fields #[.ref l,.int 0 0]} else { cls:=.type "list_iterator",data:=.fields #[.ref l,.int 0 0]}
def Na(b:Bool)(h:Heap)(it l:Addr)(k:Nat):Prop:=if b then h.IsTupleIter it l k else h.IsListIter it l k
theorem Sq.push{b:Bool}{h:Heap}{l:Addr}{xs:List Value}(o:Obj)(x:Sq b h l xs):Sq b (h.push o) l xs:=by
 cases b with
 |true=>obtain⟨u,e,r⟩:=(show h.IsTuple l xs.toArray from x);exact(show(h.push o).IsTuple l xs.toArray from⟨u,Heap.get?_push_of_some _ e,r⟩)
 |false=>obtain⟨u,e,r⟩:=(show h.IsList l xs.toArray from x);exact(show(h.push o).IsList l xs.toArray from⟨u,Heap.get?_push_of_some _ e,r⟩)
section
variable{prog:Program}{w:World}{A:Around}{E:Value->Shared->Prop}{s:Shared}
theorem UC{b:Bool}{l:Addr}{xs:List Value}{Q:Value->Shared->Prop}(x:Sq b s.heap l xs)(h:Q (.ref s.heap.objs.size) {s with heap:=s.heap.push (EH b l)}):wpAny (model prog w) A (pyIter (.ref l)) Q E s:=by
 cases b with
 |true=>exact wpAny_pyIter_tuple x h
 |false=>exact wpAny_pyIter_list x h
theorem Kg(I:A.handled=none)(b:Bool)(it l:Addr)(xs:List Value)(g:l≠it):Draws prog w A it [it,l] xs.length (fun i v=>xs[i]? = some v) (fun i h=>Na b h it l i/\Sq b h l xs):=by
 cases b with
 |true=>exact ET.draws I it l xs g
 |false=>
  have:=Draws.list (prog:=prog) (w:=w) I it l g xs.toArray
  simpa[Na,Sq]using this
def zh(b1 b2:Bool)(h:Heap)(g I:Addr):Heap :=
 ((((h.push (EH b1 g)).push (EH b2 I)).push { cls:=.type "tuple",data:=.seq #[.ref h.objs.size,.ref (h.push (EH b1 g)).objs.size]}).push { cls:=.type "tuple",data:=.seq #[.none,.none]}).push
  { cls:=.type "zip",data:=.fields #[.none,.bool false,.bool false,.ref ((h.push (EH b1 g)).push (EH b2 I)).objs.size,.ref (((h.push (EH b1 g)).push (EH b2 I)).push { cls:=.type "tuple",data:=.seq #[.ref h.objs.size,.ref (h.push (EH b1 g)).objs.size]}).objs.size]}
theorem ZZ(b1 b2:Bool)(I Y:Addr)(xs ys:List Value) :
  Meets (Builtin.«zip.__new__» ⟨[.type "zip",.ref I,.ref Y],[]⟩) (fun _ R s=>Sq b1 s.heap I xs/\Sq b2 s.heap Y ys /\
   R (.ok (.ret (.ref ((((s.heap.push (EH b1 I)).push (EH b2 Y)).push { cls:=.type "tuple",data:=.seq #[.ref s.heap.objs.size,.ref (s.heap.push (EH b1 I)).objs.size]}).push { cls:=.type "tuple",data:=.seq #[.none,.none]}).objs.size)) ) {s with heap:=zh b1 b2 s.heap I Y}) :=
 .of_wp fun prog w A R s h=>by
  obtain⟨M,g,d,U,os⟩:=s;obtain⟨h1,h2,h⟩:=h;have Z:=sub_zip;have i1:∀(A:Around) (E:Value->Shared->Prop) (Q:Value->Shared->Prop),Q (.ref M.objs.size) ⟨M.push (EH b1 I),g,d,U,os⟩->wpAny (model prog w) A (pyIter (.ref I)) Q E ⟨M,g,d,U,os⟩:=fun A E Q q=>UC (s:=⟨M,g,d,U,os⟩) h1 q;have i2:∀(A:Around) (E:Value->Shared->Prop) (Q:Value->Shared->Prop),Q (.ref (M.push (EH b1 I)).objs.size) ⟨(M.push (EH b1 I)).push (EH b2 Y),g,d,U,os⟩->wpAny (model prog w) A (pyIter (.ref Y)) Q E ⟨M.push (EH b1 I),g,d,U,os⟩:=fun A E Q q=>UC (s:=⟨M.push (EH b1 I),g,d,U,os⟩) (h2.push _) q
  wp_walk using i1,i2
  exact⟨_,rfl,h⟩
theorem YD{b1 b2:Bool}{M I:Addr}{xs ys:List Value}{Q:Value->Shared->Prop}(h1:Sq b1 s.heap M xs)(h2:Sq b2 s.heap I ys)
 (h:∀h',IsZip h' (s.heap.objs.size+4) (s.heap.objs.size+2) (s.heap.objs.size+3) .none->IsPair h' (s.heap.objs.size+2) (.ref s.heap.objs.size) (.ref (s.heap.objs.size+1))->IsPair h' (s.heap.objs.size+3) .none .none ->
   Na b1 h' s.heap.objs.size M 0->Na b2 h' (s.heap.objs.size+1) I 0->(∀c o,s.heap.get? c=some o->h'.get? c=some o)->Q (.ref (s.heap.objs.size+4)) {s with heap:=h'}) :
  wpAny (model prog w) A (call (.type "zip") [.ref M,.ref I]) Q E s:=by
 refine callType_new F.called_zip (by decide) (F.typeCall_zip_2 _ _) (F.newCall_zip_2 _ _) (fun obj=>F.args_object_init_3 obj _ _) F.entry_zip_new (ZZ b1 b2 M I xs ys) ⟨h1,h2,?_⟩;have Y:(s.heap.push (EH b1 M)).objs.size=s.heap.objs.size+1:=Heap.size_push ..;have up:∀(g:Heap) (o:Obj) (c:Addr) (u:Obj),g.get? c=some u->(g.push o).get? c=some u:=fun g o c u e=>aE _ e;have a0:(s.heap.push (EH b1 M)).get? s.heap.objs.size=some (EH b1 M):=aX _ (by cases b1<;>rfl);generalize hg1:s.heap.push (EH b1 M)=g1 at Y a0;have k1:∀c o,s.heap.get? c=some o->g1.get? c=some o:=fun c o e=>by rw[<-hg1];exact up _ _ _ _ e
 have n2:(g1.push (EH b2 I)).objs.size=s.heap.objs.size+2:=by rw[Heap.size_push,Y]
 have a1:(g1.push (EH b2 I)).get? (s.heap.objs.size+1)=some (EH b2 I):=by rw[<-Y];exact aX _ (by cases b2<;>rfl)
 generalize hg2:g1.push (EH b2 I)=g2 at n2 a1;have k2:∀c o,g1.get? c=some o->g2.get? c=some o:=fun c o e=>by rw[<-hg2];exact up _ _ _ _ e
 have n3:(g2.push { cls:=.type "tuple",data:=.seq #[.ref s.heap.objs.size,.ref (s.heap.objs.size+1)]}).objs.size=s.heap.objs.size+3:=by rw[Heap.size_push,n2]
 have a2:IsPair (g2.push { cls:=.type "tuple",data:=.seq #[.ref s.heap.objs.size,.ref (s.heap.objs.size+1)]}) (s.heap.objs.size+2) (.ref s.heap.objs.size) (.ref (s.heap.objs.size+1)):=by rw[<-n2];exact aX _ rfl
 generalize U:g2.push { cls:=.type "tuple",data:=.seq #[.ref s.heap.objs.size,.ref (s.heap.objs.size+1)]}=g3 at n3 a2;have k3:∀c o,g2.get? c=some o->g3.get? c=some o:=fun c o e=>by rw[<-U];exact up _ _ _ _ e
 have n4:(g3.push { cls:=.type "tuple",data:=.seq #[.none,.none]}).objs.size=s.heap.objs.size+4:=by rw[Heap.size_push,n3]
 have a3:IsPair (g3.push { cls:=.type "tuple",data:=.seq #[.none,.none]}) (s.heap.objs.size+3) .none .none:=by rw[<-n3];exact aX _ rfl
 generalize R:g3.push { cls:=.type "tuple",data:=.seq #[.none,.none]}=g4 at n4 a3;have k4:∀c o,g3.get? c=some o->g4.get? c=some o:=fun c o e=>by rw[<-R];exact up _ _ _ _ e
 have ez:zh b1 b2 s.heap M I=g4.push { cls:=.type "zip",data:=.fields #[.none,.bool false,.bool false,.ref (s.heap.objs.size+2),.ref (s.heap.objs.size+3)]}:=by
  unfold zh;rw[hg1,hg2,Y,U,R,n2,n3]
 have a4:IsZip (g4.push { cls:=.type "zip",data:=.fields #[.none,.bool false,.bool false,.ref (s.heap.objs.size+2),.ref (s.heap.objs.size+3)]}) (s.heap.objs.size+4) (s.heap.objs.size+2) (s.heap.objs.size+3) .none:=by rw[<-n4];exact aX _ rfl
 rw[Y,U,R,n4,ez];show _/\_;have Z:∀c o,g4.get? c=some o->(g4.push { cls:=.type "zip",data:=.fields #[.none,.bool false,.bool false,.ref (s.heap.objs.size+2),.ref (s.heap.objs.size+3)]}).get? c=some o:=fun c o e=>up _ _ _ _ e;refine⟨⟨_,a4,rfl⟩,h _ a4 (Z _ _ (k4 _ _ a2)) (Z _ _ a3) ?_ ?_ fun c o e=>Z _ _ (k4 _ _ (k3 _ _ (k2 _ _ (k1 _ _ e))))⟩
 .have:=Z _ _ (k4 _ _ (k3 _ _ (k2 _ _ a0)));cases b1 with
  |true=>exact⟨_,this,rfl,rfl⟩
  |false=>exact⟨_,this,rfl,rfl⟩
 .have:=Z _ _ (k4 _ _ (k3 _ _ a1));cases b2 with
  |true=>exact⟨_,this,rfl,rfl⟩
  |false=>exact⟨_,this,rfl,rfl⟩
end
end ZT
namespace L2
open PySem PySem.Spec PyProof.Rows
def Ez(b:Bool)(H:Hp)(a:Addr)(xs:List V):Prop:=if b then H a=some (.tup xs) else H a=some (.lst xs)
theorem Ez.inj{b:Bool}{H:Hp}{a:Addr}{xs ys:List V}(h:Ez b H a xs)(k:Ez b H a ys):xs=ys:=by
 cases b with
 |true=>have h:H a=some (.tup xs):=h;have k:H a=some (.tup ys):=k;rw[h]at k;cases k;rfl
 |false=>have h:H a=some (.lst xs):=h;have k:H a=some (.lst ys):=k;rw[h]at k;cases k;rfl
theorem Ez.none{b:Bool}{H:Hp}{a c:Addr}{xs:List V}(h:Ez b H a xs)(k:H c=none):a≠c:=fun z=>by
 subst z;cases b with
 |true=>have h:H a=some (.tup xs):=h;rw[k]at h;cases h
 |false=>have h:H a=some (.lst xs):=h;rw[k]at h;cases h
theorem Ez.raw{X:Cx}{pins:List (Addr×Obj)}{σ:St}{H:Hp}{s:Shared}(I:Inv X pins σ H s){b:Bool}{a:Addr}{xs:List V}(h:Ez b H a xs):∃g,Vals xs g/\ZT.Sq b s.heap a g:=by
 cases b with
 |true=>
  obtain⟨g,M,p,_⟩:=I.tuple (Af.of (K:=X.K) (show H a=some (.tup xs) from h));exact⟨g,M,p⟩
 |false=>
  obtain⟨g,M,p,_⟩:=I.list (AO.of (K:=X.K) (show H a=some (.lst xs) from h));exact⟨g,M,p.isList⟩
def fW(b1 b2:Bool)(a1 a2:Addr):It :=
 ⟨fun i H=>∃xs x ys y,Ez b1 H a1 xs/\Ez b2 H a2 ys/\xs[i]? = some x/\ys[i]? = some y,
  fun i H v H'=>∃p x y,v=.ref p/\H p=none/\H'=upd H p (.tup [x,y])/\(∀xs,Ez b1 H a1 xs->xs[i]? = some x)/\∀ys,Ez b2 H a2 ys->ys[i]? = some y,
  fun i H=>∃xs ys,Ez b1 H a1 xs/\Ez b2 H a2 ys/\(i=xs.length\/(i<xs.length/\i=ys.length))⟩
def kf(b1 b2:Bool)(a1 a2 z TI TO i1 i2:Addr):Nat->Heap->Prop:=fun i h=>IsZip h z TI TO .none/\IsPair h TI (.ref i1) (.ref i2)/\(∃a b,IsPair h TO a b)/\ZT.Na b1 h i1 a1 i/\ZT.Na b2 h i2 a2 i
theorem Lz{b:Bool}{h:Heap}{it l:Addr}{k:Nat}(x:ZT.Na b h it l k):∃o,h.get? it=some o/\∀v,o.data≠.cell v:=by
 cases b with
 |true=>obtain⟨o,e,_,d⟩:=(show h.IsTupleIter it l k from x);exact⟨o,e,fun v z=>by rw[d]at z;cases z⟩
 |false=>obtain⟨o,e,_,d⟩:=(show h.IsListIter it l k from x);exact⟨o,e,fun v z=>by rw[d]at z;cases z⟩
theorem Km{b:Bool}{h h':Heap}{it l:Addr}{k:Nat}(x:ZT.Na b h it l k)(e:∀o,h.get? it=some o->h'.get? it=some o):ZT.Na b h' it l k:=by
 cases b with
 |true=>obtain⟨o,q,r⟩:=(show h.IsTupleIter it l k from x);exact(show h'.IsTupleIter it l k from⟨o,e _ q,r⟩)
 |false=>obtain⟨o,q,r⟩:=(show h.IsListIter it l k from x);exact(show h'.IsListIter it l k from⟨o,e _ q,r⟩)
theorem Ys{P:Program}{w:World}{K:PySem.W.Frag}{elts:List Expr}{x1}{pos:Pos}{b1 b2:Bool}{a1 a2 z TI TO i1 i2:Addr}(ne:[z,TI,TO,i1,i2].Nodup) :
  Turn P w K (.Tuple elts x1 pos) (fW b1 b2 a1 a2) [z,TI,TO,i1,i2] z (kf b1 b2 a1 a2 z TI TO i1 i2) where
 mem:=by simp
 obj:=fun i h st b hb=>by
  obtain⟨h1,h2,⟨u,v,h3⟩,h4,h5⟩:=st;have hb:b=z\/b=TI\/b=TO\/b=i1\/b=i2:=by simpa using hb
  rcases hb with rfl|rfl|rfl|rfl|rfl
  .exact⟨_,h1,fun v y=>by cases y⟩
  .exact⟨_,h2,fun v y=>by cases y⟩
  .exact⟨_,h3,fun v y=>by cases y⟩
  .exact Lz h4
  .exact Lz h5
 keep:=fun i h h' st k=>by
  obtain⟨h1,h2,⟨u,v,h3⟩,h4,h5⟩:=st;exact⟨k z (by simp) _ h1,k TI (by simp) _ h2,⟨u,v,k TO (by simp) _ h3⟩,Km h4 fun o e=>k i1 (by simp) o e,Km h5 fun o e=>k i2 (by simp) o e⟩
 item:=by
  intro X hP hw hK hc i pins s σ H E I hf st hg;subst hP hw hK;obtain⟨xs,x,ys,y,q1,q2,hx,hy⟩:=hg;obtain⟨us,rv1,p1⟩:=q1.raw I;obtain⟨vs,rv2,p2⟩:=q2.raw I;obtain⟨u,hu,ru⟩:=rv1.get hx;obtain⟨v,hv,rv⟩:=rv2.get hy;obtain⟨t1,t2,⟨ta,tb,t3⟩,t4,t5⟩:=st;have e1:∀b∈[z,TI,TO,i1,i2],a1≠b:=fun b hb=>q1.none (hf b hb).1;have e2:∀b∈[z,TI,TO,i1,i2],a2≠b:=fun b hb=>q2.none (hf b hb).1;simp only[List.nodup_cons,List.mem_cons,List.not_mem_nil,or_false,not_or]at ne;obtain⟨⟨n1,n2,n3,n4⟩,⟨n5,n6,n7⟩,⟨n8,n9⟩,n10,_⟩:=ne;have ap:ZT.Apart z TI TO i1 i2 [i1,a1] [i2,a2]:=⟨⟨Ne.symm n1,n5,n6,n7⟩,⟨Ne.symm n2,n8,n9⟩,⟨Ne.symm n3,Ne.symm n4,n10⟩,
   ⟨by simp[n3,Ne.symm (e1 z (by simp))],by simp[n8,Ne.symm (e1 TO (by simp))],by simp[Ne.symm n10,Ne.symm (e1 i2 (by simp))]⟩,⟨by simp[n4,Ne.symm (e2 z (by simp))],by simp[n9,Ne.symm (e2 TO (by simp))],by simp[n10,Ne.symm (e2 i1 (by simp))]⟩⟩
  refine ZT.next_item (ZT.Kg (prog:=X.prog) (w:=X.w) (A:=X.A.in1) (I.ok.hd hc) b1 i1 a1 us (e1 i1 (by simp))) (ZT.Kg (prog:=X.prog) (w:=X.w) (A:=X.A.in1) (I.ok.hd hc) b2 i2 a2 vs (e2 i2 (by simp))) ap t1 t2 t3 ⟨t4,p1⟩ ⟨t5,p2⟩ (aB.mp hu).1 (aB.mp hv).1
   fun u' v' h' tk r1 r2 r3 r4 r5 r6 r7 r8 r9=>⟨_,rfl,wpAny_letOwnedTupleGo_zip (s:={s with heap:=h',toks:=tk}) r3 fun h'' z'' sb=>?_⟩
  rw[hu]at r1;rw[hv]at r2;cases r1;cases r2;have keep:∀b o,b ∉ [z,TI,TO,i1,i2]->s.heap.get? b=some o->h''.get? b=some o:=fun b o hb q=>by
   simp only[List.mem_cons,List.not_mem_nil,or_false,not_or]at hb;exact(sb.2 b hb.1).trans (r9 b o hb.1 hb.2.2.1 hb.2.2.2.1 hb.2.2.2.2 q)
  have lt:∀b∈[z,TI,TO,i1,i2],b<s.heap.objs.size:=fun b hb=>by
   have hb:b=z\/b=TI\/b=TO\/b=i1\/b=i2:=by simpa using hb
   rcases hb with rfl|rfl|rfl|rfl|rfl
   .exact aG t1
   .exact aG t2
   .exact aG t3
   .obtain⟨o,e,_⟩:=Lz t4;exact aG e
   .obtain⟨o,e,_⟩:=Lz t5;exact aG e
  have hTn:H s.heap.objs.size=none:=I.Ah.fresh (aD _);have hT'':h''.get? s.heap.objs.size=some { cls:=.type "tuple",data:=.seq #[u,v]}:=(sb.2 _ (bE (lt z (by simp)))).trans r7;have neT:∀b o,s.heap.get? b=some o->b≠s.heap.objs.size:=fun b o q=>aT (aG q);have JA:∀b o,H b=some o->b ∉ [z,TI,TO,i1,i2]:=fun b o q hb=>by rw[(hf b hb).1]at q;cases q
  refine⟨.ref s.heap.objs.size,upd H s.heap.objs.size (.tup [x,y]),?_,rfl,⟨_,x,y,rfl,hTn,rfl,fun zs hz=>by rw[hz.inj q1];exact hx,fun zs hz=>by rw[hz.inj q2];exact hy⟩,⟨z'',?_,⟨u,v,?_⟩,?_,?_⟩,fun b hb=>?_⟩
  .show Inv X pins σ _ {s with heap:=h'',gens:=s.gens,drawn:=s.drawn,toks:=tk};refine I.step (h':=h'') (g':=s.gens) (d':=s.drawn) (t':=tk) (ch:=[z,TI,TO,i1,i2]) (fun b hb=>?_) (fun b o _ _ hc q _=>keep b o hc q) (fun b o _ _ hc q _=>⟨o.slots,keep b o hc q⟩)
    (fun b o _ q n=>by rw[AI (neT b o q)];exact n) (fun b o hc q=>⟨o,keep b o hc q⟩) (fun b ys q=>by rw[AI (AM q hTn)];exact q) (fun b o u q=>by rw[AI (AM q hTn)];exact q)
    (fun b ps q=>⟨#[],by rw[AI (AM q hTn),q];simp⟩) (fun b _ o hc _ q=>keep b o hc q) (fun m hm=>?_) (fun b o q=>?_) I.bare
   .obtain⟨_,f1,_,f3,f4,f5⟩:=hf b hb;exact⟨f3,f1,f4,f5⟩
   .obtain⟨o,es,ep,ho,r⟩:=hm;exact⟨o,es,ep,keep _ o (fun hb=>(hf _ hb).2.1 rfl) ho,r⟩
   .by_cases hb:b=s.heap.objs.size
    .subst hb;rw[AH]at q;cases q;exact⟨Wn,[u,v],.cons ru (.cons rv .nil),_,hT'',rfl,_,rfl⟩
    .rw[AI hb]at q;refine(I.Ah b o q).Ip (fun c w hc r=>keep c w ?_ r) (fun c r=>by rw[AI (AM r hTn)];exact r) fun c ys r=>by rw[AI (AM r hTn)];exact r
     rcases hc with rfl|hc
     .exact JA _ _ q
     .exact JA _ _ hc
  .exact(sb.2 _ (Ne.symm n1)).trans (r9 _ _ (Ne.symm n1) n5 n6 n7 t2)
  .exact(sb.2 _ (Ne.symm n2)).trans r4
  .exact Km r5.1 fun o e=>(sb.2 _ (Ne.symm n3)).trans e
  .exact Km r6.1 fun o e=>(sb.2 _ (Ne.symm n4)).trans e
  .rw[AI (aT (lt b hb))];exact(hf b hb).1
 done:=by
  intro X hP hw hK hc i pins s σ H E I hf st hg;subst hP hw hK;obtain⟨xs,ys,q1,q2,he⟩:=hg;obtain⟨us,rv1,p1⟩:=q1.raw I;obtain⟨vs,rv2,p2⟩:=q2.raw I;obtain⟨t1,t2,⟨ta,tb,t3⟩,t4,t5⟩:=st;have e1:∀b∈[z,TI,TO,i1,i2],a1≠b:=fun b hb=>q1.none (hf b hb).1;have e2:∀b∈[z,TI,TO,i1,i2],a2≠b:=fun b hb=>q2.none (hf b hb).1;simp only[List.nodup_cons,List.mem_cons,List.not_mem_nil,or_false,not_or]at ne;obtain⟨⟨n1,n2,n3,n4⟩,⟨n5,n6,n7⟩,⟨n8,n9⟩,n10,_⟩:=ne;have ap:ZT.Apart z TI TO i1 i2 [i1,a1] [i2,a2]:=⟨⟨Ne.symm n1,n5,n6,n7⟩,⟨Ne.symm n2,n8,n9⟩,⟨Ne.symm n3,Ne.symm n4,n10⟩,
   ⟨by simp[n3,Ne.symm (e1 z (by simp))],by simp[n8,Ne.symm (e1 TO (by simp))],by simp[Ne.symm n10,Ne.symm (e1 i2 (by simp))]⟩,⟨by simp[n4,Ne.symm (e2 z (by simp))],by simp[n9,Ne.symm (e2 TO (by simp))],by simp[n10,Ne.symm (e2 i1 (by simp))]⟩⟩
  have he':i=us.length\/(i<us.length/\i=vs.length):=by rw[<-rv1.length,<-rv2.length];exact he
  refine ZT.next_end (ZT.Kg (prog:=X.prog) (w:=X.w) (A:=X.A.in1) (I.ok.hd hc) b1 i1 a1 us (e1 i1 (by simp))) (ZT.Kg (prog:=X.prog) (w:=X.w) (A:=X.A.in1) (I.ok.hd hc) b2 i2 a2 vs (e2 i2 (by simp))) ap t1 t2 t3 ⟨t4,p1⟩ ⟨t5,p2⟩ he' fun h' tk kp=>⟨rfl,?_⟩;have keep:∀b o,b ∉ [z,TI,TO,i1,i2]->s.heap.get? b=some o->h'.get? b=some o:=fun b o hb q=>by
   simp only[List.mem_cons,List.not_mem_nil,or_false,not_or]at hb;exact kp b o hb.1 hb.2.2.1 hb.2.2.2.1 hb.2.2.2.2 q
  have JA:∀b o,H b=some o->b ∉ [z,TI,TO,i1,i2]:=fun b o q hb=>by rw[(hf b hb).1]at q;cases q
  show Inv X pins σ _ {s with heap:=h',gens:=s.gens,drawn:=s.drawn,toks:=tk};refine I.step (h':=h') (g':=s.gens) (d':=s.drawn) (t':=tk) (ch:=[z,TI,TO,i1,i2]) (fun b hb=>?_) (fun b o _ _ hc q _=>keep b o hc q) (fun b o _ _ hc q _=>⟨o.slots,keep b o hc q⟩)
    (fun b o _ q n=>n) (fun b o hc q=>⟨o,keep b o hc q⟩) (fun b ys q=>q) (fun b o u q=>q)
    (fun b ps q=>⟨#[],by rw[q];simp⟩) (fun b _ o hc _ q=>keep b o hc q) (fun m hm=>?_) (fun b o q=>?_) I.bare
  .obtain⟨_,f1,_,f3,f4,f5⟩:=hf b hb;exact⟨f3,f1,f4,f5⟩
  .obtain⟨o,es,ep,ho,r⟩:=hm;exact⟨o,es,ep,keep _ o (fun hb=>(hf _ hb).2.1 rfl) ho,r⟩
  .refine(I.Ah b o q).Ip (fun c w hc r=>keep c w ?_ r) (fun c r=>r) fun c ys r=>r;rcases hc with rfl|hc
   .exact JA _ _ q
   .exact JA _ _ hc
 self:=fun _ _ _ _ _ st h=>wpAny_pyIter_zip st.1 h
def ja(g:TA):TI:=fun σ H R=>g σ H fun vs H1=>∃(b1 b2:Bool) (a1 a2:Addr),vs=[.ref a1,.ref a2]/\(∃xs,Ez b1 H1 a1 xs)/\(∃ys,Ez b2 H1 a2 ys)/\R (fW b1 b2 a1 a2) H1
theorem Le{X:Cx}{elts:List Expr}{x1}{g:Pos}{a b:Expr}{ta:TA}{p pos:Pos}(hg:Gl X "zip")(hm:X.mg "zip" = none)(ha:PA X [a,b] ta)(hs:starEach [a,b] X.env=[(false,eval a X.env),(false,eval b X.env)]:=by rfl)(M:starEach [b] X.env=[(false,eval b X.env)]:=by rfl) :
  PI X (.Tuple elts x1 g) (.Call (.Name "zip" p) [a,b] [] pos) (ja ta):=by
 intro pins s σ H R I h;refine Call_ (GI I hg hm boot_zip (PyProof.Rows.callWith_type1 (A4 (ha pos pins s σ H _ I h) fun us s1 ⟨vs,H1,Y,r1,q1⟩=>?_) (by rw[hs,M]) (by rw[M];rfl)));obtain⟨b1,b2,l1,l2,e,⟨xs,h1⟩,⟨ys,h2⟩,q⟩:=q1;subst e;cases r1 with
 |cons r Z=>
  cases Z with
  |cons r' Z=>
   cases Z;cases r;cases r';obtain⟨us,_,p1⟩:=h1.raw Y;obtain⟨vs,_,p2⟩:=h2.raw Y;refine ZT.YD p1 p2 fun h' z1 z2 z3 z4 z5 hk=>wpAny_pyIter_zip z1 ?_;have I2:Inv X pins σ H1 {s1 with heap:=h'}:=Y.kept (t':=s1.toks) hk;refine⟨_,[s1.heap.objs.size+4,s1.heap.objs.size+2,s1.heap.objs.size+3,s1.heap.objs.size,s1.heap.objs.size+1],_,_,H1,rfl,I2,Ys ?_,⟨z1,z2,⟨_,_,z3⟩,z4,z5⟩,fun b hb=>?_,q⟩
   .simp
   have U:s1.heap.objs.size<=b:=by
    have hb2:b=s1.heap.objs.size+4\/b=s1.heap.objs.size+2\/b=s1.heap.objs.size+3\/b=s1.heap.objs.size\/b=s1.heap.objs.size+1:=by simpa using hb
    rcases hb2 with h|h|h|h|h<;>rw[h]<;>first|exact aD _|exact Nat.le_add_right _ _
   exact Y.Sg U (Y.Ah.fresh U)
def V8(K:PySem.W.Frag)(a:Addr):It :=
 ⟨fun i H=>∃xs x,AO K H a xs/\xs[i]? = some x,fun i H v H'=>∃p x,v=.ref p/\H p=none/\H'=upd H p (.tup [.int i,x])/\∀xs,AO K H a xs->xs[i]? = some x,fun i H=>∃xs,AO K H a xs/\xs.length=i⟩
theorem Va{P:Program}{w:World}{K:PySem.W.Frag}{elts:List Expr}{x1}{pos:Pos}(a e it:Addr)(hne:e≠it) :
  Turn P w K (.Tuple elts x1 pos) (V8 K a) [e,it] e (fun i h=>(∃old,IsEnum h e it (i:Nat) old)/\h.IsListIter it a i) where
 mem:=by simp
 obj:=fun i h st b hb=>by
  rcases aY.mp hb with rfl|hb
  .obtain⟨⟨old,q⟩,_⟩:=st;exact⟨_,q,fun v z=>by cases z⟩
  .have e2:b=it:=by simpa using hb
   subst e2;obtain⟨_,o,q,c,d⟩:=st;exact⟨o,q,fun v z=>by rw[d]at z;cases z⟩
 keep:=fun i h h' st k=>by
  obtain⟨⟨old,q⟩,o,q2,r⟩:=st;exact⟨⟨old,k e (by simp) _ q⟩,o,k it (by simp) _ q2,r⟩
 item:=by
  intro X hP hw hK hc i pins s σ H E I hf st hg;subst hP hw hK;obtain⟨xs,x,hq,hx⟩:=hg;obtain⟨its,rv,pL,hz⟩:=I.list hq;have p:=pL.isList;obtain⟨u,hu,ru⟩:=rv.get hx;obtain⟨⟨old,he⟩,hit⟩:=st;have hai:a≠it:=fun z=>by
   obtain⟨o,e1,c1,_⟩:=p;obtain⟨o2,e2,c2,_⟩:=hit;rw[z,e2]at e1;cases e1;rw[c1]at c2;exact absurd c2 (by decide)
  have hae:a≠e:=fun z=>by
   obtain⟨o,e1,c1,_⟩:=p;rw[z,he]at e1;cases e1;exact absurd (show Value.type "enumerate" = Value.type "list" from c1) (by decide)
  have hlt:i<its.length:=(aB.mp hu).1;have hE0:=hf e (by simp);have hI0:=hf it (by simp);refine wpAny_pyNext_enum_itemD (Draws.list (prog:=X.prog) (w:=X.w) (A:=X.A.in1) (I.ok.hd hc) it a hai its.toArray) he ⟨hit,p⟩ (by simpa using hlt) hne (by simp[hne,Ne.symm hae]) fun y h' tk hy ho hs' hT hsz hk=>⟨_,rfl,wpAny_letOwnedTupleGo_enum (s:={s with heap:=h',toks:=tk+1}) ho fun h'' he'' sb=>?_⟩;have hyu:y=u:=by
   have hy:its[i]? = some y:=by simpa using hy
   rw[hu]at hy;exact(ae hy).symm
  subst hyu;have keep:∀b o,b≠e->b≠it->s.heap.get? b=some o->h''.get? b=some o:=fun b o h1 h2 q=>(sb.2 b h1).trans (hk b o h1 h2 q);have hTe:s.heap.objs.size≠e:=bE (aG he);have hTi:s.heap.objs.size≠it:=let⟨_,q,_⟩:=hit;bE (aG q);have hT'':h''.get? s.heap.objs.size=some { cls:=.type "tuple",data:=.seq #[.int i tk,y]}:=(sb.2 _ hTe).trans hT;have hTn:H s.heap.objs.size=none:=I.Ah.fresh (aD _);have neT:∀b o,s.heap.get? b=some o->b≠s.heap.objs.size:=fun b o q=>aT (aG q);have JA:∀b o,H b=some o->b≠e/\b≠it:=fun b o q=>⟨(fun z=>by rw[z,hE0.1]at q;cases q),(fun z=>by rw[z,hI0.1]at q;cases q)⟩;refine⟨.ref s.heap.objs.size,upd H s.heap.objs.size (.tup [.int i,x]),?_,rfl,⟨_,x,rfl,hTn,rfl,fun ys hy=>by rw[I.Sl hy hq];exact hx⟩,⟨⟨_,by simpa using he''⟩,?_⟩,fun b hb=>?_⟩
  .show Inv X pins σ _ {s with heap:=h'',gens:=s.gens,drawn:=s.drawn,toks:=tk+1};refine I.step (h':=h'') (g':=s.gens) (d':=s.drawn) (t':=tk+1) (ch:=[e,it]) (fun b hb=>?_) (fun b o _ _ hc q _=>keep b o (fun z=>hc (by simp[z])) (fun z=>hc (by simp[z])) q) (fun b o _ _ hc q _=>⟨o.slots,keep b o (fun z=>hc (by simp[z])) (fun z=>hc (by simp[z])) q⟩)
    (fun b o _ q n=>by rw[AI (neT b o q)];exact n) (fun b o hc q=>⟨o,keep b o (fun z=>hc (by simp[z])) (fun z=>hc (by simp[z])) q⟩) (fun b ys q=>by rw[AI (AM q hTn)];exact q) (fun b o u q=>by rw[AI (AM q hTn)];exact q)
    (fun b ps q=>⟨#[],by rw[AI (AM q hTn),q];simp⟩) (fun b _ o hc _ q=>keep b o (fun z=>hc (by simp[z])) (fun z=>hc (by simp[z])) q) (fun m hm=>?_) (fun b o q=>?_) I.bare
   .rcases aY.mp hb with rfl|hb
    .exact⟨hE0.2.2.2.1,hE0.2.1,hE0.2.2.2.2.1,hE0.2.2.2.2.2⟩
    .have e2:b=it:=by simpa using hb
     subst e2;exact⟨hI0.2.2.2.1,hI0.2.1,hI0.2.2.2.2.1,hI0.2.2.2.2.2⟩
   .obtain⟨o,es,ep,ho,r⟩:=hm;exact⟨o,es,ep,keep _ o (Ne.symm hE0.2.1) (Ne.symm hI0.2.1) ho,r⟩
   .by_cases hb:b=s.heap.objs.size
    .subst hb;rw[AH]at q;cases q;exact⟨Wn,[.int i tk,y],.cons ⟨tk,rfl⟩ (.cons ru .nil),_,hT'',rfl,_,rfl⟩
    .rw[AI hb]at q;refine(I.Ah b o q).Ip (fun c v hc r=>keep c v ?_ ?_ r) (fun c r=>by rw[AI (AM r hTn)];exact r) fun c ys r=>by rw[AI (AM r hTn)];exact r
     .rcases hc with rfl|hc
      .exact(JA _ _ q).1
      .exact(JA _ _ hc).1
     .rcases hc with rfl|hc
      .exact(JA _ _ q).2
      .exact(JA _ _ hc).2
  .obtain⟨⟨o,q,r⟩,_⟩:=hs';exact⟨o,(sb.2 it (Ne.symm hne)).trans q,r⟩
  .rcases aY.mp hb with rfl|hb
   .rw[AI (Ne.symm hTe)];exact hE0.1
   .have e2:b=it:=by simpa using hb
    subst e2;rw[AI (Ne.symm hTi)];exact hI0.1
 done:=by
  intro X hP hw hK hc i pins s σ H E I hf st hg;subst hP hw hK;obtain⟨xs,hq,hx⟩:=hg;obtain⟨its,rv,pL,hz⟩:=I.list hq;have p:=pL.isList;obtain⟨⟨old,he⟩,hit⟩:=st;have hai:a≠it:=fun z=>by
   obtain⟨o,e1,c1,_⟩:=p;obtain⟨o2,e2,c2,_⟩:=hit;rw[z,e2]at e1;cases e1;rw[c1]at c2;exact absurd c2 (by decide)
  have hl:its.length=i:=by rw[<-rv.length];exact hx
  subst hl;obtain⟨f0,f1,f2,f3,f4,f5⟩:=hf it (by simp);exact wpAny_pyNext_enum_endD (Draws.list (prog:=X.prog) (w:=X.w) (A:=X.A.in1) (I.ok.hd hc) it a hai its.toArray) he ⟨hit,p⟩ fun h' eb=>⟨rfl,I.turned (t':=s.toks) (fun b o hb q=>eb b o hb q) f0 f1 f3 f4 f5⟩
 self:=fun _ _ _ _ _ st h=>by
  obtain⟨⟨old,he⟩,_⟩:=st;exact wpAny_pyIter_enum he h
def f7(K:PySem.W.Frag)(g:TA):TI:=fun σ H R=>g σ H fun vs H1=>∃a,vs=[.ref a]/\(∃xs,AO K H1 a xs)/\R (V8 K a) H1
theorem M5{X:Cx}{elts:List Expr}{x1}{g:Pos}{a:Expr}{ta:TA}{p pos:Pos}(hg:Gl X "enumerate")(hm:X.mg "enumerate" = none)(ha:PA X [a] ta)(hs:starEach [a] X.env=[(false,eval a X.env)]:=by rfl) :
  PI X (.Tuple elts x1 g) (.Call (.Name "enumerate" p) [a] [] pos) (f7 X.K ta):=by
 intro pins s σ H R I h;refine Call_ (GI I hg hm boot_enumerate (PyProof.Rows.callWith_type1 (A4 (ha pos pins s σ H _ I h) fun us s1 ⟨vs,H1,U,r1,q1⟩=>?_) hs rfl));obtain⟨t,e,⟨xs,hq⟩,q⟩:=q1;subst e;cases r1 with
 |cons r rr=>
  cases rr;cases r;obtain⟨Y,rv,p',hz⟩:=U.list hq;refine call_enumerate_list (show s1.heap.IsList t Y.toArray from p'.isList) fun h' he hit hsz hk=>wpAny_pyIter_enum he ?_;have I2:Inv X pins σ H1 {s1 with heap:=h'}:=U.kept (t':=s1.toks) hk;have hn:s1.heap.objs.size+1≠s1.heap.objs.size:=by lia
  refine⟨s1.heap.objs.size+1,[s1.heap.objs.size+1,s1.heap.objs.size],_,_,H1,rfl,I2,Va t _ _ hn,⟨⟨_,he⟩,hit⟩,fun b hb=>?_,q⟩;have M:s1.heap.objs.size<=b:=by
   have Z:b=s1.heap.objs.size+1\/b=s1.heap.objs.size:=by simpa using hb
   rcases Z with z|z
   .rw[z];exact Nat.le_succ _
   .rw[z];exact aD _
  exact U.Sg M (U.Ah.fresh M)
theorem Pr{K:PySem.W.Frag}{a:Addr}{xs:List V}{g:TG}{tb:TS}{D:Ends}{σ:St}{H:Hp}(Pv:Nat->St->Hp->Prop)(h0:Pv 0 σ H)(hl:∀i σ H,i<=xs.length->Pv i σ H->AO K H a xs)
 (hs:∀i x σ H,xs[i]? = some x->Pv i σ H->∀p,H p=none->g (.ref p) σ (upd H p (.tup [.int (i:Nat),x])) fun I U=>tb {D with nx:=Pv (i+1),ct:=Pv (i+1),bk:=D.nx} I U)(hd:∀σ H,Pv xs.length σ H->D.nx σ H) :
  ∃W:Nat->Nat->St->Hp->Prop,(∃m,W 0 m σ H)/\∀i m σ H,W i m σ H ->
   ((V8 K a).stop i H/\D.nx σ H)\/((V8 K a).go i H/\∃N:St->Hp->Prop,(∀M H',N M H'->∃Y,Y<m/\W (i+1) Y M H')/\∀x H',(V8 K a).Ec i H x H'->g x σ H' fun I U=>tb {D with nx:=N,ct:=N,bk:=D.nx} I U):=by
 refine⟨fun i m σ H=>m=xs.length-i/\i<=xs.length/\Pv i σ H,⟨xs.length,by simp,Nat.zero_le _,h0⟩,?_⟩;rintro i m σ H ⟨rfl,hi,p⟩;have q:=hl i σ H hi p;by_cases R:i<xs.length
 .refine .inr ⟨⟨xs,xs[i],q,by simp[R]⟩,Pv (i+1),fun M H' p'=>⟨xs.length-(i+1),by lia,rfl,R,p'⟩,fun x H' y=>?_⟩;obtain⟨pp,Z,rfl,hn,rfl,y⟩:=y;exact hs i Z σ _ (y xs q) p pp hn
 .have e:i=xs.length:=by lia
  subst e;exact .inl ⟨⟨xs,q,rfl⟩,hd σ H p⟩
section
variable{κ:Type}[DecidableEq κ]
def CC(kvs:List (κ×V))(k:κ):Option V:=(kvs.find? fun kv=>decide (kv.1=k)).map (·.2)
def putK(kvs:List (κ×V))(k:κ)(v:V):List (κ×V) :=
 if(kvs.any fun kv=>decide (kv.1=k))=true then kvs.map (fun kv=>if kv.1=k then(kv.1,v) else kv) else kvs++[(k,v)]
theorem Fw{p:κ×V}{r:List (κ×V)}{k:κ}(e:p.1=k):CC (p::r) k=some p.2:=by simp[CC,List.find?_cons,e]
theorem F3{p:κ×V}{r:List (κ×V)}{k:κ}(e:¬p.1=k):CC (p::r) k=CC r k:=by simp[CC,List.find?_cons,e]
theorem HA(k:κ):∀kvs:List (κ×V),(kvs.any fun kv=>decide (kv.1=k))=(CC kvs k).isSome
 |[]=>rfl
 |p::r=>by
  rw[List.any_cons];by_cases e:p.1=k
  .simp only[Fw e,decide_eq_true e,Bool.true_or,Option.isSome_some]
  .rw[F3 e,decide_eq_false e,Bool.false_or];exact HA k r
theorem Jf(k j:κ)(y:V):∀kvs:List (κ×V),CC kvs k=none->CC (kvs++[(k,y)]) j=if j=k then some y else CC kvs j
 |[],_=>by
  by_cases e:k=j
  .rw[if_pos e.symm];exact Fw (p:=(k,y)) e
  .rw[if_neg (fun z=>e z.symm)];exact F3 (p:=(k,y)) e
 |p::r,hn=>by
  rw[List.cons_append];have g:¬p.1=k:=fun z=>by rw[Fw z]at hn;cases hn
  rw[F3 g]at hn;have I:=Jf k j y r hn;by_cases e:p.1=j
  .rw[Fw e,Fw e,if_neg (fun z=>g (e.trans z))]
  .rw[F3 e,F3 e,I]
theorem Jz(kvs:List (κ×V))(k:κ)(v:V):(putK kvs k v).length<=kvs.length+1:=by
 unfold putK;split
 .rw[List.length_map];lia
 .rw[List.length_append,List.length_cons,List.length_nil];lia
theorem Mt{kvs:List (κ×V)}{k:κ}(v:V)(h:CC kvs k=none):putK kvs k v=kvs++[(k,v)]:=by
 unfold putK;rw[HA,h];exact if_neg (by decide)
theorem Ie.Lb{o:Option V}{u:Option Value}(r:Ie o u):o.isSome=u.isSome:=by
 cases o with
 |none=>cases u with
  |none=>rfl
  |some _=>exact(show False from r).elim
 |some _=>cases u with
  |none=>exact(show False from r).elim
  |some _=>rfl
theorem KV.val{kvs:List (κ×V)}{vs:List (κ×Value)}(r:KV kvs vs)(k:κ):Ie (CC kvs k) (valueAt vs k):=by
 unfold KV at r
 induction r with
 |nil=>exact True.intro
 | @cons p q ps g h t R=>
  obtain⟨M,U⟩:=h;by_cases e:p.1=k
  .have I:q.1=k:=M.symm.trans e;have b:valueAt (q::g) k=some q.2:=by simp[valueAt,List.find?_cons,I]
   rw[Fw e,b];exact U
  .have I:¬q.1=k:=fun z=>e (M.trans z);have b:valueAt (q::g) k=valueAt g k:=by simp[valueAt,List.find?_cons,I]
   rw[F3 e,b];exact R
theorem KV.any{kvs:List (κ×V)}{vs:List (κ×Value)}(r:KV kvs vs)(k:κ):(kvs.any fun kv=>decide (kv.1=k))=vs.any fun kv=>decide (kv.1=k):=by
 unfold KV at r
 induction r with
 |nil=>rfl
 |cons h t g=>rw[List.any_cons,List.any_cons,g,h.1]
theorem KV.Yc{kvs:List (κ×V)}{vs:List (κ×Value)}(r:KV kvs vs)(k:κ){y:V}{u:Value}(I:RelV y u) :
  KV (kvs.map fun kv=>if kv.1=k then(kv.1,y) else kv) (vs.map fun kv=>if kv.1=k then(kv.1,u) else kv):=by
 unfold KV at r ⊢
 induction r with
 |nil=>exact .nil
 | @cons p q ps U h t M=>
  rw[List.map_cons,List.map_cons];refine .cons ?_ M;obtain⟨g,R⟩:=h;by_cases e:p.1=k
  .rw[if_pos e,if_pos (g.symm.trans e)];exact⟨g,I⟩
  .rw[if_neg e,if_neg (fun z=>e (g.trans z))];exact⟨g,R⟩
theorem KV.put{kvs:List (κ×V)}{vs:List (κ×Value)}(r:KV kvs vs)(k:κ){y:V}{u:Value}(g:RelV y u):KV (putK kvs k y) (stored vs k u):=by
 unfold putK stored;rw[r.any k];by_cases e:(vs.any fun kv=>decide (kv.1=k))=true
 .rw[if_pos e,if_pos e];exact r.Yc k g
 .rw[if_neg e,if_neg e];exact Paired.snoc r ⟨rfl,g⟩
theorem KV.length{kvs:List (κ×V)}{vs:List (κ×Value)}(r:KV kvs vs):kvs.length=vs.length:=Paired.length r
end
theorem QV{P:Program}{w:World}{k:Key}{u:Value}(r:RelV (kV k) u):(DB P w).is k u=true:=by
 cases k with
 |inl i=>obtain⟨t,e⟩:=(show ∃t,u=Value.int i t from r);subst e;exact TX P w i t
 |inr x=>obtain⟨t,e⟩:=(show ∃t,u=Value.str x t from r);subst e;exact TR P w x t
theorem Pf{P:Program}{w:World}:∀ {ks:List Key} {us:List Value},Vals (ks.map kV) us->ItemsAre (DB P w) ks us
 |[],_,r=>by rw[List.map_nil]at r;cases r;exact .nil
 |k::ks,_,r=>by
  rw[List.map_cons]at r;cases r with
  |cons h t=>exact .cons (QV h) (Pf t)
abbrev KT(H:Hp):List (List Key×V)->List (List Key×Addr×Value)->Prop:=Paired fun p q=>p.1=q.1/\H q.2.1=some (.tup (p.1.map kV))/\RelV p.2 q.2.2
theorem KT.val{H:Hp}{kvs:List (List Key×V)}{xs:List (List Key×Addr×Value)}(r:KT H kvs xs)(k:List Key):Ie (CC kvs k) ((atKey xs k).map (·.2)):=by
 induction r with
 |nil=>exact True.intro
 | @cons p q ps g h t R=>
  obtain⟨M,_,U⟩:=h;by_cases e:p.1=k
  .have I:q.1=k:=M.symm.trans e;have b:atKey (q::g) k=some q.2:=by simp[atKey,List.find?_cons,I]
   rw[Fw e,b];exact U
  .have I:¬q.1=k:=fun z=>e (M.trans z);have b:atKey (q::g) k=atKey g k:=by simp[atKey,List.find?_cons,I]
   rw[F3 e,b];exact R
theorem KT.Yc{H:Hp}{kvs:List (List Key×V)}{xs:List (List Key×Addr×Value)}(r:KT H kvs xs)(k:List Key){y:V}{u:Value}(M:RelV y u) :
  KT H (kvs.map fun kv=>if kv.1=k then(kv.1,y) else kv) (xs.map (putAt k u)):=by
 induction r with
 |nil=>exact .nil
 | @cons p q ps Y h t R=>
  rw[List.map_cons,List.map_cons];refine .cons ?_ R;obtain⟨g,I,U⟩:=h;unfold putAt;by_cases e:p.1=k
  .rw[if_pos e,if_pos (g.symm.trans e)];exact⟨g,I,M⟩
  .rw[if_neg e,if_neg (fun z=>e (g.trans z))];exact⟨g,I,U⟩
theorem KT.put{H:Hp}{kvs:List (List Key×V)}{xs:List (List Key×Addr×Value)}(r:KT H kvs xs)(k:List Key){b:Addr}{y:V}{u:Value}(I:H b=some (.tup (k.map kV)))(g:RelV y u) :
  KT H (putK kvs k y) (storedH xs k b u):=by
 have e:(kvs.any fun kv=>decide (kv.1=k))=(atKey xs k).isSome:=by
  rw[HA,(r.val k).Lb,Option.isSome_map]
 unfold putK storedH;rw[e];by_cases q:(atKey xs k).isSome=true
 .rw[if_pos q,if_pos q];exact r.Yc k g
 .rw[if_neg q,if_neg q];exact Paired.snoc r ⟨rfl,I,g⟩
theorem KT.keeps{H H':Hp}{kvs:List (List Key×V)}{xs:List (List Key×Addr×Value)}(r:KT H kvs xs)(g:∀b ys,H b=some (.tup ys)->H' b=some (.tup ys)):KT H' kvs xs :=
 Paired.Xd r fun _ _ z=>⟨z.1,g _ _ z.2.1,z.2.2⟩
section
variable{P:Program}{w:World}{H:Hp}{h:Heap}{a:Addr}
theorem Y7{u:HO}(ok:Cq P w H h)(e:Rd H a u):Bq P w H h a u:=e.ok ok
theorem Qa{kvs:List (Key×V)}(ok:Cq P w H h)(e:Rd H a (.dK kvs)):kvs.length<=sizeLine/\(a==sysModules)=false/\∃vs,KV kvs vs/\h.DictOf (DB P w) a vs :=
 show Bq P w H h a (.dK kvs) from Y7 ok e
theorem hJ{kvs:List (Key×V)}(ok:Cq P w H h)(e:H a=some (.dK kvs)):kvs.length<=sizeLine/\(a==sysModules)=false/\∃vs,KV kvs vs/\h.DictOf (DB P w) a vs:=Qa ok (.inl e)
theorem NI{ks:List Key}(ok:Cq P w H h)(e:H a=some (.tup (ks.map kV))):(tupleKind (DB P w)).is h ks a:=by
 obtain⟨_,g,r,o,R,M,n,I⟩:=(show Bq P w H h a (.tup (ks.map kV)) from ok a _ e);exact⟨o,g.toArray,n,R,M,I,by simpa using Pf r⟩
theorem QW{kvs:List (List Key×V)}(ok:Cq P w H h)(e:Rd H a (.dT kvs)):kvs.length<=sizeLine/\(a==sysModules)=false /\
  ∃xs,KT H kvs xs/\h.DictOfH (tupleKind (DB P w)) a xs:=by
 obtain⟨z,y,xs,r,o,es,ep,h1,Z,Y,U,R⟩:=(show Bq P w H h a (.dT kvs) from Y7 ok e);refine⟨z,y,xs,r,o,es,ep,h1,Z,Y,U,fun x g=>?_,R⟩;have all:∀ {l:List (List Key×V)} {m:List (List Key×Addr×Value)},KT H l m->∀x∈m,(tupleKind (DB P w)).is h x.1 x.2.1:=by
  intro l m q
  induction q with
  |nil=>intro x g;exact nomatch g
  | @cons p q ps qs I t M=>
   intro x g;rcases aY.mp g with e|g
   .subst e;exact NI ok (by rw[<-I.1];exact I.2.1)
   .exact M x g
 exact all r x g
theorem Vk{kvs:List (List Key×V)}(ok:Cq P w H h)(e:H a=some (.dT kvs)):kvs.length<=sizeLine/\(a==sysModules)=false /\
  ∃xs,KT H kvs xs/\h.DictOfH (tupleKind (DB P w)) a xs:=QW ok (.inl e)
end
def GQ(H:Hp)(a:Addr)(y:V)(r:Option V):Prop :=
 (∃kvs k,Rd H a (.dK kvs)/\y=kV k/\r=CC kvs k)\/∃kvs k b,Rd H a (.dT kvs)/\y=.ref b/\H b=some (.tup (k.map kV))/\r=CC kvs k
def Mf(H:Hp)(a:Addr)(y v:V)(H':Hp):Prop :=
 (∃kvs k,H a=some (.dK kvs)/\y=kV k/\kvs.length<sizeLine/\H'=upd H a (.dK (putK kvs k v))) \/
 ∃kvs k b,H a=some (.dT kvs)/\y=.ref b/\H b=some (.tup (k.map kV))/\kvs.length<sizeLine/\H'=upd H a (.dT (putK kvs k v))
theorem GQ.t{H:Hp}{a b:Addr}{kvs:List (List Key×V)}{k:List Key}(e:H a=some (.dT kvs))(g:H b=some (.tup (k.map kV))):GQ H a (.ref b) (CC kvs k):=.inr ⟨kvs,k,b,.inl e,rfl,g,rfl⟩
theorem Mf.t{H:Hp}{a b:Addr}{kvs:List (List Key×V)}{k:List Key}{v:V}(e:H a=some (.dT kvs))(I:H b=some (.tup (k.map kV)))(g:kvs.length<sizeLine) :
  Mf H a (.ref b) v (upd H a (.dT (putK kvs k v))):=.inr ⟨kvs,k,b,e,rfl,I,g,rfl⟩
section
variable{X:Cx}{pins:List (Addr×Obj)}{σ:St}{H:Hp}{s:Shared}{a:Addr}{y v:V}{u r:Value}{o:Option V}{A:Around}{E:Value->Shared->Prop}
theorem Inv.big(I:Inv X pins σ H s):sysModules<s.heap.objs.size:=by
 have h:mainGlobals<s.heap.objs.size:=(I.mod.glob.keeps I.bk).lt;exact Nat.lt_trans (by decide) h
theorem XG{Q:Value->Shared->Prop}(hu:A.units+1<cLine)(I:Inv X pins σ H s)(g:GQ H a y (some v))(ry:RelV y u)(h:∀R s',Inv X pins σ H s'->RelV v R->Q R s') :
  wpAny (model X.prog X.w) A (getItem (.ref a) u) Q E s:=by
 rcases g with ⟨kvs,k,e,Z,l⟩|⟨kvs,k,b,e,Z,eb,l⟩
 .subst Z;obtain⟨z,hd,vs,rel,dd⟩:=Qa I.Ah e;obtain⟨R,U,M⟩:=Ie.some_of (v:=v) (o:=valueAt vs k) (by rw[l];exact rel.val k);exact wpAny_getItem_of (QV ry) dd.mapOf U (h R _ (I.tok _) M)
 .subst Z;cases (show u=Value.ref b from ry);obtain⟨z,hd,xs,rel,dd⟩:=QW I.Ah e;obtain⟨R,U,M⟩:=Ie.some_of (v:=v) (o:=(atKey xs k).map (·.2)) (by rw[l];exact rel.val k);obtain⟨p,hp,Y⟩:=aH.mp U;refine wpAny_getItem_heap (tupleKind_room_in1 hu) (NI I.Ah eb) dd hp ?_;rw[Y];exact h R _ (I.tok _) M
theorem Zm{Q:Value->Shared->Prop}(U:A.units+1<cLine)(I:Inv X pins σ H s)(g:GQ H a y o)(R:RelV y u)(h:∀s',Inv X pins σ H s'->Q (.bool (!o.isSome)) s') :
  wpAny (model X.prog X.w) A (compareOp .NotIn u (.ref a)) Q E s:=by
 rcases g with ⟨kvs,k,e,M,l⟩|⟨kvs,k,b,e,M,Y,l⟩
 .subst M;obtain⟨z,hd,vs,rel,dd⟩:=Qa I.Ah e;refine wpAny_notIn_of (QV R) hd dd.mapOf ?_;rw[<-(rel.val k).Lb,<-l];exact h _ (I.tok _)
 .subst M;cases (show u=Value.ref b from R);obtain⟨z,hd,xs,rel,dd⟩:=QW I.Ah e;refine wpAny_notIn_heap (tupleKind_room_in1 U) (NI I.Ah Y) hd dd ?_;have q:=(rel.val k).Lb;rw[Option.isSome_map]at q;rw[<-q,<-l];exact h _ (I.tok _)
theorem UU{h':Heap}{t':Nat}{g:HO}(I:Inv X pins σ H s)(M:Vq (H a))(R:Heap.SameBut a s.heap h')(U:∃q,h'.get? a=some q)(new:Bq X.prog X.w (upd H a g) h' a g) :
  Inv X pins σ (upd H a g) {s with heap:=h',toks:=t'} :=
 I.write (x:=a) (e:=a) M (.inl rfl) (fun b q Y z=>(R.2 b Y).trans z) U new
theorem di{P:Program}{w:World}{H':Hp}{h':Heap}{kvs:List (Key×V)}{vs:List (Key×Value)}(z:kvs.length<=sizeLine)(hd:(a==sysModules)=false)(rel:KV kvs vs)(dd:h'.DictOf (DB P w) a vs) :
  Bq P w H' h' a (.dK kvs):=⟨z,hd,vs,rel,dd⟩
theorem Xb{H':Hp}{Q:Unit->Shared->Prop}(hu:A.units+1<cLine)(I:Inv X pins σ H s)(g:Mf H a y v H')(ry:RelV y u)(rv:RelV v r)(h:∀s',Inv X pins σ H' s'->Q () s') :
  wpAny (model X.prog X.w) A (setItem (.ref a) u r) Q E s:=by
 rcases g with ⟨kvs,k,e,ey,l,eH⟩|⟨kvs,k,b,e,ey,eb,l,eH⟩
 .subst ey eH;obtain⟨z,hd,vs,rel,dd⟩:=hJ I.Ah e;have U:vs.length<=sizeLine:=by rw[<-rel.length];exact z
  have hl:(putK kvs k v).length<=sizeLine:=by have:=Jz kvs k v;lia
  refine wpAny_setItem_pairs (hsz:=U) (QV ry) dd fun h' M Z=>h _ ?_;have he:∃q,h'.get? a=some q:=let⟨q,_,_,R,_⟩:=M;⟨q,R⟩;exact UU I (by rw[e];exact True.intro) Z he (di hl hd (rel.put k rv) M)
 .subst ey eH;cases (show u=Value.ref b from ry);obtain⟨z,hd,xs,rel,dd⟩:=Vk I.Ah e;have U:xs.length<=sizeLine:=by rw[<-Paired.length rel];exact z
  have hl:(putK kvs k v).length<=sizeLine:=by have:=Jz kvs k v;lia
  refine wpAny_setItem_heap (hsz:=U) (tupleKind_room_in1 hu) (NI I.Ah eb) dd fun h' M Z=>h _ ?_;obtain⟨q,es,ep,R,h2,h3,h4,_,h5⟩:=M;refine UU I (by rw[e];exact True.intro) Z ⟨q,R⟩ ⟨hl,hd,_,(rel.put k eb rv).keeps fun c ys ec=>?_,q,es,ep,R,h2,h3,h4,h5⟩;rw[AI (gT ec e (fun z=>nomatch z))];exact ec
end
def fQ(i:Expr):Prop:=∀g I,subscripted i false g I=operate [g,I] (getItem g I)
theorem b5{prog:Program}{w:World}{A:Around}{E:Value->Shared->Prop}{s:Shared}{env:Env}{value slice:Expr}{pos:Pos}{T id:String}{Q:Value->Shared->Prop}
 (hl:typeLookup (.type T) "__getitem__" = pure (some (.builtin id)))(hs:fQ slice)
 (h:wpAny (model prog w) A (eval value env) (fun o R=>wpAny (model prog w) A (eval slice env) (fun i g=>g.TypeIs o T/\wpAny (model prog w) A (getItem o i) Q E g) E R) E s) :
  wpAny (model prog w) A (eval (.Subscript value slice pos) env) Q E s:=by
 refine Subscript_ (ak h (fun o R Y=>ak Y (fun i g I=>?_) fun _ _ x=>x) fun _ _ x=>x);obtain⟨Z,I⟩:=I;unfold subscriptTail;refine aA ?_;rw[getitemInPython_of_ne Z.not_modules];refine aA (wpAny_specialOf Z hl ?_);have fin:wpAny (model prog w) A (subscripted slice false o i) (fun r M=>wpAny (model prog w) A (letTemporaryGo value o r>>=fun _=>pure r) Q E M) E g:=by
  rw[hs o i];exact wpAny_operating (ak I (fun r M U=>aA (wpAny_letTemporaryGo (aC U))) fun _ _ x=>x)
 first
  |exact aC (aA fin)
  |exact aA (aC (aA fin))
  |exact aA fin
theorem S8{X:Cx}{pins:List (Addr×Obj)}{σ:St}{H:Hp}{s:Shared}{a:Addr}{y:V}{o:Option V}(I:Inv X pins σ H s)(g:GQ H a y o):s.TypeIs (.ref a) "dict" := by
 rcases g with ⟨kvs,k,e,_,_⟩|⟨kvs,k,b,e,_,_,_⟩
 .obtain⟨_,_,vs,_,dd⟩:=Qa I.Ah e;exact dd.typeIs
 .obtain⟨_,_,xs,_,dd⟩:=QW I.Ah e;exact dd.typeIs
def gu(I ty:TE):TE:=fun σ H Q=>I σ H fun x H1=>ty σ H1 fun y g=>∃a v,x=.ref a/\GQ g a y (some v)/\Q v g
def Zx(ty I:TE):TE:=fun σ H Q=>ty σ H fun y H1=>I σ H1 fun x g=>∃a o,x=.ref a/\GQ g a y o/\Q (.bl (!o.isSome)) g
def gV(M ty I:TE):TS:=fun D σ H=>I σ H fun v H1=>M σ H1 fun x U=>ty σ U fun y R=>∃a g,x=.ref a/\Mf R a y v g/\D.nx σ g
section
variable{X:Cx}{o i value:Expr}{pos pos':Pos}{td ty tv:TE}
theorem Og(hu:X.A.units+1<cLine)(ho:PE X o td)(hi:PE X i ty)(hs:fQ i):PE X (.Subscript o i pos) (gu td ty):=by
 intro pins s σ H Q I h;refine b5 PySem.F.slot_dict_getitem.lookup hs (A4 (ho pins s σ H _ I h) fun u s1 ⟨x,H1,I1,Y,q1⟩=>A4 (hi pins s1 σ H1 _ I1 q1) fun iv s2 ⟨y,H2,R,U,a,v,ex,g,Z⟩=>?_);subst ex;obtain rfl:u=Value.ref a:=Y;exact⟨S8 R g,XG hu R g U fun w' s3 I3 M=>⟨v,H2,I3,M,Z⟩⟩
theorem V0(hu:X.A.units+1<cLine)(hi:PE X i ty)(ho:PE X o td):PC X .NotIn i o (Zx ty td):=by
 intro pins s σ H Q I h;refine A4 (hi pins s σ H _ I h) fun iv s1 ⟨y,H1,I1,M,Y⟩=>A4 (ho pins s1 σ H1 _ I1 Y) fun u s2 ⟨x,H2,I2,R,a,Z,ex,g,U⟩=>?_;subst ex;obtain rfl:u=Value.ref a:=R;exact Zm hu I2 g M fun s3 I3=>⟨.bl (!Z.isSome),H2,I3,rfl,U⟩
theorem Oo(hu:X.A.units+1<cLine)(ho:PE X o td)(hi:PE X i ty)(hv:PE X value tv)(hs:swapsWith value (some (.Subscript o i pos')) pos.line X.env=pure false) :
  PS X (.Assign [.Subscript o i pos'] value pos) (gV td ty tv):=by
 intro pins s σ H D I h;refine wpAny_Assign_Subscript (A4 (hv pins s σ H _ I h) fun r s1 ⟨v,H1,I1,U,q1⟩=>A4 (ho pins s1 σ H1 _ I1 q1) fun u s2 ⟨x,H2,I2,R,Z⟩=>A4 (hi pins s2 σ H2 _ I2 Z) fun iv s3 ⟨y,H3,I3,M,a,H4,ex,g,Y⟩=>?_) hs;subst ex;obtain rfl:u=Value.ref a:=R;exact Xb hu I3 g M U fun s4 I4=>⟨σ,H4,I4,Y⟩
end
theorem Yr{P:Program}{w:World}{H:Hp}(h:Heap)(g:sysModules<h.objs.size):Bq P w H (h.push { cls:=.type "dict",data:=.dict #[]}) h.objs.size (.dT []) :=
 ⟨ah _,beq_eq_false_iff_ne.mpr (Ne.symm (aT g)),[],.nil,_,#[],0,Heap.get?_push_size _ rfl,⟨rfl,rfl,rfl⟩,rfl,rfl,List.nodup_nil⟩
def gI:TE:=fun _ H Q=>∀p,H p=none->Q (.ref p) (upd H p (.dT []))
section
variable{X:Cx}{pos:Pos}
theorem Mz:PE X (.Dict [] [] pos) gI:=fun pins s σ H Q I h=>
 wpAny_Dict_empty ⟨.ref s.heap.objs.size,_,I.laid (a:=s.heap.objs.size) (o:=.dT []) (t':=s.toks) (fun _ _ q=>aE _ q) (aD _) (Yr s.heap I.big),rfl,h _ (I.Ah.fresh (aD _))⟩
end
end L2
namespace L2
open PySem PySem.Spec PyProof.Rows
section
variable{κ:Type}[DecidableEq κ]
theorem Yg{kvs:List (κ×V)}{k:κ}(h:CC kvs k=none):¬k∈kvs.map (·.1):=by
 intro m;obtain⟨p,g,e⟩:=aJ.mp m;have q:(kvs.any fun kv=>decide (kv.1=k))=true:=List.any_eq_true.mpr ⟨p,g,decide_eq_true e⟩;rw[HA,h]at q;exact absurd q (by simp)
theorem UE:∀ {l:List κ} {k:κ},l.Nodup->¬k∈l->(l++[k]).Nodup
 |[],k,_,_=>by simp
 |a::r,k,h,g=>by
  obtain⟨M,I⟩:=bx.mp h;show(a::(r++[k])).Nodup;refine bx.mpr ⟨fun m=>?_,UE I fun m=>g (aY.mpr (Or.inr m))⟩;rcases aS.mp m with q|q
  .exact M q
  .exact g (aY.mpr (Or.inl (List.mem_singleton.mp q).symm))
theorem Zf{kvs:List (κ×V)}{k:κ}(v:V)(hn:(kvs.map (·.1)).Nodup)(h:CC kvs k=none):((putK kvs k v).map (·.1)).Nodup:=by
 rw[Mt v h,List.map_append];exact UE hn (Yg h)
end
end L2
namespace DI
open PySem PySem.W PyProof.Rows
def RD(h:Heap)(d:Addr)(es:Array DictEntry)(ep:Nat):Prop:=∃o,h.get? d=some o/\o.ExactDict/\o.data=.dict es ep
def St(h:Heap)(it d S:Addr)(i n ep:Nat):Prop:=(i=0/\∃ok g,IsItemIter h it d 0 n ep ok g)\/∃ok g a f I,KdxIt h it d i n ep ok g a f/\h.get? a=some I/\a≠it/\a≠S
section
variable{prog:Program}{w:World}{A:Around}{E:Value->Shared->Prop}{s:Shared}{it d:Addr}{i ep:Nat}{es:Array DictEntry}{ok ov:Value}
theorem U7{Q:Option Value->Shared->Prop}(hit:IsItemIter s.heap it d i es.size ep ok ov)(hm:RD s.heap d es ep)(hi:i<es.size)
 (q:∀h',IsItemIterOut h' it d (i+1) es.size ep es[i].key es[i].val s.heap.objs.size->h'.get? s.heap.objs.size=some { cls:=.type "tuple",data:=.seq #[es[i].key,es[i].val]}->h'.objs.size=s.heap.objs.size+1 ->
   (∀b o,b≠it->s.heap.get? b=some o->h'.get? b=some o)->Q (some (.ref s.heap.objs.size)) {s with heap:=h'}):wpAny (model prog w) A (pyNext (.ref it)) Q E s:=by
 obtain⟨I,g,dr,Z,os⟩:=s;obtain⟨od,e1,e2,e3⟩:=hm;have U:Shared.TypeIs ⟨I,g,dr,Z,os⟩ (.ref it) "dict_itemiterator" := ⟨_,hit,rfl⟩;have own:Builtin.Dict_items.ownsTuple "dict_itemiterator" = true:=by decide
 unfold pyNext;refine aA (wpAny_attempt (ar (name:=Str.ofString "__next__") U bI
  (az bI U F.entry_dict_itemiterator_next (aA (aC (aA (aA ?_)))) (F.args_dict_itemiterator_next_1 _))))
 first|refine aA (bF U (aC (aA (bq hit rfl ?_))))|refine aA (bR U (aC (aA (bq hit rfl ?_))))
 simp only[own,if_true];show wpAny _ _ (if(Value.ref d==Value.none)=true then _ else _) _ _ _;rw[if_neg (show ¬((Value.ref d==Value.none)=true) from aO)];refine aA (aC (aA (bo e1 e3 ?_)));rw[if_neg (by simp)];refine aA (aC (aA (wpAny_dictEpoch e1 e3 ?_)));rw[if_neg (by simp)];refine aC ?_;simp only[show ¬((i:Int)<0) from by lia,if_false,Int.toNat_natCast,Array.getElem?_eq_getElem hi];refine aA ?_
 first|refine aA (bF U (aC (aA (bH U ?_))))|refine aA (bR U (aC (aA (bH U ?_))))
 show wpAny _ _ (setField (.ref it) 3 (rawInt ((i:Int)+1))>>=_) _ _ ⟨I,g,dr,Z,os⟩;refine aA (ao hit (by simp) fun R z1 m1=>?_);have m1:Heap.SameBut it I R:=m1;have z1:IsItemIter R it d (i+1) es.size ep ok ov:=by
  have e:((i+1:Nat):Int)=(i:Int)+1:=by lia
  unfold IsItemIter;rw[e]
  simpa[rawInt]using z1
 have hT1:Shared.TypeIs ⟨R,g,dr,Z,os⟩ (.ref it) "dict_itemiterator" := ⟨_,z1,rfl⟩;refine aA (bM (aA (bH hT1 (aA (bH hT1 ?_)))));show wpAny _ _ (Builtin.Dict_items.pairFromOwner (.ref it) 6 es[i].key es[i].val) _ _ ⟨R,g,dr,Z,os⟩;unfold Builtin.Dict_items.pairFromOwner;refine aA (wpAny_newTuple ?_);have Y:IsItemIter (R.push { cls:=.type "tuple",data:=.seq #[es[i].key,es[i].val]}) it d (i+1) es.size ep ok ov:=aE _ z1;have a2:(R.push { cls:=.type "tuple",data:=.seq #[es[i].key,es[i].val]}).get? I.objs.size=some { cls:=.type "tuple",data:=.seq #[es[i].key,es[i].val]}:=by rw[<-m1.1];exact aX _ rfl
 have s2:(R.push { cls:=.type "tuple",data:=.seq #[es[i].key,es[i].val]}).objs.size=I.objs.size+1:=by rw[Heap.size_push,m1.1]
 have k2:∀b o,b≠it->I.get? b=some o->(R.push { cls:=.type "tuple",data:=.seq #[es[i].key,es[i].val]}).get? b=some o:=fun b o M e=>aE _ ((m1.2 b M).trans e);generalize R.push { cls:=.type "tuple",data:=.seq #[es[i].key,es[i].val]}=g2 at Y a2 s2 k2;have il:it<I.objs.size:=aG hit;show wpAny _ _ (Builtin.Dict_items.ownedTupleIsFree (.ref it)>>=_) _ _ ⟨g2,g,dr,Z,os⟩;rw[m1.1];unfold Builtin.Dict_items.ownedTupleIsFree;refine aA (aA (aq Y rfl (x:=.none) rfl (aC ?_)));simp only[if_true];refine aA (aq Y rfl (x:=ok) rfl (aA (aq Y rfl (x:=ov) rfl (aA (ao Y (by simp) fun g3 z3 m3=>?_)))));refine aA (ao (show IsItemIter g3 it d (i+1) es.size ep es[i].key ov from z3) (by simp) fun g4 z4 m4=>?_);refine aA (ao (show IsItemIter g4 it d (i+1) es.size ep es[i].key es[i].val from z4) (by simp) fun g5 z5 m5=>?_);refine aA (ao (show IsItemIterOut g5 it d (i+1) es.size ep es[i].key es[i].val I.objs.size from z5) (by simp) fun g6 z6 m6=>?_);have up:∀b o,b≠it->g2.get? b=some o->g6.get? b=some o:=fun b o M e=>(m6.2 b M).trans ((m5.2 b M).trans ((m4.2 b M).trans ((m3.2 b M).trans e)));exact aA (wpAny_letGo (aC (aC ⟨_,rfl,wpAny_pure (q g6 z6 (up _ _ (bE il) a2) (by show g6.objs.size=I.objs.size+1;rw[m6.1,m5.1,m4.1,m3.1,s2]) fun b o M e=>up b o M (k2 b o M e))⟩)))
theorem Vm{a:Addr}{f:Bool}{oa:Obj}{Q:Option Value->Shared->Prop}(hit:KdxIt s.heap it d i es.size ep ok ov a f)(ha:s.heap.get? a=some oa)(hai:a≠it)(hm:RD s.heap d es ep)(hi:i<es.size)
 (q:∀h',KdxIt h' it d (i+1) es.size ep ok ov a true->h'.get? s.heap.objs.size=some { cls:=.type "tuple",data:=.seq #[es[i].key,es[i].val]}->h'.objs.size=s.heap.objs.size+1 ->
   (∀b o,b≠it->s.heap.get? b=some o->h'.get? b=some o)->Q (some (.ref s.heap.objs.size)) {s with heap:=h'}):wpAny (model prog w) A (pyNext (.ref it)) Q E s:=by
 obtain⟨M,g,dr,Y,os⟩:=s;obtain⟨od,e1,e2,e3⟩:=hm;have R:Shared.TypeIs ⟨M,g,dr,Y,os⟩ (.ref it) "dict_itemiterator" := ⟨_,hit,rfl⟩;have own:Builtin.Dict_items.ownsTuple "dict_itemiterator" = true:=by decide
 unfold pyNext;refine aA (wpAny_attempt (ar (name:=Str.ofString "__next__") R bI
  (az bI R F.entry_dict_itemiterator_next (aA (aC (aA (aA ?_)))) (F.args_dict_itemiterator_next_1 _))))
 first|refine aA (bF R (aC (aA (bq hit rfl ?_))))|refine aA (bR R (aC (aA (bq hit rfl ?_))))
 simp only[own,if_true];show wpAny _ _ (if(Value.ref d==Value.none)=true then _ else _) _ _ _;rw[if_neg (show ¬((Value.ref d==Value.none)=true) from aO)];refine aA (aC (aA (bo e1 e3 ?_)));rw[if_neg (by simp)];refine aA (aC (aA (wpAny_dictEpoch e1 e3 ?_)));rw[if_neg (by simp)];refine aC ?_;simp only[show ¬((i:Int)<0) from by lia,if_false,Int.toNat_natCast,Array.getElem?_eq_getElem hi];refine aA ?_
 first|refine aA (bF R (aC (aA (bH R ?_))))|refine aA (bR R (aC (aA (bH R ?_))))
 show wpAny _ _ (setField (.ref it) 3 (rawInt ((i:Int)+1))>>=_) _ _ ⟨M,g,dr,Y,os⟩;refine aA (ao hit (by simp) fun I z1 m1=>?_);have m1:Heap.SameBut it M I:=m1;have z1:KdxIt I it d (i+1) es.size ep ok ov a f:=by
  have e:((i+1:Nat):Int)=(i:Int)+1:=by lia
  unfold KdxIt;rw[e]
  simpa[rawInt]using z1
 have Z:Shared.TypeIs ⟨I,g,dr,Y,os⟩ (.ref it) "dict_itemiterator" := ⟨_,z1,rfl⟩;refine aA (bM (aA (bH Z (aA (bH Z ?_)))));show wpAny _ _ (Builtin.Dict_items.pairFromOwner (.ref it) 6 es[i].key es[i].val) _ _ ⟨I,g,dr,Y,os⟩;unfold Builtin.Dict_items.pairFromOwner;refine aA (wpAny_newTuple ?_);have U:KdxIt (I.push { cls:=.type "tuple",data:=.seq #[es[i].key,es[i].val]}) it d (i+1) es.size ep ok ov a f:=aE _ z1;have a2:(I.push { cls:=.type "tuple",data:=.seq #[es[i].key,es[i].val]}).get? M.objs.size=some { cls:=.type "tuple",data:=.seq #[es[i].key,es[i].val]}:=by rw[<-m1.1];exact aX _ rfl
 have s2:(I.push { cls:=.type "tuple",data:=.seq #[es[i].key,es[i].val]}).objs.size=M.objs.size+1:=by rw[Heap.size_push,m1.1]
 have k2:∀b o,b≠it->M.get? b=some o->(I.push { cls:=.type "tuple",data:=.seq #[es[i].key,es[i].val]}).get? b=some o:=fun b o hb e=>aE _ ((m1.2 b hb).trans e);generalize I.push { cls:=.type "tuple",data:=.seq #[es[i].key,es[i].val]}=g2 at U a2 s2 k2;have il:it<M.objs.size:=aG hit;show wpAny _ _ (Builtin.Dict_items.ownedTupleIsFree (.ref it)>>=_) _ _ ⟨g2,g,dr,Y,os⟩;rw[m1.1];unfold Builtin.Dict_items.ownedTupleIsFree;refine aA (aA (aq U rfl (x:=rawInt a) rfl ?_));show wpAny _ _ (loadIfAlive ((a:Int).toNat)>>=_) _ _ _;rw[Int.toNat_natCast];refine aA (kdx_alive (k2 a oa hai ha) ?_);simp only[Option.isNone_some,Bool.false_eq_true,if_false];refine aA (aq U rfl (x:=.bool f) rfl ?_);cases f with
 |true=>
  rw[if_neg (show ¬((Value.bool true != Value.bool true)=true) from aO)];refine aC ?_;simp only[Bool.false_eq_true,if_false];exact aC (aC ⟨_,rfl,wpAny_pure (q g2 U a2 s2 k2)⟩)
 |false=>
  rw[if_pos (show(Value.bool false != Value.bool true)=true from rfl)];refine aA (ao U (by simp) fun g3 z3 m3=>aC ?_);simp only[Bool.false_eq_true,if_false];exact aC (aC ⟨_,rfl,wpAny_pure (q g3 z3 ((m3.2 _ (bE il)).trans a2) (by show g3.objs.size=M.objs.size+1;rw[m3.1,s2]) fun b o hb e=>(m3.2 b hb).trans (k2 b o hb e))⟩)
theorem next_end{x0 R:Value}{Q:Option Value->Shared->Prop}(U:A.handled=none)(hit:s.heap.get? it=some { cls:=.type "dict_itemiterator",dict:=none,data:=.fields #[x0,R,.ref d,.int i 0,.int es.size 0,.int ep 0,ok,ov],slots:=#[]})(hm:RD s.heap d es ep)(hi:es.size<=i)
 (q:∀h',Heap.ExtBut it s.heap h'->Q none {s with heap:=h'}):wpAny (model prog w) A (pyNext (.ref it)) Q E s:=by
 obtain⟨od,M,Y,I⟩:=hm;have g:s.TypeIs (.ref it) "dict_itemiterator" := ⟨_,hit,rfl⟩;have own:Builtin.Dict_items.ownsTuple "dict_itemiterator" = true:=by decide
 unfold pyNext;refine aA (wpAny_attempt (ar (name:=Str.ofString "__next__") g bI
  (az bI g F.entry_dict_itemiterator_next (aA (aC (aA (aA ?_)))) (F.args_dict_itemiterator_next_1 _))))
 first|refine aA (bF g (aC (aA (bq hit rfl ?_))))|refine aA (bR g (aC (aA (bq hit rfl ?_))))
 simp only[own,if_true];show wpAny _ _ (if(Value.ref d==Value.none)=true then _ else _) _ _ _;rw[if_neg (show ¬((Value.ref d==Value.none)=true) from aO)];refine aA (aC (aA (bo M I ?_)));rw[if_neg (by simp)];refine aA (aC (aA (wpAny_dictEpoch M I ?_)));rw[if_neg (by simp)];refine aC ?_;simp only[show ¬((i:Int)<0) from by lia,if_false,Int.toNat_natCast,Array.getElem?_eq_none hi];refine aA ?_
 first|refine aA (bF g (aC ?_))|refine aA (bR g (aC ?_))
 show wpAny _ _ (setField (.ref it) 2 .none>>=_) _ _ s;refine aA (wpAny_setField hit rfl (by simp) ?_);show wpAny _ _ (newExc (.type "StopIteration") []>>=_) _ _ _;simp only[newExc,newTuple];refine aA (aA (aZ ?_ (by size_fits)));refine aA (m:=firstArgMember _ _) (wpAny_of_eq (a:=Value.none) (by first|rfl|(simp only[firstArgMember];rfl)) (aZ ?_ (by size_fits)));simp only[raiseNew];refine aA (wpAny_handled ?_);rw[show A.in1.handled=none from U];refine aA (aC (wpAny_throw ?_));refine aA (wpAny_isInstance (T := "StopIteration") (b:=true) ⟨_,Heap.get?_push_size _ rfl,rfl⟩ isSubtype_stop (aC (q _ ?_)));exact((bJ ..).extBut.push _).push _
theorem St.keep{h h':Heap}{S:Addr}{n:Nat}(x:St h it d S i n ep)(k:∀b o,b≠S->h.get? b=some o->h'.get? b=some o)(M:it≠S):St h' it d S i n ep:=by
 rcases x with ⟨e,ok,ov,hit⟩|⟨ok,ov,a,f,R,hit,ha,I,g⟩
 .exact .inl ⟨e,ok,ov,k _ _ M hit⟩
 .exact .inr ⟨ok,ov,a,f,R,k _ _ M hit,k _ _ g ha,I,g⟩
theorem next_item{S:Addr}{Q:Option Value->Shared->Prop}(st:St s.heap it d S i es.size ep)(hS:S<s.heap.objs.size)(hm:RD s.heap d es ep)(hi:i<es.size)
 (q:∀h',St h' it d S (i+1) es.size ep->h'.get? s.heap.objs.size=some { cls:=.type "tuple",data:=.seq #[es[i].key,es[i].val]}->h'.objs.size=s.heap.objs.size+1 ->
   (∀b o,b≠it->s.heap.get? b=some o->h'.get? b=some o)->Q (some (.ref s.heap.objs.size)) {s with heap:=h'}):wpAny (model prog w) A (pyNext (.ref it)) Q E s:=by
 rcases st with ⟨rfl,ok,ov,hit⟩|⟨ok,ov,a,f,Z,hit,ha,g,Y⟩
 .exact U7 hit hm hi fun h' U M R I=>q h' (.inr ⟨_,_,_,false,_,U,M,Nat.ne_of_gt (aG hit),Nat.ne_of_gt hS⟩) M R I
 .exact Vm hit ha g hm hi fun h' U M R I=>q h' (.inr ⟨ok,ov,a,true,Z,U,I a Z g ha,g,Y⟩) M R I
theorem Wu{S:Addr}{Q:Option Value->Shared->Prop}(g:A.handled=none)(st:St s.heap it d S es.size es.size ep)(hm:RD s.heap d es ep)
 (q:∀h',Heap.ExtBut it s.heap h'->Q none {s with heap:=h'}):wpAny (model prog w) A (pyNext (.ref it)) Q E s:=by
 rcases st with ⟨e,ok,ov,hit⟩|⟨ok,ov,a,f,I,hit,_⟩
 .rw[<-e]at hit;exact next_end (i:=es.size) g hit hm (aD _) q
 .exact next_end g hit hm (aD _) q
def Made(es:Array DictEntry)(lo:Addr)(h:Heap)(as:List Addr):Prop:=∀(j:Nat) (a:Addr),as[j]? = some a->lo<a/\∃e,es[j]? = some e/\h.get? a=some { cls:=.type "tuple",data:=.seq #[e.key,e.val]}
theorem loop{R:Result->Shared->Prop}{S I:Addr}(hh:A.handled=none)(hSI:S<I)(hSd:d≠S)(hId:d≠I)(hn:es.size<=sizeLine)(res:Value){h1:Heap}
 (hR:∀h' tk g c as,(∀b o,b≠S->b≠I->h1.get? b=some o->h'.get? b=some o)->h'.get? S=some { cls:=.type "list",dict:=none,data:=.seq g c,slots:=#[]}->as.length=es.size->Made es I h' as->g.toList=as.map Value.ref->R (.ok (.ret res)) {s with heap:=h',toks:=tk}) :
  ∀(k i:Nat) (h:Heap) (tk c:Nat) (g:Array Value) (as:List Addr),es.size-i=k->i<=es.size->St h I d S i es.size ep->RD h d es ep->(∀b o,b≠S->b≠I->h1.get? b=some o->h.get? b=some o) ->
   h.get? S=some { cls:=.type "list",dict:=none,data:=.seq g c,slots:=#[]}->g.toList=as.map Value.ref->as.length=i->Made es I h as->I<h.objs.size ->
   codeAny (model prog w) A (.builtin "list.extend.loop" ⟨[.ref S,.ref I,res],[]⟩) R {s with heap:=h,toks:=tk}:=by
 have ne:S≠I:=aT hSI;intro k
 induction k with
 |zero=>
  intro i h tk c g as hk hi st hD kp hS ha hl hG hIs;have hin:i=es.size:=by lia
  subst hin;refine codeAny_builtin PySem.F.entry_extend_loop ?_;rw[Around.under_plainId ba _];show wpAny _ A.in1 (pyNext (.ref I)>>=_) _ _ _;refine aA (Wu (s:={s with heap:=h,toks:=tk}) (A:=A.in1) hh st hD fun h' he=>aC (hR h' tk g c as (fun b o M U e=>he b o U (kp b o M U e)) (he S _ ne hS) hl (fun j a Z=>?_) ha));obtain⟨M,e,U,r3⟩:=hG j a Z;exact⟨M,e,U,he a _ (bE M) r3⟩
 |succ k ih=>
  intro i h tk c g as hk hi st hD kp hS ha hl hG hIs;have hlt:i<es.size:=by lia
  have hsz:g.size=i:=by rw[<-Array.length_toList,ha,List.length_map,hl]
  refine codeAny_builtin PySem.F.entry_extend_loop ?_;rw[Around.under_plainId ba _];show wpAny _ A.in1 (pyNext (.ref I)>>=_) _ _ _;refine aA (next_item (s:={s with heap:=h,toks:=tk}) (S:=S) st (aG hS) hD hlt fun h' st' ht hz Y=>?_);dsimp only at ht hz Y ⊢;have hS':=Y S _ ne hS;have up:∀b o,b≠S->h'.get? b=some o->(h'.update S (Obj.mapSeq (·.push (Value.ref h.objs.size)))).get? b=some o:=fun b o hb e=>(Heap.get?_update_other _ _ (Ne.symm hb)).trans e;have hSl:S<h.objs.size:=aG hS;have hT:=up _ _ (bE hSl) ht;show wpAny _ A.in1 (updateSeq S (·.push (Value.ref h.objs.size))>>=_) _ _ _;refine aA (wpAny_updateSeq hS' rfl (aC ⟨plainId_quiet ba _,ih (i+1) _ tk _ (g.push (Value.ref h.objs.size)) (as++[h.objs.size]) (by lia) hlt (st'.keep up (Ne.symm ne)) ?_ (fun b o M U e=>up b o M (Y b o U (kp b o M U e)))
   (Heap.get?_update_self _ hS' rfl) (by rw[Array.toList_push,ha,List.map_append];rfl) (by rw[List.length_append,hl];rfl) (fun j b Z=>?_) (Nat.lt_trans hIs (aG hT))⟩) (by rw[hsz];lia) (by show(g.push (Value.ref h.objs.size)).size<=sizeLine+1;rw[Array.size_push,hsz];lia))
  .obtain⟨o,M,U⟩:=hD;exact⟨o,up d o hSd (Y d o hId M),U⟩
  .by_cases hj1:j<as.length
   .rw[List.getElem?_append_left hj1]at Z;obtain⟨M,e,U,r3⟩:=hG j b Z;exact⟨M,e,U,up b _ (bE (Nat.lt_trans hSI M)) (Y b _ (bE M) r3)⟩
   .rw[List.getElem?_append_right (by lia)]at Z;have hj0:j-as.length=0:=by
     have:=(aB.mp Z).1;simp at this
     lia
    rw[hj0]at Z;have hb:h.objs.size=b:=by simpa using Z
    subst hb;have hji:j=i:=by lia
    subst hji;exact⟨hIs,_,Array.getElem?_eq_getElem hlt,hT⟩
theorem iter{v:Addr}{Q:Value->Shared->Prop}(g:s.heap.IsItemsView v d)(hm:RD s.heap d es ep)
 (q:Q (.ref s.heap.objs.size) {s with heap:=s.heap.push { cls:=.type "dict_itemiterator",data:=.fields #[.none,.bool false,.ref d,.int 0 0,.int es.size 0,.int ep 0,.none,.none]} }):wpAny (model prog w) A (pyIter (.ref v)) Q E s:=by
 obtain⟨Z,U,Y,R⟩:=id g;obtain⟨od,M,e2,I⟩:=hm;have own:Builtin.Dict_items.ownsTuple "dict_itemiterator" = true:=by decide
 refine wpAny_pyIter_slot g.typeIs F.slot_dict_items_iter (az F.slot_dict_items_iter g.typeIs F.entry_dict_items_iter ?_ (F.args_dict_items_iter_1 _));unfold Builtin.«dict_items.__iter__»;refine aA (aC (aA ?_));unfold Builtin.Dict_items.dictOf;refine aA (aq U R (x:=.ref d) rfl (aC (aA ?_)));unfold Builtin.Dict_items.newIterator;refine aA (bo M I (aA (wpAny_dictEpoch M I ?_)));simp only[own,if_true];refine aZ (aC ⟨_,rfl, "dict_itemiterator",_,⟨_,Heap.get?_push_size _ rfl,rfl⟩,F.slot_dict_itemiterator_next.lookup,?_⟩)
  (by simp only[sizeOk,Builtin.Dict_items.ownedTupleFields,List.size_toArray,List.length_append,List.length_cons,List.length_nil,sizeLine_eq];lia)
 simpa[rawInt,Builtin.Dict_items.ownedTupleFields]using q
theorem extend{R:Result->Shared->Prop}{v:Addr}(hh:A.handled=none)(Z:s.heap.IsItemsView v d)(hm:RD s.heap d es ep)(S:Addr)(hSv:S≠v)(M:d≠S)(res:Value)(c0:Nat)(hS:s.heap.get? S=some { cls:=.type "list",data:=.seq #[] c0})
 (hR:∀h' tk g c as,(∀b o,b≠S->s.heap.get? b=some o->h'.get? b=some o)->h'.get? S=some { cls:=.type "list",dict:=none,data:=.seq g c,slots:=#[]}->as.length=es.size->Made es s.heap.objs.size h' as->g.toList=as.map Value.ref->R (.ok (.ret res)) {s with heap:=h',toks:=tk})(hn:es.size<=sizeLine) :
  wpAny (model prog w) A.in1 (Builtin.List.listExtendWith (.ref S) (.ref v) res) (fun fin s'=>match fin with|.done f=>R (.ok f) s'|.again c'=>c'.quiet=true/\codeAny (model prog w) A c' R s') (fun e s'=>R (.error e) s') s:=by
 have U:S<s.heap.objs.size:=aG hS;have hdI:d<s.heap.objs.size:=by obtain⟨o,e,_⟩:=hm;exact aG e
 have go:∀(h:Heap) (c1 tk:Nat),(∀b o,b≠S->(s.heap.push { cls:=.type "dict_itemiterator",data:=.fields #[.none,.bool false,.ref d,.int 0 0,.int es.size 0,.int ep 0,.none,.none]}).get? b=some o->h.get? b=some o) ->
   h.get? S=some { cls:=.type "list",data:=.seq #[] c1}->codeAny (model prog w) A (.builtin "list.extend.loop" ⟨[.ref S,.ref s.heap.objs.size,res],[]⟩) R {s with heap:=h,toks:=tk}:=fun h c1 tk hk hS1=>by
  have hI:=hk s.heap.objs.size _ (bE U) (aX _ rfl);refine loop (h1:=s.heap) (ep:=ep) hh U M (aT hdI) hn res (fun h' Y g c as r1 r2 r3 r4 r5=>hR h' Y g c as (fun b o I e=>r1 b o I (aT (aG e)) e) r2 r3 r4 r5) es.size 0 h tk c1 #[] [] (Nat.sub_zero _) (ah _)
   (.inl ⟨rfl,.none,.none,hI⟩) ?_ (fun b o I _ e=>hk b o I (aE _ e)) hS1 rfl rfl (fun j a hj=>by simp at hj) (aG hI)
  obtain⟨o,e,r⟩:=hm;exact⟨o,hk d o M (aE _ e),r⟩
 unfold Builtin.List.listExtendWith;refine aA (wpAny_typeOf (T := "dict_items") Z.typeIs ?_);have t1:Builtin.List.listSameRef (.ref S) (.ref v)=false:=by simp[Builtin.List.listSameRef,hSv]
 have t2:(Value.type "dict_items" == Value.type "list")=false:=by decide
 have t3:(Value.type "dict_items" == Value.type "tuple")=false:=by decide
 simp only[t1,t2,t3,Bool.or_false,Bool.false_eq_true,if_false];refine aA (iter Z hm ?_);have g1:=aE { cls:=.type "dict_itemiterator",data:=.fields #[.none,.bool false,.ref d,.int 0 0,.int es.size 0,.int ep 0,.none,.none]} hS;refine aA (bM (kdx_hint (let⟨o,ho,hc,_⟩:=Z;⟨o,Heap.get?_push_of_some _ ho,hc⟩) ?_));refine wpAny_ite_split (fun _=>?_) (fun _=>aC ⟨plainId_quiet ba _,go _ c0 _ (fun b o _ e=>e) g1⟩);refine aA (wpAny_rule (aA ?_));show wpAny _ _ (updateSeq S (·.push .none)>>=fun _=>updateSeq S (·.pop)) _ _ _;refine aA (wpAny_updateSeq g1 rfl ?_);have g2:=Heap.get?_update_self (Obj.mapSeq (·.push Value.none)) g1 rfl;refine wpAny_updateSeq (hz:=by seq_fits) g2 rfl ?_;have g3:=Heap.get?_update_self (Obj.mapSeq (·.pop)) g2 rfl;exact aC ⟨plainId_quiet ba _,go _ _ _ (fun b o I e=>(Heap.get?_update_other _ _ (Ne.symm I)).trans ((Heap.get?_update_other _ _ (Ne.symm I)).trans e)) g3⟩
theorem gather{R:List Value->Shared->Prop}{v:Addr}(hh:A.handled=none)(hv:s.heap.IsItemsView v d)(hm:RD s.heap d es ep)(hn:es.size<=sizeLine)
 (k:∀(h1:Heap) (tk:Nat) (as:List Addr),s.heap.objs.size<h1.objs.size->(∀b u,s.heap.get? b=some u->h1.get? b=some u)->as.length=es.size->Made es s.heap.objs.size h1 as->R (as.map Value.ref) {s with heap:=h1,toks:=tk}) :
  wpAny (model prog w) A (collect (.ref v)) R E s:=by
 have lv:v<s.heap.objs.size:=by obtain⟨o,e,_⟩:=hv;exact aG e
 have ld:d<s.heap.objs.size:=by obtain⟨o,e,_⟩:=hm;exact aG e
 unfold collect;refine aA (wpAny_runValue (codeAny_builtin entry_proto_collect' ?_));rw[Around.under_plainId PySem.F.plain_proto_collect _];show wpAny _ A.in1 (newList []>>=fun x=>again (.builtin "list.__iadd__" ⟨[x,.ref v],[]⟩)) _ _ s;refine aA (aZ (aC ⟨plainId_quiet PySem.F.plain_list_iadd _,codeAny_builtin entry_list_iadd' ?_⟩));rw[Around.under_plainId PySem.F.plain_list_iadd _];have g0:(s.heap.push { cls:=.type "list",data:=.seq ([]:List Value).toArray}).get? s.heap.objs.size=some { cls:=.type "list",data:=.seq #[]}:=aX _ rfl;have Z:(s.heap.push { cls:=.type "list",data:=.seq ([]:List Value).toArray}).objs.size=s.heap.objs.size+1:=Heap.size_push ..;have main:=extend (prog:=prog) (w:=w) (A:=A) (s:={s with heap:=s.heap.push { cls:=.type "list",data:=.seq ([]:List Value).toArray} }) (es:=es) (ep:=ep) hh (v:=v) (d:=d) (by obtain⟨o,e,r⟩:=hv;exact⟨o,Heap.get?_push_of_some _ e,r⟩) (by obtain⟨o,e,r⟩:=hm;exact⟨o,Heap.get?_push_of_some _ e,r⟩)
  s.heap.objs.size (bE lv) (aT ld) (.ref s.heap.objs.size) 0 g0
  (R:=fun q s1=>∃h1 tk g c as,q=.ok (.ret (.ref s.heap.objs.size))/\s1={s with heap:=h1,toks:=tk}/\(∀b u,s.heap.get? b=some u->h1.get? b=some u)/\h1.get? s.heap.objs.size=some { cls:=.type "list",dict:=none,data:=.seq g c,slots:=#[]}/\as.length=es.size/\Made es s.heap.objs.size h1 as/\g.toList=as.map Value.ref)
  (fun h1 tk g c as M I U Y ha=>⟨h1,tk,g,c,as,rfl,rfl,fun b u e=>M b u (aT (aG e)) (aE _ e),I,U,fun j a hj=>by
   obtain⟨r1,r2⟩:=Y j a hj;exact⟨Nat.lt_trans (by show s.heap.objs.size<(s.heap.push _).objs.size;rw[Z];exact Nat.lt_succ_self _) r1,r2⟩,ha⟩) hn
 refine ak main (fun fin s1 x=>?_) fun e s1 x=>?_
 .cases fin with
  |done f=>
   obtain⟨h1,tk,g,c,as,e,rfl,M,I,U,Y,ha⟩:=x;cases e;show wpAny _ A (load s.heap.objs.size>>=_) _ _ _;refine aA (wpAny_load I (aC ?_));show R g.toList _;rw[ha];exact k h1 tk as (aG I) M U Y
  |again c1=>
   refine⟨x.1,codeAny_mono x.2 fun q s2 y=>?_⟩;obtain⟨h1,tk,g,c,as,rfl,rfl,M,I,U,Y,ha⟩:=y;show wpAny _ A (load s.heap.objs.size>>=_) _ _ _;refine aA (wpAny_load I (aC ?_));show R g.toList _;rw[ha];exact k h1 tk as (aG I) M U Y
 .obtain⟨_,_,_,_,_,e,_⟩:=x;cases e
end
end DI
namespace IT
open PySem PySem.W PyProof.Rows PySem.SeqAt
def lt:List Int->List Int->Bool
 |[],[]=>false
 |[],_::_=>true
 |_::_,[]=>false
 |a::r,b::q=>if a=b then lt r q else decide (a<b)
theorem lt_irrefl:∀a,lt a a=false
 |[]=>rfl
 |a::r=>by rw[lt,if_pos rfl,lt_irrefl r]
theorem lt_trans:∀a b c,lt a b=true->lt b c=true->lt a c=true
 |[],[],_,h,_=>by cases h
 |[],_::_,[],_,h=>by cases h
 |[],_::_,_::_,_,_=>rfl
 |_::_,[],_,h,_=>by cases h
 |_::_,_::_,[],_,h=>by cases h
 |a::r,b::q,c::p,h,k=>by
  rw[lt]at h k ⊢;by_cases I:a=b
  .subst I;rw[if_pos rfl]at h;by_cases g:a=c
   .rw[if_pos g]at k ⊢;exact lt_trans r q p h k
   .rw[if_neg g]at k ⊢;exact k
  .rw[if_neg I]at h;have h:=af h;by_cases g:b=c
   .subst g;rw[if_neg I];exact bU h
   .rw[if_neg g]at k;have k:=af k;rw[if_neg (by lia)];exact bU (by lia)
theorem KS:∀a b,lt a b=false->lt b a=false->a=b
 |[],[],_,_=>rfl
 |[],_::_,h,_=>by cases h
 |_::_,[],_,h=>by cases h
 |a::r,b::q,h,k=>by
  rw[lt]at h k;by_cases e:a=b
  .subst e;rw[if_pos rfl]at h k;rw[KS r q h k]
  .rw[if_neg e]at h;rw[if_neg (Ne.symm e)]at k;have h:=bG h;have k:=bG k
   lia
def Is:List Int->List Value->Prop
 |[],us=>us=[]
 |k::r,us=>∃t rest,us=.int k t::rest/\Is r rest
theorem Is.length:∀ {ks:List Int} {us:List Value},Is ks us->us.length=ks.length
 |[],us,h=>by rw[Is]at h;subst h;rfl
 |k::r,us,h=>by
  rw[Is]at h;obtain⟨t,rest,rfl,h⟩:=h;rw[List.length_cons,List.length_cons,Is.length h]
theorem Is.inj:∀ {ks M:List Int} {us:List Value},Is ks us->Is M us->ks=M
 |[],[],_,_,_=>rfl
 |[],_::_,us,h,k=>by
  simp only[Is]at h k;subst h;obtain⟨t,rest,e,_⟩:=k;cases e
 |_::_,[],us,h,k=>by
  simp only[Is]at h k;subst k;obtain⟨t,rest,e,_⟩:=h;cases e
 |a::r,b::q,us,h,k=>by
  rw[Is]at h k;obtain⟨t,rest,rfl,h⟩:=h;obtain⟨U,g,e,k⟩:=k
  injection e with I R
  injection I with I Y
  subst I R;rw[Is.inj h k]
theorem Is.get:∀ {ks:List Int} {us:List Value} {j:Nat},Is ks us->(h:j<us.length)->∃k t,ks[j]? = some k/\us[j]=.int k t
 |[],us,j,h,g=>by rw[Is]at h;subst h;exact absurd g (bz _)
 |k::r,us,j,h,g=>by
  rw[Is]at h;obtain⟨t,rest,rfl,h⟩:=h;cases j with
  |zero=>exact⟨k,t,rfl,rfl⟩
  |succ j=>
   obtain⟨M,I,U,R⟩:=Is.get (j:=j) h (by simpa using g);exact⟨M,I,by simpa using U,by simpa using R⟩
theorem YC{h:Heap}{a:Addr}{x y:Array Value}(h1:h.IsTuple a x)(M:h.IsTuple a y):x=y:=by
 obtain⟨o,R,_,n,U⟩:=h1;obtain⟨o',g,_,Y,I⟩:=M;rw[R]at g;cases g;rw[U]at I;cases I
 rfl
theorem jF{s:Shared}{ks I:List Int}{A:Around}{a b:Addr}{g its':List Value}(h1:s.heap.IsTuple a g.toArray)(Y:Is ks g)(h2:s.heap.IsTuple b its'.toArray)(U:Is I its')(hu:A.units<cLine) :
  RcAt A s (.ref a) (.ref b) (decide (ks=I)):=by
 have key:=RcAt.tuples (s:=s) (A:=A) (e:=fun j=>decide (ks[j]? = I[j]?)) h1 h2 hu fun j x1 x2=>by
  obtain⟨x,t,q1,q2⟩:=Y.get (j:=j) (by simpa using x1);obtain⟨y,u,q3,q4⟩:=U.get (j:=j) (by simpa using x2);have e:decide (ks[j]? = I[j]?)=(x==y):=by
   rw[q1,q3];by_cases M:x=y
   .subst M;simp
   .rw[decide_eq_false (by simpa using M)];simp[M]
  rw[e];have:=EqAt.int_int (A:=A.in1) (s:=s) x t y u
  simpa[q2,q4]using this
 have ev:((List.range (min g.toArray.size its'.toArray.size)).all (fun j=>decide (ks[j]? = I[j]?))&&g.toArray.size==its'.toArray.size)=decide (ks=I):=by
  have z1:g.toArray.size=ks.length:=by rw[<-Y.length];simp
  have Z:its'.toArray.size=I.length:=by rw[<-U.length];simp
  rw[z1,Z];by_cases R:ks=I
  .subst R;simp
  .rw[decide_eq_false R];cases hl:ks.length==I.length with
   |false=>rw[Bool.and_false]
   |true=>
    rw[Bool.and_true];have hl':ks.length=I.length:=by simpa using hl
    refine ag.mpr fun z=>R (List.ext_getElem? fun i=>?_);by_cases hi:i<ks.length
    .have:=List.all_eq_true.mp z i (bN.mpr (by lia))
     simpa using this
    .rw[List.getElem?_eq_none (by lia),List.getElem?_eq_none (by lia)]
 rw[ev]at key;exact key
theorem dZ{s:Shared}{ks R:List Int}{A:Around}{a b:Addr}{g its':List Value}(h1:s.heap.IsTuple a g.toArray)(M:Is ks g)(U:s.heap.IsTuple b its'.toArray)(I:Is R its')(Z:A.units<cLine) :
  EqAt A s (.ref a) (.ref b) (decide (ks=R)):=by
 by_cases Y:a=b
 .subst Y;have e2:g=its':=by simpa using YC h1 U
  subst e2;rw[M.inj I,decide_eq_true rfl];exact EqAt.same _
 .exact EqAt.of_refs Y (jF h1 M U I Z)
section
open PySem.AutoSeq1 (wpAny_loadPart')
open PySem.MeetsSeq PySem.MeetsSeq2 PySem.MeetsSeq3
theorem YF(l b:Addr)(items I:Array Value)(n n2:Nat)(dd dd2:Option Addr)(sl sl2:Array (Option Value))(t u:List Int) :
  Meets (Builtin.«tuple.__lt__» ⟨[.ref l,.ref b],[]⟩)
   (fun A R s=>s.heap.get? l=some { cls:=.type "tuple",dict:=dd,data:=.seq items n,slots:=sl}/\s.heap.get? b=some { cls:=.type "tuple",dict:=dd2,data:=.seq I n2,slots:=sl2} /\
    Is t items.toList/\Is u I.toList/\A.units<cLine/\R (.ok (.ret (.bool (lt t u)))) s) :=
 .of_wp fun prog w A R s h=>by
  obtain⟨hp,g,d,tk,os⟩:=s;obtain⟨hl,hb,hi,hj,hun,h⟩:=h;have f2:=AutoSeq1.sub_tuple_tuple;have z1:items.size=t.length:=by rw[<-Is.length hi];simp
  have z2:I.size=u.length:=by rw[<-Is.length hj];simp
  wp_walk using wpAny_loadPart' hl,wpAny_loadPart' hb,wpAny_forIn_list _ (fun rest b s'=>b.1=none/\s'=⟨hp,g,d,tk,os⟩/\∃(vs ws:List Value) (t' Z:List Int),rest=vs.zip ws /\
   Is t' vs/\Is Z ws/\t'.length+I.size=Z.length+items.size/\R (.ok (.ret (.bool (lt t' Z)))) ⟨hp,g,d,tk,os⟩) _
  case turn=>
   rintro⟨y,x⟩ rest b s' ⟨hb',rfl,vs,ws,t',Z,hz,Y,U,M,hR⟩;cases t' with
   |nil=>rw[Is]at Y;subst Y;rw[List.zip_nil_left]at hz;cases hz
   |cons bt rt=>
    cases Z with
    |nil=>rw[Is]at U;subst U;rw[List.zip_nil_right]at hz;cases hz
    |cons bu ru=>
     rw[Is]at Y U;obtain⟨a1,v1,rfl,p3⟩:=Y;obtain⟨a2,v2,rfl,q3⟩:=U;rw[List.zip_cons_cons]at hz
     injection hz with hyx hrest
     injection hyx with hy hx
     subst hy hx;rw[lt]at hR;simp only[List.length_cons]at M;have he:=EqAt.int_int (A:=A.in1) (s:=⟨hp,g,d,tk,os⟩) bt a1 bu a2;refine aA (he prog w _ _ ?_);by_cases hc:bt=bu
     .rw[if_pos hc]at hR;rw[beq_iff_eq.mpr hc]
      wp_walk
      exact⟨rfl,rfl,_,_,_,_,hrest,p3,q3,by lia,hR⟩
     .rw[if_neg hc]at hR;rw[beq_eq_false_iff_ne.mpr hc];have hri:∀(E:Value->Shared->Prop) (Q:Value->Shared->Prop),Q (.bool (decide (bt<bu))) ⟨hp,g,d,tk,os⟩->wpAny (model prog w) A.in1 (richCompare .Lt (.int bt a1) (.int bu a2)) Q E ⟨hp,g,d,tk,os⟩:=fun E Q h=>wpAny_lt_int h
      wp_walk using hri
      exact⟨_,rfl,by simpa using hR⟩
  case fin=>
   rintro⟨b1,b2⟩ s' ⟨hb',rfl,vs,ws,t',Z,hz,Y,U,M,hR⟩;simp only at hb';subst hb';have hv:lt t' Z=decide (items.size<I.size):=by
    cases t' with
    |nil=>
     cases Z with
     |nil=>
      simp only[List.length_nil]at M;exact(bQ (by lia)).symm
     |cons c q=>
      simp only[List.length_cons,List.length_nil]at M;exact(bU (by lia)).symm
    |cons bt rt=>
     cases Z with
     |nil=>
      simp only[List.length_cons,List.length_nil]at M;exact(bQ (by lia)).symm
     |cons c q=>
      rw[Is]at Y U;obtain⟨_,_,rfl,_⟩:=Y;obtain⟨_,_,rfl,_⟩:=U;rw[List.zip_cons_cons]at hz;cases hz
   rw[hv]at hR
   wp_walk
   exact⟨_,rfl,by simpa[Builtin.Tuple.tupleCompareSizes]using hR⟩
  case h=>
   exact⟨rfl,rfl,items.toList,I.toList,t,u,rfl,hi,hj,by lia,h⟩
end
end IT
namespace IT
open PySem PySem.W PyProof.Rows PySem.SeqAt
section
open PySem.MeetsSeq PySem.MeetsSeq2 PySem.MeetsSeq3
variable{prog:Program}{w:World}{A:Around}{E:Value->Shared->Prop}{s:Shared}{t u:List Int}{a b:Addr}{its its':List Value}
theorem iC{Q:Value->Shared->Prop}(h1:s.heap.IsTuple a its.toArray)(k1:Is t its)(h2:s.heap.IsTuple b its'.toArray)(k2:Is u its')(hu:A.units+1<cLine)(h:Q (.bool (lt t u)) s):wpAny (model prog w) A (richCompare .Lt (.ref a) (.ref b)) Q E s:=by
 obtain⟨⟨cls,dd,data,sl⟩,Z,hc,n,M⟩:=id h1;obtain⟨⟨cls2,Y,data2,U⟩,I,R,n2,g⟩:=id h2;simp only at hc M R g;subst hc M R g;exact richCompare_meets_room (op:=.Lt) ⟨_,Z,rfl⟩ ⟨_,I,rfl⟩ PySem.F.slot_tuple_lt PySem.F.entry_tuple_lt (PySem.F.args_tuple_lt_2 _ _) (YF a b its.toArray its'.toArray n n2 dd Y sl U t u)
  ⟨Z,I,by simpa using k1,by simpa using k2,by lia,show Value.bool (lt t u)≠Value.notImplemented/\Q (.bool (lt t u)) s from⟨(fun x=>nomatch x),h⟩⟩ (by lia)
theorem Tg{Q:Bool->Shared->Prop}(h1:s.heap.IsTuple a its.toArray)(I:Is t its)(R:s.heap.IsTuple b its'.toArray)(g:Is u its')(M:A.units+1<cLine)(h:Q (lt t u) s):wpAny (model prog w) A (oneLt' false (.ref a) (.ref b)) Q E s:=by
 rw[oneLt'_eq];simp only[Bool.false_eq_true,if_false];exact aA (iC h1 I R g M (bj h))
end
abbrev Tm:=List Int×List Int
def GB(x y:Tm):Bool:=if x.1=y.1 then lt x.2 y.2 else lt x.1 y.1
theorem U5(x:Tm):GB x x=false:=by unfold GB;rw[if_pos rfl,lt_irrefl]
theorem Pt(x y:Tm)(h:GB x y=false)(k:GB y x=false):x=y:=by
 unfold GB at h k;by_cases e:x.1=y.1
 .rw[if_pos e]at h;rw[if_pos e.symm]at k;exact Prod.ext e (KS _ _ h k)
 .rw[if_neg e]at h;rw[if_neg (Ne.symm e)]at k;exact absurd (KS _ _ h k) e
theorem PZ(x y z:Tm)(h:GB x y=true)(k:GB y z=true):GB x z=true:=by
 unfold GB at h k ⊢;by_cases I:x.1=y.1
 .rw[if_pos I]at h;by_cases g:y.1=z.1
  .rw[if_pos g]at k;rw[if_pos (I.trans g)];exact lt_trans _ _ _ h k
  .rw[if_neg g]at k;rw[if_neg (fun q=>g (I.symm.trans q)),I];exact k
 .rw[if_neg I]at h;by_cases g:y.1=z.1
  .rw[if_neg (fun q=>I (q.trans g.symm)),<-g];exact h
  .rw[if_neg g]at k;have:=lt_trans _ _ _ h k;rw[if_neg (fun q=>by rw[q,lt_irrefl]at this;cases this)];exact this
theorem Sb(a b c:Tm)(h:GB a c=true):GB a b=true\/GB b c=true:=by
 cases k:GB a b with
 |true=>exact .inl rfl
 |false=>
  right
  cases m:GB b c with
  |true=>rfl
  |false=>
   cases n:GB b a with
   |true=>have:=PZ b a c n h;rw[m]at this;cases this
   |false=>have:=Pt a b k n;subst this;rw[m]at h;cases h
def Ih:KeyOrd where
 α:=Tm
 blt:=GB
 irrefl:=U5
 trans:=PZ
 negTrans:=Sb
 total:=Pt
def JY(h:Heap)(k:Tm)(v:Value):Prop:=∃(a b c:Addr) (I g:List Value),v=.ref a/\h.IsTuple a [.ref b,.ref c].toArray/\h.IsTuple b I.toArray/\Is k.1 I/\h.IsTuple c g.toArray/\Is k.2 g
theorem JY.ext{h h':Heap}(e:GS.Ext h h'){k:Tm}{v:Value}(x:JY h k v):JY h' k v:=by
 obtain⟨a,b,c,i1,i2,rfl,U,R,M,I,g⟩:=x;exact⟨a,b,c,i1,i2,rfl,TH.Oa e U,TH.Oa e R,M,TH.Oa e I,g⟩
section
open PySem.MeetsSeq PySem.MeetsSeq2 PySem.MeetsSeq3
variable{prog:Program}{w:World}{A:Around}{E:Value->Shared->Prop}{s:Shared}
theorem Yu{x y:Tm}{u v:Value}{Q:Bool->Shared->Prop}(h1:JY s.heap x u)(h2:JY s.heap y v)(hu:A.units+2<cLine)(h:Q (GB x y) s):wpAny (model prog w) A (keyLt' (tuples' false) u v) Q E s:=by
 obtain⟨a,b,l,i1,i2,rfl,k1,k2,k3,k4,k5⟩:=h1;obtain⟨a',b',l',j1,j2,rfl,m1,Z,Y,m4,U⟩:=h2;obtain⟨o,ho,hc,n,hd⟩:=id k1;obtain⟨o2,I,hc2,n2,M⟩:=id m1;refine kat_lt ho hd I M ?_;unfold GB at h;show KatLex prog w A false (decide (2<2)) Q [(.ref b,.ref b'),(.ref l,.ref l')] 0 s;refine kat_cons (dZ k2 k3 Z Y (by lia) prog w _ _ ?_);by_cases g:x.1=y.1
 .rw[decide_eq_true g];rw[if_pos g]at h;refine kat_yes (kat_cons (dZ k4 k5 m4 U (by lia) prog w _ _ ?_));by_cases R:x.2=y.2
  .rw[decide_eq_true R];rw[R,lt_irrefl]at h;exact kat_yes (kat_nil h)
  .rw[decide_eq_false R];exact kat_no (by rw[Bool.false_and];exact Tg k4 k5 m4 U (by lia) h)
 .rw[decide_eq_false g];rw[if_neg g]at h;exact kat_no (by rw[Bool.false_and];exact Tg k2 k3 Z Y (by lia) h)
theorem JY.tt{h:Heap}{x:Tm}{v:Value}(z:JY h x v):TH.Q3 h v:=by
 obtain⟨a,b,l,i1,i2,rfl,I,g,U,R,M⟩:=z;exact⟨a,b,_,[.ref l],rfl,I,g⟩
theorem Yd{h0:Heap}{ks:List Tm}{us:List Value}(U:us.length=ks.length)(M:∀(i:Nat) (x:Tm) (u:Value),ks[i]? = some x->us[i]? = some u->JY h0 x u):GS.ZS Ih prog w h0 2 ks us :=
 ⟨U,fun κ=>κ=tuples' false,fun A E s Q g h=>TH.cD (fun v R=>by
  obtain⟨i,hi,rfl⟩:=List.getElem_of_mem R;exact((M i _ _ (aF (by lia)) (aF hi)).ext g).tt) (h _ rfl),
  fun A s κ g hr I E i j x y u v Q h1 h2 Z Y q=>by
  subst I;exact Yu ((M i x u Z h1).ext g) ((M j y v Y h2).ext g) (by lia) q⟩
end
end IT
namespace DI
open PySem PySem.W PyProof.Rows PySem.SeqAt GS
section
variable{prog:Program}{w:World}{A:Around}{E:Value->Shared->Prop}{s:Shared}{d v:Addr}{ep:Nat}{es:Array DictEntry}{ks:List IT.Tm}
def fT(h:Heap)(k:IT.Tm)(e:DictEntry):Prop:=∃(b c:Addr) (I g:List Value),e.key=.ref b/\e.val=.ref c/\h.IsTuple b I.toArray/\IT.Is k.1 I/\h.IsTuple c g.toArray/\IT.Is k.2 g
theorem Qd{b:Bool}{Q:Value->Shared->Prop}(hh:A.handled=none)(hv:s.heap.IsItemsView v d)(hm:RD s.heap d es ep)(hn:es.size<64)(hl:ks.length=es.size)(he:∀(j:Nat) (k:IT.Tm) (e:DictEntry),ks[j]? = some k->es[j]? = some e->fT s.heap k e)(hu:A.units+4<cLine)
 (h:∀(h':Heap) (D tk:Nat) (ix:List Nat) (I:Nat) (as:List Addr),(∀b u,s.heap.get? b=some u->h'.get? b=some u)->as.length=es.size->(∀(j:Nat) (a:Addr),as[j]? = some a->s.heap.objs.size<a/\a<D/\∃e,es[j]? = some e/\h'.get? a=some { cls:=.type "tuple",data:=.seq #[e.key,e.val]}) ->
   h'.get? D=some (seqObj "list" (ix.map fun i=>(as.map Value.ref).getD i Value.none).toArray I)->ix.Perm (List.range es.size)->(ix.map fun i=>ks.getD i ([],[])).Pairwise (fun x y=>if b=true then IT.Ih.kle y x else IT.Ih.kle x y)->s.heap.objs.size<=D->Q (.ref D) {s with heap:=h',toks:=tk}) :
  wpAny (model prog w) A (call (.builtin "sorted") [.ref v] [(Str.ofString "reverse",.bool b)]) Q E s:=by
 refine call_function_entry_kw kind_sorted plain_sorted entry_sorted (args_sorted_rev _ _) ?_;unfold Builtin.«sorted»;refine aA (m:=checkCount "sorted" 1 1 _) (aC ?_);refine aA (gather (A:=A.in1) hh hv hm (by rw[sizeLine_eq];lia) fun g tk as z1 k1 Y hG=>?_);have R:(as.map Value.ref).length=es.size:=by rw[List.length_map,Y]
 refine aA (wpAny_newList ?_ (by rw[sizeLine_eq];lia));have C:ZS IT.Ih prog w g 2 ks (as.map Value.ref):=IT.Yd (by rw[R,hl]) fun i x u hx U=>by
  rw[List.getElem?_map]at U;obtain⟨a,ha,rfl⟩:=aH.mp U;obtain⟨r1,e,r2,Z⟩:=hG i a ha;obtain⟨b,c,its,M,q1,q2,q3,q4,q5,q6⟩:=he i x e hx r2;refine⟨a,b,c,its,M,rfl,⟨_,Z,rfl,0,?_⟩,?_,q4,?_,q6⟩
  .rw[q1,q2]
  .obtain⟨o,y,r⟩:=q3;exact⟨o,k1 _ _ y,r⟩
  .obtain⟨o,y,r⟩:=q5;exact⟨o,k1 _ _ y,r⟩
 have hr:Runs IT.Ih prog w (if b then ks.reverse else ks):=by
  cases b with
  |true=>exact NT (O:=IT.Ih) (ks:=ks.reverse) (show(ks.reverse:List IT.Tm).length<64 by rw[List.length_reverse,hl];exact hn)
  |false=>exact NT (O:=IT.Ih) (ks:=ks) (show(ks:List IT.Tm).length<64 by rw[hl];exact hn)
 obtain⟨g1,x2,fin⟩:=S3 (s:={s with heap:=g,toks:=tk}) (h1:=g) (T:=pure (.done (.ret .none))) (tk:=tk) (b:=b) (([],[]):IT.Tm) C (by lia) hr (fun _ _ e=>e) (aD _)
  (Q:=fun x s'=>∃(h':Heap) (D tk:Nat) (ix:List Nat) (I:Nat),x=.ref D/\s'={s with heap:=h',toks:=tk}/\g.objs.size<=D/\Ext g h'/\h'.get? D=some (seqObj "list" (ix.map fun i=>(as.map Value.ref).getD i Value.none).toArray I)/\ix.Perm (List.range (as.map Value.ref).length)/\(ix.map fun i=>ks.getD i ([],[])).Pairwise (fun x y=>if b=true then IT.Ih.kle y x else IT.Ih.kle x y))
  (fun h' D tk ix I a1 a2 a3 a4 a5=>⟨h',D,tk,ix,I,rfl,rfl,a1,a2,a3,a4,a5⟩)
 refine aA (bM (wpAny_call_entry_kw slot_list_sort ⟨_,g1,rfl⟩ entry_list_sort ?_ (args_list_sort_rev _ _)));refine XH (s:={s with heap:=g.push (seqObj "list" (as.map Value.ref).toArray 0),toks:=tk}) (([],[]):IT.Tm) C x2 (aD _) g1 (by lia) hr (by rw[show A.in1.in1.units=A.units+2 from rfl];lia) fun ix p1 p2=>⟨_,rfl,?_⟩;refine aC ⟨_,rfl,?_⟩;obtain⟨h',D,tk',ix',I,q1,q2,q3,q4,q5,q6,q7⟩:=fin ix p1 p2;rw[q1];have:=h h' D tk' ix' I as (fun b u e=>q4 _ _ (k1 b u e)) Y (fun j a hj=>by
  obtain⟨r1,e,r2,Z⟩:=hG j a hj;exact⟨r1,Nat.lt_of_lt_of_le (aG Z) q3,e,r2,q4 _ _ Z⟩) q5 (by rw[R]at q6;exact q6) q7 (aU (bZ z1) q3)
 rw[<-q2]at this;exact this
end
end DI
namespace L2
open PySem PySem.Spec PyProof.Rows
theorem Inv.many{X:Cx}{pins:List (Addr×Obj)}{σ:St}{H H':Hp}{s:Shared}{h':Heap}{t':Nat}(I:Inv X pins σ H s)(k:∀b u,s.heap.get? b=some u->h'.get? b=some u)(g:∀b,b<s.heap.objs.size->H' b=H b)(Ah:Cq X.prog X.w H' h') :
  Inv X pins σ H' {s with heap:=h',toks:=t'}:=by
 have lt:∀b o,H b=some o->b<s.heap.objs.size:=fun b o e=>(I.Ah b o e).lt;have up:∀b o,H b=some o->H' b=some o:=fun b o e=>by rw[g b (lt b o e)];exact e
 show Inv X pins σ H' {s with heap:=h',gens:=s.gens,drawn:=s.drawn,toks:=t'};refine I.step (h':=h') (ch:=[]) (fun b R=>nomatch R) (fun b o _ _ _ e _=>k b o e) (fun b o _ _ _ e _=>⟨o.slots,k b o e⟩) (fun b o _ e n=>by rw[g b (aG e)];exact n) (fun b o _ e=>⟨o,k b o e⟩)
  (fun b xs e=>up b _ e) (fun b o u e=>up b _ e) (fun b ps e=>⟨#[],by rw[up b _ e];simp⟩) (fun b _ o _ _ e=>k b o e) (fun m hm=>?_) Ah I.bare
 obtain⟨o,U,Y,M,r⟩:=hm;exact⟨o,U,Y,k _ o M,r⟩
theorem Ng:∀ {ps:List Int} {us:List Value},Vals (ps.map V.int) us->IT.Is ps us
 |[],_,r=>by rw[List.map_nil]at r;cases r;rw[IT.Is]
 |p::ps,_,r=>by
  rw[List.map_cons]at r;cases r with
  |cons h t=>
   obtain⟨g,rfl⟩:=h;rw[IT.Is];exact⟨g,_,rfl,Ng t⟩
theorem YE{prog:Program}{w:World}(d:Addr)(nd:(d==sysModules)=false) :
  MeetsIn prog w (Builtin.«dict.items» ⟨[.ref d],[]⟩) (fun _ R s=>(∃es ep,DI.RD s.heap d es ep)/\R (.ok (.ret (.ref s.heap.objs.size))) {s with heap:=s.heap.push { cls:=.type "dict_items",data:=.fields #[.ref d]} }) :=
 .of_wp fun A R s ⟨⟨es,ep,o,I,g,M⟩,h⟩=>by
  unfold Builtin.«dict.items»;refine aA ?_;unfold Builtin.Dict.noArgs;refine aA (wpAny_notOrdered_dict ⟨o,I,g.1⟩ ?_);refine aC (show wpAny _ _ (Builtin.Dict.showsAll d>>=_) _ _ s from ?_);unfold Builtin.Dict.showsAll;rw[nd,if_neg aO];exact aA (aC (aA (aZ (aC ⟨_,rfl,h⟩))))
def ZC(H1:Hp)(x:V)(Q:VK):Prop:=∃(a:Addr) (kvs:List (List Key×V)) (ts:List IT.Tm),x=.ref a/\H1 a=some (.dT kvs)/\kvs.length<64/\ts.length=kvs.length /\
 (∀(j:Nat) k v t,kvs[j]? = some (k,v)->ts[j]? = some t->k=t.1.map Sum.inl/\∃c,v=.ref c/\H1 c=some (.tup (t.2.map V.int))) /\
 ∀(D:Addr) (H':Hp) (g:List V) (us:List IT.Tm),AG H1 H'->H1 D=none->H' D=some (.lst g)->us.Perm ts->us.Pairwise (fun x y=>IT.Ih.kle y x)->g.length=us.length ->
  (∀(j:Nat) z t,g[j]? = some z->us[j]? = some t->∃p b c,z=.ref p/\H1 p=none/\H' p=some (.tup [.ref b,.ref c])/\H1 b=some (.tup (t.1.map V.int))/\H1 c=some (.tup (t.2.map V.int)))->Q (.ref D) H'
theorem RM(ps:List Int):(ps.map (Sum.inl:Int->Key)).map kV=ps.map V.int:=by rw[List.map_map];rfl
theorem LB{α β:Type}{F:α->β->Prop}:∀ {xs:List α} {ys:List β} {j:Nat} {x:α} {y:β},Paired F xs ys->xs[j]? = some x->ys[j]? = some y->F x y
 |_,_,j,x,y,.nil,h,_=>by simp at h
 |_,_,0,x,y,.cons f _,h,k=>by simp at h k;subst h k;exact f
 |_,_,j+1,x,y,.cons _ r,h,k=>LB r (by simpa using h) (by simpa using k)
theorem WA{α:Type}(d:α)(ts:List α){ix:List Nat}(h:ix.Perm (List.range ts.length)):(ix.map fun i=>ts.getD i d).Perm ts:=by
 have e:(List.range ts.length).map (fun i=>ts.getD i d)=ts:=by
  apply List.ext_getElem
  .simp
  .intro i g I;simp at g;simp[g]
 have:=h.map fun i=>ts.getD i d
 rwa [e]at this
theorem Lm:∀as:List Addr,Vals (as.map V.ref) (as.map Value.ref)
 |[]=>.nil
 |a::as=>.cons rfl (Lm as)
def ZU(h:Heap)(y:Addr):Option HO:=match (h.get? y).map (fun o:Obj=>o.data) with
 |some (Data.seq g _)=>match g.toList with
  |[Value.ref b,Value.ref c]=>some (.tup [.ref b,.ref c])
  |_=>none
 |_=>none
theorem WG{X:Cx}{pins:List (Addr×Obj)}{σ:St}{H:Hp}{s:Shared}{Q:VK}(I:Inv X pins σ H s){x:V}{v:Value}(rx:RelV x v)(hc:X.calm=true)(hu:X.A.units+64<cLine)(q:ZC H x Q) :
  ∃(a:Addr) (es:Array DictEntry) (ep:Nat),v=.ref a/\(a==sysModules)=false/\DI.RD s.heap a es ep /\
   wpAny (model X.prog X.w) X.A (call (.builtin "sorted") [.ref s.heap.objs.size] [(Str.ofString "reverse",.bool true)]) (EP X pins σ Q) X.xe {s with heap:=s.heap.push { cls:=.type "dict_items",data:=.fields #[.ref a]} }:=by
 obtain⟨a,kvs,ts,rfl,ha,h64,U,hterm,q⟩:=q;cases rx;obtain⟨hz,nd,xs,kt,o,es,ep,r1,r2,r3,r4,r5,r6⟩:=Vk I.Ah ha;refine⟨a,es,ep,rfl,nd,⟨o,r1,r2,r3⟩,?_⟩;have g:es.size=kvs.length:=by rw[size_of_entries r4];exact(Paired.length kt).symm
 have I2:Inv X pins σ H {s with heap:=s.heap.push { cls:=.type "dict_items",data:=.fields #[.ref a]} }:=I.kept (t':=s.toks) fun b ob e=>aE _ e;have ent:∀(j:Nat) (e:DictEntry),es[j]? = some e->∃k w x,kvs[j]? = some (k,w)/\xs[j]? = some x/\e.key=.ref x.2.1/\e.val=x.2.2/\H x.2.1=some (.tup (k.map kV))/\RelV w x.2.2:=fun j e he=>by
  rw[entry_at r4 j]at he;obtain⟨x,hx,rfl⟩:=aH.mp he;have M:j<kvs.length:=by rw[Paired.length kt];exact(aB.mp hx).1
  obtain⟨kv,hkv⟩:∃kv,kvs[j]? = some kv:=⟨kvs[j],by simp[M]⟩;have:=LB kt hkv hx;exact⟨kv.1,kv.2,x,hkv,hx,rfl,rfl,this.1 ▸ this.2.1,this.2.2⟩
 have trm:∀(j:Nat) (t:IT.Tm) (e:DictEntry),ts[j]? = some t->es[j]? = some e->∃b c,e.key=.ref b/\e.val=.ref c/\H b=some (.tup (t.1.map V.int))/\H c=some (.tup (t.2.map V.int)):=fun j t e ht he=>by
  obtain⟨k,w,x,h1,h2,h3,h4,h5,h6⟩:=ent j e he;obtain⟨rfl,c,rfl,h7⟩:=hterm j k w t h1 ht;rw[RM]at h5;refine⟨x.2.1,c,h3,?_,h5,h7⟩;rw[h4];obtain⟨xk,xb,xv⟩:=x;cases h6
  rfl
 have entV:∀(j:Nat) (k:IT.Tm) (e:DictEntry),ts[j]? = some k->es[j]? = some e->DI.fT (s.heap.push { cls:=.type "dict_items",data:=.fields #[.ref a]}) k e:=fun j k e hk he=>by
  obtain⟨b,c,h1,h2,h3,h4⟩:=trm j k e hk he;obtain⟨i1,v1,p1,_⟩:=I2.tuple (Af.of (K:=X.K) h3);obtain⟨i2,v2,p2,_⟩:=I2.tuple (Af.of (K:=X.K) h4);exact⟨b,c,i1,i2,h1,h2,p1,Ng v1,p2,Ng v2⟩
 refine DI.Qd (s:={s with heap:=s.heap.push { cls:=.type "dict_items",data:=.fields #[.ref a]} }) (b:=true) (ks:=ts) (d:=a) (es:=es) (ep:=ep) (I.ok.hd hc) ⟨_,Heap.get?_push_size _ rfl,rfl,rfl⟩ ⟨o,Heap.get?_push_of_some _ r1,r2,r3⟩ (by lia) (by lia) entV (by lia) fun h' D tk ix e1 as keep Y hG hD hp hs hge=>?_;have hsz:(s.heap.push { cls:=.type "dict_items",data:=.fields #[.ref a]}).objs.size=s.heap.objs.size+1:=Heap.size_push ..;simp only[hsz]at hG hge;have ixl:ix.length=kvs.length:=by rw[hp.length_eq,List.length_range];exact g
 have ixm:∀i∈ix,i<kvs.length:=fun i hi=>by
  have:=(hp.mem_iff (a:=i)).mp hi;rw[List.mem_range]at this
  lia
 have szD:D<h'.objs.size:=aG hD;have at_:∀j R,as[j]? = some R->∃(b c:Addr) (t:IT.Tm),ts[j]? = some t/\h'.get? R=some { cls:=.type "tuple",data:=.seq #[.ref b,.ref c]}/\H b=some (.tup (t.1.map V.int))/\H c=some (.tup (t.2.map V.int))/\s.heap.objs.size<R/\R<D:=fun j R M=>by
  obtain⟨h1,h2,e,h3,h4⟩:=hG j R M;have hjk:j<ts.length:=by
   rw[U,<-g,<-Y];exact(aB.mp M).1
  obtain⟨t,ht⟩:∃t,ts[j]? = some t:=⟨ts[j],by simp[hjk]⟩;obtain⟨b,c,k1,k2,k3,k4⟩:=trm j t e ht h3;rw[k1,k2]at h4;exact⟨b,c,t,ht,h4,k3,k4,by lia,h2⟩
 let zs:List V:=ix.map fun i=>(as.map V.ref).getD i .BM
 let H':Hp:=fun y=>if y=D then some (.lst zs) else if y∈as then ZU h' y else H y
 have hHD:H' D=some (.lst zs):=if_pos rfl;have hHa:∀(j:Nat) R b c,as[j]? = some R->h'.get? R=some { cls:=.type "tuple",data:=.seq #[.ref b,.ref c]}->H' R=some (.tup [.ref b,.ref c]):=fun j R b c M hb=>by
  obtain⟨_,_,_,_,_,_,_,_,hlt⟩:=at_ j R M;show(if R=D then _ else _)=_;rw[if_neg (aT hlt),if_pos (aI M)];unfold ZU;rw[hb]
  rfl
 have hHo:∀y,y<s.heap.objs.size+1->H' y=H y:=fun y hy=>by
  have Z:y≠D:=by lia
  show(if y=D then _ else _)=_;rw[if_neg Z];refine if_neg fun hm=>?_;obtain⟨j,M⟩:=aa hm;obtain⟨_,_,_,_,_,_,_,h1,_⟩:=at_ j y M
  lia
 have up:∀b o,H b=some o->H' b=some o:=fun b o e=>by
  rw[hHo b (bX (I.Ah b o e).lt)];exact e
 have Ah:Cq X.prog X.w H' h':=fun y u e=>by
  by_cases Z:y=D
  .subst Z;rw[hHD]at e;cases e;refine⟨?_,_,e1,?_,hD⟩
   .show(ix.map _).length<=sizeLine;rw[List.length_map,ixl];exact hz
   .exact Vals.pick (Lm as) ix fun i hi=>by rw[List.length_map,Y,g];exact ixm i hi
  .by_cases hm:y∈as
   .obtain⟨j,M⟩:=aa hm;obtain⟨b,c,t,h1,h2,h3,h4,_,_⟩:=at_ j y M;rw[hHa j y b c M h2]at e;cases e;exact⟨Wn,[.ref b,.ref c],.cons rfl (.cons rfl .nil),_,h2,rfl,_,rfl⟩
   .have e':H y=some u:=by
     have:H' y=H y:=by
      show(if y=D then _ else _)=_;rw[if_neg Z,if_neg hm]
     rw[this]at e;exact e
    exact(I.Ah y u e').Ip (fun b o _ z=>keep b o (aE _ z)) (fun b z=>up _ _ z) fun b xs z=>up _ _ z
 have I3:Inv X pins σ H' {s with heap:=h',toks:=tk}:=I.many (fun b u e=>keep b u (aE _ e)) (fun b hb=>hHo b (by lia)) Ah;refine⟨.ref D,H',I3,rfl,q D H' zs (ix.map fun i=>ts.getD i ([],[])) up (I.Ah.fresh (by lia)) hHD (WA _ ts (by rw[U,<-g];exact hp)) ?_ (by simp[zs]) fun j z t hz' ht=>?_⟩
 .simpa using hs
 .have M:j<ix.length:=by
   have:=(aB.mp ht).1
   simpa using this
  have hix:ix[j]? = some ix[j]:=by simp[M]
  have hi:=ixm ix[j] (au M);have k1:z=.ref (as[ix[j]]'(by rw[Y,g];exact hi)):=by
   have:zs[j]? = some ((as.map V.ref).getD ix[j] .BM):=by
    show(ix.map _)[j]? = _;rw[List.getElem?_map,hix];rfl
   rw[this]at hz';cases hz';simp[List.getD_eq_getElem?_getD,List.getElem?_map,show ix[j]<as.length by rw[Y,g];exact hi]
  have k2:t=ts[ix[j]]'(by rw[U];exact hi):=by
   rw[List.getElem?_map,hix]at ht;simp[List.getD_eq_getElem?_getD,show ix[j]<ts.length by rw[U];exact hi]at ht;exact ht.symm
  obtain⟨b,c,t',h1,h2,h3,h4,h5,h6⟩:=at_ ix[j] (as[ix[j]]'(by rw[Y,g];exact hi)) (aF _);have k3:t'=t:=by
   rw[k2];rw[List.getElem?_eq_getElem (by rw[U];exact hi)]at h1;exact(ae h1).symm
  subst k3;exact⟨_,b,c,k1,I.Ah.fresh (by lia),hHa _ _ b c (aF _) h2,h3,h4⟩
def fx(g:TE):TE:=fun σ H Q=>g σ H fun x H1=>ZC H1 x Q
theorem YU{X:Cx}{o:Expr}{to:TE}{p pos apos g kp Z:Pos}{j}(hc:X.calm=true)(hu:X.A.units+64<cLine)(hg:Gl X "sorted")(hm:X.mg "sorted" = none)(ho:PE X o to)
 (U:attributeBase o "items" X.env (eval o X.env)=eval o X.env:=by rfl)(R:(apos.endLine==g.line)=true:=by rfl)
 (he:backTo pos (starEach [.Call (.Attribute o "items" apos) [] [] g] X.env)=(false,eval (.Call (.Attribute o "items" apos) [] [] g) X.env)::backTo pos (starEach [] X.env):=by rfl)(M:(backTo pos (starEach [.Call (.Attribute o "items" apos) [] [] g] X.env)).any (·.1)=false:=by rfl) :
  PE X (.Call (.Name "sorted" p) [.Call (.Attribute o "items" apos) [] [] g] [⟨some "reverse",.Constant (.bool true) j Z,kp⟩] pos) (fx to):=by
 intro pins s σ H Q I h;refine wpAny_Call_Name_kw (GI I hg hm boot_sorted ?_ (by decide) (by decide));refine callWith_kw ?_ he M;rw[he];refine Calls.spliced_cons (wpAny_Call_method0_late U R (A4 (ho pins s σ H _ I h) fun v s1 ⟨x,H1,I1,r1,q1⟩=>?_));obtain⟨a,es,ep,rfl,nd,rd,fin⟩:=WG I1 r1 hc hu q1;obtain⟨Y,e1,e2,e3⟩:=id rd;refine⟨"dict","dict.items",PySem.F.plainAttrs_dict,PySem.F.slot_dict_items,PySem.F.type_dict_items,⟨Y,e1,e2.1⟩,fun b hb=>?_,Calls.callWith_builtin rfl (PySem.evalArgs_none ?_)⟩
 .cases hb;exact⟨Y,e1,e2.2.1⟩
 refine call_meetsIn PySem.F.slot_dict_items ⟨Y,e1,e2.1⟩ PySem.F.entry_dict_items (PySem.F.args_dict_items_1 _) (YE a nd) ⟨⟨es,ep,rd⟩,?_⟩;exact Calls.spliced_nil (kws_cons (Constant_bool (kws_nil fin)))
end L2
namespace IT
open PySem PySem.W PyProof.Rows PySem.SeqAt
section
open PySem.AutoSeq1 (wpAny_loadPart')
open PySem.MeetsSeq PySem.MeetsSeq2 PySem.MeetsSeq3
theorem Xi(l b:Addr)(items I:Array Value)(n n2:Nat)(dd dd2:Option Addr)(sl sl2:Array (Option Value))(t u:List Int) :
  Meets (Builtin.«tuple.__ge__» ⟨[.ref l,.ref b],[]⟩)
   (fun A R s=>s.heap.get? l=some { cls:=.type "tuple",dict:=dd,data:=.seq items n,slots:=sl}/\s.heap.get? b=some { cls:=.type "tuple",dict:=dd2,data:=.seq I n2,slots:=sl2} /\
    Is t items.toList/\Is u I.toList/\A.units<cLine/\R (.ok (.ret (.bool (!lt t u)))) s) :=
 .of_wp fun prog w A R s h=>by
  obtain⟨hp,g,d,tk,os⟩:=s;obtain⟨hl,hb,hi,hj,hun,h⟩:=h;have f2:=AutoSeq1.sub_tuple_tuple;have z1:items.size=t.length:=by rw[<-Is.length hi];simp
  have z2:I.size=u.length:=by rw[<-Is.length hj];simp
  wp_walk using wpAny_loadPart' hl,wpAny_loadPart' hb,wpAny_forIn_list _ (fun rest b s'=>b.1=none/\s'=⟨hp,g,d,tk,os⟩/\∃(vs ws:List Value) (t' Z:List Int),rest=vs.zip ws /\
   Is t' vs/\Is Z ws/\t'.length+I.size=Z.length+items.size/\R (.ok (.ret (.bool (!lt t' Z)))) ⟨hp,g,d,tk,os⟩) _
  case turn=>
   rintro⟨y,x⟩ rest b s' ⟨hb',rfl,vs,ws,t',Z,hz,Y,U,M,hR⟩;cases t' with
   |nil=>rw[Is]at Y;subst Y;rw[List.zip_nil_left]at hz;cases hz
   |cons bt rt=>
    cases Z with
    |nil=>rw[Is]at U;subst U;rw[List.zip_nil_right]at hz;cases hz
    |cons bu ru=>
     rw[Is]at Y U;obtain⟨a1,v1,rfl,p3⟩:=Y;obtain⟨a2,v2,rfl,q3⟩:=U;rw[List.zip_cons_cons]at hz
     injection hz with hyx hrest
     injection hyx with hy hx
     subst hy hx;rw[lt]at hR;simp only[List.length_cons]at M;have he:=EqAt.int_int (A:=A.in1) (s:=⟨hp,g,d,tk,os⟩) bt a1 bu a2;refine aA (he prog w _ _ ?_);by_cases hc:bt=bu
     .rw[if_pos hc]at hR;rw[beq_iff_eq.mpr hc]
      wp_walk
      exact⟨rfl,rfl,_,_,_,_,hrest,p3,q3,by lia,hR⟩
     .rw[if_neg hc]at hR;rw[beq_eq_false_iff_ne.mpr hc];have hri:∀(E:Value->Shared->Prop) (Q:Value->Shared->Prop),Q (.bool (decide (bu<=bt))) ⟨hp,g,d,tk,os⟩->wpAny (model prog w) A.in1 (richCompare .GtE (.int bt a1) (.int bu a2)) Q E ⟨hp,g,d,tk,os⟩:=fun E Q h=>PyProof.Rows.ge_int h;have e:(!decide (bt<bu))=decide (bu<=bt):=by rw[Bool.eq_iff_iff];simp
      rw[e]at hR
      wp_walk using hri
      exact⟨_,rfl,by simpa using hR⟩
  case fin=>
   rintro⟨b1,b2⟩ s' ⟨hb',rfl,vs,ws,t',Z,hz,Y,U,M,hR⟩;simp only at hb';subst hb';have hv:lt t' Z=decide (items.size<I.size):=by
    cases t' with
    |nil=>
     cases Z with
     |nil=>
      simp only[List.length_nil]at M;exact(bQ (by lia)).symm
     |cons c q=>
      simp only[List.length_cons,List.length_nil]at M;exact(bU (by lia)).symm
    |cons bt rt=>
     cases Z with
     |nil=>
      simp only[List.length_cons,List.length_nil]at M;exact(bQ (by lia)).symm
     |cons c q=>
      rw[Is]at Y U;obtain⟨_,_,rfl,_⟩:=Y;obtain⟨_,_,rfl,_⟩:=U;rw[List.zip_cons_cons]at hz;cases hz
   have e:(!decide (items.size<I.size))=decide (I.size<=items.size):=by rw[Bool.eq_iff_iff];simp
   rw[hv,e]at hR
   wp_walk
   exact⟨_,rfl,by simpa[Builtin.Tuple.tupleCompareSizes]using hR⟩
  case h=>
   exact⟨rfl,rfl,items.toList,I.toList,t,u,rfl,hi,hj,by lia,h⟩
end
section
open PySem.MeetsSeq PySem.MeetsSeq2 PySem.MeetsSeq3
variable{prog:Program}{w:World}{A:Around}{E:Value->Shared->Prop}{s:Shared}{t u:List Int}{a b:Addr}{its its':List Value}
theorem ik{Q:Value->Shared->Prop}(h1:s.heap.IsTuple a its.toArray)(k1:Is t its)(h2:s.heap.IsTuple b its'.toArray)(k2:Is u its')(hu:A.units+1<cLine)(h:Q (.bool (!lt t u)) s):wpAny (model prog w) A (richCompare .GtE (.ref a) (.ref b)) Q E s:=by
 obtain⟨⟨cls,dd,data,sl⟩,Z,hc,n,M⟩:=id h1;obtain⟨⟨cls2,Y,data2,U⟩,I,R,n2,g⟩:=id h2;simp only at hc M R g;subst hc M R g;exact richCompare_meets_room (op:=.GtE) ⟨_,Z,rfl⟩ ⟨_,I,rfl⟩ PySem.F.slot_tuple_ge PySem.F.entry_tuple_ge (PySem.F.args_tuple_ge_2 _ _) (Xi a b its.toArray its'.toArray n n2 dd Y sl U t u)
  ⟨Z,I,by simpa using k1,by simpa using k2,by lia,show Value.bool (!lt t u)≠Value.notImplemented/\Q (.bool (!lt t u)) s from⟨(fun x=>nomatch x),h⟩⟩ (by lia)
end
end IT
namespace L2
open PySem PySem.Spec PyProof.Rows
theorem dh{X:Cx}(hu:X.A.units+64<cLine):Cn X (compareOp .GtE) (fun x y H Q=>∃(a b:Addr) (ps qs:List Int),x=.ref a/\y=.ref b/\H a=some (.tup (ps.map V.int))/\H b=some (.tup (qs.map V.int))/\Q (.bl (!IT.lt ps qs)) H):=by
 intro pins s σ H x y v u' Q I U R h;obtain⟨a,b,ps,qs,rfl,rfl,ha,hb,q⟩:=h;cases U;cases R;obtain⟨i1,M,Z,_⟩:=I.tuple (Af.of (K:=X.K) ha);obtain⟨i2,g,Y,_⟩:=I.tuple (Af.of (K:=X.K) hb);exact IT.ik Z (Ng M) Y (Ng g) (by lia) ⟨.bl _,H,I,rfl,q⟩
end L2
namespace TH
open PySem PyProof.Rows PySem.SeqAt
def VD:Tr->List Int
 |.nil=>[]
 |.cons b r=>reduceHash (Builtin.Tuple.tupleHashOf (VD b))::VD r
def gc(t:Tr):Int:=reduceHash (Builtin.Tuple.tupleHashOf (VD t))
end TH
namespace TH
open PySem PyProof.Rows PySem.SeqAt
section
variable{h:Int}
theorem NQ{n:Nat}(h:n<=100000):n<=sizeLine:=aU h (by rw[sizeLine_eq];decide)
end
end TH
namespace TH
open PySem PyProof.Rows PySem.SeqAt
section
variable{prog:Program}{w:World}{A:Around}{E:Value->Shared->Prop}{s:Shared}
theorem gather{T:String}{r d:Addr}{n:Nat}{P:Nat->Value->Prop}{U:Heap->Prop}{R:List Value->Shared->Prop}(K:PySem.W.KdlSrc prog w T r d n P U)(Z:A.handled=none)(Ah:U s.heap)(hn:n<=sizeLine)
 (k:∀(h1:Heap) (tk:Nat) (g:Array Value),s.heap.objs.size<h1.objs.size->(∀b u,s.heap.get? b=some u->h1.get? b=some u)->ItemsOf P g n->R g.toList {s with heap:=h1,toks:=tk}) :
  wpAny (model prog w) A (collect (.ref r)) R E s:=by
 obtain⟨Y,ld⟩:=K.there _ Ah;unfold collect;refine aA (wpAny_runValue (codeAny_builtin entry_proto_collect' ?_));rw[Around.under_plainId PySem.F.plain_proto_collect _];show wpAny _ A.in1 (newList []>>=fun v=>again (.builtin "list.__iadd__" ⟨[v,.ref r],[]⟩)) _ _ s;refine aA (aZ (aC ⟨plainId_quiet PySem.F.plain_list_iadd _,codeAny_builtin entry_list_iadd' ?_⟩));rw[Around.under_plainId PySem.F.plain_list_iadd _];have g0:(s.heap.push { cls:=.type "list",data:=.seq ([]:List Value).toArray}).get? s.heap.objs.size=some { cls:=.type "list",data:=.seq #[]}:=aX _ rfl;have main:=PySem.W.kdl_extend (A:=A) (s:={s with heap:=s.heap.push { cls:=.type "list",data:=.seq ([]:List Value).toArray} }) K Z
  (K.keep _ _ Ah fun _ _ _ e=>aE _ e) s.heap.objs.size (bE Y) (bE ld) (.ref s.heap.objs.size) 0 g0
  (R:=fun q s1=>∃h1 tk g c,q=.ok (.ret (.ref s.heap.objs.size))/\s1={s with heap:=h1,toks:=tk}/\(∀b u,s.heap.get? b=some u->h1.get? b=some u)/\h1.get? s.heap.objs.size=some { cls:=.type "list",dict:=none,data:=.seq g c,slots:=#[]}/\ItemsOf P g n)
  (fun h1 tk g c M I ha=>⟨h1,tk,g,c,rfl,rfl,fun b u e=>M b u (aT (aG e)) (aE _ e),I,ha⟩) hn
 refine ak main (fun fin s1 x=>?_) fun e s1 x=>?_
 .cases fin with
  |done f=>
   obtain⟨h1,tk,g,c,e,rfl,M,I,ha⟩:=x;cases e;show wpAny _ A (load s.heap.objs.size>>=_) _ _ _;exact aA (wpAny_load I (aC (k h1 tk g (aG I) M ha)))
  |again c1=>
   refine⟨x.1,codeAny_mono x.2 fun q s2 y=>?_⟩;obtain⟨h1,tk,g,c,rfl,rfl,M,I,ha⟩:=y;show wpAny _ A (load s.heap.objs.size>>=_) _ _ _;exact aA (wpAny_load I (aC (k h1 tk g (aG I) M ha)))
 .obtain⟨_,_,_,_,z,_⟩:=x;cases z
end
end TH
namespace TH
open PySem PyProof.Rows
def ig:Option Tr->Int
 |none=>4238894112
 |some t=>gc t
abbrev KE:=Option Tr×Value×Value
def kP(x:KE):DictEntry:=⟨ig x.1,x.2.1,x.2.2⟩
end TH
namespace L2
open PySem PySem.Spec PyProof.Rows
abbrev KR:=Option Tr×V×V
def jO(q:KR)(x:TH.KE):Prop:=x.1=q.1/\RelV q.2.1 x.2.1/\RelV q.2.2 x.2.2
def dN(d:Addr)(r:List KR):HO:=.ext fun h=>(d==sysModules)=false/\∃o g I xs,h.get? d=some o/\o.ExactDict/\o.data=.dict g I/\g.toList=xs.map TH.kP/\PySem.Paired jO r xs
def VB(H:Hp):Option Tr->V->Prop
 |none,v=>v=.BM
 |some t,v=>t.deep<8/\Tv H t v
theorem VB.same{H H':Hp}{k:Option Tr}{v:V}(h:VB H k v)(e:AG H H'):VB H' k v:=by
 cases k with
 |none=>exact h
 |some t=>exact⟨h.1,h.2.same e⟩
section
variable{X:Cx}
theorem Jj(hc:X.calm=true):HN X (.builtin "sum") (fun xs H Q=>∃(p:Addr) (ns:List Int),xs=[.ref p]/\Af X.K H p (ns.map V.int)/\Q (.int ns.sum) H):=by
 intro pins s σ H xs us Q I r h;obtain⟨p,ns,rfl,hq,q⟩:=h;obtain⟨u,rfl,r1⟩:=r.one;cases r1;obtain⟨U,rv,pl,hz⟩:=I.tuple hq;have hi:=intsAre_of rv;obtain⟨xs,Z⟩:=hi.allInts.items;have g:s.heap.IsTuple p (intItems xs):=Z ▸ pl
 have R:p<s.heap.objs.size:=by obtain⟨_,e,_⟩:=g;exact aG e
 have e1:ns=xs.toList.map (·.1):=by
  rw[<-nums_intItems,<-Z];exact(show numsOf U.toArray.toList=ns from hi.numsOf).symm
 have e2:preSum (numAt xs) xs.size=ns.sum:=by
  rw[preSum_eq,List.take_of_length_le (by simp),e1]
 refine call_sum_walkG (wpAny_pyIter_tuple g ?_);refine⟨_,[_,p],[_],_,_,_,numAt xs,rfl,Walks.tuple (A:=X.A.in1) (I.ok.hd hc) _ p (aT R) (intItems xs),
  ⟨⟨_,Heap.get?_push_size _ rfl,rfl,rfl⟩,g.push _⟩,fun c M=>?_,(fun _ _=>intItems_at),fun h' tk Y hk=>?_⟩
 .show c<(s.heap.push _).objs.size;rw[Heap.size_push];rcases aY.mp M with rfl|M
  .exact Nat.lt_succ_self _
  .rw[List.mem_singleton.mp M];exact bX R
 .have e3:preSum (numAt xs) (intItems xs).size=ns.sum:=by
   rw[<-e2];simp[intItems]
  rw[e3];exact⟨.int _,H,I.kept (t':=tk) (PyProof.Rows.LSm.kept_iter hk),⟨Y,rfl⟩,q⟩
end
end L2
set_option maxHeartbeats 1000000
namespace L2
open PySem PySem.Spec PyProof.Rows
theorem Rd.same{H H':Hp}{a:Addr}{u:HO}(e:AG H H')(h:Rd H a u):Rd H' a u:=by
 rcases h with h|⟨o,h⟩
 .exact .inl (e _ _ h)
 .exact .inr ⟨o,e _ _ h⟩
def ES:Tr->List PyData
 |.nil=>[]
 |.cons b r=>.tuple (ES b)::ES r
def fE:Option Tr->PyData
 |none=>.none
 |some t=>.tuple (ES t)
mutual
def Du(H:Hp):PyData->V->Prop
 |.none,v=>v=.BM
 |.bool b,v=>v=.bl b
 |.int i,v=>v=.int i
 |.str x,v=>v=.str x
 |.tuple I,v=>∃a xs,v=.ref a/\H a=some (.tup xs)/\A0 H I xs
 |.list I,v=>∃a xs,v=.ref a/\H a=some (.lst xs)/\A0 H I xs
 |.dict kv,v=>(∃g C:Addr,kv=[(.int (C:Nat),.none)]/\v=.ref g/\H g=some (jf g (.ref C)))\/(∃(a:Addr) (ns:List Int),kv=[(.none,.list (ns.map .int))]/\v=.ref a/\Rd H a (.lst (ns.map V.int)))\/Nn H kv v
def A0(H:Hp):List PyData->List V->Prop
 |[],xs=>xs=[]
 |d::g,xs=>∃x r,xs=x::r/\Du H d x/\A0 H g r
def Nn(H:Hp):List (PyData×PyData)->V->Prop
 |[],_=>False
 |(g,I)::t,v=>g=.bool true/\I=.none/\∃a r,v=.ref a/\H a=some (dN a r)/\(r.map (·.1)).Nodup/\Kp H t r
def Kp(H:Hp):List (PyData×PyData)->List KR->Prop
 |[],r=>r=[]
 |(k,d)::t,r=>∃q g,r=q::g/\k=fE q.1/\VB H q.1 q.2.1/\Du H d q.2.2/\Kp H t g
end
mutual
theorem Du.same{H H':Hp}(e:AG H H'):∀ {d:PyData} {v:V},Du H d v->Du H' d v
 |.none,_,h=>by rw[Du]at h ⊢;exact h
 |.bool _,_,h=>by rw[Du]at h ⊢;exact h
 |.int _,_,h=>by rw[Du]at h ⊢;exact h
 |.str _,_,h=>by rw[Du]at h ⊢;exact h
 |.tuple _,_,h=>by
  rw[Du]at h ⊢;obtain⟨a,xs,I,g,M⟩:=h;exact⟨a,xs,I,e _ _ g,A0.same e M⟩
 |.list _,_,h=>by
  rw[Du]at h ⊢;obtain⟨a,xs,I,g,M⟩:=h;exact⟨a,xs,I,e _ _ g,A0.same e M⟩
 |.dict _,_,h=>by
  rw[Du]at h ⊢;rcases h with ⟨U,C,I,R,g⟩|⟨a,ns,I,R,g⟩|h
  .exact .inl ⟨U,C,I,R,e _ _ g⟩
  .exact .inr (.inl ⟨a,ns,I,R,g.same e⟩)
  .exact .inr (.inr (Nn.same e h))
theorem A0.same{H H':Hp}(e:AG H H'):∀ {ds:List PyData} {xs:List V},A0 H ds xs->A0 H' ds xs
 |[],_,h=>by rw[A0]at h ⊢;exact h
 |_::_,_,h=>by
  rw[A0]at h ⊢;obtain⟨x,r,M,I,g⟩:=h;exact⟨x,r,M,Du.same e I,A0.same e g⟩
theorem Nn.same{H H':Hp}(e:AG H H'):∀ {kv:List (PyData×PyData)} {v:V},Nn H kv v->Nn H' kv v
 |[],_,h=>by rw[Nn]at h;exact h.elim
 |(_,_)::_,_,h=>by
  rw[Nn]at h ⊢;obtain⟨Y,U,a,r,R,M,I,g⟩:=h;exact⟨Y,U,a,r,R,e _ _ M,I,Kp.same e g⟩
theorem Kp.same{H H':Hp}(e:AG H H'):∀ {kv:List (PyData×PyData)} {r:List KR},Kp H kv r->Kp H' kv r
 |[],_,h=>by rw[Kp]at h ⊢;exact h
 |(_,_)::_,_,h=>by
  rw[Kp]at h ⊢;obtain⟨q,g,Y,U,R,M,I⟩:=h;exact⟨q,g,Y,U,R.same e,Du.same e M,Kp.same e I⟩
end
mutual
theorem Du.br{K:PySem.W.Frag}{H:Hp}:∀ {d:PyData} {v:V},d.canLay0=true->Du H d v->Br K H d v
 |.none,_,_,h=>by rw[Du]at h;rw[Br];exact h
 |.bool _,_,_,h=>by rw[Du]at h;rw[Br];exact h
 |.int _,_,_,h=>by rw[Du]at h;rw[Br];exact h
 |.str _,_,_,h=>by rw[Du]at h;rw[Br];exact h
 |.tuple _,_,c,h=>by
  rw[Du]at h;rw[Br];obtain⟨a,xs,M,I,g⟩:=h;exact⟨a,xs,M,Af.of I,A0.br (by simp only[PyData.canLay0,Bool.and_eq_true]at c;first|exact c|exact c.2|exact c.1) g⟩
 |.list _,_,c,h=>by
  rw[Du]at h;rw[Br];obtain⟨a,xs,M,I,g⟩:=h;exact⟨a,xs,M,AO.of I,A0.br (by simp only[PyData.canLay0,Bool.and_eq_true]at c;first|exact c|exact c.2|exact c.1) g⟩
 |.dict _,_,c,h=>by simp[PyData.canLay0]at c
theorem A0.br{K:PySem.W.Frag}{H:Hp}:∀ {ds:List PyData} {xs:List V},PyData.canLayAll0 ds=true->A0 H ds xs->Dz K H ds xs
 |[],_,_,h=>by rw[A0]at h;rw[Dz];exact h
 |_::_,_,c,h=>by
  rw[A0]at h;rw[Dz];obtain⟨x,r,M,I,g⟩:=h;simp only[PyData.canLayAll0,Bool.and_eq_true]at c;exact⟨x,r,M,Du.br c.1 I,A0.br c.2 g⟩
end
theorem A0.nil{H:Hp}:A0 H [] []:=by rw[A0]
theorem A0.cons{H:Hp}{d:PyData}{ds:List PyData}{x:V}{xs:List V}(h:Du H d x)(k:A0 H ds xs):A0 H (d::ds) (x::xs):=by rw[A0];exact⟨x,xs,rfl,h,k⟩
theorem A0.un{H:Hp}{d:PyData}{ds:List PyData}{xs:List V}(h:A0 H (d::ds) xs):∃x r,xs=x::r/\Du H d x/\A0 H ds r:=by rw[A0]at h;exact h
theorem A0.nil_eq{H:Hp}{xs:List V}(h:A0 H [] xs):xs=[]:=by rw[A0]at h;exact h
theorem A0.len{H:Hp}:∀ {ds:List PyData} {xs:List V},A0 H ds xs->xs.length=ds.length
 |[],_,h=>by rw[h.nil_eq];rfl
 |_::_,_,h=>by obtain⟨x,r,rfl,_,g⟩:=h.un;simp[g.len]
theorem A0.get{H:Hp}:∀ {ds:List PyData} {xs:List V} {i:Nat} {d:PyData},A0 H ds xs->ds[i]? = some d->∃v,xs[i]? = some v/\Du H d v
 |[],_,i,_,_,e=>by simp at e
 |_::_,_,0,_,h,e=>by
  obtain⟨x,r,rfl,R,_⟩:=h.un;simp at e;subst e;exact⟨x,rfl,R⟩
 |_::_,_,i+1,_,h,e=>by
  obtain⟨x,r,rfl,_,M⟩:=h.un;obtain⟨v,I,g⟩:=M.get (i:=i) (by simpa using e);exact⟨v,by simpa using I,g⟩
theorem A0.back{H:Hp}{ds:List PyData}{xs:List V}{i:Nat}{v:V}(h:A0 H ds xs)(e:xs[i]? = some v):∃d,ds[i]? = some d/\Du H d v:=by
 have M:=h.len;have hi:i<ds.length:=by rw[<-M];exact(aB.mp e).1
 have hd:ds[i]? = some ds[i]:=by simp[hi]
 obtain⟨w,g,I⟩:=h.get hd;rw[e]at g;cases g;exact⟨_,hd,I⟩
theorem A0.app{H:Hp}:∀ {ds es:List PyData} {xs ys:List V},A0 H ds xs->A0 H es ys->A0 H (ds++es) (xs++ys)
 |[],_,_,_,h,k=>by rw[h.nil_eq];exact k
 |_::_,_,_,_,h,k=>by obtain⟨x,r,rfl,I,g⟩:=h.un;exact .cons I (g.app k)
theorem A0.rev{H:Hp}:∀ {ds:List PyData} {xs:List V},A0 H ds xs->A0 H ds.reverse xs.reverse
 |[],_,h=>by rw[h.nil_eq];exact .nil
 |_::_,_,h=>by
  obtain⟨x,r,rfl,I,g⟩:=h.un;rw[List.reverse_cons,List.reverse_cons];exact g.rev.app (.cons I .nil)
inductive Oc where
 |lst (xs:List PyData)|JW (kvs:List (List Key×PyData))|WY (kvs:List (Option Tr×PyData))
inductive L where
 |no|d (x:PyData)|own (c:Oc)
abbrev Dv:=List L
def Hs(G:Hp):List (List Key×PyData)->List (List Key×V)->Prop
 |[],r=>r=[]
 |q::t,r=>∃v g,r=(q.1,v)::g/\Du G q.2 v/\Hs G t g
theorem Hs.same{G g:Hp}(e:AG G g):∀ {t:List (List Key×PyData)} {r:List (List Key×V)},Hs G t r->Hs g t r
 |[],r,h=>h
 |q::t,r,h=>by
  obtain⟨v,I,rfl,R,M⟩:=h;exact⟨v,I,rfl,R.same e,Hs.same e M⟩
abbrev Yz(kvs:List (Option Tr×PyData)):List (PyData×PyData):=kvs.map fun q=>(fE q.1,q.2)
abbrev iI(kvs:List (Option Tr×PyData)):PyData:=.dict ((.bool true,.none)::Yz kvs)
def LH(G:Hp)(a:Addr):Oc->HO->Prop
 |.lst xs,o=>∃ys,o=.lst ys/\A0 G xs ys
 |.JW kvs,o=>∃r,o=.dT r/\Hs G kvs r
 |.WY kvs,o=>∃r,o=dN a r/\(r.map (·.1)).Nodup/\Kp G (Yz kvs) r
theorem LH.same{G M:Hp}{a:Addr}{c:Oc}{o:HO}(h:LH G a c o)(e:AG G M):LH M a c o:=by
 cases c with
 |WY kvs=>obtain⟨r,I,g,R⟩:=h;exact⟨r,I,g,Kp.same e R⟩
 |lst xs=>obtain⟨ys,I,g⟩:=h;exact⟨ys,I,g.same e⟩
 |JW kvs=>obtain⟨ys,I,g⟩:=h;exact⟨ys,I,g.same e⟩
theorem LH.VZ{G:Hp}{a:Addr}{c:Oc}{xs:List V}(h:LH G a c (.tup xs)):False:=by
 cases c with
 |WY kvs=>obtain⟨r,g,I,M⟩:=h;unfold dN at g;cases g
 |lst xs=>obtain⟨ys,g,I⟩:=h;cases g
 |JW kvs=>obtain⟨ys,g,I⟩:=h;cases g
def Nw(G0 H0 G:Hp):Prop:=∀a o,G a=some o->G0 a=some o\/H0 a=none\/∃xs,o=HO.tup xs
structure Rw(G0 H0 G H:Hp)(σ:St)(δ:Dv)(ts:List (PyData×V)):Prop where
 ext:AG G0 G
 new:Nw G0 H0 G
 ins:AG G H
 keep:AG H0 H
 len:σ.length=δ.length
 dat:∀(i:Nat) (x:PyData),δ[i]? = some (L.d x)->∃v,σ[i]? = some (some v)/\Du G x v
 own:∀(i:Nat) (xs:Oc),δ[i]? = some (L.own xs)->∃(a:Addr) (ys:HO),σ[i]? = some (some (V.ref a))/\G a=none/\H0 a=none/\H a=some ys/\LH G a xs ys
 apart:∀(i j:Nat) (xs ys:Oc),i≠j->δ[i]? = some (L.own xs)->δ[j]? = some (L.own ys)->σ[i]?≠σ[j]?
 Cd:∀p∈ts,Du G p.1 p.2
def DE(X:Cx)(e:Expr)(f:Dv->Option PyData):Prop:=∃t,PE X e t/\∀δ x,f δ=some x->∀G0 H0 G H σ ts (Q:VK),Rw G0 H0 G H σ δ ts->(∀v g H',Rw G0 H0 g H' σ δ ((x,v)::ts)->Q v H')->t σ H Q
def DA(X:Cx)(es:List Expr)(f:Dv->Option (List PyData)):Prop:=∃t,PA X es t/\∀δ xs,f δ=some xs->∀G0 H0 G H σ ts (Q:List V->Hp->Prop),Rw G0 H0 G H σ δ ts->(∀vs g H',Rw G0 H0 g H' σ δ (xs.zip vs++ts)->vs.length=xs.length->Q vs H')->t σ H Q
def DT(X:Cx)(e:Expr)(f:Dv->Option Bool):Prop:=∃t,PT X e t/\∀δ b,f δ=some b->∀G0 H0 G H σ ts (Q:Bool->Hp->Prop),Rw G0 H0 G H σ δ ts->(∀g H',Rw G0 H0 g H' σ δ ts->Q b H')->t σ H Q
section
variable{G0 H0 G H:Hp}{σ:St}{δ:Dv}{ts:List (PyData×V)}
theorem Rw.drop{p:PyData×V}(r:Rw G0 H0 G H σ δ (p::ts)):Rw G0 H0 G H σ δ ts:={r with Cd:=fun q g=>r.Cd q (.tail _ g)}
theorem Rw.less{us:List (PyData×V)}(r:Rw G0 H0 G H σ δ ts)(h:∀p∈us,p∈ts):Rw G0 H0 G H σ δ us:={r with Cd:=fun q g=>r.Cd q (h q g)}
theorem Rw.put{x:PyData}{v:V}(r:Rw G0 H0 G H σ δ ts)(h:Du G x v):Rw G0 H0 G H σ δ ((x,v)::ts):={r with Cd:=fun q g=>by rcases aY.mp g with rfl|g;exact h;exact r.Cd q g}
theorem Rw.newObj{p:Addr}{o:HO}(r:Rw G0 H0 G H σ δ ts)(g:H p=none):Rw G0 H0 (upd G p o) (upd H p o) σ δ ts:=by
 have hG:G p=none:=by
  cases q:G p with
  |none=>rfl
  |some u=>rw[r.ins _ _ q]at g;cases g
 have h0:H0 p=none:=by
  cases q:H0 p with
  |none=>rfl
  |some u=>rw[r.keep _ _ q]at g;cases g
 have e:AG G (upd G p o):=AK hG o;refine⟨r.ext.trans e,fun a u h=>?_,fun a u h=>?_,r.keep.trans (AK g o),r.len,fun i x h=>?_,fun i xs h=>?_,r.apart,fun q Z=>(r.Cd q Z).same e⟩
 .by_cases ha:a=p
  .subst ha;exact .inr (.inl h0)
  .rw[AI ha]at h;exact r.new _ _ h
 .by_cases ha:a=p
  .subst ha;rw[AH]at h ⊢;exact h
  .rw[AI ha]at h ⊢;exact r.ins _ _ h
 .obtain⟨v,M,I⟩:=r.dat i x h;exact⟨v,M,I.same e⟩
 .obtain⟨a,ys,M,I,Y,R,U⟩:=r.own i xs h;have ha:a≠p:=fun z=>by subst z;rw[R]at g;cases g
  exact⟨a,ys,M,by rw[AI ha];exact I,Y,by rw[AI ha];exact R,U.same e⟩
theorem Rw.cm{p:Addr}{xs:List V}{H':Hp}(r:Rw G0 H0 G H σ δ ts)(e:AG H H')(g:H' p=some (.tup xs)):Rw G0 H0 (upd G p (.tup xs)) H' σ δ ts:=by
 have I:AG G (upd G p (.tup xs)):=fun a o h=>by
  by_cases ha:a=p
  .subst ha;have:=e _ _ (r.ins _ _ h);rw[g]at this;rw[AH];exact this
  .rw[AI ha];exact h
 refine⟨r.ext.trans I,fun a u h=>?_,fun a u h=>?_,r.keep.trans e,r.len,fun i x h=>?_,fun i xs h=>?_,r.apart,fun q hq=>(r.Cd q hq).same I⟩
 .by_cases ha:a=p
  .subst ha;rw[AH]at h;cases h;exact .inr (.inr ⟨_,rfl⟩)
  .rw[AI ha]at h;exact r.new _ _ h
 .by_cases ha:a=p
  .subst ha;rw[AH]at h;rw[g];exact h
  .rw[AI ha]at h;exact e _ _ (r.ins _ _ h)
 .obtain⟨v,R,M⟩:=r.dat i x h;exact⟨v,R,M.same I⟩
 .obtain⟨a,ys,R,M,Z,Y,U⟩:=r.own i xs h;have ha:a≠p:=fun z=>by subst z;rw[e _ _ Y]at g;cases g;exact U.VZ
  exact⟨a,ys,R,by rw[AI ha];exact M,Z,e _ _ Y,U.same I⟩
theorem Rw.lift{g H':Hp}(r:Rw G0 H0 G H σ δ ts)(h1:AG G g)(h2:Nw G H g)(Z:AG g H')(U:AG H H'):Rw G0 H0 g H' σ δ ts:=by
 refine⟨r.ext.trans h1,fun a o h=>?_,Z,r.keep.trans U,r.len,fun i x h=>?_,fun i xs h=>?_,r.apart,fun q hq=>(r.Cd q hq).same h1⟩
 .rcases h2 a o h with k|k|k
  .exact r.new a o k
  .right;left
   cases q:H0 a with
   |none=>rfl
   |some u=>rw[r.keep _ _ q]at k;cases k
  .exact .inr (.inr k)
 .obtain⟨v,R,M⟩:=r.dat i x h;exact⟨v,R,M.same h1⟩
 .obtain⟨a,ys,R,M,k3,I,Y⟩:=r.own i xs h;refine⟨a,ys,R,?_,k3,U _ _ I,Y.same h1⟩;cases q:g a with
  |none=>rfl
  |some u=>
   rcases h2 a u q with z|z|⟨xs',z⟩
   .rw[M]at z;cases z
   .rw[I]at z;cases z
   .have:=Z _ _ q;rw[U _ _ I,z]at this;cases this;exact Y.VZ.elim
end
section
variable{X:Cx}{a b e:Expr}{f g h:Dv->Option PyData}{pos:Pos}
theorem Ca{i j pos}:DE X (.Constant (.int i) j pos) (fun _=>some (.int i)):=⟨_,AE,fun δ x h G0 H0 G H σ ts Q r k=>by cases h;exact k _ _ _ (r.put (by rw[Du]))⟩
theorem gn{i j pos}:DE X (.Constant (.bool i) j pos) (fun _=>some (.bool i)):=⟨_,CO,fun δ x h G0 H0 G H σ ts Q r k=>by cases h;exact k _ _ _ (r.put (by rw[Du]))⟩
def nm(i:Nat)(δ:Dv):Option PyData:=match δ[i]? with|some (.d x)=>some x|_=>none
theorem iK{i:Nat}{δ:Dv}{x:PyData}(h:nm i δ=some x):δ[i]? = some (.d x):=by
 unfold nm at h;split at h
 .rename_i y e;cases h;exact e
 .cases h
theorem Ak{i:Nat}{x:Str}(h:PE X (.Name x pos) (VG i)):DE X (.Name x pos) (nm i):=⟨_,h,fun δ y I G0 H0 G H σ ts Q r k=>by
 obtain⟨v,R,M⟩:=r.dat _ _ (iK I);exact⟨v,R,k _ _ _ (r.put M)⟩⟩
def CU(o:PyData->PyData->Option PyData)(f g:Dv->Option PyData)(δ:Dv):Option PyData:=(f δ).bind fun x=>(g δ).bind fun y=>o x y
def Gp(X:Cx)(m:Value->Value->Sem Value)(o:PyData->PyData->Option PyData):Prop:=∃r:R2,Cn X m r/\∀x y z,o x y=some z->∀G0 H0 G H σ δ ts u v (Q:VK),Rw G0 H0 G H σ δ ts->Du G x u->Du G y v->(∀w I H',Rw G0 H0 I H' σ δ ((z,w)::ts)->Q w H')->r u v H Q
theorem two{x y:PyData}{f g:Dv->Option PyData}{δ:Dv}{o:PyData->PyData->Option PyData}{z:PyData}(h:CU o f g δ=some z):∃x y,f δ=some x/\g δ=some y/\o x y=some z:=by
 unfold CU at h;obtain⟨x,U,R⟩:=aK.mp h;obtain⟨y,M,I⟩:=aK.mp R;exact⟨x,y,U,M,I⟩
theorem IJ{op:Operator}{o:PyData->PyData->Option PyData}(ho:Gp X (binaryOp op) o)(ha:DE X a f)(hb:DE X b g):DE X (.BinOp a op b pos) (CU o f g):=by
 obtain⟨r,hr,R⟩:=ho;obtain⟨ta,M,Y⟩:=ha;obtain⟨tb,I,U⟩:=hb;refine⟨_,Aa hr M I,fun δ z Z G0 H0 G H σ ts Q R0 k=>?_⟩;obtain⟨x,y,h1,h2,h3⟩:=two (x:=.none) (y:=.none) Z;refine Y δ x h1 G0 H0 G H σ ts _ R0 fun u G1 H1 R1=>?_;refine U δ y h2 G0 H0 G1 H1 σ _ _ R1 fun v G2 H2 R2=>?_;exact R x y z h3 G0 H0 G2 H2 σ δ ts u v Q (R2.drop.drop) (R2.Cd (x,u) (.tail _ (.head _))) (R2.Cd (y,v) (.head _)) k
end
section
variable{X:Cx}
def P4(o o':PyData->PyData->Option PyData)(x y:PyData):Option PyData:=match o x y with|some z=>some z|none=>o' x y
theorem Gp.or{m:Value->Value->Sem Value}{o o':PyData->PyData->Option PyData}(h:Gp X m o)(h':Gp X m o'):Gp X m (P4 o o'):=by
 obtain⟨r,Z,Y⟩:=h;obtain⟨r',M,I⟩:=h';refine⟨_,Cn.or Z M,fun x y z g G0 H0 G H σ δ ts u v Q U du R k=>?_⟩;unfold P4 at g;split at g
 .rename_i z' e;cases g;exact .inl (Y x y z e G0 H0 G H σ δ ts u v Q U du R k)
 .exact .inr (I x y z g G0 H0 G H σ δ ts u v Q U du R k)
theorem cA{m:Value->Value->Sem Value}{C:Int->Int->Prop}{I:Int->Int->V}{o:Int->Int->Option PyData}(R:Cn X m (rI C I))(U:∀i j z,o i j=some z->C i j/\∀H,Du H z (I i j)) :
  Gp X m (fun x y=>match x,y with|.int i,.int j=>o i j|_,_=>none):=by
 refine⟨_,R,fun x y z g G0 H0 G H σ δ ts u v Q R0 du M k=>?_⟩;dsimp only at g;split at g
 .rename_i i j;rw[Du]at du M;obtain⟨Z,Y⟩:=U i j z g;exact⟨i,j,du,M,Z,k _ _ _ (R0.put (Y _))⟩
 .cases g
theorem Xm{m:Value->Value->Sem Value}{I:Int->Int->V}{o:Int->Int->PyData}(R:Cn X m (Py I))(U:∀i j H,Du H (o i j) (I i j)) :
  Gp X m (fun x y=>match x,y with|.int i,.int j=>some (o i j)|_,_=>none):=by
 refine⟨_,R,fun x y z g G0 H0 G H σ δ ts u v Q Y du M k=>?_⟩;dsimp only at g;split at g
 .rename_i i j;cases g;rw[Du]at du M;exact⟨i,j,du,M,k _ _ _ (Y.put (U _ _ _))⟩
 .cases g
def El:Nat:=1000
theorem Ot{n:Nat}(h:n<=El):n<sizeLine:=P6 h
theorem GA{n:Nat}(h:n<=El):n<=sizeLine:=bZ (P6 h)
def eA:PyData->PyData->Option PyData:=fun x y=>match x,y with|.int i,.int j=>some (.int (i+j))|_,_=>none
def Oh(n:Nat)(i:Int):Bool:=decide (i.natAbs<2^n)
def Nd(i j:Int):Bool:=Oh 64 i||Oh 64 j||(Oh 9000 i&&Oh 9000 j)
def Q4:PyData->PyData->Option PyData:=fun x y=>match x,y with|.int i,.int j=>(if Nd i j=true then some (.int (i*j)) else none)|_,_=>none
theorem Zd:Gp X (binaryOp .Add) eA:=Xm B2 fun _ _ _=>by rw[Du]
theorem Y1{i:Int}(h:Oh 64 i=true):-(2^64)<i/\i<2^64:=by
 have:=af h
 lia
theorem Zp:Gp X (binaryOp .Mult) Q4:=cA (o:=fun i j=>if Nd i j=true then some (.int (i*j)) else none) A9 fun i j z h=>by
 split at h
 .rename_i q;cases h;refine⟨?_,fun _=>by rw[Du]⟩;unfold Nd at q;rw[Bool.or_eq_true,Bool.or_eq_true,Bool.and_eq_true]at q;rcases q with (q|q)|q
  .exact .inl (.inl (Y1 q))
  .exact .inl (.inr (Y1 q))
  .exact .inr ⟨9000,by decide,of_decide_eq_true q.1,of_decide_eq_true q.2⟩
 .cases h
def Xc:PyData->PyData->Option PyData:=fun x y=>match x,y with|.list a,.list b=>(if a.length+b.length<=El then some (.list (a++b)) else none)|_,_=>none
theorem Zn:Gp X (binaryOp .Add) Xc:=by
 refine⟨_,Lg,fun x y z g G0 H0 G H σ δ ts u v Q M du Y k=>?_⟩;unfold Xc at g;split at g
 .rename_i a b;split at g
  .rename_i Z;cases g;rw[Du]at du Y;obtain⟨p,xs,rfl,h1,U⟩:=du;obtain⟨q,ys,rfl,h3,R⟩:=Y;refine⟨p,q,xs,ys,rfl,rfl,M.ins _ _ h1,M.ins _ _ h3,GA (by rw[U.len,R.len];exact Z),fun l I=>?_⟩;have R1:=M.newObj (o:=.lst (xs++ys)) I;refine k _ _ _ (R1.put ?_);rw[Du];have e:AG G (upd G l (.lst (xs++ys))):=fun a o h=>by
    have:=M.ins _ _ h;rw[AI (AM this I)];exact h
   exact⟨l,xs++ys,rfl,AH,(U.same e).app (R.same e)⟩
  .cases g
 .cases g
def U9:PyData->PyData->Option PyData:=fun x y=>match x,y with|.tuple a,.tuple b=>(if a.length+b.length<=El then some (.tuple (a++b)) else none)|_,_=>none
theorem b4:Gp X (binaryOp .Add) U9:=by
 refine⟨_,Oi,fun x y z g G0 H0 G H σ δ ts u v Q I du Z k=>?_⟩;unfold U9 at g;split at g
 .rename_i a b;split at g
  .rename_i hl;cases g;rw[Du]at du Z;obtain⟨p,xs,rfl,h1,U⟩:=du;obtain⟨q,ys,rfl,h3,R⟩:=Z;refine⟨p,q,xs,ys,rfl,rfl,I.ins _ _ h1,I.ins _ _ h3,GA (by rw[U.len,R.len];exact hl),fun l H' e M=>?_⟩;have R1:=I.cm e M;refine k _ _ _ (R1.put ?_);rw[Du];have Y:AG G (upd G l (.tup (xs++ys))):=fun a o h=>by
    by_cases ha:a=l
    .subst ha;have:=e _ _ (I.ins _ _ h);rw[M]at this;rw[AH];exact this
    .rw[AI ha];exact h
   exact⟨l,xs++ys,rfl,AH,(U.same Y).app (R.same Y)⟩
  .cases g
 .cases g
def X2:PyData->PyData->Option PyData:=fun x y=>match x,y with|.str a,.str b=>(if a.length+b.length<=El then some (.str (a++b)) else none)|_,_=>none
theorem Zi:Gp X (binaryOp .Add) X2:=by
 refine⟨_,Vo,fun x y z g G0 H0 G H σ δ ts u v Q R du I k=>?_⟩;unfold X2 at g;split at g
 .rename_i a b;split at g
  .rename_i M;cases g;rw[Du]at du I;exact⟨a,b,du,I,GA M,k _ _ _ (R.put (by rw[Du]))⟩
  .cases g
 .cases g
def Ut:PyData->PyData->Option PyData:=P4 eA (P4 Xc (P4 U9 X2))
theorem WH:Gp X (binaryOp .Add) Ut:=Zd.or (Zn.or (b4.or Zi))
def Rz:PyData->PyData->Option PyData:=fun x y=>match x,y with|.list a,.int k=>(if a.length*k.toNat<=El/\-1000000<=k/\k<=1000000 then some (.list (List.replicate k.toNat a).flatten) else none)|_,_=>none
theorem A0.rep{H:Hp}{ds:List PyData}{xs:List V}(h:A0 H ds xs):∀n,A0 H (List.replicate n ds).flatten (List.replicate n xs).flatten
 |0=>.nil
 |n+1=>by rw[List.replicate_succ,List.replicate_succ,List.flatten_cons,List.flatten_cons];exact h.app (h.rep n)
theorem Zc:Gp X (binaryOp .Mult) Rz:=by
 refine⟨_,V4,fun x y z g G0 H0 G H σ δ ts u v Q M du U k=>?_⟩;unfold Rz at g;split at g
 .rename_i a n;split at g
  .rename_i Y;cases g;rw[Du]at du;rw[Du]at U;obtain⟨p,xs,rfl,Z,R⟩:=du;subst U;refine⟨p,n,xs,rfl,rfl,M.ins _ _ Z,by lia,by lia,GA (by rw[R.len];exact Y.1),fun l I=>?_⟩;have R1:=M.newObj (o:=.lst (List.replicate n.toNat xs).flatten) I;refine k _ _ _ (R1.put ?_);rw[Du];have e:AG G (upd G l (.lst (List.replicate n.toNat xs).flatten)):=fun a o h=>by
    have:=M.ins _ _ h;rw[AI (AM this I)];exact h
   exact⟨l,_,rfl,AH,(R.same e).rep _⟩
  .cases g
 .cases g
def G7:PyData->PyData->Option PyData:=P4 Q4 Rz
theorem Iy:Gp X (binaryOp .Mult) G7:=Zp.or Zc
theorem PB{d:PyData}(h:SeqAt.shaped d=true):d.canLay0=true:=by unfold SeqAt.shaped at h;rw[Bool.and_eq_true]at h;exact h.1
def W4(neg:Bool):PyData->PyData->Option PyData:=fun x y=>if SeqAt.shaped x=true/\SeqAt.shaped y=true then some (.bool (if neg then !PyData.eqv x y else PyData.eqv x y)) else none
theorem cK{m:Value->Value->Sem Value}{neg:Bool}(R:Cn X m (eS X.K neg)):Gp X m (W4 neg):=by
 refine⟨_,R,fun x y z g G0 H0 G H σ δ ts u v Q M du U k=>?_⟩;unfold W4 at g;split at g
 .rename_i I;cases g;exact⟨x,y,(du.same M.ins).br (PB I.1),(U.same M.ins).br (PB I.2),I.1,I.2,k _ _ _ (M.put (by rw[Du]))⟩
 .cases g
theorem gj(g:X.A.units+64<cLine):Gp X (compareOp .NotEq) (W4 true):=cK (WQ g)
end
section
variable{X:Cx}{a b c e:Expr}{es:List Expr}{f g h:Dv->Option PyData}{pos p:Pos}
def PM:PyData->Option Bool
 |.bool b=>some b
 |_=>none
def ZM:PyData->Option Int
 |.int b=>some b
 |_=>none
theorem Vt{x:PyData}{b:Bool}(h:PM x=some b):x=.bool b:=by
 unfold PM at h;split at h
 .cases h;rfl
 .cases h
theorem eg{x:PyData}{b:Int}(h:ZM x=some b):x=.int b:=by
 unfold ZM at h;split at h
 .cases h;rfl
 .cases h
theorem fe(ha:DE X a f):DE X (.UnaryOp .USub a pos) (fun δ=>(f δ).bind fun x=>(ZM x).map fun i=>.int (-i)):=by
 obtain⟨ta,M,R⟩:=ha;refine⟨_,QT NY M,fun δ z U G0 H0 G H σ ts Q R0 k=>?_⟩;obtain⟨x,h1,Z⟩:=aK.mp U;obtain⟨i,Y,rfl⟩:=aH.mp Z;have:=eg Y;subst this;refine R δ _ h1 G0 H0 G H σ ts _ R0 fun u G1 H1 I=>?_;have:=I.Cd _ (.head _);rw[Du]at this;exact⟨i,this,k _ _ _ (I.drop.put (by rw[Du]))⟩
variable{fa:Dv->Option Bool}
theorem gL{op:CmpOp}{o:PyData->PyData->Option PyData}(ho:Gp X (compareOp op) o)(ha:DE X a f)(hb:DE X b g)(hm:behindInMarks op b=false):DT X (.Compare a [op] [b] pos) (fun δ=>(CU o f g δ).bind PM):=by
 obtain⟨r,hr,Y⟩:=ho;obtain⟨ta,U,ka⟩:=ha;obtain⟨tb,R,Z⟩:=hb;refine⟨_,Aw hr U R hm,fun δ z hz G0 H0 G H σ ts Q R0 k=>?_⟩;obtain⟨q,h0,h4⟩:=aK.mp hz;have:=Vt h4;subst this;obtain⟨x,y,h1,h2,h3⟩:=two (x:=.none) (y:=.none) h0;refine ka δ x h1 G0 H0 G H σ ts _ R0 fun u G1 H1 R1=>?_;refine Z δ y h2 G0 H0 G1 H1 σ _ _ R1 fun v G2 H2 R2=>?_;refine Y x y _ h3 G0 H0 G2 H2 σ δ ts u v _ (R2.drop.drop) (R2.Cd (x,u) (.tail _ (.head _))) (R2.Cd (y,v) (.head _)) fun w G3 H3 M=>?_;have I:=M.Cd _ (.head _);rw[Du]at I;exact⟨z,I,k _ _ M.drop⟩
theorem fb(ha : DE X e f)(he : ∀ whole,isTrue e X.env whole = (do let v <- whole; standAt e.pos; holding [v] (truthy v)):=by intro _; rfl):DT X e (fun δ => (f δ).bind PM):=by
  obtain ⟨ta,pa,ka⟩:=ha
  refine ⟨_,Bo pa he,fun δ z hz G0 H0 G H σ ts Q R0 k => ?_⟩
  obtain ⟨q,h0,h4⟩:=aK.mp hz
  have:=Vt h4; subst this
  refine ka δ _ h0 G0 H0 G H σ ts _ R0 fun u G1 H1 R1 => ?_
  have hu:=R1.Cd _ (.head _)
  rw [Du] at hu
  exact ⟨z,hu,k _ _ R1.drop⟩
theorem eG(ha:DT X a fa):DT X (.UnaryOp .Not a pos) (fun δ=>(fa δ).map fun c=>!c):=by
 obtain⟨ta,I,M⟩:=ha;refine⟨_,B8 I,fun δ z R G0 H0 G H σ ts Q Z k=>?_⟩;obtain⟨i,U,rfl⟩:=aH.mp R;exact M δ _ U G0 H0 G H σ ts _ Z fun G1 H1 Y=>k _ _ Y
variable{fs:Dv->Option (List PyData)}
theorem CM:DA X [] (fun _=>some []):=⟨_,AB,fun δ xs h G0 H0 G H σ ts Q I k=>by cases h;exact k [] G H (by simpa using I) rfl⟩
theorem Ai(ha:DE X e f)(hr:DA X es fs)(Z:starEach (e::es) X.env=(false,eval e X.env)::starEach es X.env:=by rfl):DA X (e::es) (fun δ=>(f δ).bind fun x=>(fs δ).map fun xs=>x::xs):=by
 obtain⟨ta,M,U⟩:=ha;obtain⟨tr,pr,R⟩:=hr;refine⟨_,AA M pr Z,fun δ z Y G0 H0 G H σ ts Q R0 k=>?_⟩;obtain⟨x,h1,h2⟩:=aK.mp Y;obtain⟨xs,h3,rfl⟩:=aH.mp h2;refine U δ x h1 G0 H0 G H σ ts _ R0 fun u G1 H1 R1=>?_;refine R δ xs h3 G0 H0 G1 H1 σ _ _ R1 fun vs G2 H2 R2 hl=>?_;refine k (u::vs) G2 H2 (R2.less fun q I=>?_) (by simp[hl]);simp only[List.zip_cons_cons,List.cons_append,List.mem_cons,List.mem_append]at I ⊢;rcases I with h|h|h
 .exact .inr (.inl h)
 .exact .inl h
 .exact .inr (.inr h)
theorem Wh{G:Hp}:∀ {xs:List PyData} {vs:List V},vs.length=xs.length->(∀q∈xs.zip vs,Du G q.1 q.2)->A0 G xs vs
 |[],vs,I,_=>by rw[List.eq_nil_of_length_eq_zero I];exact .nil
 |x::xs,[],I,_=>by simp at I
 |x::xs,v::vs,I,h=>.cons (h (x,v) (by simp)) (Wh (by simpa using I) fun q M=>h q (by simp[M]))
theorem Rw.args{G0 H0 G H:Hp}{σ:St}{δ:Dv}{ts:List (PyData×V)}{xs:List PyData}{vs:List V}(r:Rw G0 H0 G H σ δ (xs.zip vs++ts))(M:vs.length=xs.length):A0 G xs vs/\Rw G0 H0 G H σ δ ts :=
 ⟨Wh M fun q I=>r.Cd q (bL _ I),r.less fun q I=>aj _ I⟩
theorem Rw.eK{G0 H0 G H:Hp}{σ:St}{δ:Dv}{ts:List (PyData×V)}{xs:List PyData}{vs:List V}{p:Addr}(r:Rw G0 H0 G H σ δ ts)(d:A0 G xs vs)(I:H p=none):Rw G0 H0 (upd G p (.lst vs)) (upd H p (.lst vs)) σ δ ((.list xs,.ref p)::ts):=by
 refine(r.newObj I).put ?_;have e:AG G (upd G p (.lst vs)):=fun a o h=>by rw[AI (AM (r.ins _ _ h) I)];exact h
 rw[Du];exact⟨p,vs,rfl,AH,d.same e⟩
theorem Rw.j8{G0 H0 G H:Hp}{σ:St}{δ:Dv}{ts:List (PyData×V)}{xs:List PyData}{vs:List V}{p:Addr}(r:Rw G0 H0 G H σ δ ts)(d:A0 G xs vs)(I:H p=none):Rw G0 H0 (upd G p (.tup vs)) (upd H p (.tup vs)) σ δ ((.tuple xs,.ref p)::ts):=by
 refine(r.newObj I).put ?_;have e:AG G (upd G p (.tup vs)):=fun a o h=>by rw[AI (AM (r.ins _ _ h) I)];exact h
 rw[Du];exact⟨p,vs,rfl,AH,d.same e⟩
def Ht(xs:List PyData):Option (List PyData):=if xs.length<=El then some xs else none
theorem K6{xs ys:List PyData}(h:Ht xs=some ys):xs=ys/\xs.length<=El:=by
 unfold Ht at h;split at h
 .rename_i q;cases h;exact⟨rfl,q⟩
 .cases h
theorem WC{M}(ha:DA X es fs):DE X (.Tuple es M pos) (fun δ=>((fs δ).bind Ht).map .tuple):=by
 obtain⟨ta,R,U⟩:=ha;refine⟨_,EE R,fun δ z Y G0 H0 G H σ ts Q R0 k=>?_⟩;obtain⟨ys,h1,rfl⟩:=aH.mp Y;obtain⟨xs,h2,h3⟩:=aK.mp h1;obtain⟨rfl,hl⟩:=K6 h3;refine U δ _ h2 G0 H0 G H σ ts _ R0 fun vs G1 H1 R1 I=>?_;obtain⟨d,R2⟩:=R1.args I;exact⟨GA (by rw[I];exact hl),fun q Z=>k _ _ _ (R2.j8 d Z)⟩
theorem fY(ha:DA X es fs):DE X (.List es pos) (fun δ=>((fs δ).bind Ht).map .list):=by
 obtain⟨ta,M,R⟩:=ha;refine⟨_,CA M,fun δ z U G0 H0 G H σ ts Q R0 k=>?_⟩;obtain⟨ys,h1,rfl⟩:=aH.mp U;obtain⟨xs,h2,h3⟩:=aK.mp h1;obtain⟨rfl,Z⟩:=K6 h3;refine R δ _ h2 G0 H0 G H σ ts _ R0 fun vs G1 H1 R1 I=>?_;obtain⟨d,R2⟩:=R1.args I;exact⟨GA (by rw[I];exact Z),fun q Y=>k _ _ _ (R2.eK d Y)⟩
theorem A0.EI{H:Hp}{ds:List PyData}{xs:List V}{i:Int}{d:PyData}(h:A0 H ds xs)(e:EI ds i=some d):∃v,EI xs i=some v/\Du H d v:=by
 unfold L2.EI at e ⊢;rw[h.len];obtain⟨j,U,R⟩:=aK.mp e;obtain⟨v,M,I⟩:=h.get R;exact⟨v,by rw[U];exact M,I⟩
theorem PX{G:Hp}:∀ns:List Int,A0 G (ns.map .int) (ns.map V.int)
 |[]=>.nil
 |n::ns=>.cons (by rw[Du]) (PX ns)
def GK:PyData->PyData->Option PyData:=fun x y=>match x,y with
 |.list xs,.int i=>EI xs i
 |.tuple xs,.int i=>EI xs i
 |.dict [(.none,.list xs)],.int i=>EI xs i
 |.str z,.int i=>if z.length<=El then(EI z.cps.toList i).map fun c=>.str ⟨#[c]⟩ else none
 |_,_=>none
theorem FH(ha:DE X a f)(hb:DE X b g)(hs:UW b):DE X (.Subscript a b pos) (CU GK f g):=by
 obtain⟨ta,pa,ka⟩:=ha;obtain⟨tb,pb,kb⟩:=hb;refine⟨_,Ag et pa pb hs,fun δ z hz G0 H0 G H σ ts Q R0 k=>?_⟩;obtain⟨x,y,h1,h2,I⟩:=two (x:=.none) (y:=.none) hz;refine ka δ x h1 G0 H0 G H σ ts _ R0 fun u G1 H1 R1=>?_;refine kb δ y h2 G0 H0 G1 H1 σ _ _ R1 fun v G2 H2 R2=>?_;have du:=R2.Cd (x,u) (.tail _ (.head _));have M:=R2.Cd (y,v) (.head _);unfold GK at I;split at I
 .rw[Du]at du;rw[Du]at M;obtain⟨p,xs,rfl,Y,Z⟩:=du;obtain⟨w,R,U⟩:=Z.EI I;exact .inl ⟨p,xs,_,w,rfl,M,AO.of (R2.ins _ _ Y),R,k _ _ _ (R2.drop.drop.put U)⟩
 .rw[Du]at du;rw[Du]at M;obtain⟨p,xs,rfl,Y,Z⟩:=du;obtain⟨w,R,U⟩:=Z.EI I;exact .inr (.inl ⟨p,xs,_,w,rfl,M,Af.of (R2.ins _ _ Y),R,k _ _ _ (R2.drop.drop.put U)⟩)
 .rw[Du]at du;rw[Du]at M;rcases du with ⟨ea,C,e1,_⟩|⟨p,ns,e1,rfl,Y⟩|z
  rotate_left 2
  .rw[Nn]at z;cases z.1
  .simp at e1
  .obtain rfl:_=ns.map PyData.int:=by simpa using e1
   obtain⟨w,R,U⟩:=(PX (G:=_) ns).EI I;exact .inl ⟨p,_,_,w,rfl,M,.inl (Y.same R2.ins),R,k _ _ _ (R2.drop.drop.put U)⟩
 .rw[Du]at du;rw[Du]at M;split at I
  .rename_i hl;obtain⟨ch,R,rfl⟩:=aH.mp I;exact .inr (.inr ⟨_,_,ch,du,M,GA hl,R,k _ _ _ (R2.drop.drop.put (by rw[Du]))⟩)
  .cases I
 .cases I
end
def FD(g:List PyData->Option PyData):Sp:=fun vs H Q _=>∃M x G,g M=some x/\A0 G M vs/\AG G H/\∀v I H',AG G I->Nw G H I->AG I H'->AG H H'->Du I x v->Q v H'
section
variable{X:Cx}{e:Expr}{es:List Expr}{h:Dv->Option PyData}{fs:Dv->Option (List PyData)}{pos p:Pos}
theorem DH{k:Nat}{M:Addr}{fd:FuncData}{ps:List Str}{m:List PyData->Option PyData}{x:Str}{st:Stmt}(T:Fn X.K X.mg x st ps M fd)(F:AL X.prog X.w X.K X.mg X.base AY k M fd ps (FD m))(hr:Dr k X.A)(hg:Gl X x)(ha:DA X (e::es) fs)
 (I:(x==("__debug__" : Str))=false:=by decide)(he:starEach (e::es) X.env=(false,eval e X.env)::starEach es X.env:=by rfl)(g:(backTo pos (starEach es X.env)).any (·.1)=false:=by rfl) :
  DE X (.Call (.Name x p) (e::es) [] pos) (fun δ=>(fs δ).bind m):=by
 obtain⟨ta,R,U⟩:=ha;refine⟨_,AX T F hr hg R I he g,fun δ z Y G0 H0 G H σ ts Q R0 k=>?_⟩;obtain⟨xs,h1,h2⟩:=aK.mp Y;refine U δ _ h1 G0 H0 G H σ ts _ R0 fun vs G1 H1 R1 Z=>?_;obtain⟨d,R2⟩:=R1.args Z;refine⟨xs,z,G1,h2,by rw[List.append_nil];exact d,R2.ins,fun v G' H' h3 h4 h5 h6 h7=>?_⟩;exact k _ _ _ ((R2.lift h3 h4 h5 h6).put h7)
theorem A0.kq{H:Hp}{d:PyData}{xs:List V}(h:A0 H [d] xs):∃x,xs=[x]/\Du H d x:=by
 obtain⟨x,r,rfl,I,g⟩:=h.un;rw[g.nil_eq];exact⟨x,rfl,I⟩
theorem A0.LU{H:Hp}{d e:PyData}{xs:List V}(h:A0 H [d,e] xs):∃x y,xs=[x,y]/\Du H d x/\Du H e y:=by
 obtain⟨x,r,rfl,M,I⟩:=h.un;obtain⟨y,rfl,g⟩:=I.kq;exact⟨x,y,rfl,M,g⟩
end
inductive Ou where
 |nx (δ:Dv)|rt (x:PyData)|bk (δ:Dv)|ct (δ:Dv)|rn (xs:List PyData)
def Fin(G0 H0:Hp)(D:Ends):Ou->Prop
 |.nx δ=>∀σ G H,Rw G0 H0 G H σ δ []->D.nx σ H
 |.rt x=>∀v G H,AG G0 G->Nw G0 H0 G->AG G H->AG H0 H->Du G x v->D.rt v H
 |.bk δ=>∀σ G H,Rw G0 H0 G H σ δ []->D.bk σ H
 |.ct δ=>∀σ G H,Rw G0 H0 G H σ δ []->D.ct σ H
 |.rn xs=>∀a ys G H,AG G0 G->Nw G0 H0 G->AG G H->AG H0 H->H0 a=none->G a=none->H a=some (.lst ys)->A0 G xs ys->D.rt (.ref a) H
abbrev DF:=Dv->Option Ou
def DS(X:Cx)(st:Stmt)(F:DF):Prop:=∃t,PS X st t/\∀δ r,F δ=some r->∀G0 H0 G H σ D,Rw G0 H0 G H σ δ []->Fin G0 H0 D r->t D σ H
def MS(X:Cx)(st:List Stmt)(F:DF):Prop:=∃t,Ig X st t/\∀δ r,F δ=some r->∀G0 H0 G H σ D,Rw G0 H0 G H σ δ []->Fin G0 H0 D r->t D σ H
def Gr(M I:DF)(δ:Dv):Option Ou:=match M δ with
 |some (.nx g)=>I g
 |o=>o
section
variable{X:Cx}{c e:Expr}{f h:Dv->Option PyData}{fa:Dv->Option Bool}{pos p:Pos}{st:Stmt}{sts sts':List Stmt}{F1 F2:DF}
theorem Um:MS X [] (fun δ=>some (.nx δ)):=⟨_,Az,fun δ r h G0 H0 G H σ D R k=>by cases h;exact k _ _ _ R⟩
theorem Ex(h1:DS X st F1)(h2:MS X sts F2):MS X (st::sts) (Gr F1 F2):=by
 obtain⟨t1,Z,U⟩:=h1;obtain⟨t2,Y,k2⟩:=h2;refine⟨_,AD Z Y,fun δ r h G0 H0 G H σ D R k=>?_⟩;unfold Gr at h;split at h
 .rename_i g e1;exact U δ _ e1 G0 H0 G H σ _ R fun I G' H' R'=>k2 g r h G0 H0 G' H' I D R' k
 .rename_i M;refine U δ r h G0 H0 G H σ _ R ?_;cases r with
  |nx g=>exact absurd h (M g)
  |rt x=>exact k
  |bk g=>exact k
  |ct g=>exact k
  |rn xs=>exact k
theorem FQ(h1:DS X st F1):MS X [st] F1:=by
 obtain⟨t1,g,I⟩:=h1;exact⟨_,AF g,I⟩
theorem K1(I:DE X e f):DS X (.Return (some e) pos) (fun δ=>(f δ).map .rt):=by
 obtain⟨t,p,k⟩:=I;refine⟨_,Ac p,fun δ r h G0 H0 G H σ D R q=>?_⟩;obtain⟨x,M,rfl⟩:=aH.mp h;exact k δ x M G0 H0 G H σ [] _ R fun v U H' g=>q v U H' g.ext g.new g.ins g.keep (g.Cd _ (.head _))
theorem Y3(g:DT X c fa)(h1:MS X sts F1)(h2:MS X sts' F2):DS X (.If c sts sts' pos) (fun δ=>(fa δ).bind fun c=>if c=true then F1 δ else F2 δ):=by
 obtain⟨tc,pc,kc⟩:=g;obtain⟨t1,Z,k1⟩:=h1;obtain⟨t2,Y,k2⟩:=h2;refine⟨_,BQ pc Z Y,fun δ r h G0 H0 G H σ D R q=>?_⟩;obtain⟨i,h3,I⟩:=aK.mp h;refine kc δ i h3 G0 H0 G H σ [] _ R fun U H' M=>?_;split
 .rename_i g;rw[if_pos g]at I;exact k1 δ r I G0 H0 U H' σ D M q
 .rename_i g;rw[if_neg g]at I;exact k2 δ r I G0 H0 U H' σ D M q
end
section
variable{G0 H0 G H:Hp}{σ:St}{δ:Dv}{ts:List (PyData×V)}
theorem Rw.LI{i:Nat}{x:PyData}{v:V}(r:Rw G0 H0 G H σ δ ((x,v)::ts)):Rw G0 H0 G H (σ.set i (some v)) (δ.set i (.d x)) ts:=by
 have hl:=r.len;refine⟨r.ext,r.new,r.ins,r.keep,by simp[hl],fun j y h=>?_,fun j ys h=>?_,fun j l ys Z Y M I=>?_,fun q hq=>r.Cd q (.tail _ hq)⟩
 .by_cases g:i=j
  .subst g;by_cases hi:i<δ.length
   .rw[List.getElem?_set_self hi]at h;cases h;exact⟨v,by rw[List.getElem?_set_self (by lia)],r.Cd _ (.head _)⟩
   .rw[List.getElem?_eq_none (by simp;lia)]at h;cases h
  .rw[List.getElem?_set_ne g]at h;obtain⟨w,U,R⟩:=r.dat j y h;exact⟨w,by rw[List.getElem?_set_ne g];exact U,R⟩
 .by_cases g:i=j
  .subst g;by_cases hi:i<δ.length
   .rw[List.getElem?_set_self hi]at h;cases h
   .rw[List.getElem?_eq_none (by simp;lia)]at h;cases h
  .rw[List.getElem?_set_ne g]at h;obtain⟨w,U,R,k3⟩:=r.own j ys h;exact⟨w,U,by rw[List.getElem?_set_ne g];exact R,k3⟩
 .have nj:i≠j:=fun z=>by
   subst z;by_cases hi:i<δ.length
   .rw[List.getElem?_set_self hi]at M;cases M
   .rw[List.getElem?_eq_none (by simp;lia)]at M;cases M
  have nl:i≠l:=fun z=>by
   subst z;by_cases hi:i<δ.length
   .rw[List.getElem?_set_self hi]at I;cases I
   .rw[List.getElem?_eq_none (by simp;lia)]at I;cases I
  rw[List.getElem?_set_ne nj]at M ⊢;rw[List.getElem?_set_ne nl]at I ⊢;exact r.apart j l ys Z Y M I
end
section
variable{X:Cx}{e:Expr}{f:Dv->Option PyData}{pos p:Pos}
theorem N4{i:Nat}{x:Str}{g:Pos}(Y:X.N.Nodup)(hi:X.N[i]? = some x)(I:Loc X.env.scope x)(U:DE X e f)(M:swapsWith e (some (.Name x g)) pos.line X.env=pure false:=by rfl)(hf:X.fn x=true\/X.env.scope.names.lookup x=some .local:=by first|exact .inl rfl|exact .inr rfl|assumption) :
  DS X (.Assign [.Name x g] e pos) (fun δ=>(f δ).map fun y=>.nx (δ.set i (.d y))):=by
 obtain⟨t,p,k⟩:=U;refine⟨_,AU Y hi I p M hf,fun δ r h G0 H0 G H σ D R q=>?_⟩;obtain⟨y,Z,rfl⟩:=aH.mp h;exact k δ y Z G0 H0 G H σ [] _ R fun v G' H' R'=>q _ _ _ R'.LI
end
section
variable{G0 H0 G H:Hp}{σ:St}{δ:Dv}{ts:List (PyData×V)}
theorem Rw.base(r:Rw G0 H0 G H σ δ ts):Rw G H0 G H σ δ ts:={r with ext:=AG.refl G,new:=fun _ _ h=>.inl h}
theorem Nw.trans{I g:Hp}(a:Nw G0 H0 I)(b:Nw I H0 g):Nw G0 H0 g:=fun c o h=>by
 rcases b c o h with z|z|z
 .exact a c o z
 .exact .inr (.inl z)
 .exact .inr (.inr z)
theorem Rw.Rh{M H':Hp}{g:St}{δ':Dv}{I:List (PyData×V)}(r:Rw G0 H0 G H σ δ ts)(q:Rw G H0 M H' g δ' I):Rw G0 H0 M H' g δ' I:={q with ext:=r.ext.trans q.ext,new:=r.new.trans q.new}
theorem Rw.cV{i:Nat}{xs:Oc}{ys:HO}{a:Addr}(r:Rw G0 H0 G H σ δ ts)(d:LH G a xs ys)(ha:H a=none):Rw G0 H0 G (upd H a ys) (σ.set i (some (.ref a))) (δ.set i (.own xs)) ts:=by
 have hG:G a=none:=by
  cases q:G a with
  |none=>rfl
  |some u=>rw[r.ins _ _ q]at ha;cases ha
 have h0:H0 a=none:=by
  cases q:H0 a with
  |none=>rfl
  |some u=>rw[r.keep _ _ q]at ha;cases ha
 have e:AG H (upd H a ys):=AK ha _;have hl:=r.len;have other:∀(j:Nat) (I:Oc),i≠j->(δ.set i (.own xs))[j]? = some (L.own I)->δ[j]? = some (L.own I):=fun j I g h=>by rw[List.getElem?_set_ne g]at h;exact h
 have M:∀(j:Nat) (I:Oc),δ[j]? = some (L.own I)->σ[j]?≠some (some (V.ref a)):=fun j I h z=>by
  obtain⟨b,us,m1,m2,m3,m4,m5⟩:=r.own j I h;rw[z]at m1;cases m1;rw[m4]at ha;cases ha
 refine⟨r.ext,r.new,r.ins.trans e,r.keep.trans e,by simp[hl],fun j y h=>?_,fun j I h=>?_,fun j l us ws Z U R=>?_,r.Cd⟩
 .by_cases g:i=j
  .subst g;by_cases hi:i<δ.length
   .rw[List.getElem?_set_self hi]at h;cases h
   .rw[List.getElem?_eq_none (by simp;lia)]at h;cases h
  .rw[List.getElem?_set_ne g]at h;obtain⟨w,m1,m2⟩:=r.dat j y h;exact⟨w,by rw[List.getElem?_set_ne g];exact m1,m2⟩
 .by_cases g:i=j
  .subst g;by_cases hi:i<δ.length
   .rw[List.getElem?_set_self hi]at h;cases h;exact⟨a,ys,by rw[List.getElem?_set_self (by lia)],hG,h0,AH,d⟩
   .rw[List.getElem?_eq_none (by simp;lia)]at h;cases h
  .have h:=other j I g h;obtain⟨b,us,m1,m2,m3,m4,m5⟩:=r.own j I h;exact⟨b,us,by rw[List.getElem?_set_ne g];exact m1,m2,m3,e _ _ m4,m5⟩
 .by_cases g:i=j
  .subst g;have Y:i≠l:=Z;have R:=other l ws Y R;by_cases hi:i<δ.length
   .rw[List.getElem?_set_self (by lia),List.getElem?_set_ne Y];exact fun z=>M l ws R z.symm
   .rw[List.getElem?_eq_none (by simp;lia)]at U;cases U
  .have U:=other j us g U;by_cases hk:i=l
   .subst hk;by_cases hi:i<δ.length
    .rw[List.getElem?_set_self (by lia),List.getElem?_set_ne g];exact fun z=>M j us U z
    .rw[List.getElem?_eq_none (by simp;lia)]at R;cases R
   .have R:=other l ws hk R;rw[List.getElem?_set_ne g,List.getElem?_set_ne hk];exact r.apart j l us ws Z U R
theorem Rw.gp{i:Nat}{xs I:Oc}{ys:HO}{a:Addr}(r:Rw G0 H0 G H σ δ ts)(hi:δ[i]? = some (.own xs))(ha:σ[i]? = some (some (.ref a)))(d:LH G a I ys):Rw G0 H0 G (upd H a ys) σ (δ.set i (.own I)) ts:=by
 obtain⟨a',ys0,k1,k2,k3,k4,k5⟩:=r.own i xs hi;rw[ha]at k1;cases k1;have R:i<δ.length:=(aB.mp hi).1;have hl:=r.len;refine⟨r.ext,r.new,fun b o h=>?_,fun b o h=>?_,by simp[hl],fun j y h=>?_,fun j zs h=>?_,fun j l us ws Y h1 Z=>?_,r.Cd⟩
 .rw[AI (fun z=>by subst z;rw[k2]at h;cases h)];exact r.ins _ _ h
 .rw[AI (fun z=>by subst z;rw[k3]at h;cases h)];exact r.keep _ _ h
 .by_cases g:i=j
  .subst g;rw[List.getElem?_set_self R]at h;cases h
  .rw[List.getElem?_set_ne g]at h;exact r.dat j y h
 .by_cases g:i=j
  .subst g;rw[List.getElem?_set_self R]at h;cases h;exact⟨a,ys,ha,k2,k3,AH,d⟩
  .rw[List.getElem?_set_ne g]at h;obtain⟨b,us,m1,m2,m3,m4,m5⟩:=r.own j zs h;have nb:b≠a:=fun z=>by subst z;exact r.apart i j xs zs g hi h (by rw[ha,m1])
   exact⟨b,us,m1,m2,m3,by rw[AI nb];exact m4,m5⟩
 .have f:∀(j:Nat) (us:Oc),(δ.set i (.own I))[j]? = some (L.own us)->∃M,δ[j]? = some (L.own M):=fun j us h=>by
   by_cases g:i=j
   .subst g;exact⟨xs,hi⟩
   .rw[List.getElem?_set_ne g]at h;exact⟨us,h⟩
  obtain⟨M,h1⟩:=f j us h1;obtain⟨U,Z⟩:=f l ws Z;exact r.apart j l M U Y h1 Z
end
section
variable{X:Cx}{a e:Expr}{es:List Expr}{f h:Dv->Option PyData}{fs:Dv->Option (List PyData)}{pos p:Pos}   
theorem gM{i:Nat}{x:Str}{g M:Pos}(hN:X.N.Nodup)(hi:X.N[i]? = some x)(Y:Loc X.env.scope x)(ha:DA X es fs)(Z:swapsWith (.List es M) (some (.Name x g)) pos.line X.env=pure false:=by rfl)(hf:X.fn x=true\/X.env.scope.names.lookup x=some .local:=by first|exact .inl rfl|exact .inr rfl|assumption) :
  DS X (.Assign [.Name x g] (.List es M) pos) (fun δ=>((fs δ).bind Ht).map fun ys=>.nx (δ.set i (.own (.lst ys)))):=by
 obtain⟨t,p,k⟩:=ha;refine⟨_,AU hN hi Y (CA p) Z hf,fun δ r h G0 H0 G H σ D R q=>?_⟩;obtain⟨y,h1,rfl⟩:=aH.mp h;obtain⟨xs,h2,h3⟩:=aK.mp h1;obtain⟨rfl,hl⟩:=K6 h3;refine k δ _ h2 G0 H0 G H σ [] _ R fun vs G1 H1 R1 U=>?_;obtain⟨d,R2⟩:=R1.args U;exact⟨GA (by rw[U];exact hl),fun l I=>q _ _ _ (R2.cV ⟨_,rfl,d⟩ I)⟩
def ow(i:Nat)(δ:Dv):Option (List PyData):=match δ[i]? with
 |some (.own (.lst xs))=>some xs
 |_=>none
theorem gw{i:Nat}{δ:Dv}{xs:List PyData}(h:ow i δ=some xs):δ[i]? = some (.own (.lst xs)):=by
 unfold ow at h;split at h
 .rename_i y e;cases h;exact e
 .cases h
theorem Wm{i:Nat}{x:Str}{np ap cp:Pos}(hv:PE X (.Name x np) (VG i))(he:DE X e f)
 (hP:∀ {Y:TE} {t:TA},PE X (.Name x np) Y->PA X [e] t->PS X (.Expr (.Call (.Attribute (.Name x np) "append" ap) [e] [] cp) pos) (ZH (ir X.K "list" T7 Y t)))(I:starEach [e] X.env=(false,eval e X.env)::starEach [] X.env:=by rfl) :
  DS X (.Expr (.Call (.Attribute (.Name x np) "append" ap) [e] [] cp) pos) (fun δ=>(f δ).bind fun y=>(ow i δ).bind fun xs=>if xs.length<El then some (.nx (δ.set i (.own (.lst (xs++[y]))))) else none):=by
 obtain⟨t,p,k⟩:=he;refine⟨_,hP hv (AA p AB I),fun δ r h G0 H0 G H σ D R q=>?_⟩;obtain⟨y,h1,h2⟩:=aK.mp h;obtain⟨xs,h3,M⟩:=aK.mp h2;split at M
 .rename_i hl;cases M;have hi:=gw h3;obtain⟨a,_,g,k2,k3,k4,⟨ys,rfl,k5⟩⟩:=R.own i _ hi;refine⟨.ref a,g,.inl ⟨rfl,ys,AO.of k4⟩,?_⟩;refine k δ y h1 G0 H0 G H σ [] _ R fun u G1 H1 U=>?_;obtain⟨a',_,m1,m2,m3,m4,⟨zs,rfl,Z⟩⟩:=U.own i _ hi;rw[g]at m1;cases m1;refine⟨a,zs,u,rfl,rfl,m4,Ot (by rw[Z.len];lia),?_⟩;exact q _ _ _ (U.drop.gp hi g ⟨_,rfl,Z.app (.cons (U.Cd _ (.head _)) .nil)⟩)
 .cases M
end
structure LC(J:It)(xs:List PyData)(G:Hp):Prop where
 stop:∀H,AG G H->J.stop xs.length H
 go:∀(i:Nat) (d:PyData) H,xs[i]? = some d->AG G H->J.go i H
 Ec:∀(i:Nat) (d:PyData) H x H',xs[i]? = some d->AG G H->J.Ec i H x H'->∀Gc,AG G Gc->AG Gc H->∃Gc',AG Gc Gc'/\Nw Gc H Gc'/\AG Gc' H'/\AG H H'/\Du Gc' d x
theorem Nw.refl{G H:Hp}:Nw G H G:=fun _ _ h=>.inl h
theorem Zr{K:PySem.W.Frag}{G:Hp}{a:Addr}{ys:List V}{xs:List PyData}(ha:G a=some (.lst ys))(d:A0 G xs ys):LC (Tj K a) xs G where
 stop:=fun H e=>⟨ys,AO.of (e _ _ ha),by rw[d.len];exact aD _⟩
 go:=fun i x H hx e=>by
  obtain⟨v,h1,_⟩:=d.get hx;exact⟨ys,v,AO.of (e _ _ ha),h1⟩
 Ec:=fun i x H v H' hx e y Gc e1 e2=>by
  obtain⟨rfl,y⟩:=y;have h1:=y ys (AO.of (e _ _ ha));obtain⟨x',h2,h3⟩:=d.back h1;rw[hx]at h2;cases h2;exact⟨Gc,AG.refl _,Nw.refl,e2,AG.refl _,h3.same e1⟩
theorem dU{K:PySem.W.Frag}{G:Hp}{a:Addr}{ys:List V}{xs:List PyData}(ha:G a=some (.tup ys))(d:A0 G xs ys):LC (T4 K a) xs G where
 stop:=fun H e=>⟨ys,Af.of (e _ _ ha),by rw[d.len];exact aD _⟩
 go:=fun i x H hx e=>by
  obtain⟨v,h1,_⟩:=d.get hx;exact⟨ys,v,Af.of (e _ _ ha),h1⟩
 Ec:=fun i x H v H' hx e y Gc e1 e2=>by
  obtain⟨rfl,y⟩:=y;have h1:=y ys (Af.of (e _ _ ha));obtain⟨x',h2,h3⟩:=d.back h1;rw[hx]at h2;cases h2;exact⟨Gc,AG.refl _,Nw.refl,e2,AG.refl _,h3.same e1⟩
theorem X5{Gc H:Hp}{p:Addr}{Y U:PyData}{I g:V}(R:AG Gc H)(M:H p=none)(h1:Du Gc Y I)(h2:Du Gc U g) :
  ∃Gc',AG Gc Gc'/\Nw Gc H Gc'/\AG Gc' (upd H p (.tup [I,g]))/\AG H (upd H p (.tup [I,g]))/\Du Gc' (.tuple [Y,U]) (.ref p):=by
 have Z:Gc p=none:=by
  cases q:Gc p with
  |none=>rfl
  |some u=>rw[R _ _ q]at M;cases M
 have e:AG Gc (upd Gc p (.tup [I,g])):=AK Z _;refine⟨upd Gc p (.tup [I,g]),e,fun a o h=>?_,fun a o h=>?_,AK M _,?_⟩
 .by_cases ha:a=p
  .subst ha;exact .inr (.inl M)
  .rw[AI ha]at h;exact .inl h
 .by_cases ha:a=p
  .subst ha;rw[AH]at h ⊢;exact h
  .rw[AI ha]at h ⊢;exact R _ _ h
 .rw[Du];exact⟨p,[I,g],rfl,AH,.cons (h1.same e) (.cons (h2.same e) .nil)⟩
def Js(xs ys:List PyData):List PyData:=(xs.zip ys).map fun q=>.tuple [q.1,q.2]
theorem Mn{xs ys:List PyData}{i:Nat}{d:PyData}(h:(Js xs ys)[i]? = some d):∃x y,xs[i]? = some x/\ys[i]? = some y/\d=.tuple [x,y]:=by
 unfold Js at h;rw[List.getElem?_map]at h;obtain⟨q,M,rfl⟩:=aH.mp h;obtain⟨I,g⟩:=List.getElem?_zip_eq_some.mp M;exact⟨q.1,q.2,I,g,rfl⟩
theorem gB{G:Hp}{b1 b2:Bool}{a1 a2:Addr}{us vs:List V}{xs ys:List PyData}(h1:G a1=some (if b1 then .tup us else .lst us))(h2:G a2=some (if b2 then .tup vs else .lst vs))(d1:A0 G xs us)(d2:A0 G ys vs):LC (fW b1 b2 a1 a2) (Js xs ys) G where
 stop:=fun H e=>by
  have k1:=e _ _ h1;have k2:=e _ _ h2;refine⟨us,vs,?_,?_,?_⟩
  .cases b1<;>simpa[Ez]using k1
  .cases b2<;>simpa[Ez]using k2
  .rw[d1.len,d2.len];simp[Js];lia
 go:=fun i x H hx e=>by
  obtain⟨x1,x2,k1,k2,rfl⟩:=Mn hx;obtain⟨v1,k3,_⟩:=d1.get k1;obtain⟨v2,k4,_⟩:=d2.get k2;have m1:=e _ _ h1;have m2:=e _ _ h2;refine⟨us,v1,vs,v2,?_,?_,k3,k4⟩
  .cases b1<;>simpa[Ez]using m1
  .cases b2<;>simpa[Ez]using m2
 Ec:=fun i x H v H' hx e y Gc e1 e2=>by
  obtain⟨x1,x2,k1,k2,rfl⟩:=Mn hx;obtain⟨p,v1,v2,rfl,hp,rfl,y1,y2⟩:=y;have m1:=e _ _ h1;have m2:=e _ _ h2;have z1:=y1 us (by cases b1<;>simpa[Ez]using m1);have z2:=y2 vs (by cases b2<;>simpa[Ez]using m2);obtain⟨w1,n1,n2⟩:=d1.back z1;obtain⟨w2,n3,n4⟩:=d2.back z2;rw[k1]at n1;cases n1;rw[k2]at n3;cases n3;exact X5 e2 hp (n2.same e1) (n4.same e1)
def DI(X:Cx)(tg iter:Expr)(f:Dv->Option (List PyData)):Prop:=∃g,PI X tg iter g/\∀δ xs,f δ=some xs->∀G0 H0 G H σ ts (R:It->Hp->Prop),Rw G0 H0 G H σ δ ts->(∀J I H',Rw G0 H0 I H' σ δ ts->LC J xs I->R J H')->g σ H R
section
variable{X:Cx}{tg a b e:Expr}{f g h:Dv->Option PyData}{fs:Dv->Option (List PyData)}{pos p:Pos}{sts:List Stmt}{F:DF}
theorem PI.or{U M:TI}(h:PI X tg e U)(h':PI X tg e M):PI X tg e (fun σ H R=>U σ H R\/M σ H R):=fun pins s σ H R I q=>by
 rcases q with q|q
 .exact h pins s σ H R I q
 .exact h' pins s σ H R I q
def Kb:PyData->Option (List PyData)
 |.list xs=>some xs
 |.tuple xs=>some xs
 |_=>none
theorem Kz(he:DE X e f):DI X tg e (fun δ=>(f δ).bind Kb):=by
 obtain⟨t,p,k⟩:=he;refine⟨_,(Av p).or (WW p),fun δ xs h G0 H0 G H σ ts R R0 q=>?_⟩;obtain⟨x,Z,U⟩:=aK.mp h;unfold Kb at U;split at U
 .cases U
  left
  refine k δ _ Z G0 H0 G H σ ts _ R0 fun v G' H' I=>?_;have du:=I.Cd _ (.head _);rw[Du]at du;obtain⟨a,ys,rfl,M,Y⟩:=du;exact⟨a,rfl,⟨ys,AO.of (I.ins _ _ M)⟩,q _ _ _ I.drop (Zr M Y)⟩
 .cases U
  right
  refine k δ _ Z G0 H0 G H σ ts _ R0 fun v G' H' I=>?_;have du:=I.Cd _ (.head _);rw[Du]at du;obtain⟨a,ys,rfl,M,Y⟩:=du;exact⟨a,rfl,⟨ys,Af.of (I.ins _ _ M)⟩,q _ _ _ I.drop (dU M Y)⟩
 .cases U
def zip2:List PyData->Option (List PyData)
 |[x,y]=>(Kb x).bind fun xs=>(Kb y).map fun ys=>Js xs ys
 |_=>none
theorem KC{G:Hp}{x:PyData}{v:V}{xs:List PyData}(h:Du G x v)(e:Kb x=some xs):∃(b:Bool) (a:Addr) (ys:List V),v=.ref a/\G a=some (if b then .tup ys else .lst ys)/\A0 G xs ys:=by
 unfold Kb at e;split at e
 .cases e;rw[Du]at h;obtain⟨a,ys,rfl,M,I⟩:=h;exact⟨false,a,ys,rfl,M,I⟩
 .cases e;rw[Du]at h;obtain⟨a,ys,rfl,M,I⟩:=h;exact⟨true,a,ys,rfl,M,I⟩
 .cases e
theorem V3{elts:List Expr}{x1}{I:Pos}(hg:Gl X "zip")(hm:X.mg "zip" = none)(ha:DA X [a,b] fs)(hs:starEach [a,b] X.env=[(false,eval a X.env),(false,eval b X.env)]:=by rfl)(U:starEach [b] X.env=[(false,eval b X.env)]:=by rfl) :
  DI X (.Tuple elts x1 I) (.Call (.Name "zip" p) [a,b] [] pos) (fun δ=>(fs δ).bind zip2):=by
 obtain⟨t,p,k⟩:=ha;refine⟨_,Le hg hm p hs U,fun δ xs h G0 H0 G H σ ts R R0 q=>?_⟩;obtain⟨x,h1,M⟩:=aK.mp h;refine k δ _ h1 G0 H0 G H σ ts _ R0 fun vs G' H' R' hv=>?_;obtain⟨d,R2⟩:=R'.args hv;unfold zip2 at M;split at M
 .obtain⟨xs1,h3,h4⟩:=aK.mp M;obtain⟨Z,h5,rfl⟩:=aH.mp h4;obtain⟨u,v,rfl,du,dv⟩:=d.LU;obtain⟨b1,a1,us,rfl,Y,n2⟩:=KC du h3;obtain⟨b2,a2,ws,rfl,m1,m2⟩:=KC dv h5;have s1:=R2.ins _ _ Y;have s2:=R2.ins _ _ m1;exact⟨b1,b2,a1,a2,rfl,⟨us,by cases b1<;>simpa[Ez]using s1⟩,⟨ws,by cases b2<;>simpa[Ez]using s2⟩,q _ _ _ R2 (gB Y m1 n2 m2)⟩
 .cases M
def DG(X:Cx)(tg:Expr)(set:PyData->Dv->Option Dv):Prop:=∃g,PG X tg g/\∀δ x M,set x δ=some M->∀G0 H0 G H σ v (Q:St->Hp->Prop),Rw G0 H0 G H σ δ [(x,v)]->(∀I R H',Rw G0 H0 R H' I M []->Q I H')->g v σ H Q
theorem Uh{i:Nat}{x:Str}(h:PG X (.Name x pos) (C0 i)):DG X (.Name x pos) (fun y δ=>some (δ.set i (.d y))) :=
 ⟨_,h,fun δ y I e G0 H0 G H σ v Q R k=>by cases e;exact k _ _ _ R.LI⟩
def HE(i j:Nat)(y:PyData)(δ:Dv):Option Dv:=match y with
 |.tuple [u,v]=>some ((δ.set i (.d u)).set j (.d v))
 |_=>none
theorem eE{x y:Str}{i j:Nat}{Y U:Pos}{Z}(h:PG X (.Tuple [.Name x Y,.Name y U] Z pos) (YL X.K 2 (NS (C0 i) (NS (C0 j) Yb)))):DG X (.Tuple [.Name x Y,.Name y U] Z pos) (HE i j):=by
 refine⟨_,h,fun δ z δ' e G0 H0 G H σ v Q R k=>?_⟩;unfold HE at e;split at e
 .cases e;have du:=R.Cd _ (.head _);rw[Du]at du;obtain⟨a,ys,rfl,n1,n2⟩:=du;obtain⟨M,I,rfl,m1,m2⟩:=n2.LU;refine⟨a,[M,I],rfl,Af.of (R.ins _ _ n1),rfl,M,[I],rfl,I,[],rfl,rfl,?_⟩;exact k _ _ _ (((R.drop.put m2).put m1).LI.LI)
 .cases e
def Jw(set:PyData->Dv->Option Dv)(M:DF):List PyData->Dv->Option Ou
 |[],δ=>some (.nx δ)
 |x::xs,δ=>match (set x δ).bind M with
  |some (.nx I)=>Jw set M xs I
  |some (.ct I)=>Jw set M xs I
  |some (.bk I)=>some (.nx I)
  |some (.rt v)=>some (.rt v)
  |some (.rn v)=>some (.rn v)
  |none=>none
theorem SE{set:PyData->Dv->Option Dv}(hp:PassesOwn (model X.prog X.w) X.A X.env X.xe)(hc:X.calm=true)(hi:DI X tg e fs)(hg:DG X tg set)(hb:MS X sts F)(hs:∀x,foldedSetIterable e X.env x=pure x:=by intro _;rfl) :
  DS X (.For tg e sts [] pos) (fun δ=>(fs δ).bind fun xs=>Jw set F xs δ):=by
 obtain⟨wi,pi,ki⟩:=hi;obtain⟨g,pg,kg⟩:=hg;obtain⟨tb,pb,kb⟩:=hb;refine⟨_,BU hp hc pi pg pb hs,fun δ r h G0 H0 G H σ D R q=>?_⟩;obtain⟨xs,h1,h2⟩:=aK.mp h;refine ki δ xs h1 G0 H0 G H σ [] _ R fun J Ga Ha Ra it=>?_;refine⟨fun i m M H'=>m=xs.length-i/\i<=xs.length/\∃I G',Jw set F (xs.drop i) I=some r/\Rw G0 H0 G' H' M I []/\AG Ga G',⟨xs.length,by simp,Nat.zero_le _,δ,Ga,by simpa using h2,Ra,AG.refl _⟩,?_⟩;rintro i m σ1 H1 ⟨rfl,hi,δ1,G1,f1,R1,s1⟩;have sH:AG Ga H1:=s1.trans R1.ins;by_cases Y:i<xs.length
 .right
  have hx:xs[i]? = some xs[i]:=by simp[Y]
  refine⟨it.go i _ H1 hx sH,fun M H'=>i+1<=xs.length/\∃I G',Jw set F (xs.drop (i+1)) I=some r/\Rw G0 H0 G' H' M I []/\AG Ga G',fun M H' n=>⟨xs.length-(i+1),by lia,rfl,n⟩,fun x H' y=>?_⟩;obtain⟨G2,e1,e2,e3,e4,e5⟩:=it.Ec i _ H1 x H' hx sH y G1 s1 R1.ins;have R2:=(R1.lift e1 e2 e3 e4).put e5;have s2:=s1.trans e1;rw[List.drop_eq_getElem_cons Y]at f1;unfold Jw at f1;cases hb2:(set xs[i] δ1).bind F with
  |none=>rw[hb2]at f1;cases f1
  |some o=>
   obtain⟨δ2,k1,k2⟩:=aK.mp hb2;rw[hb2]at f1;have R2b:=R2.base;refine kg δ1 _ δ2 k1 G2 H0 G2 H' σ1 x _ R2b fun σ3 G3 H3 R3=>?_;refine kb δ2 o k2 G2 H0 G3 H3 σ3 _ R3 ?_;cases o with
   |nx U=>exact fun σ4 Z H4 R4=>⟨Y,U,Z,f1,R2.drop.Rh R4,s2.trans R4.ext⟩
   |ct U=>exact fun σ4 Z H4 R4=>⟨Y,U,Z,f1,R2.drop.Rh R4,s2.trans R4.ext⟩
   |bk U=>cases f1;exact fun σ4 Z H4 R4=>q σ4 Z H4 (R2.drop.Rh R4)
   |rt v=>cases f1;exact fun w Z H4 h1 h2 h3 h4 h5=>q w Z H4 (R2.ext.trans h1) (R2.new.trans h2) h3 h4 h5
   |rn v=>cases f1;exact fun w ys Z H4 h1 h2=>q w ys Z H4 (R2.ext.trans h1) (R2.new.trans h2)
 .left
  have e:i=xs.length:=by lia
  subst e;refine⟨it.stop H1 sH,?_⟩;rw[List.drop_length]at f1;unfold Jw at f1;cases f1;exact q _ _ _ R1
end
def tD(f:Dv->Option PyData):TE:=fun σ H Q=>∃δ x G0 H0 G ts,f δ=some x/\Rw G0 H0 G H σ δ ts/\∀v g H',Rw G0 H0 g H' σ δ ((x,v)::ts)->Q v H'
def XY(f:Dv->Option Bool):TT:=fun σ H Q=>∃δ x G0 H0 G ts,f δ=some x/\Rw G0 H0 G H σ δ ts/\∀g H',Rw G0 H0 g H' σ δ ts->Q x H'
theorem DE.pe{X:Cx}{e:Expr}{f:Dv->Option PyData}(h:DE X e f):PE X e (tD f):=by
 obtain⟨t,p,k⟩:=h;intro pins s σ H Q I q;obtain⟨δ,x,G0,H0,G,ts,R,M,g⟩:=q;exact p pins s σ H Q I (k δ x R G0 H0 G H σ ts Q M g)
def fD(X:Cx)(g:List Expr)(f:Dv->Option Bool):Prop:=J9 X g (XY f)
theorem Lw{X:Cx}:fD X [] (fun _=>some true):=by
 intro pins s σ H Q I q;obtain⟨δ,x,G0,H0,G,ts,R,M,g⟩:=q;cases R;exact BC pins s σ H Q I (g _ _ M)
def Bz(fr:List (Option Nat))(δ:Dv):Dv:=fr.map fun o=>match o with
 |some j=>(match δ[j]? with|some (.d x)=>.d x|_=>.no)
 |none=>.no
theorem Rw.inner{G0 H0 G H:Hp}{σ:St}{δ:Dv}{ts:List (PyData×V)}(fr:List (Option Nat))(r:Rw G0 H0 G H σ δ ts):Rw G H G H (carry fr σ) (Bz fr δ) ts:=by
 have key:∀(i:Nat) (l:L),(Bz fr δ)[i]? = some l->∃o,fr[i]? = some o/\l=(match o with|some j=>(match δ[j]? with|some (.d x)=>.d x|_=>.no)|none=>.no):=fun i l h=>by
  unfold Bz at h;rw[List.getElem?_map]at h;obtain⟨o,M,rfl⟩:=aH.mp h;exact⟨o,M,rfl⟩
 have g:∀(i:Nat) (xs:Oc),(Bz fr δ)[i]?≠some (L.own xs):=fun i xs h=>by
  obtain⟨o,_,I⟩:=key i _ h;split at I
  .split at I<;>cases I
  .cases I
 refine⟨AG.refl _,Nw.refl,r.ins,AG.refl _,by simp[carry,Bz],fun i x h=>?_,fun i xs h=>absurd h (g i xs),fun i j xs ys _ h=>absurd h (g i xs),r.Cd⟩;obtain⟨o,M,I⟩:=key i _ h;split at I
 .rename_i j;split at I
  .rename_i y Y;cases I;obtain⟨v,U,R⟩:=r.dat j _ Y;refine⟨v,?_,R⟩;unfold carry;rw[List.getElem?_map,M];simp[U]
  .cases I
 .cases I
theorem Rw.other{G0 H0 G H:Hp}{σ:St}{δ:Dv}{ts:List (PyData×V)}{D:Addr}{o:HO}(r:Rw G0 H0 G H σ δ ts)(Z:G D=none)(h0:H0 D=none)(Y:∀(i:Nat) (xs:Oc),δ[i]? = some (L.own xs)->σ[i]?≠some (some (V.ref D))):Rw G0 H0 G (upd H D o) σ δ ts:=by
 refine⟨r.ext,r.new,fun a u h=>?_,fun a u h=>?_,r.len,r.dat,fun i xs h=>?_,r.apart,r.Cd⟩
 .rw[AI (fun z=>by subst z;rw[Z]at h;cases h)];exact r.ins _ _ h
 .rw[AI (fun z=>by subst z;rw[h0]at h;cases h)];exact r.keep _ _ h
 .obtain⟨a,ys,g,U,R,M,I⟩:=r.own i xs h;exact⟨a,ys,g,U,R,by rw[AI (fun z=>by subst z;exact Y i xs h g)];exact M,I⟩
theorem Rw.adopt{G0 H0 G H:Hp}{σ:St}{δ:Dv}{ts:List (PyData×V)}{D:Addr}{ys:List V}(r:Rw G0 H0 G H σ δ ts)(hD:H D=some (.lst ys))(hG:G D=none)(h0:H0 D=none)(ho:∀(i:Nat) (xs:Oc),δ[i]? = some (L.own xs)->σ[i]?≠some (some (V.ref D))):Rw G0 H0 (upd G D (.lst ys)) H σ δ ts:=by
 have e:AG G (upd G D (.lst ys)):=AK hG _;refine⟨r.ext.trans e,fun a u h=>?_,fun a u h=>?_,r.keep,r.len,fun i x h=>?_,fun i xs h=>?_,r.apart,fun q Z=>(r.Cd q Z).same e⟩
 .by_cases ha:a=D
  .subst ha;exact .inr (.inl h0)
  .rw[AI ha]at h;exact r.new _ _ h
 .by_cases ha:a=D
  .subst ha;rw[AH]at h;rw[hD];exact h
  .rw[AI ha]at h;exact r.ins _ _ h
 .obtain⟨v,g,I⟩:=r.dat i x h;exact⟨v,g,I.same e⟩
 .obtain⟨a,M,g,I,Y,U,R⟩:=r.own i xs h;have ha:a≠D:=fun z=>by subst z;exact ho i xs h g
  exact⟨a,M,g,by rw[AI ha];exact I,Y,U,R.same e⟩
def JC(set:PyData->Dv->Option Dv)(I:Dv->Option Bool)(f:Dv->Option PyData)(δ:Dv)(x:PyData):Option (Option PyData) :=
 (set x δ).bind fun g=>(I g).bind fun b=>if b=true then(f g).map some else some none
def collect(one:PyData->Option (Option PyData)):List PyData->Option (List PyData)
 |[]=>some []
 |x::xs=>(one x).bind fun o=>(collect one xs).map fun r=>o.toList++r
def Hw(set:PyData->Dv->Option Dv)(g:Dv->Option Bool)(f:Dv->Option PyData)(fr:List (Option Nat))(fs:Dv->Option (List PyData))(δ:Dv):Option (List PyData) :=
 (fs δ).bind fun xs=>(collect (JC set g f (Bz fr δ)) xs).bind Ht
def C2(set:PyData->Dv->Option Dv)(g:Dv->Option Bool)(f:Dv->Option PyData)(fr:List (Option Nat))(fs:Dv->Option (List PyData))(δ:Dv):Option PyData :=
 (Hw set g f fr fs δ).map .list
structure UD(G0 H0 Ga:Hp)(σ:St)(δ:Dv)(ts:List (PyData×V))(one:PyData->Option (Option PyData))(xs full:List PyData)(D:Addr)(i:Nat)(ys:List V)(H:Hp):Prop where
 ex:∃G done rest,Rw G0 H0 G H σ δ ts/\AG Ga G/\G D=none/\collect one (xs.drop i)=some rest/\done++rest=full/\A0 G done ys
 h0:H0 D=none
 ap:∀(j:Nat) (us:Oc),δ[j]? = some (L.own us)->σ[j]?≠some (some (V.ref D))
theorem O3{G0 H0 G H:Hp}{D:Addr}{ys:List V}(I:G0 D=none)(g:H0 D=some (.lst ys))(n:Nw G0 H0 G)(e:AG G H)(k:AG H0 H):G D=none:=by
 cases q:G D with
 |none=>rfl
 |some o=>
  rcases n _ _ q with z|z|⟨us,z⟩
  .rw[I]at z;cases z
  .rw[g]at z;cases z
  .have:=e _ _ q;rw[k _ _ g,z]at this;cases this
section
variable{X:Cx}{elt iter:Expr}{x y:Str}{px pos:Pos}{ifs:List Expr}{scope:Scope}{fs:Dv->Option (List PyData)}{tif:Dv->Option Bool}{f:Dv->Option PyData}
def Et(i:Nat)(y:PyData)(δ:Dv):Option Dv:=some (δ.set i (.d y))
theorem VI{wi:TI}{ix:Nat}{fr:List (Option Nat)}(ki:∀(δ:Dv) (xs:List PyData),fs δ=some xs->∀(G0 H0 G H:Hp) (σ:St) (ts:List (PyData×V)) (R:It->Hp->Prop),Rw G0 H0 G H σ δ ts->(∀J G' H',Rw G0 H0 G' H' σ δ ts->LC J xs G'->R J H')->wi σ H R){δ:Dv}{zs:List PyData}(hz:Hw (Et ix) tif f fr fs δ=some zs){G0 H0 G H:Hp}{σ:St}{ts:List (PyData×V)}{Q:VK}(R0:Rw G0 H0 G H σ δ ts)(k:∀D ys G' H',Rw G0 H0 G' H' σ δ ts->H' D=some (.lst ys)->G' D=none->H0 D=none->(∀(j:Nat) (us:Oc),δ[j]? = some (L.own us)->σ[j]?≠some (some (V.ref D)))->A0 G' zs ys->Q (.ref D) H') :
  L4 wi fr ix (XY tif) (tD f) σ H Q:=by
 unfold Hw at hz;obtain⟨xs,m2,m3⟩:=aK.mp hz;obtain⟨full,m4,m5⟩:=aK.mp m3;obtain⟨rfl,hfew⟩:=K6 m5;refine ki δ xs m2 G0 H0 G H σ ts _ R0 fun J Ga Ha Ra it D hD=>?_;have hGD:Ga D=none:=by
  cases q:Ga D with
  |none=>rfl
  |some u=>rw[Ra.ins _ _ q]at hD;cases hD
 have I:H0 D=none:=by
  cases q:H0 D with
  |none=>rfl
  |some u=>rw[Ra.keep _ _ q]at hD;cases hD
 have g:∀(j:Nat) (us:Oc),δ[j]? = some (L.own us)->σ[j]?≠some (some (V.ref D)):=fun j us h z=>by
  obtain⟨a,ys,k1,k2,k3,k4,k5⟩:=Ra.own j us h;rw[z]at k1;cases k1;rw[k4]at hD;cases hD
 refine Ba (n:=xs.length) (UD G0 H0 Ga σ δ ts (JC (Et ix) tif f (Bz fr δ)) xs full D) ⟨⟨Ga,[],full,Ra.other hGD I g,AG.refl _,hGD,by simpa using m4,rfl,.nil⟩,I,g⟩ ?_ ?_
 .rintro i ys H1 Z ⟨⟨G1,done,rest,R1,s1,g1,c1,e1,d1⟩,_,_⟩ hD1;have hx:xs[i]? = some xs[i]:=by simp[Z]
  have sH:=s1.trans R1.ins;have hyl:ys.length<sizeLine:=Ot (by
   rw[d1.len];have:done.length<=full.length:=by rw[<-e1];simp
   lia)
  refine⟨it.go i _ H1 hx sH,hyl,fun v H' y=>?_⟩;obtain⟨G2,n1,n2,n3,n4,n5⟩:=it.Ec i _ H1 v H' hx sH y G1 s1 R1.ins;have R2:=R1.lift n1 n2 n3 n4;have hD2:=n4 _ _ hD1;have g2:G2 D=none:=O3 g1 hD1 n2 n3 n4;rw[List.drop_eq_getElem_cons Z]at c1;unfold collect at c1;obtain⟨o,c2,c3⟩:=aK.mp c1;obtain⟨M,c4,rfl⟩:=aH.mp c3;unfold JC Et at c2;simp only[Option.bind_some]at c2;obtain⟨b,c5,c6⟩:=aK.mp c2;have Ri:=((R2.inner fr).put n5).LI (i:=ix);have Ri0:Rw G2 H' G2 H' ((carry fr σ).set ix (some v)) ((Bz fr δ).set ix (.d xs[i])) []:=Ri.less fun q hq=>by cases hq
  refine⟨_,b,G2,H',G2,[],c5,Ri0,fun G3 H3 Y=>?_⟩;have R3o:=R2.lift Y.ext Y.new Y.ins Y.keep;have hD3:=Y.keep _ _ hD2;have g3:G3 D=none:=O3 g2 hD2 Y.new Y.ins Y.keep;dsimp only;split
  .rename_i hb;rw[if_pos hb]at c6;obtain⟨w,c7,rfl⟩:=aH.mp c6;refine⟨_,w,G2,H',G3,[],c7,Y,fun u G4 H4 U=>?_⟩;have R4o:=R2.lift U.ext U.new U.ins U.keep;have hD4:=U.keep _ _ hD2;have g4:G4 D=none:=O3 g2 hD2 U.new U.ins U.keep;refine⟨hD4,A8 Z ⟨⟨G4,done++[w],M,R4o.other g4 I g,s1.trans (n1.trans U.ext),g4,c4,by simpa using e1,(d1.same (n1.trans U.ext)).app (.cons (U.Cd _ (.head _)) .nil)⟩,I,g⟩⟩
  .rename_i hb;rw[if_neg hb]at c6;cases c6;exact UG Z hD3 ⟨⟨G3,done,M,R3o,s1.trans (n1.trans Y.ext),g3,c4,by simpa using e1,d1.same (n1.trans Y.ext)⟩,I,g⟩
 .rintro ys H1 ⟨⟨G1,done,rest,R1,s1,g1,c1,e1,d1⟩,_,_⟩ hD1;refine⟨it.stop H1 (s1.trans R1.ins),?_⟩;rw[List.drop_length]at c1;cases c1;rw[List.append_nil]at e1;subst e1;exact k _ _ _ _ R1 hD1 g1 I g d1
theorem V7{Y:TI}{ix:Nat}{fr:List (Option Nat)}(ki:∀(δ:Dv) (xs:List PyData),fs δ=some xs->∀(G0 H0 G H:Hp) (σ:St) (ts:List (PyData×V)) (R:It->Hp->Prop),Rw G0 H0 G H σ δ ts->(∀J g H',Rw G0 H0 g H' σ δ ts->LC J xs g->R J H')->Y σ H R){δ:Dv}{z:PyData}(hz:C2 (Et ix) tif f fr fs δ=some z){G0 H0 G H:Hp}{σ:St}{ts:List (PyData×V)}{Q:VK}(R0:Rw G0 H0 G H σ δ ts)(k:∀v g H',Rw G0 H0 g H' σ δ ((z,v)::ts)->Q v H') :
  L4 Y fr ix (XY tif) (tD f) σ H Q:=by
 unfold C2 at hz;obtain⟨full,m1,rfl⟩:=aH.mp hz;refine VI ki m1 R0 fun D ys G1 H1 R1 U Z M I d1=>?_;have e:AG G1 (upd G1 D (.lst ys)):=AK Z _;have R2:=R1.adopt U Z M I;refine k _ _ _ (R2.put ?_);rw[Du];exact⟨D,ys,rfl,AH,d1.same e⟩
theorem O0(N:List Str)(ix:Nat)(fr:List (Option Nat))(hi:DI X (.Name x px) iter fs)(g:∀cl C s₀ H₀ fp,fD (Ap X scope cl N C s₀ H₀ fp) ifs tif)(U:∀cl C s₀ H₀ fp,DE (Ap X scope cl N C s₀ H₀ fp) elt f)
 (h1:B1 scope N x ix=true:=by decide +kernel)(h2:X.calm=true:=by rfl)(h3:En N X.N scope X.env.scope fr 0=true:=by rfl)(Z:fr.length=N.length:=by rfl)(Y:freeOk X.env.scope scope.names=true:=by rfl)
 (R:∀x,foldedSetIterable iter X.env x=pure x:=by intro _;rfl):DE X (.ListComp elt [⟨.Name x px,iter,ifs,0⟩] scope pos) (C2 (Et ix) tif f fr fs):=by
 obtain⟨wi,pi,I⟩:=hi;exact⟨_,Bf N ix fr pi g (fun cl C s₀ H₀ fp=>(U cl C s₀ H₀ fp).pe) h1 h2 h3 Z Y R,fun δ z M G0 H0 G H σ ts Q R0 k=>V7 I M R0 k⟩
end
section
variable{X:Cx}{elt iter:Expr}{x y:Str}{px py tp pos:Pos}{tk:Nat}{ifs:List Expr}{scope:Scope}{fs:Dv->Option (List PyData)}{tif:Dv->Option Bool}{f:Dv->Option PyData}
theorem TV{wi:TI}{ix iy:Nat}{fr:List (Option Nat)}(ki:∀(δ:Dv) (xs:List PyData),fs δ=some xs->∀(G0 H0 G H:Hp) (σ:St) (ts:List (PyData×V)) (R:It->Hp->Prop),Rw G0 H0 G H σ δ ts->(∀J G' H',Rw G0 H0 G' H' σ δ ts->LC J xs G'->R J H')->wi σ H R){δ:Dv}{zs:List PyData}(hz:Hw (HE ix iy) tif f fr fs δ=some zs){G0 H0 G H:Hp}{σ:St}{ts:List (PyData×V)}{Q:VK}(R0:Rw G0 H0 G H σ δ ts)(k:∀D ys G' H',Rw G0 H0 G' H' σ δ ts->H' D=some (.lst ys)->G' D=none->H0 D=none->(∀(j:Nat) (us:Oc),δ[j]? = some (L.own us)->σ[j]?≠some (some (V.ref D)))->A0 G' zs ys->Q (.ref D) H') :
  J5 X.K wi fr ix iy (XY tif) (tD f) σ H Q:=by
 unfold Hw at hz;obtain⟨xs,m2,m3⟩:=aK.mp hz;obtain⟨full,m4,m5⟩:=aK.mp m3;obtain⟨rfl,hfew⟩:=K6 m5;refine ki δ xs m2 G0 H0 G H σ ts _ R0 fun J Ga Ha Ra it D hD=>?_;have hGD:Ga D=none:=by
  cases q:Ga D with
  |none=>rfl
  |some u=>rw[Ra.ins _ _ q]at hD;cases hD
 have I:H0 D=none:=by
  cases q:H0 D with
  |none=>rfl
  |some u=>rw[Ra.keep _ _ q]at hD;cases hD
 have g:∀(j:Nat) (us:Oc),δ[j]? = some (L.own us)->σ[j]?≠some (some (V.ref D)):=fun j us h z=>by
  obtain⟨a,ys,k1,k2,k3,k4,k5⟩:=Ra.own j us h;rw[z]at k1;cases k1;rw[k4]at hD;cases hD
 refine Ey (n:=xs.length) (UD G0 H0 Ga σ δ ts (JC (HE ix iy) tif f (Bz fr δ)) xs full D) ⟨⟨Ga,[],full,Ra.other hGD I g,AG.refl _,hGD,by simpa using m4,rfl,.nil⟩,I,g⟩ ?_ ?_
 .rintro i ys H1 Z ⟨⟨G1,done,rest,R1,s1,g1,c1,e1,d1⟩,_,_⟩ hD1;have hx:xs[i]? = some xs[i]:=by simp[Z]
  have sH:=s1.trans R1.ins;have hyl:ys.length<sizeLine:=Ot (by
   rw[d1.len];have:done.length<=full.length:=by rw[<-e1];simp
   lia)
  refine⟨it.go i _ H1 hx sH,hyl,fun v H' y=>?_⟩;obtain⟨G2,n1,n2,n3,n4,n5⟩:=it.Ec i _ H1 v H' hx sH y G1 s1 R1.ins;have R2:=R1.lift n1 n2 n3 n4;have hD2:=n4 _ _ hD1;have g2:G2 D=none:=O3 g1 hD1 n2 n3 n4;rw[List.drop_eq_getElem_cons Z]at c1;unfold collect at c1;obtain⟨o,c2,c3⟩:=aK.mp c1;obtain⟨M,c4,rfl⟩:=aH.mp c3;unfold JC at c2;obtain⟨δ1,c8,c9⟩:=aK.mp c2;obtain⟨b,c5,c6⟩:=aK.mp c9;unfold HE at c8;split at c8
  .rename_i u1 u2 hu;cases c8;rw[hu,Du]at n5;obtain⟨pa,ps,rfl,q1,q2⟩:=n5;obtain⟨w1,w2,rfl,q3,q4⟩:=q2.LU;have Ri:=(((R2.inner fr).put q4).put q3).LI (i:=ix) |>.LI (i:=iy)
   have Ri0:Rw G2 H' G2 H' (((carry fr σ).set ix (some w1)).set iy (some w2)) (((Bz fr δ).set ix (.d u1)).set iy (.d u2)) []:=Ri.less fun q hq=>by cases hq
   refine⟨pa,w1,w2,rfl,Af.of (n3 _ _ q1),?_⟩;refine⟨_,b,G2,H',G2,[],c5,Ri0,fun G3 H3 Y=>?_⟩;have R3o:=R2.lift Y.ext Y.new Y.ins Y.keep;have hD3:=Y.keep _ _ hD2;have g3:G3 D=none:=O3 g2 hD2 Y.new Y.ins Y.keep;dsimp only;split
   .rename_i hb;rw[if_pos hb]at c6;obtain⟨w,c7,rfl⟩:=aH.mp c6;refine⟨_,w,G2,H',G3,[],c7,Y,fun u G4 H4 U=>?_⟩;have R4o:=R2.lift U.ext U.new U.ins U.keep;have hD4:=U.keep _ _ hD2;have g4:G4 D=none:=O3 g2 hD2 U.new U.ins U.keep;refine⟨hD4,A8 Z ⟨⟨G4,done++[w],M,R4o.other g4 I g,s1.trans (n1.trans U.ext),g4,c4,by simpa using e1,(d1.same (n1.trans U.ext)).app (.cons (U.Cd _ (.head _)) .nil)⟩,I,g⟩⟩
   .rename_i hb;rw[if_neg hb]at c6;cases c6;exact UG Z hD3 ⟨⟨G3,done,M,R3o,s1.trans (n1.trans Y.ext),g3,c4,by simpa using e1,d1.same (n1.trans Y.ext)⟩,I,g⟩
  .cases c8
 .rintro ys H1 ⟨⟨G1,done,rest,R1,s1,g1,c1,e1,d1⟩,_,_⟩ hD1;refine⟨it.stop H1 (s1.trans R1.ins),?_⟩;rw[List.drop_length]at c1;cases c1;rw[List.append_nil]at e1;subst e1;exact k _ _ _ _ R1 hD1 g1 I g d1
theorem VH{Y:TI}{ix Z:Nat}{fr:List (Option Nat)}(ki:∀(δ:Dv) (xs:List PyData),fs δ=some xs->∀(G0 H0 G H:Hp) (σ:St) (ts:List (PyData×V)) (R:It->Hp->Prop),Rw G0 H0 G H σ δ ts->(∀J g H',Rw G0 H0 g H' σ δ ts->LC J xs g->R J H')->Y σ H R){δ:Dv}{z:PyData}(hz:C2 (HE ix Z) tif f fr fs δ=some z){G0 H0 G H:Hp}{σ:St}{ts:List (PyData×V)}{Q:VK}(R0:Rw G0 H0 G H σ δ ts)(k:∀v g H',Rw G0 H0 g H' σ δ ((z,v)::ts)->Q v H') :
  J5 X.K Y fr ix Z (XY tif) (tD f) σ H Q:=by
 unfold C2 at hz;obtain⟨full,m1,rfl⟩:=aH.mp hz;refine TV ki m1 R0 fun D ys G1 H1 R1 U g1 M I d1=>?_;have e:AG G1 (upd G1 D (.lst ys)):=AK g1 _;have R2:=R1.adopt U g1 M I;refine k _ _ _ (R2.put ?_);rw[Du];exact⟨D,ys,rfl,AH,d1.same e⟩
theorem TJ{i:Nat}{z:Str}{pz g:Pos}(N:List Str)(ix I:Nat)(fr:List (Option Nat))(hN:X.N.Nodup)(M:X.N[i]? = some z)(Z:X.env.scope.names.lookup z=some .local)(hi:DI X (.Tuple [.Name x px,.Name y py] tk tp) iter fs)(hif:∀cl C s₀ H₀ fp,fD (Ap X scope cl N C s₀ H₀ fp) ifs tif)(he:∀cl C s₀ H₀ fp,DE (Ap X scope cl N C s₀ H₀ fp) elt f)
 (h1:B1 scope N x ix=true:=by decide +kernel)(h1':B1 scope N y I=true:=by decide +kernel)(U:ix≠I:=by decide)(h2:X.calm=true:=by rfl)(h3:En N X.N scope X.env.scope fr 0=true:=by rfl)(h4:fr.length=N.length:=by rfl)(h5:freeOk X.env.scope scope.names=true:=by rfl)
 (Y:swapsWith (.ListComp elt [⟨.Tuple [.Name x px,.Name y py] tk tp,iter,ifs,0⟩] scope pos) (some (.Name z pz)) g.line X.env=pure true:=by rfl)
 (hs:∀x,foldedSetIterable iter X.env x=pure x:=by intro _;rfl):DS X (.Assign [.Name z pz] (.ListComp elt [⟨.Tuple [.Name x px,.Name y py] tk tp,iter,ifs,0⟩] scope pos) g) (fun δ=>(C2 (HE ix I) tif f fr fs δ).map fun y=>.nx (δ.set i (.d y))):=by
 obtain⟨wi,pi,ki⟩:=hi;refine⟨_,JB N ix I fr hN M Z pi hif (fun cl C s₀ H₀ fp=>(he cl C s₀ H₀ fp).pe) h1 h1' U h2 h3 h4 h5 Y hs,fun δ r h G0 H0 G H σ D R q=>?_⟩;obtain⟨y2,m1,rfl⟩:=aH.mp h;exact VH ki m1 R fun v G' H' R'=>q _ _ _ R'.LI
def M1(N:List Str)(ds:List PyData):Dv:=ds.map .d++List.replicate (N.length-ds.length) .no
def LZ(ps N:List Str)(F:DF)(ds:List PyData):Option PyData:=if ds.length=ps.length then(match F (M1 N ds) with
 |some (.rt x)=>some x
 |some (.nx _)=>some .none
 |some (.rn xs)=>some (.list xs)
 |_=>none) else none
theorem Rw.start{N:List Str}{ds:List PyData}{vs:List V}{G H:Hp}(d:A0 G ds vs)(e:AG G H):Rw G H G H (start N vs) (M1 N ds) []:=by
 have R:=d.len;refine⟨AG.refl _,Nw.refl,e,AG.refl _,by simp[L2.start,M1,R],fun i x h=>?_,fun i xs h=>?_,fun i j xs ys _ h=>?_,fun q M=>by cases M⟩
 .unfold M1 at h;by_cases hi:i<ds.length
  .rw[List.getElem?_append_left (by simpa using hi),List.getElem?_map]at h;obtain⟨y,I,g⟩:=aH.mp h;cases g;obtain⟨v,Y,U⟩:=d.get I;refine⟨v,?_,U⟩;unfold L2.start;rw[List.getElem?_append_left (by simp;lia),List.getElem?_map,Y];rfl
  .rw[List.getElem?_append_right (by simpa using hi),List.getElem?_replicate]at h;split at h<;>cases h
 .unfold M1 at h;by_cases hi:i<ds.length
  .rw[List.getElem?_append_left (by simpa using hi),List.getElem?_map]at h;obtain⟨y,I,g⟩:=aH.mp h;cases g
  .rw[List.getElem?_append_right (by simpa using hi),List.getElem?_replicate]at h;split at h<;>cases h
 .unfold M1 at h;by_cases hi:i<ds.length
  .rw[List.getElem?_append_left (by simpa using hi),List.getElem?_map]at h;obtain⟨y,I,g⟩:=aH.mp h;cases g
  .rw[List.getElem?_append_right (by simpa using hi),List.getElem?_replicate]at h;split at h<;>cases h
theorem gg{G H g H':Hp}{a:Addr}{ys:List V}{xs:List PyData}(m1:AG G g)(m2:Nw G H g)(Z:AG g H')(Y:H a=none)(M:g a=none)(U:H' a=some (.lst ys))(R:A0 g xs ys) :
  AG G (upd g a (.lst ys))/\Nw G H (upd g a (.lst ys))/\AG (upd g a (.lst ys)) H'/\Du (upd g a (.lst ys)) (.list xs) (.ref a):=by
 refine⟨m1.trans (AK M _),fun b o I=>?_,fun b o I=>?_,?_⟩
 .by_cases z:b=a
  .subst z;exact .inr (.inl Y)
  .rw[AI z]at I;exact m2 _ _ I
 .by_cases z:b=a
  .subst z;rw[AH]at I;rw[U];exact I
  .rw[AI z]at I;exact Z _ _ I
 .rw[Du];exact⟨a,ys,rfl,AH,R.same (AK M _)⟩
theorem dM{P:Program}{w:World}{K:PySem.W.Frag}{mg:Str->Option Value}{base:Heap}{x:Str}{st:Stmt}{U:Addr}{fd:FuncData}{N ps:List Str}{k:Nat}{F:DF}(T:Fn K mg x st ps U fd)(S:Ab N ps (AN st))
 (hb:∀(cdv:Value) (A:Around) (outer:List Env) (s:Shared) (H:Hp) (E:XK),Dr k (A.deeper (envOfC x (AN st) s.heap.objs.size U cdv))->MS (LN AY P w K mg base N x (AN st) U cdv A outer s H E).Ug (DZ st) F) :
  AL P w K mg base AY (k+1) U fd ps (FD (LZ ps N F)):=by
 refine T.F.ok S (fun vs H Q E h=>?_) fun cdv A outer s H vs Q E hr h=>?_
 .obtain⟨ds,y,G,g,I,_⟩:=h;unfold LZ at g;split at g
  .rename_i hl;rw[I.len];exact hl
  .cases g
 .obtain⟨ds,y,G,g,I,h3,h4⟩:=h;obtain⟨t,p,kk⟩:=hb cdv A outer s H E hr;refine⟨t,p,?_⟩;unfold LZ at g;split at g
  .split at g
   .rename_i z M;cases g;exact kk _ _ M G H G H _ _ (Rw.start I h3) fun v Y H' m1 m2 m3 m4 Z=>h4 v Y H' m1 m2 m3 m4 Z
   .rename_i δ M;cases g;exact kk _ _ M G H G H _ _ (Rw.start I h3) fun σ' Y H' R=>h4 .BM Y H' R.ext R.new R.ins R.keep (by rw[Du])
   .rename_i xs M;cases g;exact kk _ _ M G H G H _ _ (Rw.start I h3) fun a ys Y H' m1 m2 m3 m4 Z m6 m7 m8=>let⟨n1,n2,n3,n4⟩:=gg m1 m2 m3 Z m6 m7 m8;h4 _ _ H' n1 n2 n3 m4 n4
   .cases g
  .cases g
end
open PySem
abbrev fC(x:PyData):Dv->Option PyData:=fun _=>some x
abbrev eO(f:Dv->Option PyData):Dv->Option PyData:=fun δ=>(f δ).bind fun x=>(ZM x).map fun i=>.int (-i)
abbrev Cc:Dv->Option (List PyData):=fun _=>some []
abbrev Al(f:Dv->Option PyData)(fs:Dv->Option (List PyData)):Dv->Option (List PyData):=fun δ=>(f δ).bind fun x=>(fs δ).map fun xs=>x::xs
abbrev Ym(fs:Dv->Option (List PyData)):Dv->Option PyData:=fun δ=>((fs δ).bind Ht).map .tuple
abbrev jk(fs:Dv->Option (List PyData)):Dv->Option PyData:=fun δ=>((fs δ).bind Ht).map .list
abbrev Ci(m:List PyData->Option PyData)(fs:Dv->Option (List PyData)):Dv->Option PyData:=fun δ=>(fs δ).bind m
abbrev dA(f:Dv->Option PyData):Dv->Option Bool:=fun δ=>(f δ).bind PM
abbrev cN(o:PyData->PyData->Option PyData)(f g:Dv->Option PyData):Dv->Option Bool:=fun δ=>(CU o f g δ).bind PM
abbrev cq(f:Dv->Option Bool):Dv->Option Bool:=fun δ=>(f δ).map fun c=>!c
abbrev JI(f:Dv->Option PyData):Dv->Option (List PyData):=fun δ=>(f δ).bind Kb
abbrev QS(m:List PyData->Option (List PyData))(fs:Dv->Option (List PyData)):Dv->Option (List PyData):=fun δ=>(fs δ).bind m
abbrev F0:Dv->Option Bool:=fun _=>some true
abbrev Xq(i:Nat):PyData->Dv->Option Dv:=fun y δ=>some (δ.set i (.d y))
abbrev Y2:DF:=fun δ=>some (.nx δ)
abbrev OV(f:Dv->Option PyData):DF:=fun δ=>(f δ).map .rt
abbrev Y5(c:Dv->Option Bool)(F G:DF):DF:=fun δ=>(c δ).bind fun c=>if c=true then F δ else G δ
abbrev Mk(i:Nat)(f:Dv->Option PyData):DF:=fun δ=>(f δ).map fun y=>.nx (δ.set i (.d y))
abbrev jl(i:Nat)(fs:Dv->Option (List PyData)):DF:=fun δ=>((fs δ).bind Ht).map fun ys=>.nx (δ.set i (.own (.lst ys)))
abbrev jr(i:Nat)(f:Dv->Option PyData):DF:=fun δ=>(f δ).bind fun y=>(ow i δ).bind fun xs=>if xs.length<El then some (.nx (δ.set i (.own (.lst (xs++[y]))))) else none
abbrev Oj(fs:Dv->Option (List PyData))(set:PyData->Dv->Option Dv)(F:DF):DF:=fun δ=>(fs δ).bind fun xs=>Jw set F xs δ
theorem MA{P:Program}{w:World}{K:PySem.W.Frag}{mg:Str->Option Value}{base:Heap}{CX:He}{k:Nat}{f:Addr}{fd:FuncData}{ps:List Str}{sp:Sp}{m:List PyData->Option PyData}(F:AL P w K mg base CX k f fd ps sp)
 (h:∀ds x,m ds=some x->∀(G H:Hp) (vs:List V) (Q:VK) (E:XK),A0 G ds vs->AG G H->(∀v g H',AG G g->Nw G H g->AG g H'->AG H H'->Du g x v->Q v H')->sp vs H Q E):AL P w K mg base CX k f fd ps (FD m) :=
 F.imp fun vs H Q E z=>by
  obtain⟨ds,x,G,U,R,M,I⟩:=z;exact h ds x U G H vs Q E R M I
section
variable{X:Cx}{a e:Expr}{f g:Dv->Option PyData}{pos:Pos}
def ff(x k:PyData):Option PyData:=match x,k with
 |.list xs,.int i=>if i=-1 then some (.list xs.reverse) else none
 |_,_=>none
abbrev Xp(f g:Dv->Option PyData):Dv->Option PyData:=CU ff f g
theorem cj{p2:Pos}{k:Expr}(he:DE X e f)(hk:DE X k g):DE X (.Subscript e (.Slice none none (some k) p2) pos) (Xp f g):=by
 obtain⟨te,pe,ke⟩:=he;obtain⟨tk,R,Z⟩:=hk;refine⟨_,eT pe R,fun δ z hz G0 H0 G H σ ts Q R0 k=>?_⟩;obtain⟨x,y,h1,h2,I⟩:=two (x:=.none) (y:=.none) hz;refine ke δ x h1 G0 H0 G H σ ts _ R0 fun u G1 H1 R1=>?_;refine Z δ y h2 G0 H0 G1 H1 σ _ _ R1 fun v G2 H2 R2=>?_;have du:=R2.Cd (x,u) (.tail _ (.head _));have M:=R2.Cd (y,v) (.head _);unfold ff at I;split at I
 .split at I
  .rename_i hi;cases I;subst hi;rw[Du]at du;rw[Du]at M;obtain⟨a,ys,rfl,Y,U⟩:=du;exact⟨a,ys,rfl,M,AO.of (R2.ins _ _ Y),fun q hq=>k _ _ _ (R2.drop.drop.eK U.rev hq)⟩
  .cases I
 .cases I
end
def Yn:L->L
 |.own (.lst xs)=>.d (.list xs)
 |.own (.WY kvs)=>.d (iI kvs)
 |.own _=>.no
 |l=>l
def Ia(δ:Dv):Dv:=δ.map Yn
section
variable{G0 H0 G H:Hp}{σ:St}{δ:Dv}{ts:List (PyData×V)}
theorem Rw.Ia(r:Rw G0 H0 G H σ δ ts):Rw H H H H σ (L2.Ia δ) ts:=by
 refine⟨AG.refl _,fun _ _ h=>.inl h,AG.refl _,AG.refl _,by rw[L2.Ia,List.length_map];exact r.len,fun i x h=>?_,fun i xs h=>?_,fun i j xs ys _ h=>?_,fun q hq=>(r.Cd q hq).same r.ins⟩
 .unfold L2.Ia at h;rw[List.getElem?_map]at h;obtain⟨l,R,g⟩:=aH.mp h;unfold Yn at g;split at g
  .rename_i xs;cases g;obtain⟨a,_,M,Z,k3,Y,⟨ys,rfl,U⟩⟩:=r.own i _ R;refine⟨.ref a,M,?_⟩;rw[Du];exact⟨a,ys,rfl,Y,U.same r.ins⟩
  .rename_i kvs;cases g;obtain⟨a,_,M,Z,k3,Y,⟨rr,rfl,U,k6⟩⟩:=r.own i _ R;refine⟨.ref a,M,?_⟩;rw[Du,Nn];exact .inr (.inr ⟨rfl,rfl,a,rr,rfl,Y,U,Kp.same r.ins k6⟩)
  .cases g
  .subst g;obtain⟨v,M,Z⟩:=r.dat i x R;exact⟨v,M,Z.same r.ins⟩
 all_goals
  unfold L2.Ia at h;rw[List.getElem?_map]at h;obtain⟨l,R,g⟩:=aH.mp h;unfold Yn at g;split at g
  .cases g
  .cases g
  .cases g
  .rename_i n1 n3 n2;subst g;cases xs with
   |lst I=>exact(n1 I rfl).elim
   |WY I=>exact(n3 I rfl).elim
   |JW I=>exact(n2 (.JW I) rfl).elim
theorem Rw.on{H':Hp}(r:Rw G0 H0 G H σ δ ts)(e:AG H H'):Rw G0 H0 G H' σ δ ts:=r.lift (AG.refl _) Nw.refl (r.ins.trans e) e
end
section
variable{X:Cx}{e:Expr}{f h:Dv->Option PyData}{fa:Dv->Option Bool}{p:Pos}
abbrev Ve(f:Dv->Option Bool):Dv->Option Bool:=fun δ=>f (Ia δ)
theorem cC(h:DT X e fa):DT X e (Ve fa):=by
 obtain⟨t,p,k⟩:=h;refine⟨t,p,fun δ z g G0 H0 G H σ ts Q R q=>?_⟩;exact k _ z g H H H H σ ts Q R.Ia fun M H' I=>q _ _ (R.on I.keep)
end
section
variable{F F1 F2:DF}{δ δ':Dv}{r:Option Ou}{c:Dv->Option Bool}{f g:Dv->Option PyData}{fs:Dv->Option (List PyData)}
theorem Gu(h:F1 δ=some (.nx δ'))(k:F2 δ'=r):Gr F1 F2 δ=r:=by unfold Gr;rw[h];exact k
theorem iG(h:c δ=some true)(k:F1 δ=r):Y5 c F1 F2 δ=r:=by show(c δ).bind _=r;rw[h];exact k
theorem ZD(h:c δ=some false)(k:F2 δ=r):Y5 c F1 F2 δ=r:=by show(c δ).bind _=r;rw[h];exact k
theorem J1{i:Nat}{y:PyData}(h:f δ=some y):Mk i f δ=some (.nx (δ.set i (.d y))):=by show(f δ).map _=_;rw[h];rfl
theorem L7{y:PyData}(h:f δ=some y):OV f δ=some (.rt y):=by show(f δ).map _=_;rw[h];rfl
theorem Fd{o:PyData->PyData->Option PyData}{x y:PyData}{z:Option PyData}(h1:f δ=some x)(M:g δ=some y)(I:o x y=z):CU o f g δ=z:=by unfold CU;rw[h1,M];exact I
theorem Cu{m:List PyData->Option PyData}{xs:List PyData}{z:Option PyData}(h1:fs δ=some xs)(I:m xs=z):Ci m fs δ=z:=by show(fs δ).bind m=z;rw[h1];exact I
theorem BD{x:PyData}{xs:List PyData}(h1:f δ=some x)(I:fs δ=some xs):Al f fs δ=some (x::xs):=by show(f δ).bind _=_;rw[h1];show(fs δ).map _=_;rw[I];rfl
theorem Z7{xs:List PyData}(h:fs δ=some xs)(I:xs.length<=El):Ym fs δ=some (.tuple xs):=by show((fs δ).bind Ht).map _=_;rw[h];show(Ht xs).map _=_;unfold Ht;rw[if_pos I];rfl
theorem UO{o:PyData->PyData->Option PyData}{x y:PyData}{b:Bool}(h1:f δ=some x)(M:g δ=some y)(I:o x y=some (.bool b)):cN o f g δ=some b:=by show(CU o f g δ).bind PM=_;rw[Fd h1 M I];rfl
theorem Z5{a:Dv->Option Bool}{b:Bool}(h:a δ=some b):cq a δ=some (!b):=by show(a δ).map _=_;rw[h];rfl
theorem Z4{b:Bool}(h:f δ=some (.bool b)):dA f δ=some b:=by show(f δ).bind PM=_;rw[h];rfl
theorem Rb{set:PyData->Dv->Option Dv}(R:Nat->Dv->Prop):∀(xs:List PyData) (δ:Dv) (n:Nat),R n δ->(∀(i:Nat) (x:PyData) (δ:Dv),xs[i]? = some x->R (n+i) δ->∃M I,set x δ=some M/\F M=some (.nx I)/\R (n+i+1) I) ->
  ∃δ',Jw set F xs δ=some (.nx δ')/\R (n+xs.length) δ'
 |[],δ,n,h,_=>⟨δ,rfl,h⟩
 |x::xs,δ,n,h,k=>by
  obtain⟨M,I,h1,h2,h3⟩:=k 0 x δ rfl h;obtain⟨δ',h4,Z⟩:=Rb R xs I (n+1) h3 fun i y δ U Y=>by
   have:=k (i+1) y δ (by simpa using U) (by rw[show n+(i+1)=n+1+i by lia];exact Y);rw[show n+(i+1)+1=n+1+i+1 by lia]at this;exact this
  refine⟨δ',?_,by rw[List.length_cons,show n+(xs.length+1)=n+1+xs.length by lia];exact Z⟩;unfold Jw;rw[h1,Option.bind_some,h2];exact h4
theorem Sr{set:PyData->Dv->Option Dv}{xs:List PyData}(R:Nat->Dv->Prop)(U:fs δ=some xs)(h0:R 0 δ)(Z:∀(i:Nat) (x:PyData) (δ:Dv),xs[i]? = some x->R i δ->∃M I,set x δ=some M/\F M=some (.nx I)/\R (i+1) I) :
  ∃δ',Oj fs set F δ=some (.nx δ')/\R xs.length δ':=by
 obtain⟨δ',h1,h2⟩:=Rb (F:=F) (set:=set) R xs δ 0 h0 fun i x δ U Y=>by
  have:=Z i x δ U (by simpa using Y)
  simpa using this
 refine⟨δ',?_,by simpa using h2⟩;show(fs δ).bind _=_;rw[U];exact h1
end
theorem OJ{ps N:List Str}{F:DF}{ds:List PyData}{x:PyData}(g:ds.length=ps.length)(h:F (M1 N ds)=some (.rt x)):LZ ps N F ds=some x:=by unfold LZ;rw[if_pos g,h]
theorem V2{n:Nat}{i:Int}(h:i.natAbs<2^n):Oh n i=true:=bU h
theorem fN{i j:Int}(h:Nd i j=true):G7 (.int i) (.int j)=some (.int (i*j)):=by
 show P4 Q4 Rz (.int i) (.int j)=_;unfold P4;rw[show Q4 (.int i) (.int j)=some (.int (i*j)) from if_pos h]
section
variable{F F2:DF}{δ δ':Dv}{fs:Dv->Option (List PyData)}{xs:List PyData}{set:PyData->Dv->Option Dv}{r:Option Ou}
theorem ei(R:Nat->Dv->Prop)(U:fs δ=some xs)(h0:R 0 δ)(Y:∀(i:Nat) (x:PyData) (δ:Dv),xs[i]? = some x->R i δ->∃M,set x δ=some M/\∃I,F M=some (.nx I)/\R (i+1) I) :
  ∃δ',Oj fs set F δ=some (.nx δ')/\R xs.length δ':=Sr R U h0 fun i x δ a b=>let⟨M,c,I,e,g⟩:=Y i x δ a b;⟨M,I,c,e,g⟩
theorem Q8(M:Nat->Dv->Prop)(R:fs δ=some xs)(h0:M 0 δ)(U:∀(i:Nat) (x:PyData) (δ:Dv),xs[i]? = some x->M i δ->∃I,set x δ=some I/\∃g,F I=some (.nx g)/\M (i+1) g)
 (k:∀δ',M xs.length δ'->F2 δ'=r):Gr (Oj fs set F) F2 δ=r:=by
 obtain⟨δ',Z,Y⟩:=ei M R h0 U;exact Gu Z (k δ' Y)
end
end L2
set_option maxHeartbeats 2000000
set_option maxHeartbeats 1000000
set_option maxHeartbeats 4000000
set_option maxHeartbeats 1000000
set_option maxHeartbeats 4000000
set_option maxHeartbeats 1000000
set_option maxHeartbeats 4000000
set_option maxHeartbeats 1000000
set_option maxHeartbeats 4000000
set_option maxHeartbeats 1000000
set_option maxHeartbeats 4000000
set_option maxHeartbeats 1000000
set_option maxHeartbeats 2000000
set_option maxHeartbeats 4000000
set_option maxHeartbeats 1000000
set_option maxHeartbeats 4000000
set_option maxHeartbeats 1000000
set_option maxHeartbeats 4000000
set_option maxHeartbeats 1000000
set_option maxHeartbeats 4000000
namespace TH
open PySem PyProof.Rows PySem.SeqAt
abbrev LP(d:Addr)(ep n i:Nat):Obj:={ cls:=.type "dict_keyiterator",data:=.fields #[.ref d,.int (i:Int) 0,.int (n:Int) 0,.int (ep:Int) 0]}
section
variable{prog:Program}{w:World}{A:Around}{E:Value->Shared->Prop}{s:Shared}{d I:Addr}{o:Obj}{es:Array DictEntry}{ep i:Nat}
theorem X4{Q:Option Value->Shared->Prop}{e:DictEntry}(R:s.heap.get? d=some o)(hd:o.data=.dict es ep)(M:s.heap.get? I=some (LP d ep es.size i))(hx:es[i]? = some e)
 (h:∀h',h'.get? I=some (LP d ep es.size (i+1))->Heap.SameBut I s.heap h'->Q (some e.key) {s with heap:=h'}):wpAny (model prog w) A (pyNext (.ref I)) Q E s:=by
 have g:s.TypeIs (.ref I) "dict_keyiterator" := ⟨_,M,rfl⟩;unfold pyNext;refine aA (wpAny_attempt (ar (name:=Str.ofString "__next__") g F.slot_dict_keyiterator_next (az F.slot_dict_keyiterator_next g F.entry_dict_keyiterator_next ?_ (F.args_dict_keyiterator_next_1 _))));refine aA (aC (aA (aA (aA (wpAny_typeNameOfWhole_keyiter g (aC ?_))))));refine aA (bq M rfl ?_);have q0:Builtin.Dict_items.ownsTuple "dict_keyiterator" = false:=by decide
 simp only[q0,Bool.false_eq_true,if_false];have Z:¬(Value.ref d==Value.none)=true:=aO;show wpAny _ _ (if(Value.ref d==Value.none)=true then _ else _) _ _ s;rw[if_neg Z];refine aA (aC (aA (bo R hd ?_)));rw[if_neg (by simp)];refine aA (aC (aA (wpAny_dictEpoch R hd ?_)));rw[if_neg (by simp)];refine aC ?_;have Y:¬((i:Int)<0):=by lia
 simp only[Y,if_false,Int.toNat_natCast,hx];refine aA (aA (wpAny_typeNameOfWhole_keyiter g (aC ?_)));refine aA (wpAny_isOneOf_keyiter g ?_);show wpAny _ _ (setField (.ref I) 1 (rawInt ((i:Int)+1))>>=_) _ _ s;refine aA (wpAny_setField M rfl (by simp) ?_);have U:(s.heap.update I (Obj.mapFields (·.setIfInBounds 1 (rawInt ((i:Int)+1))))).get? I=some (LP d ep es.size (i+1)):=Heap.get?_update_self _ M rfl;refine aA (bM (aA (wpAny_isOneOf_keyiter ⟨_,U,rfl⟩ ?_)));show wpAny _ _ (pure e.key) _ _ _;exact aC (aC ⟨_,rfl,wpAny_pure (h _ U (bJ ..))⟩)
theorem Xj{Q:Option Value->Shared->Prop}(hh:A.handled=none)(U:s.heap.get? d=some o)(hd:o.data=.dict es ep)(R:s.heap.get? I=some (LP d ep es.size es.size))
 (h:∀h',Heap.ExtBut I s.heap h'->Q none {s with heap:=h'}):wpAny (model prog w) A (pyNext (.ref I)) Q E s:=by
 have g:s.TypeIs (.ref I) "dict_keyiterator" := ⟨_,R,rfl⟩;unfold pyNext;refine aA (wpAny_attempt (ar (name:=Str.ofString "__next__") g F.slot_dict_keyiterator_next (az F.slot_dict_keyiterator_next g F.entry_dict_keyiterator_next ?_ (F.args_dict_keyiterator_next_1 _))));refine aA (aC (aA (aA (aA (wpAny_typeNameOfWhole_keyiter g (aC ?_))))));refine aA (bq R rfl ?_);have q0:Builtin.Dict_items.ownsTuple "dict_keyiterator" = false:=by decide
 simp only[q0,Bool.false_eq_true,if_false];have q1:¬(Value.ref d==Value.none)=true:=aO;show wpAny _ _ (if(Value.ref d==Value.none)=true then _ else _) _ _ s;rw[if_neg q1];refine aA (aC (aA (bo U hd ?_)));rw[if_neg (by simp)];refine aA (aC (aA (wpAny_dictEpoch U hd ?_)));rw[if_neg (by simp)];refine aC ?_;have Z:¬((es.size:Int)<0):=by lia
 have Y:es[es.size]? = none:=Array.getElem?_eq_none (aD _);simp only[Z,if_false,Int.toNat_natCast,Y];refine aA (aA (wpAny_typeNameOfWhole_keyiter g (aC ?_)));show wpAny _ _ (setField (.ref I) 0 .none>>=_) _ _ s;refine aA (wpAny_setField R rfl (by simp) ?_);refine aA ?_;simp only[newExc,newTuple];refine aA (aZ ?_ (by size_fits));refine aA (m:=firstArgMember _ _) (wpAny_of_eq (a:=Value.none) (by first|rfl|(simp only[firstArgMember];rfl)) (aZ ?_ (by size_fits)));simp only[raiseNew];refine aA (wpAny_handled ?_);have M:A.in1.handled=none:=hh;rw[M];refine aA (aC (wpAny_throw ?_));refine aA (wpAny_isInstance (b:=true) (T := "StopIteration") ⟨_,Heap.get?_push_size _ rfl,rfl⟩ isSubtype_stop ?_);exact aC (h _ (((bJ ..).extBut.push _).push _))
theorem Xu{Q:Value->Shared->Prop}(M:s.heap.get? I=some (LP d ep es.size i))(h:Q (.ref I) s):wpAny (model prog w) A (pyIter (.ref I)) Q E s:=by
 have g:s.TypeIs (.ref I) "dict_keyiterator" := ⟨_,M,rfl⟩;refine wpAny_pyIter_slot g F.slot_dict_keyiterator_iter (az F.slot_dict_keyiterator_iter g F.entry_dict_keyiterator_iter ?_ (F.args_dict_keyiterator_iter_1 _));show wpAny _ _ (ret (.ref I)) _ _ s;exact aC ⟨_,rfl, "dict_keyiterator",_,g,F.slot_dict_keyiterator_next.lookup,h⟩
theorem YY{Q:Value->Shared->Prop}(R:(d==sysModules)=false)(g:s.heap.get? d=some o)(U:o.cls=.type "dict")(hd:o.data=.dict es ep)(h:Q (.ref s.heap.objs.size) {s with heap:=s.heap.push (LP d ep es.size 0)}) :
  wpAny (model prog w) A (pyIter (.ref d)) Q E s:=by
 have M:s.TypeIs (.ref d) "dict" := ⟨o,g,U⟩;refine wpAny_pyIter_slot M F.slot_dict_iter (az F.slot_dict_iter M F.entry_dict_iter ?_ (F.args_dict_iter_1 _));unfold Builtin.«dict.__iter__»;refine aA ?_;unfold Builtin.Dict.dictSlotNone;refine aA (wpAny_notOrdered_dict M (show wpAny _ _ (pure (Value.ref d)) _ _ s from aC ?_));have hn:¬(d==sysModules)=true:=by rw[R];exact aO
 show wpAny _ _ (Builtin.Dict.showsAll d>>=_) _ _ s;unfold Builtin.Dict.showsAll;rw[if_neg hn];refine aA (aC (aA (bo g hd (aA (wpAny_dictEpoch g hd ?_)))));exact aA (aZ (aC ⟨_,rfl, "dict_keyiterator",_,⟨_,Heap.get?_push_size _ rfl,rfl⟩,F.slot_dict_keyiterator_next.lookup,h⟩))
theorem U2(hh:A.handled=none)(hne:d≠I)(hd:o.data=.dict es ep) :
  Walks prog w A I [I,d] [I] es.size (fun i v=>∃e,es[i]? = some e/\v=e.key) (fun i h=>h.get? I=some (LP d ep es.size i)/\h.get? d=some o) where
 sub:=fun b hb=>by simp at hb;simp[hb]
 frame:=fun _ _ _ x k=>⟨k I (by simp) _ x.1,k d (by simp) _ x.2⟩
 item:=fun i s Q E hi x hQ=>by
  have hx:es[i]? = some es[i]:=Array.getElem?_eq_getElem hi;refine X4 x.2 hd x.1 hx fun h' g sb=>hQ _ h' s.toks ⟨_,hx,rfl⟩ ⟨g,(sb.2 d hne).trans x.2⟩ fun b u hb e=>?_;rw[sb.2 b fun q=>hb (by simp[q])];exact e
 done:=fun s Q E x hQ=>Xj hh x.2 hd x.1 fun h' eb=>hQ h' s.toks fun b u hb e=>eb b u (fun q=>hb (by simp[q])) e
 self:=fun _ _ _ _ x hQ=>Xu x.1 hQ
theorem Yt(hs:(d==sysModules)=false)(hc:o.cls=.type "dict")(hd:o.data=.dict es ep):PySem.W.KdlSrc prog w "dict" d d es.size (fun i v=>∃e,es[i]? = some e/\v=e.key) (fun h=>h.get? d=some o) where
 type:=fun _ ho=>⟨o,ho,hc⟩
 there:=fun _ ho=>⟨aG ho,Heap.lt_size ho⟩
 keep:=fun _ _ ho k=>k d (.inl rfl) _ ho
 notList:=by decide
 notTuple:=by decide
 hint:=fun _ _ s _ ho h=>PySem.W.kdl_hint_dict ⟨o,ho,hc⟩ h
 iter:=fun A s hh ho=>⟨LP d ep es.size 0,_,(fun E Q h=>YY hs ho hc hd h),U2 hh (aT (aG ho)) hd,⟨aX _ rfl,Heap.get?_push_of_some _ ho⟩⟩
end
end TH
namespace SK
open PySem PySem.W PyProof.Rows PySem.SeqAt TH
abbrev Ext(h0 h:Heap):Prop:=∀c o,h0.get? c=some o->h.get? c=some o
section
variable{prog:Program}{w:World}{A:Around}{E:Value->Shared->Prop}{s:Shared}{a:Addr}{vs:List Value}{kz:List Int}{P:PySem.Fin->Shared->Prop}
def Told(prog:Program)(w:World)(A:Around)(s:Shared)(h0:Heap)(f:Value)(vs:List Value)(kz:List Int):Prop :=
 ∀(i:Nat) (v:Value) (k:Int),vs[i]? = some v->kz[i]? = some k->∀(h:Heap) (I:Nat),Ext h0 h ->
  wpAny (model prog w) A (call f [v]) (fun r R=>∃h' g M,R={s with heap:=h',toks:=g}/\r=.int k M/\Ext h h') (fun _ _=>False) {s with heap:=h,toks:=I}
theorem W2{st:SortSt}{kS:Addr}{keys:Array Value}{e e1:Nat}(nk:s.heap.get? kS=some (seqObj "list" keys e))(na:s.heap.get? a=some (seqObj "list" #[] e1))(R:kS≠a)
 (hk:IntsAre keys.toList kz)(hlen:kz.length=vs.length)(h64:vs.length<64)(hp:(arrOf st).Perm (keys.zip vs.toArray))(hs:SortedTo (arrOf st) (arrOf st).size)(U:failedOf st=none)
 (h:∀h' out c,(∀b o,b≠kS->b≠a->s.heap.get? b=some o->h'.get? b=some o)->h'.get? a=some (seqObj "list" out c)->KskOut false kz vs out.toList->P (.done (.ret .none)) {s with heap:=h'}) :
  wpAny (model prog w) A (ksk_tail a false e1 (.ref kS) st) P E s:=by
 have M:keys.size=vs.length:=by
  have Z:=hk.length;rw[Array.length_toList]at Z
  lia
 have I:(arrOf st).size=vs.length:=by rw[hp.size_eq,Array.size_zip,M,List.size_toArray,Nat.min_self]
 have s1:=bJ s.heap kS (Obj.mapSeq fun _=>(#[]:Array Value));have g:(s.heap.update kS (Obj.mapSeq fun _=>(#[]:Array Value))).get? a=some (seqObj "list" #[] e1):=(s1.2 a R.symm).trans na;have s2:=bJ (s.heap.update kS (Obj.mapSeq fun _=>(#[]:Array Value))) a (Obj.mapSeq fun _=>if false=true then((arrOf st).map (·.2)).reverse else(arrOf st).map (·.2));obtain⟨c2,Y⟩:∃c2,((s.heap.update kS (Obj.mapSeq fun _=>(#[]:Array Value))).update a (Obj.mapSeq fun _=>if false=true then((arrOf st).map (·.2)).reverse else(arrOf st).map (·.2))).get? a=some (seqObj "list" (if false=true then((arrOf st).map (·.2)).reverse else(arrOf st).map (·.2)) c2) :=
  ⟨_,get?_update_seq g fun _=>if false=true then((arrOf st).map (·.2)).reverse else(arrOf st).map (·.2)⟩
 unfold ksk_tail
 try dsimp only
 refine aA (listUpdate_at nk rfl ?_ (by rw[M,sizeLine_eq];lia) (ah _));refine aA (wpAny_letGo ?_);refine aA (seqEpoch_at g rfl ?_);refine aA (listUpdate_at g rfl ?_ (ah _) (by
  show(if false=true then((arrOf st).map (·.2)).reverse else(arrOf st).map (·.2)).size<=_;rw[if_neg (by decide),Array.size_map,I,sizeLine_eq];lia))
 rw[U];simp only[bne_self_eq_false,Bool.false_eq_true,if_false];exact aC (h _ _ c2 (fun b o Z h2 q=>(s2.2 b h2).trans ((s1.2 b Z).trans q)) Y (ksk_out (b:=false) hk hp hs))
theorem iU{kS:Addr}{keys:Array Value}{e e1:Nat}(nk:s.heap.get? kS=some (seqObj "list" keys e))(na:s.heap.get? a=some (seqObj "list" #[] e1))(Z:kS≠a)
 (hk:IntsAre keys.toList kz)(I:kz.length=vs.length)(R:vs.length<64)
 (h:∀h' out c,(∀b o,b≠kS->b≠a->s.heap.get? b=some o->h'.get? b=some o)->h'.get? a=some (seqObj "list" out c)->KskOut false kz vs out.toList->P (.done (.ret .none)) {s with heap:=h'}) :
  wpAny (model prog w) A (ksk_end a false vs.toArray e1 (.ref kS) keys) P E s:=by
 have Y:keys.size=vs.length:=by
  have h1:=hk.length;rw[Array.length_toList]at h1
  lia
 have M:(keys.zip vs.toArray).size=vs.length:=by rw[Array.size_zip,Y,List.size_toArray,Nat.min_self]
 unfold ksk_end
 try dsimp only
 simp only[Bool.false_eq_true,if_false];by_cases U:vs.toArray.size<2
 .rw[if_pos U,if_pos U];refine aA (aC ?_);rw[StateT.run_pure];refine aA (aC ?_)
  try dsimp only
  refine W2 (st:=SortSt.mk' general' (keys.zip vs.toArray) #[] 7 none) nk na Z hk I R (Array.Perm.refl _) ?_ rfl h;intro i j hij hj;have hj2:j<(keys.zip vs.toArray).size:=hj;rw[M]at hj2;rw[List.size_toArray]at U;have:i=j:=by lia
  subst this;exact Int.le_refl _
 .rw[if_neg U,if_neg U];rw[List.size_toArray]at U;rw[ksk_kind hk (by rw[Y];lia)];refine aA (aC ?_);refine aA (ak (wpS_sortRuns (a₀:=keys.zip vs.toArray) (st:=SortSt.mk' oneType' (keys.zip vs.toArray) #[] 7 none)
   (Q:=fun _ g=>(arrOf g).Perm (keys.zip vs.toArray)/\failedOf g=none/\SortedTo (arrOf g) (keys.zip vs.toArray).size)
   (ksk_intKeys hk) ⟨Array.Perm.refl _,rfl,rfl,rfl⟩ (by rw[M];lia) (by rw[M];exact R) fun g a1 a2 a3=>⟨a1,a2,a3⟩) ?_ fun _ _ e=>e)
  rintro⟨⟨⟩,g⟩ s' ⟨rfl,hp,hf,hs⟩
  try dsimp only
  exact W2 nk na Z hk I R hp (by rw[hp.size_eq];exact hs) hf h
theorem gD{f:Value}{n:Nat}{h0:Heap}(ho:s.heap.get? a=some (seqObj "list" vs.toArray n))(hx:∀b o,h0.get? b=some o->b≠a/\s.heap.get? b=some o)(hlen:kz.length=vs.length)(h64:vs.length<64)(turn:Told prog w A s h0 f vs kz)
 (h:∀h' tk out c,(∀b o,b≠a->s.heap.get? b=some o->h'.get? b=some o)->h'.get? a=some (seqObj "list" out c)->KskOut false kz vs out.toList->P (.done (.ret .none)) {s with heap:=h',toks:=tk}) :
  wpAny (model prog w) A (ksk_tree a f false) P E s:=by
 have ha:a<s.heap.objs.size:=aG ho;have s1:=bJ s.heap a (Obj.mapSeq fun _=>(#[]:Array Value));obtain⟨e1,ho1⟩:∃e1,(s.heap.update a (Obj.mapSeq fun _=>(#[]:Array Value))).get? a=some (seqObj "list" #[] e1):=⟨_,get?_update_seq ho fun _=>#[]⟩;have hkS:((s.heap.update a (Obj.mapSeq fun _=>(#[]:Array Value))).push (seqObj "tuple" vs.toArray 0)).objs.size=s.heap.objs.size+1:=by rw[size_push',Heap.size_update]
 unfold ksk_tree;refine aA (listItems_at ho rfl ?_);refine aA (listUpdate_at ho rfl ?_ (by rw[List.size_toArray,sizeLine_eq];lia) (ah _));refine aA (seqEpoch_at ho1 rfl ?_);refine aA (wpAny_newTuple ?_ (by show vs.length<=_;rw[sizeLine_eq];lia));refine aA (wpAny_newList ?_ (ah _));refine bM ?_;show wpAny (model prog w) A (ksk_rest a f false vs.toArray e1 (.ref ((s.heap.update a (Obj.mapSeq fun _=>(#[]:Array Value))).push (seqObj "tuple" vs.toArray 0)).objs.size)) P E {s with heap:=((s.heap.update a (Obj.mapSeq fun _=>(#[]:Array Value))).push (seqObj "tuple" vs.toArray 0)).push (seqObj "list" #[] 0)};have gk:(((s.heap.update a (Obj.mapSeq fun _=>(#[]:Array Value))).push (seqObj "tuple" vs.toArray 0)).push (seqObj "list" #[] 0)).get? ((s.heap.update a (Obj.mapSeq fun _=>(#[]:Array Value))).push (seqObj "tuple" vs.toArray 0)).objs.size=some (seqObj "list" #[] 0):=aX _ rfl;rw[hkS]at gk ⊢;have ga:(((s.heap.update a (Obj.mapSeq fun _=>(#[]:Array Value))).push (seqObj "tuple" vs.toArray 0)).push (seqObj "list" #[] 0)).get? a=some (seqObj "list" #[] e1):=aE _ (aE _ ho1);have gb:∀b o,b≠a->s.heap.get? b=some o->(((s.heap.update a (Obj.mapSeq fun _=>(#[]:Array Value))).push (seqObj "tuple" vs.toArray 0)).push (seqObj "list" #[] 0)).get? b=some o:=fun b o M q=>aE _ (aE _ ((s1.2 b M).trans q));generalize ((s.heap.update a (Obj.mapSeq fun _=>(#[]:Array Value))).push (seqObj "tuple" vs.toArray 0)).push (seqObj "list" #[] 0)=h6 at gk ga gb;generalize hK:s.heap.objs.size+1=kS at gk;have hka:kS≠a:=by rw[<-hK];exact bE (bX ha)
 have hkb:∀b o,s.heap.get? b=some o->b≠kS:=fun b o q=>by rw[<-hK];exact aT (bX (aG q))
 unfold ksk_rest;refine aA (wpAny_rule ?_)
 first
  |rw[List.forIn_toArray]
  |(rw[<-Array.forIn_toList];simp only[List.toList_toArray])
  |rw[<-Array.forIn_toList]
 refine aA (ksk_fold (fun i s'=>∃h' tk I e,s'={s with heap:=h',toks:=tk}/\h'.get? kS=some (seqObj "list" I e)/\h'.get? a=some (seqObj "list" #[] e1)/\(∀b o,b≠a->s.heap.get? b=some o->h'.get? b=some o)/\IntsAre I.toList (kz.take i)) vs 0 {s with heap:=h6}
  ⟨h6,s.toks,#[],0,rfl,gk,ga,gb,by simpa using IntsAre.nil⟩ ?step ?done)
 case step=>
  rintro j x s' Z ⟨h',tk,I,e,rfl,Y,na,nb,U⟩;simp only[Nat.zero_add]at U ⊢;have hj:j<vs.length:=(aB.mp Z).1;obtain⟨k,hkj⟩:∃k,kz[j]? = some k:=⟨_,List.getElem?_eq_getElem (by lia)⟩;have hz:I.size<=vs.length:=by
   have M:=U.length;rw[Array.length_toList,List.length_take]at M
   lia
  refine aA (wpAny_attempt (ak (turn j x k Z hkj h' tk fun b o q=>nb b o (hx b o q).1 (hx b o q).2) (fun v s'' he=>?_) fun _ _ hF=>hF.elim));obtain⟨g,tk2,R,rfl,rfl,x2⟩:=he
  try dsimp only
  have s2:=bJ g kS (Obj.mapSeq (·.push (.int k R)));obtain⟨c2,hc2⟩:∃c2,(g.update kS (Obj.mapSeq (·.push (.int k R)))).get? kS=some (seqObj "list" (I.push (.int k R)) c2):=⟨_,get?_update_seq (x2 _ _ Y) (·.push (.int k R))⟩;have ek:kz.take (j+1)=kz.take j++[k]:=by rw[List.take_add_one,hkj];simp
  have ea:(I.push (Value.int k R)).toList=I.toList++[Value.int k R]:=by simp
  refine aA (listUpdate_at (x2 _ _ Y) rfl ?_ (by rw[sizeLine_eq];lia) (aU (Nat.le_of_eq (Array.size_push ..)) (by rw[sizeLine_eq];lia)));exact aC ⟨rfl,_,_,I.push (.int k R),c2,rfl,hc2,(s2.2 a hka.symm).trans (x2 _ _ na),fun b o M q=>(s2.2 b (hkb b o q)).trans (x2 _ _ (nb b o M q)),by rw[ea,ek];exact ksk_snoc U⟩
 case done=>
  rintro s' ⟨h',tk,I,e,rfl,Y,na,nb,U⟩;have hk':IntsAre I.toList kz:=by
   have e3:kz.take (0+vs.length)=kz:=List.take_of_length_le (by lia);rw[e3]at U;exact U
  try dsimp only
  refine aA (listItems_at Y rfl ?_);exact iU (s:={s with heap:=h',toks:=tk}) Y na hka hk' hlen h64 fun h3 out c g1 g2 g3=>h h3 tk out c (fun b o M q=>g1 b o (hkb b o q) M (nb b o M q)) g2 g3
theorem Yk{d:Addr}{o:Obj}{es:Array DictEntry}{ep:Nat}{i:String}{Q:Value->Shared->Prop}(hs:(d==sysModules)=false)(ho:s.heap.get? d=some o)(hc:o.cls=.type "dict")(hdt:o.data=.dict es ep)(hA:A.handled=none)
 (hv:es.toList.map (·.key)=vs)(R:kz.length=vs.length)(h64:vs.length<64)(turn:Told prog w A.in1.in1 s s.heap (.builtin i) vs kz)
 (h:∀(h':Heap) (D tk c:Nat) (out:Array Value),s.heap.objs.size<=D->Ext s.heap h'->h'.get? D=some (seqObj "list" out c)->KskOut false kz vs out.toList->Q (.ref D) {s with heap:=h',toks:=tk}) :
  wpAny (model prog w) A (call (.builtin "sorted") [.ref d] [(Str.ofString "key",.builtin i)]) Q E s:=by
 refine call_function_entry_kw kind_sorted plain_sorted entry_sorted (ksk_s1 _ _) ?_;unfold Builtin.«sorted»;refine aA (m:=checkCount "sorted" 1 1 _) (aC ?_);have hes:es.size=vs.length:=by rw[<-hv,List.length_map,Array.length_toList]
 refine aA (gather (A:=A.in1) (Yt hs hc hdt) hA ho (NQ (by lia)) fun M tk g z1 k1 I=>?_);have hal:g.toList=vs:=by
  rw[<-hv];apply List.ext_getElem?;intro j;rw[List.getElem?_map];by_cases hj:j<g.size
  .have e1:g[j]? = some g[j]:=Array.getElem?_eq_getElem hj;obtain⟨e,e2,e3⟩:=I.2 j _ e1;rw[Array.getElem?_toList,e1,Array.getElem?_toList,e2,e3]
   rfl
  .have Z:¬j<es.size:=by rw[<-I.1];exact hj
   rw[List.getElem?_eq_none (by simpa using hj),List.getElem?_eq_none (by simpa using Z)]
   rfl
 rw[hal];refine aA (wpAny_newList ?_ (NQ (by lia)));have g1:(M.push (seqObj "list" vs.toArray 0)).get? M.objs.size=some (seqObj "list" vs.toArray 0):=aX _ rfl;have Y:∀b u,s.heap.get? b=some u->b≠M.objs.size/\(M.push (seqObj "list" vs.toArray 0)).get? b=some u:=fun b u e=>⟨aT (aG (k1 b u e)),Heap.get?_push_of_some _ (k1 b u e)⟩;refine aA (bM (wpAny_call_entry_kw slot_list_sort ⟨_,g1,rfl⟩ entry_list_sort ?_ (ksk_l1 _ _)));show wpAny (model prog w) A.in1.in1 (Builtin.«list.sort» ⟨[.ref M.objs.size],[(Str.ofString "key",.builtin i)]⟩) _ _ _;rw[ksk_t4];refine gD (s:={s with heap:=M.push (seqObj "list" vs.toArray 0),toks:=tk}) (h0:=s.heap) g1 Y R h64 turn fun h' U out c x1 x2 x3=>⟨_,rfl,?_⟩;exact aC ⟨_,rfl,h h' M.objs.size U c out (bZ z1) (fun b u e=>x1 b u (Y b u e).1 (Y b u e).2) x2 x3⟩
end
end SK
namespace L2
open PySem PySem.Spec PyProof.Rows
theorem perm_back{α β:Type}(f:α->β){U R:List β}(h:U.Perm R):∀L:List α,R=L.map f->∃g:List α,g.Perm L/\U=g.map f:=by
 induction h with
 |nil=>intro L e;exact⟨[],by cases L with|nil=>exact .nil|cons a L=>simp at e,rfl⟩
 |cons x _ Y=>
  intro L e;cases L with
  |nil=>simp at e
  |cons a L=>
   simp at e;obtain⟨g,M,I⟩:=Y L e.2;exact⟨a::g,M.cons a,by rw[I,e.1];rfl⟩
 |swap x y l=>
  intro L e
  match L,e with
  |a::b::L,e=>
   simp at e;exact⟨b::a::L,List.Perm.swap ..,by simp[e.1,e.2.1,e.2.2]⟩
 |trans _ _ i1 i2=>
  intro L e;obtain⟨L2,M,I⟩:=i2 L e;obtain⟨L1,h3,Z⟩:=i1 L2 I;exact⟨L1,h3.trans M,Z⟩
theorem X9{prog:Program}{w:World}{A:Around}{s:Shared}{E:Value->Shared->Prop}(hA:A.handled=none){p:Addr}{ns:List Int}{g:List Value}(rv:Vals (ns.map V.int) g)(pl:s.heap.IsTuple p g.toArray) :
  wpAny (model prog w) A (call (.builtin "sum") [.ref p]) (fun r s'=>∃h' U t',s'={s with heap:=h',toks:=U}/\r=.int ns.sum t'/\SK.Ext s.heap h') E s:=by
 have hi:=intsAre_of rv;obtain⟨xs,Y⟩:=hi.allInts.items;have I:s.heap.IsTuple p (intItems xs):=Y ▸ pl
 have R:p<s.heap.objs.size:=by obtain⟨_,e,_⟩:=I;exact aG e
 have e1:ns=xs.toList.map (·.1):=by
  rw[<-nums_intItems,<-Y];exact(show numsOf g.toArray.toList=ns from hi.numsOf).symm
 have e2:preSum (numAt xs) xs.size=ns.sum:=by
  rw[preSum_eq,List.take_of_length_le (by simp),e1]
 refine call_sum_walkG (wpAny_pyIter_tuple I ?_);refine⟨_,[_,p],[_],_,_,_,numAt xs,rfl,Walks.tuple (A:=A.in1) hA _ p (aT R) (intItems xs),
  ⟨⟨_,Heap.get?_push_size _ rfl,rfl,rfl⟩,I.push _⟩,fun c M=>?_,(fun _ _=>intItems_at),fun h' Z t' hk=>?_⟩
 .show c<(s.heap.push _).objs.size;rw[Heap.size_push];rcases aY.mp M with rfl|M
  .exact Nat.lt_succ_self _
  .rw[List.mem_singleton.mp M];exact bX R
 .have e3:preSum (numAt xs) (intItems xs).size=ns.sum:=by
   rw[<-e2];simp[intItems]
  rw[e3];exact⟨h',Z,t',rfl,rfl,PyProof.Rows.LSm.kept_iter hk⟩
def ZP(H:Hp)(x:V)(Q:VK):Prop:=∃(a:Addr) (kvs:List (List Key×V)) (ps:List (List Int)),x=.ref a/\H a=some (.dT kvs)/\kvs.length<64/\kvs.map (·.1)=ps.map (·.map Sum.inl) /\
 ∀(D:Addr) (H':Hp) (L:List (List Int×Addr)),(∀b o,H b=some o->H' b=some o)->(∀b,b≠D->H' b=H b)->H D=none->H' D=some (.lst (L.map fun l=>V.ref l.2))->(L.map (·.1)).Perm ps->L.Pairwise (fun p q=>p.1.sum<=q.1.sum) ->
  (∀l∈L,H l.2=some (.tup (l.1.map V.int)))->Q (.ref D) H'
theorem W3{X:Cx}{pins:List (Addr×Obj)}{σ:St}{H:Hp}{s:Shared}{Q:VK}(I:Inv X pins σ H s){x:V}{v:Value}(rx:RelV x v)(hc:X.calm=true)(q:ZP H x Q) :
  wpAny (model X.prog X.w) X.A (call (.builtin "sorted") [v] [(Str.ofString "key",.builtin "sum")]) (EP X pins σ Q) X.xe s:=by
 obtain⟨a,kvs,ps,rfl,ha,h64,Z,q⟩:=q;cases rx;obtain⟨hz,nd,xs,kt,o,es,ep,r1,r2,r3,r4,r5,r6⟩:=Vk I.Ah ha;have hlen:es.size=kvs.length:=by rw[size_of_entries r4];exact(Paired.length kt).symm
 have U:ps.length=kvs.length:=by
  have:=bP List.length Z
  simpa using this.symm
 have M:xs.length=kvs.length:=(Paired.length kt).symm
 let g:List (List Int×Addr):=ps.zip (xs.map (·.2.1))
 have hL:g.length=kvs.length:=by simp[g,U,M]
 have l1:g.map (·.1)=ps:=by
  show(ps.zip _).map Prod.fst=ps;exact List.map_fst_zip (by simp[U,M])
 have l2:g.map (·.2)=xs.map (·.2.1):=by
  show(ps.zip _).map Prod.snd=_;exact List.map_snd_zip (by simp[U,M])
 have hkey:es.toList.map (·.key)=g.map fun l=>Value.ref l.2:=by
  have:(g.map fun l=>Value.ref l.2)=(g.map (·.2)).map Value.ref:=by simp
  rw[this,l2];apply List.ext_getElem?;intro j;rw[List.getElem?_map,Array.getElem?_toList,entry_at r4 j,List.map_map,List.getElem?_map];cases xs[j]? <;> rfl
 have hin:∀l∈g,H l.2=some (.tup (l.1.map V.int)):=fun l hl=>by
  obtain⟨j,hj⟩:=aa hl;have h1:(g.map (·.1))[j]? = some l.1:=by rw[List.getElem?_map,hj];rfl
  have h2:(g.map (·.2))[j]? = some l.2:=by rw[List.getElem?_map,hj];rfl
  rw[l1]at h1;rw[l2,List.getElem?_map]at h2;obtain⟨y,hy,e⟩:=aH.mp h2;have hjk:j<kvs.length:=by rw[<-M];exact(aB.mp hy).1
  obtain⟨kv,hkv⟩:∃kv,kvs[j]? = some kv:=⟨kvs[j],by simp[hjk]⟩;have p1:=LB kt hkv hy;have h3:kv.1=l.1.map Sum.inl:=by
   have:=bP (·[j]?) Z;simp only[List.getElem?_map,hkv,h1]at this;exact ae this
  have h4:H y.2.1=some (.tup (kv.1.map kV)):=p1.1 ▸ p1.2.1
  rw[e,h3,RM]at h4;exact h4
 refine SK.Yk (vs:=g.map fun l=>Value.ref l.2) (kz:=g.map fun l=>l.1.sum) nd r1 r2.1 r3 (I.ok.hd hc) hkey (by simp) (by rw[List.length_map,hL];exact h64) ?_ fun h' D tk c out hD k1 hd ko=>?_
 .intro i v k hv hk h tk hx;rw[List.getElem?_map]at hv hk;obtain⟨l,e1,rfl⟩:=aH.mp hv;rw[e1]at hk;cases hk;obtain⟨its,v1,p1,_⟩:=I.tuple (Af.of (K:=X.K) (hin l (aI e1)));refine X9 (A:=X.A.in1.in1) (s:={s with heap:=h,toks:=tk}) (show X.A.in1.in1.handled=none from I.ok.hd hc) v1 ?_;obtain⟨o,e,r⟩:=p1;exact⟨o,hx _ _ e,r⟩
 .obtain⟨pz,w1,w2,w3⟩:=ko;have ez:(g.map fun l=>l.1.sum).zip (g.map fun l=>Value.ref l.2)=g.map fun l=>(l.1.sum,Value.ref l.2):=by
   rw[List.zip_map']
  rw[ez]at w1;obtain⟨L,hp,rfl⟩:=perm_back (fun l:List Int×Addr=>(l.1.sum,Value.ref l.2)) w1 g rfl;rw[List.map_map]at w2
  let H':Hp:=fun y=>if y=D then some (.lst (L.map fun l=>V.ref l.2)) else H y
  have hHD:H' D=some (.lst (L.map fun l=>V.ref l.2)):=if_pos rfl;have hfr:H D=none:=I.Ah.fresh hD;have R:∀y,y≠D->H' y=H y:=fun y hy=>if_neg hy;have up:∀b o,H b=some o->H' b=some o:=fun b o e=>by
   rw[R b fun z=>by rw[z,hfr]at e;cases e];exact e
  have Ah:Cq X.prog X.w H' h':=fun y u e=>by
   by_cases Y:y=D
   .subst Y;rw[hHD]at e;cases e;refine⟨?_,out.toList,c,?_,?_⟩
    .show(L.map _).length<=sizeLine;rw[List.length_map,hp.length_eq,hL];exact hz
    .have e2:out.toList=(L.map (·.2)).map Value.ref:=by rw[w2,List.map_map];rfl
     have e3:(L.map fun l=>V.ref l.2)=(L.map (·.2)).map V.ref:=by rw[List.map_map];rfl
     rw[e2,e3];exact Lm _
    .exact hd
   .have e':H y=some u:=by rw[R y Y]at e;exact e
    exact(I.Ah y u e').Ip (fun b o _ z=>k1 b o z) (fun b z=>up _ _ z) fun b xs z=>up _ _ z
  have I3:Inv X pins σ H' {s with heap:=h',toks:=tk}:=I.many k1 (fun b hb=>R b (aT (aN hb hD))) Ah;refine⟨.ref D,H',I3,rfl,q D H' L up R hfr hHD (by rw[<-l1];exact hp.map _) ?_ fun l hl=>hin l (hp.mem_iff.mp hl)⟩;rw[List.pairwise_map]at w3;exact w3.imp fun h=>by simpa using h
def gJ(g:TE):TE:=fun σ H Q=>g σ H fun x H1=>ZP H1 x Q
theorem YR{X:Cx}{o:Expr}{Y:TE}{p pos kp M:Pos}(hc:X.calm=true)(hg:Gl X "sorted")(hm:X.mg "sorted" = none)(U:Gl X "sum")(R:X.mg "sum" = none)(ho:PE X o Y)
 (Z:backTo pos (starEach [o] X.env)=(false,eval o X.env)::backTo pos (starEach [] X.env):=by rfl)(g:(backTo pos (starEach [o] X.env)).any (·.1)=false:=by rfl) :
  PE X (.Call (.Name "sorted" p) [o] [⟨some "key",.Name "sum" M,kp⟩] pos) (gJ Y):=by
 intro pins s σ H Q I h;refine wpAny_Call_Name_kw (GI I hg hm boot_sorted ?_ (by decide) (by decide));refine callWith_kw ?_ Z g;rw[Z];refine Calls.spliced_cons (A4 (ho pins s σ H _ I h) fun v s1 ⟨x,H1,I1,r1,q1⟩=>?_);exact Calls.spliced_nil (kws_cons (GI I1 U R boot_sum (kws_nil (W3 I1 r1 hc q1)) (by decide) (by decide)))
end L2
namespace Q36
open PySem L2
abbrev Eb:Stmt:=top 8
abbrev Fo:Stmt:=top 9
abbrev Dp:Stmt:=top 10
abbrev II:Stmt:=top 11
abbrev B9:Stmt:=top 12
abbrev Bs:Stmt:=top 13
abbrev JH:Stmt:=top 14
abbrev Gj:Stmt:=top 15
abbrev La:Stmt:=top 17
abbrev LQ:Stmt:=top 18
abbrev JP:Stmt:=top 19
abbrev FT:Stmt:=top 20
abbrev Hv:Stmt:=top 22
abbrev KO:Stmt:=top 23
abbrev JL:Stmt:=top 24
abbrev IH:Stmt:=top 26
abbrev JX:Stmt:=top 27
abbrev FX:Stmt:=top 28
abbrev Gq:Stmt:=top 29
abbrev FG:Stmt:=top 30
abbrev IZ:Stmt:=top 31
abbrev Ep:Stmt:=top 32
abbrev EO:Stmt:=top 33
abbrev Jy:Stmt:=top 35
abbrev FC:Stmt:=top 36
abbrev FV:Stmt:=top 39
abbrev Ew:Stmt:=top 40
abbrev GW:Stmt:=top 41
abbrev Er:Stmt:=top 42
abbrev JF:Stmt:=top 43
abbrev Kl:Stmt:=top 44
abbrev KU:Stmt:=top 47
abbrev FU:Stmt:=top 48
abbrev Ko:Stmt:=top 49
abbrev Ji:Stmt:=top 51
abbrev HI:Stmt:=top 52
abbrev ER:Stmt:=top 53
abbrev EU:Stmt:=top 54
abbrev Jq:Stmt:=top 55
abbrev Mc:Stmt:=top 56
abbrev Io:Stmt:=top 57
abbrev JS:Stmt:=top 58
abbrev Kx:Stmt:=top 59
abbrev Fc:Stmt:=top 61
abbrev HK:Stmt:=top 62
abbrev Hj:Stmt:=top 63
abbrev FZ:Stmt:=top 64
abbrev HJ:Stmt:=top 65
abbrev Jc:Stmt:=top 66
abbrev Ek:Stmt:=top 67
abbrev Jv:Stmt:=top 68
abbrev Hn:Stmt:=top 69
abbrev JO:Stmt:=top 70
abbrev Ic:Stmt:=top 71
abbrev HW:Stmt:=top 72
abbrev Nq:Stmt:=top 73
theorem EZ{n:String}:Qt (.ty n)≠.none:=fun z=>nomatch z
theorem mulC{i j:Int}(h1:-18446744073709551616<j)(g:j<18446744073709551616):OA i j\/L8 i j:=.inl (.inr ⟨h1,g⟩)
theorem mulL{i j:Int}(h1:-18446744073709551616<i)(g:i<18446744073709551616):OA i j\/L8 i j:=.inl (.inl ⟨h1,g⟩)
def My:Sp:=fun vs H Q _=>∃a b,vs=[.int a,.int b]/\Q (.int (FM.gi a b)) H
def M3:Sp:=fun vs H Q _=>∃t b m,vs=[.int t,.int b]/\b≠0/\m<=9000/\b.natAbs<2^m/\∀l H',AG H H'->H' l=some (.tup (Gd (Rat.divInt t b)))->Q (.ref l) H'
section
variable{P:Program}{w:World}{K:PySem.W.Frag}{mg:Str->Option Value}{base:Heap}{f g:Addr}{fd gd:FuncData}
theorem Ks:Ab ["one","other","greater","lesser","rest"] ["one","other"] (AN B9):=⟨rfl,rfl,rfl,by decide +kernel,rfl,by decide +kernel,by decide +kernel⟩
def kY(σ:St):Nat:=match σ[3]? with|some (some (V.int l))=>l.natAbs|_=>0
theorem Kt(F:Fn K mg "greatest_divisor" B9 ["one","other"] f fd)(U:mg "abs" = none):AL P w K mg base AY 1 f fd ["one","other"] My:=by
 have sc:=Ks;refine F.F.ok (k:=0) sc (fun vs H Q E h=>?_) (fun cdv A outer s H vs Q E hr h=>?_)
 .obtain⟨a,b,rfl,_⟩:=h
  rfl
 obtain⟨a,b,rfl,q⟩:=h;refine⟨_,(AD (AU (i:=2) sc.nd rfl (Or.inl rfl) (Ad ND rfl U PyProof.Rows.boot_abs (AA (pv 0) AB)))
 (AD (AU (i:=3) sc.nd rfl (Or.inl rfl) (Ad ND rfl U PyProof.Rows.boot_abs (AA (pv 1) AB)))
 (AD (I0 aP (Aw Fq (pv 3) AE (Ay _))
  (AD (AU (i:=4) sc.nd rfl (Or.inl rfl) (Aa L9 (pv 2) (pv 3)))
  (AD (AU (i:=2) sc.nd rfl (Or.inl rfl) (pv 3))
  (AF (AU (i:=3) sc.nd rfl (Or.inl rfl) (pv 4))))))
 (AF (Ac (pv 2)))))),?_⟩
 refine⟨_,rfl,_,rfl,_,rfl,_,rfl,?_⟩;refine JR (fun σ H'=>∃g l r,σ=[some (.int a),some (.int b),some (.int g),some (.int l),r]/\H=H'/\Int.gcd g l=Int.gcd a b/\0<=g/\0<=l) (fun σ _=>kY σ) ?_ ?_ ?_
 .exact⟨_,_,_,rfl,rfl,FM.Zt a b,FM.abs_nonneg a,FM.abs_nonneg b⟩
 .rintro σ H' ⟨g,l,r,rfl,rfl,M,h0,R⟩;refine⟨_,rfl,rfl,_,rfl,BP (fun c=>?_) (fun c=>?_)⟩
  .have I:l≠0:=fun z=>by subst z;simp at c
   refine⟨_,rfl,_,rfl,_,_,rfl,rfl,I,_,rfl,_,rfl,⟨_,_,_,rfl,rfl,?_,R,FM.fmod_nonneg I R⟩,?_⟩
   .rw[FM.R7];exact M
   .exact FM.Pj g l I
  .have I:l=0:=by simpa using c
   subst I;refine⟨_,rfl,?_⟩;rw[FM.eL M h0];exact q
 .exact fun σ H Q Q' Y ⟨v,e,s,k,Z,q⟩=>⟨v,e,s,k,Z,Y _ _ q⟩
theorem Om:Ab ["top","bottom","shared"] ["top","bottom"] (AN Eb):=⟨rfl,rfl,rfl,by decide +kernel,rfl,by decide +kernel,by decide +kernel⟩
theorem OU(F:Fn K mg "fraction_of" Eb ["top","bottom"] f fd)(Au:Fn K mg "greatest_divisor" B9 ["one","other"] g gd)
 (Bl:AL P w K mg base AY 1 g gd ["one","other"] My):AL P w K mg base AY 2 f fd ["top","bottom"] M3:=by
 have sc:=Om;refine F.F.ok (k:=1) sc (fun vs H Q E h=>?_) (fun cdv A outer s H vs Q E Z h=>?_)
 .obtain⟨t,b,m,rfl,_⟩:=h
  rfl
 obtain⟨t,b,m,rfl,M,hm,Y,q⟩:=h;refine⟨_,(AD (BQ (Aw HG (pv 1) AE (Ay _))
  (AF KH)
  Az)
 (AD (AU (i:=2) sc.nd rfl (Or.inl rfl) (AX Au Bl Z rfl (AA (pv 0) (AA (pv 1) AB))))
 (AD (BQ (Aw L6 (pv 1) AE (Ay _))
  (AF (AU (i:=2) sc.nd rfl (Or.inl rfl) (QT NY (pv 2))))
  Az)
 (AF (Ac (EE (AA (Aa DL (pv 0) (pv 2)) (AA (Aa DL (pv 1) (pv 2)) AB)))))))),?_⟩
 refine⟨_,rfl,rfl,_,rfl,BP (fun c=>absurd c (by simpa using M)) (fun _=>?_)⟩;refine⟨_,rfl,_,rfl,t,b,rfl,?_⟩
 try dsimp only[C0]
 refine Gx (fun I H'=>I=[some (.int t),some (.int b),some (.int (FM.gs t b))]/\H=H') (fun nx hn=>?_) ?_
 .refine⟨_,rfl,_,_,rfl,rfl,_,rfl,BP (fun c=>?_) (fun c=>?_)⟩
  .have R:b<0:=af c;refine⟨_,rfl,_,rfl,hn _ _ ⟨?_,rfl⟩⟩;unfold FM.gs;rw[if_pos R]
   rfl
  .have R:¬b<0:=bG (ag.mpr c);refine hn _ _ ⟨?_,rfl⟩;unfold FM.gs;rw[if_neg R]
   rfl
 .rintro I H' ⟨rfl,rfl⟩;have h0:FM.gs t b≠0:=FM.ZG M;have U:(FM.gs t b).natAbs<2^m:=aL (FM.Y9 M) Y;refine⟨_,rfl,_,rfl,_,_,rfl,rfl,⟨h0,m,hm,U⟩,_,rfl,_,rfl,_,_,rfl,rfl,⟨h0,m,hm,U⟩,Wn,fun p hp=>?_⟩;refine q p _ (AK hp _) ?_;rw[AH];show some (HO.tup [V.int (t.fdiv (FM.gs t b)),V.int (b.fdiv (FM.gs t b))])=_;rw[FM.RQ M,FM.Qo M]
  rfl
end
def RJ:Sp:=fun vs H Q _=>∃(l:Addr) (x n:Int),vs=[.ref l,.int n]/\H l=some (.lst [.int x])/\0<n/\n<2^64/\∀r y:Int,0<=r->r<n->Q (.int r) (upd H l (.lst [.int y]))
def Lx(K:PySem.W.Frag):Sp:=fun vs H Q _=>∃(a:Addr) (ns:List Int) (k:Int),vs=[.ref a,.int k]/\AO K H a (ns.map V.int)/\0<=k/\k<1000/\∀x:Int,Q (.int x) H
def J8:Sp:=fun vs H Q _=>∃(l:Addr) (x:Int),vs=[.ref l]/\H l=some (.lst [.int x])/\∀(p:Addr) (r:Rat) (y:Int) (H':Hp),AG (upd H l (.lst [.int y])) H'->H' p=some (.tup (Gd r))->r.num.natAbs<=6->r.den<=6->Q (.ref p) H'
theorem XX:∀i,i<13->∀j,j<6->(Rat.divInt ((i:Nat)-6:Int) (1+(j:Nat):Int)).num.natAbs<=6/\(Rat.divInt ((i:Nat)-6:Int) (1+(j:Nat):Int)).den<=6:=by decide +kernel
theorem TY{i j:Int}(h1:0<=i)(M:i<13)(g:0<=j)(I:j<6):(Rat.divInt (i-6) (1+j)).num.natAbs<=6/\(Rat.divInt (i-6) (1+j)).den<=6:=by
 have:=XX i.toNat (by lia) j.toNat (by lia)
 rwa [Int.toNat_of_nonneg h1,Int.toNat_of_nonneg g]at this
section
variable{P:Program}{w:World}{K:PySem.W.Frag}{mg:Str->Option Value}{base:Heap}{f g g1 g2:Addr}{fd gd gd1 gd2:FuncData}
theorem RZ:Ab ["_law_pile","_law_size","_law_digit"] ["_law_pile","_law_size"] (AN HK):=⟨rfl,rfl,rfl,by decide +kernel,rfl,by decide +kernel,by decide +kernel⟩
theorem Rf(F:Fn K mg "_law_take" HK ["_law_pile","_law_size"] f fd):AL P w K mg base AY 1 f fd ["_law_pile","_law_size"] RJ:=by
 have sc:=RZ;refine F.F.ok (k:=0) sc (fun vs H Q E h=>?_) (fun cdv A outer s H vs Q E M h=>?_)
 .obtain⟨l,x,n,rfl,_⟩:=h
  rfl
 obtain⟨l,x,n,rfl,I,h0,R,q⟩:=h;refine⟨_,(AD (AU (i:=2) sc.nd rfl (Or.inl rfl) (Aa L9 (Ag F9 (pv 0) AE (fun _ _=>rfl)) (pv 1)))
 (AD (dP (Aa DL (Ag F9 (pv 0) AE (fun _ _=>rfl)) (pv 1)) (ef (pv 0) AE set_list))
 (AF (Ac (pv 2))))),?_⟩
 refine⟨_,rfl,_,_,_,_,rfl,rfl,AO.of I,rfl,_,rfl,_,_,rfl,rfl,(by show n≠0;lia),?_⟩;refine⟨_,rfl,_,_,_,_,rfl,rfl,AO.of I,rfl,_,rfl,_,_,rfl,rfl,⟨by lia,64,by decide,by lia⟩,_,rfl,l,_,_,0,rfl,rfl,I,rfl,_,rfl,?_⟩;exact q _ _ (Int.fmod_nonneg_of_pos x h0) (Int.fmod_lt_of_pos x h0)
theorem Ol:Ab ["_law_one","_law_other"] ["_law_one","_law_other"] (AN Hj):=⟨rfl,rfl,rfl,by decide +kernel,rfl,by decide +kernel,by decide +kernel⟩
def lB(σ:St):Nat:=match σ[1]? with|some (some (V.int l))=>l.natAbs|_=>0
theorem OZ(F:Fn K mg "_law_shared" Hj ["_law_one","_law_other"] f fd)(Y:mg "abs" = none):AL P w K mg base AY 1 f fd ["_law_one","_law_other"] My:=by
 have sc:=Ol;refine F.F.ok (k:=0) sc (fun vs H Q E h=>?_) (fun cdv A outer s H vs Q E Z h=>?_)
 .obtain⟨a,b,rfl,_⟩:=h
  rfl
 obtain⟨a,b,rfl,q⟩:=h;refine⟨_,(AD (I0 aP (Aw Fq (pv 1) AE (Ay _))
  (AF (eW (i:=0) (j:=1) rfl sc.nd rfl rfl (by decide) rfl rfl (AA (pv 1) (AA (Aa L9 (pv 0) (pv 1)) AB)) rfl)))
 (AF (Ac (Ad ND rfl Y PyProof.Rows.boot_abs (AA (pv 0) AB))))),?_⟩
 refine JR (fun σ H'=>∃g l,σ=[some (.int g),some (.int l)]/\H=H'/\Int.gcd g l=Int.gcd a b) (fun σ _=>lB σ) ⟨_,_,rfl,rfl,rfl⟩ ?_ ?_
 .rintro σ H' ⟨g,l,rfl,rfl,M⟩;refine⟨_,rfl,rfl,_,rfl,BP (fun c=>?_) (fun c=>?_)⟩
  .have I:l≠0:=fun z=>by subst z;simp at c
   refine⟨_,rfl,_,rfl,_,rfl,_,_,rfl,rfl,I,_,_,rfl,⟨_,_,rfl,rfl,?_⟩,?_⟩
   .rw[FM.R7];exact M
   .exact FM.Pj g l I
  .have I:l=0:=by simpa using c
   subst I;refine⟨_,rfl,_,rfl,?_⟩;rw[FM.Zu M];exact q
 .exact fun σ H Q Q' R ⟨v,e,s,k,U,q⟩=>⟨v,e,s,k,U,R _ _ q⟩
theorem RI:Ab ["_law_top","_law_bottom","_law_by_here"] ["_law_top","_law_bottom"] (AN FZ):=⟨rfl,rfl,rfl,by decide +kernel,rfl,by decide +kernel,by decide +kernel⟩
theorem SV(F:Fn K mg "_law_frac" FZ ["_law_top","_law_bottom"] f fd)(Fl:Fn K mg "_law_shared" Hj ["_law_one","_law_other"] g gd)
 (QP:AL P w K mg base AY 1 g gd ["_law_one","_law_other"] My):AL P w K mg base AY 2 f fd ["_law_top","_law_bottom"] M3:=by
 have sc:=RI;refine F.F.ok (k:=1) sc (fun vs H Q E h=>?_) (fun cdv A outer s H vs Q E Z h=>?_)
 .obtain⟨t,b,m,rfl,_⟩:=h
  rfl
 obtain⟨t,b,m,rfl,M,hm,Y,q⟩:=h;refine⟨_,(AD (AU (i:=2) sc.nd rfl (Or.inl rfl) (AX Fl QP Z rfl (AA (pv 0) (AA (pv 1) AB))))
 (AD (BQ (Aw L6 (pv 1) AE (Ay _))
  (AF (AU (i:=2) sc.nd rfl (Or.inl rfl) (Aa FW AE (pv 2))))
  Az)
 (AF (Ac (EE (AA (Aa DL (pv 0) (pv 2)) (AA (Aa DL (pv 1) (pv 2)) AB))))))),?_⟩
 refine⟨_,rfl,_,rfl,t,b,rfl,?_⟩
 try dsimp only[C0]
 refine Gx (fun I H'=>I=[some (.int t),some (.int b),some (.int (FM.gs t b))]/\H=H') (fun nx hn=>?_) ?_
 .refine⟨_,rfl,_,_,rfl,rfl,_,rfl,BP (fun c=>?_) (fun c=>?_)⟩
  .have R:b<0:=af c;refine⟨_,rfl,_,_,rfl,rfl,hn _ _ ⟨?_,rfl⟩⟩;show [some (V.int t),some (V.int b),some (V.int (0-FM.gi t b))]=_;unfold FM.gs;rw[if_pos R,Int.zero_sub]
  .have R:¬b<0:=bG (ag.mpr c);refine hn _ _ ⟨?_,rfl⟩;unfold FM.gs;rw[if_neg R]
   rfl
 .rintro I H' ⟨rfl,rfl⟩;have h0:FM.gs t b≠0:=FM.ZG M;have U:(FM.gs t b).natAbs<2^m:=aL (FM.Y9 M) Y;refine⟨_,rfl,_,rfl,_,_,rfl,rfl,⟨h0,m,hm,U⟩,_,rfl,_,rfl,_,_,rfl,rfl,⟨h0,m,hm,U⟩,Wn,fun p hp=>?_⟩;refine q p _ (AK hp _) ?_;rw[AH];show some (HO.tup [V.int (t.fdiv (FM.gs t b)),V.int (b.fdiv (FM.gs t b))])=_;rw[FM.RQ M,FM.Qo M]
  rfl
theorem Ru:Ab ["_law_script","_law_k","_law_cell_here","_law_number","_law_found","_law_turn"] ["_law_script","_law_k"] (AN Fc):=⟨rfl,rfl,rfl,by decide +kernel,rfl,by decide +kernel,by decide +kernel⟩
theorem SS(F:Fn K mg "_law_cell" Fc ["_law_script","_law_k"] f fd)(BG:mg "len" = none)(BL:mg "range" = none):AL P w K mg base AY 1 f fd ["_law_script","_law_k"] (Lx K):=by
 have sc:=Ru;refine F.F.ok (k:=0) sc (fun vs H Q E h=>?_) (fun cdv A outer s H vs Q E hr h=>?_)
 .obtain⟨a,ns,k,rfl,_⟩:=h
  rfl
 obtain⟨a,ns,k,rfl,Z,h0,Y,q⟩:=h;refine⟨_,(AD (AU (i:=2) sc.nd rfl (Or.inl rfl) AE)
 (AD (BQ (Aw L6 (pv 1) (Ad BB rfl BG av (AA (pv 0) AB)) (Ay _))
  (AF (AU (i:=2) sc.nd rfl (Or.inl rfl) (Ag F9 (pv 0) (pv 1) (fun _ _=>rfl))))
  Az)
 (AD (BQ (Aw ZO (pv 2) (Aa SF AE AE) (Ay _))
  (AF (Ac (Aa JQ (Aa FW (pv 2) (Aa SF AE AE)) (Aa SF AE AE))))
  Az)
 (AD (AU (i:=3) sc.nd rfl (Or.inl rfl) (Aa JQ (Aa B2 (Aa B2 (Aa A9 (pv 2) AE) (Aa A9 (pv 1) AE)) AE) AE))
 (AD (AU (i:=4) sc.nd rfl (Or.inl rfl) AE)
 (AD (BU aP rfl (Cp rfl BL (AA AE AB)) (An (i:=5) sc.nd rfl (Or.inl rfl))
  (AD (AU (i:=3) sc.nd rfl (Or.inl rfl) (Aa JQ (Aa B2 (Aa B2 (Aa A9 (pv 3) (pv 3)) (Aa A9 AE (pv 5))) AE) AE))
  (AF (AU (i:=4) sc.nd rfl (Or.inl rfl) (Aa B2 (Aa A9 (pv 4) AE) (Aa JQ (Aa A9 (pv 3) (pv 3)) AE))))))
 (AF (Ac (pv 4))))))))),?_⟩
 try dsimp only[C0]
 refine Gx (fun I H'=>∃c:Int,I=[some (.ref a),some (.int k),some (.int c),none,none,none]/\H=H') (fun nx hn=>?_) ?_
 .exact hn _ _ ⟨0,rfl,rfl⟩
 rintro _ _ ⟨_,rfl,rfl⟩
 try dsimp only[C0]
 refine Gx (fun I H'=>∃c:Int,I=[some (.ref a),some (.int k),some (.int c),none,none,none]/\H=H') (fun nx hn=>?_) ?_
 .refine⟨_,rfl,_,rfl,a,_,rfl,.inl Z,_,_,rfl,rfl,_,rfl,BP (fun c=>?_) (fun c=>?_)⟩
  .have c':k<(((ns.map V.int).length:Nat):Int):=af c;rw[List.length_map]at c';have Y:k.toNat<ns.length:=by lia
   have R:EI (ns.map V.int) k=some (.int ns[k.toNat]):=by
    have z:=IV (xs:=ns.map V.int) (j:=k.toNat) (v:=.int ns[k.toNat]) (by rw[List.getElem?_map,List.getElem?_eq_getElem Y];rfl)
    rwa [show((k.toNat:Nat):Int)=k by lia]at z
   exact⟨_,rfl,_,rfl,a,_,_,_,rfl,rfl,Z,R,hn _ _ ⟨_,rfl,rfl⟩⟩
  .exact hn _ _ ⟨_,rfl,rfl⟩
 rintro _ _ ⟨c,rfl,rfl⟩;refine⟨_,rfl,_,_,rfl,rfl,⟨by decide,by decide,by decide⟩,_,_,rfl,rfl,_,rfl,BP (fun _=>?_) (fun _=>?_)⟩
 .exact⟨_,rfl,_,_,rfl,rfl,⟨by decide,by decide,by decide⟩,_,_,rfl,rfl,_,_,rfl,rfl,⟨by decide,by decide,by decide⟩,_,_,rfl,rfl,(by show(0:Int)<10^60;decide),q _⟩
 .refine⟨_,rfl,_,_,rfl,rfl,mulC (by decide) (by decide),_,rfl,_,_,rfl,rfl,mulC (by decide) (by decide),_,_,rfl,rfl,_,_,rfl,rfl,_,_,rfl,rfl,(by show(0:Int)<2147483629;decide),?_⟩;have z0:0<=(c*48271+k*69621+11) % 2147483629:=Int.emod_nonneg _ (by decide);have z1:(c*48271+k*69621+11) % 2147483629<2147483629:=Int.emod_lt_of_pos _ (by decide);refine⟨8,rfl,by decide,by decide,Hh (n:=8) (fun _ σ H'=>∃(m U:Int) (M:Option V),σ=[some (.ref a),some (.int k),some (.int c),some (.int m),some (.int U),M]/\0<=m/\m<2147483629/\H=H') ⟨(c*48271+k*69621+11) % 2147483629,0,none,rfl,z0,z1,rfl⟩ ?_ ?_⟩
  .rintro i σ H' hi ⟨m,U,M,rfl,m0,m1,rfl⟩;refine⟨_,rfl,_,rfl,_,_,rfl,rfl,mulC (by lia) (by lia),_,rfl,_,_,rfl,rfl,mulL (by decide) (by decide),_,_,rfl,rfl,_,_,rfl,rfl,_,_,rfl,rfl,(by show(0:Int)<2147483587;decide),?_⟩;have y0:0<=(m*m+69621*(0+(i:Nat))+7) % 2147483587:=Int.emod_nonneg _ (by decide);have y1:(m*m+69621*(0+(i:Nat))+7) % 2147483587<2147483587:=Int.emod_lt_of_pos _ (by decide);exact⟨_,rfl,_,_,rfl,rfl,mulC (by decide) (by decide),_,rfl,_,rfl,((m*m+69621*(0+(i:Nat))+7) % 2147483587:Int),((m*m+69621*(0+(i:Nat))+7) % 2147483587:Int),rfl,rfl,mulC (by lia) (by lia),_,_,rfl,rfl,(by show(0:Int)<2147483563;decide),_,_,rfl,rfl,_,_,_,rfl,y0,by lia,rfl⟩
  .rintro σ H' ⟨m,U,M,rfl,m0,m1,rfl⟩;exact⟨_,rfl,q _⟩
theorem Ql:Ab ["_law_pile","_law_top"] ["_law_pile"] (AN Ek):=⟨rfl,rfl,rfl,by decide +kernel,rfl,by decide +kernel,by decide +kernel⟩
theorem Q9(F:Fn K mg "_law_part" Ek ["_law_pile"] f fd)(Y:Fn K mg "_law_take" HK ["_law_pile","_law_size"] g1 gd1)(CF:Fn K mg "_law_frac" FZ ["_law_top","_law_bottom"] g2 gd2)
 (U:AL P w K mg base AY 2 g1 gd1 ["_law_pile","_law_size"] RJ)(C8:AL P w K mg base AY 2 g2 gd2 ["_law_top","_law_bottom"] M3):AL P w K mg base AY 3 f fd ["_law_pile"] J8:=by
 have sc:=Ql;refine F.F.ok (k:=2) sc (fun vs H Q E h=>?_) (fun cdv A outer s H vs Q E R h=>?_)
 .obtain⟨l,x,rfl,_⟩:=h
  rfl
 obtain⟨l,x,rfl,hl,q⟩:=h;refine⟨_,(AD (AU (i:=1) sc.nd rfl (Or.inl rfl) (Aa FW (AX Y U R rfl (AA (pv 0) (AA AE AB))) AE))
 (AF (Ac (AX CF C8 R rfl (AA (pv 1) (AA (Aa B2 AE (AX Y U R rfl (AA (pv 0) (AA AE AB)))) AB)))))),?_⟩
 refine⟨_,rfl,l,x,13,rfl,hl,by decide,by decide,fun i y i0 i1=>⟨_,_,rfl,rfl,?_⟩⟩;refine⟨_,rfl,_,rfl,l,y,6,rfl,AH,by decide,by decide,fun j z j0 Z=>⟨_,_,rfl,rfl,?_⟩⟩;have hd:=TY i0 i1 j0 Z;refine⟨i-6,1+j,8,rfl,by lia,by decide,by lia,fun p H' e hp=>?_⟩;refine q p _ z H' (fun b o M=>e _ _ ?_) hp hd.1 hd.2;by_cases I:b=l
 .subst I;rw[AH]at M ⊢;exact M
 .rw[AI I]at M;rw[AI I,AI I];exact M
end
def Y8:Sp:=fun vs H Q _=>∃(a:Addr) (bs:List Int) (k:Nat),vs=[.ref a]/\H a=some (.lst (bs.map V.int))/\(∀b∈bs,1<=b/\b.natAbs<2^k)/\k*bs.length<=4000 /\
 ∀c:Int,1<=c->c.natAbs<2^(k*bs.length+1)->(∀b∈bs,b ∣ c)->Q (.int c) H
theorem Ke{c b:Int}(U:1<=c)(Y:1<=b):1<=c.fdiv (FM.gi c b)*b/\c ∣ c.fdiv (FM.gi c b)*b/\b ∣ c.fdiv (FM.gi c b)*b/\(c.fdiv (FM.gi c b)).natAbs<=c.natAbs:=by
 have R:0<FM.gi c b:=FM.JJ (by lia);obtain⟨q,M⟩:=FM.Jt c b;obtain⟨r,g⟩:=FM.LK c b;have e:=FM.C5 (Int.ne_of_gt R) M;refine⟨?_,?_,Int.dvd_mul_left _ _,FM.A3 _ _⟩
 .rw[e];have I:0<q:=by
   rcases Int.lt_or_le 0 q with h|h
   .exact h
   .have:=Int.mul_nonpos_of_nonneg_of_nonpos (Int.le_of_lt R) h
    lia
  exact bw I (by lia)
 .rw[e];refine⟨r,?_⟩;rw[g]
  conv=>rhs;rw[M]
  rw[<-g,Int.mul_comm (FM.gi c b) q,Int.mul_assoc,Int.mul_comm (FM.gi c b) r]
  conv=>lhs;rw[g]
  rw[Int.mul_comm (FM.gi c b) r]
theorem div_add(x y:Int){c:Int}(g:c≠0):Rat.divInt (x+y) c=Rat.divInt x c+Rat.divInt y c:=by
 rw[Rat.divInt_add_divInt _ _ g g,<-Int.add_mul,Rat.divInt_mul_right g]
theorem div_one{t b c:Int}(I:b≠0)(g:c≠0)(h:b ∣ c):Rat.divInt (t*c.fdiv b) c=Rat.divInt t b:=by
 obtain⟨q,rfl⟩:=h;rw[FM.C5 I rfl,Rat.divInt_mul_right (fun z=>g (by rw[z,Int.mul_zero]))]
theorem UJ{c:Int}(g:c≠0):∀ {ps:List (Int×Int)},(∀p∈ps,p.2≠0/\p.2 ∣ c)->Rat.divInt (ps.map fun p=>p.1*c.fdiv p.2).sum c=(ps.map fun p=>Rat.divInt p.1 p.2).sum
 |[],_=>by simp
 |p::ps,h=>by
  obtain⟨R,M⟩:=h p aR;rw[List.map_cons,List.sum_cons,List.map_cons,List.sum_cons,div_add _ _ g,div_one R g M,UJ g fun q I=>h q (aM _ I)]
def QX:Sp:=fun vs H Q _=>∃(b:Int) (p k:Nat),vs=[.int b,.int p]/\b.natAbs<2^k/\k*p<=4000/\Q (.int (b^p)) H
theorem CG{b:Int}{k e p:Nat}(M:b.natAbs<2^k)(I:e<=p):(b^e).natAbs<2^(k*p+1):=by
 rw[Int.natAbs_pow];have g:b.natAbs^e<=(2^k)^e:=Nat.pow_le_pow_left (bZ M) e;rw[<-Nat.pow_mul]at g;exact aL g (Nat.pow_lt_pow_right (by decide) (Nat.lt_succ_of_le (aV k I)))
def kh(σ:St):Nat:=match σ[4]? with|some (some (V.int l))=>l.natAbs|_=>0
section
variable{P:Program}{w:World}{K:PySem.W.Frag}{mg:Str->Option Value}{base:Heap}{f g:Addr}{fd gd:FuncData}
theorem JN:Ab ["bottoms","common","bottom"] ["bottoms"] (AN Bs):=⟨rfl,rfl,rfl,by decide +kernel,rfl,by decide +kernel,by decide +kernel⟩
theorem M8(F:Fn K mg "common_bottom" Bs ["bottoms"] f fd)(Au:Fn K mg "greatest_divisor" B9 ["one","other"] g gd)
 (Bl:AL P w K mg base AY 1 g gd ["one","other"] My):AL P w K mg base AY 2 f fd ["bottoms"] Y8:=by
 have sc:=JN;refine F.F.ok (k:=1) sc (fun vs H Q E h=>?_) (fun cdv A outer s H vs Q E hr h=>?_)
 .obtain⟨a,bs,k,rfl,_⟩:=h
  rfl
 obtain⟨a,bs,k,rfl,ha,Z,hk,q⟩:=h;refine⟨_,(AD (AU (i:=1) sc.nd rfl (Or.inl rfl) AE)
 (AD (BU aP rfl (Av (pv 0)) (An (i:=2) sc.nd rfl (Or.inl rfl))
  (AF (AU (i:=1) sc.nd rfl (Or.inl rfl) (Aa A9 (Aa DL (pv 1) (AX Au Bl hr rfl (AA (pv 1) (AA (pv 2) AB)))) (pv 2)))))
 (AF (Ac (pv 1))))),?_⟩
 refine⟨_,rfl,a,rfl,⟨_,AO.of ha⟩,Bp (xs:=bs.map V.int) (fun i σ H'=>∃(c:Int) (r:Option V),σ=[some (.ref a),some (.int c),r]/\H=H'/\1<=c/\c.natAbs<2^(k*i+1)/\∀j b,j<i->bs[j]? = some b->b ∣ c) ?_ ?_ ?_ ?_⟩
 .exact⟨1,_,rfl,rfl,by decide,by simp,fun j b h=>absurd h (bz _)⟩
 .rintro i σ H' _ ⟨c,r,rfl,rfl,_⟩;exact AO.of ha
 .rintro i x σ H' U ⟨c,r,rfl,rfl,c1,R,M⟩;have hi:i<bs.length:=by have:=(aB.mp U).1;simpa using this
  rw[List.getElem?_map,List.getElem?_eq_getElem hi]at U;cases U;obtain⟨b1,b2⟩:=Z _ (au hi);obtain⟨s1,s2,s3,s4⟩:=Ke c1 b1;have hg:FM.gi c bs[i]≠0:=Int.ne_of_gt (FM.JJ (by lia));have hki:k*i+k<=4000:=by
   have:k*(i+1)<=k*bs.length:=aV k hi;rw[Nat.mul_succ]at this
   lia
  have n1:(c.fdiv (FM.gi c bs[i])).natAbs<2^(k*i+1):=aL s4 R;refine⟨_,rfl,_,rfl,_,rfl,c,bs[i],rfl,_,_,rfl,rfl,⟨hg,k,by have:k*1<=k*bs.length:=aV k (by lia);lia,Nat.lt_of_le_of_lt (FM.Vl (by lia)) b2⟩,_,rfl,_,_,rfl,rfl,DP n1 b2 (by lia),_,_,rfl,rfl,s1,?_,fun j b Y I=>?_⟩
  .have:=FM.Ax n1 b2;rw[Nat.mul_succ,show k*i+k+1=k*i+1+k by lia];exact this
  .by_cases z:j=i
   .subst z;rw[List.getElem?_eq_getElem hi]at I;cases I;exact s3
   .exact Int.dvd_trans (M j b (by lia) I) s2
 .rintro σ H' ⟨c,r,rfl,rfl,c1,R,M⟩;rw[List.length_map]at R M;refine⟨_,rfl,q c c1 R fun b Z=>?_⟩;obtain⟨j,Y⟩:=aa Z;exact M j b (aB.mp Y).1 Y
theorem QR:Ab ["some","bottom"] ["some"] (AN JH):=⟨rfl,rfl,rfl,by decide +kernel,rfl,by decide +kernel,by decide +kernel⟩
theorem TM:Ab ["base","power","product","square","left"] ["base","power"] (AN Gj):=⟨rfl,rfl,rfl,by decide +kernel,rfl,by decide +kernel,by decide +kernel⟩
theorem TQ(F:Fn K mg "power_of" Gj ["base","power"] f fd):AL P w K mg base AY 1 f fd ["base","power"] QX:=by
 have sc:=TM;refine F.F.ok (k:=0) sc (fun vs H Q E h=>?_) (fun cdv A outer s H vs Q E hr h=>?_)
 .obtain⟨b,p,k,rfl,_⟩:=h
  rfl
 obtain⟨b,p,k,rfl,hb,hk,q⟩:=h;refine⟨_,(AD (AU (i:=2) sc.nd rfl (Or.inl rfl) AE)
 (AD (AU (i:=3) sc.nd rfl (Or.inl rfl) (pv 0))
 (AD (AU (i:=4) sc.nd rfl (Or.inl rfl) (pv 1))
 (AD (I0 aP (Aw L3 (pv 4) AE (Ay _))
  (AD (BQ (Aw HG (Aa JQ (pv 4) AE) AE (Ay _))
   (AF (AU (i:=2) sc.nd rfl (Or.inl rfl) (Aa A9 (pv 2) (pv 3))))
   Az)
  (AD (AU (i:=4) sc.nd rfl (Or.inl rfl) (Aa Ti (pv 4) AE))
  (AF (BQ (Aw L3 (pv 4) AE (Ay _))
   (AF (AU (i:=3) sc.nd rfl (Or.inl rfl) (Aa A9 (pv 3) (pv 3))))
   Az)))))
 (AF (Ac (pv 2))))))),?_⟩
 refine⟨_,rfl,_,rfl,?_⟩;refine JR (fun σ H'=>∃e f l:Nat,σ=[some (.int b),some (.int p),some (.int (b^e)),some (.int (b^f)),some (.int l)]/\H=H'/\e+f*l=p) (fun σ _=>kh σ) ?_ ?_ ?_
 .refine⟨0,1,p,?_,rfl,by lia⟩;rw[Int.pow_zero,Int.pow_succ,Int.pow_zero,Int.one_mul]
  rfl
 .rintro σ H' ⟨e,f,l,rfl,rfl,Z⟩;refine⟨_,rfl,_,_,rfl,rfl,_,rfl,BP (fun c=>?_) (fun c=>?_)⟩
  .have hl:0<l:=by have:=af c;lia
   have I:f<=p:=by
    have:f*1<=f*l:=aV f hl
    lia
   try dsimp only[C0]
   refine Gx (fun U H'=>∃R:Nat,U=[some (.int b),some (.int p),some (.int (b^R)),some (.int (b^f)),some (.int l)]/\H=H'/\R+f*(2*(l / 2))=p) (fun nx Y=>?_) ?_
   .refine⟨_,rfl,_,_,rfl,rfl,(by show(0:Int)<2;decide),rfl,_,rfl,BP (fun c=>?_) (fun c=>?_)⟩
    .have hodd:l % 2=1:=by
      have:((l:Int) % 2)=1:=by simpa using c
      lia
     refine⟨_,rfl,_,rfl,_,_,rfl,rfl,DP (CG hb (show e<=p by lia)) (CG hb I) (by lia),Y _ _ ⟨e+f,?_,rfl,?_⟩⟩
     .show [some (V.int b),some (V.int p),some (V.int (b^e*b^f)),some (V.int (b^f)),some (V.int l)]=_;rw[<-Int.pow_add]
     .have:l=2*(l / 2)+1:=by lia
      rw[<-Z]
      conv=>rhs;rw[this,Nat.mul_add,Nat.mul_one]
      lia
    .have hev:l % 2=0:=by
      have:¬((l:Int) % 2)=1:=by simpa using c
      lia
     refine Y _ _ ⟨e,rfl,rfl,?_⟩;rw[show 2*(l / 2)=l by lia];exact Z
   .rintro U _ ⟨R,rfl,rfl,M⟩;refine⟨_,rfl,_,_,rfl,rfl,⟨by decide,by decide⟩,?_⟩;have el:((l:Int) / 2)=((l / 2:Nat):Int):=by lia
    refine⟨_,rfl,_,_,rfl,rfl,_,rfl,BP (fun c=>?_) (fun c=>?_)⟩
    .refine⟨_,rfl,_,rfl,_,_,rfl,rfl,DP (CG hb I) (CG hb I) (by lia),⟨R,f+f,l / 2,?_,rfl,?_⟩,?_⟩
     .show [some (V.int b),some (V.int p),some (V.int (b^R)),some (V.int (b^f*b^f)),some (V.int ((l:Int) / 2))]=_;rw[el,<-Int.pow_add]
     .rw[<-M,<-Nat.two_mul,Nat.mul_assoc,Nat.mul_left_comm]
     .show((l:Int) / 2).natAbs<((l:Nat):Int).natAbs
      lia
    .refine⟨⟨R,f,l / 2,?_,rfl,?_⟩,?_⟩
     .show [some (V.int b),some (V.int p),some (V.int (b^R)),some (V.int (b^f)),some (V.int ((l:Int) / 2))]=_;rw[el]
     .have:l / 2=0:=by have:=bG (ag.mpr c);lia
      rw[this]at M ⊢
      simpa using M
     .show((l:Int) / 2).natAbs<((l:Nat):Int).natAbs
      lia
  .have hl:l=0:=by have:=bG (ag.mpr c);lia
   subst hl;rw[Nat.mul_zero,Nat.add_zero]at Z;subst Z;exact⟨_,rfl,q⟩
 .exact fun σ H Q Q' hq ⟨v,e,s,k,e2,e3,e4,q1,q2⟩=>⟨v,e,s,k,e2,e3,e4,q1,hq _ _ q2⟩
end
theorem Tw{l:Addr}{H:Hp}:∀ {ds:List PyData} {xs:List V} (i:Nat),AQ l H ds xs->AQ l H (ds.drop i) (xs.drop i)
 |ds,xs,0,h=>h
 |[],xs,i+1,h=>by rw[AQ]at h;subst h;exact .nil
 |d::ds,xs,i+1,h=>by
  rw[AQ]at h;obtain⟨x,r,rfl,_,g⟩:=h;exact Tw i g
mutual
theorem Yw{l p:Addr}{H:Hp}(I:H p=none):∀ {d:PyData} {v:V},Dt l H d v->Dt p H d v
 |.none,_,h=>by rw[Dt]at h ⊢;exact h
 |.bool _,_,h=>by rw[Dt]at h ⊢;exact h
 |.int _,_,h=>by rw[Dt]at h ⊢;exact h
 |.str _,_,h=>by rw[Dt]at h ⊢;exact h
 |.tuple _,_,h=>by
  rw[Dt]at h ⊢;obtain⟨a,xs,R,n,g,M⟩:=h;exact⟨a,xs,R,AM g I,g,FY I M⟩
 |.list _,_,h=>by
  rw[Dt]at h ⊢;obtain⟨a,xs,R,n,g,M⟩:=h;exact⟨a,xs,R,AM g I,g,FY I M⟩
 |.dict _,_,h=>by rw[Dt]at h;exact h.elim
theorem FY{l p:Addr}{H:Hp}(g:H p=none):∀ {ds:List PyData} {xs:List V},AQ l H ds xs->AQ p H ds xs
 |[],_,h=>by rw[AQ]at h ⊢;exact h
 |_::_,_,h=>by
  rw[AQ]at h ⊢;obtain⟨x,r,R,M,I⟩:=h;exact⟨x,r,R,Yw g M,FY g I⟩
end
def DU(H:Hp)(d:PyData)(v:V):Prop:=∃N:Nat,∀l,N<=l->Dt l H d v
def Am(H:Hp)(ds:List PyData)(xs:List V):Prop:=∃N:Nat,∀l,N<=l->AQ l H ds xs
theorem DU.same{H H':Hp}{d:PyData}{v:V}(h:DU H d v)(e:AG H H'):DU H' d v:=let⟨N,k⟩:=h;⟨N,fun l g=>(k l g).same e⟩
theorem Am.same{H H':Hp}{d:List PyData}{v:List V}(h:Am H d v)(e:AG H H'):Am H' d v:=let⟨N,k⟩:=h;⟨N,fun l g=>(k l g).same e⟩
theorem DU.int{H:Hp}{i:Int}:DU H (.int i) (.int i):=⟨0,fun _ _=>.int⟩
theorem DU.bool{H:Hp}{i:Bool}:DU H (.bool i) (.bl i):=⟨0,fun _ _=>.bool⟩
theorem DU.BM{H:Hp}:DU H .none .BM:=⟨0,fun _ _=>.BM⟩
theorem DU.str{H:Hp}{x:Str}:DU H (.str x) (.str x):=⟨0,fun _ _=>.str⟩
theorem Am.nil{H:Hp}:Am H [] []:=⟨0,fun _ _=>.nil⟩
theorem Am.cons{H:Hp}{d:PyData}{ds:List PyData}{x:V}{xs:List V}(h:DU H d x)(k:Am H ds xs):Am H (d::ds) (x::xs) :=
 let⟨N,a⟩:=h;let⟨M,b⟩:=k;⟨max N M,fun l g=>.cons (a l (by lia)) (b l (by lia))⟩
theorem Am.app{H:Hp}{ds es:List PyData}{xs ys:List V}(h:Am H ds xs)(k:Am H es ys):Am H (ds++es) (xs++ys) :=
 let⟨N,a⟩:=h;let⟨M,b⟩:=k;⟨max N M,fun l g=>(a l (by lia)).app (b l (by lia))⟩
theorem Am.drop{H:Hp}{ds:List PyData}{xs:List V}(i:Nat)(h:Am H ds xs):Am H (ds.drop i) (xs.drop i):=let⟨N,a⟩:=h;⟨N,fun l g=>Tw i (a l g)⟩
theorem Am.len{H:Hp}{ds:List PyData}{xs:List V}(h:Am H ds xs):xs.length=ds.length:=let⟨N,a⟩:=h;(a N (aD _)).len
theorem Am.get{H:Hp}{ds:List PyData}{xs:List V}{i:Nat}{d:PyData}(h:Am H ds xs)(e:ds[i]? = some d):∃v,xs[i]? = some v/\DU H d v:=by
 have g:=h.len;have hi:i<xs.length:=by rw[g];exact(aB.mp e).1
 have I:xs[i]? = some xs[i]:=by simp[hi]
 obtain⟨N,a⟩:=h;refine⟨xs[i],I,N,fun l g=>?_⟩;obtain⟨U,M,R⟩:=(a l g).get I;rw[e]at M;cases M;exact R
theorem DU.lst{H:Hp}{a:Addr}{ds:List PyData}{xs:List V}(h:H a=some (.lst xs))(k:Am H ds xs):DU H (.list ds) (.ref a) :=
 let⟨N,b⟩:=k;⟨max N (a+1),fun l g=>.lst (aT (show a<l from aN (Nat.lt_succ_self a) (aU (Nat.le_max_right _ _) g))) h (b l (by lia))⟩
theorem DU.tup{H:Hp}{a:Addr}{ds:List PyData}{xs:List V}(h:H a=some (.tup xs))(k:Am H ds xs):DU H (.tuple ds) (.ref a) :=
 let⟨N,b⟩:=k;⟨max N (a+1),fun l g=>.tup (aT (show a<l from aN (Nat.lt_succ_self a) (aU (Nat.le_max_right _ _) g))) h (b l (by lia))⟩
theorem DU.Jm{H:Hp}{ds:List PyData}{v:V}(h:DU H (.list ds) v):∃a xs,v=.ref a/\H a=some (.lst xs)/\Am H ds xs:=by
 obtain⟨N,b⟩:=h;have h0:=b N (aD _);rw[Dt]at h0;obtain⟨a,xs,rfl,_,ha,_⟩:=h0;refine⟨a,xs,rfl,ha,N,fun l U=>?_⟩;have M:=b l U;rw[Dt]at M;obtain⟨Y,R,e,_,g,I⟩:=M;cases e;rw[ha]at g;cases g;exact I
theorem DU.UK{H:Hp}{ds:List PyData}{v:V}(h:DU H (.tuple ds) v):∃a xs,v=.ref a/\H a=some (.tup xs)/\Am H ds xs:=by
 obtain⟨N,b⟩:=h;have h0:=b N (aD _);rw[Dt]at h0;obtain⟨a,xs,rfl,_,ha,_⟩:=h0;refine⟨a,xs,rfl,ha,N,fun l U=>?_⟩;have M:=b l U;rw[Dt]at M;obtain⟨Y,R,e,_,g,I⟩:=M;cases e;rw[ha]at g;cases g;exact I
theorem Am.LU{H:Hp}{d e:PyData}{xs:List V}(h:Am H [d,e] xs):∃x y,xs=[x,y]/\DU H d x/\DU H e y:=by
 obtain⟨x,I,R⟩:=h.get (i:=0) rfl;obtain⟨y,g,M⟩:=h.get (i:=1) rfl;have:=h.len
 match xs,this with
 |[a,b],_=>
  simp at I g;subst I g;exact⟨a,b,rfl,R,M⟩
mutual
theorem iW{c:Addr}{H:Hp}:∀ {d:PyData} {v:V},Dt c H d v->DU H d v
 |.none,_,h=>by rw[Dt]at h;subst h;exact .BM
 |.bool _,_,h=>by rw[Dt]at h;subst h;exact .bool
 |.int _,_,h=>by rw[Dt]at h;subst h;exact .int
 |.str _,_,h=>by rw[Dt]at h;subst h;exact .str
 |.tuple _,_,h=>by
  rw[Dt]at h;obtain⟨a,xs,rfl,n,I,g⟩:=h;exact .tup I (B6 g)
 |.list _,_,h=>by
  rw[Dt]at h;obtain⟨a,xs,rfl,n,I,g⟩:=h;exact .lst I (B6 g)
 |.dict _,_,h=>by rw[Dt]at h;exact h.elim
theorem B6{c:Addr}{H:Hp}:∀ {ds:List PyData} {xs:List V},AQ c H ds xs->Am H ds xs
 |[],_,h=>by rw[AQ]at h;subst h;exact .nil
 |_::_,_,h=>by
  rw[AQ]at h;obtain⟨x,r,rfl,I,g⟩:=h;exact .cons (iW I) (B6 g)
end
theorem DU.ints{H:Hp}{ps:List Int}{v:V}(h:DU H (.tuple (ps.map .int)) v):∃a,v=.ref a/\H a=some (.tup (ps.map V.int)):=by
 obtain⟨a,xs,rfl,ha,M⟩:=h.UK;refine⟨a,rfl,?_⟩;rw[ha]
 congr 2
 obtain⟨N,b⟩:=M;have:=b N (aD _);clear b ha h
 induction ps generalizing xs with
 |nil=>rw[List.map_nil,AQ]at this;exact this
 |cons p ps I=>
  rw[List.map_cons,AQ]at this;obtain⟨x,r,rfl,g,R⟩:=this;rw[Dt]at g;subst g;rw[List.map_cons,I r R]
def De:PyData->Bool
 |.tuple [.int a,.int b]=>decide (1<=b)&&(FM.gi a b==1)
 |_=>false
theorem NA{ds:List PyData}(h:ds.length≠2\/∃I g,ds=[I,g]/\((HY I && !GC I)=false\/(HY g && !GC g)=false)):De (.tuple ds)=false:=by
 rcases h with h|⟨I,g,rfl,h⟩
 .match ds,h with
  |[],_=>rfl
  |[a],_=>cases a<;>rfl
  |[_,_],h=>exact absurd rfl h
  |a::b::_::_,_=>cases a<;>first|rfl|(cases b<;>rfl)
 .cases I<;>first|rfl|(cases g<;>first|rfl|(exfalso;rcases h with h|h<;>exact absurd h (by simp[HY,GC])))
def RV:Sp:=fun vs H Q _=>∃l d v,vs=[v]/\Dt l H d v/\Q (.bl (HY d && !GC d)) H
def R8:Sp:=fun vs H Q _=>∃l d v,vs=[v]/\Dt l H d v/\Q (.bl (De d)) H
theorem LA{d:PyData}(h:(HY d && !GC d)=true):∃i,d=.int i:=by
 cases d<;>first|exact⟨_,rfl⟩|(exact absurd h (by simp[HY,GC]))|(rename_i b;cases b<;>exact absurd h (by decide))
section
variable{P:Program}{w:World}{K:PySem.W.Frag}{mg:Str->Option Value}{base:Heap}{f g1 g2:Addr}{fd gd1 gd2:FuncData}
theorem Ta:Ab ["thing"] ["thing"] (AN II):=⟨rfl,rfl,rfl,by decide +kernel,rfl,by decide +kernel,by decide +kernel⟩
theorem Tc(F:Fn K mg "is_whole" II ["thing"] f fd)(g:mg "isinstance" = none)(I:mg "int" = none)(M:mg "bool" = none):AL P w K mg base AY 1 f fd ["thing"] RV:=by
 have sc:=Ta;refine F.F.ok (k:=0) sc (fun vs H Q E h=>?_) (fun cdv A outer s H vs Q E R h=>?_)
 .obtain⟨l,d,v,rfl,_⟩:=h
  rfl
 obtain⟨l,d,v,rfl,hd,q⟩:=h;refine⟨_,(AF (Ac (Iw (Ad Be rfl g aQ (AA (pv 0) (AA (Bt (v:=.ty "int") rfl I PyProof.Rows.boot_int rfl) AB))) (K2 (WO (Ad Be rfl g aQ (AA (pv 0) (AA (Bt (v:=.ty "bool") rfl M PyProof.Rows.boot_bool rfl) AB)))))))),?_⟩;refine⟨_,rfl,_,_,_,_,rfl,EZ,hd.ty,RP K d hd.nodict,_,rfl,BP (fun c=>⟨_,rfl,_,_,_,_,rfl,EZ,hd.ty,PU K d hd.nodict,_,rfl,?_⟩) (fun c=>?_)⟩
 .rw[c,Bool.true_and]at q;exact q
 .rw[Bool.eq_false_iff.mpr c,Bool.false_and]at q;exact q
theorem OX:Ab ["thing"] ["thing"] (AN Fo):=⟨rfl,rfl,rfl,by decide +kernel,rfl,by decide +kernel,by decide +kernel⟩
theorem N8(F:Fn K mg "is_fraction" Fo ["thing"] f fd)(Dh:Fn K mg "is_whole" II ["thing"] g1 gd1)(Au:Fn K mg "greatest_divisor" B9 ["one","other"] g2 gd2)
 (IE:AL P w K mg base AY 1 g1 gd1 ["thing"] RV)(Bl:AL P w K mg base AY 1 g2 gd2 ["one","other"] My)(AZ:mg "isinstance" = none)(Bb:mg "tuple" = none)(BG:mg "len" = none):AL P w K mg base AY 2 f fd ["thing"] R8:=by
 have sc:=OX;refine F.F.ok (k:=1) sc (fun vs H Q E h=>?_) (fun cdv A outer s H vs Q E hr h=>?_)
 .obtain⟨l,d,v,rfl,_⟩:=h
  rfl
 obtain⟨l,d,v,rfl,hd,q⟩:=h;refine⟨_,(AD (BQ (PW.pt (D6 (B8 (Bo (Ad Be rfl AZ aQ (AA (pv 0) (AA (Bt (v:=.ty "tuple") rfl Bb bA rfl) AB))))) (Df (Aw Fq (Ad BB rfl BG av (AA (pv 0) AB)) AE (Ay _)))))
  (AF (Ac CO))
  Az)
 (AD (BQ (PW.pt (D6 (B8 (Bo (AX Dh IE hr rfl (AA (Ag Ar (pv 0) AE (fun _ _=>rfl)) AB)))) (Df (B8 (Bo (AX Dh IE hr rfl (AA (Ag Ar (pv 0) AE (fun _ _=>rfl)) AB)))))))
  (AF (Ac CO))
  Az)
 (AF (Ac (Iw (IW ZO (Ag Ar (pv 0) AE (fun _ _=>rfl)) AE (Ay _)) (K2 (IW HG (AX Au Bl hr rfl (AA (Ag Ar (pv 0) AE (fun _ _=>rfl)) (AA (Ag Ar (pv 0) AE (fun _ _=>rfl)) AB))) AE (Ay _)))))))),?_⟩
 refine⟨_,rfl,_,_,_,_,rfl,EZ,hd.ty,Ds K d hd.nodict,_,rfl,?_⟩;have no:CK d=false->De d=false:=fun z=>by cases d<;>first|rfl|exact absurd z (by simp[CK])
 by_cases ht:CK d=true
 .rw[ht];obtain⟨R,rfl⟩:∃R,d=.tuple R:=by cases d<;>first|exact⟨_,rfl⟩|exact absurd ht (by simp[CK])
  rw[Dt]at hd;obtain⟨a,xs,rfl,na,ha,g⟩:=hd;have Z:=g.len;have s1:Af K H a xs:=Af.of ha;refine DJ ⟨_,rfl,a,xs,rfl,.inr s1,rfl,_,rfl,BP (fun c=>?_) (fun c=>?_)⟩
  .have:R.length≠2:=by
    rw[<-Z];intro z;rw[z]at c;exact absurd c (by decide)
   rw[NA (.inl this)]at q;exact q
  .have h2:xs.length=2:=by
    by_cases z:xs.length=2
    .exact z
    .exfalso
     refine c ?_;have:¬(V.int (xs.length:Nat)=V.int 2):=by simp;lia
     rw[decide_eq_false this];rfl
   obtain⟨Y,U,rfl⟩:∃Y U,R=[Y,U]:=by
    match R,(show R.length=2 by lia) with
    |[x,y],_=>exact⟨x,y,rfl⟩
   rw[AQ]at g;obtain⟨x0,r,rfl,M,g⟩:=g;rw[AQ]at g;obtain⟨x1,r,rfl,I,g⟩:=g;rw[AQ]at g;subst g;refine⟨_,rfl,_,_,_,_,rfl,rfl,s1,rfl,l,Y,x0,rfl,M,_,rfl,BP (fun c0=>?_) (fun c0=>?_)⟩
   .rw[NA (.inr ⟨Y,U,rfl,.inl (by simp at c0;rcases c0 with c|c<;>simp[c])⟩)]at q;exact q
   refine⟨_,rfl,_,_,_,_,rfl,rfl,s1,rfl,l,U,x1,rfl,I,_,rfl,BP (fun c1=>?_) (fun c1=>?_)⟩
   .rw[NA (.inr ⟨Y,U,rfl,.inr (by simp at c1;rcases c1 with c|c<;>simp[c])⟩)]at q;exact q
   obtain⟨i,rfl⟩:=LA (d:=Y) (by simpa using c0);obtain⟨j,rfl⟩:=LA (d:=U) (by simpa using c1);rw[Dt]at M I;subst M I;refine⟨_,rfl,_,_,_,_,rfl,rfl,s1,rfl,_,_,rfl,rfl,_,rfl,BP (fun c=>?_) (fun c=>?_)⟩
   .refine⟨_,rfl,_,_,_,_,rfl,rfl,s1,rfl,_,rfl,_,_,_,_,rfl,rfl,s1,rfl,i,j,rfl,rfl,?_⟩;have hj:1<=j:=by have:=af c;lia
    have e:De (.tuple [.int i,.int j])=decide (V.int (FM.gi i j)=V.int 1):=by
     rw[De,decide_eq_true hj,Bool.true_and,Bool.eq_iff_iff];simp
    rw[e]at q;exact q
   .have hj:¬1<=j:=fun z=>c (bU (by lia));have e:De (.tuple [.int i,.int j])=false:=by rw[De,decide_eq_false hj,Bool.false_and]
    rw[e]at q;exact q
 .rw[Bool.eq_false_iff.mpr ht];rw[no (ag.mpr ht)]at q;exact BA (BA q)
end
def Co:PyData->Bool
 |.list g=>g.all De
 |_=>false
def Gs:PyData->Nat
 |.list g=>g.length
 |_=>0
def rowAt(ds:List PyData)(i:Nat):Bool:=match ds[i]? with
 |some d=>Co d&&decide (Gs d=i)
 |none=>true
def J3(ds:List PyData):Bool:=(List.range ds.length).all (rowAt ds)
def Ct:PyData->Bool
 |.list g=>decide (1<=g.length)&&(decide (g.length<=40)&&J3 g)
 |_=>false
def J6:PyData->Bool
 |.tuple [r,l]=>Ct r&&(Co l&&decide (Gs l=Gs r))
 |_=>false
theorem Wd{d:PyData}(h:B0 d=false):Co d=false:=by cases d<;>first|rfl|exact absurd h (by simp[B0])
theorem S5{d:PyData}(h:B0 d=false):Ct d=false:=by cases d<;>first|rfl|exact absurd h (by simp[B0])
theorem XT{d:PyData}(h:CK d=false):J6 d=false:=by cases d<;>first|rfl|exact absurd h (by simp[CK])
theorem VM{ds:List PyData}(h:ds.length≠2):J6 (.tuple ds)=false:=by
 match ds,h with
 |[],_=>rfl
 |[_],_=>rfl
 |[_,_],h=>exact absurd rfl h
 |_::_::_::_,_=>rfl
theorem Ft{d:PyData}(h:B0 d=true):∃ds,d=.list ds:=by cases d<;>first|exact⟨_,rfl⟩|exact absurd h (by simp[B0])
theorem Mb{d:PyData}(h:CK d=true):∃ds,d=.tuple ds:=by cases d<;>first|exact⟨_,rfl⟩|exact absurd h (by simp[CK])
theorem NW{d:PyData}(h:Co d=true):B0 d=true:=by cases d<;>first|rfl|exact absurd h (by simp[Co])
theorem Rt{d:PyData}(h:Ct d=true):B0 d=true:=by cases d<;>first|rfl|exact absurd h (by simp[Ct])
theorem Pn{ds:List PyData}(h:∀j,j<ds.length->rowAt ds j=true):J3 ds=true:=by
 unfold J3;rw[List.all_eq_true];intro j g;exact h j (bN.mp g)
theorem Pg{ds:List PyData}{i:Nat}(hi:i<ds.length)(h:rowAt ds i=false):J3 ds=false:=by
 refine ag.mpr fun z=>?_;unfold J3 at z;rw[List.all_eq_true]at z;rw[z i (bN.mpr hi)]at h;cases h
theorem Ka{ds:List PyData}{i:Nat}{d:PyData}(h:ds[i]? = some d):rowAt ds i=(Co d&&decide (Gs d=i)):=by unfold rowAt;rw[h]
def MB:Sp:=fun vs H Q _=>∃l d v,vs=[v]/\Dt l H d v/\Q (.bl (Co d)) H
def W0:Sp:=fun vs H Q _=>∃l d v,vs=[v]/\Dt l H d v/\∀H',AG H H'->Q (.bl (Ct d)) H'
def UT:Sp:=fun vs H Q _=>∃l d v,vs=[v]/\Dt l H d v/\∀H',AG H H'->Q (.bl (J6 d)) H'
section
variable{P:Program}{w:World}{K:PySem.W.Frag}{mg:Str->Option Value}{base:Heap}{f g1 g2:Addr}{fd gd1 gd2:FuncData}
theorem Mw:Ab ["thing","part"] ["thing"] (AN Dp):=⟨rfl,rfl,rfl,by decide +kernel,rfl,by decide +kernel,by decide +kernel⟩
theorem M9(F:Fn K mg "are_fractions" Dp ["thing"] f fd)(Cv:Fn K mg "is_fraction" Fo ["thing"] g1 gd1)
 (Ho:AL P w K mg base AY 2 g1 gd1 ["thing"] R8)(AZ:mg "isinstance" = none)(CZ:mg "list" = none):AL P w K mg base AY 3 f fd ["thing"] MB:=by
 have sc:=Mw;refine F.F.ok (k:=2) sc (fun vs H Q E h=>?_) (fun cdv A outer s H vs Q E hr h=>?_)
 .obtain⟨l,d,v,rfl,_⟩:=h
  rfl
 obtain⟨l,d,v,rfl,hd,q⟩:=h;refine⟨_,(AD (BQ (B8 (Bo (Ad Be rfl AZ aQ (AA (pv 0) (AA (Bt (v:=.ty "list") rfl CZ bO rfl) AB)))))
  (AF (Ac CO))
  Az)
 (AD (BU aP rfl (Av (pv 0)) (An (i:=1) sc.nd rfl (Or.inl rfl))
  (AF (BQ (B8 (Bo (AX Cv Ho hr rfl (AA (pv 1) AB))))
   (AF (Ac CO))
   Az)))
 (AF (Ac CO)))),?_⟩
 refine⟨_,rfl,_,_,_,_,rfl,EZ,hd.ty,DM K d hd.nodict,_,rfl,?_⟩;by_cases g:B0 d=false
 .rw[g];rw[Wd g]at q;exact BA q
 have g:B0 d=true:=by simpa using g
 rw[g];refine DJ ?_;obtain⟨ds,rfl⟩:=Ft g;rw[Dt]at hd;obtain⟨a,xs,rfl,na,ha,ht⟩:=hd;have I:=ht.len;refine⟨_,rfl,a,rfl,⟨_,AO.of ha⟩,Bp (xs:=xs) (fun i σ H'=>∃M,σ=[some (.ref a),M]/\H=H'/\∀j c,j<i->ds[j]? = some c->De c=true) ?_ ?_ ?_ ?_⟩
 .exact⟨_,rfl,rfl,fun j c h=>absurd h (bz _)⟩
 .rintro i σ H' _ ⟨M,rfl,rfl,_⟩;exact AO.of ha
 .rintro i x σ H' hx ⟨M,rfl,rfl,hf⟩;obtain⟨c,R,tc⟩:=ht.get hx;refine⟨_,rfl,l,c,x,rfl,tc,_,rfl,BP (fun b=>?_) (fun b=>?_)⟩
  .have U:De c=false:=by simpa using b
   have e:Co (.list ds)=false:=ag.mpr fun z=>by
    rw[Co,List.all_eq_true]at z;rw[z c (aI R)]at U;cases U
   rw[e]at q;exact q
  .have U:De c=true:=by simpa using b
   refine⟨_,rfl,rfl,fun j e Y Z=>?_⟩;by_cases z:j=i
   .subst z;rw[R]at Z;cases Z;exact U
   .exact hf j e (by lia) Z
 .rintro σ H' ⟨M,rfl,rfl,hf⟩;have e:Co (.list ds)=true:=by
   rw[Co,List.all_eq_true];intro c R;obtain⟨j,Y⟩:=aa R;exact hf j c (by rw[I];exact(aB.mp Y).1) Y
  rw[e]at q;exact q
theorem S7:Ab ["thing","k","row"] ["thing"] (AN Ko):=⟨rfl,rfl,rfl,by decide +kernel,rfl,by decide +kernel,by decide +kernel⟩
theorem Sz{tk:Tok}(F:Fn K mg "are_rows" Ko ["thing"] f fd)(BV:Fn K mg "are_fractions" Dp ["thing"] g1 gd1)
 (Dk:AL P w K mg base AY 3 g1 gd1 ["thing"] MB)(Jx:mg "MOST_ROWS" = some (.int 40 tk))(AZ:mg "isinstance" = none)(CZ:mg "list" = none)(BG:mg "len" = none)(Ce:mg "enumerate" = none):AL P w K mg base AY 4 f fd ["thing"] W0:=by
 have sc:=S7;refine F.F.ok (k:=3) sc (fun vs H Q E h=>?_) (fun cdv A outer s H vs Q E hr h=>?_)
 .obtain⟨l,d,v,rfl,_⟩:=h
  rfl
 obtain⟨l,d,v,rfl,hd,q⟩:=h;refine⟨_,(AD (BQ (PW.pt (D6 (B8 (Bo (Ad Be rfl AZ aQ (AA (pv 0) (AA (Bt (v:=.ty "list") rfl CZ bO rfl) AB))))) (D6 (Aw L6 (Ad BB rfl BG av (AA (pv 0) AB)) AE (Ay _)) (Df (Aw L3 (Ad BB rfl BG av (AA (pv 0) AB)) (Uk (v:=.int 40) rfl Jx ⟨_,rfl⟩) (Ay _))))))
  (AF (Ac CO))
  Az)
 (AD (BU aP rfl (M5 rfl Ce (AA (pv 0) AB)) (GY rfl (Bg (An (i:=1) sc.nd rfl (Or.inl rfl)) (Bg (An (i:=2) sc.nd rfl (Or.inl rfl)) FK)))
  (AF (BQ (PW.pt (D6 (B8 (Bo (AX BV Dk hr rfl (AA (pv 2) AB)))) (Df (Aw Fq (Ad BB rfl BG av (AA (pv 2) AB)) (pv 1) (Ay _)))))
   (AF (Ac CO))
   Az)))
 (AF (Ac CO)))),?_⟩
 refine⟨_,rfl,_,_,_,_,rfl,EZ,hd.ty,DM K d hd.nodict,_,rfl,?_⟩;by_cases U:B0 d=false
 .rw[U];have:=q H (.refl H);rw[S5 U]at this;exact BA (BA this)
 have U:B0 d=true:=by simpa using U
 rw[U];refine DJ ?_;obtain⟨I,rfl⟩:=Ft U;rw[Dt]at hd;obtain⟨a,xs,rfl,na,ha,ht⟩:=hd;have g:=ht.len;refine⟨_,rfl,a,xs,rfl,.inl (AO.of ha),_,_,rfl,rfl,_,rfl,BP (fun c=>?_) (fun c=>?_)⟩
 .have e:Ct (.list I)=false:=by
   have:¬1<=I.length:=by rw[<-g];have:=af c;lia
   rw[Ct,decide_eq_false this,Bool.false_and]
  have:=q H (.refl H);rw[e]at this;exact BA this
 have h1:1<=I.length:=by rw[<-g];have:=bG (ag.mpr c);lia
 refine⟨_,rfl,a,xs,rfl,.inl (AO.of ha),_,_,rfl,rfl,_,rfl,BP (fun c=>?_) (fun c=>?_)⟩
 .have e:Ct (.list I)=false:=by
   have:¬I.length<=40:=by rw[<-g];have:=af c;lia
   rw[Ct,decide_eq_false this,Bool.false_and,Bool.and_false]
  have:=q H (.refl H);rw[e]at this;exact this
 have h2:I.length<=40:=by rw[<-g];have:=bG (ag.mpr c);lia
 have e:Ct (.list I)=J3 I:=by rw[Ct,decide_eq_true h1,decide_eq_true h2,Bool.true_and,Bool.true_and]
 rw[e]at q;refine⟨_,rfl,a,rfl,⟨_,AO.of ha⟩,Pr (xs:=xs) (fun i σ H'=>∃r1 r2,σ=[some (.ref a),r1,r2]/\AG H H'/\∀j,j<i->rowAt I j=true) ?_ ?_ ?_ ?_⟩
 .exact⟨_,_,rfl,.refl _,fun j h=>absurd h (bz _)⟩
 .rintro i σ H' _ ⟨r1,r2,rfl,e,_⟩;exact AO.of (e _ _ ha)
 .rintro i x σ H0 hx ⟨r1,r2,rfl,e0,hf⟩ p hp;obtain⟨c,hc,Z⟩:=ht.get hx;have hi:i<I.length:=(aB.mp hc).1;have s1:=AK hp (.tup [.int (i:Nat),x]);have R:=e0.trans s1;have hp':(upd H0 p (.tup [.int (i:Nat),x])) p=some (.tup [.int (i:Nat),x]):=AH;generalize upd H0 p (.tup [.int (i:Nat),x])=H1 at s1 R hp';have Z:=Z.same R;refine⟨p,_,rfl,Af.of hp',rfl,_,_,rfl,_,_,rfl,rfl,?_⟩;refine⟨_,rfl,l,c,x,rfl,Z,_,rfl,BP (fun b=>?_) (fun b=>?_)⟩
  .have hb:Co c=false:=by simpa using b
   have:=q H1 R;rw[Pg hi (by rw[Ka hc,hb,Bool.false_and])]at this;exact BA this
  have hb:Co c=true:=by simpa using b
  obtain⟨cs,rfl⟩:=Ft (NW hb);rw[Dt]at Z;obtain⟨b,ys,rfl,nb,hb',hy⟩:=Z;refine⟨_,rfl,b,ys,rfl,.inl (AO.of hb'),_,rfl,rfl,_,rfl,BP (fun z=>?_) (fun z=>?_)⟩
  .have M:¬Gs (.list cs)=i:=by
    rw[Gs,<-hy.len];intro Y;rw[Y]at z;simp at z
   have:=q H1 R;rw[Pg hi (by rw[Ka hc,hb,decide_eq_false M,Bool.and_false])]at this;exact this
  .have M:Gs (.list cs)=i:=by
    rw[Gs,<-hy.len];by_cases Y:ys.length=i
    .exact Y
    .exfalso
     refine z ?_;have:¬(V.int (ys.length:Nat)=V.int (i:Nat)):=by simp;lia
     rw[decide_eq_false this];rfl
   refine⟨_,_,rfl,R,fun j hj=>?_⟩;by_cases Y:j=i
   .subst Y;rw[Ka hc,hb,decide_eq_true M,Bool.and_self]
   .exact hf j (by lia)
 .rintro σ H' ⟨r1,r2,rfl,R,hf⟩;have:=q H' R;rw[Pn fun j hj=>hf j (by rw[g];exact hj)]at this;exact this
theorem S0:Ab ["thing"] ["thing"] (AN KU):=⟨rfl,rfl,rfl,by decide +kernel,rfl,by decide +kernel,by decide +kernel⟩
theorem TZ(F:Fn K mg "is_table" KU ["thing"] f fd)(Hx:Fn K mg "are_rows" Ko ["thing"] g1 gd1)(BV:Fn K mg "are_fractions" Dp ["thing"] g2 gd2)
 (Uy:AL P w K mg base AY 4 g1 gd1 ["thing"] W0)(Dk:AL P w K mg base AY 4 g2 gd2 ["thing"] MB)(AZ:mg "isinstance" = none)(Bb:mg "tuple" = none)(BG:mg "len" = none):AL P w K mg base AY 5 f fd ["thing"] UT:=by
 have sc:=S0;refine F.F.ok (k:=4) sc (fun vs H Q E h=>?_) (fun cdv A outer s H vs Q E hr h=>?_)
 .obtain⟨l,d,v,rfl,_⟩:=h
  rfl
 obtain⟨l,d,v,rfl,hd,q⟩:=h;refine⟨_,(AD (BQ (PW.pt (D6 (B8 (Bo (Ad Be rfl AZ aQ (AA (pv 0) (AA (Bt (v:=.ty "tuple") rfl Bb bA rfl) AB))))) (Df (Aw Fq (Ad BB rfl BG av (AA (pv 0) AB)) AE (Ay _)))))
  (AF (Ac CO))
  Az)
 (AF (Ac (Iw (AX Hx Uy hr rfl (AA (Ag Ar (pv 0) AE (fun _ _=>rfl)) AB)) (Iw (AX BV Dk hr rfl (AA (Ag Ar (pv 0) AE (fun _ _=>rfl)) AB)) (K2 (IW HG (Ad BB rfl BG av (AA (Ag Ar (pv 0) AE (fun _ _=>rfl)) AB)) (Ad BB rfl BG av (AA (Ag Ar (pv 0) AE (fun _ _=>rfl)) AB)) (Ay _)))))))),?_⟩
 refine⟨_,rfl,_,_,_,_,rfl,EZ,hd.ty,Ds K d hd.nodict,_,rfl,?_⟩;by_cases U:CK d=false
 .rw[U];have:=q H (.refl H);rw[XT U]at this;exact BA (BA this)
 have U:CK d=true:=by simpa using U
 rw[U];refine DJ ?_;obtain⟨Z,rfl⟩:=Mb U;rw[Dt]at hd;obtain⟨a,xs,rfl,na,ha,M⟩:=hd;have Y:=M.len;have s1:Af K H a xs:=Af.of ha;refine⟨_,rfl,a,xs,rfl,.inr s1,rfl,_,rfl,BP (fun c=>?_) (fun c=>?_)⟩
 .have:Z.length≠2:=by
   rw[<-Y];intro z;rw[z]at c;exact absurd c (by decide)
  have q:=q H (.refl H);rw[VM this]at q;exact q
 have h2:xs.length=2:=by
  by_cases z:xs.length=2
  .exact z
  .exfalso
   refine c ?_;have:¬(V.int (xs.length:Nat)=V.int 2):=by simp;lia
   rw[decide_eq_false this];rfl
 obtain⟨d0,d1,rfl⟩:∃d0 d1,Z=[d0,d1]:=by
  match Z,(show Z.length=2 by lia) with
  |[x,y],_=>exact⟨x,y,rfl⟩
 rw[AQ]at M;obtain⟨x0,r,rfl,I,M⟩:=M;rw[AQ]at M;obtain⟨x1,r,rfl,g,M⟩:=M;rw[AQ]at M;subst M;rw[J6]at q;refine⟨_,rfl,_,_,_,_,rfl,rfl,s1,rfl,l,d0,x0,rfl,I,fun H1 R=>⟨_,rfl,BP (fun c0=>?_) (fun c0=>?_)⟩⟩
 .rw[c0]at q;refine⟨_,rfl,_,_,_,_,rfl,rfl,R.tup s1,rfl,l,d1,x1,rfl,g.same R,_,rfl,BP (fun c1=>?_) (fun c1=>?_)⟩
  .rw[c1]at q;obtain⟨r0,rfl⟩:=Ft (Rt c0);obtain⟨r1,rfl⟩:=Ft (NW c1);have I:=I.same R;have g:=g.same R;rw[Dt]at I g;obtain⟨a0,y0,rfl,_,ha0,hy0⟩:=I;obtain⟨a1,y1,rfl,_,ha1,hy1⟩:=g;refine⟨_,rfl,_,_,_,_,rfl,rfl,R.tup s1,rfl,a1,y1,rfl,.inl (AO.of ha1),_,rfl,_,_,_,_,rfl,rfl,R.tup s1,rfl,a0,y0,rfl,.inl (AO.of ha0),rfl,?_⟩;have:=q H1 R;rw[Bool.true_and,Bool.true_and,Gs,Gs,<-hy0.len,<-hy1.len]at this;have e:decide (V.int (y1.length:Nat)=V.int (y0.length:Nat))=decide (y1.length=y0.length):=by
    rw[Bool.eq_iff_iff];simp;lia
   rw[<-e]at this;exact this
  .rw[Bool.eq_false_iff.mpr c1,Bool.false_and,Bool.and_false]at q;exact q H1 R
 .rw[Bool.eq_false_iff.mpr c0,Bool.false_and]at q;exact q H1 R
end
theorem YS{p:Addr}{H H':Hp}{xs:List V}{ds:List PyData}(M:upd H p (.tup xs)=H')(I:H p=none)(k:Am H ds xs):AG H H'/\DU H' (.tuple ds) (.ref p)/\H' p=some (.tup xs):=by
 subst M;have g:=AK I (.tup xs);exact⟨g,.tup AH (k.same g),AH⟩
theorem fH{p:Addr}{H H':Hp}{xs:List V}{ds:List PyData}(M:upd H p (.lst xs)=H')(I:H p=none)(k:Am H ds xs):AG H H'/\DU H' (.list ds) (.ref p)/\H' p=some (.lst xs):=by
 subst M;have g:=AK I (.lst xs);exact⟨g,.lst AH (k.same g),AH⟩
theorem Xa(r:Rat):De (Aj r)=true:=by
 have h:=r.den_nz;have k:=r.reduced;rw[Aj,De,decide_eq_true (show(1:Int)<=(r.den:Int) by lia),Bool.true_and];rw[beq_iff_eq];unfold FM.gi;unfold Nat.Coprime at k;rw[show r.num.gcd (r.den:Int)=1 from k]
 rfl
theorem Bk{i n:Nat}(h:i<n)(hn:n<=60):i<sizeLine:=aN (show i<60 by lia) (by rw[sizeLine_eq];decide)
theorem BJ{n:Nat}(hn:n<=60):n<=sizeLine:=aU hn (by rw[sizeLine_eq];decide)
structure Tb where
 rs:List (List Rat)
 ls:List Rat
def AR(r:List Rat):List PyData:=r.map Aj
def ES(r:List Rat):PyData:=.list (AR r)
def BF(rs:List (List Rat)):List PyData:=rs.map ES
def Bn(t:Tb):PyData:=.tuple [.list (BF t.rs),.list (AR t.ls)]
structure Tb.Ok(m:Nat)(t:Tb):Prop where
 one:1<=t.rs.length
 most:t.rs.length<=m
 last:t.ls.length=t.rs.length
 row:∀(i:Nat) r,t.rs[i]? = some r->r.length=i
theorem NB(r:List Rat):∀e∈AR r,De e=true:=fun e g=>by
 obtain⟨q,_,rfl⟩:=aJ.mp g;exact Xa q
theorem Dl(r:List Rat):(AR r).length=r.length:=bS _
theorem HD(r:List (List Rat)):(BF r).length=r.length:=bS _
theorem Tb.Ok.is{m:Nat}(hm:m<=40){t:Tb}(h:t.Ok m):J6 (Bn t)=true:=by
 have M:=h.one;have R:=h.most;rw[Bn,J6,Ct,Gs,Gs,HD,Dl,decide_eq_true M,decide_eq_true (show t.rs.length<=40 by lia),decide_eq_true h.last,Co,Bool.true_and,Bool.true_and,Bool.and_true,List.all_eq_true.mpr (NB _),Bool.and_true];refine Pn fun j I=>?_;rw[HD]at I;have g:t.rs[j]? = some t.rs[j]:=by simp[I]
 rw[Ka (d:=ES t.rs[j]) (by rw[BF,List.getElem?_map,g];rfl),ES,Gs,Dl,decide_eq_true (h.row j _ g),Co,Bool.and_true,List.all_eq_true.mpr (NB _)]
mutual
theorem Za{l c:Addr}{H H':Hp}(e:SameBut c H H'):∀ {d:PyData} {v:V},Dt l H d v->Dt c H d v->Dt l H' d v
 |.none,_,h,_=>by rw[Dt]at h ⊢;exact h
 |.bool _,_,h,_=>by rw[Dt]at h ⊢;exact h
 |.int _,_,h,_=>by rw[Dt]at h ⊢;exact h
 |.str _,_,h,_=>by rw[Dt]at h ⊢;exact h
 |.tuple _,_,h,k=>by
  rw[Dt]at h k ⊢;obtain⟨a,xs,e1,n,R,Z⟩:=h;obtain⟨a',U,M,Y,g,I⟩:=k;subst e1;cases M;rw[R]at g;cases g;exact⟨a,xs,rfl,n,e _ _ Y R,IA e Z I⟩
 |.list _,_,h,k=>by
  rw[Dt]at h k ⊢;obtain⟨a,xs,e1,n,R,Z⟩:=h;obtain⟨a',U,M,Y,g,I⟩:=k;subst e1;cases M;rw[R]at g;cases g;exact⟨a,xs,rfl,n,e _ _ Y R,IA e Z I⟩
 |.dict _,_,h,_=>by rw[Dt]at h;exact h.elim
theorem IA{l c:Addr}{H H':Hp}(e:SameBut c H H'):∀ {ds:List PyData} {xs:List V},AQ l H ds xs->AQ c H ds xs->AQ l H' ds xs
 |[],_,h,_=>by rw[AQ]at h ⊢;exact h
 |_::_,_,h,k=>by
  rw[AQ]at h k ⊢;obtain⟨x,r,Y,U,R⟩:=h;obtain⟨Z,r',M,I,g⟩:=k;subst Y;cases M;exact⟨x,r,rfl,Za e U I,IA e R g⟩
end
theorem Am.UN{H:Hp}{d:PyData}{ds:List PyData}{xs:List V}(h:Am H (d::ds) xs):∃x r,xs=x::r/\DU H d x/\Am H ds r:=by
 obtain⟨N,b⟩:=h;have h0:=b N (aD _);rw[AQ]at h0;obtain⟨x,r,rfl,_,_⟩:=h0;refine⟨x,r,rfl,⟨N,fun l g=>?_⟩,⟨N,fun l g=>?_⟩⟩
 .have:=b l g;rw[AQ]at this;obtain⟨_,_,e,I,_⟩:=this;cases e;exact I
 .have:=b l g;rw[AQ]at this;obtain⟨_,_,e,_,I⟩:=this;cases e;exact I
theorem DU.rat{H:Hp}{q:Rat}{v:V}(h:DU H (Aj q) v):∃p,v=.ref p/\H p=some (.tup (Gd q)):=h.ints (ps:=[q.num,(q.den:Int)])
theorem Lp{H:Hp}{q:Rat}{p:Addr}(h:H p=some (.tup (Gd q))):DU H (Aj q) (.ref p):=.tup h (.cons .int (.cons .int .nil))
theorem Ib{c:Addr}{zs:List V}{H:Hp}(g:H c=some (.lst zs)):∀ {qs:List Rat} {xs:List V},Am H (AR qs) xs->AQ c H (AR qs) xs
 |[],xs,h=>by
  have:=h.len;rw[show AR []=[] from rfl,List.length_nil]at this;rw[List.eq_nil_of_length_eq_zero this];exact .nil
 |q::qs,xs,h=>by
  obtain⟨x,r,rfl,R,M⟩:=Am.UN h;obtain⟨p,rfl,I⟩:=R.rat;exact .cons (.tup (fun z=>by subst z;rw[I]at g;cases g) I (.cons .int (.cons .int .nil))) (Ib g M)
theorem F7{c:Addr}{zs:List V}{H H':Hp}(g:H c=some (.lst zs))(e:SameBut c H H'){qs:List Rat}{xs:List V}(h:Am H (AR qs) xs):Am H' (AR qs) xs:=B6 (.but e (Ib g h))
theorem XZ{c a:Addr}{zs xs:List V}{H:Hp}{qs:List Rat}(g:H c=some (.lst zs))(n:a≠c)(ha:H a=some (.lst xs))(h:Am H (AR qs) xs):Dt c H (ES qs) (.ref a):=.lst n ha (Ib g h)
theorem DU.tab{H:Hp}{t:Tb}{v:V}(h:DU H (Bn t) v):∃p R L xs ys,v=.ref p/\H p=some (.tup [.ref R,.ref L])/\H R=some (.lst xs)/\Am H (BF t.rs) xs/\H L=some (.lst ys)/\Am H (AR t.ls) ys:=by
 obtain⟨p,zs,rfl,g,h1⟩:=h.UK;obtain⟨x,y,rfl,h2,Z⟩:=h1.LU;obtain⟨R,xs,rfl,I,Y⟩:=h2.Jm;obtain⟨L,ys,rfl,M,U⟩:=Z.Jm;exact⟨p,R,L,xs,ys,rfl,g,I,Y,M,U⟩
theorem cQ{H:Hp}{t:Tb}{p R L:Addr}{xs ys:List V}(g:H p=some (.tup [.ref R,.ref L]))(I:H R=some (.lst xs))(Y:Am H (BF t.rs) xs)(M:H L=some (.lst ys))(U:Am H (AR t.ls) ys):DU H (Bn t) (.ref p) :=
 .tup g (.cons (.lst I Y) (.cons (.lst M U) .nil))
theorem KJ{H:Hp}{rs:List (List Rat)}{xs:List V}{i:Nat}{r:List Rat}(h:Am H (BF rs) xs)(g:rs[i]? = some r):∃a ys,xs[i]? = some (.ref a)/\H a=some (.lst ys)/\Am H (AR r) ys:=by
 obtain⟨v,U,R⟩:=h.get (i:=i) (d:=ES r) (by rw[BF,List.getElem?_map,g];rfl);obtain⟨a,ys,rfl,M,I⟩:=R.Jm;exact⟨a,ys,U,M,I⟩
theorem JV(a b:List Rat):AR (a++b)=AR a++AR b:=List.map_append
def Dc(c b:Int):Int:=c.fdiv (FM.gi c b)*b
def CV(bs:List Int):Int:=bs.foldl Dc 1
theorem Rn{k:Nat}:∀(bs:List Int) (c:Int) (n:Nat),1<=c->c.natAbs<2^n->(∀b∈bs,1<=b/\b.natAbs<2^k) ->
  1<=bs.foldl Dc c/\(bs.foldl Dc c).natAbs<2^(n+k*bs.length)/\c ∣ bs.foldl Dc c/\∀b∈bs,b ∣ bs.foldl Dc c
 |[],c,n,M,I,_=>⟨M,by simpa using I,Int.dvd_refl _,fun _ z=>(ab z).elim⟩
 |b::bs,c,n,M,I,h=>by
  obtain⟨b1,b2⟩:=h b aR;obtain⟨s1,s2,s3,U⟩:=Ke M b1;have n1:(Dc c b).natAbs<2^(n+k):=FM.Ax (aL U I) b2;obtain⟨r1,Z,R,Y⟩:=Rn bs (Dc c b) (n+k) s1 n1 fun y g=>h y (aM _ g);refine⟨r1,?_,Int.dvd_trans s2 R,fun y g=>?_⟩
  .rw[List.length_cons,Nat.mul_succ,show n+(k*bs.length+k)=n+k+k*bs.length by lia];exact Z
  .rcases aY.mp g with rfl|g
   .exact Int.dvd_trans s3 R
   .exact Y y g
theorem FI{k:Nat}{bs:List Int}(h:∀b∈bs,1<=b/\b.natAbs<2^k):1<=CV bs/\(CV bs).natAbs<2^(1+k*bs.length)/\∀b∈bs,b ∣ CV bs:=by
 obtain⟨a,b,_,d⟩:=Rn bs 1 1 (by decide) (by decide) h;exact⟨a,b,d⟩
theorem Vz(bs:List Int)(b:Int):CV (bs++[b])=Dc (CV bs) b:=by
 unfold CV;rw[List.foldl_append]
 rfl
def Ld:Sp:=fun vs H Q _=>∃(a:Addr) (bs:List Int) (k:Nat),vs=[.ref a]/\H a=some (.lst (bs.map V.int))/\(∀b∈bs,1<=b/\b.natAbs<2^k)/\k*bs.length<=4000/\Q (.int (CV bs)) H
def BI(rs:List Rat)(B:Int):List Int:=rs.map fun r=>r.num*B.fdiv (r.den:Int)
def Ny:Sp:=fun vs H Q _=>∃(a:Addr) (xs:List V) (rs:List Rat) (B:Int) (n m:Nat),vs=[.ref a,.int B]/\H a=some (.lst xs)/\Am H (AR rs) xs/\rs.length<=50/\(∀r∈rs,FM.Fits r n)/\B.natAbs<2^m/\n+m<=4000 /\
 ∀D H',AG H H'->H D=none->H' D=some (.lst ((BI rs B).map V.int))->Q (.ref D) H'
def AW(rs:List Rat):Int:=CV (rs.map fun r=>(r.den:Int))
def OY:Sp:=fun vs H Q _=>∃(a:Addr) (xs:List V) (rs:List Rat) (n:Nat),vs=[.ref a]/\H a=some (.lst xs)/\Am H (AR rs) xs/\rs.length<=50/\(∀r∈rs,FM.Fits r n)/\n*rs.length<=4000/\∀H',AG H H'->Q (.int (AW rs)) H'
theorem Dd{H:Hp}{qs:List Rat}{xs:List V}{i:Nat}{q:Rat}(h:Am H (AR qs) xs)(g:qs[i]? = some q):∃p,xs[i]? = some (.ref p)/\H p=some (.tup (Gd q)):=by
 obtain⟨v,R,M⟩:=h.get (i:=i) (d:=Aj q) (by rw[AR,List.getElem?_map,g];rfl);obtain⟨p,rfl,I⟩:=M.rat;exact⟨p,R,I⟩
theorem F5{rs:List Rat}{n:Nat}(h:∀r∈rs,FM.Fits r n):∀b∈rs.map (fun r=>(r.den:Int)),1<=b/\b.natAbs<2^n:=fun b I=>by
 obtain⟨r,g,rfl⟩:=aJ.mp I;have:=r.den_nz;exact⟨by lia,(h r g).d⟩
section
variable{P:Program}{w:World}{K:PySem.W.Frag}{mg:Str->Option Value}{base:Heap}{f g g1:Addr}{fd gd gd1:FuncData}
theorem MN(F:Fn K mg "common_bottom" Bs ["bottoms"] f fd)(Au:Fn K mg "greatest_divisor" B9 ["one","other"] g gd)
 (Bl:AL P w K mg base AY 1 g gd ["one","other"] My):AL P w K mg base AY 2 f fd ["bottoms"] Ld:=by
 have sc:=JN;refine F.F.ok (k:=1) sc (fun vs H Q E h=>?_) (fun cdv A outer s H vs Q E hr h=>?_)
 .obtain⟨a,bs,k,rfl,_⟩:=h
  rfl
 obtain⟨a,bs,k,rfl,ha,M,hk,q⟩:=h;refine⟨_,(AD (AU (i:=1) sc.nd rfl (Or.inl rfl) AE)
 (AD (BU aP rfl (Av (pv 0)) (An (i:=2) sc.nd rfl (Or.inl rfl))
  (AF (AU (i:=1) sc.nd rfl (Or.inl rfl) (Aa A9 (Aa DL (pv 1) (AX Au Bl hr rfl (AA (pv 1) (AA (pv 2) AB)))) (pv 2)))))
 (AF (Ac (pv 1))))),?_⟩
 refine⟨_,rfl,a,rfl,⟨_,AO.of ha⟩,Bp (xs:=bs.map V.int) (fun i σ H'=>∃(r:Option V),σ=[some (.ref a),some (.int (CV (bs.take i))),r]/\H=H') ?_ ?_ ?_ ?_⟩
 .exact⟨_,rfl,rfl⟩
 .rintro i σ H' _ ⟨r,rfl,rfl⟩;exact AO.of ha
 .rintro i x σ H' I ⟨r,rfl,rfl⟩;have hi:i<bs.length:=by have:=(aB.mp I).1;simpa using this
  rw[List.getElem?_map,List.getElem?_eq_getElem hi]at I;cases I;obtain⟨b1,b2⟩:=M _ (au hi);obtain⟨c1,R,_⟩:=FI (k:=k) (bs:=bs.take i) fun y Z=>M y (bg Z);rw[List.length_take,Nat.min_eq_left (by lia)]at R;obtain⟨s1,s2,s3,U⟩:=Ke c1 b1;have hg:FM.gi (CV (bs.take i)) bs[i]≠0:=Int.ne_of_gt (FM.JJ (by lia));have hki:k*i+k<=4000:=by
   have:k*(i+1)<=k*bs.length:=aV k hi;rw[Nat.mul_succ]at this
   lia
  have Y:((CV (bs.take i)).fdiv (FM.gi (CV (bs.take i)) bs[i])).natAbs<2^(1+k*i):=aL U R;refine⟨_,rfl,_,rfl,_,rfl,CV (bs.take i),bs[i],rfl,_,_,rfl,rfl,⟨hg,k,by have:k*1<=k*bs.length:=aV k (by lia);lia,Nat.lt_of_le_of_lt (FM.Vl (by lia)) b2⟩,_,rfl,_,_,rfl,rfl,DP Y b2 (by lia),some (.int bs[i]),?_,rfl⟩;rw[List.take_add_one,List.getElem?_eq_getElem hi];show _=[some (V.ref a),some (V.int (CV (bs.take i++[bs[i]]))),some (V.int bs[i])];rw[Vz]
  rfl
 .rintro σ H' ⟨r,rfl,rfl⟩;rw[List.length_map,List.take_length];exact⟨_,rfl,q⟩
theorem RN:Ab ["some","bottom"] ["some","bottom"] (AN FX):=⟨rfl,rfl,rfl,by decide +kernel,rfl,by decide +kernel,by decide +kernel⟩
theorem Rx(F:Fn K mg "tops_over" FX ["some","bottom"] f fd):AL P w K mg base AY 1 f fd ["some","bottom"] Ny:=by
 have sc:=RN;refine F.F.ok (k:=0) sc (fun vs H Q E h=>?_) (fun cdv A outer s H vs Q E U h=>?_)
 .obtain⟨a,xs,rs,B,n,m,rfl,_⟩:=h
  rfl
 obtain⟨a,xs,rs,B,n,m,rfl,ha,dx,hl,hf,hB,hnm,q⟩:=h;have Z:xs.length=rs.length:=by rw[dx.len,Dl]
 refine⟨_,(AF (Ac (Bf [".0","part","bottom"] 1 [none,none,some 1] (Av (pv 0)) (fun _ _ _ _ _=>BC) (fun _ _ _ _ _=>(Aa A9 (Ag DD (pv 1) AE (fun _ _=>rfl)) (Aa DL (pv 2) (Ag DD (pv 1) AE (fun _ _=>rfl)))))))),?_⟩;refine⟨_,rfl,a,rfl,⟨_,AO.of ha⟩,fun D hD=>Ba (n:=xs.length) (fun i ys H'=>AG H H'/\ys=(BI (rs.take i) B).map V.int) ⟨AK hD _,rfl⟩ ?_ ?_⟩
 .rintro i ys H1 hi ⟨M,rfl⟩ I;have U:rs[i]? = some (rs[i]'(by lia)):=aF _;obtain⟨p,Y,R⟩:=Dd dx U;have ft:=hf _ (aI U);generalize rs[i]'(by lia)=r at U R ft;have hd:=r.den_nz;refine⟨⟨xs,.ref p,AO.of (M _ _ ha),Y⟩,Bk (n:=60) (by unfold BI;simp;lia) (by decide),fun x H' y=>?_⟩;obtain⟨rfl,y⟩:=y;have hx:=y xs (AO.of (M _ _ ha));rw[Y]at hx;cases hx;unfold Bj;have n2:(B.fdiv (r.den:Int)).natAbs<2^m:=aL (FM.A3 _ _) hB;refine BA ⟨_,rfl,_,_,_,_,rfl,rfl,Af.of (M _ _ R),rfl,_,rfl,_,rfl,_,_,_,_,rfl,rfl,Af.of (M _ _ R),rfl,_,_,rfl,rfl,⟨by lia,n,by lia,ft.d⟩,_,_,rfl,rfl,DP ft.1 n2 (by lia),I,A8 hi ⟨fun b o z=>?_,?_⟩⟩
  .rw[AI (AM z hD)];exact M _ _ z
  .rw[List.take_add_one,U,BI,BI,List.map_append,List.map_append]
   rfl
 .rintro ys H1 ⟨M,rfl⟩ I;rw[Z,List.take_length]at I;exact⟨⟨xs,AO.of (M _ _ ha),Nat.le_refl _⟩,q D H1 M hD I⟩
theorem Sv:Ab ["start"] ["start"] (AN IH):=⟨rfl,rfl,rfl,by decide +kernel,rfl,by decide +kernel,by decide +kernel⟩
theorem Te(F:Fn K mg "grain_of" IH ["start"] f fd)(Ao:Fn K mg "common_bottom" Bs ["bottoms"] g1 gd1)
 (Bi:AL P w K mg base AY 2 g1 gd1 ["bottoms"] Ld):AL P w K mg base AY 3 f fd ["start"] OY:=by
 have sc:=Sv;refine F.F.ok (k:=2) sc (fun vs H Q E h=>?_) (fun cdv A outer s H vs Q E R h=>?_)
 .obtain⟨a,xs,rs,n,rfl,_⟩:=h
  rfl
 obtain⟨a,xs,rs,n,rfl,ha,dx,hl,hf,hn,q⟩:=h;have Z:xs.length=rs.length:=by rw[dx.len,Dl]
 refine⟨_,(AF (Ac (AX Ao Bi R rfl (AA (Bf [".0","place"] 1 [none,none] (Av (pv 0)) (fun _ _ _ _ _=>BC) (fun _ _ _ _ _=>(Ag DD (pv 1) AE (fun _ _=>rfl)))) AB)))),?_⟩;refine⟨_,rfl,a,rfl,⟨_,AO.of ha⟩,fun D hD=>Ba (n:=xs.length) (fun i ys H'=>AG H H'/\ys=((rs.take i).map fun r=>(r.den:Int)).map V.int) ⟨AK hD _,rfl⟩ ?_ ?_⟩
 .rintro i ys H1 hi ⟨M,rfl⟩ I;have R:rs[i]? = some (rs[i]'(by lia)):=aF _;obtain⟨p,Y,U⟩:=Dd dx R;generalize rs[i]'(by lia)=r at R U;refine⟨⟨xs,.ref p,AO.of (M _ _ ha),Y⟩,Bk (n:=60) (by simp;lia) (by decide),fun x H' y=>?_⟩;obtain⟨rfl,y⟩:=y;have hx:=y xs (AO.of (M _ _ ha));rw[Y]at hx;cases hx;unfold Bj;refine BA ⟨_,rfl,_,_,_,_,rfl,rfl,Af.of (M _ _ U),rfl,I,A8 hi ⟨fun b o z=>?_,?_⟩⟩
  .rw[AI (AM z hD)];exact M _ _ z
  .rw[List.take_add_one,R,List.map_append,List.map_append]
   rfl
 .rintro ys H1 ⟨M,rfl⟩ I;rw[Z,List.take_length]at I;exact⟨⟨xs,AO.of (M _ _ ha),Nat.le_refl _⟩,D,_,n,rfl,I,F5 hf,by rw[List.length_map];exact hn,q H1 M⟩
end
abbrev AV:=List Int×Rat
def DR(m:AV):PyData:=.tuple [.tuple (m.1.map .int),Aj m.2]
def CP(us:List AV):PyData:=.list (us.map DR)
theorem DU.mono{H:Hp}{m:AV}{v:V}(h:DU H (DR m) v):∃c P F,v=.ref c/\H c=some (.tup [.ref P,.ref F])/\H P=some (.tup (m.1.map V.int))/\H F=some (.tup (Gd m.2)):=by
 obtain⟨c,xs,rfl,g,Y⟩:=h.UK;obtain⟨x,y,rfl,U,R⟩:=Y.LU;obtain⟨P,rfl,I⟩:=U.ints;obtain⟨F,rfl,M⟩:=R.rat;exact⟨c,P,F,rfl,g,I,M⟩
theorem Gw{H:Hp}{us:List AV}{xs:List V}{i:Nat}{m:AV}(d:Am H (us.map DR) xs)(h:us[i]? = some m):∃c P F,xs[i]? = some (.ref c)/\H c=some (.tup [.ref P,.ref F])/\H P=some (.tup (m.1.map V.int))/\H F=some (.tup (Gd m.2)):=by
 obtain⟨v,I,g⟩:=d.get (i:=i) (d:=DR m) (by rw[List.getElem?_map,h];rfl);obtain⟨c,P,F,rfl,a,b,e⟩:=g.mono;exact⟨c,P,F,I,a,b,e⟩
theorem IY{H:Hp}{uss:List (List AV)}{cs:List V}{i:Nat}{us:List AV}(d:Am H (uss.map CP) cs)(h:uss[i]? = some us):∃a xs,cs[i]? = some (.ref a)/\H a=some (.lst xs)/\Am H (us.map DR) xs:=by
 obtain⟨v,M,I⟩:=d.get (i:=i) (d:=CP us) (by rw[List.getElem?_map,h];rfl);obtain⟨a,xs,rfl,ha,g⟩:=I.Jm;exact⟨a,xs,M,ha,g⟩
def IC(us:List AV):List Int:=us.map fun m=>(m.2.den:Int)
def EB(uss:List (List AV)):List Int:=(uss.map IC).flatten
def Aq(uss:List (List AV)):Int:=CV (EB uss)
def A7(m:AV):Int:=m.1.sum
def G5(g:Int)(us:List AV):Int:=us.foldl (fun g m=>if A7 m > g then A7 m else g) g
def EC(uss:List (List AV)):Int:=uss.foldl G5 1
structure Jk(H:Hp)(C:Addr)(cs:List V)(uss:List (List AV))(n:Nat):Prop where
 at_:H C=some (.lst cs)
 du:Am H (uss.map CP) cs
 len:uss.length<=4
 DK:∀us∈uss,us.length<=12/\∀m∈us,FM.Fits m.2 n
theorem Jk.same{H H':Hp}{C:Addr}{cs:List V}{uss:List (List AV)}{n:Nat}(c:Jk H C cs uss n)(e:AG H H'):Jk H' C cs uss n:=⟨e _ _ c.at_,c.du.same e,c.len,c.DK⟩
theorem Jk.cl{H:Hp}{C:Addr}{cs:List V}{uss:List (List AV)}{n:Nat}(c:Jk H C cs uss n):cs.length=uss.length:=by rw[c.du.len,List.length_map]
theorem M7{uss:List (List AV)}:∀(h:∀us∈uss,us.length<=12),(EB uss).length<=12*uss.length:=by
 induction uss with
 |nil=>intro _;simp[EB]
 |cons us uss g=>
  intro h;have R:=h us aR;have M:=g fun y I=>h y (aM _ I);unfold EB at M ⊢;rw[List.map_cons,List.flatten_cons,List.length_append,List.length_cons,Nat.mul_succ];have:(IC us).length=us.length:=bS _
  lia
theorem Wv{uss:List (List AV)}{us:List AV}{i:Nat}(h:uss[i]? = some us):EB (uss.take (i+1))=EB (uss.take i)++IC us:=by
 unfold EB;rw[List.take_add_one,h,List.map_append,List.flatten_append];simp
theorem RX{uss:List (List AV)}{n:Nat}(h:∀us∈uss,us.length<=12/\∀m∈us,FM.Fits m.2 n):∀b∈EB uss,1<=b/\b.natAbs<2^n:=fun b g=>by
 unfold EB at g;obtain⟨l,M,g⟩:=List.mem_flatten.mp g;obtain⟨us,I,rfl⟩:=aJ.mp M;obtain⟨m,hm,rfl⟩:=aJ.mp g;have:=m.2.den_nz;exact⟨by lia,((h us I).2 m hm).d⟩
def X1:Sp:=fun vs H Q _=>∃(C:Addr) (cs:List V) (uss:List (List AV)) (n:Nat),vs=[.ref C]/\Jk H C cs uss n/\n<=80/\∀H',AG H H'->Q (.int (Aq uss)) H'
def Ye:Sp:=fun vs H Q _=>∃(C:Addr) (cs:List V) (uss:List (List AV)) (n:Nat),vs=[.ref C]/\Jk H C cs uss n/\Q (.int (EC uss)) H
section
variable{P:Program}{w:World}{K:PySem.W.Frag}{mg:Str->Option Value}{base:Heap}{f g1:Addr}{fd gd1:FuncData}
theorem Mr:Ab ["change","bottoms","some"] ["change"] (AN Ep):=⟨rfl,rfl,rfl,by decide +kernel,rfl,by decide +kernel,by decide +kernel⟩
theorem MZ(F:Fn K mg "speeds_bottom" Ep ["change"] f fd)(Ao:Fn K mg "common_bottom" Bs ["bottoms"] g1 gd1)
 (Bi:AL P w K mg base AY 2 g1 gd1 ["bottoms"] Ld):AL P w K mg base AY 3 f fd ["change"] X1:=by
 have sc:=Mr;refine F.F.ok (k:=2) sc (fun vs H Q E h=>?_) (fun cdv A outer s H vs Q E hr h=>?_)
 .obtain⟨C,cs,uss,n,rfl,_⟩:=h
  rfl
 obtain⟨C,cs,uss,n,rfl,R,hn,q⟩:=h;have hcl:=R.cl;have hl4:=R.len;refine⟨_,(AD (AU (i:=1) sc.nd rfl (Or.inl rfl) (CA AB))
 (AD (BU aP rfl (Av (pv 0)) (An (i:=2) sc.nd rfl (Or.inl rfl))
  (AF (Bu (GN ai PySem.F.slot_list_extend PySem.F.type_list_extend O6 (pv 1) (AA (Jg [".0","powers","part"] 1 2 [none,none,none] (Av (pv 2)) (fun _ _ _ _ _=>BC) (fun _ _ _ _ _=>(Ag DD (pv 2) AE (fun _ _=>rfl)))) AB)))))
 (AF (Ac (AX Ao Bi hr rfl (AA (pv 1) AB)))))),?_⟩
 refine⟨BJ (show 0<=60 by decide),fun Z hZ=>?_⟩;have e1:=AK hZ (.lst []);have hZ1:upd H Z (.lst []) Z=some (.lst []):=AH;generalize upd H Z (.lst [])=H1 at e1 hZ1;refine⟨_,rfl,C,rfl,⟨_,AO.of (e1 _ _ R.at_)⟩,Bp (xs:=cs) (fun i σ H'=>∃r2,σ=[some (.ref C),some (.ref Z),r2]/\AG H H'/\H' Z=some (.lst ((EB (uss.take i)).map V.int))) ?_ ?_ ?_ ?_⟩
 .exact⟨_,rfl,e1,hZ1⟩
 .rintro i σ H' _ ⟨r2,rfl,e,_⟩;exact AO.of (e _ _ R.at_)
 .rintro i x σ H2 hx ⟨r2,rfl,Y,g⟩;have hi:i<uss.length:=by rw[<-hcl];exact(aB.mp hx).1
  have hu:uss[i]? = some uss[i]:=by simp[hi]
  obtain⟨a,xs,ha1,I,dx⟩:=IY R.du hu;obtain⟨u12,_⟩:=R.DK _ (aI hu);generalize uss[i]=us at hu dx u12;rw[hx]at ha1;cases ha1;have hxl:xs.length=us.length:=by rw[dx.len,List.length_map]
  refine⟨_,rfl,.inl ⟨rfl,_,AO.of g⟩,_,rfl,a,rfl,⟨_,AO.of (Y _ _ I)⟩,fun D hD=>Ey (n:=xs.length) (fun j ys H'=>AG H2 H'/\ys=(IC (us.take j)).map V.int) ⟨AK hD _,rfl⟩ ?_ ?_⟩
  .rintro j ys H3 hj ⟨U,rfl⟩ M;have E3:=Y.trans U;have hm:us[j]? = some (us[j]'(by lia)):=aF _;obtain⟨c,Pw,Fr,k1,k2,k3,k4⟩:=Gw dx hm;generalize us[j]'(by lia)=m at hm k3 k4;refine⟨⟨xs,.ref c,AO.of (E3 _ _ I),k1⟩,Bk (n:=60) (by unfold IC;simp;lia) (by decide),fun x H' y=>?_⟩;obtain⟨rfl,y⟩:=y;have hx:=y xs (AO.of (E3 _ _ I));rw[k1]at hx;cases hx;refine⟨c,_,_,rfl,Af.of (E3 _ _ k2),?_⟩;unfold Bj;refine BA ⟨_,rfl,_,_,_,_,rfl,rfl,Af.of (E3 _ _ k4),rfl,M,A8 hj ⟨fun b o z=>?_,?_⟩⟩
   .rw[AI (AM z hD)];exact U _ _ z
   .rw[List.take_add_one,hm,IC,IC,List.map_append,List.map_append]
    rfl
  .rintro ys H3 ⟨U,rfl⟩ M;have E3:=Y.trans U;rw[hxl,List.take_length]at M;refine⟨⟨xs,AO.of (E3 _ _ I),Nat.le_refl _⟩,Z,D,_,_,rfl,rfl,U _ _ g,M,?_,_,rfl,fun b o z=>?_,?_⟩
   .have:=M7 (uss:=uss.take i) fun y hy=>(R.DK y (bg hy)).1;rw[List.length_take,Nat.min_eq_left (by lia)]at this;refine BJ ?_;rw[List.length_map,List.length_map,show(IC us).length=us.length from bS _]
    lia
   .rw[AI (AM z hZ)];exact U _ _ (Y _ _ z)
   .rw[AH,Wv hu,List.map_append]
 .rintro σ H2 ⟨r2,rfl,Y,g⟩;rw[hcl,List.take_length]at g;refine⟨_,rfl,Z,_,n,rfl,g,RX R.DK,?_,q H2 Y⟩;have h1:=M7 (uss:=uss) fun y hy=>(R.DK y hy).1;have h2:(EB uss).length<=48:=by lia
  exact aU (bV hn h2) (by decide)
theorem MH:Ab ["change","greatest","some","powers","part"] ["change"] (AN EO):=⟨rfl,rfl,rfl,by decide +kernel,rfl,by decide +kernel,by decide +kernel⟩
theorem MM(F:Fn K mg "greatest_power" EO ["change"] f fd)(U8:mg "max" = none)(Cr:mg "sum" = none):AL P w K mg base AY 1 f fd ["change"] Ye:=by
 have sc:=MH;refine F.F.ok (k:=0) sc (fun vs H Q E h=>?_) (fun cdv A outer s H vs Q E hr h=>?_)
 .obtain⟨C,cs,uss,n,rfl,_⟩:=h
  rfl
 obtain⟨C,cs,uss,n,rfl,ch,q⟩:=h;have R:=ch.cl;refine⟨_,(AD (AU (i:=1) sc.nd rfl (Or.inl rfl) AE)
 (AD (BU aP rfl (Av (pv 0)) (An (i:=2) sc.nd rfl (Or.inl rfl))
  (AF (BU aP rfl (Av (pv 2)) (GY rfl (Bg (An (i:=3) sc.nd rfl (Or.inl rfl)) (Bg (An (i:=4) sc.nd rfl (Or.inl rfl)) FK)))
   (AF (AU (i:=1) sc.nd rfl (Or.inl rfl) (Ad (XJ rfl) rfl U8 PyProof.Rows.boot_max (AA (pv 1) (AA (Ad (Jj rfl) rfl Cr bT (AA (pv 3) AB)) AB))))))))
 (AF (Ac (pv 1))))),?_⟩
 refine⟨_,rfl,C,rfl,⟨_,AO.of ch.at_⟩,Bp (xs:=cs) (fun i σ H'=>∃(Z I g:Option V),σ=[some (.ref C),some (.int (EC (uss.take i))),Z,I,g]/\H=H') ?_ ?_ ?_ ?_⟩
 .exact⟨_,_,_,rfl,rfl⟩
 .rintro i σ H' _ ⟨Z,I,g,rfl,rfl⟩;exact AO.of ch.at_
 .rintro i x σ H2 hx ⟨Z,I,g,rfl,rfl⟩;have hi:i<uss.length:=by rw[<-R];exact(aB.mp hx).1
  have hu:uss[i]? = some uss[i]:=by simp[hi]
  obtain⟨a,xs,Y,U,dx⟩:=IY ch.du hu;generalize uss[i]=us at hu dx;rw[hx]at Y;cases Y;have M:xs.length=us.length:=by rw[dx.len,List.length_map]
  refine⟨_,rfl,a,rfl,⟨_,AO.of U⟩,Bp (xs:=xs) (fun j σ H'=>∃(I g:Option V),σ=[some (.ref C),some (.int (G5 (EC (uss.take i)) (us.take j))),some (.ref a),I,g]/\H=H') ?_ ?_ ?_ ?_⟩
  .exact⟨_,_,rfl,rfl⟩
  .rintro j σ H' _ ⟨I,g,rfl,rfl⟩;exact AO.of U
  .rintro j y σ H' hy ⟨I,g,rfl,rfl⟩;have hj:j<us.length:=by rw[<-M];exact(aB.mp hy).1
   have hm:us[j]? = some us[j]:=by simp[hj]
   obtain⟨c,Pw,Fr,k1,k2,k3,k4⟩:=Gw dx hm;generalize us[j]=m at hm k3 k4;rw[hy]at k1;cases k1;refine⟨c,_,rfl,Af.of k2,rfl,_,_,rfl,_,_,rfl,rfl,?_⟩;refine⟨_,rfl,_,rfl,Pw,m.1,rfl,Af.of k3,_,_,rfl,some (.ref Pw),some (.ref Fr),?_,rfl⟩;rw[List.take_add_one,hm];show _=[some (V.ref C),some (V.int (G5 (EC (uss.take i)) (us.take j++[m]))),some (V.ref a),some (V.ref Pw),some (V.ref Fr)];unfold G5;rw[List.foldl_append]
   rfl
  .rintro σ H' ⟨I,g,rfl,rfl⟩;refine⟨some (.ref a),I,g,?_,rfl⟩;rw[M,List.take_length,List.take_add_one,hu];show _=[some (V.ref C),some (V.int (EC (uss.take i++[us]))),some (V.ref a),I,g];unfold EC;rw[List.foldl_append]
   rfl
 .rintro σ H' ⟨Z,I,g,rfl,rfl⟩;rw[R,List.take_length];exact⟨_,rfl,q⟩
end
theorem Mq{c:Addr}{Y:List V}{H:Hp}(I:H c=some (.lst Y)):∀ {us:List AV} {zs:List V},Am H (us.map DR) zs->AQ c H (us.map DR) zs
 |[],zs,h=>by
  have:=h.len;rw[List.map_nil,List.length_nil]at this;rw[List.eq_nil_of_length_eq_zero this];exact .nil
 |m::us,zs,h=>by
  obtain⟨x,t,rfl,h1,h2⟩:=Am.UN h;obtain⟨a,P,F,rfl,U,R,M⟩:=DU.mono h1;have ne:∀ {p:Addr} {xs:List V},H p=some (.tup xs)->p≠c:=fun hp z=>by subst z;rw[hp]at I;cases I
  have g:∀ps:List Int,AQ c H (ps.map .int) (ps.map V.int):=fun ps=>by
   induction ps with
   |nil=>exact .nil
   |cons p ps Z=>exact .cons .int Z
  exact .cons (.tup (ne U) U (.cons (.tup (ne R) R (g _)) (.cons (.tup (ne M) M (.cons .int (.cons .int .nil))) .nil))) (Mq I h2)
theorem Zl{H:Hp}{P:Addr}{ps:List Int}(h:H P=some (.tup (ps.map V.int))):DU H (.tuple (ps.map .int)) (.ref P):=by
 refine .tup h ?_;clear h
 induction ps with
 |nil=>exact .nil
 |cons p ps g=>exact .cons .int g
def Gf(B G:Int)(gr:Nat)(m:AV):AV:=(m.1,((m.2.num*B.fdiv (m.2.den:Int)*G^(gr-(A7 m).toNat):Int):Rat))
def Bh(B G:Int)(gr:Nat)(us:List AV):List AV:=us.map (Gf B G gr)
def cM:Sp:=fun vs H Q _=>∃(a:Addr) (xs:List V) (us:List AV) (B G:Int) (g n b k:Nat),vs=[.ref a,.int B,.int G,.int (g:Nat)]/\H a=some (.lst xs)/\Am H (us.map DR) xs/\us.length<=12/\g<=3/\(∀m∈us,FM.Fits m.2 n/\0<=A7 m/\A7 m<=g) /\
 B.natAbs<2^b/\G.natAbs<2^k/\n+b+3*k<=3900/\∀Z H' I,AG H H'->H Z=none->H' Z=some (.lst I)->Am H' ((Bh B G g us).map DR) I->Q (.ref Z) H'
section
variable{P:Program}{w:World}{K:PySem.W.Frag}{mg:Str->Option Value}{base:Heap}{f g1:Addr}{fd gd1:FuncData}
theorem QG:Ab ["some","bottom","grain","greatest","terms","powers","part","top"] ["some","bottom","grain","greatest"] (AN IZ):=⟨rfl,rfl,rfl,by decide +kernel,rfl,by decide +kernel,by decide +kernel⟩
theorem P9(F:Fn K mg "whole_poly" IZ ["some","bottom","grain","greatest"] f fd)(CQ:Fn K mg "power_of" Gj ["base","power"] g1 gd1)
 (FJ:AL P w K mg base AY 1 g1 gd1 ["base","power"] QX)(Cr:mg "sum" = none):AL P w K mg base AY 2 f fd ["some","bottom","grain","greatest"] cM:=by
 have sc:=QG;refine F.F.ok (k:=1) sc (fun vs H Q E h=>?_) (fun cdv A outer s H vs Q E hr h=>?_)
 .obtain⟨a,xs,us,B,G,g,n,b,k,rfl,_⟩:=h
  rfl
 obtain⟨a,xs,us,B,G,g,n,b,k,rfl,ha,dx,h12,hgr,hus,hB,hG,hsz,q⟩:=h;have Y:xs.length=us.length:=by rw[dx.len,List.length_map]
 refine⟨_,(AD (AU (i:=4) sc.nd rfl (Or.inl rfl) (CA AB))
 (AD (BU aP rfl (Av (pv 0)) (GY rfl (Bg (An (i:=5) sc.nd rfl (Or.inl rfl)) (Bg (An (i:=6) sc.nd rfl (Or.inl rfl)) FK)))
  (AD (AU (i:=7) sc.nd rfl (Or.inl rfl) (Aa A9 (Aa A9 (Ag Ar (pv 6) AE (fun _ _=>rfl)) (Aa DL (pv 1) (Ag Ar (pv 6) AE (fun _ _=>rfl)))) (AX CQ FJ hr rfl (AA (pv 2) (AA (Aa FW (pv 3) (Ad (Jj rfl) rfl Cr bT (AA (pv 5) AB))) AB)))))
  (AF (Bu (GN ai ax ay C6 (pv 4) (AA (EE (AA (pv 5) (AA (EE (AA (pv 7) (AA AE AB))) AB))) AB))))))
 (AF (Ac (pv 4))))),?_⟩
 refine⟨BJ (show 0<=60 by decide),fun Z hZ=>?_⟩;have e1:=AK hZ (.lst []);have hZ1:upd H Z (.lst []) Z=some (.lst []):=AH;generalize upd H Z (.lst [])=H1 at e1 hZ1;refine⟨_,rfl,a,rfl,⟨_,AO.of (e1 _ _ ha)⟩,Bp (xs:=xs) (fun i σ H'=>∃(r5 r6 r7:Option V) (I:List V),σ=[some (.ref a),some (.int B),some (.int G),some (.int (g:Nat)),some (.ref Z),r5,r6,r7]/\AG H H'/\H' Z=some (.lst I)/\Am H' ((Bh B G g (us.take i)).map DR) I) ?_ ?_ ?_ ?_⟩
 .exact⟨_,_,_,[],rfl,e1,hZ1,.nil⟩
 .rintro i σ H' _ ⟨r5,r6,r7,I,rfl,e,_⟩;exact AO.of (e _ _ ha)
 .rintro i x σ H2 hx ⟨r5,r6,r7,I,rfl,R,M,dz⟩;have hi:i<us.length:=by rw[<-Y];exact(aB.mp hx).1
  have hm:us[i]? = some us[i]:=by simp[hi]
  obtain⟨c,Pw,Fr,k1,k2,k3,k4⟩:=Gw dx hm;obtain⟨fm,s0,s1⟩:=hus _ (aI hm);generalize us[i]=m at hm k3 k4 fm s0 s1;rw[hx]at k1;cases k1;have hd:=m.2.den_nz;have hzl:I.length=i:=by rw[dz.len,List.length_map,Bh,List.length_map,List.length_take];lia
  have n2:(B.fdiv (m.2.den:Int)).natAbs<2^b:=aL (FM.A3 _ _) hB;have n3:=FM.Ax fm.1 n2;have n4:(G^(g-(A7 m).toNat)).natAbs<2^(k*3+1):=CG (p:=3) hG (by lia);refine⟨c,_,rfl,Af.of (R _ _ k2),rfl,_,_,rfl,_,_,rfl,rfl,?_⟩;refine⟨_,rfl,_,_,_,_,rfl,rfl,Af.of (R _ _ k4),rfl,_,rfl,_,rfl,_,_,_,_,rfl,rfl,Af.of (R _ _ k4),rfl,_,_,rfl,rfl,⟨by lia,n,by lia,fm.d⟩,_,_,rfl,rfl,DP fm.1 n2 (by lia),_,rfl,_,rfl,_,rfl,Pw,m.1,rfl,Af.of (R _ _ k3),_,_,rfl,rfl,G,g-(A7 m).toNat,k,?_,hG,?_,_,_,rfl,rfl,DP n3 n4 (by lia),?_⟩
  .show [V.int G,V.int ((g:Int)-m.1.sum)]=[V.int G,V.int ((g-(A7 m).toNat:Nat):Int)]
   congr 3
   unfold A7 at s0 s1 ⊢
   lia
  .have:k*(g-(A7 m).toNat)<=k*3:=aV k (by lia)
   lia
  refine⟨_,rfl,.inl ⟨rfl,_,AO.of M⟩,_,rfl,_,rfl,BJ (show 2<=60 by decide),fun t1 ht1=>?_⟩;generalize hH:upd _ t1 _=H3;obtain⟨e3,d3,_⟩:=YS (ds:=[.int (m.2.num*B.fdiv (m.2.den:Int)*G^(g-(A7 m).toNat)),.int 1]) hH ht1 (.cons .int (.cons .int .nil));clear hH;refine⟨BJ (show 2<=60 by decide),fun t2 ht2=>?_⟩;generalize hH:upd _ t2 _=H4;obtain⟨e4,d4,_⟩:=YS hH ht2 (.cons ((Zl (R _ _ k3)).same e3) (.cons d3 .nil));clear hH;have U:=e3.trans e4;have hZ4:=U _ _ M;have d4:DU H4 (DR (Gf B G g m)) (.ref t2):=d4;refine⟨Z,I,_,rfl,rfl,hZ4,Bk (n:=60) (by lia) (by decide),?_⟩;refine⟨_,_,_,I++[.ref t2],rfl,fun b o zz=>?_,AH,?_⟩
  .rw[AI (AM zz hZ)];exact U _ _ (R _ _ zz)
  .rw[List.take_add_one,hm];have dn:Am H4 ((Bh B G g (us.take i++[m])).map DR) (I++[.ref t2]):=by
    unfold Bh;rw[List.map_append,List.map_append];exact(dz.same U).app (.cons d4 .nil)
   exact B6 (.but .upd (Mq hZ4 dn))
 .rintro σ H2 ⟨r5,r6,r7,I,rfl,R,M,dz⟩;rw[Y,List.take_length]at dz;exact⟨_,rfl,q Z H2 I R hZ M dz⟩
end
theorem Cy{H H':Hp}{a:Addr}(e:AG H H')(h:H' a=none):H a=none:=by
 cases g:H a with
 |none=>rfl
 |some o=>have:=e _ _ g;rw[h]at this;cases this
theorem Uc:∀(us:List AV) (g:Int),g<=G5 g us/\(∀m∈us,A7 m<=G5 g us)/\∀c,g<=c->(∀m∈us,A7 m<=c)->G5 g us<=c
 |[],g=>⟨Int.le_refl _,fun _ z=>(ab z).elim,fun _ h _=>h⟩
 |m::us,g=>by
  obtain⟨M,U,R⟩:=Uc us (if A7 m > g then A7 m else g);have e:G5 g (m::us)=G5 (if A7 m > g then A7 m else g) us:=rfl;rw[e];have s1:g<=(if A7 m > g then A7 m else g):=by split<;>lia
  have s2:A7 m<=(if A7 m > g then A7 m else g):=by split<;>lia
  refine⟨Int.le_trans s1 M,fun y I=>?_,fun c Y hm=>?_⟩
  .rcases aY.mp I with rfl|I
   .exact Int.le_trans s2 M
   .exact U y I
  .refine R c ?_ fun y I=>hm y (aM _ I);have:=hm m aR;split<;>lia
theorem PD:∀(uss:List (List AV)) (g:Int),g<=uss.foldl G5 g/\(∀us∈uss,∀m∈us,A7 m<=uss.foldl G5 g)/\∀c,g<=c->(∀us∈uss,∀m∈us,A7 m<=c)->uss.foldl G5 g<=c
 |[],g=>⟨Int.le_refl _,fun _ z=>(ab z).elim,fun _ h _=>h⟩
 |us::uss,g=>by
  obtain⟨a1,a2,a3⟩:=Uc us g;obtain⟨M,Y,U⟩:=PD uss (G5 g us);rw[List.foldl_cons];refine⟨Int.le_trans a1 M,fun y I m hm=>?_,fun c R hm=>?_⟩
  .rcases aY.mp I with rfl|I
   .exact Int.le_trans (a2 m hm) M
   .exact Y y I m hm
  .exact U c (a3 c R (hm us aR)) fun y I=>hm y (aM _ I)
theorem Fv{uss:List (List AV)}{c:Int}(g:1<=c)(h:∀us∈uss,∀m∈us,A7 m<=c):1<=EC uss/\EC uss<=c/\∀us∈uss,∀m∈us,A7 m<=EC uss:=by
 obtain⟨R,M,I⟩:=PD uss 1;exact⟨R,I c g h,M⟩
def Ae(uss:List (List AV)):Nat:=(EC uss).toNat
def BZ(G:Int)(uss:List (List AV)):List (List AV):=uss.map (Bh (Aq uss) G (Ae uss))
def Jb(uss:List (List AV))(G:Int):Int:=Aq uss*G^(Ae uss-1)
theorem EN{uss:List (List AV)}{n:Nat}(M:uss.length<=4)(h:∀us∈uss,us.length<=12/\∀m∈us,FM.Fits m.2 n):1<=Aq uss/\(Aq uss).natAbs<2^(1+n*48)/\∀us∈uss,∀m∈us,(m.2.den:Int) ∣ Aq uss:=by
 obtain⟨a,b,c⟩:=FI (RX h);have R:=M7 (uss:=uss) fun y I=>(h y I).1;refine⟨a,FM.A6 b ?_,fun us g m hm=>c _ ?_⟩
 .have:=aV n (show(EB uss).length<=48 by lia)
  lia
 .unfold EB;exact List.mem_flatten.mpr ⟨IC us,List.mem_map.mpr ⟨us,g,rfl⟩,List.mem_map.mpr ⟨m,hm,rfl⟩⟩
def X8:Sp:=fun vs H Q _=>∃(C:Addr) (cs:List V) (uss:List (List AV)) (G:Int) (k:Nat),vs=[.ref C,.int G]/\Jk H C cs uss 4/\(∀us∈uss,∀m∈us,0<=A7 m/\A7 m<=3)/\G.natAbs<2^k/\k<=1200 /\
 ∀D H' g,AG H H'->H D=none->H' D=some (.lst g)->Am H' ((BZ G uss).map CP) g->Q (.ref D) H'
def Qx:Sp:=fun vs H Q _=>∃(C:Addr) (cs:List V) (uss:List (List AV)) (G:Int) (k:Nat),vs=[.ref C,.int G]/\Jk H C cs uss 4/\(∀us∈uss,∀m∈us,0<=A7 m/\A7 m<=3)/\G.natAbs<2^k/\k<=1200/\∀H',AG H H'->Q (.int (Jb uss G)) H'
section
variable{P:Program}{w:World}{K:PySem.W.Frag}{mg:Str->Option Value}{base:Heap}{f g1 g2 g3:Addr}{fd gd1 gd2 gd3:FuncData}
theorem Nl:Ab ["change","grain","bottom","greatest"] ["change","grain"] (AN FG):=⟨rfl,rfl,rfl,by decide +kernel,rfl,by decide +kernel,by decide +kernel⟩
theorem N0(F:Fn K mg "whole_change" FG ["change","grain"] f fd)(CH:Fn K mg "speeds_bottom" Ep ["change"] g1 gd1)(B7:Fn K mg "greatest_power" EO ["change"] g2 gd2)(GX:Fn K mg "whole_poly" IZ ["some","bottom","grain","greatest"] g3 gd3)
 (GO:AL P w K mg base AY 3 g1 gd1 ["change"] X1)(Fy:AL P w K mg base AY 3 g2 gd2 ["change"] Ye)(Qz:AL P w K mg base AY 3 g3 gd3 ["some","bottom","grain","greatest"] cM):AL P w K mg base AY 4 f fd ["change","grain"] X8:=by
 have sc:=Nl;refine F.F.ok (k:=3) sc (fun vs H Q E h=>?_) (fun cdv A outer s H vs Q E hr h=>?_)
 .obtain⟨C,cs,uss,G,k,rfl,_⟩:=h
  rfl
 obtain⟨C,cs,uss,G,k,rfl,I,hs,hG,hk,q⟩:=h;obtain⟨g1',g3',g2'⟩:=Fv (c:=3) (by decide) fun us hus m hm=>(hs us hus m hm).2;obtain⟨b1,b2,_⟩:=EN I.len I.DK;have Y:EC uss=(Ae uss:Int):=by unfold Ae;lia
 have hl4:=I.len;refine⟨_,(AD (AU (i:=2) sc.nd rfl (Or.inr rfl) (AX CH GO hr rfl (AA (pv 0) AB)))
 (AD (AU (i:=3) sc.nd rfl (Or.inr rfl) (AX B7 Fy hr rfl (AA (pv 0) AB)))
 (AF (Ac (Bf [".0","some","bottom","grain","greatest"] 1 [none,none,some 2,some 1,some 3] (Av (pv 0)) (fun _ _ _ _ _=>BC) (fun _ _ _ _ _=>(AX GX Qz hr rfl (AA (pv 1) (AA (pv 2) (AA (pv 3) (AA (pv 4) AB))))))))))),?_⟩
 refine⟨_,rfl,C,cs,uss,4,rfl,I,by decide,fun H1 e1=>?_⟩;refine⟨_,rfl,C,cs,uss,4,rfl,I.same e1,?_⟩;rw[Y];have I:=I.same e1;have hcl:=I.cl;refine⟨_,rfl,C,rfl,⟨_,AO.of I.at_⟩,fun D hD=>Ba (n:=cs.length) (fun i ys H'=>AG H1 H'/\ys.length=i/\AQ D H' (((uss.take i).map (Bh (Aq uss) G (Ae uss))).map CP) ys) ⟨AK hD _,rfl,.nil⟩ ?_ ?_⟩
 .rintro i ys H2 hi ⟨R,U,dy⟩ M;have hu:uss[i]? = some (uss[i]'(by lia)):=aF _;obtain⟨a,xs,k1,k2,k3⟩:=IY I.du hu;have g:=aI hu;generalize uss[i]'(by lia)=us at hu k3 g;obtain⟨u12,uf⟩:=I.DK us g;refine⟨⟨cs,.ref a,AO.of (R _ _ I.at_),k1⟩,Bk (n:=60) (by lia) (by decide),fun x H' y=>?_⟩;obtain⟨rfl,y⟩:=y;have hx:=y cs (AO.of (R _ _ I.at_));rw[k1]at hx;cases hx;unfold Bj;refine BA ⟨_,rfl,_,rfl,_,rfl,_,rfl,a,xs,us,Aq uss,G,Ae uss,4,1+4*48,k,rfl,R _ _ k2,k3.same R,u12,by lia,fun m hm=>⟨uf m hm,(hs us g m hm).1,by rw[<-Y];exact g2' us g m hm⟩,b2,hG,by lia,fun Z H3 zs e3 hZ hZ3 dz=>?_⟩;have hD3:=e3 _ _ M;have nZ:Z≠D:=fun z=>by subst z;rw[M]at hZ;cases hZ
  refine⟨hD3,A8 hi ⟨fun b o z=>?_,by simp[U],?_⟩⟩
  .rw[AI (AM z hD)];exact e3 _ _ (R _ _ z)
  .rw[List.take_add_one,hu,List.map_append,List.map_append];exact .but .upd ((dy.same e3).app (.cons (.lst nZ hZ3 (Mq hD3 dz)) .nil))
 .rintro ys H2 ⟨R,U,dy⟩ M;rw[hcl,List.take_length]at dy;exact⟨⟨cs,AO.of (R _ _ I.at_),Nat.le_refl _⟩,q D H2 ys (e1.trans R) (Cy e1 hD) M (B6 dy)⟩
theorem Uv:Ab ["change","grain"] ["change","grain"] (AN JX):=⟨rfl,rfl,rfl,by decide +kernel,rfl,by decide +kernel,by decide +kernel⟩
theorem VU(F:Fn K mg "pace_of" JX ["change","grain"] f fd)(CH:Fn K mg "speeds_bottom" Ep ["change"] g1 gd1)(B7:Fn K mg "greatest_power" EO ["change"] g2 gd2)(CQ:Fn K mg "power_of" Gj ["base","power"] g3 gd3)
 (GO:AL P w K mg base AY 3 g1 gd1 ["change"] X1)(Fy:AL P w K mg base AY 3 g2 gd2 ["change"] Ye)(FJ:AL P w K mg base AY 3 g3 gd3 ["base","power"] QX):AL P w K mg base AY 4 f fd ["change","grain"] Qx:=by
 have sc:=Uv;refine F.F.ok (k:=3) sc (fun vs H Q E h=>?_) (fun cdv A outer s H vs Q E M h=>?_)
 .obtain⟨C,cs,uss,G,k,rfl,_⟩:=h
  rfl
 obtain⟨C,cs,uss,G,k,rfl,g,Y,R,hk,q⟩:=h;obtain⟨g1',g3',g2'⟩:=Fv (c:=3) (by decide) fun us I m hm=>(Y us I m hm).2;obtain⟨b1,b2,_⟩:=EN g.len g.DK;have Z:EC uss=(Ae uss:Int):=by unfold Ae;lia
 have n4:(G^(Ae uss-1)).natAbs<2^(k*3+1):=CG (p:=3) R (by lia);refine⟨_,(AF (Ac (Aa A9 (AX CH GO M rfl (AA (pv 0) AB)) (AX CQ FJ M rfl (AA (pv 1) (AA (Aa FW (AX B7 Fy M rfl (AA (pv 0) AB)) AE) AB)))))),?_⟩;refine⟨_,rfl,C,cs,uss,4,rfl,g,by decide,fun H1 U=>?_⟩;refine⟨_,rfl,_,rfl,C,cs,uss,4,rfl,g.same U,_,_,rfl,rfl,G,Ae uss-1,k,?_,R,?_,_,_,rfl,rfl,DP b2 n4 (by lia),?_⟩
 .show [V.int G,V.int (EC uss-1)]=[V.int G,V.int ((Ae uss-1:Nat):Int)]
  congr 3
  lia
 .have:k*(Ae uss-1)<=k*3:=aV k (by lia)
  lia
 .exact q H1 U
end
def BR(ps:List Int)(k:Nat):List Int:=ps.take k++[ps.getD k 0-1]++ps.drop (k+1)
def Qq:Sp:=fun vs H Q _=>∃(P:Addr) (ps:List Int) (k:Nat),vs=[.ref P,.int k]/\H P=some (.tup (ps.map V.int))/\k<ps.length/\ps.length<=4/\∀(c:Addr) H',AG H H'->H' c=some (.tup ((BR ps k).map V.int))->Q (.ref c) H'
theorem Z2{ps:List Int}{k:Nat}(h:k<ps.length):CB (ps.map V.int) none (some (k:Int))++[V.int (ps.getD k 0-1)]++CB (ps.map V.int) (some ((k:Int)+1)) none=(BR ps k).map V.int:=by
 unfold CB BR;rw[show((k:Int)+1)=((k+1:Nat):Int) by lia];simp only[HT.MY,HT.J2,List.length_map,List.drop_zero,Nat.sub_zero,List.map_append,List.map_take,List.map_drop,List.map_cons,List.map_nil];rw[Nat.min_eq_left (by lia),Nat.min_eq_left (by lia)]
 congr 1
 rw[List.take_of_length_le (by rw[List.length_drop,List.length_map];exact aD _)]
theorem iV{n:Nat}{e:Int}(h0:0<=e)(h1:e<(n:Int)):¬(HT.BH n 0 none=0/\HT.BH n n (some e)=n):=by
 rintro⟨_,h⟩;rw[show e=((e.toNat:Nat):Int) by lia,HT.J2]at h
 lia
theorem iO{n:Nat}{e:Int}{hi:Option Int}(h0:0<=e)(h1:1<=n):¬(HT.BH n 0 (some (e+1))=0/\HT.BH n n hi=n):=by
 rintro⟨h,_⟩;rw[show e+1=(((e+1).toNat:Nat):Int) by lia,HT.J2]at h
 lia
theorem int_at{ps:List Int}{k:Nat}(h:k<ps.length):EI (ps.map V.int) (k:Int)=some (.int (ps.getD k 0)):=by
 have:=IV (xs:=ps.map V.int) (j:=k) (v:=.int (ps.getD k 0)) (by rw[List.getElem?_map,List.getElem?_eq_getElem h,List.getD_eq_getElem?_getD,List.getElem?_eq_getElem h];rfl);exact this
def fu:List Int->Nat
 |[]=>0
 |p::ps=>if p=0 then fu ps+1 else 0
theorem HR:∀ {ps:List Int},ps.sum≠0->fu ps<ps.length/\ps.getD (fu ps) 0≠0
 |[],h=>absurd rfl h
 |p::ps,h=>by
  unfold fu;by_cases z:p=0
  .subst z;obtain⟨I,g⟩:=HR (ps:=ps) (by simpa using h);rw[if_pos rfl];exact⟨by rw[List.length_cons];lia,by simpa using g⟩
  .rw[if_neg z];exact⟨by simp,by simpa using z⟩
theorem Rj:∀ {ps:List Int} {k:Nat},k<fu ps->ps.getD k 0=0
 |[],k,h=>by simp[fu]at h
 |p::ps,k,h=>by
  unfold fu at h;by_cases z:p=0
  .rw[if_pos z]at h;cases k with
   |zero=>simpa using z
   |succ k=>simpa using Rj (ps:=ps) (k:=k) (by lia)
  .rw[if_neg z]at h;lia
theorem sum_set:∀(ps:List Int) (k:Nat),k<ps.length->(BR ps k).sum=ps.sum-1
 |[],k,h=>by simp at h
 |p::ps,0,_=>by simp[BR];lia
 |p::ps,k+1,h=>by
  have:=sum_set ps k (by simpa using h);unfold BR at this ⊢;simp at this ⊢
  lia
theorem Yp{ps:List Int}{k:Nat}(h:k<ps.length):(BR ps k).length=ps.length:=by unfold BR;simp;lia
structure CJ(nn:Nat)(ps:List Int):Prop where
 len:ps.length=nn
 nn:∀p∈ps,0<=p
 s3:ps.sum<=3
theorem Cz:∀ {ps:List Int},(∀p∈ps,0<=p)->0<=ps.sum
 |[],_=>by simp
 |p::ps,h=>by
  have:=Cz (ps:=ps) fun q g=>h q (.tail _ g);have:=h p (.head _);simp;lia
theorem CJ.low{nn:Nat}{ps:List Int}(h:CJ nn ps)(M:ps.sum≠0):CJ nn (BR ps (fu ps)):=by
 obtain⟨I,R⟩:=HR M;refine⟨(Yp I).trans h.len,fun p g=>?_,by rw[sum_set _ _ I];have:=h.s3;lia⟩;unfold BR at g;rcases aS.mp g with g|g
 .rcases aS.mp g with g|g
  .exact h.nn p (bg g)
  .rw[List.mem_singleton.mp g];have:=h.nn (ps.getD (fu ps) 0) (by rw[List.getD_eq_getElem?_getD,List.getElem?_eq_getElem I];exact au I)
   lia
 .exact h.nn p (bh g)
def Qj:Nat->Nat->List (List Int)
 |0,_=>[[]]
 |n+1,s=>(List.range (s+1)).flatMap fun p=>(Qj n (s-p)).map fun r=>((p:Nat):Int)::r
theorem R5:∀ {n s:Nat} {ps:List Int},ps.length=n->(∀p∈ps,0<=p)->ps.sum<=(s:Int)->ps∈Qj n s
 |0,s,ps,h,_,_=>by rw[List.eq_nil_of_length_eq_zero h];exact .head _
 |n+1,s,[],h,_,_=>by simp at h
 |n+1,s,p::ps,h,h0,I=>by
  have a:=h0 p (.head _);have b:=Cz fun q g=>h0 q (.tail _ g);rw[List.sum_cons]at I;unfold Qj;refine List.mem_flatMap.mpr ⟨p.toNat,List.mem_range.mpr (by lia),List.mem_map.mpr ⟨ps,R5 (by simpa using h) (fun q g=>h0 q (.tail _ g)) (by lia),?_⟩⟩;rw[Int.toNat_of_nonneg a]
theorem XM{α:Type}[DecidableEq α]:∀ {ks l:List α},ks.Nodup->(∀p∈ks,p∈l)->ks.length<=l.length
 |[],_,_,_=>ah _
 |k::ks,l,nd,h=>by
  obtain⟨R,M⟩:=bx.mp nd;have I:=h k (.head _);have:=XM (l:=l.erase k) M fun p g=>(List.mem_erase_of_ne (fun z=>by subst z;exact R g)).mpr (h p (.tail _ g));rw[List.length_erase_of_mem I]at this;have:=List.length_pos_of_mem I;rw[List.length_cons];lia
theorem Ro{nn:Nat}(hn:nn<=4){ks:List (List Int)}(nd:ks.Nodup)(h:∀p∈ks,CJ nn p):ks.length<=35:=by
 have M:ks.length<=(Qj nn 3).length:=XM nd fun p g=>R5 (h p g).len (h p g).nn (h p g).s3;have I:(Qj nn 3).length<=35:=by
  match nn,hn with
  |0,_=>decide
  |1,_=>decide
  |2,_=>decide
  |3,_=>decide
  |4,_=>decide
 lia
structure Ord(uss:List (List AV))(nn:Nat)(os:List (List Int)):Prop where
 nd:os.Nodup
 ok:∀p∈os,CJ nn p
 has:∀us∈uss,∀m∈us,m.1∈os
 low:∀p∈os,p.sum≠0->BR p (fu p)∈os
 asc:os.Pairwise fun p q=>p.sum<=q.sum
def YN:Sp:=fun vs H Q _=>∃(P:Addr) (ps:List Int),vs=[.ref P]/\H P=some (.tup (ps.map V.int))/\ps.sum≠0/\Q (.int (fu ps)) H
def fF:Sp:=fun vs H Q _=>∃(C:Addr) (cs:List V) (uss:List (List AV)) (nn:Nat),vs=[.ref C]/\H C=some (.lst cs)/\Am H (uss.map CP) cs/\(∀us∈uss,∀m∈us,CJ nn m.1)/\nn<=4 /\
 ∀(D:Addr) H' (L:List (List Int×Addr)),AG H H'->H D=none->H' D=some (.lst (L.map fun l=>V.ref l.2))->Ord uss nn (L.map (·.1))->(∀l∈L,H' l.2=some (.tup (l.1.map V.int)))->Q (.ref D) H'
theorem X0{a b:List Int}(h:a.map (Sum.inl (β:=Str))=b.map Sum.inl):a=b:=(List.map_inj_right (fun x y e=>by injection e)).mp h
theorem IX(ps:List Int):(ps.map (Sum.inl (β:=Str))).map kV=ps.map V.int:=by rw[List.map_map];rfl
section
variable{P:Program}{w:World}{K:PySem.W.Frag}{mg:Str->Option Value}{base:Heap}{f:Addr}{fd:FuncData}
theorem Sw:Ab ["powers","k"] ["powers","k"] (AN Hv):=⟨rfl,rfl,rfl,by decide +kernel,rfl,by decide +kernel,by decide +kernel⟩
theorem TC(F:Fn K mg "one_less" Hv ["powers","k"] f fd):AL P w K mg base AY 1 f fd ["powers","k"] Qq:=by
 have sc:=Sw;refine F.F.ok (k:=0) sc (fun vs H Q E h=>?_) (fun cdv A outer s H vs Q E hr h=>?_)
 .obtain⟨P,ps,k,rfl,_⟩:=h
  rfl
 obtain⟨P,ps,k,rfl,Y,hk,h4,q⟩:=h;have hl:(ps.map V.int).length=ps.length:=bS _;refine⟨_,(AF (Ac (Aa Oi (Aa Oi (JM Wl (pv 0) KA (J4 (pv 1))) (EE (AA (Aa FW (Ag Ar (pv 0) (pv 1) (fun _ _=>rfl)) AE) AB))) (JM Wl (pv 0) (J4 (Aa B2 (pv 1) AE)) KA)))),?_⟩;refine⟨_,rfl,_,rfl,_,rfl,P,_,rfl,Af.of Y,iV (by lia) (by lia),fun U g=>?_⟩;have e1:=AK g (.tup (CB (ps.map V.int) none (some (k:Int))));have h1:upd H U (.tup (CB (ps.map V.int) none (some (k:Int)))) U=some (.tup (CB (ps.map V.int) none (some (k:Int)))):=AH;generalize upd H U (.tup (CB (ps.map V.int) none (some (k:Int))))=H1 at e1 h1;refine⟨_,rfl,_,rfl,_,_,_,_,rfl,rfl,Af.of (e1 _ _ Y),int_at hk,_,_,rfl,rfl,BJ (show 1<=60 by decide),fun R g=>?_⟩;have e2:=AK g (.tup [V.int (ps.getD k 0-1)]);have h2:upd H1 R (.tup [V.int (ps.getD k 0-1)]) R=some (.tup [V.int (ps.getD k 0-1)]):=AH;generalize upd H1 R (.tup [V.int (ps.getD k 0-1)])=H2 at e2 h2;have c1:=Ej (ps.map V.int) none (some (k:Int));have c2:=Ej (ps.map V.int) (some ((k:Int)+1)) none;refine⟨U,R,_,_,rfl,rfl,e2 _ _ h1,h2,BJ (by rw[List.length_singleton];lia),fun p3 H3 e3 h3=>?_⟩;have E3:=e1.trans (e2.trans e3);refine⟨_,rfl,_,rfl,_,_,rfl,rfl,_,rfl,P,_,rfl,Af.of (E3 _ _ Y),iO (by lia) (by lia),fun M g=>?_⟩;have Z:=AK g (.tup (CB (ps.map V.int) (some ((k:Int)+1)) none));have I:upd H3 M (.tup (CB (ps.map V.int) (some ((k:Int)+1)) none)) M=some (.tup (CB (ps.map V.int) (some ((k:Int)+1)) none)):=AH;generalize upd H3 M (.tup (CB (ps.map V.int) (some ((k:Int)+1)) none))=H4 at Z I;refine⟨p3,M,_,_,rfl,rfl,Z _ _ h3,I,BJ (by rw[List.length_append,List.length_singleton];lia),fun p5 H5 e5 h5=>?_⟩;exact q p5 H5 (E3.trans (Z.trans e5)) (by rw[h5,Z2 hk])
theorem Mm:Ab ["powers","k"] ["powers"] (AN Er):=⟨rfl,rfl,rfl,by decide +kernel,rfl,by decide +kernel,by decide +kernel⟩
def ku(n:Nat)(σ:St):Nat:=match σ[1]? with|some (some (V.int l))=>n-l.toNat|_=>0
theorem Mu(F:Fn K mg "first_unknown" Er ["powers"] f fd):AL P w K mg base AY 1 f fd ["powers"] YN:=by
 have sc:=Mm;refine F.F.ok (k:=0) sc (fun vs H Q E h=>?_) (fun cdv A outer s H vs Q E hr h=>?_)
 .obtain⟨P,ps,rfl,_⟩:=h
  rfl
 obtain⟨P,ps,rfl,Y,R,q⟩:=h;obtain⟨f1,f2⟩:=HR R;refine⟨_,(AD (AU (i:=1) sc.nd rfl (Or.inl rfl) AE)
 (AD (I0 aP (Aw HG (Ag Ar (pv 0) (pv 1) (fun _ _=>rfl)) AE (Ay _))
  (AF (AU (i:=1) sc.nd rfl (Or.inl rfl) (Aa B2 (pv 1) AE))))
 (AF (Ac (pv 1))))),?_⟩
 refine JR (fun σ H'=>∃k:Nat,σ=[some (.ref P),some (.int (k:Nat))]/\H=H'/\k<=fu ps) (fun σ _=>ku (fu ps) σ) ⟨0,rfl,rfl,Nat.zero_le _⟩ ?_ ?_
 .rintro σ H' ⟨k,rfl,rfl,I⟩;refine⟨_,rfl,_,rfl,_,_,_,_,rfl,rfl,Af.of Y,int_at (by lia),rfl,_,rfl,BP (fun c=>?_) (fun c=>?_)⟩
  .have c:ps.getD k 0=0:=by simpa using c
   have g:k<fu ps:=by
    rcases Nat.lt_or_eq_of_le I with h|h
    .exact h
    .subst h;exact absurd c f2
   refine⟨_,rfl,_,_,rfl,rfl,⟨k+1,rfl,rfl,g⟩,?_⟩;show fu ps-((k:Int)+1).toNat<fu ps-(k:Int).toNat
   lia
  .have c:ps.getD k 0≠0:=by simpa using c
   have:k=fu ps:=by
    rcases Nat.lt_or_eq_of_le I with h|h
    .exact absurd (Rj h) c
    .exact h
   subst this;exact⟨_,rfl,q⟩
 .rintro σ H' Q1 Q2 U ⟨v,e,M,e1,a,b,c,d,h1,h2,h3,h4,x,h5,h6,Z⟩;exact⟨v,e,M,e1,a,b,c,d,h1,h2,h3,h4,x,h5,h6,U _ _ Z⟩
end
def V1(H:Hp)(d:Addr)(ks:List (List Int)):Prop:=∃kvs,H d=some (.dT kvs)/\kvs.map (·.1)=ks.map (·.map (Sum.inl (β:=Str)))
theorem Oq{κ:Type}[DecidableEq κ]{kvs:List (κ×V)}{k:κ}:(CC kvs k).isSome=true ↔ k∈kvs.map (·.1):=by
 rw[<-HA,List.any_eq_true];constructor
 .rintro⟨x,I,g⟩;exact aJ.mpr ⟨x,I,of_decide_eq_true g⟩
 .intro h;obtain⟨x,I,g⟩:=aJ.mp h;exact⟨x,I,decide_eq_true g⟩
theorem O1{ks:List (List Int)}{p:List Int}:p.map (Sum.inl (β:=Str))∈ks.map (·.map (Sum.inl (β:=Str))) ↔ p∈ks:=by
 constructor
 .intro h;obtain⟨q,I,g⟩:=aJ.mp h;rw[<-X0 g];exact I
 .intro h;exact aJ.mpr ⟨p,h,rfl⟩
def SQ(d:Addr)(H:Hp):Nat:=match H d with|some (.dT kvs)=>64-kvs.length|_=>0
structure VA(nn:Nat)(ks:List (List Int)):Prop where
 nd:ks.Nodup
 ok:∀p∈ks,CJ nn p
structure UP(ks:List (List Int))(uss:List (List AV)):Prop where
 has:∀us∈uss,∀m∈us,m.1∈ks
 low:∀p∈ks,p.sum≠0->BR p (fu p)∈ks
section
variable{P:Program}{w:World}{K:PySem.W.Frag}{mg:Str->Option Value}{base:Heap}{f g1 g2:Addr}{fd gd1 gd2:FuncData}
theorem Mh:Ab ["change","needed","some","powers","part","lower"] ["change"] (AN GW):=⟨rfl,rfl,rfl,by decide +kernel,rfl,by decide +kernel,by decide +kernel⟩
theorem Mj(F:Fn K mg "powers_needed" GW ["change"] f fd)(CL:Fn K mg "first_unknown" Er ["powers"] g1 gd1)(EX:Fn K mg "one_less" Hv ["powers","k"] g2 gd2)
 (GR:AL P w K mg base AY 1 g1 gd1 ["powers"] YN)(KP:AL P w K mg base AY 1 g2 gd2 ["powers","k"] Qq)(Cr:mg "sum" = none)(HB:mg "sorted" = none):AL P w K mg base AY 2 f fd ["change"] fF:=by
 have sc:=Mh;refine F.F.ok (k:=1) sc (fun vs H Q E h=>?_) (fun cdv A outer s H vs Q E hr h=>?_)
 .obtain⟨C,cs,uss,nn,rfl,_⟩:=h
  rfl
 obtain⟨C,cs,uss,nn,rfl,hC,dc,g,hn4,q⟩:=h;have hcl:cs.length=uss.length:=by rw[dc.len,List.length_map]
 have HU:∀ {X:Cx},X.A.units+64<cLine->X.A.units+1<cLine:=fun h=>by lia
 refine⟨_,(AD (AU (i:=1) sc.nd rfl (Or.inl rfl) Mz)
 (AD (BU aP rfl (Av (pv 0)) (An (i:=2) sc.nd rfl (Or.inl rfl))
  (AF (BU aP rfl (Av (pv 2)) (GY rfl (Bg (An (i:=3) sc.nd rfl (Or.inl rfl)) (Bg (An (i:=4) sc.nd rfl (Or.inl rfl)) FK)))
   (AD (AU (i:=5) sc.nd rfl (Or.inl rfl) (pv 3))
   (AF (I0 aP (de (V0 (by have:=hr.units;exact aL (bY (show 1<=64 by decide) _) this) (pv 5) (pv 1)))
    (AD (Oo (by have:=hr.units;exact aL (bY (show 1<=64 by decide) _) this) (pv 1) (pv 5) CO rfl)
    (AF (BQ (Aw L3 (Ad (Jj rfl) rfl Cr bT (AA (pv 5) AB)) AE (Ay _))
     (AF (AU (i:=5) sc.nd rfl (Or.inl rfl) (AX EX KP hr rfl (AA (pv 5) (AA (AX CL GR hr rfl (AA (pv 5) AB)) AB)))))
     Az)))))))))
 (AF (Ac (YR rfl rfl HB rfl Cr (pv 1)))))),?_⟩
 refine fun d hd=>?_;have e1:=AK hd (.dT []);have k1:V1 (upd H d (.dT [])) d []:=⟨[],AH,rfl⟩;generalize upd H d (.dT [])=H1 at e1 k1;refine⟨_,rfl,C,rfl,⟨_,AO.of (e1 _ _ hC)⟩,Bp (xs:=cs) (fun i σ H'=>∃(r2 Y U R:Option V) (ks:List (List Int)),σ=[some (.ref C),some (.ref d),r2,Y,U,R]/\AG H H'/\V1 H' d ks/\VA nn ks/\UP ks (uss.take i)) ?_ ?_ ?_ ?_⟩
 .exact⟨_,_,_,_,[],rfl,e1,k1,⟨.nil,(fun _ z=>by cases z)⟩,⟨(fun _ z=>by cases z),(fun _ z=>by cases z)⟩⟩
 .rintro i σ H' _ ⟨r2,Y,U,R,ks,rfl,e,_⟩;exact AO.of (e _ _ hC)
 .rintro i x σ H2 hx ⟨r2,Y,U,R,ks,rfl,e2,k2,g2,c2⟩;have hi:i<uss.length:=by rw[<-hcl];exact(aB.mp hx).1
  have hu:uss[i]? = some uss[i]:=by simp[hi]
  obtain⟨a,xs,ha1,ha2,dx⟩:=IY dc hu;have hup:=g _ (aI hu);generalize uss[i]=us at hu dx hup;rw[hx]at ha1;cases ha1;have hxl:xs.length=us.length:=by rw[dx.len,List.length_map]
  refine⟨_,rfl,a,rfl,⟨_,AO.of (e2 _ _ ha2)⟩,Bp (xs:=xs) (fun j σ H'=>∃(Y U R:Option V) (ks:List (List Int)),σ=[some (.ref C),some (.ref d),some (.ref a),Y,U,R]/\AG H H'/\V1 H' d ks/\VA nn ks/\UP ks (uss.take i)/\∀m∈us.take j,m.1∈ks) ?_ ?_ ?_ ?_⟩
  .exact⟨_,_,_,ks,rfl,e2,k2,g2,c2,fun _ z=>by cases z⟩
  .rintro j σ H' _ ⟨Y,U,R,ks,rfl,e,_⟩;exact AO.of (e _ _ ha2)
  .rintro j y σ H3 hy ⟨Y,U,R,ks,rfl,Z,k3,g3,c3,m3⟩;have hj:j<us.length:=by rw[<-hxl];exact(aB.mp hy).1
   have hm:us[j]? = some us[j]:=by simp[hj]
   obtain⟨c,Pw,Fr,q1,q2,q3,q4⟩:=Gw dx hm;have hpw:=hup _ (aI hm);generalize us[j]=m at hm q3 q4 hpw;rw[hy]at q1;cases q1;refine⟨c,_,rfl,Af.of (Z _ _ q2),rfl,_,_,rfl,_,_,rfl,rfl,?_⟩;refine⟨_,rfl,?_⟩;refine JR (fun σ H'=>∃(lo:Addr) (lw:List Int) (ks:List (List Int)),σ=[some (.ref C),some (.ref d),some (.ref a),some (.ref Pw),some (.ref Fr),some (.ref lo)]/\AG H H'/\H' lo=some (.tup (lw.map V.int))/\CJ nn lw/\V1 H' d ks/\VA nn ks/\(∀us∈uss.take i,∀m∈us,m.1∈ks)/\(∀m∈us.take j,m.1∈ks)/\(m.1∈ks\/lw=m.1)/\∀p∈ks,p.sum≠0->BR p (fu p)∈ks\/BR p (fu p)=lw) (fun _ H'=>SQ d H') ?_ ?_ ?_
   .exact⟨Pw,m.1,ks,rfl,Z,Z _ _ q3,hpw,k3,g3,c3.has,m3,.inr rfl,fun p g h0=>.inl (c3.low p g h0)⟩
   .rintro σ H4 ⟨lo,lw,ks,rfl,e4,l4,o4,⟨kvs,I,M⟩,g4,u4,m4,v4,w4⟩;have hlen:kvs.length=ks.length:=by have:=bP List.length M;simpa using this
    have h35:=Ro hn4 g4.nd g4.ok;refine⟨_,rfl,_,rfl,d,_,rfl,GQ.t (k:=lw.map Sum.inl) I (by rw[IX];exact l4),_,rfl,BP (fun cc=>?_) (fun cc=>?_)⟩
    .have hno:CC kvs (lw.map Sum.inl)=none:=by
      cases hv:CC kvs (lw.map Sum.inl) with
      |none=>rfl
      |some z=>rw[hv]at cc;cases cc
     have hnk:lw ∉ ks:=fun z=>by
      have:=Oq.mpr (by rw[M];exact O1.mpr z:lw.map Sum.inl∈kvs.map (·.1));rw[hno]at this;cases this
     refine⟨_,rfl,_,rfl,d,_,rfl,Mf.t (k:=lw.map Sum.inl) I (by rw[IX];exact l4) (Bk (n:=60) (by lia) (by decide)),?_⟩;rw[Mt _ hno];have k5:V1 (upd H4 d (.dT (kvs++[(lw.map Sum.inl,V.bl true)]))) d (ks++[lw]):=⟨_,AH,by rw[List.map_append,List.map_append,M];rfl⟩;have e5:AG H (upd H4 d (.dT (kvs++[(lw.map Sum.inl,V.bl true)]))):=fun b o z=>by rw[AI (AM z hd)];exact e4 _ _ z
     have l5:upd H4 d (.dT (kvs++[(lw.map Sum.inl,V.bl true)])) lo=some (.tup (lw.map V.int)):=by
      rw[AI (fun z=>by subst z;rw[l4]at I;cases I)];exact l4
     have mu5:SQ d (upd H4 d (.dT (kvs++[(lw.map Sum.inl,V.bl true)])))<SQ d H4:=by
      unfold SQ;rw[AH,I];simp only[List.length_append,List.length_singleton]
      lia
     generalize upd H4 d (.dT (kvs++[(lw.map Sum.inl,V.bl true)]))=H5 at k5 e5 l5 mu5;have g5:VA nn (ks++[lw]):=⟨by rw[List.nodup_append];exact⟨g4.nd,by simp,fun a ha b hb=>by rw[List.mem_singleton.mp hb];exact fun z=>hnk (z ▸ ha)⟩,fun p g=>by
      rcases aS.mp g with h|h
      .exact g4.ok p h
      .rw[List.mem_singleton.mp h];exact o4⟩
     have u5:∀us∈uss.take i,∀m∈us,m.1∈ks++[lw]:=fun us hus m hm=>bL _ (u4 us hus m hm);have m5:∀m∈us.take j,m.1∈ks++[lw]:=fun m hm=>bL _ (m4 m hm);have v5:m.1∈ks++[lw]:=by
      rcases v4 with h|h
      .exact bL _ h
      .rw[h];simp
     have w5:∀p∈ks,p.sum≠0->BR p (fu p)∈ks++[lw]:=fun p g h0=>by
      rcases w4 p g h0 with h|h
      .exact bL _ h
      .rw[h];simp
     refine⟨_,rfl,lo,lw,rfl,Af.of l5,_,_,rfl,rfl,_,rfl,BP (fun c6=>?_) (fun c6=>?_)⟩
     .have c6:0<lw.sum:=by simpa using c6
      have c0:lw.sum≠0:=by lia
      obtain⟨f1,_⟩:=HR c0;refine⟨_,rfl,_,rfl,lo,lw,rfl,l5,c0,lo,lw,fu lw,rfl,l5,f1,by rw[o4.len];exact hn4,fun c7 H7 e7 h7=>?_⟩;obtain⟨kv7,hd7,hk7⟩:=k5;refine⟨⟨c7,_,ks++[lw],rfl,e5.trans e7,h7,o4.low c0,⟨kv7,e7 _ _ hd7,hk7⟩,g5,u5,m5,.inl v5,fun p g h0=>?_⟩,?_⟩
      .rcases aS.mp g with h|h
       .exact .inl (w5 p h h0)
       .rw[List.mem_singleton.mp h];exact .inr rfl
      .have:SQ d H7=SQ d H5:=by unfold SQ;rw[e7 _ _ hd7,hd7]
       rw[this];exact mu5
     .have c6:¬0<lw.sum:=by simpa using c6
      have c0:lw.sum=0:=by have:=Cz o4.nn;lia
      refine⟨⟨lo,lw,ks++[lw],rfl,e5,l5,o4,k5,g5,u5,m5,.inl v5,fun p g h0=>?_⟩,mu5⟩;rcases aS.mp g with h|h
      .exact .inl (w5 p h h0)
      .rw[List.mem_singleton.mp h]at h0;exact absurd c0 h0
    .have hlk:lw∈ks:=by
      have:(CC kvs (lw.map Sum.inl)).isSome=true:=by
       cases hv:CC kvs (lw.map Sum.inl) with
       |none=>rw[hv]at cc;exact absurd rfl cc
       |some z=>rfl
      have:=Oq.mp this;rw[M]at this;exact O1.mp this
     refine⟨some (.ref Pw),some (.ref Fr),some (.ref lo),ks,rfl,e4,⟨kvs,I,M⟩,g4,⟨u4,fun p g h0=>?_⟩,fun y hy=>?_⟩
     .rcases w4 p g h0 with h|h
      .exact h
      .rw[h];exact hlk
     .rw[List.take_add_one,hm]at hy;rcases aS.mp hy with h|h
      .exact m4 y h
      .have:y=m:=by simpa using h
       subst this;rcases v4 with h|h
       .exact h
       .rw[<-h];exact hlk
   .rintro σ H' Q1 Q2 hq ⟨v,e,w1,e1,a,o,h1,h2,c,h3,h4⟩;exact⟨v,e,w1,e1,a,o,h1,h2,c,h3,hq _ _ h4⟩
  .rintro σ H3 ⟨Y,U,R,ks,rfl,Z,k3,g3,c3,m3⟩;rw[hxl,List.take_length]at m3;refine⟨_,_,_,_,ks,rfl,Z,k3,g3,⟨fun vs hvs m hm=>?_,c3.low⟩⟩;rw[List.take_add_one,hu]at hvs;rcases aS.mp hvs with h|h
   .exact c3.has vs h m hm
   .have:vs=us:=by simpa using h
    subst this;exact m3 m hm
 .rintro σ H2 ⟨r2,Y,U,R,ks,rfl,e2,⟨kvs,hd2,hk2⟩,g2,c2⟩;rw[hcl,List.take_length]at c2;have hlen:kvs.length=ks.length:=by have:=bP List.length hk2;simpa using this
  have h35:=Ro hn4 g2.nd g2.ok;refine⟨_,rfl,d,kvs,ks,rfl,hd2,by lia,hk2,fun D H' L Z _ hD hD' pm pw hL=>?_⟩;refine q D H' L (e2.trans Z) (Cy e2 hD) hD' ⟨pm.nodup_iff.mpr g2.nd,fun p g=>g2.ok p (pm.mem_iff.mp g),fun us hus m hm=>pm.mem_iff.mpr (c2.has us hus m hm),fun p g h0=>pm.mem_iff.mpr (c2.low p (pm.mem_iff.mp g) h0),by rw[List.pairwise_map];exact pw⟩ fun l hl=>Z _ _ (hL l hl)
end
def BX(f:Nat->Int)(n:Nat):List Int:=(List.range n).map f
def conv(f g:Nat->Int)(k:Nat):Int:=(BX (fun j=>f j*g (k-j)) (k+1)).sum
def dG(X:Nat->Nat->Int):Nat->List Int->Nat->Int
 |0,_=>fun k=>if k=0 then 1 else 0
 |n+1,ps=>conv (dG X n (BR ps (fu ps))) (X (fu ps))
def Dx(X:Nat->Nat->Int)(ps:List Int):Nat->Int:=dG X ps.sum.toNat ps
theorem NC{X:Nat->Nat->Int}{ps:List Int}(h:ps.sum=0)(k:Nat):Dx X ps k=if k=0 then 1 else 0:=by unfold Dx;rw[h];rfl
theorem Ml{nn:Nat}{X:Nat->Nat->Int}{ps:List Int}(o:CJ nn ps)(h:ps.sum≠0):Dx X ps=conv (Dx X (BR ps (fu ps))) (X (fu ps)):=by
 obtain⟨f1,_⟩:=HR h;have h0:=Cz o.nn;obtain⟨n,hn⟩:∃n:Nat,ps.sum=(n:Int)+1:=⟨(ps.sum-1).toNat,by lia⟩;have I:ps.sum.toNat=n+1:=by lia
 have g:(BR ps (fu ps)).sum.toNat=n:=by rw[sum_set _ _ f1];lia
 unfold Dx;rw[I,g];rfl
theorem Mg(f:Nat->Int)(n:Nat):BX f (n+1)=BX f n++[f n]:=by unfold BX;rw[List.range_succ,List.map_append];rfl
theorem Gz(f:Nat->Int)(n:Nat):(BX f n).length=n:=by unfold BX;simp
theorem KC{f:Nat->Int}{n j:Nat}(h:j<n):EI ((BX f n).map V.int) (j:Int)=some (.int (f j)) :=
 IV (xs:=(BX f n).map V.int) (j:=j) (v:=.int (f j)) (by unfold BX;simp[h])
def PV(X:Nat->Nat->Int)(us:List AV)(k:Nat):Int:=(us.map fun m=>m.2.num*Dx X m.1 k).sum
abbrev Fi(ps:List Int):List Key:=ps.map (Sum.inl (β:=Str))
def fg:Sp:=fun vs H Q _=>∃(d R P:Addr) (k n nl nn m:Nat) (X:Nat->Nat->Int) (ps:List Int) (kvs:List (List Key×V)) (g:List V),vs=[.ref d,.ref R,.ref P,.int (k:Nat)]/\H R=some (.lst g) /\
 (∀u,u<nn->∃a,g[u]? = some (.ref a)/\H a=some (.lst ((BX (X u) n).map V.int)))/\k<n/\H P=some (.tup (ps.map V.int))/\CJ nn ps/\nn<=4/\H d=some (.dT kvs) /\
 (ps.sum≠0->∃l,CC kvs (Fi (BR ps (fu ps)))=some (.ref l)/\H l=some (.lst ((BX (Dx X (BR ps (fu ps))) nl).map V.int))/\k<nl)/\k<=20 /\
 (∀u j,u<nn->j<=k->(X u j).natAbs<2^m)/\(ps.sum≠0->∀j,j<=k->(Dx X (BR ps (fu ps)) j).natAbs<2^m)/\m<=400000/\∀H',AG H H'->Q (.int (Dx X ps k)) H'
def eX:Sp:=fun vs H Q _=>∃(a d:Addr) (xs:List V) (us:List AV) (kvs:List (List Key×V)) (X:Nat->Nat->Int) (k nl m:Nat),vs=[.ref a,.ref d,.int (k:Nat)]/\H a=some (.lst xs)/\Am H (us.map DR) xs/\us.length<=50/\H d=some (.dT kvs) /\
 (∀z∈us,(∃l,CC kvs (Fi z.1)=some (.ref l)/\H l=some (.lst ((BX (Dx X z.1) nl).map V.int)))/\z.2.num.natAbs<2^m/\(Dx X z.1 k).natAbs<2^m)/\k<nl/\m<=400000/\∀H',AG H H'->Q (.int (PV X us k)) H'
section
variable{P:Program}{w:World}{K:PySem.W.Frag}{mg:Str->Option Value}{base:Heap}{f g1 g2:Addr}{fd gd1 gd2:FuncData}
theorem QN:Ab ["products","rows","powers","k","unknown","lower"] ["products","rows","powers","k"] (AN JF):=⟨rfl,rfl,rfl,by decide +kernel,rfl,by decide +kernel,by decide +kernel⟩
theorem QA(F:Fn K mg "product_at" JF ["products","rows","powers","k"] f fd)(CL:Fn K mg "first_unknown" Er ["powers"] g1 gd1)(EX:Fn K mg "one_less" Hv ["powers","k"] g2 gd2)
 (GR:AL P w K mg base AY 1 g1 gd1 ["powers"] YN)(KP:AL P w K mg base AY 1 g2 gd2 ["powers","k"] Qq)(Cr:mg "sum" = none)(BL:mg "range" = none):AL P w K mg base AY 2 f fd ["products","rows","powers","k"] fg:=by
 have sc:=QN;refine F.F.ok (k:=1) sc (fun vs H Q E h=>?_) (fun cdv A outer s H vs Q E hr h=>?_)
 .obtain⟨d,R,P,k,n,nl,nn,m,X,ps,kvs,Z,rfl,_⟩:=h
  rfl
 obtain⟨d,R,P,k,n,nl,nn,m,X,ps,kvs,Z,rfl,hR,I,hkn,hP,U,hn4,hd,hl,hk20,hX,hS,hm,q⟩:=h;refine⟨_,(AD (BQ (Aw HG (Ad (Jj rfl) rfl Cr bT (AA (pv 2) AB)) AE (Ay _))
  (AF (Ac (YX (Aw HG (pv 3) AE (Ay _)) AE AE)))
  Az)
 (AD (AU (i:=4) sc.nd rfl (Or.inr rfl) (AX CL GR hr rfl (AA (pv 2) AB)))
 (AD (AU (i:=5) sc.nd rfl (Or.inr rfl) (Og (by have:=hr.units;exact aL (bY (show 1<=64 by decide) _) this) (pv 0) (AX EX KP hr rfl (AA (pv 2) (AA (pv 4) AB))) (fun _ _=>rfl)))
 (AF (Ac (Ad (Mi rfl) rfl Cr bT (AA (Bf [".0","j","lower","rows","unknown","k"] 1 [none,none,some 5,some 1,some 4,some 3] (Cp rfl BL (AA (Aa B2 (pv 3) AE) AB)) (fun _ _ _ _ _=>BC) (fun _ _ _ _ _=>(Aa A9 (Ag Kf (pv 2) (pv 1) (fun _ _=>rfl)) (Ag Kf (Ag Kf (pv 3) (pv 4) (fun _ _=>rfl)) (Aa FW (pv 5) (pv 1)) (fun _ _=>rfl))))) AB))))))),?_⟩
 refine⟨_,rfl,P,ps,rfl,Af.of hP,rfl,_,rfl,BP (fun c=>?_) (fun c=>?_)⟩
 .have c:ps.sum=0:=by simpa using c
  have:=q H (fun _ _ h=>h);rw[NC c]at this;refine⟨_,rfl,rfl,_,rfl,BP (fun M=>?_) (fun M=>?_)⟩
  .have M:(k:Int)=0:=by simpa using M
   rw[if_pos (by lia)]at this;exact this
  .have M:¬(k:Int)=0:=by simpa using M
   rw[if_neg (by lia)]at this;exact this
 .have c:ps.sum≠0:=by simpa using c
  obtain⟨f1,_⟩:=HR c;obtain⟨l,v1,v2,v3⟩:=hl c;refine⟨_,rfl,P,ps,rfl,hP,c,?_⟩;refine⟨_,rfl,_,rfl,_,rfl,P,ps,fu ps,rfl,hP,f1,by rw[U.len];exact hn4,fun c1 H1 e1 h1=>?_⟩;have hg:GQ H1 d (.ref c1) (some (.ref l)):=by
   have:=GQ.t (k:=Fi (BR ps (fu ps))) (e1 _ _ hd) (by rw[IX];exact h1);rw[v1]at this;exact this
  refine⟨d,.ref l,rfl,hg,?_⟩;obtain⟨ra,w1,w2⟩:=I (fu ps) (by rw[<-U.len];exact f1);refine⟨_,rfl,_,_,rfl,rfl,(k:Int)+1,rfl,by lia,by lia,fun D hD=>Ba (n:=((k:Int)+1).toNat) (fun i ys H'=>AG H1 H'/\ys=(BX (fun j=>Dx X (BR ps (fu ps)) j*X (fu ps) (k-j)) i).map V.int) ⟨AK hD _,rfl⟩ ?_ ?_⟩
  .rintro i ys H2 hi ⟨Y,rfl⟩ g;have E2:=e1.trans Y;have hik:i<=k:=by lia
   refine⟨hi,Bk (n:=60) (by rw[List.length_map,Gz];lia) (by decide),fun x H' y=>?_⟩;obtain⟨rfl,rfl⟩:=y;unfold Bj;have hix:(0:Int)+(i:Nat)=(i:Nat):=by lia
   have hki:(k:Int)-((0:Int)+(i:Nat))=((k-i:Nat):Int):=by lia
   refine BA ⟨_,rfl,_,rfl,_,_,_,_,rfl,rfl,AO.of (E2 _ _ v2),(by rw[hix];exact KC (by lia)),_,rfl,_,rfl,_,_,_,_,rfl,rfl,AO.of (E2 _ _ hR),IV w1,_,rfl,_,rfl,_,_,rfl,rfl,_,_,_,_,rfl,rfl,AO.of (E2 _ _ w2),(by rw[hki];exact KC (by lia)),_,_,rfl,rfl,DP (hS c i hik) (hX _ _ (by rw[<-U.len];exact f1) (by lia)) (by lia),g,A8 hi ⟨fun b o z=>?_,?_⟩⟩
   .rw[AI (AM z hD)];exact Y _ _ z
   .rw[Mg,List.map_append];rfl
  .rintro ys H2 ⟨Y,rfl⟩ g;refine⟨aD _,D,_,rfl,AO.of g,?_⟩;have:=q H2 (e1.trans Y);rw[Ml U c]at this;exact this
theorem TN:Ab ["some","products","k"] ["some","products","k"] (AN Kl):=⟨rfl,rfl,rfl,by decide +kernel,rfl,by decide +kernel,by decide +kernel⟩
theorem S9(F:Fn K mg "speed_at" Kl ["some","products","k"] f fd)(Cr:mg "sum" = none):AL P w K mg base AY 2 f fd ["some","products","k"] eX:=by
 have sc:=TN;refine F.F.ok (k:=1) sc (fun vs H Q E h=>?_) (fun cdv A outer s H vs Q E hr h=>?_)
 .obtain⟨a,d,xs,us,kvs,X,k,nl,m,rfl,_⟩:=h
  rfl
 obtain⟨a,d,xs,us,kvs,X,k,nl,m,rfl,ha,dx,h50,hd,hz,U,hm,q⟩:=h;have R:xs.length=us.length:=by rw[dx.len,List.length_map]
 refine⟨_,(AF (Ac (Ad (Mi rfl) rfl Cr bT (AA (Jg [".0","powers","part","k","products"] 1 2 [none,none,none,some 2,some 1] (Av (pv 0)) (fun _ _ _ _ _=>BC) (fun _ _ _ _ _=>(Aa A9 (Ag DD (pv 2) AE (fun _ _=>rfl)) (Ag Kf (Og (by have:=hr.units;exact aL (bY (show 1<=64 by decide) _) this) (pv 4) (pv 1) (fun _ _=>rfl)) (pv 3) (fun _ _=>rfl))))) AB)))),?_⟩;refine⟨_,rfl,a,rfl,⟨_,AO.of ha⟩,fun D hD=>Ey (n:=xs.length) (fun i ys H'=>AG H H'/\ys=((us.take i).map fun z=>z.2.num*Dx X z.1 k).map V.int) ⟨AK hD _,rfl⟩ ?_ ?_⟩
 .rintro i ys H2 hi ⟨g,rfl⟩ I;have M:us[i]? = some (us[i]'(by lia)):=aF _;obtain⟨c,Pw,Fr,k1,k2,k3,k4⟩:=Gw dx M;obtain⟨⟨l,v1,Z⟩,n1,n2⟩:=hz _ (aI M);generalize us[i]'(by lia)=z at M k3 k4 v1 Z n1 n2;refine⟨⟨xs,.ref c,AO.of (g _ _ ha),k1⟩,Bk (n:=60) (by rw[List.length_map,List.length_map,List.length_take];lia) (by decide),fun x H' y=>?_⟩;obtain⟨rfl,y⟩:=y;have hx:=y xs (AO.of (g _ _ ha));rw[k1]at hx;cases hx;refine⟨c,_,_,rfl,Af.of (g _ _ k2),?_⟩;unfold Bj;have hg:GQ H' d (.ref Pw) (some (.ref l)):=by
   have:=GQ.t (k:=Fi z.1) (g _ _ hd) (by rw[IX];exact g _ _ k3);rw[v1]at this;exact this
  refine BA ⟨_,rfl,_,_,_,_,rfl,rfl,Af.of (g _ _ k4),rfl,_,rfl,_,rfl,d,_,rfl,hg,_,rfl,_,_,_,_,rfl,rfl,AO.of (g _ _ Z),KC U,_,_,rfl,rfl,DP n1 n2 (by lia),I,A8 hi ⟨fun b o Y=>?_,?_⟩⟩
  .rw[AI (AM Y hD)];exact g _ _ Y
  .rw[List.take_add_one,M,List.map_append,List.map_append];rfl
 .rintro ys H2 ⟨g,rfl⟩ I;rw[R,List.take_length]at I;exact⟨⟨xs,AO.of (g _ _ ha),Nat.le_refl _⟩,D,_,rfl,AO.of I,q H2 g⟩
end
def LR(H0 H:Hp)(no:Addr->Prop)(I:Addr)(nn n:Nat)(X:Nat->Nat->Int):Prop:=∃g:List V,H I=some (.lst g)/\g.length=nn/\∀u,u<nn->∃a,g[u]? = some (.ref a)/\H a=some (.lst ((BX (X u) n).map V.int))/\H0 a=none/\¬no a
def VR(H0 g:Hp)(no:Addr->Prop)(D:Addr)(n:Nat)(X:Nat->Nat->Int)(i:Nat)(ys:List V)(H':Hp):Prop:=AG g H'/\ys.length=i/\∀u,u<i->∃a,ys[u]? = some (.ref a)/\H' a=some (.lst ((BX (X u) n).map V.int))/\H0 a=none/\¬no a/\a≠D
theorem PJ{H0 R I:Hp}{no:Addr->Prop}{D p:Addr}{n i:Nat}{X:Nat->Nat->Int}{ys:List V}(hD:R D=none)(e3:AG R I)(hD3:I D=some (.lst ys))(Y:ys.length=i)(h:∀u,u<i->∃a,ys[u]? = some (.ref a)/\I a=some (.lst ((BX (X u) n).map V.int))/\H0 a=none/\¬no a/\a≠D)
 (hp:I p=some (.lst ((BX (X i) n).map V.int)))(h0:H0 p=none)(hn:¬no p)(g:p≠D):VR H0 R no D n X (i+1) (ys++[.ref p]) (upd I D (.lst (ys++[.ref p]))):=by
 refine⟨fun b o z=>?_,by simp[Y],fun u hu=>?_⟩
 .rw[AI (AM z hD)];exact e3 _ _ z
 .rcases Nat.lt_or_eq_of_le (Nat.le_of_lt_succ hu) with M|M
  .obtain⟨a,k1,k2,k3,Z,U⟩:=h u M;exact⟨a,by rw[List.getElem?_append_left (by lia)];exact k1,by rw[AI U];exact k2,k3,Z,U⟩
  .subst M;exact⟨p,by rw[List.getElem?_append_right (by lia)];simp[Y],by rw[AI g];exact hp,h0,hn,g⟩
theorem SJ{H0 Z H':Hp}{no:Addr->Prop}{D:Addr}{n nn:Nat}{X:Nat->Nat->Int}{ys:List V}(h:VR H0 Z no D n X nn ys H')(Y:H' D=some (.lst ys)):LR H0 H' no D nn n X :=
 ⟨ys,Y,h.2.1,fun u U=>let⟨a,R,M,I,g,_⟩:=h.2.2 u U;⟨a,R,M,I,g⟩⟩
structure jH(H1 H:Hp)(d:Addr)(kvs:List (List Key×V))(os:List (List Int))(ls:List Int->Addr):Prop where
 at_:H d=some (.dT kvs)
 key:kvs.map (·.1)=os.map Fi
 val:∀p∈os,CC kvs (Fi p)=some (.ref (ls p))
 new:∀p∈os,H1 (ls p)=none/\ls p≠d
 inj:∀p∈os,∀q∈os,ls p=ls q->p=q
theorem Zg{uss:List (List AV)}{nn:Nat}{os:List (List Int)}(o:Ord uss nn os){i:Nat}{p:List Int}(hi:os[i]? = some p)(h:p.sum≠0):BR p (fu p)∈os.take i:=by
 have hm:=o.low p (aI hi) h;obtain⟨j,g⟩:=aa hm;obtain⟨f1,_⟩:=HR h;have Y:=sum_set p (fu p) f1;have R:=(aB.mp g).1;have U:=(aB.mp hi).1;have M:j<i:=by
  rcases Nat.lt_trichotomy j i with I|I|I
  .exact I
  .subst I;rw[hi]at g;have g:=ae g;rw[<-g]at Y;lia
  .have:=(List.pairwise_iff_getElem.mp o.asc) i j U R I;rw[(aB.mp hi).2,(aB.mp g).2]at this
   lia
 exact aI (i:=j) (by rw[List.getElem?_take,if_pos M];exact g)
theorem Ea{os:List (List Int)}{i:Nat}{p q:List Int}(h:os[i]? = some p):q∈os.take (i+1) ↔ q∈os.take i\/q=p:=by
 rw[List.take_add_one,h,List.mem_append];simp
theorem b9{os:List (List Int)}{i:Nat}{p:List Int}(nd:os.Nodup)(h:os[i]? = some p):p ∉ os.take i:=fun z=>by
 obtain⟨j,g⟩:=aa z;rw[List.getElem?_take]at g;split at g
 .rename_i I;have R:=(aB.mp h);have M:=(aB.mp g);have:=(List.pairwise_iff_getElem.mp nd) j i M.1 R.1 I;rw[R.2,M.2]at this;exact this rfl
 .cases g
def fh(H:Hp)(R:Addr)(nn n:Nat)(X:Nat->Nat->Int):Prop:=∃g:List V,H R=some (.lst g)/\g.length=nn/\∀u,u<nn->∃a,g[u]? = some (.ref a)/\H a=some (.lst ((BX (X u) n).map V.int))
theorem LR.km{H0 H:Hp}{no:Addr->Prop}{R:Addr}{nn n:Nat}{X:Nat->Nat->Int}(h:LR H0 H no R nn n X):fh H R nn n X:=let⟨g,h1,Z,Y⟩:=h;⟨g,h1,Z,fun u U=>let⟨a,M,I,_⟩:=Y u U;⟨a,M,I⟩⟩
structure jZ(uss:List (List AV))(X:Nat->Nat->Int)(most nn m:Nat):Prop where
 n4:nn<=4
 len:uss.length=nn
 Ua:most<=19
 Ht:∀us∈uss,us.length<=50
 pw:∀us∈uss,∀z∈us,CJ nn z.1
 num:∀us∈uss,∀z∈us,z.2.num.natAbs<2^m
 xs:∀u k,u<nn->k<most->(X u k).natAbs<2^m
 kX:∀ps,CJ nn ps->∀k,k<most->(Dx X ps k).natAbs<2^m
 m4:m<=4000
def CY(uss:List (List AV))(X:Nat->Nat->Int):Nat->Nat->Int:=fun u k=>PV X (uss.getD u []) k
def fS:Sp:=fun vs H Q _=>∃(C O R:Addr) (cs:List V) (uss:List (List AV)) (L:List (List Int×Addr)) (X:Nat->Nat->Int) (most nn m:Nat),vs=[.ref C,.ref O,.ref R,.int (most:Nat)]/\H C=some (.lst cs)/\Am H (uss.map CP) cs/\H O=some (.lst (L.map fun l=>V.ref l.2))/\Ord uss nn (L.map (·.1))/\(∀l∈L,H l.2=some (.tup (l.1.map V.int))) /\
 fh H R nn (most+1) X/\jZ uss X most nn m/\∀(D:Addr) H',AG H H'->H D=none->LR H H' (fun _=>False) D nn most (CY uss X)->Q (.ref D) H'
section
variable{P:Program}{w:World}{K:PySem.W.Frag}{mg:Str->Option Value}{base:Heap}{f g2 g3:Addr}{fd gd2 gd3:FuncData}
theorem QJ:Ab ["change","order","places","most","products","powers","k","rows","some"] ["change","order","places","most"] (AN JS):=⟨rfl,rfl,rfl,by decide +kernel,rfl,by decide +kernel,by decide +kernel⟩
theorem QC(F:Fn K mg "speed_rows" JS ["change","order","places","most"] f fd)(Gm:Fn K mg "product_at" JF ["products","rows","powers","k"] g2 gd2)(IL:Fn K mg "speed_at" Kl ["some","products","k"] g3 gd3)
 (Rp:AL P w K mg base AY 2 g2 gd2 ["products","rows","powers","k"] fg)(VL:AL P w K mg base AY 2 g3 gd3 ["some","products","k"] eX)(BL:mg "range" = none):AL P w K mg base AY 3 f fd ["change","order","places","most"] fS:=by
 have sc:=QJ;refine F.F.ok (k:=2) sc (fun vs H Q E h=>?_) (fun cdv A outer s H vs Q E hr h=>?_)
 .obtain⟨C,O,R,cs,uss,L,X,most,nn,m,rfl,_⟩:=h
  rfl
 obtain⟨C,O,R,cs,uss,L,X,most,nn,m,rfl,hC,dc,hO,ord,hL,hR,ok,q⟩:=h;obtain⟨nn4,hul,hmost,hfew,hpw,hnum,hxs,hser,m4⟩:=ok;have hcl:cs.length=uss.length:=by rw[dc.len,List.length_map]
 refine⟨_,(AD (AU (i:=4) sc.nd rfl (Or.inr rfl) Mz)
 (AD (BU aP rfl (Av (pv 1)) (An (i:=5) sc.nd rfl (Or.inl rfl))
  (AD (Oo (by have:=hr.units;exact aL (bY (show 1<=64 by decide) _) this) (pv 4) (pv 5) (CA AB) rfl)
  (AF (BU aP rfl (Cp rfl BL (AA (pv 3) AB)) (An (i:=6) sc.nd rfl (Or.inl rfl))
   (AF (Bu (GN ai ax ay C6 (Og (by have:=hr.units;exact aL (bY (show 1<=64 by decide) _) this) (pv 4) (pv 5) (fun _ _=>rfl)) (AA (AX Gm Rp hr rfl (AA (pv 4) (AA (pv 2) (AA (pv 5) (AA (pv 6) AB))))) AB))))))))
 (AD (AU (i:=7) sc.nd rfl (Or.inl rfl) (CA AB))
 (AD (BU aP rfl (Av (pv 0)) (An (i:=8) sc.nd rfl (Or.inr rfl))
  (AF (Bu (GN ai ax ay C6 (pv 7) (AA (Bf [".0","k","some","products"] 1 [none,none,some 8,some 4] (Cp rfl BL (AA (pv 3) AB)) (fun _ _ _ _ _=>BC) (fun _ _ _ _ _=>(AX IL VL hr rfl (AA (pv 2) (AA (pv 3) (AA (pv 1) AB)))))) AB)))))
 (AF (Ac (pv 7))))))),?_⟩
 generalize hos:L.map (·.1)=os at ord;have hLo:∀(i:Nat) (p:List Int),os[i]? = some p->∃a:Addr,(L.map fun l=>V.ref l.2)[i]? = some (V.ref a)/\H a=some (.tup (p.map V.int)):=fun i p M=>by
  rw[<-hos,List.getElem?_map]at M;obtain⟨l,Z,h2⟩:=aH.mp M;subst h2;exact⟨l.2,by rw[List.getElem?_map,Z];rfl,hL l (aI Z)⟩
 have hLl:(L.map fun l=>V.ref l.2).length=os.length:=by rw[<-hos];simp
 have h35:=Ro nn4 ord.nd ord.ok;generalize (L.map fun l=>V.ref l.2)=ov at hO hLo hLl;clear hL hos;obtain⟨rvs,q1,q2,q3⟩:=hR;refine fun d hd=>?_;have e3:=AK hd (.dT []);have hd3:upd H d (.dT []) d=some (.dT []):=AH;generalize upd H d (.dT [])=H3 at e3 hd3;refine⟨_,rfl,O,rfl,⟨_,AO.of (e3 _ _ hO)⟩,Bp (xs:=ov) (fun i σ H'=>∃(r5 r6 r7 r8:Option V) (kvs:List (List Key×V)) (ls:List Int->Addr),σ=[some (.ref C),some (.ref O),some (.ref R),some (.int (most:Nat)),some (.ref d),r5,r6,r7,r8]/\AG H H'/\jH H H' d kvs (os.take i) ls/\∀p∈os.take i,H' (ls p)=some (.lst ((BX (Dx X p) most).map V.int))) ?_ ?_ ?_ ?_⟩
 .exact⟨_,_,_,_,[],fun _=>0,rfl,e3,⟨hd3,rfl,(fun _ z=>by cases z),(fun _ z=>by cases z),(fun _ z=>by cases z)⟩,(fun _ z=>by cases z)⟩
 .rintro i σ H' _ ⟨r5,r6,r7,r8,kvs,ls,rfl,e,_⟩;exact AO.of (e _ _ hO)
 .rintro i x σ H4 hx ⟨r5,r6,r7,r8,kvs,ls,rfl,e4,pr,hem⟩;have hi:i<os.length:=by rw[<-hLl];exact(aB.mp hx).1
  have M:os[i]? = some os[i]:=by simp[hi]
  obtain⟨a,k1,k2⟩:=hLo i _ M;have U:=b9 ord.nd M;have hpm:=aI M;generalize os[i]=p at M k2 U hpm;rw[hx]at k1;cases k1;have hpo:=ord.ok p hpm;have hno:CC kvs (Fi p)=none:=by
   cases hv:CC kvs (Fi p) with
   |none=>rfl
   |some z=>
    have:=Oq.mp (show(CC kvs (Fi p)).isSome=true by rw[hv];rfl);rw[pr.key]at this;exact absurd (O1.mp this) U
  have hkl:kvs.length=i:=by have:=bP List.length pr.key;simp at this;lia
  refine⟨BJ (show 0<=60 by decide),fun l hl=>?_⟩;have el:=AK hl (.lst []);have hdl:l≠d:=fun z=>by subst z;rw[pr.at_]at hl;cases hl
  refine⟨_,rfl,_,rfl,d,_,rfl,Mf.t (k:=Fi p) (el _ _ pr.at_) (by rw[IX];exact el _ _ (e4 _ _ k2)) (Bk (n:=60) (by lia) (by decide)),?_⟩;rw[Mt _ hno];have hls:∀z∈os.take i,ls z≠l:=fun z g y=>by rw[<-y,hem z g]at hl;cases hl
  have e5:AG H (upd (upd H4 l (.lst [])) d (.dT (kvs++[(Fi p,V.ref l)]))):=fun b o z=>by rw[AI (AM z hd)];exact el _ _ (e4 _ _ z)
  have d5:upd (upd H4 l (.lst [])) d (.dT (kvs++[(Fi p,V.ref l)])) d=some (.dT (kvs++[(Fi p,V.ref l)])):=AH;have l5:upd (upd H4 l (.lst [])) d (.dT (kvs++[(Fi p,V.ref l)])) l=some (.lst ((BX (Dx X p) 0).map V.int)):=by rw[AI hdl,AH];rfl
  have o5:∀z∈os.take i,upd (upd H4 l (.lst [])) d (.dT (kvs++[(Fi p,V.ref l)])) (ls z)=some (.lst ((BX (Dx X z) most).map V.int)):=fun z g=>by rw[AI (pr.new z g).2];exact el _ _ (hem z g)
  generalize upd (upd H4 l (.lst [])) d (.dT (kvs++[(Fi p,V.ref l)]))=H5 at e5 d5 l5 o5;have hnl:H l=none:=Cy e4 hl;have hvp:CC (kvs++[(Fi p,V.ref l)]) (Fi p)=some (.ref l):=by rw[Jf _ _ _ _ hno,if_pos rfl]
  refine⟨_,rfl,(most:Int),rfl,by lia,by lia,Hh (n:=(most:Int).toNat) (fun k σ H'=>∃(r6 r7 r8:Option V),σ=[some (.ref C),some (.ref O),some (.ref R),some (.int (most:Nat)),some (.ref d),some (.ref a),r6,r7,r8]/\AG H H'/\H' d=some (.dT (kvs++[(Fi p,V.ref l)]))/\H' l=some (.lst ((BX (Dx X p) k).map V.int))/\∀z∈os.take i,H' (ls z)=some (.lst ((BX (Dx X z) most).map V.int))) ?_ ?_ ?_⟩
  .exact⟨_,_,_,rfl,e5,d5,l5,o5⟩
  .rintro k σ H6 hk ⟨r6,r7,r8,rfl,e6,d6,l6,o6⟩;have hkm:k<most:=by lia
   have hk0:(0:Int)+(k:Nat)=(k:Nat):=by lia
   rw[hk0];have hg:GQ H6 d (.ref a) (some (.ref l)):=by
    have:=GQ.t (k:=Fi p) d6 (by rw[IX];exact e6 _ _ k2);rw[hvp]at this;exact this
   refine⟨_,rfl,_,rfl,d,.ref l,rfl,hg,.inl ⟨rfl,_,AO.of l6⟩,_,rfl,_,rfl,_,rfl,_,rfl,d,R,a,k,most+1,most,nn,m,X,p,_,rvs,rfl,e6 _ _ q1,fun u Y=>?_,by lia,e6 _ _ k2,hpo,nn4,d6,fun h0=>?_,by lia,fun u j Y hj=>hxs u j Y (by lia),fun h0 j hj=>hser _ (hpo.low h0) j (by lia),by lia,fun H7 e7=>?_⟩
   .obtain⟨a,j1,j2⟩:=q3 u Y;exact⟨a,j1,e6 _ _ j2⟩
   .have hlo:=Zg ord M h0;refine⟨ls (BR p (fu p)),?_,o6 _ hlo,by lia⟩;rw[Jf _ _ _ _ hno,if_neg fun w=>U (by have e:=X0 w;rw[<-e];exact hlo)];exact pr.val _ hlo
   refine⟨l,_,_,rfl,rfl,e7 _ _ l6,Bk (n:=60) (by rw[List.length_map,Gz];lia) (by decide),?_⟩;refine⟨_,_,_,rfl,fun b o z=>?_,?_,?_,fun z g=>?_⟩
   .rw[AI (AM z hnl)];exact e7 _ _ (e6 _ _ z)
   .rw[AI (Ne.symm hdl)];exact e7 _ _ d6
   .rw[AH,Mg,List.map_append];rfl
   .rw[AI (hls z g)];exact e7 _ _ (o6 z g)
  .rintro σ H6 ⟨r6,r7,r8,rfl,e6,d6,l6,o6⟩;rw[show(most:Int).toNat=most by lia]at l6;refine⟨_,_,_,_,kvs++[(Fi p,.ref l)],fun z=>if z=p then l else ls z,rfl,e6,⟨d6,?_,fun z g=>?_,fun z g=>?_,fun y hy z g=>?_⟩,fun z g=>?_⟩
   .rw[List.map_append,pr.key,List.take_add_one,M,List.map_append];rfl
   .rw[Jf _ _ _ _ hno];by_cases y:z=p
    .rw[if_pos (by rw[y]),if_pos y]
    .rw[if_neg fun w=>y (X0 w),if_neg y];exact pr.val z (((Ea M).mp g).resolve_right y)
   .by_cases y:z=p
    .rw[if_pos y];exact⟨hnl,hdl⟩
    .rw[if_neg y];exact pr.new z (((Ea M).mp g).resolve_right y)
   .rcases(Ea M).mp hy with Z|Z<;>rcases(Ea M).mp g with h2|h2
    .have n1:y≠p:=fun w=>U (w ▸ Z);have n2:z≠p:=fun w=>U (w ▸ h2);rw[if_neg n1,if_neg n2];exact pr.inj y Z z h2
    .have n1:y≠p:=fun w=>U (w ▸ Z);rw[if_neg n1,if_pos h2];exact fun w=>absurd w (hls y Z)
    .have n2:z≠p:=fun w=>U (w ▸ h2);rw[if_pos Z,if_neg n2];exact fun w=>absurd w.symm (hls z h2)
    .exact fun _=>Z.trans h2.symm
   .show H6 (if z=p then l else ls z)=_;by_cases y:z=p
    .rw[if_pos y,y];exact l6
    .rw[if_neg y];exact o6 z (((Ea M).mp g).resolve_right y)
 rintro σ H4 ⟨r5,r6,r7,r8,kvs,ls,rfl,e4,pr,hem⟩;rw[hLl,List.take_length]at pr hem;refine⟨BJ (show 0<=60 by decide),fun D hD=>?_⟩;have eD:=AK hD (.lst []);have hD5:upd H4 D (.lst []) D=some (.lst []):=AH;generalize upd H4 D (.lst [])=H5 at eD hD5;have hDn:H D=none:=Cy e4 hD;have nD:∀p∈os,ls p≠D:=fun p M z=>by rw[<-z,hem p M]at hD;cases hD
 refine⟨_,rfl,C,rfl,⟨_,AO.of (eD _ _ (e4 _ _ hC))⟩,Bp (xs:=cs) (fun i σ H'=>∃(r5 r6 r8:Option V) (ys:List V),σ=[some (.ref C),some (.ref O),some (.ref R),some (.int (most:Nat)),some (.ref d),r5,r6,some (.ref D),r8]/\AG H H'/\(∀b o,b≠D->H5 b=some o->H' b=some o)/\H' D=some (.lst ys)/\ys.length=i/\∀u,u<i->∃a,ys[u]? = some (.ref a)/\H' a=some (.lst ((BX (CY uss X u) most).map V.int))/\H a=none/\a≠D) ?_ ?_ ?_ ?_⟩
 .exact⟨_,_,_,[],rfl,e4.trans eD,fun _ _ _ h=>h,hD5,rfl,fun u Y=>absurd Y (by lia)⟩
 .rintro i σ H' _ ⟨r5,r6,r8,ys,rfl,e,_⟩;exact AO.of (e _ _ hC)
 .rintro i x σ H6 hx ⟨r5,r6,r8,ys,rfl,e6,b6,hD6,hyl,hy⟩;have hi:i<uss.length:=by rw[<-hcl];exact(aB.mp hx).1
  have Y:uss[i]? = some uss[i]:=by simp[hi]
  obtain⟨ca,xs,k1,k2,k3⟩:=IY dc Y;have I:=aI Y;have hsu:CY uss X i=PV X uss[i]:=by unfold CY;funext k;rw[List.getD_eq_getElem?_getD,Y];rfl
  generalize uss[i]=us at Y k3 I hsu;rw[hx]at k1;cases k1;have hd6:H6 d=some (.dT kvs):=b6 _ _ (fun z=>by subst z;rw[pr.at_]at hD;cases hD) (eD _ _ pr.at_);have pl6:∀p∈os,H6 (ls p)=some (.lst ((BX (Dx X p) most).map V.int)):=fun p M=>b6 _ _ (nD p M) (eD _ _ (hem p M));refine⟨_,rfl,.inl ⟨rfl,_,AO.of hD6⟩,_,rfl,(most:Int),rfl,by lia,by lia,fun D1 hD1=>Ba (n:=(most:Int).toNat) (fun k zs H'=>AG H6 H'/\zs=(BX (PV X us) k).map V.int) ⟨AK hD1 _,rfl⟩ ?_ ?_⟩
  .rintro k zs H7 hk ⟨e7,rfl⟩ hD7;have hkm:k<most:=by lia
   have E7:=e6.trans e7;refine⟨hk,Bk (n:=60) (by rw[List.length_map,Gz];lia) (by decide),fun x H' y=>?_⟩;obtain⟨rfl,rfl⟩:=y;have hk0:(0:Int)+(k:Nat)=(k:Nat):=by lia
   rw[hk0];unfold Bj;refine BA ⟨_,rfl,_,rfl,_,rfl,ca,d,xs,us,kvs,X,k,most,m,rfl,E7 _ _ k2,k3.same E7,hfew us I,e7 _ _ hd6,fun z g=>⟨⟨ls z.1,pr.val _ (ord.has us I z g),e7 _ _ (pl6 _ (ord.has us I z g))⟩,hnum us I z g,hser _ (hpw us I z g) k hkm⟩,by lia,by lia,fun H8 e8=>?_⟩;refine⟨e8 _ _ hD7,A8 hk ⟨fun b o z=>?_,?_⟩⟩
   .rw[AI (AM z hD1)];exact e8 _ _ (e7 _ _ z)
   .rw[Mg,List.map_append];rfl
  rintro zs H7 ⟨e7,rfl⟩ hD7;rw[show(most:Int).toNat=most by lia,<-hsu]at hD7;have n1:D1≠D:=fun z=>by subst z;rw[hD6]at hD1;cases hD1
  refine⟨aD _,D,ys,_,rfl,rfl,e7 _ _ hD6,Bk (n:=60) (by lia) (by decide),?_⟩;refine⟨_,_,_,ys++[.ref D1],rfl,fun b o z=>?_,fun b o n z=>?_,AH,by simp[hyl],fun u Y=>?_⟩
  .rw[AI (AM z hDn)];exact e7 _ _ (e6 _ _ z)
  .rw[AI n];exact e7 _ _ (b6 _ _ n z)
  .rcases Nat.lt_or_eq_of_le (Nat.le_of_lt_succ Y) with Z|Z
   .obtain⟨a,j1,j2,j3,j4⟩:=hy u Z;exact⟨a,by rw[List.getElem?_append_left (by lia)];exact j1,by rw[AI j4];exact e7 _ _ j2,j3,j4⟩
   .subst Z;exact⟨D1,by rw[List.getElem?_append_right (by lia)];simp[hyl],by rw[AI n1];exact hD7,Cy e6 hD1,n1⟩
 .rintro σ H6 ⟨r5,r6,r8,ys,rfl,e6,_,hD6,hyl,hy⟩;refine⟨_,rfl,q D H6 e6 hDn ⟨ys,hD6,by rw[hyl,hcl,hul],fun u Y=>?_⟩⟩;obtain⟨a,j1,j2,j3,_⟩:=hy u (by rw[hcl,hul];exact Y);exact⟨a,j1,j2,j3,fun z=>z⟩
end
mutual
theorem HF{H:Hp}:∀ {d:PyData} {v:V},d.canLay0=true->Du H d v->DU H d v
 |.none,_,_,h=>by rw[Du]at h;subst h;exact .BM
 |.bool _,_,_,h=>by rw[Du]at h;subst h;exact .bool
 |.int _,_,_,h=>by rw[Du]at h;subst h;exact .int
 |.str _,_,_,h=>by rw[Du]at h;subst h;exact .str
 |.tuple _,_,c,h=>by
  rw[Du]at h;obtain⟨a,xs,rfl,I,g⟩:=h;exact .tup I (OG (by simpa only[PyData.canLay0]using c) g)
 |.list _,_,c,h=>by
  rw[Du]at h;obtain⟨a,xs,rfl,I,g⟩:=h;exact .lst I (OG (by simpa only[PyData.canLay0]using c) g)
 |.dict _,_,c,h=>by simp[PyData.canLay0]at c
theorem OG{H:Hp}:∀ {ds:List PyData} {xs:List V},PyData.canLayAll0 ds=true->A0 H ds xs->Am H ds xs
 |[],_,_,h=>by rw[h.nil_eq];exact .nil
 |_::_,_,c,h=>by
  obtain⟨x,r,rfl,I,g⟩:=h.un;simp only[PyData.canLayAll0,Bool.and_eq_true]at c;exact .cons (HF c.1 I) (OG c.2 g)
end
mutual
theorem Y0{l:Addr}{H:Hp}:∀ {d:PyData} {v:V},Dt l H d v->Du H d v
 |.none,_,h=>by rw[Dt]at h;rw[Du];exact h
 |.bool _,_,h=>by rw[Dt]at h;rw[Du];exact h
 |.int _,_,h=>by rw[Dt]at h;rw[Du];exact h
 |.str _,_,h=>by rw[Dt]at h;rw[Du];exact h
 |.tuple _,_,h=>by
  rw[Dt]at h;rw[Du];obtain⟨a,xs,rfl,n,I,g⟩:=h;exact⟨a,xs,rfl,I,OS g⟩
 |.list _,_,h=>by
  rw[Dt]at h;rw[Du];obtain⟨a,xs,rfl,n,I,g⟩:=h;exact⟨a,xs,rfl,I,OS g⟩
 |.dict _,_,h=>by rw[Dt]at h;exact h.elim
theorem OS{l:Addr}{H:Hp}:∀ {ds:List PyData} {xs:List V},AQ l H ds xs->A0 H ds xs
 |[],_,h=>by rw[AQ]at h;subst h;exact .nil
 |_::_,_,h=>by
  rw[AQ]at h;obtain⟨x,r,rfl,I,g⟩:=h;exact .cons (Y0 I) (OS g)
end
theorem DU.du{H:Hp}{d:PyData}{v:V}(h:DU H d v):Du H d v:=let⟨N,k⟩:=h;Y0 (k N (aD _))
theorem iY{G H H':Hp}{l:Addr}{vs:List V}{ds:List PyData}(R:AG G H)(e:AG H H')(I:H' l=some (.tup vs))(d:A0 G ds vs):∃g,AG G g/\Nw G H g/\AG g H'/\Du g (.tuple ds) (.ref l):=by
 have M:AG G (upd G l (.tup vs)):=fun a o h=>by
  by_cases ha:a=l
  .subst ha;have:=e _ _ (R _ _ h);rw[I]at this;rw[AH];exact this
  .rw[AI ha];exact h
 refine⟨upd G l (.tup vs),M,fun a u h=>?_,fun a u h=>?_,?_⟩
 .by_cases ha:a=l
  .subst ha;rw[AH]at h;cases h;exact .inr (.inr ⟨_,rfl⟩)
  .rw[AI ha]at h;exact .inl h
 .by_cases ha:a=l
  .subst ha;rw[AH]at h;rw[I];exact h
  .rw[AI ha]at h;exact e _ _ (R _ _ h)
 .rw[Du];exact⟨l,vs,rfl,AH,d.same M⟩
theorem Mo{G:Hp}:∀ps:List Int,A0 G (ps.map .int) (ps.map V.int)
 |[]=>.nil
 |p::ps=>.cons (by rw[Du]) (Mo ps)
theorem Qc:∀ps:List Int,PyData.canLayAll0 (ps.map .int)=true
 |[]=>by simp[PyData.canLayAll0]
 |p::ps=>by rw[List.map_cons];simp only[PyData.canLayAll0,PyData.canLay0];rw[Qc ps];rfl
theorem LV{ds:List PyData}(h:∀d∈ds,d.canLay0=true):PyData.canLayAll0 ds=true:=by
 induction ds with
 |nil=>simp[PyData.canLayAll0]
 |cons d ds g=>simp only[PyData.canLayAll0];rw[h d (.head _),g fun e I=>h e (.tail _ I)];rfl
theorem QU{ds:List PyData}(h:∀d∈ds,d.canLay0=true):(PyData.list ds).canLay0=true:=by simp only[PyData.canLay0];exact LV h
theorem VP{ds:List PyData}(h:∀d∈ds,d.canLay0=true):(PyData.tuple ds).canLay0=true:=by simp only[PyData.canLay0];exact LV h
def Hk(G H H':Hp):Hp:=fun b=>match H' b with
 |some (.tup xs)=>some (.tup xs)
 |some o=>if H b=none then some o else G b
 |none=>none
theorem fj{G H H':Hp}{a:Addr}{xs:List V}(h:H' a=some (.tup xs)):Hk G H H' a=some (.tup xs):=by unfold Hk;rw[h]
theorem RH{G H H':Hp}{a:Addr}{xs:List V}(h:H' a=some (.lst xs))(h0:H a=none):Hk G H H' a=some (.lst xs):=by unfold Hk;rw[h];exact if_pos h0
theorem Ud{G H H':Hp}(I:AG G H)(e:AG H H'):AG G (Hk G H H')/\Nw G H (Hk G H H')/\AG (Hk G H H') H':=by
 refine⟨fun a o h=>?_,fun a o h=>?_,fun a o h=>?_⟩
 .have g:=I _ _ h;have M:=e _ _ g;unfold Hk;rw[M];cases o with
  |tup xs=>rfl
  |_=>simp only[g];exact h
 .unfold Hk at h;split at h
  .cases h;exact .inr (.inr ⟨_,rfl⟩)
  .split at h
   .rename_i z;exact .inr (.inl z)
   .exact .inl h
  .cases h
 .unfold Hk at h;cases z:H' a with
  |none=>rw[z]at h;cases h
  |some u=>
   rw[z]at h;cases u with
   |tup xs=>exact h
   |_=>
    simp only at h;split at h
    .exact h
    .rw[<-z];exact e _ _ (I _ _ h)
theorem Kd{G H H':Hp}:∀ {qs:List Rat} {xs:List V},Am H' (AR qs) xs->A0 (Hk G H H') (AR qs) xs
 |[],xs,h=>by
  have:=h.len;have e:xs=[]:=List.eq_nil_of_length_eq_zero (by simpa[AR]using this);rw[e];exact .nil
 |q::qs,xs,h=>by
  obtain⟨x,r,rfl,M,I⟩:=Am.UN (d:=Aj q) (ds:=AR qs) h;obtain⟨p,rfl,g⟩:=M.rat;refine .cons ?_ (Kd I);unfold Aj;rw[Du];exact⟨p,_,rfl,fj g,Mo [q.num,(q.den:Int)]⟩
section
variable{P:Program}{w:World}{K:PySem.W.Frag}{mg:Str->Option Value}{base:Heap}{f:Addr}{fd:FuncData}
theorem NX:Ab ["row","speeds","unknown","most","total","part","rows"] ["row","speeds","unknown","most"] (AN Kx):=⟨rfl,rfl,rfl,by decide +kernel,rfl,by decide +kernel,by decide +kernel⟩
def Ph:DF :=
 (Gr (Mk 4 (CU G7 (jk (Al (fC (.int 0)) Cc)) (nm 3)))
 (Gr (Oj (QS zip2 (Al (nm 0) (Al (nm 1) Cc))) (HE 5 6)
  (Y5 (cN (W4 true) (nm 5) (fC (.int 0)))
   (Mk 4 (C2 (HE 1 2) F0 (CU Ut (nm 1) (CU G7 (nm 3) (nm 2))) [none,none,none,some 5] (QS zip2 (Al (nm 4) (Al (CU GK (nm 6) (nm 2)) Cc)))))
   Y2))
 (OV (nm 4))))
def K3:List PyData->Option PyData:=LZ ["row","speeds","unknown","most"] ["row","speeds","unknown","most","total","part","rows"] (Ph)
theorem U3{k:Nat}(F:Fn K mg "read_at" Kx ["row","speeds","unknown","most"] f fd)(g:mg "zip" = none) :
  AL P w K mg base AY (k+1) f fd ["row","speeds","unknown","most"] (FD (K3)):=dM F NX fun cdv A outer s H E I=>by
 have sc:=NX;exact(Ex (N4 (i:=4) sc.nd rfl (Or.inl rfl) (IJ Iy (fY (Ai Ca CM)) (Ak (pv 3))))
 (Ex (SE aP rfl (V3 rfl g (Ai (Ak (pv 0)) (Ai (Ak (pv 1)) CM))) (eE (GY rfl (Bg (An (i:=5) sc.nd rfl (Or.inr rfl)) (Bg (An (i:=6) sc.nd rfl (Or.inl rfl)) FK))))
  (FQ (Y3 (gL (gj (by have:=I.units;exact this)) (Ak (pv 5)) Ca (Ay _))
   (FQ (TJ (i:=4) [".0","number","speed","part"] 1 2 [none,none,none,some 5] sc.nd rfl rfl (V3 rfl g (Ai (Ak (pv 4)) (Ai (FH (Ak (pv 6)) (Ak (pv 2)) (fun _ _=>rfl)) CM))) (fun _ _ _ _ _=>Lw) (fun _ _ _ _ _=>(IJ WH (Ak (pv 1)) (IJ Iy (Ak (pv 3)) (Ak (pv 2)))))))
   Um)))
 (FQ (K1 (Ak (pv 4))))))
end
def C3:PyData->Rat
 |.tuple [.int a,.int b]=>Rat.divInt a b
 |_=>0
theorem Im(r:Rat):C3 (Aj r)=r:=FM.Bc r
theorem Ox(r:Rat):(Aj r).canLay0=true:=by unfold Aj;simp only[PyData.canLay0];exact Qc [r.num,(r.den:Int)]
theorem OO{i j:Int}{n:Nat}(h1:i.natAbs<2^n)(g:j.natAbs<2^n)(hn:n<=9000):G7 (.int i) (.int j)=some (.int (i*j)):=fN (by
 unfold Nd;rw[V2 (n:=9000) (aN h1 (bD (by decide) hn)),V2 (n:=9000) (aN g (bD (by decide) hn))];simp)
theorem Ww{α:Type}{i j:Nat}{f:Dv->Option PyData}{fs:Dv->Option (List PyData)}{δ:Dv}{fr:List (Option Nat)}{zs:List α}{a b g:α->PyData}(R:fs δ=some (zs.map fun z=>.tuple [a z,b z]))(U:zs.length<=El)
 (h:∀z∈zs,f (((Bz fr δ).set i (.d (a z))).set j (.d (b z)))=some (g z)):Hw (HE i j) F0 f fr fs δ=some (zs.map g):=by
 unfold Hw;rw[R,Option.bind_some];have:∀zs:List α,(∀z∈zs,f (((Bz fr δ).set i (.d (a z))).set j (.d (b z)))=some (g z))->L2.collect (JC (HE i j) F0 f (Bz fr δ)) (zs.map fun z=>.tuple [a z,b z])=some (zs.map g):=fun zs=>by
  induction zs with
  |nil=>intro _;rfl
  |cons z zs I=>
   intro h;rw[List.map_cons,List.map_cons];unfold L2.collect;rw[I fun y M=>h y (.tail _ M)];have e:JC (HE i j) F0 f (Bz fr δ) (.tuple [a z,b z])=some (some (g z)):=by
    unfold JC HE;rw[Option.bind_some];show(some true).bind _=_;rw[Option.bind_some,if_pos rfl,h z (.head _)]
    rfl
   rw[e];rfl
 rw[this zs h,Option.bind_some,Ht,if_pos (by rw[List.length_map];exact U)]
theorem UX(x y:Int):W4 true (.int x) (.int y)=some (.bool (!decide (x=y))):=by
 have h:SeqAt.shaped (.int x)=true/\SeqAt.shaped (.int y)=true:=⟨(Ok.int (n:=0)).shaped (by decide),(Ok.int (n:=0)).shaped (by decide)⟩;refine(if_pos h).trans ?_;simp[PyData.eqv];exact Bool.eq_iff_iff.mpr (by simp)
abbrev Iq(f:Nat->Int)(n:Nat):List PyData:=(BX f n).map .int
abbrev WL(X:Nat->Nat->Int)(nn n:Nat):PyData:=.list ((List.range nn).map fun u=>.list (Iq (X u) n))
abbrev Hm(g:List (Nat->Nat->Int))(nn n:Nat):List PyData:=g.map fun S=>WL S nn n
def Fp(row:List Int)(g:List (Nat->Nat->Int))(u k:Nat):Int:=((row.zip g).map fun q=>q.1*q.2 u k).sum
theorem Hz(f:Nat->Int)(n:Nat):Iq f n=(List.range n).map fun t=>.int (f t):=by unfold Iq BX;rw[List.map_map];rfl
theorem P7:∀(l:List Int) (x:Int),(l++[x]).sum=l.sum+x
 |[],x=>by simp
 |y::l,x=>by rw[List.cons_append,List.sum_cons,P7 l x,List.sum_cons,Int.add_assoc]
theorem dJ(x:PyData)(n:Nat)(h:n<=500):G7 (.list [x]) (.int (n:Nat))=some (.list (List.replicate n [x]).flatten):=by
 show(match Q4 (.list [x]) (.int (n:Nat)) with|some z=>some z|none=>Rz (.list [x]) (.int (n:Nat)))=_;exact if_pos ⟨by unfold El;simp;lia,by lia,by lia⟩
theorem YB{m:List PyData->Option (List PyData)}{fs:Dv->Option (List PyData)}{δ:Dv}{xs:List PyData}(h:fs δ=some xs):QS m fs δ=m xs:=by
 show(fs δ).bind m=_;rw[h];rfl
theorem YQ(n:Nat)(h:n<=500):G7 (.list [.int 0]) (.int (n:Nat))=some (.list ((List.range n).map fun _=>.int 0)):=by
 rw[dJ _ _ h]
 congr 2
 clear h
 induction n with
 |zero=>rfl
 |succ n g=>rw[List.replicate_succ',List.flatten_append,g,List.range_succ,List.map_append];rfl
theorem b0{row:List Int}{M:List (Nat->Nat->Int)}{nn most u:Nat}(hl:row.length=M.length)(hu:u<nn)(hm:most<=20)(hr:∀p∈row,p.natAbs<2^4400)(hs:∀S∈M,∀k,k<most->(S u k).natAbs<2^4400) :
  K3 [.list (row.map .int),.list (Hm M nn most),.int (u:Nat),.int (most:Nat)]=some (.list (Iq (Fp row M u) most)):=by
 refine OJ rfl ?_;unfold Ph;generalize hA:PyData.list (row.map .int)=A;generalize hB:PyData.list (Hm M nn most)=B
 let I:Nat->Nat->Int:=fun i k=>(((row.zip M).take i).map fun q=>q.1*q.2 u k).sum
 refine Gu (δ':=[.d A,.d B,.d (.int (u:Nat)),.d (.int (most:Nat)),.d (.list (Iq (I 0) most)),.no,.no]) (J1 (Fd (x:=.list [.int 0]) (y:=.int (most:Nat)) rfl rfl ((YQ most (by lia)).trans (by rw[Hz];rfl)))) ?_;refine Q8 (xs:=Js (row.map .int) (Hm M nn most)) (fun i δ=>∃d5 d6:L,δ=[.d A,.d B,.d (.int (u:Nat)),.d (.int (most:Nat)),.d (.list (Iq (I i) most)),d5,d6]) (by rw[<-hA,<-hB];rfl) ⟨_,_,rfl⟩ ?_ ?_
 .rintro i y δ hy ⟨d5,d6,rfl⟩;obtain⟨p',s',Y,U,rfl⟩:=Mn hy;have hi:i<row.length:=by have:=(aB.mp Y).1;simpa using this
  have hiS:i<M.length:=by lia
  have hp:row[i]? = some row[i]:=aF hi;have hS:M[i]? = some M[i]:=aF hiS;rw[List.getElem?_map,hp]at Y;cases Y;unfold Hm at U;rw[List.getElem?_map,hS]at U;cases U;have R:∀k,I (i+1) k=I i k+row[i]*M[i] u k:=fun k=>by
   show(((row.zip M).take (i+1)).map _).sum=_;have hz:(row.zip M)[i]? = some (row[i],M[i]):=List.getElem?_zip_eq_some.mpr ⟨hp,hS⟩;rw[List.take_add_one,hz,Option.toList_some,List.map_append];exact P7 _ _
  have hpb:=hr _ (au hi);have Z:=hs _ (au hiS);generalize row[i]=p at R hpb hp;generalize M[i]=S at R Z hS;refine⟨[.d A,.d B,.d (.int (u:Nat)),.d (.int (most:Nat)),.d (.list (Iq (I i) most)),.d (.int p),.d (WL S nn most)],rfl,?_⟩;by_cases z:p=0
  .refine⟨_,ZD (UO (x:=.int p) (y:=.int 0) rfl rfl ((UX _ _).trans (by rw[decide_eq_true z];rfl))) rfl,.d (.int p),.d (WL S nn most),?_⟩;have:I (i+1)=I i:=by funext k;rw[R,z];simp
   rw[this]
  .refine⟨_,iG (UO (x:=.int p) (y:=.int 0) rfl rfl ((UX _ _).trans (by rw[decide_eq_false z];rfl))) (J1 (y:=.list (Iq (I (i+1)) most)) ?_),_,_,rfl⟩;have hx:QS zip2 (Al (nm 4) (Al (CU GK (nm 6) (nm 2)) Cc)) [.d A,.d B,.d (.int (u:Nat)),.d (.int (most:Nat)),.d (.list (Iq (I i) most)),.d (.int p),.d (WL S nn most)]=some ((List.range most).map fun k=>PyData.tuple [.int (I i k),.int (S u k)]):=by
    rw[YB (xs:=[.list (Iq (I i) most),.list (Iq (S u) most)]) (BD rfl (BD (IV (by rw[List.getElem?_map,List.getElem?_range hu];rfl)) rfl))];show some (Js (Iq (I i) most) (Iq (S u) most))=_;rw[Hz,Hz];unfold Js;rw[List.zip_map',List.map_map];rfl
   have:=Ww (i:=1) (j:=2) (f:=CU Ut (nm 1) (CU G7 (nm 3) (nm 2))) (fr:=[none,none,none,some 5]) (zs:=List.range most) (a:=fun k=>PyData.int (I i k)) (b:=fun k=>PyData.int (S u k)) (g:=fun k=>PyData.int (I (i+1) k)) hx (by simp;exact aU hm (by decide)) (fun k hk=>by
    have hk:=bN.mp hk;refine Fd (x:=.int (I i k)) (y:=.int (p*S u k)) rfl (Fd (x:=.int p) (y:=.int (S u k)) rfl rfl (OO hpb (Z k hk) (by decide))) ?_;rw[R];rfl)
   unfold C2;rw[this,Hz];rfl
 .rintro δ' ⟨d5,d6,rfl⟩;have hzl:(Js (row.map PyData.int) (Hm M nn most)).length=(row.zip M).length:=by unfold Js Hm;simp
  rw[hzl];refine L7 ?_;show some (PyData.list (Iq (I (row.zip M).length) most))=_;have:I (row.zip M).length=Fp row M u:=by
   funext k
   show(((row.zip M).take (row.zip M).length).map _).sum=_;rw[List.take_length];rfl
  rw[this]
def KD(x0:Nat->Int)(row:List Int)(g:List (Nat->Nat->Int)):Nat->Nat->Int:=fun u k=>match k with
 |0=>x0 u
 |k+1=>Fp row g u k
def Lc(x0:Nat->Int):Nat->Nat->Int:=fun u k=>match k with
 |0=>x0 u
 |_+1=>0
def HV(x0:Nat->Int)(uss:List (List AV)):List (List Int)->List (Nat->Nat->Int)×(Nat->Nat->Int)->List (Nat->Nat->Int)×(Nat->Nat->Int)
 |[],z=>z
 |row::rows,z=>HV x0 uss rows (z.1++[CY uss z.2],KD x0 row (z.1++[CY uss z.2]))
def BW(x0:Nat->Int)(uss:List (List AV))(rows:List (List Int)):List (Nat->Nat->Int)×(Nat->Nat->Int):=HV x0 uss rows ([],Lc x0)
theorem NL(x0:Nat->Int)(uss:List (List AV))(row:List Int):∀(rows:List (List Int)) (z:List (Nat->Nat->Int)×(Nat->Nat->Int)),HV x0 uss (rows++[row]) z=((HV x0 uss rows z).1++[CY uss (HV x0 uss rows z).2],KD x0 row ((HV x0 uss rows z).1++[CY uss (HV x0 uss rows z).2]))
 |[],z=>rfl
 |r::rows,z=>NL x0 uss row rows _
theorem IQ(x0:Nat->Int)(uss:List (List AV))(rows:List (List Int))(row:List Int):BW x0 uss (rows++[row])=((BW x0 uss rows).1++[CY uss (BW x0 uss rows).2],KD x0 row ((BW x0 uss rows).1++[CY uss (BW x0 uss rows).2])):=NL x0 uss row rows _
theorem O9(x0:Nat->Int)(uss:List (List AV)):∀(rows:List (List Int)) (z:List (Nat->Nat->Int)×(Nat->Nat->Int)),(HV x0 uss rows z).1.length=z.1.length+rows.length
 |[],z=>by simp[HV]
 |r::rows,z=>by rw[HV,O9 x0 uss rows];simp;lia
theorem Xe(x0:Nat->Int)(row:List Int)(g:List (Nat->Nat->Int))(u n:Nat):BX (KD x0 row g u) (n+1)=x0 u::BX (Fp row g u) n:=by
 unfold BX;rw[List.range_succ_eq_map,List.map_cons,List.map_map];rfl
theorem Vs(x0:Nat->Int)(u n:Nat):BX (Lc x0 u) (n+1)=x0 u::List.replicate n 0:=by
 unfold BX;rw[List.range_succ_eq_map,List.map_cons,List.map_map]
 congr 1
 induction n with
 |zero=>rfl
 |succ n g=>rw[List.range_succ,List.map_append,g,List.replicate_succ'];rfl
theorem Pc{x0:Nat->Int}{uss:List (List AV)}{nn most M:Nat}{rows:List (List Int)}(h:∀i,i<rows.length->∀u k,u<nn->k<most->(CY uss (BW x0 uss (rows.take i)).2 u k).natAbs<M):∀i,i<=rows.length->∀S∈(BW x0 uss (rows.take i)).1,∀u k,u<nn->k<most->(S u k).natAbs<M
 |0,_,S,I,_,_,_,_=>by cases I
 |i+1,hi,S,I,u,k,R,U=>by
  have g:rows[i]? = some (rows[i]' hi):=aF hi;rw[List.take_add_one,g,Option.toList_some,IQ]at I;rcases aS.mp I with z|z
  .exact Pc h i (by lia) S z u k R U
  .rw[List.mem_singleton.mp z];exact h i hi u k R U
structure dF(uss:List (List AV))(x0:List Int)(rows:List (List Int))(most nn m:Nat):Prop where
 n4:nn<=4
 len:uss.length=nn
 Oy:x0.length=nn
 Ua:most<=19
 Ht:∀us∈uss,us.length<=50
 pw:∀us∈uss,∀z∈us,CJ nn z.1
 num:∀us∈uss,∀z∈us,z.2.num.natAbs<2^m
 Xl:∀i row,rows[i]? = some row->row.length=i+1
 lD:rows.length<=40
 lE:∀row∈rows,∀p∈row,p.natAbs<2^4400
 xs:∀i,i<rows.length->∀u k,u<nn->k<most->((BW (x0.getD · 0) uss (rows.take i)).2 u k).natAbs<2^m
 kX:∀i,i<rows.length->∀ps,CJ nn ps->∀k,k<most->(Dx (BW (x0.getD · 0) uss (rows.take i)).2 ps k).natAbs<2^m
 FF:∀i,i<rows.length->∀u k,u<nn->k<most->(CY uss (BW (x0.getD · 0) uss (rows.take i)).2 u k).natAbs<2^4400
 m4:m<=4000
theorem Qf{D:Addr}{H:Hp}:∀ns:List Int,AQ D H (ns.map .int) (ns.map V.int)
 |[]=>.nil
 |_::ns=>.cons .int (Qf ns)
theorem Pa:∀n:Nat,(List.replicate n [V.int 0]).flatten=(List.replicate n (0:Int)).map V.int
 |0=>rfl
 |n+1=>by rw[List.replicate_succ,List.flatten_cons,Pa n,List.replicate_succ,List.map_cons];rfl
theorem Nc{H:Hp}:∀ {ns:List Int} {xs:List V},A0 H (ns.map .int) xs->xs=ns.map V.int
 |[],xs,h=>h.nil_eq
 |n::ns,xs,h=>by
  obtain⟨x,r,rfl,g,I⟩:=h.un;rw[Du]at g;rw[g,Nc I];rfl
theorem iE{H0 H:Hp}{no:Addr->Prop}{R D:Addr}{nn n:Nat}{X:Nat->Nat->Int}{o:HO}(h:LR H0 H no R nn n X)(hR:H0 R=none)(g:H0 D=some o):Dt D H (WL X nn n) (.ref R):=by
 obtain⟨I,h1,h2,h3⟩:=h;refine .lst (fun z=>by subst z;rw[hR]at g;cases g) h1 ?_;have:∀i,i<=nn->AQ D H ((List.range i).map fun u=>.list (Iq (X u) n)) (I.take i):=fun i=>by
  induction i with
  |zero=>intro _;exact .nil
  |succ i Z=>
   intro hi;obtain⟨a,Y,U,M,_⟩:=h3 i (by lia);rw[List.range_succ,List.map_append,List.take_add_one,Y];refine(Z (by lia)).app (.cons (.lst (fun z=>by subst z;rw[M]at g;cases g) U ?_) .nil);exact Qf _
 have:=this nn (aD _);rw[List.take_of_length_le (by lia)]at this;exact this
def Y4:Sp:=fun vs H Q _=>∃(G C S:Addr) (gs cs:List V) (uss:List (List AV)) (x0:List Int) (rows:List (List Int)) (most nn m:Nat),vs=[.ref G,.ref C,.ref S,.int (most:Nat)]/\H G=some (.lst gs)/\Am H (rows.map fun r=>.list (r.map .int)) gs/\H C=some (.lst cs)/\Am H (uss.map CP) cs/\H S=some (.lst (x0.map V.int))/\dF uss x0 rows most nn m /\
 ∀(D:Addr) H',AG H H'->H D=none->LR H H' (fun _=>False) D nn (most+1) (BW (x0.getD · 0) uss rows).2->Q (.ref D) H'
section
variable{P:Program}{w:World}{K:PySem.W.Frag}{mg:Str->Option Value}{base:Heap}{f g1 g2 g3:Addr}{fd gd1 gd2 gd3:FuncData}
theorem QK:Ab ["reading","change","start","most","order","places","speeds","row"] ["reading","change","start","most"] (AN Io):=⟨rfl,rfl,rfl,by decide +kernel,rfl,by decide +kernel,by decide +kernel⟩
theorem QF(F:Fn K mg "whole_step" Io ["reading","change","start","most"] f fd)(Eo:Fn K mg "powers_needed" GW ["change"] g1 gd1)(GP:Fn K mg "speed_rows" JS ["change","order","places","most"] g2 gd2)(Ja:Fn K mg "read_at" Kx ["row","speeds","unknown","most"] g3 gd3)
 (Nr:AL P w K mg base AY 3 g1 gd1 ["change"] fF)(Qy:AL P w K mg base AY 3 g2 gd2 ["change","order","places","most"] fS)(LS:AL P w K mg base AY 3 g3 gd3 ["row","speeds","unknown","most"] (FD K3))(Ce:mg "enumerate" = none):AL P w K mg base AY 4 f fd ["reading","change","start","most"] Y4:=by
 have sc:=QK;refine F.F.ok (k:=3) sc (fun vs H Q E h=>?_) (fun cdv A outer s H vs Q E hr h=>?_)
 .obtain⟨G,C,S,gs,cs,uss,x0,rows,most,nn,m,rfl,_⟩:=h
  rfl
 obtain⟨G,C,S,gs,cs,uss,x0,rows,most,nn,m,rfl,hG,dg,hC,dc,hS,ok,q⟩:=h;obtain⟨nn4,hul,hxl,hmost,hfew,hpw,hnum,hrl,hrm,hrs,hxs,R,hsps,m4⟩:=ok;have hgl:gs.length=rows.length:=by rw[dg.len,List.length_map]
 refine⟨_,(AD (AU (i:=4) sc.nd rfl (Or.inl rfl) (AX Eo Nr hr rfl (AA (pv 1) AB)))
 (AD (HS (i:=5) [".0","number","most"] 1 [none,none,some 3] sc.nd rfl rfl (Av (pv 2)) (fun _ _ _ _ _=>BC) (fun _ _ _ _ _=>(Aa Lg (CA (AA (pv 1) AB)) (Aa V4 (CA (AA AE AB)) (pv 2)))))
 (AD (AU (i:=6) sc.nd rfl (Or.inr rfl) (CA AB))
 (AD (BU aP rfl (Av (pv 0)) (An (i:=7) sc.nd rfl (Or.inr rfl))
  (AD (Bu (GN ai ax ay C6 (pv 6) (AA (AX GP Qy hr rfl (AA (pv 1) (AA (pv 4) (AA (pv 5) (AA (pv 3) AB))))) AB)))
  (AF (JB (i:=5) [".0","k","number","row","speeds","most"] 1 2 [none,none,none,some 7,some 6,some 3] sc.nd rfl rfl (M5 rfl Ce (AA (pv 2) AB)) (fun _ _ _ _ _=>BC) (fun _ _ _ _ _=>(Aa Lg (CA (AA (pv 2) AB)) (AX Ja LS hr rfl (AA (pv 3) (AA (pv 4) (AA (pv 1) (AA (pv 5) AB)))))))))))
 (AF (Ac (pv 5))))))),?_⟩
 refine⟨_,rfl,C,cs,uss,nn,rfl,hC,dc,hpw,nn4,fun O H1 L e1 hO hO1 ord hL=>?_⟩;refine⟨_,rfl,S,rfl,⟨_,AO.of (e1 _ _ hS)⟩,fun D0 hD0=>Ba (n:=(x0.map V.int).length) (VR H H1 (fun _=>False) D0 (most+1) (Lc (x0.getD · 0))) ⟨AK hD0 _,rfl,fun u M=>absurd M (by lia)⟩ ?_ ?_⟩
 .rintro i ys H2 hi ⟨e2,hyl,hy⟩ I;have hi':i<x0.length:=by simpa using hi
  have hx:x0[i]? = some x0[i]:=aF hi';have hv:(x0.map V.int)[i]? = some (.int x0[i]):=by rw[List.getElem?_map,hx];rfl
  have hx0:x0.getD i 0=x0[i]:=by rw[List.getD_eq_getElem?_getD,hx];rfl
  generalize x0[i]=t at hx hv hx0;refine⟨⟨_,_,AO.of (e2 _ _ (e1 _ _ hS)),hv⟩,Bk (n:=60) (by lia) (by decide),fun x H' y=>?_⟩;obtain⟨rfl,y⟩:=y;have hx':=y _ (AO.of (e2 _ _ (e1 _ _ hS)));rw[hv]at hx';cases hx';unfold Bj;refine BA ⟨_,rfl,BJ (show 1<=60 by decide),fun l1 hl1=>⟨BJ (show 1<=60 by decide),fun l2 hl2=>?_⟩⟩;have a1:=AK hl1 (.lst [V.int t]);have a2:=AK hl2 (.lst [V.int 0]);refine⟨_,rfl,l2,(most:Int),_,rfl,rfl,AH,by lia,by lia,BJ (by simp;lia),fun l3 hl3=>?_⟩;have a3:=AK hl3 (.lst (List.replicate (most:Int).toNat [V.int 0]).flatten);refine⟨l1,l3,_,_,rfl,rfl,a3 _ _ (a2 _ _ AH),AH,BJ (by rw[len_rep];simp;lia),fun p hp=>?_⟩;have ap:=AK hp (.lst ([V.int t]++(List.replicate (most:Int).toNat [V.int 0]).flatten));have E:=a1.trans (a2.trans (a3.trans ap));have hDp:=E _ _ I;have npD:p≠D0:=fun z=>by
   have:=(a1.trans (a2.trans a3)) _ _ I;rw[<-z,hp]at this;cases this
  refine⟨hDp,A8 hi (PJ hD0 (e2.trans E) hDp hyl (fun u M=>?_) ?_ (Cy (e1.trans (e2.trans (a1.trans (a2.trans a3)))) hp) (fun z=>z) npD)⟩
  .obtain⟨b,j1,j2,j3⟩:=hy u M;exact⟨b,j1,E _ _ j2,j3⟩
  .rw[AH,Vs,hx0,show(most:Int).toNat=most by lia,Pa];rfl
 rintro ys0 H2 mk0 I;have e2:=mk0.1;refine⟨⟨_,AO.of (e2 _ _ (e1 _ _ hS)),Nat.le_refl _⟩,?_⟩;rw[List.length_map,hxl]at mk0;have r2:=SJ mk0 I;have E2:=e1.trans e2;have hD0n:H D0=none:=Cy e1 hD0;refine⟨BJ (show 0<=60 by decide),fun Sp hSp=>?_⟩;have e3:=AK hSp (.lst []);have hSp3:upd H2 Sp (.lst []) Sp=some (.lst []):=AH;have hSpn:H Sp=none:=Cy E2 hSp;have hSp1:H1 Sp=none:=Cy e2 hSp;have r3:LR H (upd H2 Sp (.lst [])) (fun b=>b=Sp) D0 nn (most+1) (Lc (x0.getD · 0)):=by
  obtain⟨rvs,k1,k2,k3⟩:=r2;refine⟨rvs,e3 _ _ k1,k2,fun u M=>?_⟩;obtain⟨b,j1,j2,j3,_⟩:=k3 u M;exact⟨b,j1,e3 _ _ j2,j3,fun z=>by rw[z,hSp]at j2;cases j2⟩
 have nD0:D0≠Sp:=fun z=>by rw[z,hSp]at I;cases I
 generalize upd H2 Sp (.lst [])=H3 at e3 hSp3 r3;have E3:=E2.trans e3;refine⟨_,rfl,G,rfl,⟨_,AO.of (E3 _ _ hG)⟩,Bp (xs:=gs) (fun i σ H'=>∃(Ra:Addr) (g:List V) (r7:Option V),σ=[some (.ref G),some (.ref C),some (.ref S),some (.int (most:Nat)),some (.ref O),some (.ref Ra),some (.ref Sp),r7]/\AG H1 H'/\H' Sp=some (.lst g)/\AQ Sp H' (Hm (BW (x0.getD · 0) uss (rows.take i)).1 nn most) g/\LR H H' (fun b=>b=Sp) Ra nn (most+1) (BW (x0.getD · 0) uss (rows.take i)).2/\H Ra=none/\Ra≠Sp) ?_ ?_ ?_ ?_⟩
 .exact⟨D0,[],_,rfl,e2.trans e3,hSp3,.nil,r3,hD0n,nD0⟩
 .rintro i σ H' _ ⟨Ra,g,r7,rfl,e,_⟩;exact AO.of (e _ _ (e1 _ _ hG))
 .rintro i x σ H4 hx ⟨Ra,g,r7,rfl,e4,Y,dsp,rw4,hRa,nRa⟩;have E4:=e1.trans e4;have hi:i<rows.length:=by rw[<-hgl];exact(aB.mp hx).1
  have U:rows[i]? = some rows[i]:=aF hi;obtain⟨v,k1,k2⟩:=dg.get (i:=i) (d:=.list ((rows[i]).map .int)) (by rw[List.getElem?_map,U];rfl);have hrlen:=hrl i _ U;have hrsz:=hrs _ (au hi);have hsn:BW (x0.getD · 0) uss (rows.take (i+1))=((BW (x0.getD · 0) uss (rows.take i)).1++[CY uss (BW (x0.getD · 0) uss (rows.take i)).2],KD (x0.getD · 0) rows[i] ((BW (x0.getD · 0) uss (rows.take i)).1++[CY uss (BW (x0.getD · 0) uss (rows.take i)).2])):=by rw[List.take_add_one,U,Option.toList_some];exact IQ _ _ _ _
  have hsl:(BW (x0.getD · 0) uss (rows.take i)).1.length=i:=by
   have:=O9 (x0.getD · 0) uss (rows.take i) ([],Lc (x0.getD · 0));rw[List.length_take,Nat.min_eq_left (by lia),List.length_nil,Nat.zero_add]at this;exact this
  have hxs:=hxs i hi;have R:=R i hi;have hspsA:∀S∈(BW (x0.getD · 0) uss (rows.take i)).1++[CY uss (BW (x0.getD · 0) uss (rows.take i)).2],∀u k,u<nn->k<most->(S u k).natAbs<2^4400:=by
   intro S hS u k M hk;rcases aS.mp hS with h|h
   .exact Pc hsps i (by lia) S h u k M hk
   .rw[List.mem_singleton.mp h];exact hsps i hi u k M hk
  generalize rows[i]=row at k2 hrlen hrsz U hsn;generalize BW (x0.getD · 0) uss (rows.take i)=z at dsp rw4 hsn hsl hxs R hspsA;obtain⟨Ss,X⟩:=z;rw[hx]at k1;cases k1;obtain⟨gr,grs,rfl,hgr,dgr⟩:=k2.Jm;refine⟨_,rfl,.inl ⟨rfl,_,AO.of Y⟩,_,rfl,_,rfl,_,rfl,_,rfl,C,O,Ra,cs,uss,L,X,most,nn,m,rfl,E4 _ _ hC,dc.same E4,e4 _ _ hO1,ord,fun l hl=>e4 _ _ (hL l hl),rw4.km,⟨nn4,hul,hmost,hfew,hpw,hnum,hxs,R,m4⟩,fun D H5 e5 hD rw5=>?_⟩;have hsvl:g.length=i:=by rw[dsp.len];unfold Hm;rw[List.length_map];exact hsl
  refine⟨Sp,g,_,rfl,rfl,e5 _ _ Y,Bk (n:=60) (by lia) (by decide),?_⟩;have d6:AQ Sp (upd H5 Sp (.lst (g++[.ref D]))) (Hm (Ss++[CY uss X]) nn most) (g++[.ref D]):=by
   unfold Hm;rw[List.map_append];exact .but .upd ((dsp.same e5).app (.cons (iE rw5 hD Y) .nil))
  have s6:upd H5 Sp (.lst (g++[.ref D])) Sp=some (.lst (g++[.ref D])):=AH;have e6:AG H1 (upd H5 Sp (.lst (g++[.ref D]))):=fun b o zz=>by rw[AI (AM zz hSp1)];exact e5 _ _ (e4 _ _ zz)
  generalize upd H5 Sp (.lst (g++[.ref D]))=H6 at d6 s6 e6;have E6:=e1.trans e6;have dSp6:DU H6 (.list (Hm (Ss++[CY uss X]) nn most)) (.ref Sp):=.lst s6 (B6 d6);have dgr6:DU H6 (.list (row.map .int)) (.ref gr):=(DU.lst hgr dgr).same E6;refine⟨_,rfl,S,rfl,⟨_,AO.of (E6 _ _ hS)⟩,fun D2 I=>Ey (n:=nn) (VR H H6 (fun b=>b=Sp) D2 (most+1) (KD (x0.getD · 0) row (Ss++[CY uss X]))) ⟨AK I _,rfl,fun u M=>absurd M (by lia)⟩ ?_ ?_⟩
  .rintro u ys H7 M ⟨e7,hyl,hy⟩ hD7;have E7:=E6.trans e7;have hx:x0[u]? = some (x0[u]'(by lia)):=aF _;have hv:(x0.map V.int)[u]? = some (.int (x0[u]'(by lia))):=by rw[List.getElem?_map,hx];rfl
   have hx0:x0.getD u 0=x0[u]'(by lia):=by rw[List.getD_eq_getElem?_getD,hx];rfl
   generalize x0[u]'(by lia)=t at hx hv hx0;refine⟨⟨_,_,AO.of (E7 _ _ hS),hv⟩,Bk (n:=60) (by lia) (by decide),fun v H' y=>?_⟩;obtain⟨p,x,rfl,np,rfl,kk⟩:=y;have hx':=kk _ (AO.of (E7 _ _ hS));rw[hv]at hx';cases hx';have ep:=AK np (.tup [.int (u:Nat),.int t]);refine⟨p,_,_,rfl,Af.of AH,?_⟩;generalize upd H7 p (.tup [.int (u:Nat),.int t])=H8 at ep;unfold Bj;refine BA ⟨_,rfl,BJ (show 1<=60 by decide),fun l1 hl1=>?_⟩;have a1:=AK hl1 (.lst [V.int t]);have hl1':upd H8 l1 (.lst [V.int t]) l1=some (.lst [V.int t]):=AH;generalize upd H8 l1 (.lst [V.int t])=H9 at a1 hl1';have e69:=e7.trans (ep.trans a1);refine⟨_,rfl,_,rfl,_,rfl,_,rfl,[.list (row.map .int),.list (Hm (Ss++[CY uss X]) nn most),.int (u:Nat),.int (most:Nat)],_,H9,b0 (by rw[List.length_append,hsl,List.length_singleton,hrlen]) M (by lia) hrsz (fun S hS k hk=>hspsA S hS u k M hk),.cons (dgr6.same e69).du (.cons (dSp6.same e69).du (.cons (by rw[Du]) (.cons (by rw[Du]) .nil))),.refl _,fun v G10 H10 _ _ gh e10 dv=>?_⟩;rw[Du]at dv;obtain⟨b,bs,rfl,hb,dbs⟩:=dv;have hb:=gh _ _ hb;have hbs:=Nc dbs;subst hbs;refine⟨l1,b,_,_,rfl,rfl,e10 _ _ hl1',hb,BJ (by simp[Gz];lia),fun p4 hp4=>?_⟩;have a4:=AK hp4 (.lst ([V.int t]++(BX (Fp row (Ss++[CY uss X]) u) most).map V.int));have Z:=ep.trans (a1.trans e10);have hD10:=Z _ _ hD7;have npD:p4≠D2:=fun zz=>by rw[zz,hD10]at hp4;cases hp4
   have hp7:H7 p4=none:=Cy Z hp4;refine⟨a4 _ _ hD10,A8 M (PJ I (e7.trans (Z.trans a4)) (a4 _ _ hD10) hyl (fun w hw=>?_) ?_ (Cy E7 hp7) ?_ npD)⟩
   .obtain⟨b,j1,j2,j3⟩:=hy w hw;exact⟨b,j1,a4 _ _ (Z _ _ j2),j3⟩
   .rw[AH,Xe,hx0];rfl
   .intro zz;rw[zz,e7 _ _ s6]at hp7;cases hp7
  rintro ys H7 mk hD7;have e7:=mk.1;refine⟨⟨_,AO.of (E6.trans e7 _ _ hS),by rw[List.length_map];exact hxl⟩,D2,g++[.ref D],_,rfl,e6.trans e7,e7 _ _ s6,?_,?_,Cy E6 I,fun zz=>by rw[zz,s6]at I;cases I⟩
  .rw[hsn];exact d6.same e7
  .rw[hsn];exact SJ mk hD7
 .rintro σ H4 ⟨Ra,g,r7,rfl,e4,Y,dsp,rw4,hRa,nRa⟩;rw[hgl,List.take_length]at rw4;obtain⟨rvs,k1,k2,k3⟩:=rw4;exact⟨_,rfl,q Ra H4 (e1.trans e4) hRa ⟨rvs,k1,k2,fun u M=>let⟨a,j1,j2,j3,_⟩:=k3 u M;⟨a,j1,j2,j3,fun z=>z⟩⟩⟩
end
def C1(f:Nat->Rat)(n:Nat):List Rat:=(List.range n).map f
theorem V5(f:Nat->Rat)(n:Nat):C1 f (n+1)=C1 f n++[f n]:=by unfold C1;rw[List.range_succ,List.map_append];rfl
theorem Xr(f:Nat->Rat)(n:Nat):(C1 f n).length=n:=by unfold C1;simp
def OE(f:Nat->Int)(Ck g:Int)(k:Nat):Rat:=Rat.divInt (f k) (g*Ck^k)
def ZW:Sp:=fun vs H Q _=>∃(a:Addr) (f:Nat->Int) (n:Nat) (Ck g:Int) (b:Nat),vs=[.ref a,.int Ck,.int g]/\H a=some (.lst ((BX f n).map V.int))/\n<=20/\Ck≠0/\g≠0/\g.natAbs<2^b/\Ck.natAbs<2^b/\b<=400 /\
 ∀D H' I,AG H H'->H D=none->H' D=some (.lst I)->Am H' (AR (C1 (OE f Ck g) n)) I->Q (.ref D) H'
def ZF:Sp:=fun vs H Q _=>∃n:Nat,vs=[.int (n:Nat)]/\n<=7/\Q .BM H
theorem WB{b:Int}(h:b≠0)(n:Nat):b^n≠0:=by
 induction n with
 |zero=>simp
 |succ n g=>rw[Int.pow_succ];exact bc g h
theorem dY{g Ck:Int}{b k n:Nat}(h1:g.natAbs<2^b)(M:Ck.natAbs<2^b)(I:k<=n):(g*Ck^k).natAbs<2^(b+(b*n+1)):=FM.Ax h1 (CG M I)
section
variable{P:Program}{w:World}{K:PySem.W.Frag}{mg:Str->Option Value}{base:Heap}{f g:Addr}{fd gd:FuncData}
theorem Kw:Ab ["row","pace","grain","fractions","bottom","number"] ["row","pace","grain"] (AN Ew):=⟨rfl,rfl,rfl,by decide +kernel,rfl,by decide +kernel,by decide +kernel⟩
theorem Ku(F:Fn K mg "row_of_fractions" Ew ["row","pace","grain"] f fd)(Bm:Fn K mg "fraction_of" Eb ["top","bottom"] g gd)(Ed:AL P w K mg base AY 2 g gd ["top","bottom"] M3):AL P w K mg base AY 3 f fd ["row","pace","grain"] ZW:=by
 have sc:=Kw;refine F.F.ok (k:=2) sc (fun vs H Q E h=>?_) (fun cdv A outer s H vs Q E hr h=>?_)
 .obtain⟨a,f,n,Ck,g,b,rfl,_⟩:=h
  rfl
 obtain⟨a,f,n,Ck,g,b,rfl,ha,hn,hp0,hg0,hgb,R,hb,q⟩:=h;refine⟨_,(AD (AU (i:=3) sc.nd rfl (Or.inl rfl) (CA AB))
 (AD (AU (i:=4) sc.nd rfl (Or.inl rfl) (pv 2))
 (AD (BU aP rfl (Av (pv 0)) (An (i:=5) sc.nd rfl (Or.inl rfl))
  (AD (Bu (GN ai ax ay C6 (pv 3) (AA (AX Bm Ed hr rfl (AA (pv 5) (AA (pv 4) AB))) AB)))
  (AF (AU (i:=4) sc.nd rfl (Or.inl rfl) (Aa A9 (pv 4) (pv 1))))))
 (AF (Ac (pv 3)))))),?_⟩
 refine⟨BJ (show 0<=60 by decide),fun D hD=>?_⟩;have e1:=AK hD (.lst []);have Y:upd H D (.lst []) D=some (.lst []):=AH;generalize upd H D (.lst [])=H1 at e1 Y;have hbn:b*20<=8000:=by lia
 refine⟨_,rfl,_,rfl,a,rfl,⟨_,AO.of (e1 _ _ ha)⟩,Bp (xs:=(BX f n).map V.int) (fun i σ H'=>∃(r5:Option V) (I:List V),σ=[some (.ref a),some (.int Ck),some (.int g),some (.ref D),some (.int (g*Ck^i)),r5]/\AG H H'/\H' D=some (.lst I)/\Am H' (AR (C1 (OE f Ck g) i)) I) ?_ ?_ ?_ ?_⟩
 .exact⟨_,[],by simp;rfl,e1,Y,.nil⟩
 .rintro i σ H' _ ⟨r5,I,rfl,e,_⟩;exact AO.of (e _ _ ha)
 .rintro i x σ H2 hx ⟨r5,I,rfl,e2,M,Z⟩;have hi:i<n:=by have:=(aB.mp hx).1;rw[List.length_map,Gz]at this;exact this
  have hxi:x=.int (f i):=by
   unfold BX at hx;simp[hi]at hx;exact hx.symm
  subst hxi;have hzl:I.length=i:=by rw[Z.len];unfold AR;rw[List.length_map,Xr]
  have nb:(g*Ck^i).natAbs<2^(b+(b*20+1)):=dY hgb R (by lia);refine⟨_,rfl,.inl ⟨rfl,_,AO.of M⟩,_,rfl,_,rfl,f i,g*Ck^i,b+(b*20+1),rfl,Int.mul_ne_zero hg0 (WB hp0 i),by lia,nb,fun l H3 e3 hl=>?_⟩;have U:=e3 _ _ M;refine⟨D,I,_,rfl,rfl,U,Bk (n:=60) (by lia) (by decide),?_⟩;refine⟨_,rfl,_,rfl,_,_,rfl,rfl,DP nb R (by lia),some (.int (f i)),I++[.ref l],?_,fun b o z=>?_,AH,?_⟩
  .show [_,_,_,_,some (V.int (g*Ck^i*Ck)),_]=[_,_,_,_,some (V.int (g*Ck^(i+1))),_];rw[Int.pow_succ,Int.mul_assoc]
  .rw[AI (AM z hD)];exact e3 _ _ (e2 _ _ z)
  .have dn:Am H3 (AR (C1 (OE f Ck g) (i+1))) (I++[.ref l]):=by
    rw[V5];unfold AR;rw[List.map_append];exact(Z.same e3).app (.cons (.tup hl (.cons .int (.cons .int .nil))) .nil)
   exact B6 (.but .upd (Ib U dn))
 .rintro σ H2 ⟨r5,I,rfl,e2,M,Z⟩;rw[List.length_map,Gz]at Z;exact⟨_,rfl,q D H2 I e2 hD M Z⟩
theorem K8:Ab ["most"] ["most"] (AN FV):=⟨rfl,rfl,rfl,by decide +kernel,rfl,by decide +kernel,by decide +kernel⟩
theorem K5{tk:Tok}(F:Fn K mg "refuse_too_many" FV ["most"] f fd)(I:mg "MOST_POWER" = some (.int 7 tk)):AL P w K mg base AY 1 f fd ["most"] ZF:=by
 have sc:=K8;refine F.F.ok (k:=0) sc (fun vs H Q E h=>?_) (fun cdv A outer s H vs Q E M h=>?_)
 .obtain⟨n,rfl,_⟩:=h
  rfl
 obtain⟨n,rfl,hn,q⟩:=h;refine⟨_,(AF (BQ (PW.pt (D6 (Aw L6 (pv 0) AE (Ay _)) (Df (Aw L3 (pv 0) (Uk (v:=.int 7) rfl I ⟨_,rfl⟩) (Ay _)))))
  (AF KH)
  Az)),?_⟩
 refine⟨_,rfl,_,_,rfl,rfl,_,rfl,BP (fun c=>?_) (fun _=>⟨_,rfl,_,_,rfl,rfl,_,rfl,BP (fun c=>?_) (fun _=>q)⟩)⟩
 .have:=af c
  lia
 .have:=af c
  lia
end
theorem Nb{M:Nat}:∀ {l:List Int},(∀x∈l,x.natAbs<=M)->l.sum.natAbs<=l.length*M
 |[],_=>by simp
 |x::l,h=>by
  have R:=h x (.head _);have I:=Nb (l:=l) fun y g=>h y (.tail _ g);rw[List.sum_cons,List.length_cons,Nat.succ_mul];have:=Int.natAbs_add_le x l.sum
  lia
theorem Zw{f g:Nat->Int}{k A B b:Nat}(Z:k<=7)(hf:∀j,j<=k->(f j).natAbs<=2^(A+b*j))(U:∀j,j<=k->(g j).natAbs<=2^(B+b*j)):(conv f g k).natAbs<=2^(A+B+3+b*k):=by
 unfold conv
 have Y:∀x∈BX (fun j=>f j*g (k-j)) (k+1),x.natAbs<=2^(A+B+b*k):=fun x I=>by
  unfold BX at I;obtain⟨j,M,rfl⟩:=aJ.mp I;have M:j<k+1:=bN.mp M;rw[Int.natAbs_mul];refine aU (bV (hf j (by lia)) (U (k-j) (by lia))) ?_;rw[<-Nat.pow_add];refine bD (by decide) ?_;have:b*k=b*j+b*(k-j):=by rw[<-Nat.mul_add];congr 1;lia
  lia
 have R:=Nb Y;rw[Gz]at R;refine aU R ?_;rw[show A+B+3+b*k=3+(A+B+b*k) by lia,Nat.pow_add 2 3];exact bW _ (by lia)
theorem XR{X:Nat->Nat->Int}{nn k a b:Nat}(I:k<=7)(h:∀u j,u<nn->j<=k->(X u j).natAbs<=2^(a+b*j)):∀(n:Nat) (ps:List Int),CJ nn ps->ps.sum=(n:Int)->∀j,j<=k->(Dx X ps j).natAbs<=2^((a+3)*n+b*j)
 |0,ps,o,g,j,M=>by
  rw[NC (by lia)];split
  .exact Nat.one_le_two_pow
  .exact ah _
 |n+1,ps,o,g,j,M=>by
  have h0:ps.sum≠0:=by lia
  obtain⟨f1,_⟩:=HR h0;rw[Ml o h0];have:=Zw (A:=(a+3)*n) (B:=a) (b:=b) (k:=j) (by lia) (fun i hi=>XR I h n _ (o.low h0) (by rw[sum_set _ _ f1];lia) i (by lia)) (fun i hi=>h (fu ps) i (by rw[<-o.len];exact f1) (by lia));rw[show(a+3)*(n+1)+b*j=(a+3)*n+a+3+b*j by rw[Nat.mul_succ];lia];exact this
theorem Tt{X:Nat->Nat->Int}{nn k a b:Nat}(g:k<=7)(h:∀u j,u<nn->j<=k->(X u j).natAbs<=2^(a+b*j)){ps:List Int}(o:CJ nn ps):(Dx X ps k).natAbs<=2^(3*(a+3)+b*k):=by
 have h0:=Cz o.nn;have I:=o.s3;refine aU (XR g h ps.sum.toNat ps o (by lia) k (aD _)) (bD (by decide) ?_);have:(a+3)*ps.sum.toNat<=(a+3)*3:=aV _ (by lia)
 lia
theorem Wk{X:Nat->Nat->Int}{nn k a b c:Nat}(Y:k<=7)(h:∀u j,u<nn->j<=k->(X u j).natAbs<=2^(a+b*j)){us:List AV}(U:us.length<=16)(R:∀z∈us,CJ nn z.1/\z.2.num.natAbs<=2^c):(PV X us k).natAbs<=2^(13+c+3*a+b*k):=by
 unfold PV;have h1:∀x∈us.map fun m=>m.2.num*Dx X m.1 k,x.natAbs<=2^(c+(3*(a+3)+b*k)):=fun x M=>by
  obtain⟨z,I,rfl⟩:=aJ.mp M;obtain⟨o,Z⟩:=R z I;rw[Int.natAbs_mul,Nat.pow_add];exact bV Z (Tt Y h o)
 have g:=Nb h1;rw[List.length_map]at g;refine aU g ?_;rw[show 13+c+3*a+b*k=4+(c+(3*(a+3)+b*k)) by lia,Nat.pow_add 2 4];exact bW _ U
theorem F8{x m n:Nat}(h:x<=2^m)(hm:m<n):x<2^n:=aL h (Nat.pow_lt_pow_right (by decide) hm)
theorem GH{g:Int}(h:1<=g):∀n:Nat,1<=g^n
 |0=>by simp
 |n+1=>by rw[Int.pow_succ];exact bw (show 0<g^n from GH h n) (show 0<g from h)
def EJ(r:List Rat):List Int:=r.map fun q=>(q.den:Int)
def Gk(t:Tb)(i:Nat):List Int:=EJ t.ls++((t.rs.take i).map EJ).flatten
def Gy(t:Tb):Int:=CV (Gk t t.rs.length)
def Tb.Fits(t:Tb)(n:Nat):Prop:=(∀r∈t.rs,∀q∈r,FM.Fits q n)/\∀q∈t.ls,FM.Fits q n
theorem NK{t:Tb}{i:Nat}{r:List Rat}(h:t.rs[i]? = some r):Gk t (i+1)=Gk t i++EJ r:=by
 unfold Gk;rw[List.take_add_one,h,List.map_append,List.flatten_append,List.append_assoc];simp
theorem Jd{t:Tb}{m:Nat}(o:t.Ok m):∀i,i<=t.rs.length->(Gk t i).length<=t.rs.length+t.rs.length*i
 |0,_=>by unfold Gk EJ;simp[o.last]
 |i+1,h=>by
  have g:=aF (l:=t.rs) (i:=i) (by lia);have:=Jd o i (by lia);rw[NK g,List.length_append,show(EJ t.rs[i]).length=t.rs[i].length from bS _,o.row i _ g,Nat.mul_succ]
  lia
theorem P0{t:Tb}{n:Nat}(h:t.Fits n)(i:Nat):∀b∈Gk t i,1<=b/\b.natAbs<2^n:=fun b g=>by
 unfold Gk at g;rcases aS.mp g with g|g
 .exact F5 h.2 b g
 .obtain⟨l,M,g⟩:=List.mem_flatten.mp g;obtain⟨r,I,rfl⟩:=aJ.mp M;exact F5 (h.1 r (bg I)) b g
def eR:Sp:=fun vs H Q _=>∃(v:V) (t:Tb) (m n:Nat),vs=[v]/\DU H (Bn t) v/\t.Ok m/\m<=40/\t.Fits n/\n*(m+m*m)<=4000/\∀H',AG H H'->Q (.int (Gy t)) H'
section
variable{P:Program}{w:World}{K:PySem.W.Frag}{mg:Str->Option Value}{base:Heap}{f g1 g2:Addr}{fd gd1:FuncData}
theorem N6:Ab ["table","bottoms","row"] ["table"] (AN Gq):=⟨rfl,rfl,rfl,by decide +kernel,rfl,by decide +kernel,by decide +kernel⟩
theorem Nv(F:Fn K mg "table_bottom" Gq ["table"] f fd)(Ao:Fn K mg "common_bottom" Bs ["bottoms"] g1 gd1)
 (Bi:AL P w K mg base AY 2 g1 gd1 ["bottoms"] Ld):AL P w K mg base AY 3 f fd ["table"] eR:=by
 have sc:=N6;refine F.F.ok (k:=2) sc (fun vs H Q E h=>?_) (fun cdv A outer s H vs Q E g h=>?_)
 .obtain⟨v,t,m,n,rfl,_⟩:=h
  rfl
 obtain⟨v,t,m,n,rfl,dt,ot,hm,ft,hnm,q⟩:=h;obtain⟨p,R,L,xs,ys,rfl,hp,hR,dR,hL,dL⟩:=dt.tab;have hyl:ys.length=t.ls.length:=by rw[dL.len,Dl]
 have hxl:xs.length=t.rs.length:=by rw[dR.len,HD]
 have h1:=ot.most;have h2:=ot.last;refine⟨_,(AD (HS (i:=1) [".0","part"] 1 [none,none] sc.nd rfl rfl (Av (Ag Ar (pv 0) AE (fun _ _=>rfl))) (fun _ _ _ _ _=>BC) (fun _ _ _ _ _=>(Ag DD (pv 1) AE (fun _ _=>rfl))))
 (AD (BU aP rfl (Av (Ag Ar (pv 0) AE (fun _ _=>rfl))) (An (i:=2) sc.nd rfl (Or.inl rfl))
  (AF (Bu (GN ai PySem.F.slot_list_extend PySem.F.type_list_extend O6 (pv 1) (AA (Bf [".0","part"] 1 [none,none] (Av (pv 2)) (fun _ _ _ _ _=>BC) (fun _ _ _ _ _=>(Ag DD (pv 1) AE (fun _ _=>rfl)))) AB)))))
 (AF (Ac (AX Ao Bi g rfl (AA (pv 1) AB)))))),?_⟩
 refine⟨_,rfl,_,_,_,_,rfl,rfl,Af.of hp,rfl,L,rfl,⟨_,AO.of hL⟩,fun Z hZ=>Ba (n:=ys.length) (fun i us H'=>AG H H'/\us=(EJ (t.ls.take i)).map V.int) ⟨AK hZ _,rfl⟩ ?_ ?_⟩
 .rintro i us H1 hi ⟨e1,rfl⟩ hD1;have g:t.ls[i]? = some (t.ls[i]'(by lia)):=aF _;obtain⟨p,M,I⟩:=Dd dL g;generalize t.ls[i]'(by lia)=r at g I;refine⟨⟨ys,.ref p,AO.of (e1 _ _ hL),M⟩,Bk (n:=60) (by unfold EJ;simp;lia) (by decide),fun x H' y=>?_⟩;obtain⟨rfl,y⟩:=y;have hx:=y ys (AO.of (e1 _ _ hL));rw[M]at hx;cases hx;unfold Bj;refine BA ⟨_,rfl,_,_,_,_,rfl,rfl,Af.of (e1 _ _ I),rfl,hD1,A8 hi ⟨fun b o z=>?_,?_⟩⟩
  .rw[AI (AM z hZ)];exact e1 _ _ z
  .rw[List.take_add_one,g,EJ,EJ,List.map_append,List.map_append]
   rfl
 rintro us H1 ⟨e1,rfl⟩ hZ1;rw[hyl,List.take_length]at hZ1;refine⟨⟨ys,AO.of (e1 _ _ hL),Nat.le_refl _⟩,?_⟩;refine⟨_,rfl,_,_,_,_,rfl,rfl,Af.of (e1 _ _ hp),rfl,R,rfl,⟨_,AO.of (e1 _ _ hR)⟩,Bp (xs:=xs) (fun i σ H'=>∃r2,σ=[some (.ref p),some (.ref Z),r2]/\AG H H'/\H' Z=some (.lst ((Gk t i).map V.int))) ?_ ?_ ?_ ?_⟩
 .exact⟨_,rfl,e1,by rw[hZ1];unfold Gk;simp⟩
 .rintro i σ H' _ ⟨r2,rfl,e,_⟩;exact AO.of (e _ _ hR)
 .rintro i x σ H2 hx ⟨r2,rfl,e2,U⟩;have hi:i<t.rs.length:=by rw[<-hxl];exact(aB.mp hx).1
  have g:t.rs[i]? = some t.rs[i]:=aF hi;have hrl:=ot.row _ _ g;obtain⟨a,zs,g1,g2,dz⟩:=KJ dR g;generalize t.rs[i]=row at g dz hrl;rw[hx]at g1;cases g1;have hzl:zs.length=row.length:=by rw[dz.len,Dl]
  refine⟨_,rfl,.inl ⟨rfl,_,AO.of U⟩,_,rfl,a,rfl,⟨_,AO.of (e2 _ _ g2)⟩,fun D hD=>Ba (n:=zs.length) (fun j ys H'=>AG H2 H'/\ys=(EJ (row.take j)).map V.int) ⟨AK hD _,rfl⟩ ?_ ?_⟩
  .rintro j us H3 hj ⟨e3,rfl⟩ Y;have E3:=e2.trans e3;have g:row[j]? = some (row[j]'(by lia)):=aF _;obtain⟨p,M,I⟩:=Dd dz g;generalize row[j]'(by lia)=r at g I;refine⟨⟨zs,.ref p,AO.of (E3 _ _ g2),M⟩,Bk (n:=60) (by unfold EJ;simp;lia) (by decide),fun x H' y=>?_⟩;obtain⟨rfl,y⟩:=y;have hx:=y zs (AO.of (E3 _ _ g2));rw[M]at hx;cases hx;unfold Bj;refine BA ⟨_,rfl,_,_,_,_,rfl,rfl,Af.of (E3 _ _ I),rfl,Y,A8 hj ⟨fun b o z=>?_,?_⟩⟩
   .rw[AI (AM z hD)];exact e3 _ _ z
   .rw[List.take_add_one,g,EJ,EJ,List.map_append,List.map_append]
    rfl
  .rintro us H3 ⟨e3,rfl⟩ Y;have E3:=e2.trans e3;rw[hzl,List.take_length]at Y;refine⟨⟨zs,AO.of (E3 _ _ g2),Nat.le_refl _⟩,Z,D,_,_,rfl,rfl,e3 _ _ U,Y,?_,_,rfl,fun b o z=>?_,?_⟩
   .have:=Jd ot i (by lia);rw[List.length_map,List.length_map,show(EJ row).length=row.length from bS _];have h40:t.rs.length*i<=40*40:=bV (by lia) (by lia);exact aU (show _<=2000 by lia) (by rw[sizeLine_eq];decide)
   .rw[AI (AM z hZ)];exact e3 _ _ (e2 _ _ z)
   .rw[AH,NK g,List.map_append]
 .rintro σ H2 ⟨r2,rfl,e2,U⟩;rw[hxl]at U;refine⟨_,rfl,Z,_,n,rfl,U,P0 ft _,?_,q H2 e2⟩;have:=Jd ot _ (aD _);have h3:t.rs.length*t.rs.length<=m*m:=bV h1 h1;exact aU (aV n (by lia)) hnm
end
def AJ(t:Tb):List (List Rat):=t.rs.drop 1++[t.ls]
def OP:Sp:=fun vs H Q _=>∃(v:V) (t:Tb) (m:Nat),vs=[v]/\DU H (Bn t) v/\t.Ok m/\m<=40/\∀D H' g,AG H H'->H D=none->H' D=some (.lst g)->Am H' (BF (AJ t)) g->Q (.ref D) H'
theorem Wr{xs:List V}(h:1<=xs.length):CB xs (some 1) none=xs.drop 1:=by
 have:=HT.BH;unfold CB;have I:HT.BH xs.length 0 (some 1)=1:=by
  unfold HT.BH;simp
  lia
 have g:HT.BH xs.length xs.length none=xs.length:=rfl;rw[I,g];exact List.take_of_length_le (by rw[List.length_drop];exact aD _)
section
variable{P:Program}{w:World}{K:PySem.W.Frag}{mg:Str->Option Value}{base:Heap}{f:Addr}{fd:FuncData}
theorem ML:Ab ["table"] ["table"] (AN EU):=⟨rfl,rfl,rfl,by decide +kernel,rfl,by decide +kernel,by decide +kernel⟩
theorem MI(F:Fn K mg "rows_that_read" EU ["table"] f fd):AL P w K mg base AY 1 f fd ["table"] OP:=by
 have sc:=ML;refine F.F.ok (k:=0) sc (fun vs H Q E h=>?_) (fun cdv A outer s H vs Q E hr h=>?_)
 .obtain⟨v,t,m,rfl,_⟩:=h
  rfl
 obtain⟨v,t,m,rfl,d,ok,hm,q⟩:=h;refine⟨_,(AF (Ac (Aa Lg (JM Ov (Ag Ar (pv 0) AE (fun _ _=>rfl)) (J4 AE) KA) (CA (AA (Ag Ar (pv 0) AE (fun _ _=>rfl)) AB))))),?_⟩;obtain⟨p,R,L,xs,ys,rfl,hp,hR,dR,hL,dL⟩:=d.tab;have hxl:xs.length=t.rs.length:=by rw[dR.len,HD]
 have h1:=ok.one;have h2:=ok.most;refine⟨_,rfl,_,_,_,_,rfl,rfl,Af.of hp,rfl,_,rfl,R,xs,rfl,AO.of hR,fun A1 Z=>?_⟩;rw[Wr (by lia)];generalize g:upd _ A1 _=H1;obtain⟨U,_,hA⟩:=fH g Z (dR.drop 1);clear g;refine⟨_,rfl,_,_,_,_,rfl,rfl,Af.of (U _ _ hp),rfl,BJ (show 1<=60 by decide),fun A2 Y=>?_⟩;generalize g:upd _ A2 _=H2;obtain⟨e2,_,hB⟩:=fH g Y (.cons (DU.lst (U _ _ hL) (dL.same U)) .nil);clear g;have I:=U.trans e2;refine⟨A1,A2,_,_,rfl,rfl,e2 _ _ hA,hB,BJ (by rw[List.length_drop];simp;lia),fun D hD=>?_⟩;have M:=AK hD (.lst (xs.drop 1++[V.ref L]));refine q D _ _ (I.trans M) (Cy I hD) AH ?_;unfold AJ;rw[BF,List.map_append,List.map_drop];exact((dR.drop 1).same (I.trans M)).app (.cons (DU.lst ((I.trans M) _ _ hL) (dL.same (I.trans M))) .nil)
end
def Fx:PyData->Bool
 |.int i=>decide (0<=i)
 |_=>false
def FR(n:Int):PyData->Bool
 |.tuple g=>decide ((g.length:Int)=n)&&g.all Fx
 |_=>false
def fZ:PyData->Int
 |.tuple (.int a::_)=>a
 |_=>0
def FO(n:Int):PyData->Bool
 |.tuple [p,f]=>FR n p&&(De f && !decide (fZ f=0))
 |_=>false
def intD:PyData->Int
 |.int i=>i
 |_=>0
def QZ:PyData->List Int
 |.tuple g=>g.map intD
 |_=>[]
def Q5:PyData->List Int
 |.tuple (p::_)=>QZ p
 |_=>[]
def GU(n:Int)(ds:List PyData)(k:Nat):Bool:=match ds[k]? with
 |some d=>FO n d&&(decide (k=0)||(match ds[k-1]? with
  |some e=>IT.lt (Q5 d) (Q5 e)
  |none=>true))
 |none=>true
def Es(n:Int):PyData->Bool
 |.list g=>(List.range g.length).all (GU n g)
 |_=>false
def Iu:PyData->Bool
 |.list g=>!decide (g.length=0)&&g.all (Es g.length)
 |_=>false
theorem cF{n:Int}{d:PyData}(h:CK d=false):FR n d=false:=by cases d<;>first|rfl|exact absurd h (by simp[CK])
theorem Xo{n:Int}{d:PyData}(h:CK d=false):FO n d=false:=by cases d<;>first|rfl|exact absurd h (by simp[CK])
theorem Yy{n:Int}{d:PyData}(h:B0 d=false):Es n d=false:=by cases d<;>first|rfl|exact absurd h (by simp[B0])
theorem b7{d:PyData}(h:B0 d=false):Iu d=false:=by cases d<;>first|rfl|exact absurd h (by simp[B0])
theorem Vr{n:Int}{ds:List PyData}(h:ds.length≠2):FO n (.tuple ds)=false:=by
 match ds,h with
 |[],_=>rfl
 |[_],_=>rfl
 |[_,_],h=>exact absurd rfl h
 |_::_::_::_,_=>rfl
def cv:Sp:=fun vs H Q _=>∃l d v n,vs=[v,.int n]/\Dt l H d v/\Q (.bl (FR n d)) H
def eU:Sp:=fun vs H Q _=>∃l d v n,vs=[v,.int n]/\Dt l H d v/\Q (.bl (FO n d)) H
def da:Sp:=fun vs H Q _=>∃l d v n,vs=[v,.int n]/\Dt l H d v/\∀H',AG H H'->Q (.bl (Es n d)) H'
def ZN:Sp:=fun vs H Q _=>∃l d v,vs=[v]/\Dt l H d v/\∀H',AG H H'->Q (.bl (Iu d)) H'
section
variable{P:Program}{w:World}{K:PySem.W.Frag}{mg:Str->Option Value}{base:Heap}{f g1 g2:Addr}{fd gd1 gd2:FuncData}
theorem QI:Ab ["thing","unknowns","power"] ["thing","unknowns"] (AN JP):=⟨rfl,rfl,rfl,by decide +kernel,rfl,by decide +kernel,by decide +kernel⟩
theorem QO(F:Fn K mg "are_powers" JP ["thing","unknowns"] f fd)(Dh:Fn K mg "is_whole" II ["thing"] g1 gd1)
 (IE:AL P w K mg base AY 1 g1 gd1 ["thing"] RV)(AZ:mg "isinstance" = none)(Bb:mg "tuple" = none)(BG:mg "len" = none):AL P w K mg base AY 2 f fd ["thing","unknowns"] cv:=by
 have sc:=QI;refine F.F.ok (k:=1) sc (fun vs H Q E h=>?_) (fun cdv A outer s H vs Q E hr h=>?_)
 .obtain⟨l,d,v,n,rfl,_⟩:=h
  rfl
 obtain⟨l,d,v,n,rfl,hd,q⟩:=h;refine⟨_,(AD (BQ (PW.pt (D6 (B8 (Bo (Ad Be rfl AZ aQ (AA (pv 0) (AA (Bt (v:=.ty "tuple") rfl Bb bA rfl) AB))))) (Df (Aw Fq (Ad BB rfl BG av (AA (pv 0) AB)) (pv 1) (Ay _)))))
  (AF (Ac CO))
  Az)
 (AD (BU aP rfl (WW (pv 0)) (An (i:=2) sc.nd rfl (Or.inl rfl))
  (AF (BQ (PW.pt (D6 (B8 (Bo (AX Dh IE hr rfl (AA (pv 2) AB)))) (Df (Aw L6 (pv 2) AE (Ay _)))))
   (AF (Ac CO))
   Az)))
 (AF (Ac CO)))),?_⟩
 refine⟨_,rfl,_,_,_,_,rfl,EZ,hd.ty,Ds K d hd.nodict,_,rfl,?_⟩;by_cases M:CK d=false
 .rw[M];rw[cF M]at q;exact BA (BA q)
 have M:CK d=true:=by simpa using M
 rw[M];refine DJ ?_;obtain⟨R,rfl⟩:=Mb M;rw[Dt]at hd;obtain⟨a,xs,rfl,na,ha,ht⟩:=hd;have g:=ht.len;refine⟨_,rfl,a,xs,rfl,.inr (Af.of ha),_,rfl,rfl,_,rfl,BP (fun c=>?_) (fun c=>?_)⟩
 .have Z:¬(R.length:Int)=n:=by
   rw[<-g];intro z;rw[z]at c;simp at c
  rw[FR,decide_eq_false Z,Bool.false_and]at q;exact q
 have hn:(R.length:Int)=n:=by
  rw[<-g];by_cases z:(xs.length:Int)=n
  .exact z
  .exact absurd (by simp[z]) c
 rw[FR,decide_eq_true hn,Bool.true_and]at q;refine⟨_,rfl,a,rfl,⟨_,Af.of ha⟩,a8 (xs:=xs) (fun i σ H'=>∃I,σ=[some (.ref a),some (.int n),I]/\H=H'/\∀j c,j<i->R[j]? = some c->Fx c=true) ?_ ?_ ?_ ?_⟩
 .exact⟨_,rfl,rfl,fun j c h=>absurd h (bz _)⟩
 .rintro i σ H' _ ⟨I,rfl,rfl,_⟩;exact Af.of ha
 .rintro i x σ H' hx ⟨I,rfl,rfl,hf⟩;obtain⟨c,U,Y⟩:=ht.get hx;have no:Fx c=false->R.all Fx=false:=fun z=>ag.mpr fun y=>by
   rw[List.all_eq_true]at y;rw[y c (aI U)]at z;cases z
  have next:Fx c=true->∃I,[some (V.ref a),some (V.int n),some x]=[some (.ref a),some (.int n),I]/\H=H/\∀j c,j<i+1->R[j]? = some c->Fx c=true:=fun hb=>by
   refine⟨_,rfl,rfl,fun j e hj he=>?_⟩;by_cases z:j=i
   .subst z;rw[U]at he;cases he;exact hb
   .exact hf j e (by lia) he
  refine⟨_,rfl,l,c,x,rfl,Y,_,rfl,BP (fun b=>?_) (fun b=>?_)⟩
  .have:Fx c=false:=by cases c<;>first|rfl|(simp[HY,GC]at b)
   rw[no this]at q;exact BA q
  .obtain⟨i',rfl⟩:=LA (d:=c) (by simpa using b);rw[Dt]at Y;subst Y;refine⟨_,rfl,_,_,rfl,rfl,_,rfl,BP (fun b=>?_) (fun b=>?_)⟩
   .have:Fx (.int i')=false:=by
     have:=af b;rw[Fx];exact bQ (by lia)
    rw[no this]at q;exact q
   .have:Fx (.int i')=true:=by
     have:=bG (ag.mpr b);rw[Fx];exact bU (by lia)
    exact next this
 .rintro σ H' ⟨I,rfl,rfl,hf⟩;have e:R.all Fx=true:=by
   rw[List.all_eq_true];intro c U;obtain⟨j,hj⟩:=aa U;exact hf j c (by rw[g];exact(aB.mp hj).1) hj
  rw[e]at q;exact q
theorem U0:Ab ["thing","unknowns"] ["thing","unknowns"] (AN LQ):=⟨rfl,rfl,rfl,by decide +kernel,rfl,by decide +kernel,by decide +kernel⟩
theorem VJ(F:Fn K mg "is_term" LQ ["thing","unknowns"] f fd)(GD:Fn K mg "are_powers" JP ["thing","unknowns"] g1 gd1)(Cv:Fn K mg "is_fraction" Fo ["thing"] g2 gd2)
 (Se:AL P w K mg base AY 2 g1 gd1 ["thing","unknowns"] cv)(Ho:AL P w K mg base AY 2 g2 gd2 ["thing"] R8)(AZ:mg "isinstance" = none)(Bb:mg "tuple" = none)(BG:mg "len" = none):AL P w K mg base AY 3 f fd ["thing","unknowns"] eU:=by
 have sc:=U0;refine F.F.ok (k:=2) sc (fun vs H Q E h=>?_) (fun cdv A outer s H vs Q E hr h=>?_)
 .obtain⟨l,d,v,n,rfl,_⟩:=h
  rfl
 obtain⟨l,d,v,n,rfl,hd,q⟩:=h;refine⟨_,(AD (BQ (PW.pt (D6 (B8 (Bo (Ad Be rfl AZ aQ (AA (pv 0) (AA (Bt (v:=.ty "tuple") rfl Bb bA rfl) AB))))) (D6 (Aw Fq (Ad BB rfl BG av (AA (pv 0) AB)) AE (Ay _)) (Df (B8 (Bo (AX GD Se hr rfl (AA (Ag Ar (pv 0) AE (fun _ _=>rfl)) (AA (pv 1) AB)))))))))
  (AF (Ac CO))
  Az)
 (AF (Ac (Iw (AX Cv Ho hr rfl (AA (Ag Ar (pv 0) AE (fun _ _=>rfl)) AB)) (K2 (IW Fq (Ag Ar (Ag Ar (pv 0) AE (fun _ _=>rfl)) AE (fun _ _=>rfl)) AE (Ay _))))))),?_⟩
 refine⟨_,rfl,_,_,_,_,rfl,EZ,hd.ty,Ds K d hd.nodict,_,rfl,?_⟩;by_cases R:CK d=false
 .rw[R];rw[Xo R]at q;exact BA (BA q)
 have R:CK d=true:=by simpa using R
 rw[R];refine DJ ?_;obtain⟨ds,rfl⟩:=Mb R;rw[Dt]at hd;obtain⟨a,xs,rfl,na,ha,g⟩:=hd;have Z:=g.len;have s1:Af K H a xs:=Af.of ha;refine⟨_,rfl,a,xs,rfl,.inr s1,rfl,_,rfl,BP (fun c=>?_) (fun c=>?_)⟩
 .have:ds.length≠2:=by
   rw[<-Z];intro z;rw[z]at c;exact absurd c (by decide)
  rw[Vr this]at q;exact BA q
 have h2:xs.length=2:=by
  by_cases z:xs.length=2
  .exact z
  .exfalso
   refine c ?_;have:¬(V.int (xs.length:Nat)=V.int 2):=by simp;lia
   rw[decide_eq_false this];rfl
 obtain⟨d0,d1,rfl⟩:∃d0 d1,ds=[d0,d1]:=by
  match ds,(show ds.length=2 by lia) with
  |[x,y],_=>exact⟨x,y,rfl⟩
 rw[AQ]at g;obtain⟨x0,r,rfl,hx0,g⟩:=g;rw[AQ]at g;obtain⟨x1,r,rfl,M,g⟩:=g;rw[AQ]at g;subst g;rw[FO]at q;refine⟨_,rfl,_,_,_,_,rfl,rfl,s1,rfl,_,rfl,l,d0,x0,n,rfl,hx0,_,rfl,BP (fun c0=>?_) (fun c0=>?_)⟩
 .have:FR n d0=false:=by simpa using c0
  rw[this,Bool.false_and]at q;exact q
 have hp:FR n d0=true:=by simpa using c0
 rw[hp,Bool.true_and]at q;refine⟨_,rfl,_,_,_,_,rfl,rfl,s1,rfl,l,d1,x1,rfl,M,_,rfl,BP (fun U=>?_) (fun U=>?_)⟩
 .rw[U,Bool.true_and]at q;obtain⟨i,j,rfl⟩:∃i j,d1=.tuple [.int i,.int j]:=by
   unfold De at U;split at U
   .exact⟨_,_,rfl⟩
   .cases U
  rw[Dt]at M;obtain⟨b,ys,rfl,nb,hb,I⟩:=M;rw[AQ]at I;obtain⟨y0,r,rfl,Y,I⟩:=I;rw[AQ]at I;obtain⟨y1,r,rfl,hy1,I⟩:=I;rw[AQ]at I;subst I;rw[Dt]at Y;subst Y;refine⟨_,rfl,_,_,_,_,rfl,rfl,s1,rfl,_,_,_,_,rfl,rfl,Af.of hb,rfl,rfl,?_⟩;rw[fZ]at q;have e:decide (V.int i=V.int 0)=decide (i=0):=by rw[Bool.eq_iff_iff];simp
  show Q (.bl (!decide (V.int i=V.int 0))) H;rw[e];exact q
 .rw[Bool.eq_false_iff.mpr U,Bool.false_and]at q;exact q
theorem Vn:Ab ["thing","unknowns","k","term"] ["thing","unknowns"] (AN La):=⟨rfl,rfl,rfl,by decide +kernel,rfl,by decide +kernel,by decide +kernel⟩
theorem V9{l:Addr}{H:Hp}{n:Int}{d:PyData}{v:V}(h:Dt l H d v)(k:FR n d=true):∃a,v=.ref a/\H a=some (.tup ((QZ d).map V.int)):=by
 cases d with
 |tuple M=>
  rw[FR,Bool.and_eq_true]at k;rw[Dt]at h;obtain⟨a,xs,rfl,na,ha,g⟩:=h;refine⟨a,rfl,?_⟩;rw[ha]
  congr 2
  rw[QZ];clear ha
  replace k:=k.2
  induction M generalizing xs with
  |nil=>rw[AQ]at g;subst g;rfl
  |cons d M R=>
   rw[AQ]at g;obtain⟨x,r,rfl,I,U⟩:=g;rw[List.all_cons,Bool.and_eq_true]at k;rw[List.map_cons,List.map_cons,<-R r U k.2]
   congr 1
   cases d<;>first|(rw[Dt]at I;subst I;rfl)|(have:=k.1;simp[Fx]at this)
 |none=>simp[FR]at k
 |bool _=>simp[FR]at k
 |int _=>simp[FR]at k
 |str _=>simp[FR]at k
 |list _=>simp[FR]at k
 |dict _=>simp[FR]at k
theorem RA{l:Addr}{H:Hp}{n:Int}{d:PyData}{v:V}(h:Dt l H d v)(k:FO n d=true):∃a b c,v=.ref a/\H a=some (.tup [.ref b,c])/\H b=some (.tup ((Q5 d).map V.int)):=by
 unfold FO at k;split at k
 .rename_i p f;rw[Bool.and_eq_true]at k;rw[Dt]at h;obtain⟨a,xs,rfl,na,ha,g⟩:=h;rw[AQ]at g;obtain⟨x0,r,rfl,I,g⟩:=g;rw[AQ]at g;obtain⟨M,r,rfl,R,g⟩:=g;rw[AQ]at g;subst g;obtain⟨b,rfl,U⟩:=V9 I k.1;exact⟨a,b,M,rfl,ha,U⟩
 .cases k
theorem VS(F:Fn K mg "is_poly" La ["thing","unknowns"] f fd)(Jh:Fn K mg "is_term" LQ ["thing","unknowns"] g1 gd1)
 (XW:AL P w K mg base AY 3 g1 gd1 ["thing","unknowns"] eU)(AZ:mg "isinstance" = none)(CZ:mg "list" = none)(Ce:mg "enumerate" = none):AL P w K mg base AY 4 f fd ["thing","unknowns"] da:=by
 have sc:=Vn;refine F.F.ok (k:=3) sc (fun vs H Q E h=>?_) (fun cdv A outer s H vs Q E hr h=>?_)
 .obtain⟨l,d,v,n,rfl,_⟩:=h
  rfl
 obtain⟨l,d,v,n,rfl,hd,q⟩:=h;refine⟨_,(AD (BQ (B8 (Bo (Ad Be rfl AZ aQ (AA (pv 0) (AA (Bt (v:=.ty "list") rfl CZ bO rfl) AB)))))
  (AF (Ac CO))
  Az)
 (AD (BU aP rfl (M5 rfl Ce (AA (pv 0) AB)) (GY rfl (Bg (An (i:=2) sc.nd rfl (Or.inl rfl)) (Bg (An (i:=3) sc.nd rfl (Or.inl rfl)) FK)))
  (AF (BQ (PW.pt (D6 (B8 (Bo (AX Jh XW hr rfl (AA (pv 3) (AA (pv 1) AB))))) (Df (PW.pt (eI (Aw L3 (pv 2) AE (Ay _)) (Zb (Aw (dh (by have:=hr.units;exact this)) (Ag Ar (pv 3) AE (fun _ _=>rfl)) (Ag Ar (Ag F9 (pv 0) (Aa FW (pv 2) AE) (fun _ _=>rfl)) AE (fun _ _=>rfl)) (Ay _))))))))
   (AF (Ac CO))
   Az)))
 (AF (Ac CO)))),?_⟩
 refine⟨_,rfl,_,_,_,_,rfl,EZ,hd.ty,DM K d hd.nodict,_,rfl,?_⟩;by_cases Z:B0 d=false
 .rw[Z];have:=q H (.refl H);rw[Yy Z]at this;exact BA this
 have Z:B0 d=true:=by simpa using Z
 rw[Z];refine DJ ?_;obtain⟨g,rfl⟩:=Ft Z;rw[Dt]at hd;obtain⟨a,xs,rfl,na,ha,ht⟩:=hd;have hlen:=ht.len;refine⟨_,rfl,a,rfl,⟨_,AO.of ha⟩,Pr (xs:=xs) (fun i σ H'=>∃Y U,σ=[some (.ref a),some (.int n),Y,U]/\AG H H'/\∀j,j<i->GU n g j=true) ?_ ?_ ?_ ?_⟩
 .exact⟨_,_,rfl,.refl _,fun j h=>absurd h (bz _)⟩
 .rintro i σ H' _ ⟨Y,U,rfl,e,_⟩;exact AO.of (e _ _ ha)
 .rintro i x σ H0 hx ⟨Y,U,rfl,e0,hf⟩ p hp;obtain⟨c,hc,tc⟩:=ht.get hx;have hi:i<g.length:=(aB.mp hc).1;have s1:=AK hp (.tup [.int (i:Nat),x]);have I:=e0.trans s1;have hp':(upd H0 p (.tup [.int (i:Nat),x])) p=some (.tup [.int (i:Nat),x]):=AH;generalize upd H0 p (.tup [.int (i:Nat),x])=H1 at s1 I hp';have tc:=tc.same I;have no:GU n g i=false->Q (.bl false) H1:=fun z=>by
   have:=q H1 I;have e:Es n (.list g)=false:=ag.mpr fun y=>by
    rw[Es,List.all_eq_true]at y;rw[y i (bN.mpr hi)]at z;cases z
   rw[e]at this;exact this
  have next:GU n g i=true->∃Y U,[some (V.ref a),some (V.int n),some (V.int (i:Nat)),some x]=[some (.ref a),some (.int n),Y,U]/\AG H H1/\∀j,j<i+1->GU n g j=true:=fun z=>by
   refine⟨_,_,rfl,I,fun j hj=>?_⟩;by_cases zz:j=i
   .subst zz;exact z
   .exact hf j (by lia)
  have M:GU n g i=(FO n c&&(decide (i=0)||(match g[i-1]? with
    |some e=>IT.lt (Q5 c) (Q5 e)
    |none=>true))):=by unfold GU;rw[hc];all_goals rfl
  refine⟨p,_,rfl,Af.of hp',rfl,_,_,rfl,_,_,rfl,rfl,?_⟩;refine⟨_,rfl,_,rfl,l,c,x,n,rfl,tc,_,rfl,BP (fun b=>?_) (fun b=>?_)⟩
  .have hb:FO n c=false:=by simpa using b
   exact BA (no (by rw[M,hb,Bool.false_and]))
  have hb:FO n c=true:=by simpa using b
  rw[hb,Bool.true_and]at M;refine⟨_,rfl,_,_,rfl,rfl,_,rfl,BP (fun b=>?_) (fun b=>?_)⟩
  .have hi0:0<i:=by have:=af b;lia
   rw[decide_eq_false (show ¬i=0 by lia),Bool.false_or]at M;have R:xs[i-1]? = some (xs[i-1]'(by lia)):=by simp[show i-1<xs.length by lia]
   obtain⟨e,he,te⟩:=ht.get R;have hpe:FO n e=true:=by
    have:=hf (i-1) (by lia);unfold GU at this;rw[he]at this;rw[Bool.and_eq_true]at this;exact this.1
   generalize xs[i-1]'(by lia)=v1 at R te;obtain⟨a1,b1,c1,rfl,ha1,hb1⟩:=RA (te.same I) hpe;obtain⟨a2,b2,c2,rfl,ha2,hb2⟩:=RA tc hb;have hat:EI xs ((i:Int)-1)=some (.ref a1):=by
    have:=IV (xs:=xs) (j:=i-1) R
    rwa [show((i-1:Nat):Int)=(i:Int)-1 by lia]at this
   rw[he]at M;refine⟨_,rfl,_,_,_,_,rfl,rfl,Af.of ha2,rfl,_,rfl,_,rfl,_,_,rfl,rfl,_,_,_,_,rfl,rfl,AO.of (I _ _ ha),hat,_,_,_,_,rfl,rfl,Af.of ha1,rfl,b2,b1,_,_,rfl,rfl,hb2,hb1,_,rfl,BP (fun z=>?_) (fun z=>?_)⟩
   .exact no (by rw[M];simpa using z)
   .exact next (by rw[M];simpa using z)
  .have hi0:i=0:=by have:=bG (ag.mpr b);lia
   exact DJ (next (by rw[M,decide_eq_true hi0,Bool.true_or]))
 .rintro σ H' ⟨Y,U,rfl,I,hf⟩;have:=q H' I;have e:Es n (.list g)=true:=by
   rw[Es,List.all_eq_true];intro j hj;exact hf j (by rw[hlen];exact bN.mp hj)
  rw[e]at this;exact this
theorem SN:Ab ["thing","some"] ["thing"] (AN Jy):=⟨rfl,rfl,rfl,by decide +kernel,rfl,by decide +kernel,by decide +kernel⟩
theorem RF(F:Fn K mg "is_change" Jy ["thing"] f fd)(JZ:Fn K mg "is_poly" La ["thing","unknowns"] g1 gd1)
 (Wi:AL P w K mg base AY 4 g1 gd1 ["thing","unknowns"] da)(AZ:mg "isinstance" = none)(CZ:mg "list" = none)(BG:mg "len" = none):AL P w K mg base AY 5 f fd ["thing"] ZN:=by
 have sc:=SN;refine F.F.ok (k:=4) sc (fun vs H Q E h=>?_) (fun cdv A outer s H vs Q E hr h=>?_)
 .obtain⟨l,d,v,rfl,_⟩:=h
  rfl
 obtain⟨l,d,v,rfl,hd,q⟩:=h;refine⟨_,(AD (BQ (PW.pt (D6 (B8 (Bo (Ad Be rfl AZ aQ (AA (pv 0) (AA (Bt (v:=.ty "list") rfl CZ bO rfl) AB))))) (Df (Aw HG (Ad BB rfl BG av (AA (pv 0) AB)) AE (Ay _)))))
  (AF (Ac CO))
  Az)
 (AD (BU aP rfl (Av (pv 0)) (An (i:=1) sc.nd rfl (Or.inl rfl))
  (AF (BQ (B8 (Bo (AX JZ Wi hr rfl (AA (pv 1) (AA (Ad BB rfl BG av (AA (pv 0) AB)) AB)))))
   (AF (Ac CO))
   Az)))
 (AF (Ac CO)))),?_⟩
 refine⟨_,rfl,_,_,_,_,rfl,EZ,hd.ty,DM K d hd.nodict,_,rfl,?_⟩;by_cases M:B0 d=false
 .rw[M];have:=q H (.refl H);rw[b7 M]at this;exact BA (BA this)
 have M:B0 d=true:=by simpa using M
 rw[M];refine DJ ?_;obtain⟨I,rfl⟩:=Ft M;rw[Dt]at hd;obtain⟨a,xs,rfl,na,ha,ht⟩:=hd;have g:=ht.len;refine⟨_,rfl,a,xs,rfl,.inl (AO.of ha),rfl,_,rfl,BP (fun c=>?_) (fun c=>?_)⟩
 .have:I.length=0:=by rw[<-g];have:=af c;simpa using this
  have q:=q H (.refl H);rw[Iu,decide_eq_true this,Bool.not_true,Bool.false_and]at q;exact q
 have h0:¬I.length=0:=by
  rw[<-g];intro z;exact c (by simp[z])
 rw[Iu,decide_eq_false h0,Bool.not_false,Bool.true_and]at q;refine⟨_,rfl,a,rfl,⟨_,AO.of ha⟩,Bp (xs:=xs) (fun i σ H'=>∃U,σ=[some (.ref a),U]/\AG H H'/\∀j c,j<i->I[j]? = some c->Es I.length c=true) ?_ ?_ ?_ ?_⟩
 .exact⟨_,rfl,.refl _,fun j c h=>absurd h (bz _)⟩
 .rintro i σ H' _ ⟨U,rfl,e,_⟩;exact AO.of (e _ _ ha)
 .rintro i x σ H1 hx ⟨U,rfl,R,hf⟩;obtain⟨c,Y,tc⟩:=ht.get hx;refine⟨_,rfl,_,rfl,a,xs,rfl,.inl (AO.of (R _ _ ha)),l,c,x,_,rfl,tc.same R,fun H2 e2=>⟨_,rfl,BP (fun b=>?_) (fun b=>?_)⟩⟩
  .have Z:Es I.length c=false:=by rw[<-g];simpa using b
   have:=q H2 (R.trans e2);have e:I.all (Es I.length)=false:=ag.mpr fun y=>by
    rw[List.all_eq_true]at y;rw[y c (aI Y)]at Z;cases Z
   rw[e]at this;exact this
  .have Z:Es I.length c=true:=by rw[<-g];simpa using b
   refine⟨_,rfl,R.trans e2,fun j e hj he=>?_⟩;by_cases z:j=i
   .subst z;rw[Y]at he;cases he;exact Z
   .exact hf j e (by lia) he
 .rintro σ H' ⟨U,rfl,R,hf⟩;have e:I.all (Es I.length)=true:=by
   rw[List.all_eq_true];intro c Y;obtain⟨j,hj⟩:=aa Y;exact hf j c (by rw[g];exact(aB.mp hj).1) hj
  have:=q H' R;rw[e]at this;exact this
end
def NG:Sp:=fun vs H Q _=>∃(g:V) (C S:Addr) (t:Tb) (cs xs:List V) (uss:List (List AV)) (rs:List Rat) (many:Nat),vs=[g,.ref C,.ref S]/\DU H (Bn t) g/\t.Ok 4/\Jk H C cs uss 3/\Iu (.list (uss.map CP))=true/\uss.length=many/\H S=some (.lst xs)/\Am H (AR rs) xs/\rs.length=many/\many<=4/\∀H',AG H H'->Q .BM H'
def SR:Sp:=fun vs H Q _=>∃(v:V) (t:Tb) (m:Nat),vs=[v]/\DU H (Bn t) v/\t.Ok m/\m<=40/\∀H',AG H H'->Q .BM H'
section
variable{P:Program}{w:World}{K:PySem.W.Frag}{mg:Str->Option Value}{base:Heap}{f g1:Addr}{fd gd1:FuncData}
theorem LF:Ab ["thing"] ["thing"] (AN FU):=⟨rfl,rfl,rfl,by decide +kernel,rfl,by decide +kernel,by decide +kernel⟩
theorem LM(F:Fn K mg "refuse_no_table" FU ["thing"] f fd)(M:Fn K mg "is_table" KU ["thing"] g1 gd1)
 (I:AL P w K mg base AY 5 g1 gd1 ["thing"] UT):AL P w K mg base AY 6 f fd ["thing"] SR:=by
 have sc:=LF;refine F.F.ok (k:=5) sc (fun vs H Q E h=>?_) (fun cdv A outer s H vs Q E g h=>?_)
 .obtain⟨v,t,m,rfl,_⟩:=h
  rfl
 obtain⟨v,t,m,rfl,⟨N,b⟩,ok,hm,q⟩:=h;refine⟨_,(AF (BQ (B8 (Bo (AX M I g rfl (AA (pv 0) AB))))
  (AF KH)
  Az)),?_⟩
 refine⟨_,rfl,N,Bn t,v,rfl,b N (aD _),fun H' e=>?_⟩;rw[ok.is hm];exact⟨_,rfl,DJ (q H' e)⟩
end
def Rk:Sp:=fun vs H Q _=>∃(v:V) (d:PyData),vs=[v]/\DU H d v/\Iu d=true/\∀H',AG H H'->Q .BM H'
def NM:Sp:=fun vs H Q _=>∃(S:Addr) (xs:List V) (rs:List Rat),vs=[.ref S,.int (rs.length:Nat)]/\H S=some (.lst xs)/\Am H (AR rs) xs/\Q .BM H
theorem ic{X:Cx}{e:Expr}:PE X e (fun _ _ _=>False):=fun _ _ _ _ _ _ z=>z.elim
section
variable{P:Program}{w:World}{K:PySem.W.Frag}{mg:Str->Option Value}{base:Heap}{f g1 g2 g3:Addr}{fd gd1 gd2 gd3:FuncData}
theorem Kr:Ab ["thing"] ["thing"] (AN FC):=⟨rfl,rfl,rfl,by decide +kernel,rfl,by decide +kernel,by decide +kernel⟩
theorem Kv(F:Fn K mg "refuse_no_change" FC ["thing"] f fd)(M:Fn K mg "is_change" Jy ["thing"] g1 gd1)
 (I:AL P w K mg base AY 6 g1 gd1 ["thing"] ZN):AL P w K mg base AY 7 f fd ["thing"] Rk:=by
 have sc:=Kr;refine F.F.ok (k:=6) sc (fun vs H Q E h=>?_) (fun cdv A outer s H vs Q E g h=>?_)
 .obtain⟨v,d,rfl,_⟩:=h
  rfl
 obtain⟨v,d,rfl,⟨N,b⟩,hd,q⟩:=h;refine⟨_,(AF (BQ (B8 (Bo (AX M I g rfl (AA (pv 0) AB))))
  (AF KH)
  Az)),?_⟩
 refine⟨_,rfl,N,d,v,rfl,b N (aD _),fun H' e=>?_⟩;rw[hd];exact⟨_,rfl,DJ (q H' e)⟩
theorem K0:Ab ["thing","unknowns"] ["thing","unknowns"] (AN FT):=⟨rfl,rfl,rfl,by decide +kernel,rfl,by decide +kernel,by decide +kernel⟩
theorem LL(F:Fn K mg "refuse_no_start" FT ["thing","unknowns"] f fd)(U:Fn K mg "are_fractions" Dp ["thing"] g1 gd1)
 (R:AL P w K mg base AY 4 g1 gd1 ["thing"] MB)(Y:mg "len" = none):AL P w K mg base AY 5 f fd ["thing","unknowns"] NM:=by
 have sc:=K0;refine F.F.ok (k:=4) sc (fun vs H Q E h=>?_) (fun cdv A outer s H vs Q E M h=>?_)
 .obtain⟨S,xs,rs,rfl,_⟩:=h
  rfl
 obtain⟨S,xs,rs,rfl,I,dx,q⟩:=h;have g:xs.length=rs.length:=by rw[dx.len,Dl]
 refine⟨_,(AF (BQ (PW.pt (D6 (B8 (Bo (AX U R M rfl (AA (pv 0) AB)))) (Df (Aw Fq (Ad BB rfl Y av (AA (pv 0) AB)) (pv 1) (Ay _)))))
  (AF (Bu ic))
  Az)),?_⟩
 obtain⟨N,b⟩:=DU.lst I dx;have ha:Co (.list (AR rs))=true:=by rw[Co,List.all_eq_true];exact NB rs
 refine⟨_,rfl,N,.list (AR rs),.ref S,rfl,b N (aD _),?_⟩;rw[ha];refine⟨_,rfl,DJ ⟨_,rfl,S,xs,rfl,.inl (AO.of I),_,rfl,rfl,_,rfl,?_⟩⟩;rw[g,show(!decide (V.int (rs.length:Nat)=V.int (rs.length:Nat)))=false by simp];exact DJ q
theorem MJ:Ab ["table","change","start"] ["table","change","start"] (AN ER):=⟨rfl,rfl,rfl,by decide +kernel,rfl,by decide +kernel,by decide +kernel⟩
theorem MK(F:Fn K mg "refuse_no_step" ER ["table","change","start"] f fd)(D8:Fn K mg "refuse_no_table" FU ["thing"] g1 gd1)(Dj:Fn K mg "refuse_no_change" FC ["thing"] g2 gd2)(EA:Fn K mg "refuse_no_start" FT ["thing","unknowns"] g3 gd3)
 (MD:AL P w K mg base AY 7 g1 gd1 ["thing"] SR)(LD:AL P w K mg base AY 7 g2 gd2 ["thing"] Rk)(MF:AL P w K mg base AY 7 g3 gd3 ["thing","unknowns"] NM)(BG:mg "len" = none):AL P w K mg base AY 8 f fd ["table","change","start"] NG:=by
 have sc:=MJ;refine F.F.ok (k:=7) sc (fun vs H Q E h=>?_) (fun cdv A outer s H vs Q E U h=>?_)
 .obtain⟨vt,C,S,t,cs,xs,uss,rs,many,rfl,_⟩:=h
  rfl
 obtain⟨vt,C,S,t,cs,xs,uss,rs,many,rfl,dt,ot,ch,Z,M,hS,dx,R,hm4,q⟩:=h;have Y:cs.length=rs.length:=by rw[ch.cl,M,R]
 refine⟨_,(AD (Bu (AX D8 MD U rfl (AA (pv 0) AB)))
 (AD (Bu (AX Dj LD U rfl (AA (pv 1) AB)))
 (AF (Bu (AX EA MF U rfl (AA (pv 2) (AA (Ad BB rfl BG av (AA (pv 1) AB)) AB))))))),?_⟩
 refine⟨_,rfl,vt,t,4,rfl,dt,ot,by decide,fun H1 e1=>?_⟩;have g:=ch.same e1;refine⟨_,rfl,.ref C,_,rfl,DU.lst g.at_ g.du,Z,fun H2 e2=>?_⟩;have I:=e1.trans e2;refine⟨_,rfl,_,rfl,C,cs,rfl,.inl (AO.of (I _ _ ch.at_)),S,xs,rs,?_,I _ _ hS,dx.same I,q H2 I⟩;rw[Y]
 rfl
end
theorem Tf{x0:Nat->Int}{uss:List (List AV)}{rows:List (List Int)}{nn a b c r:Nat}(hl:uss.length=nn)(R:∀u,u<nn->(x0 u).natAbs<=2^a)(I:∀us∈uss,us.length<=16/\∀z∈us,CJ nn z.1/\z.2.num.natAbs<=2^c)
 (hr:∀row∈rows,row.length<=4/\∀p∈row,p.natAbs<=2^r)(hb:15+r+c+2*a<=b):∀i,i<=rows.length ->
  (∀S∈(BW x0 uss (rows.take i)).1,∀u k,u<nn->k<=7->(S u k).natAbs<=2^(13+c+3*a+b*k))/\∀u k,u<nn->k<=8->((BW x0 uss (rows.take i)).2 u k).natAbs<=2^(a+b*k)
 |0,_=>by
  refine⟨fun S M=>(by cases M),fun u k g hk=>?_⟩;cases k with
  |zero=>exact R u g
  |succ k=>exact ah _
 |i+1,hi=>by
  obtain⟨h1,h2⟩:=Tf hl R I hr hb i (by lia);have Y:rows[i]? = some (rows[i]' hi):=aF hi;obtain⟨r4,rb⟩:=hr _ (au hi);rw[List.take_add_one,Y,Option.toList_some,IQ];generalize rows[i]' hi=row at r4 rb;have M:∀S∈(BW x0 uss (rows.take i)).1++[CY uss (BW x0 uss (rows.take i)).2],∀u k,u<nn->k<=7->(S u k).natAbs<=2^(13+c+3*a+b*k):=fun S M u k g hk=>by
   rcases aS.mp M with h|h
   .exact h1 S h u k g hk
   .rw[List.mem_singleton.mp h];have U:uss.getD u []∈uss:=by rw[List.getD_eq_getElem?_getD,List.getElem?_eq_getElem (show u<uss.length by lia)];exact au _
    exact Wk hk (fun u j g hj=>h2 u j g (by lia)) (I _ U).1 (I _ U).2
  refine⟨M,fun u k g hk=>?_⟩;cases k with
  |zero=>exact R u g
  |succ k=>
   show(Fp row _ u k).natAbs<=_;unfold Fp;have h3:∀x∈(row.zip ((BW x0 uss (rows.take i)).1++[CY uss (BW x0 uss (rows.take i)).2])).map fun q=>q.1*q.2 u k,x.natAbs<=2^(r+(13+c+3*a+b*k)):=fun x R=>by
    obtain⟨q,hq,rfl⟩:=aJ.mp R;have Z:=bC hq;rw[Int.natAbs_mul,Nat.pow_add];exact bV (rb _ Z.1) (M _ Z.2 u k g (by lia))
   have h4:=Nb h3;have h5:((row.zip ((BW x0 uss (rows.take i)).1++[CY uss (BW x0 uss (rows.take i)).2])).map fun q=>q.1*q.2 u k).length<=2^2:=by
    rw[List.length_map,List.length_zip];exact aU (Nat.min_le_left _ _) r4
   refine aU h4 (aU (bW _ h5) ?_);rw[<-Nat.pow_add];refine bD (by decide) ?_;rw[Nat.mul_succ];lia
structure BS(t:Tb)(uss:List (List AV))(rs:List Rat)(most nn:Nat):Prop where
 tab:t.Ok 4
 Lh:t.Fits 3
 n4:nn<=4
 len:uss.length=nn
 Oy:rs.length=nn
 Ua:most<=7
 fit:∀us∈uss,us.length<=12/\∀m∈us,FM.Fits m.2 3
 pw:∀us∈uss,∀m∈us,CJ nn m.1
 jQ:∀r∈rs,FM.Fits r 3
 good:Iu (.list (uss.map CP))=true
abbrev Cs(t:Tb)(uss:List (List AV))(rs:List Rat):Int:=Jb uss (AW rs)*Gy t
abbrev EY(t:Tb):List (List Int):=(AJ t).map fun r=>BI r (Gy t)
def C4(t:Tb)(uss:List (List AV))(rs:List Rat)(i:Nat):List (Nat->Nat->Int)×(Nat->Nat->Int):=BW ((BI rs (AW rs)).getD · 0) (BZ (AW rs) uss) ((EY t).take i)
section
variable{t:Tb}{uss:List (List AV)}{rs:List Rat}{most nn:Nat}
theorem BS.sum(o:BS t uss rs most nn):∀us∈uss,∀m∈us,0<=A7 m/\A7 m<=3:=fun us g m hm=>⟨Cz (o.pw us g m hm).nn,(o.pw us g m hm).s3⟩
theorem BS.RS(o:BS t uss rs most nn):∀us∈uss,us.length<=12/\∀m∈us,FM.Fits m.2 4:=fun us g=>⟨(o.fit us g).1,fun m hm=>((o.fit us g).2 m hm).mono⟩
theorem BS.QY(o:BS t uss rs most nn):∀r∈rs,FM.Fits r 4:=fun r g=>(o.jQ r g).mono
theorem BS.Je(o:BS t uss rs most nn):1<=AW rs/\(AW rs).natAbs<2^17/\∀r∈rs,(r.den:Int) ∣ AW rs:=by
 obtain⟨a,b,c⟩:=FI (F5 o.QY);refine⟨a,FM.A6 b ?_,fun r g=>c _ (aJ.mpr ⟨r,g,rfl⟩)⟩;rw[List.length_map,o.Oy];have:=o.n4
 lia
theorem BS.bot(o:BS t uss rs most nn):1<=Gy t/\(Gy t).natAbs<2^61/\∀r∈AJ t,∀q∈r,(q.den:Int) ∣ Gy t:=by
 obtain⟨a,b,c⟩:=FI (P0 o.Lh t.rs.length);have M:=Jd o.tab t.rs.length (aD _);have hm:=o.tab.most;refine⟨a,FM.A6 b ?_,fun r I q g=>c _ ?_⟩
 .have:t.rs.length*t.rs.length<=4*4:=bV hm hm
  lia
 .unfold AJ at I;unfold Gk;rcases aS.mp I with h|h
  .refine aj _ (List.mem_flatten.mpr ⟨EJ r,List.mem_map.mpr ⟨r,?_,rfl⟩,List.mem_map.mpr ⟨q,g,rfl⟩⟩);rw[List.take_length];exact bh h
  .rw[List.mem_singleton.mp h]at g;exact bL _ (aJ.mpr ⟨q,g,rfl⟩)
theorem BS.Xl(o:BS t uss rs most nn):(AJ t).length=t.rs.length/\∀i r,(AJ t)[i]? = some r->r.length=i+1:=by
 have R:=o.tab.one;refine⟨by unfold AJ;simp;lia,fun i r g=>?_⟩;unfold AJ at g;by_cases hi:i<t.rs.length-1
 .rw[List.getElem?_append_left (by simp;lia),List.getElem?_drop]at g;have:=o.tab.row _ _ g
  lia
 .rw[List.getElem?_append_right (by simp;lia)]at g;simp at g;obtain⟨M,I⟩:=aB.mp g;simp at M;have:r=t.ls:=by rw[<-I];simp
  rw[this,o.tab.last];lia
theorem BS.DX(o:BS t uss rs most nn):(∀i row,(EY t)[i]? = some row->row.length=i+1)/\(EY t).length=t.rs.length/\∀row∈EY t,row.length<=4/\∀p∈row,p.natAbs<=2^64:=by
 obtain⟨R,Z⟩:=o.Xl;obtain⟨b1,b2,_⟩:=o.bot;have hm:=o.tab.most;have Y:∀i row,(EY t)[i]? = some row->row.length=i+1:=fun i row h=>by
  rw[List.getElem?_map]at h;obtain⟨r,g,rfl⟩:=aH.mp h;unfold BI;rw[List.length_map];exact Z i r g
 refine⟨Y,by rw[List.length_map];exact R,fun row h=>?_⟩;obtain⟨i,hi⟩:=aa h;have M:i<(EY t).length:=(aB.mp hi).1;rw[List.length_map,R]at M;refine⟨by rw[Y i row hi];lia,fun p U=>?_⟩;obtain⟨r,g,rfl⟩:=aJ.mp h;unfold BI at U;obtain⟨q,I,rfl⟩:=aJ.mp U;have hf:FM.Fits q 3:=by
  unfold AJ at g;rcases aS.mp g with h|h
  .exact o.Lh.1 r (bh h) q I
  .rw[List.mem_singleton.mp h]at I;exact o.Lh.2 q I
 have h2:((Gy t).fdiv (q.den:Int)).natAbs<2^61:=aL (FM.A3 _ _) b2;exact bZ (FM.Ax hf.1 h2)
theorem BS.i3(o:BS t uss rs most nn):(∀x∈BI rs (AW rs),x.natAbs<=2^21)/\(∀us∈BZ (AW rs) uss,us.length<=12/\∀z∈us,CJ nn z.1/\z.2.num.natAbs<=2^250)/\(BZ (AW rs) uss).length=nn/\(BI rs (AW rs)).length=nn:=by
 obtain⟨g1,g2,_⟩:=o.Je;obtain⟨b1,b2,_⟩:=EN (by rw[o.len];exact o.n4) o.RS;refine⟨fun x Y=>?_,fun us Z=>?_,by unfold BZ;rw[List.length_map];exact o.len,by unfold BI;rw[List.length_map];exact o.Oy⟩
 .unfold BI at Y;obtain⟨r,hr,rfl⟩:=aJ.mp Y;have R:=(o.QY r hr).1;have M:((AW rs).fdiv (r.den:Int)).natAbs<2^17:=aL (FM.A3 _ _) g2;exact bZ (FM.Ax R M)
 .unfold BZ at Z;obtain⟨vs,g,rfl⟩:=aJ.mp Z;refine⟨by unfold Bh;rw[List.length_map];exact(o.fit vs g).1,fun z U=>?_⟩;unfold Bh at U;obtain⟨m,hm,rfl⟩:=aJ.mp U;refine⟨o.pw vs g m hm,?_⟩;have R:=((o.RS vs g).2 m hm).1;have M:((Aq uss).fdiv (m.2.den:Int)).natAbs<2^193:=aL (FM.A3 _ _) b2;obtain⟨_,g3,_⟩:=Fv (uss:=uss) (c:=3) (by decide) fun us I m hm=>(o.sum us I m hm).2;have h3:((AW rs)^(Ae uss-(A7 m).toNat)).natAbs<2^(17*3+1):=CG (p:=3) g2 (by unfold Ae;lia);have h4:=FM.Ax (FM.Ax R M) h3;show((Gf (Aq uss) (AW rs) (Ae uss) m).2.num).natAbs<=_;unfold Gf;rw[show((m.2.num*(Aq uss).fdiv (m.2.den:Int)*AW rs^(Ae uss-(A7 m).toNat):Int):Rat).num=m.2.num*(Aq uss).fdiv (m.2.den:Int)*AW rs^(Ae uss-(A7 m).toNat) from rfl];exact bZ (FM.A6 h4 (by decide))
theorem BS.xb(o:BS t uss rs most nn):∀i,i<=(EY t).length->(∀S∈(C4 t uss rs i).1,∀u k,u<nn->k<=7->(S u k).natAbs<=2^(326+371*k))/\∀u k,u<nn->k<=8->((C4 t uss rs i).2 u k).natAbs<=2^(21+371*k):=fun i hi=>by
 obtain⟨U,I,R,M⟩:=o.i3;refine Tf (a:=21) (c:=250) (r:=64) R (fun u g=>?_) (fun us g=>⟨by have:=(I us g).1;lia,(I us g).2⟩) o.DX.2.2 (by decide) i hi;show((BI rs (AW rs)).getD u 0).natAbs<=_;rw[List.getD_eq_getElem?_getD,List.getElem?_eq_getElem (show u<(BI rs (AW rs)).length by rw[M];exact g)];exact U _ (au _)
theorem BS.wt(o:BS t uss rs most nn):dF (BZ (AW rs) uss) (BI rs (AW rs)) (EY t) most nn 3200:=by
 obtain⟨h1,U,h3,h4⟩:=o.i3;obtain⟨t1,t2,t3⟩:=o.DX;have hm:=o.Ua;have M:=o.xb;have Y:∀k,k<most->371*k<=2597:=fun k Y=>by lia
 refine⟨o.n4,h3,h4,by lia,fun us g=>by have:=(U us g).1;lia,fun us g z Z=>((U us g).2 z Z).1,fun us g z Z=>F8 ((U us g).2 z Z).2 (by decide),t1,by rw[t2];have:=o.tab.most;lia,fun row hr p hp=>F8 ((t3 row hr).2 p hp) (by decide),fun i hi u k g I=>F8 ((M i (by lia)).2 u k g (by lia)) (by have:=Y k I;lia),fun i hi ps po k I=>F8 (Tt (k:=k) (by lia) (fun u j g hj=>(M i (by lia)).2 u j g (by lia)) po) (by have:=Y k I;lia),fun i hi u k g I=>?_,by decide⟩;have R:(BZ (AW rs) uss).getD u []∈BZ (AW rs) uss:=by rw[List.getD_eq_getElem?_getD,List.getElem?_eq_getElem (show u<(BZ (AW rs) uss).length by lia)];exact au _
 refine F8 (Wk (k:=k) (by lia) (fun u j g hj=>(M i (by lia)).2 u j g (by lia)) (by have:=(U _ R).1;lia) (U _ R).2) (by have:=Y k I;lia)
theorem BS.Ck(o:BS t uss rs most nn):1<=Jb uss (AW rs)/\(Jb uss (AW rs)).natAbs<2^300/\(Cs t uss rs).natAbs<2^400/\1<=Cs t uss rs:=by
 obtain⟨Z,Y,_⟩:=o.Je;obtain⟨t1,M,_⟩:=o.bot;obtain⟨b1,b2,_⟩:=EN (by rw[o.len];exact o.n4) o.RS;obtain⟨_,g3,_⟩:=Fv (uss:=uss) (c:=3) (by decide) fun us g m hm=>(o.sum us g m hm).2;have U:((AW rs)^(Ae uss-1)).natAbs<2^(17*3+1):=CG (p:=3) Y (by unfold Ae;lia);have I:(Jb uss (AW rs)).natAbs<2^300:=FM.A6 (FM.Ax b2 U) (by decide);have h0:1<=(AW rs)^(Ae uss-1):=GH Z _;have R:1<=Jb uss (AW rs):=bw (show 0<_ by lia) (show 0<_ by lia);exact⟨R,I,FM.A6 (FM.Ax I M) (by decide),Int.mul_pos (show 0<_ by lia) (show 0<_ by lia)⟩
end
def Nk(t:Tb)(uss:List (List AV))(rs:List Rat)(most:Nat):List (List Rat):=(List.range uss.length).map fun u=>C1 (OE ((C4 t uss rs (EY t).length).2 u) (Cs t uss rs) (AW rs)) (most+1)
def Y6:Sp:=fun vs H Q _=>∃(I:V) (C S:Addr) (cs ss:List V) (t:Tb) (uss:List (List AV)) (rs:List Rat) (most nn:Nat),vs=[I,.ref C,.ref S,.int (most:Nat)]/\DU H (Bn t) I/\H C=some (.lst cs)/\Am H (uss.map CP) cs/\H S=some (.lst ss)/\Am H (AR rs) ss/\BS t uss rs most nn /\
 ∀D H' g,AG H H'->H D=none->H' D=some (.lst g)->Am H' (BF (Nk t uss rs most)) g->(∀z∈g,∃a,z=.ref a/\H a=none)->Q (.ref D) H'
section
variable{P:Program}{w:World}{K:PySem.W.Frag}{mg:Str->Option Value}{base:Heap}{f g1 g2 g3 g4 g5 g6 g7 g8 g9 g10:Addr}{fd gd1 gd2 gd3 gd4 gd5 gd6 gd7 gd8 gd9 gd10:FuncData}
theorem SO:Ab ["table","change","start","most","grain","bottom","reading","rows","pace"] ["table","change","start","most"] (AN HI):=⟨rfl,rfl,rfl,by decide +kernel,rfl,by decide +kernel,by decide +kernel⟩
theorem RT(F:Fn K mg "step_rows" HI ["table","change","start","most"] f fd)(B5:Fn K mg "refuse_no_step" ER ["table","change","start"] g1 gd1)(D7:Fn K mg "refuse_too_many" FV ["most"] g2 gd2)(EK:Fn K mg "grain_of" IH ["start"] g3 gd3)(FN:Fn K mg "table_bottom" Gq ["table"] g4 gd4)(B4:Fn K mg "rows_that_read" EU ["table"] g5 gd5)
 (Bx:Fn K mg "tops_over" FX ["some","bottom"] g6 gd6)(GZ:Fn K mg "whole_step" Io ["reading","change","start","most"] g7 gd7)(Cb:Fn K mg "whole_change" FG ["change","grain"] g8 gd8)(FE:Fn K mg "pace_of" JX ["change","grain"] g9 gd9)(Dg:Fn K mg "row_of_fractions" Ew ["row","pace","grain"] g10 gd10)
 (F4:AL P w K mg base AY 8 g1 gd1 ["table","change","start"] NG)(ME:AL P w K mg base AY 8 g2 gd2 ["most"] ZF)(Kn:AL P w K mg base AY 8 g3 gd3 ["start"] OY)(OM:AL P w K mg base AY 8 g4 gd4 ["table"] eR)(Fz:AL P w K mg base AY 8 g5 gd5 ["table"] OP)
 (Eh:AL P w K mg base AY 8 g6 gd6 ["some","bottom"] Ny)(Sn:AL P w K mg base AY 8 g7 gd7 ["reading","change","start","most"] Y4)(G6:AL P w K mg base AY 8 g8 gd8 ["change","grain"] X8)(K4:AL P w K mg base AY 8 g9 gd9 ["change","grain"] Qx)(Ll:AL P w K mg base AY 8 g10 gd10 ["row","pace","grain"] ZW):AL P w K mg base AY 9 f fd ["table","change","start","most"] Y6:=by
 have sc:=SO;refine F.F.ok (k:=8) sc (fun vs H Q E h=>?_) (fun cdv A outer s H vs Q E I h=>?_)
 .obtain⟨vt,C,S,cs,ss,t,uss,rs,most,nn,rfl,_⟩:=h
  rfl
 obtain⟨vt,C,S,cs,ss,t,uss,rs,most,nn,rfl,dt,hC,dc,hS,ds,ok,q⟩:=h;have n4:=ok.n4;have hul4:uss.length<=4:=by rw[ok.len];exact n4
 have hsl4:rs.length<=4:=by rw[ok.Oy];exact n4
 obtain⟨gr1,gr2,_⟩:=ok.Je;obtain⟨tb1,tb2,_⟩:=ok.bot;obtain⟨pc1,pc2,pc3,pc4⟩:=ok.Ck;obtain⟨rl1,rl2⟩:=ok.Xl;have hm4:=ok.tab.most;have chg:∀H',AG H H'->Jk H' C cs uss 4:=fun H' e=>⟨e _ _ hC,dc.same e,hul4,ok.RS⟩;refine⟨_,(AD (Bu (AX B5 F4 I rfl (AA (pv 0) (AA (pv 1) (AA (pv 2) AB)))))
 (AD (Bu (AX D7 ME I rfl (AA (pv 3) AB)))
 (AD (AU (i:=4) sc.nd rfl (Or.inr rfl) (AX EK Kn I rfl (AA (pv 2) AB)))
 (AD (AU (i:=5) sc.nd rfl (Or.inr rfl) (AX FN OM I rfl (AA (pv 0) AB)))
 (AD (HS (i:=6) [".0","row","bottom"] 1 [none,none,some 5] sc.nd rfl rfl (Av (AX B4 Fz I rfl (AA (pv 0) AB))) (fun _ _ _ _ _=>BC) (fun _ _ _ _ _=>(AX Bx Eh I rfl (AA (pv 1) (AA (pv 2) AB)))))
 (AD (AU (i:=7) sc.nd rfl (Or.inl rfl) (AX GZ Sn I rfl (AA (pv 6) (AA (AX Cb G6 I rfl (AA (pv 1) (AA (pv 4) AB))) (AA (AX Bx Eh I rfl (AA (pv 2) (AA (pv 4) AB))) (AA (pv 3) AB))))))
 (AD (AU (i:=8) sc.nd rfl (Or.inr rfl) (Aa A9 (AX FE K4 I rfl (AA (pv 1) (AA (pv 4) AB))) (pv 5)))
 (AF (Ac (Bf [".0","row","pace","grain"] 1 [none,none,some 8,some 4] (Av (pv 7)) (fun _ _ _ _ _=>BC) (fun _ _ _ _ _=>(AX Dg Ll I rfl (AA (pv 1) (AA (pv 2) (AA (pv 3) AB))))))))))))))),?_⟩
 refine⟨_,rfl,_,rfl,_,rfl,vt,C,S,t,cs,ss,uss,rs,nn,rfl,dt,ok.tab,⟨hC,dc,hul4,ok.fit⟩,ok.good,ok.len,hS,ds,ok.Oy,n4,fun H1 e1=>?_⟩;refine⟨_,rfl,most,rfl,ok.Ua,?_⟩;refine⟨_,rfl,S,ss,rs,4,rfl,e1 _ _ hS,ds.same e1,by lia,ok.QY,by lia,fun H2 e2=>?_⟩;have E2:=e1.trans e2;refine⟨_,rfl,vt,t,4,3,rfl,dt.same E2,ok.tab,by decide,ok.Lh,by decide,fun H3 e3=>?_⟩;have E3:=E2.trans e3;refine⟨_,rfl,vt,t,4,rfl,dt.same E3,ok.tab,by decide,fun Rr H4 zs e4 hRr M dz=>?_⟩;have E4:=E3.trans e4;have hzl:zs.length=(AJ t).length:=by rw[dz.len];unfold BF;rw[List.length_map]
 refine⟨Rr,rfl,⟨_,AO.of M⟩,fun D hD=>Ba (n:=zs.length) (fun i ys H'=>AG H4 H'/\ys.length=i/\AQ D H' (((EY t).take i).map fun r=>.list (r.map .int)) ys) ⟨AK hD _,rfl,.nil⟩ ?_ ?_⟩
 .rintro i ys H5 hi ⟨e5,hyl,Y⟩ hD5;obtain⟨r,I⟩:∃r,(AJ t)[i]? = some r:=⟨(AJ t)[i]'(by lia),List.getElem?_eq_getElem _⟩;obtain⟨a,xs,k1,k2,k3⟩:=KJ dz I;have hrm:=aI I;have hrl:=rl2 i _ I;have htr:(EY t)[i]? = some (BI r (Gy t)):=by rw[List.getElem?_map,I];rfl
  have hrf:∀q∈r,FM.Fits q 3:=fun q hq=>by
   unfold AJ at hrm;rcases aS.mp hrm with h|h
   .exact ok.Lh.1 r (bh h) q hq
   .rw[List.mem_singleton.mp h]at hq;exact ok.Lh.2 q hq
  refine⟨⟨zs,.ref a,AO.of (e5 _ _ M),k1⟩,Bk (n:=60) (by lia) (by decide),fun x H' y=>?_⟩;obtain⟨rfl,y⟩:=y;have hx:=y zs (AO.of (e5 _ _ M));rw[k1]at hx;cases hx;unfold Bj;refine BA ⟨_,rfl,_,rfl,a,xs,r,Gy t,3,61,rfl,e5 _ _ k2,k3.same e5,by lia,hrf,tb2,by decide,fun Z H6 e6 hZ hZ6=>?_⟩;have hD6:=e6 _ _ hD5;have nZ:Z≠D:=fun z=>by subst z;rw[hD5]at hZ;cases hZ
  refine⟨hD6,A8 hi ⟨fun b o z=>?_,by simp[hyl],?_⟩⟩
  .rw[AI (AM z hD)];exact e6 _ _ (e5 _ _ z)
  .rw[List.take_add_one,htr,List.map_append];exact .but .upd ((Y.same e6).app (.cons (.lst nZ hZ6 (Qf _)) .nil))
 rintro ys H5 ⟨e5,hyl,Y⟩ hD5;rw[List.take_of_length_le (by rw[hzl,List.length_map];exact aD _)]at Y;have Y:=B6 Y;refine⟨⟨zs,AO.of (e5 _ _ M),Nat.le_refl _⟩,?_⟩;have E5:=E4.trans e5;refine⟨_,rfl,_,rfl,_,rfl,C,cs,uss,AW rs,17,rfl,chg H5 E5,ok.sum,gr2,by decide,fun W H6 ws e6 hW hW6 dW=>?_⟩;have E6:=E5.trans e6;refine⟨_,rfl,_,rfl,S,ss,rs,AW rs,4,17,rfl,E6 _ _ hS,ds.same E6,by lia,ok.QY,gr2,by decide,fun T H7 e7 hT hT7=>?_⟩;have E7:=E6.trans e7;refine⟨_,rfl,D,W,T,ys,ws,BZ (AW rs) uss,BI rs (AW rs),EY t,most,nn,3200,rfl,e7 _ _ (e6 _ _ hD5),Y.same (e6.trans e7),e7 _ _ hW6,dW.same e7,hT7,ok.wt,fun R H8 e8 hR rw8=>?_⟩;have E8:=E7.trans e8;refine⟨_,rfl,_,rfl,C,cs,uss,AW rs,17,rfl,chg H8 E8,ok.sum,gr2,by decide,fun H9 e9=>?_⟩;have E9:=E8.trans e9;refine⟨_,rfl,_,_,rfl,rfl,DP pc2 tb2 (by decide),?_⟩;obtain⟨rvs,k1,k2,k3⟩:=rw8;have hk1:=e9 _ _ k1;refine⟨_,rfl,R,rfl,⟨_,AO.of hk1⟩,fun D2 hD2=>Ba (n:=rvs.length) (fun i ys H'=>AG H9 H'/\ys.length=i/\AQ D2 H' (BF ((List.range i).map fun u=>C1 (OE ((C4 t uss rs (EY t).length).2 u) (Cs t uss rs) (AW rs)) (most+1))) ys/\∀z∈ys,∃a,z=.ref a/\H a=none) ⟨AK hD2 _,rfl,.nil,(fun _ z=>by cases z)⟩ ?_ ?_⟩
 .rintro i ys H10 hi ⟨g,hyl,Y,ny⟩ U;obtain⟨a,j1,j2,j3,_⟩:=k3 i (by lia);have hst:(BW ((BI rs (AW rs)).getD · 0) (BZ (AW rs) uss) (EY t)).2=(C4 t uss rs (EY t).length).2:=by unfold C4;rw[List.take_length]
  rw[hst]at j2;refine⟨⟨rvs,.ref a,AO.of (g _ _ hk1),j1⟩,Bk (n:=60) (by lia) (by decide),fun x H' y=>?_⟩;obtain⟨rfl,y⟩:=y;have hx:=y rvs (AO.of (g _ _ hk1));rw[j1]at hx;cases hx;unfold Bj;refine BA ⟨_,rfl,_,rfl,_,rfl,a,(C4 t uss rs (EY t).length).2 i,most+1,Cs t uss rs,AW rs,400,rfl,g _ _ (e9 _ _ j2),by have:=ok.Ua;lia,by lia,by lia,FM.A6 gr2 (show 17<=400 by decide),pc3,by decide,fun Z H11 zs e11 hZ hZ11 dz=>?_⟩;have hD11:=e11 _ _ U;have nZ:Z≠D2:=fun z=>by subst z;rw[U]at hZ;cases hZ
  refine⟨hD11,A8 hi ⟨fun b o z=>?_,by simp[hyl],?_,fun z hz=>?_⟩⟩
  .rw[AI (AM z hD2)];exact e11 _ _ (g _ _ z)
  .rw[List.range_succ,List.map_append];unfold BF at Y ⊢;rw[List.map_append];exact .but .upd ((Y.same e11).app (.cons (.lst nZ hZ11 (Ib hD11 dz)) .nil))
  .rcases aS.mp hz with h|h
   .exact ny z h
   .exact⟨Z,List.mem_singleton.mp h,Cy (E9.trans g) hZ⟩
 .rintro ys H10 ⟨g,hyl,Y,ny⟩ U;rw[k2]at Y;refine⟨⟨rvs,AO.of (g _ _ hk1),Nat.le_refl _⟩,q D2 H10 ys (E9.trans g) (Cy E9 hD2) U ?_ ny⟩;unfold Nk;rw[ok.len];exact B6 Y
end
def EW(f g:Nat->Rat)(k:Nat):Rat:=(C1 (fun j=>f j*g (k-j)) (k+1)).sum
def JU(X:Nat->Nat->Rat):Nat->List Int->Nat->Rat
 |0,_=>fun k=>if k=0 then 1 else 0
 |n+1,ps=>EW (JU X n (BR ps (fu ps))) (X (fu ps))
def N7(X:Nat->Nat->Rat)(ps:List Int):Nat->Rat:=JU X ps.sum.toNat ps
def Qg(X:Nat->Nat->Rat)(us:List AV)(k:Nat):Rat:=(us.map fun m=>m.2*N7 X m.1 k).sum
theorem VE{f g:Nat->Rat}{n:Nat}(h:∀j,j<n->f j=g j):C1 f n=C1 g n:=aW fun j I=>h j (bN.mp I)
theorem LY{B:Int}(g:B≠0)(t:Int):(t:Rat)=(B:Rat)*Rat.divInt t B:=by
 have h:(B:Rat)≠0:=by simpa using g
 rw[Rat.divInt_eq_div]
 grind
theorem IM{S:Int}{r:Rat}(h:(r.den:Int) ∣ S):((r.num*S.fdiv (r.den:Int):Int):Rat)=(S:Rat)*r:=by
 obtain⟨c,rfl⟩:=h;have hd:(r.den:Int)≠0:=by have:=r.den_nz;lia
 rw[FM.C5 hd rfl,Rat.intCast_mul,Rat.intCast_mul];have e:(r.num:Rat)=((r.den:Int):Rat)*r:=by
  have:=LY hd r.num;rw[FM.Bc]at this;exact this
 rw[e]
 grind
theorem HC(b:Int):∀n:Nat,((b^n:Int):Rat)=(b:Rat)^n
 |0=>by simp
 |n+1=>by rw[Int.pow_succ,Rat.intCast_mul,HC b n,Rat.pow_succ]
theorem Me:∀l:List Int,((l.sum:Int):Rat)=(l.map fun x:Int=>(x:Rat)).sum
 |[]=>by simp
 |x::l=>by rw[List.sum_cons,Rat.intCast_add,Me l,List.map_cons,List.sum_cons]
theorem O4{α:Type}(c:Rat)(f:α->Rat):∀l:List α,(l.map fun x=>c*f x).sum=c*(l.map f).sum
 |[]=>by simp
 |x::l=>by rw[List.map_cons,List.sum_cons,O4 c f l,List.map_cons,List.sum_cons,Rat.mul_add]
theorem LG(x:Rat)(m:Nat):∀n,x^(m+n)=x^m*x^n
 |0=>by simp
 |n+1=>by rw[<-Nat.add_assoc,Rat.pow_succ,Rat.pow_succ,LG x m n,Rat.mul_assoc]
theorem PL{X:Nat->Nat->Int}{x:Nat->Nat->Rat}{g P:Rat}{nn k:Nat}(h:∀u j,u<nn->j<=k->((X u j:Int):Rat)=g*P^j*x u j):∀(n:Nat) (ps:List Int),CJ nn ps->ps.sum=(n:Int)->∀j,j<=k->((Dx X ps j:Int):Rat)=g^n*P^j*JU x n ps j
 |0,ps,o,I,j,M=>by
  rw[NC (by lia)];show _=g^0*P^j*(if j=0 then 1 else 0);by_cases z:j=0
  .subst z;simp
  .rw[if_neg z,if_neg z];simp
 |n+1,ps,o,I,j,M=>by
  have h0:ps.sum≠0:=by lia
  obtain⟨f1,_⟩:=HR h0;rw[Ml o h0];show _=g^(n+1)*P^j*EW (JU x n (BR ps (fu ps))) (x (fu ps)) j;unfold conv EW C1
  rw[Me,<-O4];unfold BX;rw[List.map_map]
  congr 1
  refine aW fun i hi=>?_;have hi:i<j+1:=bN.mp hi;show((Dx X (BR ps (fu ps)) i*X (fu ps) (j-i):Int):Rat)=_;rw[Rat.intCast_mul,PL h n _ (o.low h0) (by rw[sum_set _ _ f1];lia) i (by lia),h (fu ps) (j-i) (by rw[<-o.len];exact f1) (by lia),Rat.pow_succ];have e:P^j=P^i*P^(j-i):=by rw[<-LG];congr 1;lia
  rw[e]
  grind
theorem XO{X:Nat->Nat->Int}{x:Nat->Nat->Rat}{g:Int}{P:Rat}{nn k gr:Nat}{B:Int}(h:∀u j,u<nn->j<=k->((X u j:Int):Rat)=(g:Rat)*P^j*x u j){us:List AV}(I:∀m∈us,CJ nn m.1/\A7 m<=gr/\(m.2.den:Int) ∣ B) :
  ((PV X (Bh B g gr us) k:Int):Rat)=(B:Rat)*(g:Rat)^gr*P^k*Qg x us k:=by
 unfold PV Bh Qg;rw[Me,<-O4,List.map_map,List.map_map]
 congr 1
 refine aW fun m hm=>?_;obtain⟨o,M,hd⟩:=I m hm;have s0:=Cz o.nn;show(((Gf B g gr m).2.num*Dx X (Gf B g gr m).1 k:Int):Rat)=_;unfold Gf;show(((m.2.num*B.fdiv (m.2.den:Int)*g^(gr-(A7 m).toNat))*Dx X m.1 k:Int):Rat)=_;rw[Rat.intCast_mul,Rat.intCast_mul,IM hd,HC,PL h m.1.sum.toNat m.1 o (by lia) k (aD _)];have e:(g:Rat)^gr=(g:Rat)^(gr-(A7 m).toNat)*(g:Rat)^m.1.sum.toNat:=by
  rw[<-LG]
  congr 1
  unfold A7 at M ⊢
  lia
 rw[e];show _=_*(m.2*JU x m.1.sum.toNat m.1 k)
 grind
theorem Wc{uss:List (List AV)}{G:Int}{u:Nat}:(BZ G uss).getD u []=Bh (Aq uss) G (Ae uss) (uss.getD u []):=by
 unfold BZ;rw[List.getD_eq_getElem?_getD,List.getElem?_map,List.getD_eq_getElem?_getD];cases uss[u]? <;> rfl
def IK(row:List Rat)(ss:List (Nat->Nat->Rat))(u k:Nat):Rat:=((row.zip ss).map fun q=>q.1*q.2 u k).sum
def Fj(x0:Nat->Rat)(row:List Rat)(ss:List (Nat->Nat->Rat)):Nat->Nat->Rat:=fun u k=>match k with
 |0=>x0 u
 |k+1=>IK row ss u k
def J7(x0:Nat->Rat):Nat->Nat->Rat:=fun u k=>match k with
 |0=>x0 u
 |_+1=>0
def B3(uss:List (List AV))(X:Nat->Nat->Rat):Nat->Nat->Rat:=fun u k=>Qg X (uss.getD u []) k
def Hu(x0:Nat->Rat)(uss:List (List AV)):List (List Rat)->List (Nat->Nat->Rat)×(Nat->Nat->Rat)->List (Nat->Nat->Rat)×(Nat->Nat->Rat)
 |[],z=>z
 |row::rows,z=>Hu x0 uss rows (z.1++[B3 uss z.2],Fj x0 row (z.1++[B3 uss z.2]))
def CI(x0:Nat->Rat)(uss:List (List AV))(rows:List (List Rat)):List (Nat->Nat->Rat)×(Nat->Nat->Rat):=Hu x0 uss rows ([],J7 x0)
theorem N3(x0:Nat->Rat)(uss:List (List AV))(row:List Rat):∀(rows:List (List Rat)) (z:List (Nat->Nat->Rat)×(Nat->Nat->Rat)),Hu x0 uss (rows++[row]) z=((Hu x0 uss rows z).1++[B3 uss (Hu x0 uss rows z).2],Fj x0 row ((Hu x0 uss rows z).1++[B3 uss (Hu x0 uss rows z).2]))
 |[],z=>rfl
 |r::rows,z=>N3 x0 uss row rows _
theorem TK(x0:Nat->Rat)(uss:List (List AV))(rows:List (List Rat))(row:List Rat):CI x0 uss (rows++[row])=((CI x0 uss rows).1++[B3 uss (CI x0 uss rows).2],Fj x0 row ((CI x0 uss rows).1++[B3 uss (CI x0 uss rows).2])):=N3 x0 uss row rows _
def Li(nn:Nat)(c:Nat->Rat):List (Nat->Nat->Int)->List (Nat->Nat->Rat)->Prop
 |[],[]=>True
 |S::g,s::ss=>(∀u k,u<nn->((S u k:Int):Rat)=c k*s u k)/\Li nn c g ss
 |_,_=>False
theorem Li.snoc{nn:Nat}{c:Nat->Rat}{S:Nat->Nat->Int}{s:Nat->Nat->Rat}(h:∀u k,u<nn->((S u k:Int):Rat)=c k*s u k):∀ {g:List (Nat->Nat->Int)} {ss:List (Nat->Nat->Rat)},Li nn c g ss->Li nn c (g++[S]) (ss++[s])
 |[],[],_=>⟨h,trivial⟩
 |_::_,_::_,k=>⟨k.1,Li.snoc h k.2⟩
 |[],_::_,k=>k.elim
 |_::_,[],k=>k.elim
theorem Nf{nn:Nat}{c:Nat->Rat}{T:Int}{u k:Nat}(R:u<nn):∀ {r:List Rat} {I:List (Nat->Nat->Int)} {ss:List (Nat->Nat->Rat)},(∀q∈r,(q.den:Int) ∣ T)->Li nn c I ss->((Fp (BI r T) I u k:Int):Rat)=(T:Rat)*c k*IK r ss u k
 |[],I,ss,_,_=>by unfold Fp IK BI;simp
 |q::r,[],[],_,_=>by unfold Fp IK BI;simp
 |q::r,S::I,s::ss,h,g=>by
  have M:=Nf (k:=k) R (r:=r) (fun p U=>h p (.tail _ U)) g.2;unfold Fp IK BI at M ⊢;rw[List.map_cons,List.zip_cons_cons,List.map_cons,List.sum_cons,Rat.intCast_add,M,List.zip_cons_cons,List.map_cons,List.sum_cons,Rat.intCast_mul,IM (h q (.head _)),g.1 u k R]
  grind
 |_::_,[],_::_,_,g=>g.elim
 |_::_,_::_,[],_,g=>g.elim
section
variable{t:Tb}{uss:List (List AV)}{rs:List Rat}{most nn:Nat}
abbrev Cm(t:Tb)(uss:List (List AV))(rs:List Rat)(i:Nat):List (Nat->Nat->Rat)×(Nat->Nat->Rat):=CI (rs.getD · 0) uss ((AJ t).take i)
theorem BS.rel(o:BS t uss rs most nn):∀i,i<=(AJ t).length->Li nn (fun k=>(Aq uss:Rat)*((AW rs:Int):Rat)^Ae uss*((Cs t uss rs:Int):Rat)^k) (C4 t uss rs i).1 (Cm t uss rs i).1/\∀u k,u<nn->(((C4 t uss rs i).2 u k:Int):Rat)=((AW rs:Int):Rat)*((Cs t uss rs:Int):Rat)^k*(Cm t uss rs i).2 u k
 |0,_=>by
  refine⟨trivial,fun u k R=>?_⟩;obtain⟨_,_,g3⟩:=o.Je;have hl:=o.Oy;have hr:rs[u]? = some (rs[u]'(by lia)):=aF _;cases k with
  |zero=>
   show(((BI rs (AW rs)).getD u 0:Int):Rat)=_*_^0*rs.getD u 0;unfold BI;rw[List.getD_eq_getElem?_getD,List.getElem?_map,hr,List.getD_eq_getElem?_getD,hr];show((_*_:Int):Rat)=_*_*rs[u];rw[IM (g3 _ (au _))];simp
  |succ k=>
   show((0:Int):Rat)=_*_*0;simp
 |i+1,hi=>by
  obtain⟨h1,h2⟩:=o.rel i (by lia);obtain⟨g1,_,_⟩:=o.Je;obtain⟨_,_,t3⟩:=o.bot;obtain⟨b1,_,b3⟩:=EN (by rw[o.len];exact o.n4) o.RS;obtain⟨gr1,_,Z⟩:=Fv (uss:=uss) (c:=3) (by decide) fun us U m hm=>(o.sum us U m hm).2;obtain⟨row,I⟩:∃row,(AJ t)[i]? = some row:=⟨(AJ t)[i]' hi,List.getElem?_eq_getElem hi⟩;have Y:(EY t)[i]? = some (BI row (Gy t)):=by rw[List.getElem?_map,I];rfl
  have e1:C4 t uss rs (i+1)=((C4 t uss rs i).1++[CY (BZ (AW rs) uss) (C4 t uss rs i).2],KD ((BI rs (AW rs)).getD · 0) (BI row (Gy t)) ((C4 t uss rs i).1++[CY (BZ (AW rs) uss) (C4 t uss rs i).2])):=by
   unfold C4;rw[List.take_add_one,Y,Option.toList_some];exact IQ _ _ _ _
  have e2:Cm t uss rs (i+1)=((Cm t uss rs i).1++[B3 uss (Cm t uss rs i).2],Fj (rs.getD · 0) row ((Cm t uss rs i).1++[B3 uss (Cm t uss rs i).2])):=by
   unfold Cm;rw[List.take_add_one,I,Option.toList_some];exact TK _ _ _ _
  rw[e1,e2];have h3:∀u k,u<nn->((CY (BZ (AW rs) uss) (C4 t uss rs i).2 u k:Int):Rat)=(Aq uss:Rat)*((AW rs:Int):Rat)^Ae uss*((Cs t uss rs:Int):Rat)^k*B3 uss (Cm t uss rs i).2 u k:=fun u k R=>by
   have M:uss.getD u []∈uss:=by rw[List.getD_eq_getElem?_getD,List.getElem?_eq_getElem (show u<uss.length by rw[o.len];exact R)];exact au _
   unfold CY;rw[Wc];exact XO (g:=AW rs) (gr:=Ae uss) (B:=Aq uss) (fun u j R _=>h2 u j R) fun m hm=>⟨o.pw _ M m hm,by unfold Ae;have:=Z _ M m hm;lia,b3 _ M m hm⟩
  have h4:=Li.snoc (S:=CY (BZ (AW rs) uss) (C4 t uss rs i).2) (s:=B3 uss (Cm t uss rs i).2) h3 h1;refine⟨h4,fun u k R=>?_⟩;cases k with
  |zero=>
   have h0:=(o.rel 0 (by lia)).2 u 0 R;exact h0
  |succ k=>
   show((Fp _ _ u k:Int):Rat)=_*_*IK _ _ u k;rw[Nf R (t3 row (aI I)) h4];generalize IK row _ u k=z;have hP:((Cs t uss rs:Int):Rat)=(Aq uss:Rat)*((AW rs:Int):Rat)^(Ae uss-1)*((Gy t:Int):Rat):=by
    show((Aq uss*AW rs^(Ae uss-1)*Gy t:Int):Rat)=_;rw[Rat.intCast_mul,Rat.intCast_mul,HC]
   have hG:((AW rs:Int):Rat)^Ae uss=((AW rs:Int):Rat)^(Ae uss-1)*((AW rs:Int):Rat):=by
    rw[<-Rat.pow_succ]
    congr 1
    unfold Ae
    lia
   rw[hG,Rat.pow_succ];generalize ((Cs t uss rs:Int):Rat)^k=Pk;generalize ((AW rs:Int):Rat)^(Ae uss-1)=G at hP;rw[hP]
   grind
theorem Wt(o:BS t uss rs most nn):Nk t uss rs most=(List.range nn).map fun u=>C1 ((CI (rs.getD · 0) uss (AJ t)).2 u) (most+1):=by
 obtain⟨g1,_,_⟩:=o.Je;obtain⟨_,_,_,Z⟩:=o.Ck;unfold Nk;rw[o.len];refine aW fun u I=>VE fun j hj=>?_;have I:u<nn:=bN.mp I;unfold OE;have h:=(o.rel (AJ t).length (aD _)).2 u j I;have U:Cm t uss rs (AJ t).length=CI (rs.getD · 0) uss (AJ t):=by unfold Cm;rw[List.take_length]
 rw[U]at h;have Y:(EY t).length=(AJ t).length:=bS _;rw[Y];have M:AW rs*Cs t uss rs^j≠0:=bc (by lia) (WB (by lia) _);have g:=LY M ((C4 t uss rs (AJ t).length).2 u j);rw[h,Rat.intCast_mul (AW rs),HC]at g;have R:((AW rs:Int):Rat)*((Cs t uss rs:Int):Rat)^j≠0:=by
  rw[<-HC,<-Rat.intCast_mul];exact fun z=>M (Rat.intCast_inj.mp (z.trans Rat.intCast_zero.symm))
 generalize ((AW rs:Int):Rat)*((Cs t uss rs:Int):Rat)^j=z at g R;generalize Rat.divInt _ _=q at g ⊢;generalize (CI (rs.getD · 0) uss (AJ t)).2 u j=p at g ⊢
 grind
end
def ev(h:Rat):Nat->(Nat->Rat)->Rat
 |0,f=>f 0
 |n+1,f=>f 0+h*ev h n (fun j=>f (j+1))
def Dy(d:Nat)(f:Nat->Rat):Prop:=∀j,d<j->f j=0
theorem Dy.mono{d e:Nat}{f:Nat->Rat}(s:Dy d f)(h:d<=e):Dy e f:=fun j g=>s j (by lia)
theorem KN{h:Rat}:∀ {n:Nat} {f g:Nat->Rat},(∀j,j<=n->f j=g j)->ev h n f=ev h n g
 |0,f,g,e=>e 0 (aD _)
 |n+1,f,g,e=>by
  unfold ev;rw[e 0 (ah _),KN (f:=fun j=>f (j+1)) (g:=fun j=>g (j+1)) fun j I=>e (j+1) (by lia)]
theorem Qr{h:Rat}:∀ {n:Nat} {f g:Nat->Rat},ev h n (fun j=>f j+g j)=ev h n f+ev h n g
 |0,f,g=>rfl
 |n+1,f,g=>by
  unfold ev;rw[Qr (f:=fun j=>f (j+1)) (g:=fun j=>g (j+1))]
  grind
theorem LW{h c:Rat}:∀ {n:Nat} {f:Nat->Rat},ev h n (fun j=>c*f j)=c*ev h n f
 |0,f=>rfl
 |n+1,f=>by
  unfold ev;rw[LW (f:=fun j=>f (j+1))]
  grind
theorem O2{h:Rat}:∀ {n:Nat},ev h n (fun _=>0)=0
 |0=>rfl
 |n+1=>by unfold ev;rw[O2 (n:=n)];grind
theorem IP{h:Rat}:∀ {d n:Nat} {f:Nat->Rat},Dy d f->d<=n->ev h n f=ev h d f
 |0,0,f,_,_=>rfl
 |0,n+1,f,s,_=>by
  show f 0+h*ev h n (fun j=>f (j+1))=f 0;rw[KN (g:=fun _=>0) fun j _=>s (j+1) (by lia),O2]
  grind
 |d+1,0,f,_,k=>by lia
 |d+1,n+1,f,s,k=>by
  unfold ev;rw[IP (d:=d) (n:=n) (f:=fun j=>f (j+1)) (fun j I=>s (j+1) (by lia)) (by lia)]
theorem K7(f g:Nat->Rat):EW f g 0=f 0*g 0:=by
 unfold EW C1;simp[Rat.add_zero]
theorem GJ(f g:Nat->Rat)(k:Nat):EW f g (k+1)=f 0*g (k+1)+EW (fun j=>f (j+1)) g k:=by
 unfold EW C1;rw[List.range_succ_eq_map,List.map_cons,List.sum_cons,List.map_map]
 congr 2
 refine aW fun j _=>?_;show f (j+1)*g (k+1-(j+1))=_;rw[Nat.add_sub_add_right]
theorem LJ(g:Nat->Rat):∀(k:Nat) (f:Nat->Rat),(∀j,f j=0)->EW f g k=0
 |0,f,h=>by rw[K7,h];grind
 |k+1,f,h=>by rw[GJ,h,LJ g k _ fun j=>h (j+1)];grind
theorem RY{g:Nat->Rat}{b:Nat}(I:Dy b g):∀ {a:Nat} {f:Nat->Rat},Dy a f->Dy (a+b) (EW f g)
 |0,f,M=>fun j R=>by
  cases j with
  |zero=>lia
  |succ j=>
   rw[GJ,LJ g j _ fun i=>M (i+1) (by lia),I (j+1) (by lia)]
   grind
 |a+1,f,M=>fun j R=>by
  cases j with
  |zero=>lia
  |succ j=>
   rw[GJ,I (j+1) (by lia),RY I (a:=a) (f:=fun j=>f (j+1)) (fun i hi=>M (i+1) (by lia)) j (by lia)]
   grind
theorem UB{h:Rat}{g:Nat->Rat}{b:Nat}(M:Dy b g):∀ {a:Nat} {f:Nat->Rat} {n:Nat},Dy a f->a+b<=n->ev h n (EW f g)=ev h a f*ev h b g
 |0,f,n,I,k=>by
  rw[KN (g:=fun j=>f 0*g j) fun j _=>by
   cases j with
   |zero=>exact K7 f g
   |succ j=>rw[GJ,LJ g j _ fun i=>I (i+1) (by lia),Rat.add_zero],LW,IP M (by lia)]
  rfl
 |a+1,f,0,I,k=>by lia
 |a+1,f,n+1,I,k=>by
  have R:Dy a (fun j=>f (j+1)):=fun i hi=>I (i+1) (by lia);have U:=UB (h:=h) M (n:=n) R (by lia);show EW f g 0+h*ev h n (fun j=>EW f g (j+1))=(f 0+h*ev h a (fun j=>f (j+1)))*ev h b g;rw[KN (g:=fun j=>f 0*g (j+1)+EW (fun j=>f (j+1)) g j) fun j _=>GJ f g j,Qr,U,K7,LW];have e:ev h (n+1) g=ev h b g:=IP M (by lia);have e:g 0+h*ev h n (fun j=>g (j+1))=ev h b g:=e;rw[<-e]
  grind
def DN:List Int->(Nat->Rat)->Rat
 |[],_=>1
 |p::ps,x=>x 0^p.toNat*DN ps (fun u=>x (u+1))
theorem PY:∀ {ps:List Int} {x:Nat->Rat},(∀p∈ps,0<=p)->ps.sum=0->DN ps x=1
 |[],_,_,_=>rfl
 |p::ps,x,h,s=>by
  have M:=h p (.head _);have I:=Cz fun q g=>h q (.tail _ g);rw[List.sum_cons]at s;unfold DN;rw[show p=0 by lia,PY (fun q g=>h q (.tail _ g)) (by lia)];show x 0^0*1=1;rw[Rat.pow_zero,Rat.mul_one]
theorem PH:∀ {ps:List Int} {x:Nat->Rat},(∀p∈ps,0<=p)->ps.sum≠0->DN ps x=DN (BR ps (fu ps)) x*x (fu ps)
 |[],_,_,s=>absurd rfl s
 |p::ps,x,h,s=>by
  have R:=h p (.head _);by_cases z:p=0
  .subst z;rw[List.sum_cons,Int.zero_add]at s;have I:=PH (x:=fun u=>x (u+1)) (fun q M=>h q (.tail _ M)) s;have e:fu (0::ps)=fu ps+1:=by rw[fu,if_pos rfl]
   have g:BR (0::ps) (fu ps+1)=0::BR ps (fu ps):=rfl;rw[e,g];unfold DN;rw[I,Rat.mul_assoc]
  .have e:fu (p::ps)=0:=by rw[fu,if_neg z]
   have g:BR (p::ps) 0=(p-1)::ps:=rfl;rw[e,g];unfold DN;have:p.toNat=(p-1).toNat+1:=by lia
   rw[this,Rat.pow_succ];generalize DN ps _=m;generalize x 0^(p-1).toNat=q
   grind
theorem W6{X:Nat->Nat->Rat}{h:Rat}{d nn:Nat}(I:∀u,Dy d (X u)):∀(n:Nat) (ps:List Int),CJ nn ps->ps.sum=(n:Int)->Dy (n*d) (JU X n ps)/\ev h (n*d) (JU X n ps)=DN ps (fun u=>ev h d (X u))
 |0,ps,g,hn=>by
  refine⟨fun j M=>if_neg (by lia),?_⟩;rw[PY g.nn (by lia),Nat.zero_mul]
  rfl
 |n+1,ps,g,hn=>by
  have h0:ps.sum≠0:=by lia
  obtain⟨f1,f2⟩:=HR h0;obtain⟨i1,i2⟩:=W6 I n (BR ps (fu ps)) (g.low h0) (by rw[sum_set _ _ f1];lia);have e:(n+1)*d=n*d+d:=by rw[Nat.add_mul,Nat.one_mul]
  rw[e];refine⟨RY (I _) i1,?_⟩;show ev h (n*d+d) (EW (JU X n (BR ps (fu ps))) (X (fu ps)))=_;rw[UB (I _) i1 (aD _),i2,PH g.nn h0]
theorem SG{α:Type}{h:Rat}{n:Nat}(F:α->Nat->Rat):∀l:List α,ev h n (fun k=>(l.map fun m=>F m k).sum)=(l.map fun m=>ev h n (F m)).sum
 |[]=>O2
 |m::l=>by
  have e:(fun k=>((m::l).map fun m=>F m k).sum)=fun k=>F m k+(l.map fun m=>F m k).sum:=by
   funext k
   rw[List.map_cons,List.sum_cons]
  rw[e,Qr,SG F l,List.map_cons,List.sum_cons]
theorem OW{α:Type}{n:Nat}{F:α->Nat->Rat}:∀ {l:List α},(∀m∈l,Dy n (F m))->Dy n (fun k=>(l.map fun m=>F m k).sum)
 |[],_=>fun _ _=>rfl
 |m::l,h=>fun j g=>by
  show((m::l).map fun m=>F m j).sum=0;rw[List.map_cons,List.sum_cons,h m (.head _) j g,show(l.map fun m=>F m j).sum=0 from OW (fun m hm=>h m (.tail _ hm)) j g,Rat.add_zero]
theorem eu{X:Nat->Nat->Rat}{h:Rat}{d nn g:Nat}(M:∀u,Dy d (X u)){us:List AV}(I:∀m∈us,CJ nn m.1/\m.1.sum<=(g:Int)) :
  Dy (g*d) (Qg X us)/\ev h (g*d) (Qg X us)=(us.map fun m=>m.2*DN m.1 (fun u=>ev h d (X u))).sum:=by
 have key:∀m∈us,Dy (g*d) (N7 X m.1)/\ev h (g*d) (N7 X m.1)=DN m.1 (fun u=>ev h d (X u)):=fun m hm=>by
  obtain⟨o,U⟩:=I m hm;have h0:=Cz o.nn;obtain⟨a,b⟩:=W6 (h:=h) M m.1.sum.toNat m.1 o (by lia);have l:m.1.sum.toNat*d<=g*d:=bW _ (by lia);exact⟨a.mono l,(IP a l).trans b⟩
 refine⟨OW (F:=fun(m:AV) k=>m.2*N7 X m.1 k) fun m hm j R=>?_,?_⟩
 .show m.2*N7 X m.1 j=0;rw[(key m hm).1 j R,Rat.mul_zero]
 .refine(SG (fun(m:AV) k=>m.2*N7 X m.1 k) us).trans ?_
  congr 1
  refine aW fun m hm=>?_;rw[LW,(key m hm).2]
theorem a7{h:Rat}{d:Nat}{row:List Rat}{ss:List (Nat->Nat->Rat)}{u:Nat}(I:∀s∈ss,Dy d (s u)):Dy d (IK row ss u)/\ev h d (IK row ss u)=((row.zip ss).map fun q=>q.1*ev h d (q.2 u)).sum:=by
 refine⟨OW (F:=fun(q:Rat×(Nat->Nat->Rat)) k=>q.1*q.2 u k) fun q g j M=>?_,?_⟩
 .show q.1*q.2 u j=0;rw[I q.2 (bC g).2 j M,Rat.mul_zero]
 .refine(SG (fun(q:Rat×(Nat->Nat->Rat)) k=>q.1*q.2 u k) (row.zip ss)).trans ?_
  congr 1
  exact aW fun q g=>LW
theorem a6{h:Rat}{d:Nat}{x0:Nat->Rat}{row:List Rat}{ss:List (Nat->Nat->Rat)}{u:Nat}(g:∀s∈ss,Dy d (s u)):Dy (d+1) (Fj x0 row ss u)/\ev h (d+1) (Fj x0 row ss u)=x0 u+h*((row.zip ss).map fun q=>q.1*ev h d (q.2 u)).sum:=by
 obtain⟨a,b⟩:=a7 (h:=h) (row:=row) g;refine⟨fun j I=>?_,?_⟩
 .cases j with
  |zero=>lia
  |succ j=>exact a j (by lia)
 .rw[<-b]
  rfl
theorem Qv{h:Rat}{x0:Nat->Rat}{u d:Nat}:Dy d (J7 x0 u)/\ev h d (J7 x0 u)=x0 u:=by
 have s:Dy 0 (J7 x0 u):=fun j g=>by
  cases j with
  |zero=>lia
  |succ j=>rfl
 exact⟨s.mono (ah _),(IP s (ah _)).trans rfl⟩
def qF(x0:Nat->Rat)(uss:List (List AV))(h:Rat)(sv:List (Nat->Rat)×(Nat->Rat))(row:List Rat):List (Nat->Rat)×(Nat->Rat) :=
 (sv.1++[fun u=>((uss.getD u []).map fun m=>m.2*DN m.1 sv.2).sum],fun u=>x0 u+h*((row.zip (sv.1++[fun u=>((uss.getD u []).map fun m=>m.2*DN m.1 sv.2).sum])).map fun q=>q.1*q.2 u).sum)
def Gh(x0:Nat->Rat)(uss:List (List AV))(h:Rat)(rows:List (List Rat))(z:List (Nat->Rat)×(Nat->Rat)):List (Nat->Rat)×(Nat->Rat):=rows.foldl (qF x0 uss h) z
def Ms(g:Nat):Nat->Nat->Nat
 |0,d=>d
 |n+1,d=>Ms g n (g*d+1)
theorem zip_map{α β g:Type}(f:β->g)(G:α->g->Rat):∀(l:List α) (ss:List β),((l.zip ss).map fun q=>G q.1 (f q.2))=(l.zip (ss.map f)).map fun q=>G q.1 q.2
 |[],_=>rfl
 |_::_,[]=>rfl
 |a::l,s::ss=>by
  rw[List.zip_cons_cons,List.map_cons,List.map_cons,List.zip_cons_cons,List.map_cons,zip_map f G l ss]
theorem Ur{x0:Nat->Rat}{uss:List (List AV)}{h:Rat}{nn g N:Nat}(hg:1<=g)(hu:∀us∈uss,∀m∈us,CJ nn m.1/\m.1.sum<=(g:Int)) :
  ∀(rows:List (List Rat)) (z:List (Nat->Nat->Rat)×(Nat->Nat->Rat)) (d:Nat),Ms g rows.length d<=N->g*d<=N->d<=N->(∀u,Dy d (z.2 u))->(∀s∈z.1,∀u,Dy (g*d) (s u)) ->
   (fun u=>ev h N ((Hu x0 uss rows z).2 u))=(Gh x0 uss h rows (z.1.map (fun s u=>ev h N (s u)),fun u=>ev h N (z.2 u))).2
 |[],z,d,_,_,_,_,_=>rfl
 |row::rows,z,d,hN,U,hdN,hz,hs=>by
  have hu':∀u,∀m∈uss.getD u [],CJ nn m.1/\m.1.sum<=(g:Int):=fun u m hm=>by
   rw[List.getD_eq_getElem?_getD]at hm;cases e:uss[u]? with
   |none=>rw[e]at hm;cases hm
   |some us=>rw[e]at hm;exact hu us (aI e) m hm
  have sp:∀u,Dy (g*d) (B3 uss z.2 u)/\ev h N (B3 uss z.2 u)=((uss.getD u []).map fun m=>m.2*DN m.1 (fun u=>ev h N (z.2 u))).sum:=fun u=>by
   obtain⟨a,b⟩:=eu (h:=h) hz (hu' u);refine⟨a,(IP a U).trans (b.trans ?_)⟩;rw[show(fun u=>ev h d (z.2 u))=fun u=>ev h N (z.2 u) from funext fun u=>(IP (hz u) hdN).symm]
  have R:∀s∈z.1++[B3 uss z.2],∀u,Dy (g*d) (s u):=fun s I u=>by
   rcases aS.mp I with q|q
   .exact hs s q u
   .rw[List.mem_singleton.mp q];exact(sp u).1
  have M:∀(n e:Nat),e<=Ms g n e:=fun n=>by
   induction n with
   |zero=>intro e;exact aD _
   |succ n ih=>
    intro e;have h1:=ih (g*e+1);have h2:e<=g*e:=Nat.le_mul_of_pos_left _ hg;show e<=Ms g n (g*e+1)
    lia
  have Y:g*d+1<=N:=aU (M rows.length _) hN;have nx:∀u,Dy (g*d+1) (Fj x0 row (z.1++[B3 uss z.2]) u)/\ev h N (Fj x0 row (z.1++[B3 uss z.2]) u)=x0 u+h*((row.zip (z.1++[B3 uss z.2])).map fun q=>q.1*ev h N (q.2 u)).sum:=fun u=>by
   obtain⟨a,b⟩:=a6 (h:=h) (x0:=x0) (row:=row) fun s I=>R s I u;refine⟨a,(IP a Y).trans (b.trans ?_)⟩
   congr 3
   exact aW fun q hq=>by rw[IP (R q.2 (bC hq).2 u) U]
  show(fun u=>ev h N ((Hu x0 uss rows (z.1++[B3 uss z.2],Fj x0 row (z.1++[B3 uss z.2]))).2 u))=_;cases rows with
  |nil=>
   show(fun u=>ev h N (Fj x0 row (z.1++[B3 uss z.2]) u))=fun u=>_
   funext u
   rw[(nx u).2];show _=x0 u+h*((row.zip (z.1.map (fun s u=>ev h N (s u))++[fun u=>((uss.getD u []).map fun m=>m.2*DN m.1 (fun u=>ev h N (z.2 u))).sum])).map fun q=>q.1*q.2 u).sum;have e:z.1.map (fun s u=>ev h N (s u))++[fun u=>((uss.getD u []).map fun m=>m.2*DN m.1 (fun u=>ev h N (z.2 u))).sum]=(z.1++[B3 uss z.2]).map fun s u=>ev h N (s u):=by
    rw[List.map_append]
    congr 2
    funext u
    exact(sp u).2.symm
   rw[e,<-zip_map (fun(s:Nat->Nat->Rat) u=>ev h N (s u)) (fun a (s:Nat->Rat)=>a*s u)]
  |cons Z rows=>
   have hd2:d<=g*d+1:=by
    have:d<=g*d:=Nat.le_mul_of_pos_left _ hg
    lia
   have hg2:g*(g*d+1)+1<=N:=aU (M rows.length _) hN;rw[Ur hg hu (Z::rows) (z.1++[B3 uss z.2],Fj x0 row (z.1++[B3 uss z.2])) (g*d+1) hN (by lia) Y (fun u=>(nx u).1) fun s I u=>(R s I u).mono (aV _ hd2)];show(Gh x0 uss h (Z::rows) _).2=(Gh x0 uss h (Z::rows) (qF x0 uss h _ row)).2
   congr 2
   have e:z.1.map (fun s u=>ev h N (s u))++[fun u=>((uss.getD u []).map fun m=>m.2*DN m.1 (fun u=>ev h N (z.2 u))).sum]=(z.1++[B3 uss z.2]).map fun s u=>ev h N (s u):=by
    rw[List.map_append]
    congr 2
    funext u
    exact(sp u).2.symm
   unfold qF;rw[e];refine Prod.ext rfl ?_
   funext u
   show ev h N (Fj x0 row (z.1++[B3 uss z.2]) u)=x0 u+h*((row.zip ((z.1++[B3 uss z.2]).map fun s u=>ev h N (s u))).map fun q=>q.1*q.2 u).sum;rw[(nx u).2,<-zip_map (fun(s:Nat->Nat->Rat) u=>ev h N (s u)) (fun a (s:Nat->Rat)=>a*s u)]
theorem WK{J:It}{g:TG}{tb:TS}{D:Ends}{σ:St}{H:Hp}(n:Nat)(Pv:Nat->St->Hp->Prop)(h0:Pv 0 σ H)
 (hs:∀i σ H,i<n->Pv i σ H->J.go i H/\∀x H',J.Ec i H x H'->g x σ H' fun I U=>tb {D with nx:=Pv (i+1),ct:=Pv (i+1),bk:=D.nx} I U)(hd:∀σ H,Pv n σ H->J.stop n H/\D.nx σ H) :
  ∃W:Nat->Nat->St->Hp->Prop,(∃m,W 0 m σ H)/\∀i m σ H,W i m σ H ->
   (J.stop i H/\D.nx σ H)\/(J.go i H/\∃N:St->Hp->Prop,(∀M H',N M H'->∃Y,Y<m/\W (i+1) Y M H')/\∀x H',J.Ec i H x H'->g x σ H' fun I U=>tb {D with nx:=N,ct:=N,bk:=D.nx} I U):=by
 refine⟨fun i m σ H=>m=n-i/\i<=n/\Pv i σ H,⟨n,by simp,Nat.zero_le _,h0⟩,?_⟩;rintro i m σ H ⟨rfl,hi,p⟩;by_cases R:i<n
 .obtain⟨k1,k2⟩:=hs i σ H R p;exact .inr ⟨k1,Pv (i+1),fun M H' Z=>⟨n-(i+1),by lia,rfl,R,Z⟩,k2⟩
 .have e:i=n:=by lia
  subst e;exact .inl (hd σ H p)
def BK(x:Rat):Nat->Rat
 |0=>1
 |n+1=>BK x n*x
theorem Qi(x:Rat):∀n,Rat.divInt (x.num^n) ((x.den:Int)^n)=BK x n
 |0=>by rw[Int.pow_zero,Int.pow_zero,BK];rfl
 |n+1=>by
  rw[Int.pow_succ,Int.pow_succ,BK,<-Qi x n,<-Rat.divInt_mul_divInt,FM.Bc]
def CN(zs:List (Int×Rat)):Rat:=zs.foldl (fun a z=>a*BK z.2 z.1.toNat) 1
theorem Vb(zs:List (Int×Rat))(z:Int×Rat):CN (zs++[z])=CN zs*BK z.2 z.1.toNat:=by unfold CN;rw[List.foldl_append];rfl
theorem Yi{ps:List Int}{rs:List Rat}{i:Nat}{p:Int}{x:Rat}(h1:ps[i]? = some p)(g:rs[i]? = some x):(ps.zip rs).take (i+1)=(ps.zip rs).take i++[(p,x)]:=by
 rw[List.take_succ]
 congr 1
 rw[(List.getElem?_zip_eq_some (z:=(p,x))).mpr ⟨h1,g⟩]
 rfl
theorem YH{d:Nat}(h:d≠0)(n:Nat):(1:Int)<=(d:Int)^n:=by
 have:0<(d:Int)^n:=Int.pow_pos (by lia)
 lia
def Wj:Sp:=fun vs H Q _=>∃(a:Addr) (xs:List V) (ps:List (Int×Int)) (kt k:Nat),vs=[.ref a]/\H a=some (.lst xs)/\xs.length=ps.length/\ps.length<=1000/\(∀(j:Nat) x p,xs[j]? = some x->ps[j]? = some p->∃c,x=.ref c/\H c=some (.tup [.int p.1,.int p.2])) /\
 (∀p∈ps,1<=p.2/\p.1.natAbs<2^kt/\p.2.natAbs<2^k)/\k*ps.length<=4000/\kt<=100000/\∀l H',AG H H'->H' l=some (.tup (Gd (ps.map fun p=>Rat.divInt p.1 p.2).sum))->Q (.ref l) H'
structure US(H:Hp)(S:Addr)(xs:List V)(rs:List Rat)(many k kd:Nat):Prop where
 at_:H S=some (.lst xs)
 du:Am H (AR rs) xs
 len:rs.length=many
 fit:∀x∈rs,x.num.natAbs<2^k/\((x.den:Int)).natAbs<2^kd
theorem US.same{H H':Hp}{S:Addr}{xs:List V}{rs:List Rat}{many k kd:Nat}(s:US H S xs rs many k kd)(e:AG H H'):US H' S xs rs many k kd:=⟨e _ _ s.at_,s.du.same e,s.len,s.fit⟩
def ZK:Sp:=fun vs H Q _=>∃(P F S:Addr) (ps:List Int) (r:Rat) (rs:List Rat) (xs:List V) (many k kd n nd:Nat),vs=[.ref P,.ref F,.ref S]/\H P=some (.tup (ps.map V.int))/\H F=some (.tup (Gd r))/\US H S xs rs many k kd/\ps.length=many/\many<=4/\k<=1300/\kd<=1300/\n<=20000/\nd<=20000 /\
 (∀p∈ps,(0:Int)<=p/\p<=3)/\r.num.natAbs<2^n/\((r.den:Int)).natAbs<2^nd/\∀c H' t b,AG H H'->H' c=some (.tup [.int t,.int b])->1<=b->t.natAbs<2^(n+(3*k+1)*4)->b.natAbs<2^(nd+(3*kd+1)*4)->Rat.divInt t b=r*CN (ps.zip rs)->Q (.ref c) H'
def Cw(us:List AV)(rs:List Rat):Rat:=(us.map fun m=>m.2*CN (m.1.zip rs)).sum
def RU:Sp:=fun vs H Q _=>∃(a S:Addr) (xs ys:List V) (us:List AV) (rs:List Rat) (many k kd n nd:Nat),vs=[.ref a,.ref S]/\H a=some (.lst xs)/\Am H (us.map DR) xs/\us.length<=12/\(∀m∈us,m.1.length=many/\(∀p∈m.1,(0:Int)<=p/\p<=3)/\m.2.num.natAbs<2^n/\((m.2.den:Int)).natAbs<2^nd) /\
 US H S ys rs many k kd/\many<=4/\k<=1300/\kd<=1300/\n<=20000/\(nd+(3*kd+1)*4)*12<=4000/\∀l H',AG H H'->H' l=some (.tup (Gd (Cw us rs)))->Q (.ref l) H'
section
variable{P:Program}{w:World}{K:PySem.W.Frag}{mg:Str->Option Value}{base:Heap}{f g g1 g2:Addr}{fd gd gd1 gd2:FuncData}
theorem Ob(F:Fn K mg "frac_total" JH ["some"] f fd)(Ao:Fn K mg "common_bottom" Bs ["bottoms"] g1 gd1)(Bm:Fn K mg "fraction_of" Eb ["top","bottom"] g2 gd2)
 (Bi:AL P w K mg base AY 2 g1 gd1 ["bottoms"] Y8)(Ed:AL P w K mg base AY 2 g2 gd2 ["top","bottom"] M3)(Cr:mg "sum" = none):AL P w K mg base AY 3 f fd ["some"] Wj:=by
 have sc:=QR;refine F.F.ok (k:=2) sc (fun vs H Q E h=>?_) (fun cdv A outer s H vs Q E hr h=>?_)
 .obtain⟨a,xs,ps,kt,k,rfl,_⟩:=h
  rfl
 obtain⟨a,xs,ps,kt,k,rfl,ha,hl,h1000,hx,hp,hk,hkt,q⟩:=h;have hk1:ps≠[]->k<=4000:=fun hne=>by
  have:k*1<=k*ps.length:=aV k (List.length_pos_iff.mpr hne)
  lia
 have at_:∀(i:Nat) (hi:i<xs.length),∃(p:Int×Int) (c:Addr),ps[i]? = some p/\xs[i]=.ref c/\H c=some (.tup [.int p.1,.int p.2]):=fun i hi=>by
  have hpi:ps[i]? = some (ps[i]'(by lia)):=aF _;obtain⟨c,Z,h2⟩:=hx i xs[i] _ (aF hi) hpi;exact⟨_,c,hpi,Z,h2⟩
 refine⟨_,(AD (AU (i:=1) sc.nd rfl (Or.inr rfl) (AX Ao Bi hr rfl (AA (Bf [".0","part"] 1 [none,none] (Av (pv 0)) (fun _ _ _ _ _=>BC) (fun _ _ _ _ _=>(Ag DD (pv 1) AE (fun _ _=>rfl)))) AB)))
 (AF (Ac (AX Bm Ed hr rfl (AA (Ad (Mi rfl) rfl Cr bT (AA (Bf [".0","part","bottom"] 1 [none,none,some 1] (Av (pv 0)) (fun _ _ _ _ _=>BC) (fun _ _ _ _ _=>(Aa A9 (Ag DD (pv 1) AE (fun _ _=>rfl)) (Aa DL (pv 2) (Ag DD (pv 1) AE (fun _ _=>rfl)))))) AB)) (AA (pv 1) AB)))))),?_⟩
 refine⟨_,rfl,a,rfl,⟨_,AO.of ha⟩,fun D hD=>Ba (n:=xs.length) (fun i ys H'=>AG H H'/\ys=((ps.take i).map (·.2)).map V.int) ?_ ?_ ?_⟩
 .exact⟨AK hD _,rfl⟩
 .rintro i ys H0 hi ⟨R,rfl⟩ Y;obtain⟨p,c,Z,h2,h3⟩:=at_ i hi;refine⟨⟨xs,xs[i],AO.of (R _ _ ha),by simp[hi]⟩,?_,fun x H' y=>?_⟩
  .rw[List.length_map,List.length_map,List.length_take];exact aL (Nat.min_le_left _ _) (aN (show i<1000 by lia) (by rw[sizeLine_eq];decide))
  .obtain⟨rfl,y⟩:=y;have I:=y xs (AO.of (R _ _ ha));rw[List.getElem?_eq_getElem hi,h2]at I;cases I;unfold Bj;refine BA ⟨_,rfl,_,_,_,_,rfl,rfl,Af.of (R _ _ h3),rfl,Y,A8 hi ⟨fun b o z=>?_,?_⟩⟩
   .rw[AI (AM z hD)];exact R _ _ z
   .rw[List.take_succ,Z];simp
 rintro ys H0 ⟨R,rfl⟩ Y;refine⟨⟨xs,AO.of (R _ _ ha),Nat.le_refl _⟩,?_⟩;rw[hl,List.take_length]at Y;refine⟨D,ps.map (·.2),k,rfl,Y,fun b hb=>?_,by rw[List.length_map];exact hk,fun c c1 c2 c3=>?_⟩
 .obtain⟨p,M,rfl⟩:=aJ.mp hb;exact⟨(hp p M).1,(hp p M).2.2⟩
 rw[List.length_map]at c2;refine⟨_,rfl,a,rfl,⟨_,AO.of (R _ _ ha)⟩,fun D2 hD2=>Ba (n:=xs.length) (fun i ys H'=>AG H0 H'/\ys=((ps.take i).map fun p=>p.1*c.fdiv p.2).map V.int) ?_ ?_ ?_⟩
 .exact⟨AK hD2 _,rfl⟩
 .rintro i ys H1 hi ⟨e1,rfl⟩ U;have E1:=R.trans e1;obtain⟨p,d,Z,h2,h3⟩:=at_ i hi;have hpm:=aI Z;have hkk:=hk1 (List.ne_nil_of_mem hpm);obtain⟨p1,p2,p3⟩:=hp p hpm;refine⟨⟨xs,xs[i],AO.of (E1 _ _ ha),by simp[hi]⟩,?_,fun x H' y=>?_⟩
  .rw[List.length_map,List.length_map,List.length_take];exact aL (Nat.min_le_left _ _) (aN (show i<1000 by lia) (by rw[sizeLine_eq];decide))
  .obtain⟨rfl,y⟩:=y;have I:=y xs (AO.of (E1 _ _ ha));rw[List.getElem?_eq_getElem hi,h2]at I;cases I;unfold Bj;refine BA ⟨_,rfl,_,_,_,_,rfl,rfl,Af.of (E1 _ _ h3),rfl,_,rfl,_,rfl,_,_,_,_,rfl,rfl,Af.of (E1 _ _ h3),rfl,_,_,rfl,rfl,⟨by lia,k,by lia,p3⟩,_,_,rfl,rfl,DP p2 (aL (FM.A3 c p.2) c2) (by lia),U,A8 hi ⟨fun b o z=>?_,?_⟩⟩
   .rw[AI (AM z hD2)];exact e1 _ _ z
   .rw[List.take_succ,Z];simp
 rintro ys H1 ⟨e1,rfl⟩ U;refine⟨⟨xs,AO.of ((R.trans e1) _ _ ha),Nat.le_refl _⟩,?_⟩;rw[hl,List.take_length]at U;refine⟨D2,_,rfl,AO.of U,_,rfl,_,c,k*ps.length+1,rfl,by lia,by lia,c2,fun l H' e2 hl'=>?_⟩;refine q l H' (R.trans (e1.trans e2)) ?_;rw[UJ (by lia) fun p M=>⟨by have:=(hp p M).1;lia,c3 _ (List.mem_map_of_mem M)⟩]at hl';exact hl'
theorem QM:Ab ["powers","part","start","top","bottom","power","place"] ["powers","part","start"] (AN JL):=⟨rfl,rfl,rfl,by decide +kernel,rfl,by decide +kernel,by decide +kernel⟩
theorem OT(F:Fn K mg "term_worth" JL ["powers","part","start"] f fd)(CQ:Fn K mg "power_of" Gj ["base","power"] g gd)
 (FJ:AL P w K mg base AY 1 g gd ["base","power"] QX)(EM:mg "zip" = none):AL P w K mg base AY 2 f fd ["powers","part","start"] ZK:=by
 have sc:=QM;refine F.F.ok (k:=1) sc (fun vs H Q E h=>?_) (fun cdv A outer s H vs Q E hr h=>?_)
 .obtain⟨P,F,S,ps,r,rs,xs,many,k,kd,n,nd,rfl,_⟩:=h
  rfl
 obtain⟨P,F,S,ps,r,rs,xs,many,k,kd,n,nd,rfl,hP,hF,st,M,R,hk,hkd,hn,hnd,hps,rn,rd,q⟩:=h;refine⟨_,(AD (AU (i:=3) sc.nd rfl (Or.inl rfl) (Ag Ar (pv 1) AE (fun _ _=>rfl)))
 (AD (AU (i:=4) sc.nd rfl (Or.inl rfl) (Ag Ar (pv 1) AE (fun _ _=>rfl)))
 (AD (BU aP rfl (Le rfl EM (AA (pv 0) (AA (pv 2) AB))) (GY rfl (Bg (An (i:=5) sc.nd rfl (Or.inl rfl)) (Bg (An (i:=6) sc.nd rfl (Or.inl rfl)) FK)))
  (AD (AU (i:=3) sc.nd rfl (Or.inl rfl) (Aa A9 (pv 3) (AX CQ FJ hr rfl (AA (Ag Ar (pv 6) AE (fun _ _=>rfl)) (AA (pv 5) AB)))))
  (AF (AU (i:=4) sc.nd rfl (Or.inl rfl) (Aa A9 (pv 4) (AX CQ FJ hr rfl (AA (Ag Ar (pv 6) AE (fun _ _=>rfl)) (AA (pv 5) AB))))))))
 (AF (Ac (EE (AA (pv 3) (AA (pv 4) AB)))))))),?_⟩
 refine⟨_,rfl,_,_,_,_,rfl,rfl,Af.of hF,rfl,_,rfl,_,_,_,_,rfl,rfl,Af.of hF,rfl,?_⟩;refine⟨_,rfl,_,rfl,true,false,P,S,rfl,⟨_,hP⟩,⟨_,st.at_⟩,WK many (fun i σ H'=>∃(t b:Int) (r5 r6:Option V),σ=[some (.ref P),some (.ref F),some (.ref S),some (.int t),some (.int b),r5,r6]/\AG H H'/\1<=b/\t.natAbs<2^(n+(3*k+1)*i)/\b.natAbs<2^(nd+(3*kd+1)*i)/\Rat.divInt t b=r*CN ((ps.zip rs).take i)) ?_ ?_ ?_⟩
 .refine⟨_,_,_,_,rfl,.refl _,?_,rn,rd,?_⟩
  .have:=r.den_nz;show(1:Int)<=(r.den:Int)
   lia
  .show Rat.divInt r.num (r.den:Int)=r*1;rw[FM.Bc,Rat.mul_one]
 .rintro i σ H1 hi ⟨t,b,r5,r6,rfl,I,b1,nt,nb,hv⟩;have hp:ps[i]? = some (ps[i]'(by lia)):=aF _;have hx:rs[i]? = some (rs[i]'(by have:=st.len;lia)):=aF _;generalize ps[i]'(by lia)=p at hp;generalize rs[i]'(by have:=st.len;lia)=x at hx;obtain⟨c,Y,U⟩:=Dd st.du hx;obtain⟨p0,p3⟩:=hps p (aI hp);obtain⟨xn,xd⟩:=st.fit x (aI hx);have Z:(ps.map V.int)[i]? = some (.int p):=by rw[List.getElem?_map,hp];rfl
  refine⟨⟨_,_,_,_,I _ _ hP,I _ _ st.at_,Z,Y⟩,fun v H' y=>?_⟩;obtain⟨pp,x1,x2,rfl,np,rfl,q1,q2⟩:=y;have w1:=q1 _ (I _ _ hP);have w2:=q2 _ (I _ _ st.at_);rw[Z]at w1;rw[Y]at w2;cases w1;cases w2;have sp:=AK np (.tup [.int p,.ref c]);have E:=I.trans sp;obtain⟨pn,rfl⟩:∃pn:Nat,p=(pn:Int):=⟨p.toNat,by lia⟩;have n1:=CG (k:=k) (e:=pn) (p:=3) xn (by lia);have n2:=CG (k:=kd) (e:=pn) (p:=3) xd (by lia);have ki:(3*k+1)*i<=(3*k+1)*4:=aV _ (by lia);have kdi:(3*kd+1)*i<=(3*kd+1)*4:=aV _ (by lia);have kp:k*pn<=k*3:=aV _ (by lia);have kdp:kd*pn<=kd*3:=aV _ (by lia);refine⟨pp,_,rfl,Af.of AH,rfl,_,_,rfl,_,_,rfl,rfl,?_⟩;refine⟨_,rfl,_,rfl,_,_,_,_,rfl,rfl,Af.of (E _ _ U),rfl,_,rfl,x.num,pn,k,rfl,xn,by lia,_,_,rfl,rfl,DP nt n1 (by lia),?_⟩;refine⟨_,rfl,_,rfl,_,_,_,_,rfl,rfl,Af.of (E _ _ U),rfl,_,rfl,(x.den:Int),pn,kd,rfl,xd,by lia,_,_,rfl,rfl,DP nb n2 (by lia),?_⟩;refine⟨_,_,_,_,rfl,E,?_,?_,?_,?_⟩
  .have:=Int.mul_le_mul b1 (YH x.den_nz pn) (by decide) (by lia)
   simpa using this
  .have:=FM.Ax nt n1;refine FM.A6 this ?_;have e:(3*k+1)*(i+1)=(3*k+1)*i+(3*k+1):=Nat.mul_succ _ _
   lia
  .have:=FM.Ax nb n2;refine FM.A6 this ?_;have e:(3*kd+1)*(i+1)=(3*kd+1)*i+(3*kd+1):=Nat.mul_succ _ _
   lia
  .rw[Yi hp hx,Vb,<-Rat.mul_assoc,<-hv,Int.toNat_natCast,<-Qi,Rat.divInt_mul_divInt]
 .rintro σ H1 ⟨t,b,r5,r6,rfl,I,b1,nt,nb,hv⟩;refine⟨⟨_,_,I _ _ hP,I _ _ st.at_,.inl (by rw[List.length_map,M])⟩,_,rfl,_,rfl,BJ (show 2<=60 by decide),fun c hc=>?_⟩;rw[List.take_of_length_le (by rw[List.length_zip,st.len,M,Nat.min_self];exact aD _)]at hv;have ki:(3*k+1)*many<=(3*k+1)*4:=aV _ R;have kdi:(3*kd+1)*many<=(3*kd+1)*4:=aV _ R;exact q c _ t b (I.trans (AK hc _)) AH b1 (FM.A6 nt (by lia)) (FM.A6 nb (by lia)) hv
theorem S6:Ab ["some","start"] ["some","start"] (AN KO):=⟨rfl,rfl,rfl,by decide +kernel,rfl,by decide +kernel,by decide +kernel⟩
theorem Rl(F:Fn K mg "worth_at" KO ["some","start"] f fd)(GG:Fn K mg "frac_total" JH ["some"] g1 gd1)(Gb:Fn K mg "term_worth" JL ["powers","part","start"] g2 gd2)
 (SI:AL P w K mg base AY 3 g1 gd1 ["some"] Wj)(RL:AL P w K mg base AY 3 g2 gd2 ["powers","part","start"] ZK):AL P w K mg base AY 4 f fd ["some","start"] RU:=by
 have sc:=S6;refine F.F.ok (k:=3) sc (fun vs H Q E h=>?_) (fun cdv A outer s H vs Q E hr h=>?_)
 .obtain⟨a,S,xs,ys,us,rs,many,k,kd,n,nd,rfl,_⟩:=h
  rfl
 obtain⟨a,S,xs,ys,us,rs,many,k,kd,n,nd,rfl,ha,dx,h12,hus,st,hm4,hk,hkd,hn,hsz,q⟩:=h;have hxl:xs.length=us.length:=by rw[dx.len,List.length_map]
 refine⟨_,(AF (Ac (AX GG SI hr rfl (AA (Jg [".0","powers","part","start"] 1 2 [none,none,none,some 1] (Av (pv 0)) (fun _ _ _ _ _=>BC) (fun _ _ _ _ _=>(AX Gb RL hr rfl (AA (pv 1) (AA (pv 2) (AA (pv 3) AB)))))) AB)))),?_⟩;refine⟨_,rfl,a,rfl,⟨_,AO.of ha⟩,fun D hD=>Ey (n:=xs.length) (fun i Y H'=>AG H H'/\∃R:List (Int×Int),R.length=i/\Y.length=i/\(∀(j:Nat) z p,Y[j]? = some z->R[j]? = some p->∃c,z=.ref c/\H' c=some (.tup [.int p.1,.int p.2]))/\(∀p∈R,1<=p.2/\p.1.natAbs<2^(n+(3*k+1)*4)/\p.2.natAbs<2^(nd+(3*kd+1)*4))/\R.map (fun p=>Rat.divInt p.1 p.2)=(us.take i).map fun m=>m.2*CN (m.1.zip rs)) ?_ ?_ ?_⟩
 .exact⟨AK hD _,[],rfl,rfl,fun j z p h=>by simp at h,fun _ z=>(ab z).elim,rfl⟩
 .rintro i Y H1 hi ⟨U,R,hql,hzl,hz,hb,hv⟩ M;obtain⟨t,ht⟩:∃t,us[i]? = some t:=⟨us[i]'(by lia),List.getElem?_eq_getElem _⟩;obtain⟨c,P,F,k1,k2,k3,k4⟩:=Gw dx ht;obtain⟨u1,u2,u3,u4⟩:=hus t (aI ht);refine⟨⟨xs,xs[i],AO.of (U _ _ ha),by simp[hi]⟩,Bk (n:=60) (by lia) (by decide),fun x H' y=>?_⟩;obtain⟨rfl,y⟩:=y;have hx:=y xs (AO.of (U _ _ ha));rw[k1]at hx;cases hx;refine⟨c,_,_,rfl,Af.of (U _ _ k2),?_⟩;unfold Bj;refine BA ⟨_,rfl,_,rfl,_,rfl,P,F,S,t.1,t.2,rs,ys,many,k,kd,n,nd,rfl,U _ _ k3,U _ _ k4,st.same U,u1,hm4,hk,hkd,hn,by lia,u2,u3,u4,fun c' H2 tt bb e2 hc' b1 nt nb hv'=>?_⟩;refine⟨e2 _ _ M,A8 hi ⟨fun b o z=>?_,R++[(tt,bb)],by simp[hql],by simp[hzl],fun j z p Z I=>?_,fun p I=>?_,?_⟩⟩
  .rw[AI (AM z hD)];exact e2 _ _ (U _ _ z)
  .by_cases hjl:j<Y.length
   .rw[List.getElem?_append_left hjl]at Z;rw[List.getElem?_append_left (by lia)]at I;obtain⟨c1,rfl,hc1⟩:=hz j z p Z I;refine⟨c1,rfl,?_⟩;rw[AI (fun zz=>by rw[zz,M]at hc1;cases hc1)];exact e2 _ _ hc1
   .rw[List.getElem?_append_right (by lia)]at Z I;have hk:j-Y.length=0:=by
     have:=(aB.mp Z).1;simp at this;lia
    rw[show j-R.length=0 by lia]at I;rw[hk]at Z;simp at Z I;subst Z I;exact⟨c',rfl,by rw[AI (fun zz=>by rw[zz,e2 _ _ M]at hc';cases hc')];exact hc'⟩
  .rcases aS.mp I with I|I
   .exact hb p I
   .rw[List.mem_singleton.mp I];exact⟨b1,nt,nb⟩
  .rw[List.map_append,hv,List.take_succ,ht,List.map_append];simp only[List.map_cons,List.map_nil,Option.toList_some];rw[hv']
 .rintro Y H1 ⟨U,R,hql,hzl,hz,hb,hv⟩ M;refine⟨⟨xs,AO.of (U _ _ ha),Nat.le_refl _⟩,?_⟩;have hq12:(nd+(3*kd+1)*4)*R.length<=(nd+(3*kd+1)*4)*12:=aV _ (by lia);refine⟨D,Y,R,n+(3*k+1)*4,nd+(3*kd+1)*4,rfl,M,by lia,by lia,hz,hb,by lia,by lia,fun l H' e2 hl'=>q l H' (U.trans e2) ?_⟩;rw[hv,hxl,List.take_length]at hl';exact hl'
end
theorem VN:∀(zs:List (Int×Rat)) (a:Rat),zs.foldl (fun a z=>a*BK z.2 z.1.toNat) a=a*CN zs
 |[],a=>by unfold CN;rw[List.foldl_nil,List.foldl_nil,Rat.mul_one]
 |z::zs,a=>by
  unfold CN;rw[List.foldl_cons,List.foldl_cons,VN zs,VN zs (1*BK z.2 z.1.toNat),Rat.one_mul,Rat.mul_assoc]
theorem KY(z:Int×Rat)(zs:List (Int×Rat)):CN (z::zs)=BK z.2 z.1.toNat*CN zs:=by
 show(z::zs).foldl _ 1=_;rw[List.foldl_cons,VN,Rat.one_mul]
theorem Rg(x y:Rat):∀n,BK (x*y) n=BK x n*BK y n
 |0=>by rw[BK,BK,BK,Rat.mul_one]
 |n+1=>by
  rw[BK,BK,BK,Rg x y n]
  grind
theorem Md(x:Rat)(m:Nat):∀n,BK x (m+n)=BK x m*BK x n
 |0=>by rw[Nat.add_zero,BK,Rat.mul_one]
 |n+1=>by rw[<-Nat.add_assoc,BK,BK,Md x m n,Rat.mul_assoc]
theorem Kh(b:Int):∀n,BK (b:Rat) n=((b^n:Int):Rat)
 |0=>by rw[BK,Int.pow_zero];rfl
 |n+1=>by rw[BK,Kh b n,Int.pow_succ,Rat.intCast_mul]
theorem Nh{B:Int}(g:B≠0):∀(ps ts:List Int),ps.length=ts.length->(∀p∈ps,0<=p) ->
  CN (ps.zip (ts.map fun t:Int=>(t:Rat)))=BK (B:Rat) ps.sum.toNat*CN (ps.zip (ts.map fun t:Int=>Rat.divInt t B))/\0<=ps.sum
 |[],[],_,_=>⟨by simp[CN,BK],by simp⟩
 |p::ps,t::ts,h,k=>by
  obtain⟨M,U⟩:=Nh g ps ts (by simpa using h) fun y I=>k y (aM _ I);have R:=k p aR;rw[List.map_cons,List.map_cons,List.zip_cons_cons,List.zip_cons_cons,KY,KY,M,List.sum_cons,show(p+ps.sum).toNat=p.toNat+ps.sum.toNat by lia,Md];refine⟨?_,by lia⟩;show BK (t:Rat) p.toNat*_=_;have e:BK (t:Rat) p.toNat=BK (B:Rat) p.toNat*BK (Rat.divInt t B) p.toNat:=by
   rw[<-Rg,<-LY g t]
  rw[e];show _=BK (B:Rat) p.toNat*BK (B:Rat) ps.sum.toNat*(BK (Rat.divInt t B) p.toNat*_)
  grind
theorem VY{S B:Int}{gr:Nat}(U:B≠0){m:AV}{ts:List Int}(M:m.1.length=ts.length)(I:∀p∈m.1,0<=p)(g:A7 m<=gr)(R:(m.2.den:Int) ∣ S) :
  (Gf S B gr m).2*CN ((Gf S B gr m).1.zip (ts.map fun t:Int=>(t:Rat)))=((S*B^gr:Int):Rat)*(m.2*CN (m.1.zip (ts.map fun t:Int=>Rat.divInt t B))):=by
 obtain⟨Y,Z⟩:=Nh U m.1 ts M I;show((m.2.num*S.fdiv (m.2.den:Int)*B^(gr-(A7 m).toNat):Int):Rat)*CN (m.1.zip (ts.map fun t:Int=>(t:Rat)))=_;rw[Y,Rat.intCast_mul,IM R,Rat.intCast_mul S,<-Kh,<-Kh];have e:BK (B:Rat) gr=BK (B:Rat) (gr-(A7 m).toNat)*BK (B:Rat) m.1.sum.toNat:=by
  rw[<-Md]
  congr 1
  unfold A7 at g ⊢
  lia
 rw[e]
 grind
theorem MT{S B:Int}{gr:Nat}(I:B≠0){ts:List Int}:∀ {us:List AV},(∀m∈us,m.1.length=ts.length/\(∀p∈m.1,0<=p)/\A7 m<=gr/\(m.2.den:Int) ∣ S) ->
  Cw (Bh S B gr us) (ts.map fun t:Int=>(t:Rat))=((S*B^gr:Int):Rat)*Cw us (ts.map fun t:Int=>Rat.divInt t B)
 |[],_=>by unfold Cw Bh;simp
 |m::us,h=>by
  obtain⟨a,b,c,d⟩:=h m aR;have g:=MT I (ts:=ts) (us:=us) fun y M=>h y (aM _ M);unfold Cw Bh at g ⊢;rw[List.map_cons,List.map_cons,List.sum_cons,g,VY I a b c d,List.map_cons,List.sum_cons,Rat.mul_add]
theorem a9{c b:Int}(U:1<=c)(Y:1<=b):Dc c b=(Int.lcm c b:Int):=by
 have I:FM.gi c b≠0:=Int.ne_of_gt (FM.JJ (by lia));obtain⟨q,g⟩:=FM.Jt c b;unfold Dc;rw[FM.C5 I g];have h:=Int.gcd_mul_lcm c b;have R:(FM.gi c b)*(Int.lcm c b:Int)=c*b:=by
  have:((Int.gcd c b*Int.lcm c b:Nat):Int)=((c*b).natAbs:Int):=by rw[h,Int.natAbs_mul]
  rw[Int.natCast_mul,Int.natAbs_of_nonneg (Int.mul_nonneg (by lia) (by lia))]at this;exact this
 have M:FM.gi c b*(q*b)=FM.gi c b*(Int.lcm c b:Int):=by
  rw[R,<-Int.mul_assoc,<-g]
 exact Int.eq_of_mul_eq_mul_left I M
theorem Tq{n:Nat}:∀(bs:List Int) (c:Int),1<=c->c ∣ (n:Int)->(∀b∈bs,1<=b/\b ∣ (n:Int))->bs.foldl Dc c ∣ (n:Int)
 |[],c,_,h,_=>h
 |b::bs,c,g,h,k=>by
  obtain⟨b1,b2⟩:=k b aR;obtain⟨s1,_,_,_⟩:=Ke g b1;refine Tq bs (Dc c b) s1 ?_ fun y I=>k y (aM _ I);rw[a9 g b1];exact Int.ofNat_dvd.mpr (Int.lcm_dvd h b2)
theorem ju{d:Nat}(h0:d≠0)(g:d<=6):(d:Int) ∣ ((60:Nat):Int):=by
 match d,h0,g with
 |1,_,_=>exact⟨60,by decide⟩
 |2,_,_=>exact⟨30,by decide⟩
 |3,_,_=>exact⟨20,by decide⟩
 |4,_,_=>exact⟨15,by decide⟩
 |5,_,_=>exact⟨12,by decide⟩
 |6,_,_=>exact⟨10,by decide⟩
theorem ZR{bs:List Int}(h:∀b∈bs,1<=b/\b<=6):1<=CV bs/\CV bs<=60:=by
 have M:=(FI (k:=3) (bs:=bs) fun b g=>⟨(h b g).1,by have:=h b g;lia⟩).1;have I:=Tq (n:=60) bs 1 (by decide) ⟨60,by decide⟩ fun b g=>⟨(h b g).1,by
  obtain⟨a,c⟩:=h b g;have:=ju (d:=b.toNat) (by lia) (by lia)
  rwa [show((b.toNat:Nat):Int)=b by lia]at this⟩
 exact⟨M,Int.le_of_dvd (by decide) I⟩
structure Fh(H:Hp)(p T:Addr)(ts:List Int)(B:Int):Prop where
 at_:H p=some (.tup [.ref T,.int B])
 DX:H T=some (.lst (ts.map V.int))
theorem Fh.same{H H':Hp}{p T:Addr}{ts:List Int}{B:Int}(h:Fh H p T ts B)(e:AG H H'):Fh H' p T ts B:=⟨e _ _ h.at_,e _ _ h.DX⟩
def Dm(ts:List Int):List Rat:=ts.map fun t:Int=>(t:Rat)
def DC(uss:List (List AV))(ts:List Int)(B:Int):List Rat:=(BZ B uss).map fun us=>Cw us (Dm ts)
def cS(many:Nat)(m:AV):Prop:=m.1.length=many/\(∀p∈m.1,(0:Int)<=p/\p<=3)/\0<=A7 m/\A7 m<=3
def R9:Sp:=fun vs H Q _=>∃(C p T:Addr) (cs:List V) (uss:List (List AV)) (ts:List Int) (B:Int) (many k g:Nat),vs=[.ref C,.ref p]/\Jk H C cs uss 4/\Fh H p T ts B/\(∀us∈uss,∀m∈us,cS many m)/\ts.length=many/\many<=4/\B.natAbs<2^k/\k<=1200/\(∀t∈ts,t.natAbs<2^g)/\g<=1300 /\
 ∀I M H',AG H H'->H M=none->Fh H' I M ((DC uss ts B).map fun r=>r.num) (B*Jb uss B)->Q (.ref I) H'
section
variable{P:Program}{w:World}{K:PySem.W.Frag}{mg:Str->Option Value}{base:Heap}{f g1 g2 g3:Addr}{fd gd1 gd2 gd3:FuncData}
theorem SD:Ab ["change","place","numbers","worths"] ["change","place"] (AN Jq):=⟨rfl,rfl,rfl,by decide +kernel,rfl,by decide +kernel,by decide +kernel⟩
theorem Qe(F:Fn K mg "speeds_at" Jq ["change","place"] f fd)(Cb:Fn K mg "whole_change" FG ["change","grain"] g1 gd1)(IG:Fn K mg "worth_at" KO ["some","start"] g2 gd2)(FE:Fn K mg "pace_of" JX ["change","grain"] g3 gd3)
 (G6:AL P w K mg base AY 4 g1 gd1 ["change","grain"] X8)(Uu:AL P w K mg base AY 4 g2 gd2 ["some","start"] RU)(K4:AL P w K mg base AY 4 g3 gd3 ["change","grain"] Qx):AL P w K mg base AY 5 f fd ["change","place"] R9:=by
 have sc:=SD;refine F.F.ok (k:=4) sc (fun vs H Q E h=>?_) (fun cdv A outer s H vs Q E hr h=>?_)
 .obtain⟨C,p,T,cs,uss,ts,B,many,k,tb,rfl,_⟩:=h
  rfl
 obtain⟨C,p,T,cs,uss,ts,B,many,k,tb,rfl,ch,pl,hm,htl,hm4,hB,hk,htb,ht1,q⟩:=h;have hl4:=ch.len;obtain⟨g1',g3',g2'⟩:=Fv (c:=3) (uss:=uss) (by decide) fun us U m I=>(hm us U m I).2.2.2;obtain⟨b1,b2,_⟩:=EN ch.len ch.DK;have hgN:Ae uss<=3:=by unfold Ae;lia
 refine⟨_,(AD (AU (i:=2) sc.nd rfl (Or.inr rfl) (Bf [".0","top"] 1 [none,none] (Av (Ag Ar (pv 1) AE (fun _ _=>rfl))) (fun _ _ _ _ _=>BC) (fun _ _ _ _ _=>(EE (AA (pv 1) (AA AE AB))))))
 (AD (HS (i:=3) [".0","some","numbers"] 1 [none,none,some 2] sc.nd rfl rfl (Av (AX Cb G6 hr rfl (AA (pv 0) (AA (Ag Ar (pv 1) AE (fun _ _=>rfl)) AB)))) (fun _ _ _ _ _=>BC) (fun _ _ _ _ _=>(AX IG Uu hr rfl (AA (pv 1) (AA (pv 2) AB)))))
 (AF (Ac (EE (AA (Bf [".0","worth"] 1 [none,none] (Av (pv 3)) (fun _ _ _ _ _=>BC) (fun _ _ _ _ _=>(Ag DD (pv 1) AE (fun _ _=>rfl)))) (AA (Aa A9 (Ag Ar (pv 1) AE (fun _ _=>rfl)) (AX FE K4 hr rfl (AA (pv 0) (AA (Ag Ar (pv 1) AE (fun _ _=>rfl)) AB)))) AB))))))),?_⟩
 refine⟨_,rfl,_,_,_,_,rfl,rfl,Af.of pl.at_,rfl,T,rfl,⟨_,AO.of pl.DX⟩,fun D hD=>Ba (n:=ts.length) (fun i ys H'=>AG H H'/\ys.length=i/\Am H' (AR (Dm (ts.take i))) ys) ⟨AK hD _,rfl,.nil⟩ ?_ ?_⟩
 .rintro i ys H1 hi ⟨e1,hyl,dy⟩ hD1;have ht:ts[i]? = some ts[i]:=by simp[hi]
  generalize ts[i]=t at ht;have ht':(ts.map V.int)[i]? = some (.int t):=by rw[List.getElem?_map,ht];rfl
  refine⟨⟨_,.int t,AO.of (e1 _ _ pl.DX),ht'⟩,Bk (n:=60) (by lia) (by decide),fun x H' y=>?_⟩;obtain⟨rfl,y⟩:=y;have hx:=y _ (AO.of (e1 _ _ pl.DX));rw[ht']at hx;cases hx;unfold Bj;refine BA ⟨_,rfl,BJ (show 2<=60 by decide),fun b hb=>?_⟩;generalize hH:upd _ b _=H2;obtain⟨e2,d2,_⟩:=YS (ds:=[.int t,.int 1]) hH hb (.cons .int (.cons .int .nil));clear hH;have d2:DU H2 (Aj (t:Rat)) (.ref b):=d2;have hD2:=e2 _ _ hD1;refine⟨hD2,A8 hi ⟨fun b o z=>?_,by simp[hyl],?_⟩⟩
  .rw[AI (AM z hD)];exact e2 _ _ (e1 _ _ z)
  .rw[List.take_add_one,ht];have dn:Am H2 (AR (Dm (ts.take i++[t]))) (ys++[.ref b]):=by
    unfold Dm;rw[List.map_append,JV];exact(dy.same e2).app (.cons d2 .nil)
   exact F7 hD2 .upd dn
 rintro ns H1 ⟨e1,hnl,dn⟩ hD1;rw[List.take_length]at dn;refine⟨⟨_,AO.of (e1 _ _ pl.DX),by rw[List.length_map];exact aD _⟩,?_⟩;refine⟨_,rfl,_,rfl,_,_,_,_,rfl,rfl,Af.of (e1 _ _ pl.at_),rfl,C,cs,uss,B,k,rfl,ch.same e1,fun us U m I=>(hm us U m I).2.2,hB,hk,fun DW H2 zs e2 _ hDW dz=>?_⟩;have E2:=e1.trans e2;have st:US H2 D ns (Dm ts) many tb 1:=⟨e2 _ _ hD1,dn.same e2,by unfold Dm;rw[List.length_map];exact htl,fun x hx=>by
  obtain⟨t,ht,rfl⟩:=aJ.mp hx;exact⟨htb t ht,by show((1:Nat):Int).natAbs<2^1;decide⟩⟩
 have hwl:(BZ B uss).length=uss.length:=by unfold BZ;rw[List.length_map]
 have hzl:zs.length=uss.length:=by rw[dz.len,List.length_map,hwl]
 refine⟨DW,rfl,⟨_,AO.of hDW⟩,fun D3 hD3=>Ba (n:=zs.length) (fun i ys H'=>AG H2 H'/\ys.length=i/\Am H' (AR ((DC uss ts B).take i)) ys) ⟨AK hD3 _,rfl,.nil⟩ ?_ ?_⟩
 .rintro i ys H3 hi ⟨e3,hyl,dy⟩ g;have hu:uss[i]? = some (uss[i]'(by lia)):=aF _;have Y:=aI hu;generalize uss[i]'(by lia)=us at hu Y;have hw:(BZ B uss)[i]? = some (Bh (Aq uss) B (Ae uss) us):=by unfold BZ;rw[List.getElem?_map,hu];rfl
  obtain⟨a,xs,k1,k2,k3⟩:=IY dz hw;obtain⟨u12,uf⟩:=ch.DK us Y;refine⟨⟨zs,.ref a,AO.of (e3 _ _ hDW),k1⟩,Bk (n:=60) (by lia) (by decide),fun x H' y=>?_⟩;obtain⟨rfl,y⟩:=y;have hx:=y zs (AO.of (e3 _ _ hDW));rw[k1]at hx;cases hx;unfold Bj;refine BA ⟨_,rfl,_,rfl,a,D,xs,ns,Bh (Aq uss) B (Ae uss) us,Dm ts,many,tb,1,4+(1+4*48)+(k*3+1),1,rfl,e3 _ _ k2,k3.same e3,by unfold Bh;rw[List.length_map];exact u12,fun m' hm'=>?_,st.same e3,hm4,ht1,by decide,by lia,by decide,fun l H4 Z hl=>?_⟩
  .obtain⟨m,I,rfl⟩:=aJ.mp hm';obtain⟨o1,o2,o3,o4⟩:=hm us Y m I;refine⟨o1,o2,?_,by show((1:Nat):Int).natAbs<2^1;decide⟩;show(m.2.num*(Aq uss).fdiv (m.2.den:Int)*B^(Ae uss-(A7 m).toNat)).natAbs<_;exact FM.Ax (FM.Ax (uf m I).1 (aL (FM.A3 _ _) b2)) (CG (p:=3) hB (by lia))
  have R:=Z _ _ g;refine⟨R,A8 hi ⟨fun b o z=>?_,by simp[hyl],?_⟩⟩
  .rw[AI (AM z hD3)];exact Z _ _ (e3 _ _ z)
  .have hwi:(DC uss ts B)[i]? = some (Cw (Bh (Aq uss) B (Ae uss) us) (Dm ts)):=by unfold DC;rw[List.getElem?_map,hw];rfl
   rw[List.take_add_one,hwi];have dn':Am H4 (AR ((DC uss ts B).take i++[Cw (Bh (Aq uss) B (Ae uss) us) (Dm ts)])) (ys++[.ref l]):=by
    rw[JV];exact(dy.same Z).app (.cons (Lp hl) .nil)
   exact F7 R .upd dn'
 rintro vs H3 ⟨e3,hvl,dv⟩ g;refine⟨⟨zs,AO.of (e3 _ _ hDW),Nat.le_refl _⟩,?_⟩;have hwl2:(DC uss ts B).length=uss.length:=by unfold DC;rw[List.length_map,hwl]
 rw[List.take_of_length_le (by lia)]at dv;have E3:=E2.trans e3;refine⟨_,rfl,D3,rfl,⟨_,AO.of g⟩,fun D4 R=>Ba (n:=vs.length) (fun i ys H'=>AG H3 H'/\ys=(((DC uss ts B).take i).map fun r=>r.num).map V.int) ⟨AK R _,rfl⟩ ?_ ?_⟩
 .rintro i ys H4 hi ⟨Z,rfl⟩ M;have hr:(DC uss ts B)[i]? = some ((DC uss ts B)[i]'(by lia)):=aF _;obtain⟨c,k1,k2⟩:=Dd dv hr;generalize (DC uss ts B)[i]'(by lia)=r at hr k2;refine⟨⟨vs,.ref c,AO.of (Z _ _ g),k1⟩,Bk (n:=60) (by simp;lia) (by decide),fun x H' y=>?_⟩;obtain⟨rfl,y⟩:=y;have hx:=y vs (AO.of (Z _ _ g));rw[k1]at hx;cases hx;unfold Bj;refine BA ⟨_,rfl,_,_,_,_,rfl,rfl,Af.of (Z _ _ k2),rfl,M,A8 hi ⟨fun b o z=>?_,?_⟩⟩
  .rw[AI (AM z R)];exact Z _ _ z
  .rw[List.take_add_one,hr,List.map_append,List.map_append]
   rfl
 rintro ys H4 ⟨Z,rfl⟩ M;rw[List.take_of_length_le (by lia)]at M;refine⟨⟨vs,AO.of (Z _ _ g),Nat.le_refl _⟩,?_⟩;have E4:=E3.trans Z;have n4:(B^(Ae uss-1)).natAbs<2^(k*3+1):=CG (p:=3) hB (by lia);refine⟨_,rfl,_,_,_,_,rfl,rfl,Af.of (E4 _ _ pl.at_),rfl,_,rfl,_,rfl,_,_,_,_,rfl,rfl,Af.of (E4 _ _ pl.at_),rfl,C,cs,uss,B,k,rfl,ch.same E4,fun us U m I=>(hm us U m I).2.2,hB,hk,fun H5 e5=>?_⟩;refine⟨_,_,rfl,rfl,DP hB (FM.Ax b2 n4) (by lia),BJ (show 2<=60 by decide),fun p' hp'=>?_⟩;exact q p' D4 _ (E4.trans (e5.trans (AK hp' _))) (Cy E3 R) ⟨AH,AK hp' _ _ _ (e5 _ _ M)⟩
end
abbrev Pl:=List Int×Int
def T1(s:Pl):PyData:=.tuple [.list (s.1.map .int),.int s.2]
theorem Sf{H:Hp}:∀ {ps:List Int} {xs:List V},Am H (ps.map .int) xs->xs=ps.map V.int
 |[],xs,h=>by
  have:=h.len;rw[List.map_nil,List.length_nil]at this;rw[List.eq_nil_of_length_eq_zero this]
  rfl
 |p::ps,xs,h=>by
  obtain⟨x,r,rfl,I,g⟩:=Am.UN h;obtain⟨N,b⟩:=I;have:=b N (aD _);rw[Dt]at this;rw[this,Sf g,List.map_cons]
theorem WI{H:Hp}{FF:List Pl}{xs:List V}{i:Nat}{s:Pl}(d:Am H (FF.map T1) xs)(h:FF[i]? = some s):∃c T,xs[i]? = some (.ref c)/\Fh H c T s.1 s.2:=by
 obtain⟨v,h1,Z⟩:=d.get (i:=i) (d:=T1 s) (by rw[List.getElem?_map,h];rfl);obtain⟨c,ys,rfl,R,I⟩:=Z.UK;obtain⟨x,y,rfl,Y,U⟩:=I.LU;obtain⟨T,ts,rfl,g,M⟩:=Y.Jm;obtain⟨N,b⟩:=U;have e:=b N (aD _);rw[Dt]at e;subst e;rw[Sf M]at g;exact⟨c,T,h1,R,g⟩
def EL(qs:List Rat):List Int:=qs.map fun r=>(r.den:Int)
def Fu(qs:List Rat)(h:Rat)(B:Int):Int:=CV (EL qs)*(h.den:Int)*B
def Fb(bot:Int)(h q:Rat)(B:Int):Int:=q.num*h.num*bot.fdiv ((q.den:Int)*(h.den:Int)*B)
def stepT(bot:Int)(h:Rat)(DX:List Int)(z:Rat×Pl):List Int:=List.zipWith (fun t v=>t+Fb bot h z.1 z.2.2*v) DX z.2.1
def G9(rs:List Rat)(zs:List (Rat×Pl))(h:Rat)(bot:Int):List Int:=zs.foldl (stepT bot h) (BI rs bot)
theorem WM(rs:List Rat)(zs:List (Rat×Pl))(z:Rat×Pl)(h:Rat)(bot:Int):G9 rs (zs++[z]) h bot=stepT bot h (G9 rs zs h bot) z:=by
 unfold G9;rw[List.foldl_append]
 rfl
theorem Rm{rs:List Rat}{h:Rat}{bot:Int}{many:Nat}(U:rs.length=many):∀(zs:List (Rat×Pl)),(∀z∈zs,z.2.1.length=many)->(G9 rs zs h bot).length=many:=fun zs=>by
 have gen:∀(zs:List (Rat×Pl)) (ts:List Int),ts.length=many->(∀z∈zs,z.2.1.length=many)->(zs.foldl (stepT bot h) ts).length=many:=fun zs=>by
  induction zs with
  |nil=>intro ts I _;exact I
  |cons z zs M=>
   intro ts I g;rw[List.foldl_cons];refine M _ ?_ fun y R=>g y (aM _ R);unfold stepT;rw[List.length_zipWith,I,g z aR,Nat.min_self]
 exact fun g=>gen zs _ (by unfold BI;rw[List.length_map];exact U) g
def ZX:Sp:=fun vs H Q _=>∃(S Rw Sp Ln:Addr) (xs ys M:List V) (rs g:List Rat) (FF:List Pl) (h:Rat) (I:Pl) (many Y R:Nat),vs=[.ref S,.ref Rw,.ref Sp,.ref Ln]/\H S=some (.lst xs)/\Am H (AR rs) xs/\rs.length=many/\many<=4/\(∀r∈rs,FM.Fits r 3) /\
 H Rw=some (.lst ys)/\Am H (AR g) ys/\(∀q∈g,FM.Fits q 6)/\g.length<=3/\H Sp=some (.lst M)/\Am H (FF.map T1) M/\g.length=FF.length/\FF.length<=8/\FF[FF.length-1]? = some I/\(∀s∈FF,s.1.length=many/\1<=s.2/\s.2.natAbs<2^Y/\∀t∈s.1,t.natAbs<2^R)/\Y<=3000/\R<=100000 /\
 H Ln=some (.tup (Gd h))/\FM.Fits h 6/\∀U Z H',AG H H'->H Z=none->Fh H' U Z (G9 rs (g.zip FF) h (Fu g h I.2)) (Fu g h I.2)->Q (.ref U) H'
section
variable{P:Program}{w:World}{K:PySem.W.Frag}{mg:Str->Option Value}{base:Heap}{f g1 g2:Addr}{fd gd1 gd2:FuncData}
theorem Vp:Ab ["start","row","speeds","length","bottom","tops","part","there","share"] ["start","row","speeds","length"] (AN Mc):=⟨rfl,rfl,rfl,by decide +kernel,rfl,by decide +kernel,by decide +kernel⟩
theorem XA(F:Fn K mg "led_to" Mc ["start","row","speeds","length"] f fd)(Ao:Fn K mg "common_bottom" Bs ["bottoms"] g1 gd1)(Bx:Fn K mg "tops_over" FX ["some","bottom"] g2 gd2)
 (Bi:AL P w K mg base AY 2 g1 gd1 ["bottoms"] Ld)(Eh:AL P w K mg base AY 2 g2 gd2 ["some","bottom"] Ny)(EM:mg "zip" = none):AL P w K mg base AY 3 f fd ["start","row","speeds","length"] ZX:=by
 have sc:=Vp;refine F.F.ok (k:=2) sc (fun vs H Q E h=>?_) (fun cdv A outer s H vs Q E hr h=>?_)
 .obtain⟨S,Rw,Sp,Ln,xs,ys,zs,rs,g,FF,h,sL,many,kb,sb,rfl,_⟩:=h
  rfl
 obtain⟨S,Rw,Sp,Ln,xs,ys,zs,rs,g,FF,h,sL,many,kb,sb,rfl,hS,dx,hrl,hm4,hrf,M,dy,hqf,hq3,hSp,dz,hql,h8,hL,hsp,hkb,hsb,hLn,hf,q⟩:=h;have hyl:ys.length=g.length:=by rw[dy.len,Dl]
 have hzl:zs.length=FF.length:=by rw[dz.len,List.length_map]
 have hn1:1<=FF.length:=by have:=(aB.mp hL).1;lia
 have hd6:∀b∈EL g,1<=b/\b.natAbs<2^6:=F5 hqf;obtain⟨c1,c60,_⟩:=FI hd6;have cb:(CV (EL g)).natAbs<2^19:=FM.A6 c60 (by unfold EL;rw[List.length_map];lia);obtain⟨l1,l2,l3,l4⟩:=hsp sL (aI hL);have hb1:(CV (EL g)*(h.den:Int)).natAbs<2^(19+6):=FM.Ax cb hf.d;have Z:(Fu g h sL.2).natAbs<2^(19+6+kb):=FM.Ax hb1 l3;obtain⟨cL,TL,k1,pL⟩:=WI dz hL;have hat:EI zs (-1)=some (.ref cL):=by
  unfold EI NU;rw[if_neg (by decide),if_pos (by lia)];show zs[(-1+(zs.length:Int)).toNat]? = _;rw[show(-1+(zs.length:Int)).toNat=FF.length-1 by lia];exact k1
 refine⟨_,(AD (AU (i:=4) sc.nd rfl (Or.inl rfl) (Aa A9 (Aa A9 (AX Ao Bi hr rfl (AA (Bf [".0","part"] 1 [none,none] (Av (pv 1)) (fun _ _ _ _ _=>BC) (fun _ _ _ _ _=>(Ag DD (pv 1) AE (fun _ _=>rfl)))) AB)) (Ag Ar (pv 3) AE (fun _ _=>rfl))) (Ag Ar (Ag F9 (pv 2) (QT NY AE) (fun _ _=>rfl)) AE (fun _ _=>rfl))))
 (AD (AU (i:=5) sc.nd rfl (Or.inl rfl) (AX Bx Eh hr rfl (AA (pv 0) (AA (pv 4) AB))))
 (AD (BU aP rfl (Le rfl EM (AA (pv 1) (AA (pv 2) AB))) (GY rfl (Bg (An (i:=6) sc.nd rfl (Or.inl rfl)) (Bg (An (i:=7) sc.nd rfl (Or.inl rfl)) FK)))
  (AD (AU (i:=8) sc.nd rfl (Or.inr rfl) (Aa A9 (Aa A9 (Ag Ar (pv 6) AE (fun _ _=>rfl)) (Ag Ar (pv 3) AE (fun _ _=>rfl))) (Aa DL (pv 4) (Aa A9 (Aa A9 (Ag Ar (pv 6) AE (fun _ _=>rfl)) (Ag Ar (pv 3) AE (fun _ _=>rfl))) (Ag Ar (pv 7) AE (fun _ _=>rfl))))))
  (AF (JB (i:=5) [".0","top","speed","share"] 1 2 [none,none,none,some 8] sc.nd rfl rfl (Le rfl EM (AA (pv 5) (AA (Ag Ar (pv 7) AE (fun _ _=>rfl)) AB))) (fun _ _ _ _ _=>BC) (fun _ _ _ _ _=>(Aa B2 (pv 1) (Aa A9 (pv 3) (pv 2))))))))
 (AF (Ac (EE (AA (pv 5) (AA (pv 4) AB)))))))),?_⟩
 refine⟨_,rfl,Rw,rfl,⟨_,AO.of M⟩,fun D hD=>Ba (n:=ys.length) (fun i us H'=>AG H H'/\us=(EL (g.take i)).map V.int) ⟨AK hD _,rfl⟩ ?_ ?_⟩
 .rintro i us H1 hi ⟨U,rfl⟩ hD1;have hr:g[i]? = some (g[i]'(by lia)):=aF _;obtain⟨p,hp1,hp2⟩:=Dd dy hr;generalize g[i]'(by lia)=r at hr hp2;refine⟨⟨ys,.ref p,AO.of (U _ _ M),hp1⟩,Bk (n:=60) (by unfold EL;simp;lia) (by decide),fun x H' y=>?_⟩;obtain⟨rfl,y⟩:=y;have hx:=y ys (AO.of (U _ _ M));rw[hp1]at hx;cases hx;unfold Bj;refine BA ⟨_,rfl,_,_,_,_,rfl,rfl,Af.of (U _ _ hp2),rfl,hD1,A8 hi ⟨fun b o z=>?_,?_⟩⟩
  .rw[AI (AM z hD)];exact U _ _ z
  .rw[List.take_add_one,hr,EL,EL,List.map_append,List.map_append]
   rfl
 rintro us H1 ⟨U,rfl⟩ hD1;rw[hyl,List.take_length]at hD1;refine⟨⟨ys,AO.of (U _ _ M),Nat.le_refl _⟩,D,EL g,6,rfl,hD1,hd6,?_,?_⟩
 .rw[show(EL g).length=g.length from bS _]
  lia
 refine⟨_,rfl,_,_,_,_,rfl,rfl,Af.of (U _ _ hLn),rfl,_,_,rfl,rfl,DP cb hf.d (by lia),_,rfl,_,rfl,_,_,_,_,rfl,rfl,AO.of (U _ _ hSp),hat,_,_,_,_,rfl,rfl,Af.of (U _ _ pL.at_),rfl,_,_,rfl,rfl,DP hb1 l3 (by lia),?_⟩;rw[show((fun i j:Int=>V.int (i*j)) ((fun i j:Int=>i*j) (CV (EL g)) (h.den:Int)) sL.2)=V.int (Fu g h sL.2) from rfl];refine⟨_,rfl,_,rfl,S,xs,rs,Fu g h sL.2,3,19+6+kb,rfl,U _ _ hS,dx.same U,by lia,hrf,Z,by lia,fun D2 H2 e2 hD2n hD2=>?_⟩;have E2:=U.trans e2;generalize hbv:Fu g h sL.2=bot at q Z hD2;refine⟨_,rfl,_,rfl,false,false,Rw,Sp,rfl,⟨_,E2 _ _ M⟩,⟨_,E2 _ _ hSp⟩,WK g.length (fun i σ H'=>∃(Tn:Addr) (r6 r7 r8:Option V),σ=[some (.ref S),some (.ref Rw),some (.ref Sp),some (.ref Ln),some (.int bot),some (.ref Tn),r6,r7,r8]/\AG H H'/\H' Tn=some (.lst ((G9 rs ((g.zip FF).take i) h bot).map V.int))/\H Tn=none) ?_ ?_ ?_⟩
 .exact⟨D2,_,_,_,rfl,E2,hD2,Cy U hD2n⟩
 .rintro i σ H3 hi ⟨Tn,r6,r7,r8,rfl,e3,I,hTnn⟩;have hq:g[i]? = some (g[i]' hi):=aF _;have hs:FF[i]? = some (FF[i]'(by lia)):=aF _;generalize g[i]' hi=Y at hq;generalize FF[i]'(by lia)=sv at hs;obtain⟨pq,a1,a2⟩:=Dd dy hq;obtain⟨ps,Ts,a3,a4⟩:=WI dz hs;have fq:=hqf Y (aI hq);obtain⟨s1,s2,s3,s4⟩:=hsp sv (aI hs);refine⟨⟨_,_,_,_,e3 _ _ M,e3 _ _ hSp,a1,a3⟩,fun v H' y=>?_⟩;obtain⟨pp,x1,x2,rfl,np,rfl,q1,q2⟩:=y;have w1:=q1 _ (e3 _ _ M);have w2:=q2 _ (e3 _ _ hSp);rw[a1]at w1;rw[a3]at w2;cases w1;cases w2;have e4:=AK np (.tup [.ref pq,.ref ps]);refine⟨pp,_,rfl,Af.of AH,rfl,_,_,rfl,_,_,rfl,rfl,?_⟩;generalize upd H3 pp (.tup [.ref pq,.ref ps])=H4 at e4;have E4:=e3.trans e4;have hdiv:((Y.den:Int)*(h.den:Int)*sv.2).natAbs<2^(6+6+kb):=FM.Ax (FM.Ax fq.d hf.d) s3;have hne:(Y.den:Int)*(h.den:Int)*sv.2≠0:=bc (bc (by have:=Y.den_nz;lia) (by have:=h.den_nz;lia)) (by lia);have hfd:(bot.fdiv ((Y.den:Int)*(h.den:Int)*sv.2)).natAbs<2^(19+6+kb):=aL (FM.A3 _ _) Z;have hsh:(Fb bot h Y sv.2).natAbs<2^(6+6+(19+6+kb)):=FM.Ax (FM.Ax fq.1 hf.1) hfd;refine⟨_,rfl,_,_,_,_,rfl,rfl,Af.of (E4 _ _ a2),rfl,_,rfl,_,_,_,_,rfl,rfl,Af.of (E4 _ _ hLn),rfl,_,_,rfl,rfl,DP fq.1 hf.1 (by lia),_,rfl,_,rfl,_,_,_,_,rfl,rfl,Af.of (E4 _ _ a2),rfl,_,rfl,_,_,_,_,rfl,rfl,Af.of (E4 _ _ hLn),rfl,_,_,rfl,rfl,DP fq.d hf.d (by lia),_,rfl,_,_,_,_,rfl,rfl,Af.of (E4 _ _ a4.at_),rfl,_,_,rfl,rfl,DP (FM.Ax fq.d hf.d) s3 (by lia),_,_,rfl,rfl,⟨hne,6+6+kb,by lia,hdiv⟩,_,_,rfl,rfl,DP (FM.Ax fq.1 hf.1) hfd (by lia),?_⟩;have I:=e4 _ _ I;have hlt:(G9 rs ((g.zip FF).take i) h bot).length=many:=Rm hrl _ fun z hz=>(hsp z.2 (bC (bg hz)).2).1;generalize hold:G9 rs ((g.zip FF).take i) h bot=ts at I hlt;refine⟨_,rfl,_,rfl,_,_,_,_,rfl,rfl,Af.of (E4 _ _ a4.at_),rfl,false,false,Tn,Ts,rfl,⟨_,I⟩,⟨_,E4 _ _ a4.DX⟩,fun D5 hD5=>Ey (n:=many) (fun j us H'=>AG H4 H'/\us=(((List.zipWith (fun t v=>t+Fb bot h Y sv.2*v) ts sv.1)).take j).map V.int) ⟨AK hD5 _,by rw[List.take_zero];rfl⟩ ?_ ?_⟩
  .rintro j us H5 hj ⟨e5,rfl⟩ R;have hx:=aF (l:=ts) (i:=j) (by lia);have hy:=aF (l:=sv.1) (i:=j) (by lia);generalize ts[j]'(by lia)=tv at hx;generalize hyv:sv.1[j]'(by lia)=yv at hy;have hx':(ts.map V.int)[j]? = some (.int tv):=by rw[List.getElem?_map,hx];rfl
   have hy':(sv.1.map V.int)[j]? = some (.int yv):=by rw[List.getElem?_map,hy];rfl
   have ea:=e5 _ _ I;have eb:=e5 _ _ (E4 _ _ a4.DX);refine⟨⟨_,_,_,_,ea,eb,hx',hy'⟩,Bk (n:=60) (by rw[List.length_map,List.length_take];lia) (by decide),fun v H' y=>?_⟩;obtain⟨pz,x1,x2,rfl,nz,rfl,k1,k2⟩:=y;have w1:=k1 _ ea;have w2:=k2 _ eb;rw[hx']at w1;rw[hy']at w2;cases w1;cases w2;have sp:=AK nz (.tup [.int tv,.int yv]);refine⟨pz,_,_,rfl,Af.of AH,?_⟩;unfold Bj;refine BA ⟨_,rfl,_,rfl,_,rfl,_,_,rfl,rfl,DP hsh (s4 yv (aI hy)) (by lia),_,_,rfl,rfl,sp _ _ R,A8 hj ⟨fun c o z=>?_,?_⟩⟩
   .rw[AI (AM z hD5)];exact sp _ _ (e5 _ _ z)
   .have hz:(List.zipWith (fun t v=>t+Fb bot h Y sv.2*v) ts sv.1)[j]? = some (tv+Fb bot h Y sv.2*yv):=by
     rw[List.getElem?_zipWith,hx,hy]
    rw[List.take_add_one,hz,List.map_append]
    rfl
  .rintro us H5 ⟨e5,rfl⟩ R;have hzw:(List.zipWith (fun t v=>t+Fb bot h Y sv.2*v) ts sv.1).length=many:=by rw[List.length_zipWith,hlt,s1,Nat.min_self]
   rw[List.take_of_length_le (by lia)]at R;refine⟨⟨_,_,e5 _ _ I,e5 _ _ (E4 _ _ a4.DX),.inl (by rw[List.length_map,hlt])⟩,D5,_,_,_,rfl,E4.trans e5,?_,Cy E4 hD5⟩;rw[List.take_add_one,(List.getElem?_zip_eq_some (z:=(Y,sv))).mpr ⟨hq,hs⟩];show H5 D5=some (.lst ((G9 rs ((g.zip FF).take i++[(Y,sv)]) h bot).map V.int));rw[WM,hold];exact R
 .rintro σ H3 ⟨Tn,r6,r7,r8,rfl,e3,I,hTnn⟩;refine⟨⟨_,_,e3 _ _ M,e3 _ _ hSp,.inl hyl.symm⟩,?_⟩;rw[List.take_of_length_le (by rw[List.length_zip,hql,Nat.min_self];exact aD _)]at I;refine⟨_,rfl,_,rfl,BJ (show 2<=60 by decide),fun p' hp'=>?_⟩;exact q p' Tn _ (e3.trans (AK hp' _)) hTnn ⟨AH,AK hp' _ _ _ I⟩
end
def IB(ps ts:List Int):Int:=(List.zipWith (fun p t=>t^p.toNat) ps ts).foldr (· * ·) 1
theorem Rq:∀(ps ts:List Int),CN (ps.zip (Dm ts))=((IB ps ts:Int):Rat)
 |[],_=>by simp[CN,IB]
 |_::_,[]=>by simp[CN,IB,Dm]
 |p::ps,t::ts=>by
  have g:=Rq ps ts;unfold Dm at g ⊢;rw[List.map_cons,List.zip_cons_cons,KY,g];show BK (t:Rat) p.toNat*_=_;rw[Kh];unfold IB;rw[List.zipWith_cons_cons,List.foldr_cons,<-Rat.intCast_mul]
def ZV(S B:Int)(gr:Nat)(m:AV)(ts:List Int):Int:=m.2.num*S.fdiv (m.2.den:Int)*B^(gr-(A7 m).toNat)*IB m.1 ts
theorem Lr(S B:Int)(gr:Nat)(ts:List Int):∀us:List AV,Cw (Bh S B gr us) (Dm ts)=(((us.map fun m=>ZV S B gr m ts).sum:Int):Rat)
 |[]=>by simp[Cw,Bh]
 |m::us=>by
  have g:=Lr S B gr ts us;unfold Cw Bh at g ⊢;rw[List.map_cons,List.map_cons,List.sum_cons,g,List.map_cons,List.sum_cons,Rat.intCast_add]
  congr 1
  show((m.2.num*S.fdiv (m.2.den:Int)*B^(gr-(A7 m).toNat):Int):Rat)*CN (m.1.zip (Dm ts))=_;rw[Rq,<-Rat.intCast_mul]
  rfl
theorem T5{n:Nat}:∀(zs:List Int),(∀z∈zs,z.natAbs<2^n)->zs.sum.natAbs<=zs.length*2^n
 |[],_=>by simp
 |z::zs,h=>by
  have I:=T5 zs fun y g=>h y (aM _ g);have M:=h z aR;rw[List.sum_cons,List.length_cons,Nat.succ_mul];have:=Int.natAbs_add_le z zs.sum
  lia
theorem Wf{n:Nat}{zs:List Int}(g:zs.length<=15)(h:∀z∈zs,z.natAbs<2^n):zs.sum.natAbs<2^(n+4):=by
 have R:=T5 zs h;have M:zs.length*2^n<=15*2^n:=bW _ g;have I:0<2^n:=Nat.two_pow_pos n;rw[Nat.pow_add]
 lia
theorem Mx{tb:Nat}:∀(ps ts:List Int),(∀p∈ps,0<=p)->(∀t∈ts,t.natAbs<2^tb)->(IB ps ts).natAbs<2^(tb*ps.sum.toNat+ps.length+1)/\0<=ps.sum
 |[],ts,_,_=>⟨by simp[IB],by simp⟩
 |p::ps,[],I,_=>by
  have Z:=(Mx (tb:=tb) ps [] (fun y g=>I y (aM _ g)) fun _ z=>(ab z).elim).2;have:=I p aR;refine⟨?_,by rw[List.sum_cons];lia⟩;show(1:Int).natAbs<_;exact aN (by decide) (bD (by decide) (show 1<=_ by lia))
 |p::ps,t::ts,I,M=>by
  obtain⟨h1,Z⟩:=Mx ps ts (fun y g=>I y (aM _ g)) fun y g=>M y (aM _ g);have R:=I p aR;have Y:=CG (k:=tb) (e:=p.toNat) (p:=p.toNat) (M t aR) (aD _);have e:IB (p::ps) (t::ts)=t^p.toNat*IB ps ts:=rfl;rw[e,List.sum_cons,List.length_cons];refine⟨?_,by lia⟩;have U:=FM.Ax Y h1;refine FM.A6 U ?_;rw[show(p+ps.sum).toNat=p.toNat+ps.sum.toNat by lia,Nat.mul_add]
  lia
structure EV(uss:List (List AV))(many:Nat):Prop where
 len:uss.length<=4
 DK:∀us∈uss,us.length<=12/\∀m∈us,FM.Fits m.2 3/\m.2.den<=6/\m.1.length=many/\(∀p∈m.1,(0:Int)<=p/\p<=3)/\0<=A7 m/\A7 m<=2
theorem EV.great{uss:List (List AV)}{many:Nat}(h:EV uss many):1<=Ae uss/\Ae uss<=2/\∀us∈uss,∀m∈us,(A7 m).toNat<=Ae uss:=by
 obtain⟨a,b,c⟩:=Fv (c:=2) (uss:=uss) (by decide) fun us g m hm=>((h.DK us g).2 m hm).2.2.2.2.2;unfold Ae;refine⟨by lia,by lia,fun us g m hm=>?_⟩;have:=c us g m hm
 lia
theorem EV.Qu{uss:List (List AV)}{many:Nat}(h:EV uss many):1<=Aq uss/\(Aq uss).natAbs<2^6:=by
 obtain⟨a,b⟩:=ZR (bs:=EB uss) fun b g=>by
  unfold EB at g;obtain⟨l,M,g⟩:=List.mem_flatten.mp g;obtain⟨us,I,rfl⟩:=aJ.mp M;obtain⟨m,hm,rfl⟩:=aJ.mp g;have:=m.2.den_nz;have:=((h.DK us I).2 m hm).2.1;exact⟨by lia,by lia⟩
 exact⟨a,by show(CV (EB uss)).natAbs<_;lia⟩
def A5(uss:List (List AV))(g:Pl):Pl:=((DC uss g.1 g.2).map fun r=>r.num,g.2*Jb uss g.2)
theorem Ij{uss:List (List AV)}{many k:Nat}{g:Pl}(h:EV uss many)(h1:1<=g.2)(I:g.2.natAbs<2^k):1<=(A5 uss g).2/\(A5 uss g).2.natAbs<2^(2*k+7):=by
 obtain⟨Y,U,_⟩:=h.great;obtain⟨b1,b2⟩:=h.Qu;have R:1<=g.2^(Ae uss-1):=by
  have:0<g.2^(Ae uss-1):=Int.pow_pos (by lia)
  lia
 have M:(g.2^(Ae uss-1)).natAbs<2^(k*1+1):=CG (p:=1) I (by lia);refine⟨?_,?_⟩
 .have:0<g.2*(Aq uss*g.2^(Ae uss-1)):=bw (by lia) (bw (by lia) (by lia));exact this
 .have:=FM.Ax I (FM.Ax b2 M);exact FM.A6 this (by lia)
theorem Uz{uss:List (List AV)}{many k tb:Nat}{g:Pl}(h:EV uss many)(hm4:many<=4)(hk:g.2.natAbs<2^k)(ht:∀t∈g.1,t.natAbs<2^tb):∀t∈(A5 uss g).1,t.natAbs<2^(2*k+2*tb+19):=fun t R=>by
 obtain⟨g1,g2,g3⟩:=h.great;obtain⟨b1,b2⟩:=h.Qu;obtain⟨r,hr,rfl⟩:=aJ.mp R;obtain⟨U,I,rfl⟩:=aJ.mp hr;obtain⟨us,M,rfl⟩:=aJ.mp I;rw[Lr,Rat.num_intCast];obtain⟨Z,Y⟩:=h.DK us M;have:=Wf (n:=2*k+2*tb+15) (zs:=us.map fun m=>ZV (Aq uss) g.2 (Ae uss) m g.1) (by rw[List.length_map];lia) fun z hz=>by
  obtain⟨m,hm,rfl⟩:=aJ.mp hz;obtain⟨f1,f2,f3,f4,f5,f6⟩:=Y m hm;have n1:=FM.Ax f1.1 (aL (FM.A3 (Aq uss) (m.2.den:Int)) b2);have n2:(g.2^(Ae uss-(A7 m).toNat)).natAbs<2^(k*2+1):=CG (p:=2) hk (by lia);obtain⟨n3,_⟩:=Mx m.1 g.1 (fun p hp=>(f4 p hp).1) ht;have n4:=FM.Ax (FM.Ax n1 n2) n3;refine FM.A6 n4 ?_;have hs:m.1.sum.toNat<=2:=by unfold A7 at f6;lia
  have:=aV tb hs
  lia
 exact FM.A6 this (by lia)
theorem NR{qs:List Rat}{h:Rat}{B:Int}{I:Nat}(U:∀q∈qs,FM.Fits q 6)(R:qs.length<=3)(hf:FM.Fits h 6)(h1:1<=B)(Y:B.natAbs<2^I):1<=Fu qs h B/\(Fu qs h B).natAbs<2^(I+25):=by
 obtain⟨M,g,_⟩:=FI (F5 U);have M:1<=CV (EL qs):=M;have g:(CV (EL qs)).natAbs<2^19:=FM.A6 g (by rw[List.length_map];lia);have hd:=h.den_nz;refine⟨?_,?_⟩
 .have:0<CV (EL qs)*(h.den:Int)*B:=bw (bw (by lia) (by lia)) (by lia);exact this
 .have:=FM.Ax (FM.Ax (m:=19) g hf.d) Y;exact FM.A6 this (by lia)
theorem Xz{rs:List Rat}{h:Rat}{bot:Int}{g sb n:Nat}(U:∀r∈rs,FM.Fits r 3)(hf:FM.Fits h 6)(hb:bot.natAbs<2^g):∀(zs:List (Rat×Pl)),zs.length<=n->(∀z∈zs,FM.Fits z.1 6/\∀t∈z.2.1,t.natAbs<2^sb)->∀t∈G9 rs zs h bot,t.natAbs<(n+1)*2^(12+g+sb):=fun zs=>by
 have gen:∀(zs:List (Rat×Pl)) (j:Nat) (ts:List Int),(∀t∈ts,t.natAbs<(j+1)*2^(12+g+sb))->(∀z∈zs,FM.Fits z.1 6/\∀t∈z.2.1,t.natAbs<2^sb)->∀t∈zs.foldl (stepT bot h) ts,t.natAbs<(j+zs.length+1)*2^(12+g+sb):=fun zs=>by
  induction zs with
  |nil=>intro j ts Y _;exact Y
  |cons z zs ih=>
   intro j ts Y h2;rw[List.foldl_cons];have:=ih (j+1) (stepT bot h ts z) (fun t I=>by
    unfold stepT at I;obtain⟨i,hi⟩:=aa I;rw[List.getElem?_zipWith]at hi;cases R:ts[i]? with
    |none=>rw[R]at hi;cases hi
    |some tv=>
     cases M:z.2.1[i]? with
     |none=>rw[R,M]at hi;cases hi
     |some Z=>
      rw[R,M]at hi;cases hi;obtain⟨fz,tz⟩:=h2 z aR;have a1:=Y tv (aI R);have a2:(Fb bot h z.1 z.2.2).natAbs<2^(6+6+g):=FM.Ax (FM.Ax fz.1 hf.1) (aL (FM.A3 _ _) hb);have a3:=FM.Ax a2 (tz Z (aI M));have a4:=Int.natAbs_add_le tv (Fb bot h z.1 z.2.2*Z);have e1:(j+1+1)*2^(12+g+sb)=(j+1)*2^(12+g+sb)+2^(12+g+sb):=Nat.succ_mul _ _;rw[e1];exact aL a4 (Nat.add_lt_add a1 a3)) fun y M=>h2 y (aM _ M)
   rw[List.length_cons,show j+(zs.length+1)+1=j+1+zs.length+1 by lia];exact this
 intro hl hz t I;have:=gen zs 0 (BI rs bot) (fun t I=>by
  obtain⟨r,hr,rfl⟩:=aJ.mp I;have a:=FM.Ax (U r hr).1 (aL (FM.A3 bot (r.den:Int)) hb);rw[Nat.zero_add,Nat.one_mul];exact FM.A6 a (by lia)) hz t I
 refine aN this (bW _ (by lia))
def kS:Nat->Nat
 |0=>6
 |i+1=>2*kS i+32
def tS:Nat->Nat
 |0=>9
 |i+1=>4*kS i+2*tS i+66
def Nz(uss:List (List AV))(rs:List Rat)(h:Rat)(st:List Pl×Pl)(row:List Rat):List Pl×Pl :=
 (st.1++[A5 uss st.2],(G9 rs (row.zip (st.1++[A5 uss st.2])) h (Fu row h (A5 uss st.2).2),Fu row h (A5 uss st.2).2))
def eF(rs:List Rat):List Pl×Pl:=([],(BI rs (AW rs),AW rs))
def D9(uss:List (List AV))(rs:List Rat)(h:Rat)(rows:List (List Rat)):List Pl×Pl:=rows.foldl (Nz uss rs h) (eF rs)
structure L5(many i:Nat)(st:List Pl×Pl):Prop where
 len:st.1.length=i
 sp:∀s∈st.1,s.1.length=many/\1<=s.2/\s.2.natAbs<2^kS i/\∀t∈s.1,t.natAbs<2^tS i
 one:1<=st.2.2
 bot:st.2.2.natAbs<2^kS i
 tl:st.2.1.length=many
 DX:∀t∈st.2.1,t.natAbs<2^tS i
structure N5(i:Nat)(row:List Rat):Prop where
 len:row.length=i+1
 fit:∀q∈row,FM.Fits q 6
theorem Wb{uss:List (List AV)}{g:Pl}:(A5 uss g).1.length=uss.length:=by
 unfold A5 DC BZ;rw[List.length_map,List.length_map,List.length_map]
theorem KL{uss:List (List AV)}{many i:Nat}{st:List Pl×Pl}(ch:EV uss many)(M:uss.length=many)(hm:many<=4)(v:L5 many i st):∀s∈st.1++[A5 uss st.2],s.1.length=many/\1<=s.2/\s.2.natAbs<2^(2*kS i+7)/\∀t∈s.1,t.natAbs<2^(2*kS i+2*tS i+19):=fun s g=>by
 rcases aS.mp g with g|g
 .obtain⟨a,b,c,d⟩:=v.sp s g;exact⟨a,b,FM.A6 c (by lia),fun t I=>FM.A6 (d t I) (by lia)⟩
 .rw[List.mem_singleton.mp g];obtain⟨a,b⟩:=Ij ch v.one v.bot;exact⟨by rw[Wb,M],a,b,Uz ch hm v.bot v.DX⟩
theorem YV{uss:List (List AV)}{many i:Nat}{st:List Pl×Pl}{rs:List Rat}{h:Rat}{row:List Rat}(ch:EV uss many)(hl:uss.length=many)(hm:many<=4)(U:rs.length=many)(Y:∀r∈rs,FM.Fits r 3)(hf:FM.Fits h 6)(v:L5 many i st)(hi:i<3)(M:N5 i row):L5 many (i+1) (Nz uss rs h st row):=by
 have sa:=KL ch hl hm v;obtain⟨a,b⟩:=Ij ch v.one v.bot;obtain⟨l1,Z⟩:=NR (qs:=row) (h:=h) M.fit (by rw[M.len];lia) hf a b;have I:(st.1++[A5 uss st.2]).length=i+1:=by simp[v.len]
 have hz:(row.zip (st.1++[A5 uss st.2])).length<=7:=by rw[List.length_zip,I,M.len,Nat.min_self];lia
 have tp:=Xz (rs:=rs) (h:=h) (n:=7) (sb:=2*kS i+2*tS i+19) Y hf Z (row.zip (st.1++[A5 uss st.2])) hz fun z g=>⟨M.fit z.1 (bC g).1,(sa z.2 (bC g).2).2.2.2⟩;refine⟨I,fun s hs=>?_,l1,FM.A6 Z (by show _<=2*kS i+32;lia),Rm U _ fun z g=>(sa z.2 (bC g).2).1,fun t R=>?_⟩
 .obtain⟨c1,c2,c3,c4⟩:=sa s hs;exact⟨c1,c2,FM.A6 c3 (by show _<=2*kS i+32;lia),fun t R=>FM.A6 (c4 t R) (by show _<=4*kS i+2*tS i+66;lia)⟩
 .have:=tp t R;refine aN this ?_;show(7+1)*2^_<=2^(4*kS i+2*tS i+66);rw[show(7+1:Nat)=2^3 from rfl,<-Nat.pow_add];exact bD (by decide) (by lia)
theorem T9{t:Tb}(o:t.Ok 4)(hf:∀r∈AJ t,∀q∈r,FM.Fits q 6):(AJ t).length=t.rs.length/\∀(i:Nat) r,(AJ t)[i]? = some r->N5 i r:=by
 have R:=o.one;refine⟨by unfold AJ;rw[List.length_append,List.length_drop,List.length_singleton];lia,fun i r g=>⟨?_,hf r (aI g)⟩⟩;unfold AJ at g;by_cases hi:i<(t.rs.drop 1).length
 .rw[List.getElem?_append_left hi,List.getElem?_drop]at g;have:=o.row _ _ g
  lia
 .rw[List.getElem?_append_right (by lia)]at g;have I:=(aB.mp g).1;rw[List.length_singleton]at I;rw[List.length_drop]at hi I;have M:i=t.rs.length-1:=by lia
  rw[show i-(t.rs.drop 1).length=0 by rw[List.length_drop];lia]at g;cases g;rw[o.last]
  lia
theorem ZJ{i:Nat}(h:i<=3):kS i<=400/\(i<=2->tS i<=1300)/\(i<=2->kS i<=300):=by
 match i,h with
 |0,_=>exact⟨by decide,fun _=>by decide,fun _=>by decide⟩
 |1,_=>exact⟨by decide,fun _=>by decide,fun _=>by decide⟩
 |2,_=>exact⟨by decide,fun _=>by decide,fun _=>by decide⟩
 |3,_=>exact⟨by decide,fun h=>absurd h (by decide),fun h=>absurd h (by decide)⟩
theorem Zy{rs:List Rat}{many:Nat}(M:rs.length=many)(g:∀r∈rs,FM.Fits r 3/\r.den<=6):L5 many 0 (eF rs):=by
 obtain⟨a,b⟩:=ZR (bs:=rs.map fun r=>(r.den:Int)) fun b I=>by
  obtain⟨r,R,rfl⟩:=aJ.mp I;have:=r.den_nz;have:=(g r R).2;exact⟨by lia,by lia⟩
 have I:(AW rs).natAbs<2^6:=by show(CV _).natAbs<_;lia
 refine⟨rfl,fun s Y=>(ab Y).elim,a,I,by show(BI rs _).length=_;unfold BI;rw[List.length_map];exact M,fun t U=>?_⟩;obtain⟨r,R,rfl⟩:=aJ.mp U;exact FM.Ax (g r R).1.1 (aL (FM.A3 _ _) I)
def Vu:Sp:=fun vs H Q _=>∃(I:V) (C S M:Addr) (t:Tb) (cs xs:List V) (uss:List (List AV)) (rs:List Rat) (h:Rat) (many:Nat),vs=[I,.ref C,.ref S,.ref M]/\DU H (Bn t) I/\t.Ok 4/\t.rs.length<=3/\(∀r∈AJ t,∀q∈r,FM.Fits q 6)/\Jk H C cs uss 3/\EV uss many/\Iu (.list (uss.map CP))=true/\uss.length=many /\
 H S=some (.lst xs)/\Am H (AR rs) xs/\rs.length=many/\(∀r∈rs,FM.Fits r 3/\r.den<=6)/\1<=many/\many<=4/\H M=some (.tup (Gd h))/\FM.Fits h 6/\∀D H' g,AG H H'->H D=none->H' D=some (.lst g)->Am H' (AR ((D9 uss rs h (AJ t)).2.1.map fun a=>Rat.divInt a (D9 uss rs h (AJ t)).2.2)) g->Q (.ref D) H'
theorem KI{uss:List (List AV)}{rs:List Rat}{h:Rat}{rows:List (List Rat)}{i:Nat}{row:List Rat}(g:rows[i]? = some row):D9 uss rs h (rows.take (i+1))=Nz uss rs h (D9 uss rs h (rows.take i)) row:=by
 unfold D9;rw[List.take_add_one,g];show List.foldl _ _ (rows.take i++[row])=_;rw[List.foldl_append]
 rfl
theorem Lq{uss:List (List AV)}{many:Nat}{rs:List Rat}{h:Rat}{rows:List (List Rat)}(ch:EV uss many)(U:uss.length=many)(hm:many<=4)(g:rs.length=many)(I:∀r∈rs,FM.Fits r 3/\r.den<=6)(hf:FM.Fits h 6)(Y:rows.length<=3)(R:∀(i:Nat) r,rows[i]? = some r->N5 i r):∀i,i<=rows.length->L5 many i (D9 uss rs h (rows.take i))
 |0,_=>Zy g I
 |i+1,hi=>by
  have M:rows[i]? = some (rows[i]'(by lia)):=aF _;rw[KI M];exact YV ch U hm g (fun r M=>(I r M).1) hf (Lq ch U hm g I hf Y R i (by lia)) (by lia) (R i _ M)
theorem Tp{c:Addr}{I:List V}{H:Hp}(g:H c=some (.lst I)):∀ {rs:List (List Rat)} {zs:List V},Am H (BF rs) zs->(∀y∈zs,y≠.ref c)->AQ c H (BF rs) zs
 |[],zs,h,_=>by
  have:=h.len;rw[show BF []=[] from rfl,List.length_nil]at this;rw[List.eq_nil_of_length_eq_zero this];exact .nil
 |r::rs,zs,h,n=>by
  obtain⟨x,t,rfl,U,R⟩:=Am.UN h;obtain⟨a,xs,rfl,ha,dx⟩:=DU.Jm U;exact .cons (XZ g (fun z=>n (.ref a) aR (by rw[z])) ha dx) (Tp g R fun y M=>n y (aM _ M))
theorem gf{H:Hp}{c p T:Addr}{M:List V}{s:Pl}(I:H c=some (.lst M))(n:T≠c)(pv:Fh H p T s.1 s.2):Dt c H (T1 s) (.ref p):=by
 have g:∀ps:List Int,AQ c H (ps.map .int) (ps.map V.int):=fun ps=>by
  induction ps with
  |nil=>exact .nil
  |cons p ps R=>exact .cons .int R
 exact .tup (fun z=>by subst z;rw[pv.at_]at I;cases I) pv.at_ (.cons (.lst n pv.DX (g _)) (.cons .int .nil))
section
variable{P:Program}{w:World}{K:PySem.W.Frag}{mg:Str->Option Value}{base:Heap}{f g1 g2 g3 g4 g5 g6 g7:Addr}{fd gd1 gd2 gd3 gd4 gd5 gd6 gd7:FuncData}
theorem Vc:Ab ["table","change","start","length","grain","place","speeds","row"] ["table","change","start","length"] (AN Ji):=⟨rfl,rfl,rfl,by decide +kernel,rfl,by decide +kernel,by decide +kernel⟩
theorem VO(F:Fn K mg "step_to" Ji ["table","change","start","length"] f fd)(B5:Fn K mg "refuse_no_step" ER ["table","change","start"] g1 gd1)(EK:Fn K mg "grain_of" IH ["start"] g2 gd2)(Bx:Fn K mg "tops_over" FX ["some","bottom"] g3 gd3)(B4:Fn K mg "rows_that_read" EU ["table"] g4 gd4)(HQ:Fn K mg "speeds_at" Jq ["change","place"] g5 gd5)(KW:Fn K mg "led_to" Mc ["start","row","speeds","length"] g6 gd6)(Bm:Fn K mg "fraction_of" Eb ["top","bottom"] g7 gd7)
 (F4:AL P w K mg base AY 8 g1 gd1 ["table","change","start"] NG)(Kn:AL P w K mg base AY 8 g2 gd2 ["start"] OY)(Eh:AL P w K mg base AY 8 g3 gd3 ["some","bottom"] Ny)(Fz:AL P w K mg base AY 8 g4 gd4 ["table"] OP)(TF:AL P w K mg base AY 8 g5 gd5 ["change","place"] R9)(YT:AL P w K mg base AY 8 g6 gd6 ["start","row","speeds","length"] ZX)(Ed:AL P w K mg base AY 8 g7 gd7 ["top","bottom"] M3):AL P w K mg base AY 9 f fd ["table","change","start","length"] Vu:=by
 have sc:=Vc;refine F.F.ok (k:=8) sc (fun vs H Q E h=>?_) (fun cdv A outer s H vs Q E g h=>?_)
 .obtain⟨vt,C,S,Ln,t,cs,xs,uss,rs,h,many,rfl,_⟩:=h
  rfl
 obtain⟨vt,C,S,Ln,t,cs,xs,uss,rs,h,many,rfl,dt,ot,ht3,hrd,ch,co,hcd,hul,hS,dx,hrl,hrf,hm1,Z,hLn,hf,q⟩:=h;obtain⟨I,hro⟩:=T9 ot hrd;have ho4:=ot.most;have inv:=Lq (rows:=AJ t) co hul Z hrl hrf hf (by lia) hro;obtain⟨_,gb⟩:=(⟨(inv 0 (by lia)).one,(inv 0 (by lia)).bot⟩:1<=AW rs/\(AW rs).natAbs<2^6);refine⟨_,(AD (Bu (AX B5 F4 g rfl (AA (pv 0) (AA (pv 1) (AA (pv 2) AB)))))
 (AD (AU (i:=4) sc.nd rfl (Or.inl rfl) (AX EK Kn g rfl (AA (pv 2) AB)))
 (AD (AU (i:=5) sc.nd rfl (Or.inr rfl) (EE (AA (AX Bx Eh g rfl (AA (pv 2) (AA (pv 4) AB))) (AA (pv 4) AB))))
 (AD (AU (i:=6) sc.nd rfl (Or.inl rfl) (CA AB))
 (AD (BU aP rfl (Av (AX B4 Fz g rfl (AA (pv 0) AB))) (An (i:=7) sc.nd rfl (Or.inl rfl))
  (AD (Bu (GN ai ax ay C6 (pv 6) (AA (AX HQ TF g rfl (AA (pv 1) (AA (pv 5) AB))) AB)))
  (AF (AU (i:=5) sc.nd rfl (Or.inr rfl) (AX KW YT g rfl (AA (pv 2) (AA (pv 7) (AA (pv 6) (AA (pv 3) AB)))))))))
 (AF (Ac (Bf [".0","top","place"] 1 [none,none,some 5] (Av (Ag Ar (pv 5) AE (fun _ _=>rfl))) (fun _ _ _ _ _=>BC) (fun _ _ _ _ _=>(AX Bm Ed g rfl (AA (pv 1) (AA (Ag DD (pv 2) AE (fun _ _=>rfl)) AB)))))))))))),?_⟩
 refine⟨_,rfl,_,rfl,_,rfl,vt,C,S,t,cs,xs,uss,rs,many,rfl,dt,ot,ch,hcd,hul,hS,dx,hrl,Z,fun H1 e1=>?_⟩;refine⟨_,rfl,S,xs,rs,3,rfl,e1 _ _ hS,dx.same e1,by lia,fun r g=>(hrf r g).1,by lia,fun H2 e2=>?_⟩;have E2:=e1.trans e2;refine⟨_,rfl,_,rfl,S,xs,rs,AW rs,3,6,rfl,E2 _ _ hS,dx.same E2,by lia,fun r g=>(hrf r g).1,gb,by decide,fun T0 H3 e3 hT0n hT0=>?_⟩;have E3:=E2.trans e3;refine⟨_,rfl,BJ (show 2<=60 by decide),fun p0 hp0=>?_⟩;have e4:=AK hp0 (.tup [V.ref T0,V.int (AW rs)]);have h4:upd H3 p0 (.tup [V.ref T0,V.int (AW rs)]) p0=some (.tup [V.ref T0,V.int (AW rs)]):=AH;generalize upd H3 p0 (.tup [V.ref T0,V.int (AW rs)])=H4 at e4 h4;have E4:=E3.trans e4;have pl0:Fh H4 p0 T0 (BI rs (AW rs)) (AW rs):=⟨h4,e4 _ _ hT0⟩;refine⟨BJ (show 0<=60 by decide),fun Sp hSp=>?_⟩;have e5:=AK hSp (.lst []);have hSp5:upd H4 Sp (.lst []) Sp=some (.lst []):=AH;generalize upd H4 Sp (.lst [])=H5 at e5 hSp5;have E5:=E4.trans e5;refine⟨_,rfl,vt,t,4,rfl,dt.same E5,ot,by decide,fun D H6 rws e6 hDn hD drw=>?_⟩;have E6:=E5.trans e6;have U:=e6 _ _ hSp5;have nD:D≠Sp:=fun z=>by subst z;rw[hSp5]at hDn;cases hDn
 have hwl:rws.length=t.rs.length:=by rw[drw.len,HD,I]
 have rAt:AQ Sp H6 (BF (AJ t)) rws:=Tp U drw fun y hy z=>by
  obtain⟨i,hi⟩:=aa hy;have hil:i<(AJ t).length:=by rw[I,<-hwl];exact(aB.mp hi).1
  have g:(AJ t)[i]? = some ((AJ t)[i]' hil):=aF _;obtain⟨b,us,k1,k2,k3⟩:=KJ drw g;rw[hi,z]at k1;cases k1;rw[U]at k2;cases k2;have:=k3.len;rw[Dl,(hro i _ g).len]at this;simp at this
 have cAt:AQ Sp H6 (uss.map CP) cs:=by
  obtain⟨N,b⟩:=ch.du;exact(FY hSp ((b N (aD _)).same E4)).same (e5.trans e6)
 have ne:∀ {a:Addr} {o:HO},H4 a=some o->a≠Sp:=fun ha z=>by subst z;rw[hSp]at ha;cases ha
 have nT0:T0≠Sp:=ne pl0.DX;refine⟨D,rfl,⟨_,AO.of hD⟩,Bp (xs:=rws) (fun i σ H'=>∃(p T:Addr) (r7:Option V) (ss:List V),σ=[some vt,some (.ref C),some (.ref S),some (.ref Ln),some (.int (AW rs)),some (.ref p),some (.ref Sp),r7]/\SameBut Sp H6 H'/\H' Sp=some (.lst ss)/\ss.length=i/\AQ Sp H' ((D9 uss rs h ((AJ t).take i)).1.map T1) ss/\T≠Sp/\Fh H' p T (D9 uss rs h ((AJ t).take i)).2.1 (D9 uss rs h ((AJ t).take i)).2.2) ?_ ?_ ?_ ?_⟩
 .exact⟨p0,T0,_,[],rfl,.of (.refl _),U,rfl,.nil,nT0,pl0.same (e5.trans e6)⟩
 .rintro i σ H' _ ⟨p,T,r7,ss,rfl,e,_⟩;exact AO.of (e _ _ nD hD)
 .rintro i x σ H7 hx ⟨p,T,r7,ss,rfl,e7,R,hsl,dss,nT,pv⟩;have hi:i<(AJ t).length:=by rw[I,<-hwl];exact(aB.mp hx).1
  have g:(AJ t)[i]? = some ((AJ t)[i]' hi):=aF _;have ro:=hro i _ g;generalize (AJ t)[i]' hi=row at g ro;have Y:=inv i (by lia);have O5:=KI (uss:=uss) (rs:=rs) (h:=h) g;generalize D9 uss rs h ((AJ t).take i)=st at Y O5 dss pv;obtain⟨k1,k2,k3⟩:=ZJ (i:=i) (by lia);have sa:=KL co hul Z Y;have ch7:Jk H7 C cs uss 4:=⟨e7 _ _ (ne (E4 _ _ ch.at_)) (E6 _ _ ch.at_),B6 (.but e7 cAt),ch.len,fun us hus=>⟨(ch.DK us hus).1,fun m hm=>((ch.DK us hus).2 m hm).mono⟩⟩;refine⟨_,rfl,.inl ⟨rfl,_,AO.of R⟩,_,rfl,_,rfl,C,p,T,cs,uss,st.2.1,st.2.2,many,kS i,tS i,rfl,ch7,pv,fun us hus m hm=>?_,Y.tl,Z,Y.bot,by have:=k3 (by lia);lia,Y.DX,k2 (by lia),fun p' T' H8 e8 hT'n pv'=>?_⟩
  .obtain⟨_,_,f3,f4,f5,f6⟩:=(co.DK us hus).2 m hm;exact⟨f3,f4,f5,by lia⟩
  have hSp8:=e8 _ _ R;have nT':T'≠Sp:=fun z=>by subst z;rw[R]at hT'n;cases hT'n
  refine⟨Sp,ss,_,rfl,rfl,hSp8,Bk (n:=60) (by lia) (by decide),?_⟩;have u:SameBut Sp H8 (upd H8 Sp (.lst (ss++[.ref p']))):=.upd;have M:upd H8 Sp (.lst (ss++[.ref p'])) Sp=some (.lst (ss++[.ref p'])):=AH;have d9:AQ Sp (upd H8 Sp (.lst (ss++[.ref p']))) ((st.1++[A5 uss st.2]).map T1) (ss++[.ref p']):=by
   rw[List.map_append];exact .but u ((dss.same e8).app (.cons (gf (s:=A5 uss st.2) hSp8 nT' pv') .nil))
  have e9:SameBut Sp H6 (upd H8 Sp (.lst (ss++[.ref p']))):=(e7.trans (.of e8)).trans u;generalize upd H8 Sp (.lst (ss++[.ref p']))=H9 at u M d9 e9;obtain⟨a,us,j1,j2,j3⟩:=KJ (B6 (.but e9 rAt)) g;rw[hx]at j1;cases j1;have hlast:(st.1++[A5 uss st.2])[(st.1++[A5 uss st.2]).length-1]? = some (A5 uss st.2):=by simp
  refine⟨_,rfl,_,rfl,_,rfl,_,rfl,S,a,Sp,Ln,xs,us,ss++[.ref p'],rs,row,st.1++[A5 uss st.2],h,A5 uss st.2,many,2*kS i+7,2*kS i+2*tS i+19,rfl,e9 _ _ (ne (E4 _ _ hS)) (E6 _ _ hS),F7 U e9 (dx.same E6),hrl,Z,fun r g=>(hrf r g).1,j2,j3,ro.fit,(by rw[ro.len];lia),M,B6 d9,by rw[ro.len,List.length_append,Y.len];rfl,by rw[List.length_append,Y.len,List.length_singleton];lia,hlast,sa,by lia,by have:=k2 (by lia);lia,e9 _ _ (ne (E4 _ _ hLn)) (E6 _ _ hLn),hf,fun p2 T2 H10 e10 hT2n pv2=>?_⟩;have nT2:T2≠Sp:=fun z=>by subst z;rw[M]at hT2n;cases hT2n
  refine⟨p2,T2,_,ss++[.ref p'],rfl,e9.trans (.of e10),e10 _ _ M,by simp[hsl],?_,nT2,?_⟩
  .rw[O5];exact d9.same e10
  .rw[O5];exact pv2
 .rintro σ H7 ⟨p,T,r7,ss,rfl,e7,R,hsl,dss,nT,pv⟩;rw[List.take_of_length_le (by lia)]at pv;have Y:=inv (AJ t).length (aD _);rw[List.take_length]at Y;obtain⟨k1,_,_⟩:=ZJ (i:=(AJ t).length) (by lia);have E7:AG H H7:=fun b o z=>e7 _ _ (ne (E4 _ _ z)) (E6 _ _ z);generalize D9 uss rs h (AJ t)=st at Y pv q;have htl:=Y.tl;refine⟨_,rfl,_,_,_,_,rfl,rfl,Af.of pv.at_,rfl,T,rfl,⟨_,AO.of pv.DX⟩,fun D2 hD2=>Ba (n:=st.2.1.length) (fun j ys H'=>AG H7 H'/\ys.length=j/\Am H' (AR ((st.2.1.take j).map fun a=>Rat.divInt a st.2.2)) ys) ⟨AK hD2 _,rfl,.nil⟩ ?_ ?_⟩
  .rintro j ys H8 hj ⟨e8,hyl,dy⟩ hD8;have ht:st.2.1[j]? = some (st.2.1[j]' hj):=aF _;generalize st.2.1[j]' hj=tv at ht;have ht':(st.2.1.map V.int)[j]? = some (.int tv):=by rw[List.getElem?_map,ht];rfl
   refine⟨⟨_,.int tv,AO.of (e8 _ _ pv.DX),ht'⟩,Bk (n:=60) (by lia) (by decide),fun x H' y=>?_⟩;obtain⟨rfl,y⟩:=y;have hx:=y _ (AO.of (e8 _ _ pv.DX));rw[ht']at hx;cases hx;unfold Bj;refine BA ⟨_,rfl,_,rfl,_,_,_,_,rfl,rfl,Af.of (e8 _ _ pv.at_),rfl,tv,st.2.2,kS (AJ t).length,rfl,by have:=Y.one;lia,by lia,Y.bot,fun l H9 e9 hl=>?_⟩;have hD9:=e9 _ _ hD8;refine⟨hD9,A8 hj ⟨fun b o z=>?_,by simp[hyl],?_⟩⟩
   .rw[AI (AM z hD2)];exact e9 _ _ (e8 _ _ z)
   .rw[List.take_add_one,ht];have dn:Am H9 (AR ((st.2.1.take j++[tv]).map fun a=>Rat.divInt a st.2.2)) (ys++[.ref l]):=by
     rw[List.map_append,JV];exact(dy.same e9).app (.cons (Lp hl) .nil)
    exact F7 hD9 .upd dn
  .rintro ys H8 ⟨e8,hyl,dy⟩ hD8;rw[List.take_length]at dy;exact⟨⟨_,AO.of (e8 _ _ pv.DX),by rw[List.length_map];exact aD _⟩,q D2 H8 ys (E7.trans e8) (Cy E7 hD2) hD8 dy⟩
end
def vals(s:Pl):List Rat:=s.1.map fun a=>Rat.divInt a s.2
def CT(uss:List (List AV))(place:List Rat):List Rat:=uss.map fun us=>Cw us place
def M4(rs:List Rat)(zs:List (Rat×List Rat))(h:Rat):List Rat:=zs.foldl (fun g z=>List.zipWith (fun a v=>a+z.1*h*v) g z.2) rs
def Ly(uss:List (List AV))(rs:List Rat)(h:Rat)(sv:List (List Rat)×List Rat)(row:List Rat):List (List Rat)×List Rat :=
 (sv.1++[CT uss sv.2],M4 rs (row.zip (sv.1++[CT uss sv.2])) h)
theorem IU{a b:Int}(g:b≠0):Rat.divInt a b=(a:Rat) / (b:Rat):=Rat.divInt_eq_div a b
theorem XB{uss:List (List AV)}{many:Nat}{I:Pl}(h:EV uss many)(hl:I.1.length=many)(h1:1<=I.2):vals (A5 uss I)=CT uss (vals I):=by
 obtain⟨g1,g2,g3⟩:=h.great;obtain⟨b1,b2⟩:=h.Qu;obtain⟨_,_,Y⟩:=EN (n:=3) h.len fun us M=>⟨(h.DK us M).1,fun m hm=>((h.DK us M).2 m hm).1⟩;have Z:I.2≠0:=by lia
 have e2:(A5 uss I).2=Aq uss*I.2^Ae uss:=by
  show I.2*(Aq uss*I.2^(Ae uss-1))=_;obtain⟨g,hg⟩:∃g,Ae uss=g+1:=⟨Ae uss-1,by lia⟩;rw[hg,Nat.add_sub_cancel,Int.pow_succ];rw[Int.mul_left_comm,Int.mul_comm I.2]
 have R:Aq uss*I.2^Ae uss≠0:=bc (by lia) (Int.pow_ne_zero Z);have hq:((Aq uss*I.2^Ae uss:Int):Rat)≠0:=fun z=>R (by exact_mod_cast z);unfold vals CT;rw[e2];show(((BZ I.2 uss).map fun us=>Cw us (Dm I.1)).map fun r=>r.num).map _=_;unfold BZ;rw[List.map_map,List.map_map,List.map_map];refine aW fun us M=>?_;show Rat.divInt (Cw (Bh (Aq uss) I.2 (Ae uss) us) (Dm I.1)).num (Aq uss*I.2^Ae uss)=_;have ww:=MT (S:=Aq uss) (B:=I.2) (gr:=Ae uss) Z (ts:=I.1) (us:=us) fun m hm=>by
  obtain⟨_,_,f3,f4,f5,f6⟩:=(h.DK us M).2 m hm;have:=g3 us M m hm;exact⟨by rw[f3,hl],fun p hp=>(f4 p hp).1,by lia,Y us M m hm⟩
 have U:=Lr (Aq uss) I.2 (Ae uss) I.1 us;unfold Dm at U ⊢;rw[U,Rat.num_intCast,IU R,<-U,ww]
 grind
theorem Wg{bot:Int}{h q:Rat}{B v:Int}(hb:bot≠0)(R:B≠0)(hd:(q.den:Int)*(h.den:Int)*B ∣ bot):((Fb bot h q B*v:Int):Rat) / (bot:Rat)=q*h*Rat.divInt v B:=by
 obtain⟨c,rfl⟩:=hd;have g:(q.den:Int)≠0:=by have:=q.den_nz;lia
 have I:(h.den:Int)≠0:=by have:=h.den_nz;lia
 have M:(q.den:Int)*(h.den:Int)*B≠0:=bc (bc g I) R;have hc:c≠0:=fun z=>hb (by rw[z,Int.mul_zero]);unfold Fb;rw[FM.C5 M rfl,IU R];have Y:q=(q.num:Rat) / ((q.den:Int):Rat):=by
  have:=FM.Bc q;rw[IU g]at this;exact this.symm
 have U:h=(h.num:Rat) / ((h.den:Int):Rat):=by
  have:=FM.Bc h;rw[IU I]at this;exact this.symm
 have q1:((q.den:Int):Rat)≠0:=fun z=>g (by exact_mod_cast z);have Z:((h.den:Int):Rat)≠0:=fun z=>I (by exact_mod_cast z);have q3:(B:Rat)≠0:=fun z=>R (by exact_mod_cast z);have q4:(c:Rat)≠0:=fun z=>hc (by exact_mod_cast z);rw[Rat.intCast_mul,Rat.intCast_mul,Rat.intCast_mul,Rat.intCast_mul,Rat.intCast_mul,Rat.intCast_mul];generalize ((q.den:Int):Rat)=qd at Y q1 ⊢;generalize ((h.den:Int):Rat)=hd' at U Z ⊢;generalize (q.num:Rat)=qn at Y ⊢;generalize (h.num:Rat)=hn at U ⊢;rw[Y,U]
 grind
theorem UH{rs:List Rat}{h:Rat}{bot:Int}(I:bot≠0)(hr:∀r∈rs,(r.den:Int) ∣ bot)(zs:List (Rat×Pl))(hz:∀z∈zs,z.2.2≠0/\(z.1.den:Int)*(h.den:Int)*z.2.2 ∣ bot) :
  ((G9 rs zs h bot).map fun a=>Rat.divInt a bot)=M4 rs (zs.map fun z=>(z.1,vals z.2)) h:=by
 have gen:∀(zs:List (Rat×Pl)) (ts:List Int) (g:List Rat),(∀z∈zs,z.2.2≠0/\(z.1.den:Int)*(h.den:Int)*z.2.2 ∣ bot)->(ts.map fun a=>Rat.divInt a bot)=g ->
   ((zs.foldl (stepT bot h) ts).map fun a=>Rat.divInt a bot)=(zs.map fun z=>(z.1,vals z.2)).foldl (fun g z=>List.zipWith (fun a v=>a+z.1*h*v) g z.2) g:=fun zs=>by
  induction zs with
  |nil=>intro ts g _ e;exact e
  |cons z zs Z=>
   intro ts g R e;rw[List.foldl_cons,List.map_cons,List.foldl_cons];refine Z _ _ (fun y hy=>R y (aM _ hy)) ?_;obtain⟨Y,U⟩:=R z aR;rw[<-e];unfold stepT vals;rw[List.map_zipWith,List.zipWith_map]
   congr 1
   funext t v
   have hq:(bot:Rat)≠0:=fun z=>I (by exact_mod_cast z);rw[IU I,Rat.intCast_add,IU I,<-Wg I Y U]
   grind
 refine gen zs _ rs hz ?_;unfold BI;rw[List.map_map]
 conv=>rhs;rw[<-List.map_id rs]
 refine aW fun r M=>?_;show Rat.divInt (r.num*bot.fdiv (r.den:Int)) bot=r;rw[div_one (by have:=r.den_nz;lia) I (hr r M),FM.Bc]
structure Rel(rs:List Rat)(st:List Pl×Pl)(sv:List (List Rat)×List Rat):Prop where
 place:vals st.2=sv.2
 eo:st.1.map vals=sv.1
 dvd:∀s∈st.1,s.2 ∣ st.2.2
 start:∀r∈rs,(r.den:Int) ∣ st.2.2
theorem ib{rs:List Rat}(g:∀r∈rs,FM.Fits r 3):Rel rs (eF rs) ([],rs):=by
 obtain⟨a,_,c⟩:=FI (F5 g);have M:AW rs≠0:=by show CV _≠0;lia
 have hd:∀r∈rs,(r.den:Int) ∣ AW rs:=fun r I=>c _ (aJ.mpr ⟨r,I,rfl⟩);exact⟨UH (h:=1) M hd [] fun _ z=>(ab z).elim,rfl,fun _ z=>(ab z).elim,hd⟩
theorem Yq{uss:List (List AV)}{many i:Nat}{st:List Pl×Pl}{sv:List (List Rat)×List Rat}{rs:List Rat}{h:Rat}{row:List Rat}(ch:EV uss many)(hul:uss.length=many)(hm:many<=4)(hf:FM.Fits h 6)(v:L5 many i st)(hi3:i<3)(ro:N5 i row)(r:Rel rs st sv):Rel rs (Nz uss rs h st row) (Ly uss rs h sv row):=by
 have sa:=KL ch hul hm v;obtain⟨a,b⟩:=Ij ch v.one v.bot;obtain⟨l1,_⟩:=NR (qs:=row) (h:=h) ro.fit (by rw[ro.len];lia) hf a b;have Y:st.2.2 ∣ (A5 uss st.2).2:=Int.dvd_mul_right _ _;have g:(A5 uss st.2).2 ∣ Fu row h (A5 uss st.2).2:=Int.dvd_mul_left _ _;have I:∀s∈st.1++[A5 uss st.2],s.2 ∣ (A5 uss st.2).2:=fun s M=>by
  rcases aS.mp M with M|M
  .exact Int.dvd_trans (r.dvd s M) Y
  .rw[List.mem_singleton.mp M];exact Int.dvd_refl _
 have R:∀q∈rs,(q.den:Int) ∣ Fu row h (A5 uss st.2).2:=fun q hq=>Int.dvd_trans (r.start q hq) (Int.dvd_trans Y g);obtain⟨_,_,Z⟩:=FI (F5 (rs:=row) (n:=6) ro.fit);have U:(st.1++[A5 uss st.2]).map vals=sv.1++[CT uss sv.2]:=by
  rw[List.map_append,r.eo,List.map_singleton,XB ch v.tl v.one,r.place]
 refine⟨?_,U,fun s M=>Int.dvd_trans (I s M) g,R⟩;show((G9 rs (row.zip (st.1++[A5 uss st.2])) h (Fu row h (A5 uss st.2).2)).map fun a=>Rat.divInt a (Fu row h (A5 uss st.2).2))=M4 rs (row.zip (sv.1++[CT uss sv.2])) h;rw[UH (by lia) R _ fun z hz=>?_,<-U]
 .congr 1
  rw[List.zip_map_right];refine aW fun z _=>rfl
 .obtain⟨z1,z2⟩:=bC hz;obtain⟨_,c2,_⟩:=sa z.2 z2;refine⟨by lia,?_⟩;unfold Fu;exact Int.mul_dvd_mul (Int.mul_dvd_mul (Z _ (aJ.mpr ⟨z.1,z1,rfl⟩)) (Int.dvd_refl _)) (I _ z2)
def DV(uss:List (List AV))(rs:List Rat)(h:Rat)(rows:List (List Rat)):List (List Rat)×List Rat:=rows.foldl (Ly uss rs h) ([],rs)
theorem YW{uss:List (List AV)}{many:Nat}{rs:List Rat}{h:Rat}{rows:List (List Rat)}(ch:EV uss many)(g:uss.length=many)(hm:many<=4)(R:rs.length=many)(I:∀r∈rs,FM.Fits r 3/\r.den<=6)(hf:FM.Fits h 6)(Z:rows.length<=3)(U:∀(i:Nat) r,rows[i]? = some r->N5 i r) :
  ((D9 uss rs h rows).2.1.map fun a=>Rat.divInt a (D9 uss rs h rows).2.2)=(DV uss rs h rows).2:=by
 have all:∀i,i<=rows.length->Rel rs (D9 uss rs h (rows.take i)) (DV uss rs h (rows.take i)):=fun i=>by
  induction i with
  |zero=>intro _;exact ib fun r M=>(I r M).1
  |succ i Y=>
   intro hi;have M:rows[i]? = some (rows[i]'(by lia)):=aF _;have e:DV uss rs h (rows.take (i+1))=Ly uss rs h (DV uss rs h (rows.take i)) (rows[i]'(by lia)):=by
    unfold DV;rw[List.take_add_one,M];show List.foldl _ _ (rows.take i++[rows[i]'(by lia)])=_;rw[List.foldl_append]
    rfl
   rw[KI M,e];exact Yq ch g hm hf (Lq ch g hm R I hf Z U i (by lia)) (by lia) (U i _ M) (Y (by lia))
 have:=(all rows.length (aD _)).place;rw[List.take_length]at this;exact this
def toF(l:List Rat):Nat->Rat:=fun u=>l.getD u 0
theorem Uo(x:Rat):∀n,BK x n=x^n
 |0=>by rw[BK,Rat.pow_zero]
 |n+1=>by rw[BK,Uo x n,Rat.pow_succ]
theorem PN:∀(ps:List Int) (rs:List Rat) (a:Rat),ps.length=rs.length->(ps.zip rs).foldl (fun a z=>a*BK z.2 z.1.toNat) a=a*DN ps (toF rs)
 |[],_,a,_=>by show a=a*1;rw[Rat.mul_one]
 |p::ps,[],a,h=>by simp at h
 |p::ps,r::rs,a,h=>by
  rw[List.zip_cons_cons,List.foldl_cons,PN ps rs _ (by simpa using h)];show a*BK r p.toNat*DN ps (toF rs)=a*(toF (r::rs) 0^p.toNat*DN ps (fun u=>toF (r::rs) (u+1)));rw[Uo,Rat.mul_assoc]
  rfl
theorem Zq{ps:List Int}{rs:List Rat}(h:ps.length=rs.length):CN (ps.zip rs)=DN ps (toF rs):=(PN ps rs 1 h).trans (Rat.one_mul _)
theorem W7{uss:List (List AV)}{place:List Rat}{nn:Nat}(I:place.length=nn)(g:∀us∈uss,∀m∈us,CJ nn m.1)(u:Nat):toF (CT uss place) u=((uss.getD u []).map fun m=>m.2*DN m.1 (toF place)).sum:=by
 unfold toF CT;rw[List.getD_eq_getElem?_getD,List.getElem?_map,List.getD_eq_getElem?_getD];cases e:uss[u]? with
 |none=>rfl
 |some us=>
  show Cw us place=(us.map _).sum;unfold Cw
  congr 1
  exact aW fun m hm=>by rw[Zq ((g us (aI e) m hm).len.trans I.symm)];rfl
theorem Vy{h:Rat}{nn:Nat}:∀(zs:List (Rat×List Rat)) (rs:List Rat),rs.length=nn->(∀z∈zs,z.2.length=nn)->(M4 rs zs h).length=nn/\∀u,toF (M4 rs zs h) u=toF rs u+h*(zs.map fun z=>z.1*toF z.2 u).sum
 |[],rs,g,_=>⟨g,fun u=>by show toF rs u=toF rs u+h*0;rw[Rat.mul_zero,Rat.add_zero]⟩
 |z::zs,rs,g,I=>by
  have U:=I z (.head _);have M:(List.zipWith (fun a v=>a+z.1*h*v) rs z.2).length=nn:=by rw[List.length_zipWith,g,U,Nat.min_self]
  obtain⟨a,b⟩:=Vy (h:=h) zs _ M fun y R=>I y (.tail _ R);refine⟨a,fun u=>(b u).trans ?_⟩;have e:toF (List.zipWith (fun a v=>a+z.1*h*v) rs z.2) u=toF rs u+z.1*h*toF z.2 u:=by
   unfold toF;simp only[List.getD_eq_getElem?_getD,List.getElem?_zipWith];by_cases Y:u<nn
   .rw[List.getElem?_eq_getElem (show u<rs.length by lia),List.getElem?_eq_getElem (show u<z.2.length by lia)]
    rfl
   .rw[List.getElem?_eq_none (show rs.length<=u by lia),List.getElem?_eq_none (show z.2.length<=u by lia)];show(0:Rat)=0+z.1*h*0
    grind
  rw[e,List.map_cons,List.sum_cons];generalize (zs.map fun z=>z.1*toF z.2 u).sum=S
  grind
theorem Ub{uss:List (List AV)}{rs:List Rat}{h:Rat}{nn:Nat}(I:rs.length=nn)(g:uss.length=nn)(U:∀us∈uss,∀m∈us,CJ nn m.1) :
  ∀(rows:List (List Rat)) (sv:List (List Rat)×List Rat),(∀s∈sv.1,s.length=nn)->sv.2.length=nn->(rows.foldl (Ly uss rs h) sv).2.length=nn/\toF (rows.foldl (Ly uss rs h) sv).2=(Gh (toF rs) uss h rows (sv.1.map toF,toF sv.2)).2
 |[],sv,_,R=>⟨R,rfl⟩
 |row::rows,sv,Z,R=>by
  have M:∀s∈sv.1++[CT uss sv.2],s.length=nn:=fun s M=>by
   rcases aS.mp M with q|q
   .exact Z s q
   .rw[List.mem_singleton.mp q];unfold CT;rw[List.length_map,g]
  obtain⟨a,b⟩:=Vy (h:=h) (row.zip (sv.1++[CT uss sv.2])) rs I fun z Y=>M z.2 (bC Y).2;obtain⟨c,d⟩:=Ub (h:=h) I g U rows (Ly uss rs h sv row) M a;refine⟨c,d.trans ?_⟩;show(Gh (toF rs) uss h rows ((sv.1++[CT uss sv.2]).map toF,toF (M4 rs (row.zip (sv.1++[CT uss sv.2])) h))).2=(Gh (toF rs) uss h rows (qF (toF rs) uss h (sv.1.map toF,toF sv.2) row)).2
  congr 2
  have e:sv.1.map toF++[fun u=>((uss.getD u []).map fun m=>m.2*DN m.1 (toF sv.2)).sum]=(sv.1++[CT uss sv.2]).map toF:=by
   rw[List.map_append]
   congr 2
   funext u
   exact(W7 R U u).symm
  unfold qF;rw[e];refine Prod.ext rfl ?_
  funext u
  show toF (M4 rs (row.zip (sv.1++[CT uss sv.2])) h) u=toF rs u+h*((row.zip ((sv.1++[CT uss sv.2]).map toF)).map fun q=>q.1*q.2 u).sum;rw[b u,<-zip_map toF (fun a (s:Nat->Rat)=>a*s u)]
theorem Nj{x0:Nat->Rat}{uss:List (List AV)}{h c:Rat}:∀(rows:List (List Rat)) (z:List (Nat->Rat)×(Nat->Rat)),Gh x0 uss h (rows.map fun r=>r.map fun q=>q*c) z=Gh x0 uss (h*c) rows z
 |[],z=>rfl
 |row::rows,z=>by
  have e:qF x0 uss h z (row.map fun q=>q*c)=qF x0 uss (h*c) z row:=by
   unfold qF;refine Prod.ext rfl ?_
   funext u
   show x0 u+h*_=x0 u+h*c*_;generalize z.1++[_]=ss;have:∀(row:List Rat) (ss:List (Nat->Rat)),(((row.map fun q=>q*c).zip ss).map fun q=>q.1*q.2 u).sum=c*((row.zip ss).map fun q=>q.1*q.2 u).sum:=fun row=>by
    induction row with
    |nil=>intro ss;show(0:Rat)=c*0;rw[Rat.mul_zero]
    |cons r row g=>
     intro ss;cases ss with
     |nil=>show(0:Rat)=c*0;rw[Rat.mul_zero]
     |cons s ss=>
      rw[List.map_cons,List.zip_cons_cons,List.map_cons,List.sum_cons,g,List.zip_cons_cons,List.map_cons,List.sum_cons];generalize ((row.zip ss).map fun q=>q.1*q.2 u).sum=S
      grind
   rw[this,Rat.mul_assoc]
  show Gh x0 uss h (rows.map fun r=>r.map fun q=>q*c) (qF x0 uss h z (row.map fun q=>q*c))=Gh x0 uss (h*c) rows (qF x0 uss (h*c) z row);rw[e,Nj rows]
def Hr:Nat->PyData->Prop
 |0,d=>∃i,d=.int i
 |n+1,d=>(∃i,d=.int i)\/∃g,(d=.tuple g\/d=.list g)/\g.length<=60/\∀e∈g,Hr n e
theorem Xy{n:Nat}{ds:List PyData}(h:Hr (n+1) (.list ds)):ds.length<=60/\∀e∈ds,Hr n e:=by
 rcases h with ⟨i,z⟩|⟨cs,g,M,I⟩
 .cases z
 .rcases g with g|g
  .cases g
  .cases g;exact⟨M,I⟩
theorem YA{n:Nat}{ds:List PyData}(h:Hr (n+1) (.tuple ds)):ds.length<=60/\∀e∈ds,Hr n e:=by
 rcases h with ⟨i,z⟩|⟨cs,g,M,I⟩
 .cases z
 .rcases g with g|g
  .cases g;exact⟨M,I⟩
  .cases g
def W9(n:Nat):Sp:=fun vs H Q _=>∃d I g m,vs=[I,g]/\n=m+1/\Hr m d/\DU H d I/\DU H d g/\∀H',AG H H'->Q (.bl true) H'
section
variable{P:Program}{w:World}{K:PySem.W.Frag}{mg:Str->Option Value}{base:Heap}{f:Addr}{fd:FuncData}
theorem RE:Ab ["_law_found","_law_due"] ["_law_found","_law_due"] (AN HW):=⟨rfl,rfl,rfl,by decide +kernel,rfl,by decide +kernel,by decide +kernel⟩
theorem LX(Bv:Fn K mg "_law_same" HW ["_law_found","_law_due"] f fd)(AZ:mg "isinstance" = none)(CZ:mg "list" = none)(Bb:mg "tuple" = none)(KQ:mg "int" = none)(Ik:mg "bool" = none)(BG:mg "len" = none)(Qb:mg "all" = none)(EM:mg "zip" = none) :
  ∀n,AL P w K mg base AY n f fd ["_law_found","_law_due"] (W9 n)
 |0=>⟨fun _ _ _ _ ⟨_,_,_,_,_,h,_⟩=>absurd h (Nat.succ_ne_zero _).symm,fun _ _ _ _ _ _ _ _ _ _ _ _ _ ⟨_,_,_,_,_,h,_⟩=>absurd h (Nat.succ_ne_zero _).symm⟩
 |n+1=>by
  have sc:=RE;have C9:=LX Bv AZ CZ Bb KQ Ik BG Qb EM n;refine Bv.F.ok (k:=n) sc (fun vs H Q E h=>?_) (fun cdv A outer s H vs Q E hr h=>?_)
  .obtain⟨d,v1,v2,m,rfl,_⟩:=h
   rfl
  obtain⟨d,v1,v2,m,rfl,hm,hn,d1,d2,q⟩:=h;have hm:n=m:=by lia
  subst hm;refine⟨_,(AD (BQ (PW.pt (D6 (Bo (Ad Be rfl AZ aQ (AA (pv 1) (AA (Bt (v:=.ty "list") rfl CZ bO rfl) AB)))) (Df (Bo (Ad Be rfl AZ aQ (AA (pv 1) (AA (Bt (v:=.ty "tuple") rfl Bb bA rfl) AB)))))))
  (AD (BQ (PW.pt (D6 (Aw Fq (Ad Be rfl AZ aQ (AA (pv 0) (AA (Bt (v:=.ty "list") rfl CZ bO rfl) AB))) (Ad Be rfl AZ aQ (AA (pv 1) (AA (Bt (v:=.ty "list") rfl CZ bO rfl) AB))) (Ay _)) (Df (Aw Fq (Ad Be rfl AZ aQ (AA (pv 0) (AA (Bt (v:=.ty "tuple") rfl Bb bA rfl) AB))) (Ad Be rfl AZ aQ (AA (pv 1) (AA (Bt (v:=.ty "tuple") rfl Bb bA rfl) AB))) (Ay _)))))
   (AF (Ac CO))
   Az)
  (AD (BQ (Aw Fq (Ad BB rfl BG av (AA (pv 0) AB)) (Ad BB rfl BG av (AA (pv 1) AB)) (Ay _))
   (AF (Ac CO))
   Az)
  (AF (Ac (Ad (X6 rfl) rfl Qb PyProof.Rows.boot_all (AA (Jg [".0","_law_one","_law_other"] 1 2 [none,none,none] (Le rfl EM (AA (pv 0) (AA (pv 1) AB))) (fun _ _ _ _ _=>BC) (fun _ _ _ _ _=>(AX Bv C9 hr rfl (AA (pv 1) (AA (pv 2) AB))))) AB))))))
  Az)
 (AD (BQ (Aw XC (pv 1) Vw (Ay _))
  (AF (Ac (IW XC (pv 0) Vw (Ay _))))
  Az)
 (AF (Ac (Iw (Ad Be rfl AZ aQ (AA (pv 0) (AA (Bt (v:=.ty "int") rfl KQ PyProof.Rows.boot_int rfl) AB))) (Iw (WO (Ad Be rfl AZ aQ (AA (pv 0) (AA (Bt (v:=.ty "bool") rfl Ik PyProof.Rows.boot_bool rfl) AB)))) (K2 (IW HG (pv 0) (pv 1) (Ay _))))))))),?_⟩
  have kind:(∃i,d=.int i)\/(∃Y,d=.list Y)\/∃Y,d=.tuple Y:=by
   cases n with
   |zero=>exact .inl hn
   |succ n=>
    rcases hn with h|⟨Y,h|h,_⟩
    .exact .inl h
    .exact .inr (.inr ⟨Y,h⟩)
    .exact .inr (.inl ⟨Y,h⟩)
  rcases kind with ⟨i,rfl⟩|⟨Y,rfl⟩|⟨Y,rfl⟩
  .obtain⟨N1,I⟩:=d1;obtain⟨N2,g⟩:=d2
   replace I:=I N1 (aD _)
   replace g:=g N2 (aD _)
   have U:=I;have e2:=g;rw[Dt]at U e2;subst U e2;refine⟨_,rfl,_,_,_,_,rfl,EZ,g.ty,DM K _ g.nodict,_,rfl,DJ ⟨_,rfl,_,_,_,_,rfl,EZ,g.ty,Ds K _ g.nodict,_,rfl,DJ ?_⟩⟩;refine⟨_,rfl,rfl,_,rfl,DJ ?_⟩;refine⟨_,rfl,_,_,_,_,rfl,EZ,I.ty,RP K _ I.nodict,_,rfl,BA ⟨_,rfl,_,_,_,_,rfl,EZ,I.ty,PU K _ I.nodict,_,rfl,_,rfl,BA ⟨_,rfl,_,rfl,rfl,?_⟩⟩⟩;have:=q H (.refl H);have ed:decide (V.int i=V.int i)=true:=bU rfl;rw[<-ed]at this;exact this
  .
   obtain⟨m',rfl⟩:∃m',n=m'+1:=by
    cases n with
    |zero=>obtain⟨_,z⟩:=hn;cases z
    |succ m'=>exact⟨m',rfl⟩
   obtain⟨hlen60,hall⟩:=Xy hn;obtain⟨N1,I⟩:=d1;obtain⟨N2,g⟩:=d2;have d1:DU H (.list Y) v1:=⟨N1,I⟩;have d2:DU H (.list Y) v2:=⟨N2,g⟩
   replace I:=I N1 (aD _)
   replace g:=g N2 (aD _)
   refine⟨_,rfl,_,_,_,_,rfl,EZ,g.ty,DM K _ g.nodict,_,rfl,BA (BA ?_)⟩;refine⟨_,rfl,_,_,_,_,rfl,EZ,I.ty,DM K _ I.nodict,_,rfl,_,_,_,_,rfl,EZ,g.ty,DM K _ g.nodict,rfl,_,rfl,DJ ⟨_,rfl,_,_,_,_,rfl,EZ,I.ty,Ds K _ I.nodict,_,rfl,_,_,_,_,rfl,EZ,g.ty,Ds K _ g.nodict,rfl,_,rfl,DJ ?_⟩⟩;obtain⟨a1,xs,rfl,R,k1⟩:=d1.Jm;obtain⟨a2,ys,rfl,M,k2⟩:=d2.Jm;have l1:=k1.len;have l2:=k2.len;refine⟨_,rfl,a1,xs,rfl,.inl (AO.of R),_,rfl,a2,ys,rfl,.inl (AO.of M),rfl,_,rfl,?_⟩;have el:(!decide (V.int (xs.length:Nat)=V.int (ys.length:Nat)))=false:=by rw[l1,l2];simp
   rw[el];refine DJ ⟨_,rfl,_,rfl,false,false,a1,a2,rfl,⟨_,R⟩,⟨_,M⟩,fun D hD=>Ey (n:=xs.length) (fun i zs H'=>AG H H'/\zs=(List.replicate i true).map V.bl) ?_ ?_ ?_⟩
   .exact⟨AK hD _,rfl⟩
   .rintro i zs H1 hi ⟨U,rfl⟩ Z;have e1a:=U _ _ R;have e1b:=U _ _ M;have hx:=aF hi;have hy:=aF (l:=ys) (i:=i) (by lia);refine⟨⟨_,_,_,_,e1a,e1b,hx,hy⟩,Nat.lt_of_lt_of_le (show((List.replicate i true).map V.bl).length<60 by rw[List.length_map,List.length_replicate];lia) (by rw[sizeLine_eq];decide),fun v H' y=>?_⟩;obtain⟨p,x,z,rfl,np,rfl,q1,q2⟩:=y;have hx':=q1 _ e1a;have hy':=q2 _ e1b;rw[hx]at hx';rw[hy]at hy';cases hx';cases hy';obtain⟨e,he⟩:∃e,Y[i]? = some e:=⟨Y[i]'(by lia),by simp[show i<Y.length by lia]⟩;obtain⟨u1,w1,w2⟩:=k1.get he;obtain⟨u2,w3,w4⟩:=k2.get he;rw[hx]at w1;rw[hy]at w3;cases w1;cases w3;have sp:=AK np (.tup [xs[i],ys[i]'(by lia)]);refine⟨p,_,_,rfl,Af.of AH,?_⟩;have E:=U.trans sp;unfold Bj;refine BA ⟨_,rfl,_,rfl,e,_,_,m',rfl,rfl,hall e (aI he),w2.same E,w4.same E,fun H2 e2=>⟨e2 _ _ (sp _ _ Z),A8 hi ⟨fun c o zz=>?_,?_⟩⟩⟩
    .rw[AI (AM zz hD)];exact e2 _ _ (E _ _ zz)
    .rw[List.replicate_succ',List.map_append];rfl
   .rintro zs H1 ⟨U,rfl⟩ Z;refine⟨⟨_,_,U _ _ R,U _ _ M,.inl rfl⟩,D,_,rfl,AO.of Z,?_⟩;have:=q H1 U;have ea:(List.replicate xs.length true).all id=true:=by simp
    rw[<-ea]at this;exact this
  .
   obtain⟨m',rfl⟩:∃m',n=m'+1:=by
    cases n with
    |zero=>obtain⟨_,z⟩:=hn;cases z
    |succ m'=>exact⟨m',rfl⟩
   obtain⟨hlen60,hall⟩:=YA hn;obtain⟨N1,I⟩:=d1;obtain⟨N2,g⟩:=d2;have d1:DU H (.tuple Y) v1:=⟨N1,I⟩;have d2:DU H (.tuple Y) v2:=⟨N2,g⟩
   replace I:=I N1 (aD _)
   replace g:=g N2 (aD _)
   refine⟨_,rfl,_,_,_,_,rfl,EZ,g.ty,DM K _ g.nodict,_,rfl,DJ ⟨_,rfl,_,_,_,_,rfl,EZ,g.ty,Ds K _ g.nodict,_,rfl,BA ?_⟩⟩;refine⟨_,rfl,_,_,_,_,rfl,EZ,I.ty,DM K _ I.nodict,_,rfl,_,_,_,_,rfl,EZ,g.ty,DM K _ g.nodict,rfl,_,rfl,DJ ⟨_,rfl,_,_,_,_,rfl,EZ,I.ty,Ds K _ I.nodict,_,rfl,_,_,_,_,rfl,EZ,g.ty,Ds K _ g.nodict,rfl,_,rfl,DJ ?_⟩⟩;obtain⟨a1,xs,rfl,R,k1⟩:=d1.UK;obtain⟨a2,ys,rfl,M,k2⟩:=d2.UK;have l1:=k1.len;have l2:=k2.len;refine⟨_,rfl,a1,xs,rfl,.inr (Af.of R),_,rfl,a2,ys,rfl,.inr (Af.of M),rfl,_,rfl,?_⟩;have el:(!decide (V.int (xs.length:Nat)=V.int (ys.length:Nat)))=false:=by rw[l1,l2];simp
   rw[el];refine DJ ⟨_,rfl,_,rfl,true,true,a1,a2,rfl,⟨_,R⟩,⟨_,M⟩,fun D hD=>Ey (n:=xs.length) (fun i zs H'=>AG H H'/\zs=(List.replicate i true).map V.bl) ?_ ?_ ?_⟩
   .exact⟨AK hD _,rfl⟩
   .rintro i zs H1 hi ⟨U,rfl⟩ Z;have e1a:=U _ _ R;have e1b:=U _ _ M;have hx:=aF hi;have hy:=aF (l:=ys) (i:=i) (by lia);refine⟨⟨_,_,_,_,e1a,e1b,hx,hy⟩,Nat.lt_of_lt_of_le (show((List.replicate i true).map V.bl).length<60 by rw[List.length_map,List.length_replicate];lia) (by rw[sizeLine_eq];decide),fun v H' y=>?_⟩;obtain⟨p,x,z,rfl,np,rfl,q1,q2⟩:=y;have hx':=q1 _ e1a;have hy':=q2 _ e1b;rw[hx]at hx';rw[hy]at hy';cases hx';cases hy';obtain⟨e,he⟩:∃e,Y[i]? = some e:=⟨Y[i]'(by lia),by simp[show i<Y.length by lia]⟩;obtain⟨u1,w1,w2⟩:=k1.get he;obtain⟨u2,w3,w4⟩:=k2.get he;rw[hx]at w1;rw[hy]at w3;cases w1;cases w3;have sp:=AK np (.tup [xs[i],ys[i]'(by lia)]);refine⟨p,_,_,rfl,Af.of AH,?_⟩;have E:=U.trans sp;unfold Bj;refine BA ⟨_,rfl,_,rfl,e,_,_,m',rfl,rfl,hall e (aI he),w2.same E,w4.same E,fun H2 e2=>⟨e2 _ _ (sp _ _ Z),A8 hi ⟨fun c o zz=>?_,?_⟩⟩⟩
    .rw[AI (AM zz hD)];exact e2 _ _ (E _ _ zz)
    .rw[List.replicate_succ',List.map_append];rfl
   .rintro zs H1 ⟨U,rfl⟩ Z;refine⟨⟨_,_,U _ _ R,U _ _ M,.inl rfl⟩,D,_,rfl,AO.of Z,?_⟩;have:=q H1 U;have ea:(List.replicate xs.length true).all id=true:=by simp
    rw[<-ea]at this;exact this
end
def OD(mo many:Nat)(t:IT.Tm):Prop:=(t.1.length=many/\t.1.sum<=(mo:Int))/\(∀p∈t.1,(0:Int)<=p/\p<=3)/\∃r:Rat,t.2=[r.num,(r.den:Int)]/\r≠0/\r.num.natAbs<=6/\r.den<=6
def MU(t:IT.Tm):PyData:=.tuple [.tuple (t.1.map .int),.tuple (t.2.map .int)]
def Hg(mo many:Nat)(us:List IT.Tm):Prop:=us.length<=12/\(∀t∈us,OD mo many t)/\us.Pairwise (fun x y=>IT.lt y.1 x.1=true)
theorem Yo{κ:Type}[DecidableEq κ]{kvs:List (κ×V)}{k:κ}{v:V}{x:κ×V}(h:x∈putK kvs k v):x∈kvs\/x=(k,v):=by
 unfold putK at h;split at h
 .obtain⟨y,g,e⟩:=aJ.mp h;split at e
  .rename_i z
   right;rw[<-e,<-z]
  .left;rw[<-e];exact g
 .rcases aS.mp h with h|h
  .exact .inl h
  .exact .inr (List.mem_singleton.mp h)
theorem Vi{κ:Type}[DecidableEq κ]{kvs:List (κ×V)}{k:κ}(v:V)(h:(kvs.map (·.1)).Nodup):((putK kvs k v).map (·.1)).Nodup:=by
 cases e:CC kvs k with
 |none=>exact Zf v h e
 |some y=>
  unfold putK;rw[HA,e,if_pos (show(some y).isSome=true from rfl),List.map_map];have:(kvs.map ((fun x:κ×V=>x.1) ∘ fun kv=>if kv.1=k then(kv.1,v) else kv))=kvs.map (·.1):=by
   apply aW;intro x _;simp only[Function.comp];split<;>rfl
  rw[this];exact h
def Hs(mo many:Nat)(H:Hp)(kv:List Key×V):Prop:=∃t:IT.Tm,kv.1=t.1.map Sum.inl/\(∃c,kv.2=.ref c/\H c=some (.tup (t.2.map V.int)))/\OD mo many t
theorem Hs.step{mo many:Nat}{H H':Hp}{kv:List Key×V}(e:∀c ys,H c=some (.tup ys)->H' c=some (.tup ys))(h:Hs mo many H kv):Hs mo many H' kv:=by
 obtain⟨t,R,⟨c,M,I⟩,g⟩:=h;exact⟨t,R,⟨c,M,e _ _ I⟩,g⟩
theorem Pq{mo many:Nat}{H:Hp}:∀ {kvs:List (List Key×V)},(∀kv∈kvs,Hs mo many H kv)->∃ts:List IT.Tm,ts.length=kvs.length/\(∀t∈ts,OD mo many t)/\kvs.map (·.1)=ts.map (fun t=>t.1.map Sum.inl) /\
  ∀(j:Nat) k v t,kvs[j]? = some (k,v)->ts[j]? = some t->k=t.1.map Sum.inl/\∃c,v=.ref c/\H c=some (.tup (t.2.map V.int))
 |[],_=>⟨[],rfl,fun _ z=>(ab z).elim,rfl,fun j k v t h=>by simp at h⟩
 |kv::kvs,h=>by
  obtain⟨ts,h1,h2,h3,h4⟩:=Pq (kvs:=kvs) fun x g=>h x (aM _ g);obtain⟨t,R,Z,Y⟩:=h kv aR;refine⟨t::ts,by simp[h1],fun x g=>?_,by rw[List.map_cons,List.map_cons,h3,R],fun j k v U M I=>?_⟩
  .rcases aY.mp g with rfl|g
   .exact Y
   .exact h2 x g
  .cases j with
   |zero=>
    simp at M I;subst M I;exact⟨R,Z⟩
   |succ j=>exact h4 j k v U (by simpa using M) (by simpa using I)
theorem QQ{us ts:List IT.Tm}(U:us.Perm ts)(hn:(ts.map fun t=>t.1.map (Sum.inl:Int->Key)).Nodup)(R:us.Pairwise (fun x y=>IT.Ih.kle y x)):us.Pairwise (fun x y=>IT.lt y.1 x.1=true):=by
 have I:(us.map fun t=>t.1.map (Sum.inl:Int->Key)).Nodup:=(U.map _).nodup_iff.mpr hn;rw[List.Nodup,List.pairwise_map]at I;refine(R.and I).imp fun {x y} h=>?_;obtain⟨h1,Z⟩:=h;have g:x.1≠y.1:=fun z=>Z (by rw[z]);have M:IT.GB x y=false:=h1;unfold IT.GB at M;rw[if_neg g]at M;cases Y:IT.lt y.1 x.1 with
 |true=>rfl
 |false=>exact absurd (IT.KS _ _ M Y) g
theorem OL{c:Addr}{H:Hp}:∀(ps:List Int),AQ c H (ps.map .int) (ps.map V.int)
 |[]=>.nil
 |p::ps=>.cons .int (OL ps)
theorem Qs{c:Addr}{zc:List V}{H1 H':Hp}(e:AG H1 H')(I:H1 c=some (.lst zc)):∀ {us:List IT.Tm} {zs:List V},zs.length=us.length ->
  (∀(j:Nat) z t,zs[j]? = some z->us[j]? = some t->∃p b d,z=.ref p/\H1 p=none/\H' p=some (.tup [.ref b,.ref d])/\H1 b=some (.tup (t.1.map V.int))/\H1 d=some (.tup (t.2.map V.int)))->AQ c H' (us.map MU) zs
 |[],[],_,_=>.nil
 |[],_::_,h,_=>by simp at h
 |_::_,[],h,_=>by simp at h
 |t::us,z::zs,hl,h=>by
  obtain⟨p,b,d,rfl,Z,h2,Y,U⟩:=h 0 z t rfl rfl;have M:∀ {x:Addr} {ys:List V},H1 x=some (.tup ys)->x≠c:=fun R g=>by rw[g,I]at R;cases R
  exact .cons (.tup (fun g=>by rw[g,I]at Z;cases Z) h2 (.cons (.tup (M Y) (e _ _ Y) (OL _)) (.cons (.tup (M U) (e _ _ U) (OL _)) .nil)))
   (Qs e I (by simpa using hl) fun j z' t' hz ht=>h (j+1) z' t' (by simpa using hz) (by simpa using ht))
def WD:Sp:=fun vs H Q _=>∃(l:Addr) (x:Int) (many mo:Nat),vs=[.ref l,.int many,.int mo]/\mo<=3/\H l=some (.lst [.int x])/\1<=many/\many<=4 /\
 ∀v H' us,SameBut l H H'->Hg mo many us->(∀c g,H c=some (.lst g)->Dt c H' (.list (us.map MU)) v)->Q v H'
theorem Zh{ps:List Int}{r:Int}(h0:0<=r)(h1:r<=(ps.length:Nat)):CB (ps.map V.int) (some r) none++CB (ps.map V.int) none (some r)=(ps.drop r.toNat++ps.take r.toNat).map V.int:=by
 have e:(some r)=some ((r.toNat:Nat):Int):=by rw[show((r.toNat:Nat):Int)=r by lia]
 unfold CB;rw[e,HT.MY,HT.MY,HT.J2,HT.J2,List.length_map,Nat.min_eq_left (by lia),List.drop_zero,Nat.sub_zero,List.map_append,List.map_drop,List.map_take]
 congr 1
 rw[List.take_of_length_le (by rw[List.length_drop,List.length_map];lia)]
section
variable{P:Program}{w:World}{K:PySem.W.Frag}{mg:Str->Option Value}{base:Heap}{f g g1 g2 g4 g5:Addr}{fd gd gd1 gd2:FuncData}
theorem SY:Ab ["_law_pile","_law_many","_law_most","_law_counts","_law_count","_law_k","_law_powers","_law_left","_law_j","_law_turn","_law_part_here"] ["_law_pile","_law_many","_law_most"] (AN Jv):=⟨rfl,rfl,rfl,by decide +kernel,rfl,by decide +kernel,by decide +kernel⟩
structure Gv(H:Hp)(l C:Addr)(kvs:List (List Key×V))(mo many n:Nat)(H':Hp):Prop where
 tr:SameBut l H H'
 Gi:∃y,H' l=some (.lst [.int y])
 JW:H' C=some (.dT kvs)
 len:kvs.length<=n
 nd:(kvs.map (·.1)).Nodup
 ok:∀kv∈kvs,Hs mo many H' kv
theorem Gv.same{H:Hp}{l C:Addr}{kvs:List (List Key×V)}{mo many n:Nat}{H1 I:Hp}(g:Gv H l C kvs mo many n H1)(e:AG H1 I):Gv H l C kvs mo many n I :=
 ⟨g.tr.trans (.of e),let⟨y,h⟩:=g.Gi;⟨y,e _ _ h⟩,e _ _ g.JW,g.len,g.nd,fun kv h=>(g.ok kv h).step fun c ys=>e c _⟩
theorem Gv.take{H:Hp}{l C:Addr}{kvs:List (List Key×V)}{mo many n:Nat}{H1:Hp}(g:Gv H l C kvs mo many n H1)(M:C≠l)(y:Int):Gv H l C kvs mo many n (upd H1 l (.lst [.int y])) :=
 let⟨_,R⟩:=g.Gi
 ⟨g.tr.trans .upd,⟨y,AH⟩,by rw[AI M];exact g.JW,g.len,g.nd,fun kv h=>(g.ok kv h).step fun c ys I=>by rw[AI (fun z=>by rw[z,R]at I;cases I)];exact I⟩
theorem Gv.list{H:Hp}{l C p:Addr}{kvs:List (List Key×V)}{mo many n:Nat}{H1:Hp}{ys zs:List V}(g:Gv H l C kvs mo many n H1)(U:H p=none)(np:p≠l)(M:p≠C)(h:H1 p=some (.lst ys)):Gv H l C kvs mo many n (upd H1 p (.lst zs)) :=
 ⟨fun b o nb z=>by rw[AI (AM z U)];exact g.tr _ _ nb z,let⟨y,R⟩:=g.Gi;⟨y,by rw[AI np.symm];exact R⟩,by rw[AI M.symm];exact g.JW,g.len,g.nd,fun kv Y=>(g.ok kv Y).step fun c Z I=>by rw[AI (fun z=>by rw[z,h]at I;cases I)];exact I⟩
theorem RB(F:Fn K mg "_law_poly" Jv ["_law_pile","_law_many","_law_most"] f fd)(Bw:Fn K mg "_law_take" HK ["_law_pile","_law_size"] g1 gd1)(BO:Fn K mg "_law_part" Ek ["_law_pile"] g2 gd2)
 (Dq:AL P w K mg base AY 3 g1 gd1 ["_law_pile","_law_size"] RJ)(Cf:AL P w K mg base AY 3 g2 gd2 ["_law_pile"] J8)(BL:mg "range" = none)(HB:mg "sorted" = none)(Bb:mg "tuple" = none):AL P w K mg base AY 4 f fd ["_law_pile","_law_many","_law_most"] WD:=by
 have sc:=SY;refine F.F.ok (k:=3) sc (fun vs H Q E h=>?_) (fun cdv A outer s H vs Q E hr h=>?_)
 .obtain⟨l,x,many,mo,rfl,_⟩:=h
  rfl
 obtain⟨l,x,many,mo,rfl,hmo,hl,hm1,hm4,q⟩:=h;refine⟨_,(AD (AU (i:=3) sc.nd rfl (Or.inl rfl) Mz)
 (AD (AU (i:=4) sc.nd rfl (Or.inl rfl) (AX Bw Dq hr rfl (AA (pv 0) (AA AE AB))))
 (AD (BQ (Aw HG (pv 4) AE (Ay _))
  (AF (AU (i:=4) sc.nd rfl (Or.inl rfl) (Aa B2 (pv 4) (AX Bw Dq hr rfl (AA (pv 0) (AA AE AB))))))
  Az)
 (AD (BU aP rfl (Cp rfl BL (AA (pv 4) AB)) (An (i:=5) sc.nd rfl (Or.inl rfl))
  (AD (AU (i:=6) sc.nd rfl (Or.inl rfl) (CA AB))
  (AD (AU (i:=7) sc.nd rfl (Or.inl rfl) (pv 2))
  (AD (BU aP rfl (Cp rfl BL (AA (pv 1) AB)) (An (i:=8) sc.nd rfl (Or.inl rfl))
   (AD (Bu (GN ai ax ay C6 (pv 6) (AA (AX Bw Dq hr rfl (AA (pv 0) (AA (Aa B2 (pv 7) AE) AB))) AB)))
   (AF (AU (i:=7) sc.nd rfl (Or.inl rfl) (Aa FW (pv 7) (Ag F9 (pv 6) (QT NY AE) (fun _ _=>rfl)))))))
  (AD (AU (i:=9) sc.nd rfl (Or.inl rfl) (AX Bw Dq hr rfl (AA (pv 0) (AA (pv 1) AB))))
  (AD (AU (i:=10) sc.nd rfl (Or.inl rfl) (AX BO Cf hr rfl (AA (pv 0) AB)))
  (AF (BQ (Aw (WQ (by have:=hr.units;exact this)) (pv 10) (EE (AA AE (AA AE AB))) (Ay _))
   (AF (Oo (by have:=hr.units;exact aL (bY (show 1<=64 by decide) _) this) (pv 3) (Wq QE rfl Bb bA (AA (Aa Lg (JM Ov (pv 6) (J4 (pv 9)) KA) (JM Ov (pv 6) KA (J4 (pv 9)))) AB)) (pv 10) rfl))
   Az))))))))
 (AF (Ac (YU rfl (by have:=hr.units;exact this) rfl HB (pv 3)))))))),?_⟩
 refine fun C hC=>?_;have nC:C≠l:=(AM hl hC).symm;have Y:Gv H l C [] mo many 0 (upd H C (.dT [])):=⟨.of (AK hC _),⟨x,AK hC _ _ _ hl⟩,AH,Nat.le_refl _,List.nodup_nil,fun _ z=>(ab z).elim⟩;generalize upd H C (.dT [])=H1 at Y;obtain⟨x1,hl1⟩:=Y.Gi;refine⟨_,rfl,l,x1,5,rfl,hl1,by decide,by decide,fun cnt y0 c0 c1=>?_⟩;have Y:=Y.take nC y0;generalize upd H1 l (.lst [.int y0])=H2 at Y
 try dsimp only[C0]
 refine Gx (fun σ' H'=>∃n:Nat,n<=12/\σ'=[some (.ref l),some (.int many),some (.int mo),some (.ref C),some (.int n),none,none,none,none,none,none]/\Gv H l C [] mo many 0 H') (fun nx hnx=>?_) ?_
 .refine⟨_,rfl,rfl,_,rfl,BP (fun c=>?_) (fun c=>?_)⟩
  .obtain⟨x2,hl2⟩:=Y.Gi;have e4:cnt=4:=by simpa using c
   refine⟨_,rfl,_,rfl,l,x2,9,rfl,hl2,by decide,by decide,fun r y1 r0 r1=>⟨_,_,rfl,rfl,hnx _ _ ⟨(cnt+r).toNat,by lia,?_,Y.take nC y1⟩⟩⟩;show [some (V.ref l),some (V.int many),some (V.int mo),some (V.ref C),some (V.int (cnt+r)),none,none,none,none,none,none]=_;rw[show(((cnt+r).toNat:Nat):Int)=cnt+r by lia]
  .refine hnx _ _ ⟨cnt.toNat,by lia,?_,Y⟩;show [some (V.ref l),some (V.int many),some (V.int mo),some (V.ref C),some (V.int cnt),none,none,none,none,none,none]=_;rw[show((cnt.toNat:Nat):Int)=cnt by lia]
 rintro σ' H3 ⟨n,hn,rfl,Y⟩;refine⟨_,rfl,(n:Int),rfl,by lia,by lia,Hh (n:=(n:Int).toNat) (fun i σ H'=>∃(r5 r6 r7 r8 r9 Z:Option V) (kvs:List (List Key×V)),σ=[some (.ref l),some (.int many),some (.int mo),some (.ref C),some (.int n),r5,r6,r7,r8,r9,Z]/\Gv H l C kvs mo many i H') ?_ ?_ ?_⟩
 .exact⟨_,_,_,_,_,_,[],rfl,Y⟩
 .rintro i σ H4 hi ⟨r5,r6,r7,r8,r9,Z,kvs,rfl,g4⟩;refine⟨BJ (by decide),fun p U=>?_⟩;have hpn:H p=none:=by
   cases z:H p with
   |none=>rfl
   |some o=>
    have np:p≠l:=fun zz=>by
     obtain⟨y,hy⟩:=g4.Gi;rw[zz,hy]at U;cases U
    rw[g4.tr _ _ np z]at U;cases U
  have np:p≠l:=let⟨y,hy⟩:=g4.Gi;(AM hy U).symm;have npC:p≠C:=(AM g4.JW U).symm;have g5:=g4.same (AK U (.lst []));have h5:upd H4 p (.lst []) p=some (.lst []):=AH;generalize upd H4 p (.lst [])=H5 at g5 h5;refine⟨_,rfl,?_⟩;refine⟨_,rfl,(many:Int),rfl,by lia,by lia,Hh (n:=(many:Int).toNat) (fun j σ H'=>∃(r8:Option V) (left:Int) (ps:List Int),σ=[some (.ref l),some (.int many),some (.int mo),some (.ref C),some (.int n),some (.int (0+(i:Nat))),some (.ref p),some (.int left),r8,r9,Z]/\Gv H l C kvs mo many i H'/\H' p=some (.lst (ps.map V.int))/\ps.length=j/\(∀z∈ps,(0:Int)<=z/\z<=3)/\0<=left/\left<=3/\ps.sum+left=mo) ?_ ?_ ?_⟩
  .exact⟨_,(mo:Int),[],rfl,g5,h5,rfl,fun _ z=>(ab z).elim,by lia,by lia,by simp⟩
  .rintro j σ H6 hj ⟨r8,left,ps,rfl,g6,h6,hpl,hps,l0,l3,lsum⟩;obtain⟨x6,hl6⟩:=g6.Gi;refine⟨_,rfl,.inl ⟨rfl,_,AO.of h6⟩,_,rfl,_,rfl,_,_,rfl,rfl,l,x6,left+1,rfl,hl6,by lia,by lia,fun r y r0 r1=>?_⟩;have g7:=g6.take nC y;have h7:upd H6 l (.lst [.int y]) p=some (.lst (ps.map V.int)):=by rw[AI np];exact h6
   generalize upd H6 l (.lst [.int y])=H7 at g7 h7;refine⟨p,_,_,rfl,rfl,h7,Bk (n:=60) (by rw[List.length_map];lia) (by decide),?_⟩;have g8:=g7.list hpn np npC h7 (zs:=ps.map V.int++[.int r]);have h8:upd H7 p (.lst (ps.map V.int++[.int r])) p=some (.lst ((ps++[r]).map V.int)):=by rw[AH,List.map_append];rfl
   generalize upd H7 p (.lst (ps.map V.int++[.int r]))=H8 at g8 h8;have hat:EI ((ps++[r]).map V.int) (-1)=some (.int r):=by
    unfold EI NU;rw[if_neg (by decide),if_pos (by rw[List.length_map,List.length_append,List.length_singleton];lia)];rw[List.length_map,List.length_append,List.length_singleton,show((-1:Int)+((ps.length+1:Nat):Int)).toNat=ps.length by lia];simp
   refine⟨_,rfl,_,rfl,_,rfl,_,_,_,_,rfl,rfl,AO.of h8,hat,_,_,rfl,rfl,_,left-r,ps++[r],rfl,g8,h8,by simp[hpl],fun z I=>?_,by lia,by lia,by rw[List.sum_append,List.sum_singleton];lia⟩;rcases aS.mp I with I|I
   .exact hps z I
   .rw[List.mem_singleton.mp I];exact⟨r0,by lia⟩
  .rintro σ H6 ⟨r8,left,ps,rfl,g6,h6,hpl,hps,l0,l3,lsum⟩;obtain⟨x6,hl6⟩:=g6.Gi;refine⟨_,rfl,_,rfl,l,x6,(many:Int),rfl,hl6,by lia,by lia,fun turn y t0 t1=>?_⟩;have g7:=g6.take nC y;have h7:upd H6 l (.lst [.int y]) p=some (.lst (ps.map V.int)):=by rw[AI np];exact h6
   generalize upd H6 l (.lst [.int y])=H7 at g7 h7;obtain⟨x7,hl7⟩:=g7.Gi;refine⟨_,rfl,l,x7,rfl,hl7,fun c fr y8 H8 e8 hc r6 d6=>?_⟩;have g8:=(g7.take nC y8).same e8;have h8:H8 p=some (.lst (ps.map V.int)):=e8 _ _ (by rw[AI np];exact h7);obtain⟨ta,R⟩:∃ta,ta=fr.num:=⟨_,rfl⟩;obtain⟨tb,M⟩:∃tb,tb=(fr.den:Int):=⟨_,rfl⟩
   replace hc:H8 c=some (.tup [.int ta,.int tb]):=by rw[R,M];exact hc
   refine⟨_,rfl,BJ (show 2<=60 by decide),fun q0 hq=>?_⟩;have e9:=AK hq (.tup [.int 0,.int 1]);have hq9:upd H8 q0 (.tup [.int 0,.int 1]) q0=some (.tup [.int 0,.int 1]):=AH;generalize upd H8 q0 (.tup [.int 0,.int 1])=H9 at e9 hq9;have g9:=g8.same e9;have h9:=e9 _ _ h8;have hc9:=e9 _ _ hc;have sh:∀a b:Int,SeqAt.shaped (.tuple [.int a,.int b])=true:=fun a b=>(Sm.tup (n:=0) (ds:=[.int a,.int b]) (show 2<=60 by decide) (fun x hx=>by
    rcases aY.mp hx with rfl|hx
    .trivial
    .rw[List.mem_singleton.mp hx];trivial)).ok.shaped (by decide)
   obtain⟨x9,hl9⟩:=g9.Gi;have ntl:∀ {b:Addr} {ys:List V},H9 b=some (.tup ys)->b≠l:=fun hb z=>by rw[z,hl9]at hb;cases hb
   refine⟨.tuple [.int ta,.int tb],.tuple [.int 0,.int 1],(Dt.tup (ntl hc9) hc9 (.cons .int (.cons .int .nil))).br,(Dt.tup (ntl hq9) hq9 (.cons .int (.cons .int .nil))).br,sh _ _,sh _ _,_,rfl,BP (fun b=>?_) (fun b=>?_)⟩
   .have hfr0:fr≠0:=fun z=>by
     have e1:ta=0:=by rw[R,z];rfl
     have e2:tb=1:=by rw[M,z];rfl
     subst e1 e2;exact absurd b (by simp[PyData.eqv,PyData.eqvAll])
    refine⟨_,rfl,_,rfl,_,rfl,_,rfl,_,rfl,p,_,rfl,AO.of h9,fun p1 hp1=>?_⟩;have ea:=AK hp1 (.lst (CB (ps.map V.int) (some turn) none));have ha1:upd H9 p1 (.lst (CB (ps.map V.int) (some turn) none)) p1=some (.lst (CB (ps.map V.int) (some turn) none)):=AH;generalize upd H9 p1 (.lst (CB (ps.map V.int) (some turn) none))=Ha at ea ha1;refine⟨_,rfl,_,rfl,_,rfl,p,_,rfl,AO.of (ea _ _ h9),fun p2 hp2=>?_⟩;have eb:=AK hp2 (.lst (CB (ps.map V.int) none (some turn)));have hb2:upd Ha p2 (.lst (CB (ps.map V.int) none (some turn))) p2=some (.lst (CB (ps.map V.int) none (some turn))):=AH;generalize upd Ha p2 (.lst (CB (ps.map V.int) none (some turn)))=Hb at eb hb2;refine⟨p1,p2,_,_,rfl,rfl,eb _ _ ha1,hb2,?_,fun p3 hp3=>?_⟩
    .have z1:=Ej (ps.map V.int) (some turn) none;have z2:=Ej (ps.map V.int) none (some turn);rw[List.length_map]at z1 z2;exact BJ (by lia)
    rw[Zh t0 (by lia)]at *;have ec:=AK hp3 (.lst ((ps.drop turn.toNat++ps.take turn.toNat).map V.int));have hc3:upd Hb p3 (.lst ((ps.drop turn.toNat++ps.take turn.toNat).map V.int)) p3=some (.lst ((ps.drop turn.toNat++ps.take turn.toNat).map V.int)):=AH;generalize upd Hb p3 (.lst ((ps.drop turn.toNat++ps.take turn.toNat).map V.int))=Hc at ec hc3;refine⟨p3,_,rfl,.inl ⟨AO.of hc3,fun p4 hp4=>?_⟩⟩;have ed:=AK hp4 (.tup ((ps.drop turn.toNat++ps.take turn.toNat).map V.int));have hd4:upd Hc p4 (.tup ((ps.drop turn.toNat++ps.take turn.toNat).map V.int)) p4=some (.tup ((ps.drop turn.toNat++ps.take turn.toNat).map V.int)):=AH;generalize upd Hc p4 (.tup ((ps.drop turn.toNat++ps.take turn.toNat).map V.int))=Hd at ed hd4;have E:=ea.trans (eb.trans (ec.trans ed));have gd:=g9.same E;have hcd:=E _ _ hc9;refine⟨C,_,rfl,Mf.t gd.JW (k:=(ps.drop turn.toNat++ps.take turn.toNat).map Sum.inl) (by rw[RM];exact hd4) (Bk (n:=60) (by have:=gd.len;lia) (by decide)),?_⟩;have hCn:∀c ys,Hd c=some (.tup ys)->c≠C:=fun c ys hh z=>by rw[z,gd.JW]at hh;cases hh
    refine⟨_,_,_,_,_,_,_,rfl,⟨fun b o nb z=>by rw[AI (AM z hC)];exact gd.tr _ _ nb z,let⟨y,hy⟩:=gd.Gi;⟨y,by rw[AI nC.symm];exact hy⟩,AH,Nat.le_trans (Jz _ _ _) (Nat.succ_le_succ gd.len),Vi _ gd.nd,fun kv hk=>?_⟩⟩;rcases Yo hk with hk|rfl
    .exact(gd.ok kv hk).step fun c ys hh=>by rw[AI (hCn c ys hh)];exact hh
    .refine⟨(ps.drop turn.toNat++ps.take turn.toNat,[ta,tb]),rfl,⟨c,rfl,by rw[AI (hCn _ _ hcd)];exact hcd⟩,?_,fun z I=>?_,fr,by rw[R,M],hfr0,r6,d6⟩
     .refine⟨by simp only[List.length_append,List.length_drop,List.length_take];lia,?_⟩;show(ps.drop turn.toNat++ps.take turn.toNat).sum<=(mo:Int);have es:(ps.take turn.toNat++ps.drop turn.toNat).sum=ps.sum:=by rw[List.take_append_drop]
      rw[List.sum_append]at es;rw[List.sum_append]
      lia
     .rcases aS.mp I with I|I
      .exact hps z (bh I)
      .exact hps z (bg I)
   .exact⟨_,_,_,_,_,_,kvs,rfl,⟨g9.tr,g9.Gi,g9.JW,Nat.le_succ_of_le g9.len,g9.nd,g9.ok⟩⟩
 .rintro σ H4 ⟨r5,r6,r7,r8,r9,Z,kvs,rfl,g4⟩;obtain⟨ts,k1,k2,k3,k4⟩:=Pq g4.ok;have hlen:=g4.len;refine⟨_,rfl,C,kvs,ts,rfl,g4.JW,by lia,k1,k4,fun D H' zs us e hD hD' U hs hzl I=>?_⟩;obtain⟨y4,hl4⟩:=g4.Gi;refine q _ H' us (g4.tr.trans (.of e)) ⟨by rw[U.length_eq,k1];lia,fun t ht=>k2 t (U.mem_iff.mp ht),QQ U (by rw[<-k3];exact g4.nd) hs⟩ fun c zc hc=>?_;have hc4:∃zc',H4 c=some (.lst zc'):=by
   by_cases z:c=l
   .subst z;exact⟨_,hl4⟩
   .exact⟨_,g4.tr _ _ z hc⟩
  obtain⟨zc',hc4⟩:=hc4;exact .lst (AM hc4 hD).symm hD' (Qs e hc4 hzl I)
end
def HZ(us:List IT.Tm):PyData:=.list (us.map MU)
def SW(K:PySem.W.Frag):Sp:=fun vs H Q _=>∃(a:Addr) (ns:List Int) (many mo:Nat),vs=[.ref a,.int 1,.int many,.int mo]/\mo<=3/\AO K H a (ns.map V.int)/\1<=many/\many<=4 /\
 ∀v H' (uss:List (List IT.Tm)),AG H H'->uss.length=many->(∀us∈uss,Hg mo many us)->DU H' (.list (uss.map HZ)) v->Q v H'
def Gn(t:IT.Tm):AV:=(t.1,Rat.divInt (t.2.getD 0 0) (t.2.getD 1 1))
theorem Ry{mo many:Nat}{t:IT.Tm}(ok:OD mo many t):MU t=DR (Gn t)/\FM.Fits (Gn t).2 3/\(Gn t).2.den<=6/\(Gn t).2≠0:=by
 obtain⟨_,_,r,I,R,M,g⟩:=ok;have e:(Gn t).2=r:=by
  unfold Gn;rw[I];exact FM.Bc r
 refine⟨?_,?_,by rw[e];exact g,by rw[e];exact R⟩
 .unfold MU DR;rw[e,I]
  rfl
 .rw[e];exact⟨aL M (by decide),Nat.lt_of_le_of_lt g (by decide)⟩
theorem Nm:∀ {ps:List Int},(∀p∈ps,0<=p)->0<=ps.sum
 |[],_=>by simp
 |p::ps,h=>by
  have:=Nm (ps:=ps) fun y g=>h y (aM _ g);have:=h p aR;rw[List.sum_cons]
  lia
theorem UI{mo many:Nat}{us:List IT.Tm}(ok:Hg mo many us):HZ us=CP (us.map Gn):=by
 unfold HZ CP;rw[List.map_map]
 congr 1
 exact aW fun t g=>(Ry (ok.2.1 t g)).1
section
variable{P:Program}{w:World}{K:PySem.W.Frag}{mg:Str->Option Value}{base:Heap}{f g1 g2:Addr}{fd gd1 gd2:FuncData}
theorem Oz:Ab ["_law_script","_law_start_here","_law_many","_law_most"] ["_law_script","_law_start_here","_law_many","_law_most"] (AN Hn):=⟨rfl,rfl,rfl,by decide +kernel,rfl,by decide +kernel,by decide +kernel⟩
theorem OC(F:Fn K mg "_law_change" Hn ["_law_script","_law_start_here","_law_many","_law_most"] f fd)(BN:Fn K mg "_law_cell" Fc ["_law_script","_law_k"] g1 gd1)(HH:Fn K mg "_law_poly" Jv ["_law_pile","_law_many","_law_most"] g2 gd2)
 (CD:AL P w K mg base AY 4 g1 gd1 ["_law_script","_law_k"] (Lx K))(TB:AL P w K mg base AY 4 g2 gd2 ["_law_pile","_law_many","_law_most"] WD)(BL:mg "range" = none):AL P w K mg base AY 5 f fd ["_law_script","_law_start_here","_law_many","_law_most"] (SW K):=by
 have sc:=Oz;refine F.F.ok (k:=4) sc (fun vs H Q E h=>?_) (fun cdv A outer s H vs Q E hr h=>?_)
 .obtain⟨a,ns,many,mo,rfl,_⟩:=h
  rfl
 obtain⟨a,ns,many,mo,rfl,hmo,hS,hm1,hm4,q⟩:=h;refine⟨_,(AF (Ac (Bf [".0","_law_k","_law_many","_law_most","_law_script","_law_start_here"] 1 [none,none,some 2,some 3,some 0,some 1] (Cp rfl BL (AA (pv 2) AB)) (fun _ _ _ _ _=>BC) (fun _ _ _ _ _=>(AX HH TB hr rfl (AA (CA (AA (AX BN CD hr rfl (AA (pv 4) (AA (Aa B2 (pv 5) (pv 1)) AB))) AB)) (AA (pv 2) (AA (pv 3) AB)))))))),?_⟩;refine⟨_,rfl,(many:Int),rfl,by lia,by lia,fun D hD=>Ba (n:=(many:Int).toNat) (fun i ys H'=>AG H H'/\∃uss:List (List IT.Tm),uss.length=i/\(∀us∈uss,Hg mo many us)/\AQ D H' (uss.map HZ) ys) ?_ ?_ ?_⟩
 .exact⟨AK hD _,[],rfl,fun _ z=>(ab z).elim,.nil⟩
 .rintro i ys H0 hi ⟨e0,uss,R,I,hd⟩ g;refine⟨hi,Bk (n:=60) (by rw[hd.len,List.length_map];lia) (by decide),fun x H' y=>?_⟩;obtain⟨rfl,rfl⟩:=y;unfold Bj;refine BA ⟨_,rfl,_,rfl,_,rfl,_,_,rfl,rfl,a,ns,_,rfl,e0.seq hS,by lia,by lia,fun cell=>?_⟩;refine⟨BJ (show 1<=60 by decide),fun l Z=>?_⟩;have M:=AK Z (.lst [.int cell]);have Y:upd H' l (.lst [.int cell]) l=some (.lst [.int cell]):=AH;have nl:D≠l:=AM g Z;have hln:∀o,H l≠some o:=fun o z=>by rw[e0 _ _ z]at Z;cases Z
  have dl:AQ l (upd H' l (.lst [.int cell])) (uss.map HZ) ys:=(FY Z hd).same M;generalize upd H' l (.lst [.int cell])=H1 at M Y dl;refine⟨_,rfl,_,rfl,l,cell,many,mo,rfl,hmo,Y,hm1,hm4,fun v H2 us e2 ok dt=>?_⟩;have hD2:H2 D=some (.lst ys):=e2 _ _ nl (M _ _ g);have k1:AQ D H2 ((uss++[us]).map HZ) (ys++[v]):=by
   rw[List.map_append];exact(IA e2 (hd.same M) dl).app (.cons (dt D _ (M _ _ g)) .nil)
  refine⟨hD2,A8 hi ⟨fun b o z=>?_,uss++[us],by simp[R],fun u U=>?_,.but .upd k1⟩⟩
  .rw[AI (AM z hD)];exact e2 _ _ (fun zz=>hln o (zz ▸ z)) (M _ _ (e0 _ _ z))
  .rcases aS.mp U with U|U
   .exact I u U
   .rw[List.mem_singleton.mp U];exact ok
 .rintro ys H0 ⟨e0,uss,R,I,hd⟩ g;exact⟨aD _,q _ H0 uss e0 (by lia) I (.lst g (B6 hd))⟩
end
def Uq(r:Rat):Prop:=FM.Fits r 3/\r.den<=6
def J0(l:Addr)(g:Hp)(i:Nat)(ys:List V)(H':Hp):Prop:=SameBut l g H'/\(∃y,H' l=some (.lst [.int y]))/\ys.length=i/\∃rs:List Rat,rs.length=i/\(∀r∈rs,Uq r)/\Am H' (AR rs) ys
theorem M6{l D:Addr}{g:Hp}{y:Int}(M:g l=some (.lst [.int y]))(I:g D=none):J0 l g 0 [] (upd g D (.lst [])):=⟨.of (AK I _),⟨y,AK I _ _ _ M⟩,rfl,[],rfl,fun _ z=>(ab z).elim,.nil⟩
theorem Ju{l D p:Addr}{U H1 I:Hp}{yb Y:Int}{i:Nat}{ys:List V}{r:Rat}(hl:U l=some (.lst [.int yb]))(hD:U D=none)(d:J0 l U i ys H1)(hD1:H1 D=some (.lst ys))(e2:AG (upd H1 l (.lst [.int Y])) I)(hp:I p=some (.tup (Gd r)))(h6:r.num.natAbs<=6)(h7:r.den<=6) :
  I D=some (.lst ys)/\J0 l U (i+1) (ys++[.ref p]) (upd I D (.lst (ys++[.ref p]))):=by
 obtain⟨e1,⟨y1,hl1⟩,Z,rs,hrl,hrs,dr⟩:=d;have nl:l≠D:=AM hl hD;have hl2:I l=some (.lst [.int Y]):=e2 _ _ AH;have g:SameBut l H1 I:=SameBut.upd.trans (.of e2);have R:=g _ _ nl.symm hD1;have d2:Am I (AR (rs++[r])) (ys++[.ref p]):=by
  rw[JV];exact(F7 hl1 g dr).app (.cons (Lp hp) .nil)
 refine⟨R,fun b o nb z=>?_,⟨Y,by rw[AI nl];exact hl2⟩,by simp[Z],rs++[r],by simp[hrl],fun x M=>?_,F7 R .upd d2⟩
 .rw[AI (AM z hD)];exact g _ _ nb (e1 _ _ nb z)
 .rcases aS.mp M with M|M
  .exact hrs x M
  .rw[List.mem_singleton.mp M];exact⟨⟨aL h6 (by decide),Nat.lt_of_le_of_lt h7 (by decide)⟩,h7⟩
def Si:Sp:=fun vs H Q _=>∃(cell:Int) (many:Nat),vs=[.int cell,.int many]/\many<=4/\∀(S:Addr) H' xs rs,AG H H'->H' S=some (.lst xs)->Am H' (AR rs) xs->rs.length=many->(∀r∈rs,Uq r)->Q (.ref S) H'
def SA(K:PySem.W.Frag):Sp:=fun vs H Q _=>∃(a:Addr) (ns:List Int) (mt:Nat),vs=[.ref a,.int 6,.int mt]/\1<=mt/\mt<=4/\AO K H a (ns.map V.int)/\∀v H' t,AG H H'->DU H' (Bn t) v->t.Ok 4->t.rs.length<=mt->(∀r∈t.rs,∀q∈r,Uq q)->(∀q∈t.ls,Uq q)->Q v H'
section
variable{P:Program}{w:World}{K:PySem.W.Frag}{mg:Str->Option Value}{base:Heap}{f g g1 g2:Addr}{fd gd gd1 gd2:FuncData}
theorem QB:Ab ["_law_cell_here","_law_many","_law_pile"] ["_law_cell_here","_law_many"] (AN JO):=⟨rfl,rfl,rfl,by decide +kernel,rfl,by decide +kernel,by decide +kernel⟩
theorem Oe(F:Fn K mg "_law_start" JO ["_law_cell_here","_law_many"] f fd)(BO:Fn K mg "_law_part" Ek ["_law_pile"] g gd)
 (Cf:AL P w K mg base AY 3 g gd ["_law_pile"] J8)(BL:mg "range" = none):AL P w K mg base AY 4 f fd ["_law_cell_here","_law_many"] Si:=by
 have sc:=QB;refine F.F.ok (k:=3) sc (fun vs H Q E h=>?_) (fun cdv A outer s H vs Q E hr h=>?_)
 .obtain⟨cell,many,rfl,_⟩:=h
  rfl
 obtain⟨cell,many,rfl,hm4,q⟩:=h;refine⟨_,(AD (AU (i:=2) sc.nd rfl (Or.inr rfl) (CA (AA (pv 0) AB)))
 (AF (Ac (Bf [".0","_law_k","_law_pile"] 1 [none,none,some 2] (Cp rfl BL (AA (pv 1) AB)) (fun _ _ _ _ _=>BC) (fun _ _ _ _ _=>(AX BO Cf hr rfl (AA (pv 2) AB))))))),?_⟩
 refine⟨_,rfl,BJ (show 1<=60 by decide),fun l Y=>?_⟩;have e0:=AK Y (.lst [.int cell]);have I:upd H l (.lst [.int cell]) l=some (.lst [.int cell]):=AH;generalize upd H l (.lst [.int cell])=H0 at e0 I;refine⟨_,rfl,(many:Int),rfl,by lia,by lia,fun D Z=>Ba (n:=(many:Int).toNat) (J0 l H0) (M6 I Z) ?_ ?_⟩
 .rintro i ys H1 hi d M;refine⟨hi,Bk (n:=60) (by rw[d.2.2.1];lia) (by decide),fun x H' y=>?_⟩;obtain⟨rfl,rfl⟩:=y;obtain⟨y1,U⟩:=d.2.1;unfold Bj;refine BA ⟨_,rfl,l,y1,rfl,U,fun p r y2 H2 e2 hp r6 r7=>?_⟩;obtain⟨k1,k2⟩:=Ju I Z d M e2 hp r6 r7;exact⟨k1,A8 hi k2⟩
 .rintro ys H1 ⟨e1,_,hyl,rs,hrl,R,dr⟩ M;exact⟨aD _,q D H1 ys rs (fun b o z=>e1 _ _ (AM z Y) (e0 _ _ z)) M dr (by lia) R⟩
theorem QL:Ab ["_law_script","_law_start_here","_law_most","_law_size","_law_rows","_law_k","_law_pile"] ["_law_script","_law_start_here","_law_most"] (AN Ic):=⟨rfl,rfl,rfl,by decide +kernel,rfl,by decide +kernel,by decide +kernel⟩
theorem Od(F:Fn K mg "_law_table" Ic ["_law_script","_law_start_here","_law_most"] f fd)(BN:Fn K mg "_law_cell" Fc ["_law_script","_law_k"] g1 gd1)(BO:Fn K mg "_law_part" Ek ["_law_pile"] g2 gd2)
 (CD:AL P w K mg base AY 3 g1 gd1 ["_law_script","_law_k"] (Lx K))(Cf:AL P w K mg base AY 3 g2 gd2 ["_law_pile"] J8)(BL:mg "range" = none):AL P w K mg base AY 4 f fd ["_law_script","_law_start_here","_law_most"] (SA K):=by
 have sc:=QL;refine F.F.ok (k:=3) sc (fun vs H Q E h=>?_) (fun cdv A outer s H vs Q E I h=>?_)
 .obtain⟨a,ns,mt,rfl,_⟩:=h
  rfl
 obtain⟨a,ns,mt,rfl,hmt1,hmt4,hS,q⟩:=h;refine⟨_,(AD (AU (i:=3) sc.nd rfl (Or.inl rfl) (Aa B2 AE (Aa L9 (AX BN CD I rfl (AA (pv 0) (AA (pv 1) AB))) (pv 2))))
 (AD (AU (i:=4) sc.nd rfl (Or.inl rfl) (CA AB))
 (AD (BU aP rfl (Cp rfl BL (AA (pv 3) AB)) (An (i:=5) sc.nd rfl (Or.inl rfl))
  (AD (AU (i:=6) sc.nd rfl (Or.inr rfl) (CA (AA (AX BN CD I rfl (AA (pv 0) (AA (Aa B2 (Aa B2 (pv 1) AE) (pv 5)) AB))) AB)))
  (AF (Bu (GN ai ax ay C6 (pv 4) (AA (Bf [".0","_law_j","_law_pile"] 1 [none,none,some 6] (Cp rfl BL (AA (pv 5) AB)) (fun _ _ _ _ _=>BC) (fun _ _ _ _ _=>(AX BO Cf I rfl (AA (pv 2) AB)))) AB))))))
 (AD (AU (i:=6) sc.nd rfl (Or.inr rfl) (CA (AA (AX BN CD I rfl (AA (pv 0) (AA (Aa B2 (Aa B2 (pv 1) AE) (pv 2)) AB))) AB)))
 (AF (Ac (EE (AA (pv 4) (AA (Bf [".0","_law_j","_law_pile"] 1 [none,none,some 6] (Cp rfl BL (AA (pv 3) AB)) (fun _ _ _ _ _=>BC) (fun _ _ _ _ _=>(AX BO Cf I rfl (AA (pv 2) AB)))) AB))))))))),?_⟩
 refine⟨_,rfl,_,rfl,a,ns,6,rfl,hS,by decide,by decide,fun x0=>⟨_,rfl,_,_,rfl,rfl,(by lia:(mt:Int)≠0),_,_,rfl,rfl,?_⟩⟩;obtain⟨size,hs1,hs4,es⟩:∃size:Nat,1<=size/\size<=mt/\1+x0.fmod mt=(size:Int):=by
  have e:=Int.fmod_eq_emod_of_nonneg x0 (show(0:Int)<=mt by lia);have e1:=Int.emod_nonneg x0 (show(mt:Int)≠0 by lia);have e2:=Int.emod_lt_of_pos x0 (show(0:Int)<mt by lia);exact⟨(1+x0.fmod mt).toNat,by lia,by lia,by lia⟩
 rw[show((fun i j:Int=>V.int (i+j)) 1 (x0.fmod mt))=V.int (size:Int) from bP V.int es];refine⟨BJ (show 0<=60 by decide),fun R hR=>?_⟩;have e1:=AK hR (.lst []);have hR1:upd H R (.lst []) R=some (.lst []):=AH;generalize upd H R (.lst [])=H1 at e1 hR1;refine⟨_,rfl,(size:Int),rfl,by lia,by lia,Hh (n:=(size:Int).toNat) (fun i σ H'=>∃(r5 r6:Option V) (rs:List (List Rat)) (xs:List V),σ=[some (.ref a),some (.int 6),some (.int mt),some (.int (size:Int)),some (.ref R),r5,r6]/\AG H H'/\H' R=some (.lst xs)/\AQ R H' (BF rs) xs/\rs.length=i/\(∀(j:Nat) r,rs[j]? = some r->r.length=j)/\∀r∈rs,∀q∈r,Uq q) ?_ ?_ ?_⟩
 .exact⟨_,_,[],[],rfl,e1,hR1,.nil,rfl,fun j r z=>by simp at z,fun _ z=>(ab z).elim⟩
 .rintro i σ H2 hi ⟨r5,r6,rs,xs,rfl,e2,Y,dx,hrl,hrj,hrf⟩;refine⟨_,rfl,_,rfl,_,_,rfl,rfl,_,rfl,_,_,rfl,rfl,a,ns,_,rfl,e2.seq hS,by lia,by lia,fun cell=>⟨BJ (show 1<=60 by decide),fun l hl=>?_⟩⟩;have e3:=AK hl (.lst [.int cell]);have M:upd H2 l (.lst [.int cell]) l=some (.lst [.int cell]):=AH;generalize upd H2 l (.lst [.int cell])=H3 at e3 M;have hxl:xs.length=i:=by rw[dx.len,HD,hrl]
  refine⟨_,rfl,.inl ⟨rfl,_,AO.of (e3 _ _ Y)⟩,_,rfl,0+(i:Int),rfl,by lia,by lia,fun D hD=>Ba (n:=(0+(i:Int)).toNat) (J0 l H3) (M6 M hD) ?_ ?_⟩
  .rintro j ys H4 hj d U;refine⟨hj,Bk (n:=60) (by rw[d.2.2.1];lia) (by decide),fun x H' y=>?_⟩;obtain⟨rfl,rfl⟩:=y;obtain⟨y1,hl1⟩:=d.2.1;unfold Bj;refine BA ⟨_,rfl,l,y1,rfl,hl1,fun p r y2 H5 Z hp r6 r7=>?_⟩;obtain⟨k1,k2⟩:=Ju M hD d U Z hp r6 r7;exact⟨k1,A8 hj k2⟩
  .rintro ys H4 ⟨e4,_,hyl,qs,hql,hqs,dq⟩ U;have E4:AG H2 H4:=fun b o z=>e4 _ _ (AM z hl) (e3 _ _ z);have hR4:=E4 _ _ Y;have nD:D≠R:=fun z=>by subst z;rw[e3 _ _ Y]at hD;cases hD
   refine⟨aD _,R,xs,_,rfl,rfl,hR4,Bk (n:=60) (by lia) (by decide),?_⟩;have u:SameBut R H4 (upd H4 R (.lst (xs++[.ref D]))):=.upd;refine⟨_,_,rs++[qs],xs++[.ref D],rfl,fun b o z=>?_,AH,?_,by simp[hrl],fun j r I=>?_,fun r I=>?_⟩
   .rw[AI (AM z hR)];exact E4 _ _ (e2 _ _ z)
   .rw[BF,List.map_append];exact .but u ((dx.same E4).app (.cons (XZ hR4 nD U dq) .nil))
   .by_cases z:j<rs.length
    .rw[List.getElem?_append_left z]at I;exact hrj j r I
    .rw[List.getElem?_append_right (by lia)]at I;have:=(aB.mp I).1;rw[List.length_singleton]at this;rw[show j-rs.length=0 by lia]at I;cases I
     lia
   .rcases aS.mp I with I|I
    .exact hrf r I
    .rw[List.mem_singleton.mp I];exact hqs
 .rintro σ H2 ⟨r5,r6,rs,xs,rfl,e2,Y,dx,hrl,hrj,hrf⟩;refine⟨_,rfl,_,rfl,_,_,rfl,rfl,_,rfl,_,_,rfl,rfl,a,ns,_,rfl,e2.seq hS,by lia,by lia,fun cell=>⟨BJ (show 1<=60 by decide),fun l hl=>?_⟩⟩;have e3:=AK hl (.lst [.int cell]);have M:upd H2 l (.lst [.int cell]) l=some (.lst [.int cell]):=AH;generalize upd H2 l (.lst [.int cell])=H3 at e3 M;refine⟨_,rfl,_,rfl,(size:Int),rfl,by lia,by lia,fun D hD=>Ba (n:=(size:Int).toNat) (J0 l H3) (M6 M hD) ?_ ?_⟩
  .rintro j ys H4 hj d U;refine⟨hj,Bk (n:=60) (by rw[d.2.2.1];lia) (by decide),fun x H' y=>?_⟩;obtain⟨rfl,rfl⟩:=y;obtain⟨y1,hl1⟩:=d.2.1;unfold Bj;refine BA ⟨_,rfl,l,y1,rfl,hl1,fun p r y2 H5 Z hp r6 r7=>?_⟩;obtain⟨k1,k2⟩:=Ju M hD d U Z hp r6 r7;exact⟨k1,A8 hj k2⟩
  .rintro ys H4 ⟨e4,_,hyl,qs,hql,hqs,dq⟩ U;have E4:AG H2 H4:=fun b o z=>e4 _ _ (AM z hl) (e3 _ _ z);refine⟨aD _,BJ (show 2<=60 by decide),fun t0 ht=>?_⟩;have Z:=AK ht (.tup [V.ref R,V.ref D]);have h5:upd H4 t0 (.tup [V.ref R,V.ref D]) t0=some (.tup [V.ref R,V.ref D]):=AH;generalize upd H4 t0 (.tup [V.ref R,V.ref D])=H5 at Z h5;exact q _ H5 ⟨rs,qs⟩ (e2.trans (E4.trans Z)) (cQ h5 (Z _ _ (E4 _ _ Y)) ((B6 dx).same (E4.trans Z)) (Z _ _ U) (dq.same Z)) ⟨by show 1<=rs.length;lia,by show rs.length<=4;lia,by show qs.length=rs.length;lia,hrj⟩ (by show rs.length<=mt;lia) hrf hqs
end
theorem Qp:∀ {ps:List Int},(∀p∈ps,(0:Int)<=p)->(ps.map PyData.int).all Fx=true
 |[],_=>rfl
 |p::ps,h=>by
  rw[List.map_cons,List.all_cons,Qp (fun q g=>h q (aM _ g)),Bool.and_true,Fx];exact bU (h p aR)
theorem OD.is{mo many:Nat}{t:IT.Tm}(h:OD mo many t):FO many (MU t)=true:=by
 obtain⟨⟨U,_⟩,R,r,M,I,_,_⟩:=h;have hn:r.num≠0:=fun z=>I (Rat.num_eq_zero.mp z);rw[MU,FO,FR,Qp fun p g=>(R p g).1,List.length_map,decide_eq_true (by rw[U]),M];show(true&&true&&(De (Aj r) && !decide (r.num=0)))=true;rw[Xa,decide_eq_false hn];rfl
theorem Sk:∀ps:List Int,(ps.map PyData.int).map intD=ps
 |[]=>rfl
 |p::ps=>by rw[List.map_cons,List.map_cons,Sk ps,intD]
theorem Ws(t:IT.Tm):Q5 (MU t)=t.1:=by rw[MU,Q5,QZ,Sk]
theorem Hg.is{mo many:Nat}{us:List IT.Tm}(h:Hg mo many us):Es many (.list (us.map MU))=true:=by
 obtain⟨_,M,I⟩:=h;rw[Es,List.all_eq_true];intro k g;rw[List.mem_range,List.length_map]at g;unfold GU;rw[List.getElem?_map,List.getElem?_eq_getElem g,Option.map_some];simp only;rw[(M _ (au g)).is,Bool.true_and];by_cases z:k=0
 .rw[decide_eq_true z,Bool.true_or]
 .rw[List.getElem?_map,List.getElem?_eq_getElem (show k-1<us.length by lia),Option.map_some];simp only;rw[Ws,Ws,List.pairwise_iff_getElem.mp I (k-1) k (by lia) g (by lia),Bool.or_true]
theorem Yh{mo many:Nat}{uss:List (List IT.Tm)}(I:uss.length=many)(h1:1<=many)(h:∀us∈uss,Hg mo many us):Iu (.list ((uss.map fun us=>us.map Gn).map CP))=true:=by
 have e:(uss.map fun us=>us.map Gn).map CP=uss.map HZ:=by
  rw[List.map_map];exact aW fun us g=>(UI (h us g)).symm
 rw[e,Iu,List.length_map,I,decide_eq_false (by lia),Bool.not_false,Bool.true_and,List.all_eq_true];intro e M;obtain⟨us,g,rfl⟩:=aJ.mp M;exact(h us g).is
section
variable{P:Program}{w:World}{K:PySem.W.Frag}{mg:Str->Option Value}{base:Heap}{f:Addr}{fd:FuncData}
theorem Lj:Ab ["_law_one","_law_other"] ["_law_one","_law_other"] (AN HJ):=⟨rfl,rfl,rfl,by decide +kernel,rfl,by decide +kernel,by decide +kernel⟩
def MQ(g:List PyData->Option PyData):DF :=
 (OV (Ci g (Al (CU Ut (CU G7 (CU GK (nm 0) (fC (.int 0))) (CU GK (nm 1) (fC (.int 1)))) (CU G7 (CU GK (nm 1) (fC (.int 0))) (CU GK (nm 0) (fC (.int 1))))) (Al (CU G7 (CU GK (nm 0) (fC (.int 1))) (CU GK (nm 1) (fC (.int 1)))) Cc))))
def Dw(g:List PyData->Option PyData):List PyData->Option PyData:=LZ ["_law_one","_law_other"] ["_law_one","_law_other"] (MQ g)
theorem Rc{k:Nat}{M:List PyData->Option PyData}(F:Fn K mg "_law_plus" HJ ["_law_one","_law_other"] f fd)
 {g:Addr}{I:FuncData}(U:Fn K mg "_law_frac" FZ ["_law_top","_law_bottom"] g I)(Y:AL P w K mg base AY k g I ["_law_top","_law_bottom"] (FD M)) :
  AL P w K mg base AY (k+1) f fd ["_law_one","_law_other"] (FD (Dw M)):=dM F Lj fun cdv A outer s H E R=>by
 have sc:=Lj;exact(FQ (K1 (DH U Y R rfl (Ai (IJ WH (IJ Iy (FH (Ak (pv 0)) Ca (fun _ _=>rfl)) (FH (Ak (pv 1)) Ca (fun _ _=>rfl))) (IJ Iy (FH (Ak (pv 1)) Ca (fun _ _=>rfl)) (FH (Ak (pv 0)) Ca (fun _ _=>rfl)))) (Ai (IJ Iy (FH (Ak (pv 0)) Ca (fun _ _=>rfl)) (FH (Ak (pv 1)) Ca (fun _ _=>rfl))) CM)))))
theorem Nx:Ab ["_law_one","_law_other"] ["_law_one","_law_other"] (AN Jc):=⟨rfl,rfl,rfl,by decide +kernel,rfl,by decide +kernel,by decide +kernel⟩
def Pu(g:List PyData->Option PyData):DF :=
 (OV (Ci g (Al (CU G7 (CU GK (nm 0) (fC (.int 0))) (CU GK (nm 1) (fC (.int 0)))) (Al (CU G7 (CU GK (nm 0) (fC (.int 1))) (CU GK (nm 1) (fC (.int 1)))) Cc))))
def C7(g:List PyData->Option PyData):List PyData->Option PyData:=LZ ["_law_one","_law_other"] ["_law_one","_law_other"] (Pu g)
theorem VQ{k:Nat}{M:List PyData->Option PyData}(F:Fn K mg "_law_by" Jc ["_law_one","_law_other"] f fd)
 {g:Addr}{I:FuncData}(U:Fn K mg "_law_frac" FZ ["_law_top","_law_bottom"] g I)(Y:AL P w K mg base AY k g I ["_law_top","_law_bottom"] (FD M)) :
  AL P w K mg base AY (k+1) f fd ["_law_one","_law_other"] (FD (C7 M)):=dM F Nx fun cdv A outer s H E R=>by
 have sc:=Nx;exact(FQ (K1 (DH U Y R rfl (Ai (IJ Iy (FH (Ak (pv 0)) Ca (fun _ _=>rfl)) (FH (Ak (pv 1)) Ca (fun _ _=>rfl))) (Ai (IJ Iy (FH (Ak (pv 0)) Ca (fun _ _=>rfl)) (FH (Ak (pv 1)) Ca (fun _ _=>rfl))) CM)))))
theorem WZ:Ab ["_law_script","_law_many","_law_long_one","_law_change_here","_law_start_here","_law_table_here","_law_pile","_law_length","_law_part_here","_law_due","_law_row","_law_total","_law_one","_law_taken_so"] ["_law_script"] (AN Nq):=⟨rfl,rfl,rfl,by decide +kernel,rfl,by decide +kernel,by decide +kernel⟩
def OB(C7:List PyData->Option PyData)(Dw:List PyData->Option PyData)(I:List PyData->Option PyData)(M:List PyData->Option PyData)(g:List PyData->Option PyData):DF :=
 (Gr (jl 9 Cc)
 (Gr (Oj (JI (Ci M (Al (nm 5) (Al (nm 3) (Al (nm 4) (Al (fC (.int 7)) Cc)))))) (Xq 10)
  (Gr (Mk 11 (Ym (Al (fC (.int 0)) (Al (fC (.int 1)) Cc))))
  (Gr (Oj (JI (Xp (nm 10) (eO (fC (.int 1))))) (Xq 12)
   (Mk 11 (Ci Dw (Al (Ci C7 (Al (nm 11) (Al (nm 7) Cc))) (Al (nm 12) Cc)))))
  (jr 9 (nm 11)))))
 (Gr (Y5 (Ve (cq (dA (Ci I (Al (Ci g (Al (nm 5) (Al (nm 3) (Al (nm 4) (Al (nm 7) Cc))))) (Al (nm 9) Cc))))))
  (OV (fC (.bool false)))
  Y2)
 (Gr (Mk 13 (Ym (Al (C2 (Et 1) F0 (C2 (Et 1) F0 (Ci C7 (Al (nm 1) (Al (nm 2) Cc))) [none,none,some 2] (JI (nm 1))) [none,none,some 8] (JI (CU GK (nm 5) (fC (.int 0))))) (Al (C2 (Et 1) F0 (Ci C7 (Al (nm 1) (Al (nm 2) Cc))) [none,none,some 8] (JI (CU GK (nm 5) (fC (.int 1))))) Cc))))
 (OV (Ci I (Al (Ci g (Al (nm 13) (Al (nm 3) (Al (nm 4) (Al (nm 7) Cc))))) (Al (Ci g (Al (nm 5) (Al (nm 3) (Al (nm 4) (Al (Ci C7 (Al (nm 7) (Al (nm 8) Cc))) Cc))))) Cc))))))))
theorem Xf{k:Nat}{C7:List PyData->Option PyData}{Dw:List PyData->Option PyData}{Fe:List PyData->Option PyData}{HM:List PyData->Option PyData}{F6:List PyData->Option PyData}
 {Z:Addr}{NV:FuncData}(M:Fn K mg "_law_by" Jc ["_law_one","_law_other"] Z NV)(I:AL P w K mg base AY k Z NV ["_law_one","_law_other"] (FD C7))
 {MP:Addr}{Lk:FuncData}(Ef:Fn K mg "_law_plus" HJ ["_law_one","_law_other"] MP Lk)(Fg:AL P w K mg base AY k MP Lk ["_law_one","_law_other"] (FD Dw))
 {MW:Addr}{Ls:FuncData}(Bv:Fn K mg "_law_same" HW ["_law_found","_law_due"] MW Ls)(C9:AL P w K mg base AY k MW Ls ["_law_found","_law_due"] (FD Fe))
 {MV:Addr}{Lf:FuncData}(Eg:Fn K mg "step_rows" HI ["table","change","start","most"] MV Lf)(Jr:AL P w K mg base AY k MV Lf ["table","change","start","most"] (FD HM))
 {Y:Addr}{Nu:FuncData}(U:Fn K mg "step_to" Ji ["table","change","start","length"] Y Nu)(R:AL P w K mg base AY k Y Nu ["table","change","start","length"] (FD F6))(cdv:Value)(A:Around)(outer:List Env)(s:Shared)(H:Hp)(E:XK)(g:Dr k (A.deeper (PyProof.Rows.envOfC "law" (AN Nq) s.heap.objs.size f cdv))) :
  MS (LN AY P w K mg base ["_law_script","_law_many","_law_long_one","_law_change_here","_law_start_here","_law_table_here","_law_pile","_law_length","_law_part_here","_law_due","_law_row","_law_total","_law_one","_law_taken_so"] "law" (AN Nq) f cdv A outer s H E).Ug ((DZ Nq).drop 8) (OB C7 Dw Fe HM F6):=by
 have sc:=WZ;exact(Ex (gM (i:=9) sc.nd rfl (Or.inl rfl) CM)
 (Ex (SE aP rfl (Kz (DH Eg Jr g rfl (Ai (Ak (pv 5)) (Ai (Ak (pv 3)) (Ai (Ak (pv 4)) (Ai Ca CM)))))) (Uh (An (i:=10) sc.nd rfl (Or.inl rfl)))
  (Ex (N4 (i:=11) sc.nd rfl (Or.inl rfl) (WC (Ai Ca (Ai Ca CM))))
  (Ex (SE aP rfl (Kz (cj (Ak (pv 10)) (fe Ca))) (Uh (An (i:=12) sc.nd rfl (Or.inl rfl)))
   (FQ (N4 (i:=11) sc.nd rfl (Or.inl rfl) (DH Ef Fg g rfl (Ai (DH M I g rfl (Ai (Ak (pv 11)) (Ai (Ak (pv 7)) CM))) (Ai (Ak (pv 12)) CM))))))
  (FQ (Wm (pv 9) (Ak (pv 11)) (fun ho ha=>Bu (GN ai ax ay C6 ho ha)))))))
 (Ex (Y3 (cC (eG (fb (DH Bv C9 g rfl (Ai (DH U R g rfl (Ai (Ak (pv 5)) (Ai (Ak (pv 3)) (Ai (Ak (pv 4)) (Ai (Ak (pv 7)) CM))))) (Ai (Ak (pv 9)) CM))))))
  (FQ (K1 gn))
  Um)
 (Ex (N4 (i:=13) sc.nd rfl (Or.inl rfl) (WC (Ai (O0 [".0","_law_row","_law_part_here"] 1 [none,none,some 8] (Kz (FH (Ak (pv 5)) Ca (fun _ _=>rfl))) (fun _ _ _ _ _=>Lw) (fun _ _ _ _ _=>(O0 [".0","_law_one","_law_part_here"] 1 [none,none,some 2] (Kz (Ak (pv 1))) (fun _ _ _ _ _=>Lw) (fun _ _ _ _ _=>(DH M I g rfl (Ai (Ak (pv 1)) (Ai (Ak (pv 2)) CM))))))) (Ai (O0 [".0","_law_one","_law_part_here"] 1 [none,none,some 8] (Kz (FH (Ak (pv 5)) Ca (fun _ _=>rfl))) (fun _ _ _ _ _=>Lw) (fun _ _ _ _ _=>(DH M I g rfl (Ai (Ak (pv 1)) (Ai (Ak (pv 2)) CM))))) CM))))
 (FQ (K1 (DH Bv C9 g rfl (Ai (DH U R g rfl (Ai (Ak (pv 13)) (Ai (Ak (pv 3)) (Ai (Ak (pv 4)) (Ai (Ak (pv 7)) CM))))) (Ai (DH U R g rfl (Ai (Ak (pv 5)) (Ai (Ak (pv 3)) (Ai (Ak (pv 4)) (Ai (DH M I g rfl (Ai (Ak (pv 7)) (Ai (Ak (pv 8)) CM))) CM))))) CM)))))))))
end
def WV(ds:List PyData):Option PyData:=match ds with
 |[.int t,.int b]=>if b≠0/\b.natAbs<2^8800 then some (Aj (Rat.divInt t b)) else none
 |_=>none
theorem jY{P:Program}{w:World}{K:PySem.W.Frag}{mg:Str->Option Value}{base:Heap}{CX:He}{k:Nat}{f:Addr}{fd:FuncData}{ps:List Str}(F:AL P w K mg base CX k f fd ps M3):AL P w K mg base CX k f fd ps (FD WV) :=
 MA F fun ds x hm G H vs Q E d e kk=>by
  unfold WV at hm;split at hm
  .split at hm
   .rename_i I;cases hm;obtain⟨v1,v2,rfl,U,R⟩:=d.LU;rw[Du]at U R;subst U R;refine⟨_,_,8800,rfl,I.1,by decide,I.2,fun l H' M g=>?_⟩;obtain⟨G',n1,Z,Y,n4⟩:=iY e M g (Mo [(Rat.divInt _ _).num,((Rat.divInt _ _).den:Int)]);exact kk _ G' H' n1 Z Y M n4
   .cases hm
  .cases hm
theorem XI{t b:Int}{n:Nat}(h:b≠0)(g:b.natAbs<2^n)(hn:n<=8800):WV [.int t,.int b]=some (Aj (Rat.divInt t b)):=if_pos ⟨h,FM.A6 g hn⟩
abbrev P8:List PyData->Option PyData:=C7 WV
abbrev ZY:List PyData->Option PyData:=Dw WV
theorem VT{a b:Rat}{n:Nat}(ha:FM.Fits a n)(g:FM.Fits b n)(hn:n<=4400):P8 [Aj a,Aj b]=some (Aj (a*b)):=by
 refine OJ rfl ?_;unfold Pu;refine L7 (Cu (BD (Fd (x:=.int a.num) (y:=.int b.num) rfl rfl (OO ha.1 g.1 (by lia))) (BD (Fd (x:=.int (a.den:Int)) (y:=.int (b.den:Int)) rfl rfl (OO ha.d g.d (by lia))) rfl)) ((XI (FM.Ow a b) (FM.dd ha g) (by lia)).trans ?_));rw[FM.Q6]
theorem cE{a b:Rat}{n:Nat}(ha:FM.Fits a n)(g:FM.Fits b n)(hn:n<=4400):ZY [Aj a,Aj b]=some (Aj (a+b)):=by
 refine OJ rfl ?_;unfold MQ;refine L7 (Cu (BD (Fd (x:=.int (a.num*b.den)) (y:=.int (b.num*a.den)) (Fd (x:=.int a.num) (y:=.int (b.den:Int)) rfl rfl (OO ha.1 g.d (by lia))) (Fd (x:=.int b.num) (y:=.int (a.den:Int)) rfl rfl (OO g.1 ha.d (by lia))) rfl) (BD (Fd (x:=.int (a.den:Int)) (y:=.int (b.den:Int)) rfl rfl (OO ha.d g.d (by lia))) rfl)) ((XI (FM.Ow a b) (FM.dd ha g) (by lia)).trans ?_));rw[FM.cz]
theorem Zj(f:Nat->Rat)(n:Nat):AR (C1 f n)=(List.range n).map fun t=>Aj (f t):=by unfold AR C1;rw[List.map_map];rfl
def Iz(D:Int)(N:Nat)(r:Rat):Prop:=∃t:Int,r*(D:Rat)=(t:Rat)/\t.natAbs<=2^N
theorem Iz.fits{D:Int}{N:Nat}{r:Rat}(h:Iz D N r)(U:1<=D)(g:D.natAbs<2^4400)(I:N<4400):FM.Fits r 4400:=by
 obtain⟨t,Y,M⟩:=h;have h0:D≠0:=by lia
 have e:=LY h0 t;have R:(D:Rat)≠0:=fun z=>h0 (Rat.intCast_inj.mp (z.trans Rat.intCast_zero.symm));have:r=Rat.divInt t D:=by
  generalize Rat.divInt t D=q at e
  grind
 rw[this];exact .Vx h0 (F8 M I) g
theorem Iz.mul{R M:Int}{I g:Nat}{r q:Rat}(h:Iz R I r)(k:Iz M g q):Iz (R*M) (I+g) (r*q):=by
 obtain⟨t,h1,Z⟩:=h;obtain⟨u,Y,U⟩:=k;refine⟨t*u,?_,?_⟩
 .rw[Rat.intCast_mul,Rat.intCast_mul,<-h1,<-Y];grind
 .rw[Int.natAbs_mul,Nat.pow_add];exact bV Z U
theorem Iz.up{D E:Int}{N e:Nat}{r:Rat}(h:Iz D N r)(g:E.natAbs<=2^e):Iz (D*E) (N+e) r:=by
 obtain⟨t,M,I⟩:=h;refine⟨t*E,?_,?_⟩
 .rw[Rat.intCast_mul,Rat.intCast_mul,<-M];grind
 .rw[Int.natAbs_mul,Nat.pow_add];exact bV I g
theorem Iz.zero{D:Int}{N:Nat}:Iz D N 0:=⟨0,by simp,by simp⟩
theorem Iz.mono{D:Int}{M N:Nat}{r:Rat}(h:Iz D M r)(g:M<=N):Iz D N r:=let⟨t,R,I⟩:=h;⟨t,R,Nat.le_trans I (bD (by decide) g)⟩
theorem Iz.cast{D E:Int}{N:Nat}{r:Rat}(h:Iz D N r)(e:D=E):Iz E N r:=e ▸ h
theorem Iz.sum{D:Int}{N:Nat}:∀ {l:List Rat},(∀r∈l,Iz D N r)->∃t:Int,l.sum*(D:Rat)=(t:Rat)/\t.natAbs<=l.length*2^N
 |[],_=>⟨0,by simp,by simp⟩
 |r::l,h=>by
  obtain⟨t,M,U⟩:=h r (.head _);obtain⟨u,g,R⟩:=Iz.sum (l:=l) fun q I=>h q (.tail _ I);refine⟨t+u,?_,?_⟩
  .rw[List.sum_cons,Rat.intCast_add,<-M,<-g];grind
  .have:=Int.natAbs_add_le t u;rw[List.length_cons,Nat.succ_mul];lia
theorem Iz.jB{D:Int}{N e:Nat}{l:List Rat}(h:∀r∈l,Iz D N r)(g:l.length<=2^e):Iz D (N+e) l.sum:=by
 obtain⟨t,M,I⟩:=Iz.sum h;refine⟨t,M,Nat.le_trans I ?_⟩;rw[Nat.add_comm,Nat.pow_add];exact bW _ g
def jh(g P:Int)(a b n:Nat)(x:Nat->Rat):Prop:=∀k,k<n->Iz (g*P^k) (a+b*k) (x k)
abbrev eh(x:Nat->Nat->Rat)(nn n:Nat):PyData:=.list (BF ((List.range nn).map fun u=>C1 (x u) n))
theorem Iz.of_eq{D t:Int}{N:Nat}{r:Rat}(h:r*(D:Rat)=(t:Rat))(g:t.natAbs<=2^N):Iz D N r:=⟨t,h,g⟩
theorem Pb{α:Type}{i:Nat}{f:Dv->Option PyData}{fs:Dv->Option (List PyData)}{δ:Dv}{fr:List (Option Nat)}{zs:List α}{a g:α->PyData}(R:fs δ=some (zs.map a))(U:zs.length<=El)
 (h:∀z∈zs,f ((Bz fr δ).set i (.d (a z)))=some (g z)):Hw (Et i) F0 f fr fs δ=some (zs.map g):=by
 unfold Hw;rw[R,Option.bind_some];have:∀zs:List α,(∀z∈zs,f ((Bz fr δ).set i (.d (a z)))=some (g z))->L2.collect (JC (Et i) F0 f (Bz fr δ)) (zs.map a)=some (zs.map g):=fun zs=>by
  induction zs with
  |nil=>intro _;rfl
  |cons z zs I=>
   intro h;rw[List.map_cons,List.map_cons];unfold L2.collect;rw[I fun y M=>h y (.tail _ M)];have e:JC (Et i) F0 f (Bz fr δ) (a z)=some (some (g z)):=by
    unfold JC Et;rw[Option.bind_some];show(some true).bind _=_;rw[Option.bind_some,if_pos rfl,h z (.head _)]
    rfl
   rw[e];rfl
 rw[this zs h,Option.bind_some,Ht,if_pos (by rw[List.length_map];exact U)]
theorem Z6(r:Rat){n:Nat}(h:1<=n):Hr n (Aj r):=by
 obtain⟨m,rfl⟩:∃m,n=m+1:=⟨n-1,by lia⟩;have hi:∀i:Int,Hr m (.int i):=fun i=>by cases m with|zero=>exact⟨i,rfl⟩|succ m=>exact .inl ⟨i,rfl⟩
 refine .inr ⟨_,.inl rfl,by simp,fun e g=>?_⟩;rcases aY.mp g with rfl|g
 .exact hi _
 .rw[List.mem_singleton.mp g];exact hi _
abbrev CS(uss:List (List AV)):PyData:=.list (uss.map CP)
def intOf:PyData->Int
 |.int i=>i
 |_=>0
def Wx:PyData->AV
 |.tuple [.tuple ps,r]=>(ps.map intOf,C3 r)
 |_=>([],0)
def Wz:PyData->List AV
 |.list ts=>ts.map Wx
 |_=>[]
def Ei:PyData->List (List AV)
 |.list xs=>xs.map Wz
 |_=>[]
theorem Po:∀ps:List Int,(ps.map PyData.int).map intOf=ps
 |[]=>rfl
 |p::ps=>by rw[List.map_cons,List.map_cons,Po ps];rfl
theorem WS(m:AV):Wx (DR m)=m:=by
 show((m.1.map PyData.int).map intOf,C3 (Aj m.2))=m;rw[Po,Im]
theorem Ir{α β:Type}{f:α->β}{g:β->α}(h:∀a,g (f a)=a):∀l:List α,(l.map f).map g=l
 |[]=>rfl
 |a::l=>by rw[List.map_cons,List.map_cons,Ir h l,h]
theorem W8(us:List AV):Wz (CP us)=us:=Ir WS us
theorem NP(uss:List (List AV)):Ei (CS uss)=uss:=Ir W8 uss
theorem Yv(m:AV):(DR m).canLay0=true:=VP fun d hd=>by
 rcases aY.mp hd with rfl|hd
 .exact VP fun d hd=>by obtain⟨p,_,rfl⟩:=aJ.mp hd;simp[PyData.canLay0]
 .rw[List.mem_singleton.mp hd];exact Ox _
theorem Qk(us:List AV):(CP us).canLay0=true:=QU fun d hd=>by obtain⟨p,_,rfl⟩:=aJ.mp hd;exact Yv p
theorem Pp(rs:List Rat):PyData.canLayAll0 (AR rs)=true:=LV fun d hd=>by
 unfold AR at hd;obtain⟨p,_,rfl⟩:=aJ.mp hd;exact Ox p
theorem PK{G H H':Hp}:∀ {rs:List (List Rat)} {xs:List V},Am H' (BF rs) xs->(∀z∈xs,∃a,z=.ref a/\H a=none)->A0 (Hk G H H') (BF rs) xs
 |[],xs,h,_=>by
  have:=h.len;have e:xs=[]:=List.eq_nil_of_length_eq_zero (by simpa[BF]using this);rw[e];exact .nil
 |q::I,xs,h,hn=>by
  obtain⟨x,r,rfl,Y,U⟩:=Am.UN (d:=ES q) (ds:=BF I) h;obtain⟨a,ys,e,ha,Z⟩:=Y.Jm;obtain⟨b,g,R⟩:=hn x (.head _);rw[e]at g;cases g;subst e;refine .cons ?_ (PK U fun z M=>hn z (.tail _ M));show Du _ (.list (AR q)) _;rw[Du];exact⟨a,ys,rfl,RH ha R,Kd Z⟩
theorem Lv:∀ {n:Nat} {d:PyData},Hr n d->d.canLay0=true
 |0,d,⟨i,h⟩=>by rw[h];simp[PyData.canLay0]
 |n+1,d,h=>by
  rcases h with ⟨i,h⟩|⟨M,h,_,I⟩
  .rw[h];simp[PyData.canLay0]
  .rcases h with h|h
   .rw[h];exact VP fun e g=>Lv (I e g)
   .rw[h];exact QU fun e g=>Lv (I e g)
open Classical in
noncomputable def Nt(n:Nat)(ds:List PyData):Option PyData:=match ds with
 |[d,e]=>if d=e/\Hr n d then some (.bool true) else none
 |_=>none
theorem Sa{n:Nat}{d e:PyData}(h:d=e)(hn:Hr n d):Nt n [d,e]=some (.bool true):=if_pos ⟨h,hn⟩
section
variable{P:Program}{w:World}{K:PySem.W.Frag}{mg:Str->Option Value}{base:Heap}{CX:He}{k:Nat}{f:Addr}{fd:FuncData}{ps:List Str}
theorem dH{n:Nat}(F:AL P w K mg base CX k f fd ps (W9 (n+1))):AL P w K mg base CX k f fd ps (FD (Nt n)) :=
 MA F fun ds x hm G H vs Q E d e U=>by
  unfold Nt at hm;split at hm
  .split at hm
   .rename_i Y;obtain⟨Z,g⟩:=Y;cases hm;subst Z;obtain⟨R,M,rfl,d1,d2⟩:=d.LU;refine⟨_,R,M,n,rfl,rfl,g,HF (Lv g) (d1.same e),HF (Lv g) (d2.same e),fun H' I=>?_⟩;exact U (.bl true) G H' (.refl _) Nw.refl (e.trans I) I (by rw[Du])
   .cases hm
  .cases hm
end
def G8:PyData->List Rat
 |.list xs=>xs.map C3
 |_=>[]
theorem NJ(r:List Rat):G8 (.list (AR r))=r:=by
 unfold G8 AR;show List.map C3 (r.map Aj)=r;rw[List.map_map];exact List.map_id'' (fun q=>Im q) r
def tabOf:PyData->Tb
 |.tuple [.list rs,d]=>⟨rs.map G8,G8 d⟩
 |_=>⟨[],[]⟩
theorem Q0(t:Tb):tabOf (Bn t)=t:=by
 unfold Bn tabOf;have e:(BF t.rs).map G8=t.rs:=by
  unfold BF;rw[List.map_map];exact List.map_id'' (fun r=>NJ r) t.rs
 show Tb.mk ((BF t.rs).map G8) (G8 (.list (AR t.ls)))=t;rw[e,NJ]
theorem Th(t:Tb):(Bn t).canLay0=true:=by
 have f:∀r:List Rat,PyData.canLayAll0 (AR r)=true:=fun r=>by
  induction r with
  |nil=>rfl
  |cons q r I=>show PyData.canLayAll0 (Aj q::AR r)=true;simp[PyData.canLayAll0,I,Aj,PyData.canLay0]
 have g:∀rs:List (List Rat),PyData.canLayAll0 (BF rs)=true:=fun rs=>by
  induction rs with
  |nil=>rfl
  |cons r rs I=>show PyData.canLayAll0 (ES r::BF rs)=true;simp[PyData.canLayAll0,I,ES,PyData.canLay0,f]
 simp[Bn,PyData.canLay0,PyData.canLayAll0,f,g]
section
variable{t:Tb}{uss:List (List AV)}{rs:List Rat}{most nn:Nat}
theorem BS.tl(o:BS t uss rs most nn):(EY t).length=(AJ t).length:=bS _
theorem BS.gH(o:BS t uss rs most nn){i:Nat}(hi:i<=(AJ t).length):∀u,u<nn->jh (AW rs) (Cs t uss rs) 21 371 (most+1) ((Cm t uss rs i).2 u):=fun u g k I=>by
 have hm:=o.Ua;refine .of_eq (t:=(C4 t uss rs i).2 u k) ?_ ((o.xb i (by rw[o.tl];exact hi)).2 u k g (by lia));rw[(o.rel i hi).2 u k g,Rat.intCast_mul (AW rs),HC]
 grind
end
open Classical in
noncomputable def Su(d:Nat)(ds:List PyData):Option PyData:=match ds with
 |[x,c,.list ys,.int n]=>if x=Bn (tabOf x)/\c=CS (Ei c)/\ys=AR (ys.map C3)/\(d:Int)<=n/\∃nn,BS (tabOf x) (Ei c) (ys.map C3) (n-d).toNat nn then some (eh (CI ((ys.map C3).getD · 0) (Ei c) (AJ (tabOf x))).2 (Ei c).length ((n-d).toNat+1)) else none
 |_=>none
theorem dw{d:Nat}{t:Tb}{uss:List (List AV)}{rs:List Rat}{most nn:Nat}(o:BS t uss rs most nn):Su d [Bn t,CS uss,.list (AR rs),.int ((most+d:Nat):Int)]=some (eh (CI (rs.getD · 0) uss (AJ t)).2 nn (most+1)):=by
 have M:(AR rs).map C3=rs:=Ir Im rs;have I:=NP uss;have g:=Q0 t;have R:(((most+d:Nat):Int)-(d:Int)).toNat=most:=by lia
 unfold Su;refine(if_pos ⟨by rw[g],by rw[I],by rw[M],by lia,nn,by rw[M,I,g,R];exact o⟩).trans ?_;rw[M,I,g,R,o.len]
theorem jM{P:Program}{w:World}{K:PySem.W.Frag}{mg:Str->Option Value}{base:Heap}{CX:He}{k:Nat}{f:Addr}{fd:FuncData}{ps:List Str}(F:AL P w K mg base CX k f fd ps Y6):AL P w K mg base CX k f fd ps (FD (Su 0)) :=
 MA F fun ds x hm G H vs Q E d e g=>by
  unfold Su at hm;split at hm
  .rename_i tx cx ys n;split at hm
   .rename_i hh;obtain⟨c1,c2,c3,c4,nn,o⟩:=hh;cases hm;obtain⟨most,hn⟩:∃most:Nat,n=(most:Nat):=⟨n.toNat,by lia⟩;subst hn;have I:((most:Int)-((0:Nat):Int)).toNat=most:=by lia
    rw[I]at o g;generalize tabOf tx=t at c1 o g;generalize Ei cx=uss at c2 o g;generalize ys.map C3=rs at c3 o g;subst c1 c2 c3;obtain⟨v1,r1,rfl,d1,d⟩:=d.un;obtain⟨v2,r2,rfl,U,d⟩:=d.un;obtain⟨v3,v4,rfl,R,d4⟩:=d.LU;rw[Du]at d4;subst d4;have U:=HF (QU fun d hd=>by obtain⟨p,_,rfl⟩:=aJ.mp hd;exact Qk p) (U.same e);have R:=HF (by simp only[PyData.canLay0];exact Pp _) (R.same e);obtain⟨C,cs,rfl,hC,dc⟩:=U.Jm;obtain⟨S,ss,rfl,hS,dS⟩:=R.Jm;refine⟨v1,C,S,cs,ss,t,uss,rs,most,nn,rfl,HF (Th t) (d1.same e),hC,dc,hS,dS,o,fun D H' zs Y hD M Z nz=>?_⟩;rw[Wt o]at Z;obtain⟨n1,n2,n3⟩:=Ud e Y;refine g (.ref D) _ H' n1 n2 n3 Y ?_;rw[o.len];show Du _ (.list (BF _)) _;rw[Du];exact⟨D,zs,rfl,RH M hD,PK Z nz⟩
   .cases hm
  .cases hm
structure Em(t:Tb)(uss:List (List AV))(rs:List Rat)(h:Rat)(many:Nat):Prop where
 tab:t.Ok 4
 t3:t.rs.length<=3
 fit:∀r∈AJ t,∀q∈r,FM.Fits q 6
 chg:EV uss many
 good:Iu (.list (uss.map CP))=true
 ul:uss.length=many
 rl:rs.length=many
 rf:∀r∈rs,FM.Fits r 3/\r.den<=6
 m1:1<=many
 m4:many<=4
 hf:FM.Fits h 6
theorem Em.rows{t:Tb}{uss:List (List AV)}{rs:List Rat}{h:Rat}{many:Nat}(o:Em t uss rs h many):((D9 uss rs h (AJ t)).2.1.map fun a=>Rat.divInt a (D9 uss rs h (AJ t)).2.2)=(DV uss rs h (AJ t)).2:=by
 obtain⟨I,g⟩:=T9 o.tab o.fit;have:=o.t3;exact YW o.chg o.ul o.m4 o.rl o.rf o.hf (by lia) g
open Classical in
noncomputable def Tu(ds:List PyData):Option PyData:=match ds with
 |[x,c,.list ys,l]=>if x=Bn (tabOf x)/\c=CS (Ei c)/\ys=AR (ys.map C3)/\l=Aj (C3 l)/\∃nn,Em (tabOf x) (Ei c) (ys.map C3) (C3 l) nn then some (.list (AR (DV (Ei c) (ys.map C3) (C3 l) (AJ (tabOf x))).2)) else none
 |_=>none
theorem Sd{t:Tb}{uss:List (List AV)}{rs:List Rat}{h:Rat}{many:Nat}(o:Em t uss rs h many):Tu [Bn t,CS uss,.list (AR rs),Aj h]=some (.list (AR (DV uss rs h (AJ t)).2)):=by
 have R:(AR rs).map C3=rs:=Ir Im rs;have M:=NP uss;have I:=Q0 t;have g:=Im h;unfold Tu;refine(if_pos ⟨by rw[I],by rw[M],by rw[R],by rw[g],many,by rw[R,M,I,g];exact o⟩).trans ?_;rw[R,M,I,g]
theorem kI{P:Program}{w:World}{K:PySem.W.Frag}{mg:Str->Option Value}{base:Heap}{CX:He}{k:Nat}{f:Addr}{fd:FuncData}{ps:List Str}(F:AL P w K mg base CX k f fd ps Vu):AL P w K mg base CX k f fd ps (FD Tu) :=
 MA F fun ds x hm G H vs Q E d e g=>by
  unfold Tu at hm;split at hm
  .rename_i tx cx ys lx;split at hm
   .rename_i hh;obtain⟨c1,c2,c3,c4,nn,o⟩:=hh;cases hm;generalize tabOf tx=t at c1 o g;generalize Ei cx=uss at c2 o g;generalize ys.map C3=rs at c3 o g;generalize C3 lx=h at c4 o g;subst c1 c2 c3 c4;obtain⟨v1,r1,rfl,d1,d⟩:=d.un;obtain⟨v2,r2,rfl,U,d⟩:=d.un;obtain⟨v3,v4,rfl,R,d4⟩:=d.LU;have U:=HF (QU fun d hd=>by obtain⟨p,_,rfl⟩:=aJ.mp hd;exact Qk p) (U.same e);have R:=HF (by simp only[PyData.canLay0];exact Pp _) (R.same e);obtain⟨C,cs,rfl,hC,dc⟩:=U.Jm;obtain⟨S,ss,rfl,hS,dS⟩:=R.Jm;obtain⟨Ln,rfl,I⟩:=(HF (Ox h) (d4.same e)).rat;refine⟨v1,C,S,Ln,t,cs,ss,uss,rs,h,nn,rfl,HF (Th t) (d1.same e),o.tab,o.t3,o.fit,⟨hC,dc,o.chg.len,fun us Y=>⟨(o.chg.DK us Y).1,fun m hm=>((o.chg.DK us Y).2 m hm).1⟩⟩,o.chg,o.good,o.ul,hS,dS,o.rl,o.rf,o.m1,o.m4,I,o.hf,fun D H' zs Z hD M dz=>?_⟩;rw[o.rows]at dz;obtain⟨n1,n2,n3⟩:=Ud e Z;refine g (.ref D) _ H' n1 n2 n3 Z ?_;rw[Du];exact⟨D,zs,rfl,RH M hD,Kd dz⟩
   .cases hm
  .cases hm
def GF(h:Rat)(X:Nat->Rat):Nat->Rat
 |0=>0
 |k+1=>GF h X k*h+X (7-k)
theorem Tx{h:Rat}{X:Nat->Rat}:∀k,k<=7->GF h X (k+1)=ev h k (fun j=>X (7-k+j))
 |0,_=>by
  show 0*h+X 7=X 7
  grind
 |k+1,I=>by
  have g:=Tx (h:=h) (X:=X) k (by lia);show GF h X (k+1)*h+X (7-(k+1))=X (7-(k+1)+0)+h*ev h k (fun j=>X (7-(k+1)+(j+1)));rw[g,show(fun j=>X (7-(k+1)+(j+1)))=fun j=>X (7-k+j) from funext fun j=>by congr 1;lia,Nat.add_zero]
  grind
theorem X3(h:Rat)(X:Nat->Rat):GF h X 8=ev h 7 X:=by
 rw[Tx 7 (by decide)]
 congr 1
 funext j
 rw[show 7-7+j=j by lia]
theorem Iz.add{D:Int}{N:Nat}{a b:Rat}(ha:Iz D N a)(I:Iz D N b):Iz D (N+1) (a+b):=by
 have:=Iz.jB (l:=[a,b]) (D:=D) (N:=N) (e:=1) (fun r g=>by
  rcases aY.mp g with rfl|g
  .exact ha
  .rw[List.mem_singleton.mp g];exact I) (aD 2)
 rw[List.sum_cons,List.sum_cons,List.sum_nil,Rat.add_zero]at this;exact this
theorem Iz.rat{h:Rat}{n:Nat}(hf:FM.Fits h n):Iz (h.den:Int) n h:=⟨h.num,by
 have:=LY (show(h.den:Int)≠0 by have:=h.den_nz;lia) h.num;rw[FM.Bc]at this;rw[this,Rat.mul_comm],Nat.le_of_lt hf.1⟩
theorem Tz{x:Int}{m n:Nat}(I:x.natAbs<2^m):(x^n).natAbs<=2^(m*n):=by
 induction n with
 |zero=>simp
 |succ n g=>
  rw[Int.pow_succ,Int.natAbs_mul,Nat.mul_succ,Nat.pow_add];exact bV g (bZ I)
section
variable{t:Tb}{uss:List (List AV)}{rs:List Rat}{nn:Nat}{h:Rat}
theorem BS.eJ(o:BS t uss rs 7 nn)(hf:FM.Fits h 3){u:Nat}(I:u<nn):∀k,k<=8->Iz (AW rs*Cs t uss rs^7*(h.den:Int)^k) (2850+8*k) (GF h ((CI (rs.getD · 0) uss (AJ t)).2 u) k)
 |0,_=>.zero
 |k+1,hk=>by
  have R:=o.eJ hf I k (by lia);have U:Cm t uss rs (AJ t).length=CI (rs.getD · 0) uss (AJ t):=by unfold Cm;rw[List.take_length]
  have g:=o.gH (aD _) u I (7-k) (by lia);rw[U]at g;obtain⟨_,_,M,_⟩:=o.Ck;have Z:=(R.mul (Iz.rat hf)).mono (N:=2853+8*k) (by lia);have Y:=((g.up (Tz (n:=k) M)).up (Tz (n:=k+1) hf.d)).mono (N:=2853+8*k) (by lia);refine((Z.cast ?_).add (Y.cast ?_)).mono (by lia)
  .generalize AW rs*Cs t uss rs^7=z;rw[Int.pow_succ,Int.mul_assoc]
  .rw[Int.mul_assoc (AW rs),<-Int.pow_add,show 7-k+k=7 by lia]
theorem BS.ZQ(o:BS t uss rs 7 nn)(hf:FM.Fits h 3){k:Nat}(M:k<=9):1<=AW rs*Cs t uss rs^7*(h.den:Int)^k/\(AW rs*Cs t uss rs^7*(h.den:Int)^k).natAbs<2^4400:=by
 obtain⟨_,_,I,g⟩:=o.Ck;obtain⟨U,R,_⟩:=o.Je;have hd:=h.den_nz;refine⟨bw (bw (show 0<_ by lia) (GH g 7)) (GH (show(1:Int)<=(h.den:Int) by lia) k),FM.A6 (FM.Ax (FM.Ax R (CG (p:=7) I (aD _))) (CG (p:=9) hf.d M)) (by decide)⟩
theorem BS.ie(o:BS t uss rs 7 nn)(hf:FM.Fits h 3){u:Nat}(g:u<nn){k:Nat}(I:k<=8):FM.Fits (GF h ((CI (rs.getD · 0) uss (AJ t)).2 u) k) 4400/\FM.Fits (GF h ((CI (rs.getD · 0) uss (AJ t)).2 u) k*h) 4400:=by
 have i:=o.eJ hf g k I;obtain⟨a,b⟩:=o.ZQ hf (k:=k) (by lia);obtain⟨c,d⟩:=o.ZQ hf (k:=k+1) (by lia);refine⟨i.fits a b (by lia),Iz.fits (D:=AW rs*Cs t uss rs^7*(h.den:Int)^(k+1)) (N:=2853+8*k) ((((i.mul (Iz.rat hf)).mono (by lia)).cast ?_)) c d (by lia)⟩;generalize AW rs*Cs t uss rs^7=z;rw[Int.pow_succ,Int.mul_assoc]
theorem BS.xF(o:BS t uss rs 7 nn){u:Nat}(R:u<nn){k:Nat}(Y:k<=7):FM.Fits ((CI (rs.getD · 0) uss (AJ t)).2 u k) 4400:=by
 have U:Cm t uss rs (AJ t).length=CI (rs.getD · 0) uss (AJ t):=by unfold Cm;rw[List.take_length]
 have g:=o.gH (aD _) u R k (by lia);rw[U]at g;obtain⟨_,_,M,I⟩:=o.Ck;obtain⟨g1,Z,_⟩:=o.Je;exact g.fits (bw (show 0<_ by lia) (GH I k)) (FM.A6 (FM.Ax Z (CG (p:=7) M Y)) (by decide)) (by lia)
end
theorem NF{l:List Rat}{n:Nat}(h:l.length=n):l=(List.range n).map (toF l):=by
 refine List.ext_getElem? fun i=>?_;rw[List.getElem?_map];by_cases hi:i<n
 .rw[List.getElem?_range hi,List.getElem?_eq_getElem (show i<l.length by lia)];show _=some (l.getD i 0);rw[List.getD_eq_getElem?_getD,List.getElem?_eq_getElem (show i<l.length by lia)];rfl
 .rw[List.getElem?_eq_none (show l.length<=i by lia),List.getElem?_eq_none (by simpa using hi)];rfl
def FA(t:Tb)(c:Rat):Tb:=⟨t.rs.map fun r=>r.map fun q=>q*c,t.ls.map fun q=>q*c⟩
theorem NO(t:Tb)(c:Rat):AJ (FA t c)=(AJ t).map fun r=>r.map fun q=>q*c:=by
 unfold AJ FA;rw[List.map_append,List.map_drop];rfl
section
variable{t:Tb}{uss:List (List AV)}{rs:List Rat}{nn:Nat}{h c:Rat}
theorem Em.pw(o:Em t uss rs h nn):∀us∈uss,∀m∈us,CJ nn m.1:=fun us g m hm=>by
 obtain⟨_,_,a,b,d,e⟩:=(o.chg.DK us g).2 m hm;exact⟨a,fun p I=>(b p I).1,by have:m.1.sum<=2:=e;lia⟩
theorem Em.walk(o:Em t uss rs h nn)(rows:List (List Rat)):(DV uss rs h rows).2.length=nn/\toF (DV uss rs h rows).2=(Gh (toF rs) uss h rows ([],toF rs)).2 :=
 Ub (h:=h) o.rl o.ul o.pw rows ([],rs) (fun _ z=>(ab z).elim) o.rl
theorem Em.ev(o:Em t uss rs h nn){g:Nat}(R:1<=g)(M:∀us∈uss,∀m∈us,m.1.sum<=(g:Int))(hd:Ms g (AJ t).length 0<=7) :
  (DV uss rs h (AJ t)).2=(List.range nn).map fun u=>Q36.ev h 7 ((CI (rs.getD · 0) uss (AJ t)).2 u):=by
 obtain⟨a,b⟩:=o.walk (AJ t);have k:=Ur (x0:=toF rs) (uss:=uss) (h:=h) (nn:=nn) (N:=7) R (fun us I m hm=>⟨o.pw us I m hm,M us I m hm⟩) (AJ t) ([],J7 (toF rs)) 0 hd (by lia) (by lia) (fun u=>(Qv (h:=h)).1) fun _ z=>(ab z).elim;have f:(fun u=>Q36.ev h 7 (J7 (toF rs) u))=toF rs:=funext fun u=>(Qv (d:=7)).2;rw[NF a,b];refine aW fun u _=>?_;have:=congrFun k u;rw[f]at this;exact this.symm
theorem Em.times(o:Em t uss rs h nn)(g:Em t uss rs (h*c) nn):(DV uss rs h (AJ (FA t c))).2=(DV uss rs (h*c) (AJ t)).2:=by
 obtain⟨a,b⟩:=o.walk (AJ (FA t c));obtain⟨a2,b2⟩:=g.walk (AJ t);rw[NF a,NF a2,b,b2,NO,Nj]
end
theorem XD{l:List Rat}(h:l.length<=60):Hr 2 (.list (AR l)):=by
 refine .inr ⟨_,.inr rfl,by unfold AR;rw[List.length_map];exact h,fun e g=>?_⟩;unfold AR at g;obtain⟨q,_,rfl⟩:=aJ.mp g;exact Z6 q (aD 1)
theorem Yl{f:Nat->PyData}{i:Nat}{x:PyData}(h:((List.range 8).map f).reverse[i]? = some x):i<8/\x=f (7-i):=by
 have hi:i<8:=by have:=(aB.mp h).1;simpa using this
 refine⟨hi,?_⟩;rw[List.getElem?_reverse (by simpa using hi),List.length_map,List.length_range,show 8-1-i=7-i by lia,List.getElem?_map,List.getElem?_range (by lia)]at h;exact(ae h).symm
theorem gN{t:Tb}{uss:List (List AV)}{rs:List Rat}{nn g:Nat}{h c:Rat}(o:BS t uss rs 7 nn)(hf:FM.Fits h 3)(cf:FM.Fits c 3)(q:Em t uss rs h nn)(q2:Em (FA t c) uss rs h nn)(q3:Em t uss rs (h*c) nn)(hg:1<=g)(hs:∀us∈uss,∀m∈us,m.1.sum<=(g:Int))(hd:Ms g (AJ t).length 0<=7) :
  OB P8 ZY (Nt 2) (Su 0) Tu [.no,.no,.no,.d (CS uss),.d (.list (AR rs)),.d (Bn t),.no,.d (Aj h),.d (Aj c),.no,.no,.no,.no,.no]=some (.rt (.bool true)):=by
 have n4:=o.n4;unfold OB;generalize hX:(CI (rs.getD · 0) uss (AJ t)).2=X;refine Gu (δ':=[.no,.no,.no,.d (CS uss),.d (.list (AR rs)),.d (Bn t),.no,.d (Aj h),.d (Aj c),.own (.lst []),.no,.no,.no,.no]) rfl ?_;have g1:=dw (d:=0) o;rw[hX]at g1;refine Q8 (xs:=BF ((List.range nn).map fun u=>C1 (X u) 8)) (fun k δ=>∃R M I:L,δ=[.no,.no,.no,.d (CS uss),.d (.list (AR rs)),.d (Bn t),.no,.d (Aj h),.d (Aj c),.own (.lst ((List.range k).map fun u=>Aj (ev h 7 (X u)))),R,M,I,.no]) ?_ ⟨_,_,_,rfl⟩ ?_ ?_
 .show(Ci (Su 0) _ _).bind _=_;rw[Cu (xs:=[Bn t,CS uss,.list (AR rs),.int ((7+0:Nat):Int)]) rfl g1]
  rfl
 .rintro k x δ U ⟨R,M,I,rfl⟩;unfold BF at U;have hk:k<nn:=by have:=(aB.mp U).1;simpa using this
  rw[List.getElem?_map,List.getElem?_map,List.getElem?_range hk]at U;have U:x=ES (C1 (X k) 8):=(ae U).symm;subst U;have er:ES (C1 (X k) 8)=.list ((List.range 8).map fun t=>Aj (X k t)):=by unfold ES;rw[Zj]
  rw[er];refine⟨_,rfl,?_⟩;have h0:GF h (X k) 0=0:=rfl;obtain⟨δ',e1,a12',rfl⟩:=Sr (fs:=JI (Xp (nm 10) (eO (fC (.int 1))))) (xs:=((List.range 8).map fun t=>Aj (X k t)).reverse) (set:=Xq 12) (F:=Mk 11 (Ci ZY (Al (Ci P8 (Al (nm 11) (Al (nm 7) Cc))) (Al (nm 12) Cc)))) (δ:=[.no,.no,.no,.d (CS uss),.d (.list (AR rs)),.d (Bn t),.no,.d (Aj h),.d (Aj c),.own (.lst ((List.range k).map fun u=>Aj (ev h 7 (X u)))),.d (.list ((List.range 8).map fun t=>Aj (X k t))),.d (Aj 0),I,.no])
   (fun j δ=>∃I:L,δ=[.no,.no,.no,.d (CS uss),.d (.list (AR rs)),.d (Bn t),.no,.d (Aj h),.d (Aj c),.own (.lst ((List.range k).map fun u=>Aj (ev h 7 (X u)))),.d (.list ((List.range 8).map fun t=>Aj (X k t))),.d (Aj (GF h (X k) j)),I,.no]) (by rfl) ⟨_,by rw[h0]⟩ (by
    rintro j x δ U ⟨I,rfl⟩;obtain⟨hj,rfl⟩:=Yl U;refine⟨_,_,rfl,J1 (y:=Aj (GF h (X k) (j+1))) ?_,_,rfl⟩;obtain⟨f1,f2⟩:=o.ie hf hk (k:=j) (by lia);have f3:=o.xF hk (k:=7-j) (by lia);rw[hX]at f1 f2 f3;exact Cu (BD (Cu (BD (x:=Aj (GF h (X k) j)) rfl (BD (x:=Aj h) rfl rfl)) (VT f1 (hf.mono) (by decide))) (BD (x:=Aj (X k (7-j))) rfl rfl)) (cE f2 f3 (by decide)))
  rw[List.length_reverse,List.length_map,List.length_range,X3]at e1;refine⟨[.no,.no,.no,.d (CS uss),.d (.list (AR rs)),.d (Bn t),.no,.d (Aj h),.d (Aj c),.own (.lst (((List.range k).map fun u=>Aj (ev h 7 (X u)))++[Aj (ev h 7 (X k))])),.d (.list ((List.range 8).map fun t=>Aj (X k t))),.d (Aj (ev h 7 (X k))),a12',.no],Gu (J1 (y:=Aj 0) rfl) (Gu e1 ?_),?_⟩
  .exact if_pos (by rw[List.length_map,List.length_range];show k<El;exact aN (by lia) (show 4<=El by decide))
  .rw[List.range_succ (n:=k),List.map_append];exact⟨_,_,_,rfl⟩
 rintro δ ⟨R,M,I,rfl⟩;have el:(BF ((List.range nn).map fun u=>C1 (X u) 8)).length=nn:=by unfold BF;simp
 rw[el];have ed:(List.range nn).map (fun u=>Aj (ev h 7 (X u)))=AR (DV uss rs h (AJ t)).2:=by
  rw[q.ev hg hs hd,hX];unfold AR;rw[List.map_map];rfl
 rw[ed];have hl:=(q.walk (AJ t)).1;have hl3:=(q3.walk (AJ t)).1;refine Gu (ZD (c:=Ve _) (Z5 (b:=true) (Z4 (Cu (BD (Cu (xs:=[Bn t,CS uss,.list (AR rs),Aj h]) rfl (Sd q)) (BD (x:=.list (AR (DV uss rs h (AJ t)).2)) rfl rfl)) (Sa rfl (XD (by lia)))))) rfl) ?_;have tr:∀q∈t.rs,∀p∈q,FM.Fits p 3:=o.Lh.1;have tl:∀p∈t.ls,FM.Fits p 3:=o.Lh.2;have tn:=o.tab.most;have row:∀(r:List Rat) (fs:Dv->Option (List PyData)) (δ:Dv) (Z:List (Option Nat)),r.length<=4->(∀p∈r,FM.Fits p 3)->fs δ=some (r.map Aj)->(∀p,((Bz Z δ).set 1 (.d p)).length=3)->(∀p,nm 1 ((Bz Z δ).set 1 (.d p))=some p/\nm 2 ((Bz Z δ).set 1 (.d p))=some (Aj c))->C2 (Et 1) F0 (Ci P8 (Al (nm 1) (Al (nm 2) Cc))) Z fs δ=some (ES (r.map fun q=>q*c)):=fun r fs δ Z Y hp hfs _ hn=>by
  unfold C2;rw[Pb (zs:=r) (a:=Aj) (g:=fun q=>Aj (q*c)) hfs (aU Y (by decide)) fun z hz=>Cu (BD (hn _).1 (BD (hn _).2 rfl)) (VT (hp z hz) cf (by decide))];show some (PyData.list _)=some (PyData.list (AR _));unfold AR;rw[List.map_map];rfl
 have rl:∀r∈t.rs,r.length<=4:=fun r Y=>by
  obtain⟨i,hi⟩:=aa Y;have:=o.tab.row i r hi;have:=(aB.mp hi).1
  lia
 refine Gu (J1 (y:=Bn (FA t c)) ?_) ?_
 .have c1:C2 (Et 1) F0 (C2 (Et 1) F0 (Ci P8 (Al (nm 1) (Al (nm 2) Cc))) [none,none,some 2] (JI (nm 1))) [none,none,some 8] (JI (CU GK (nm 5) (fC (.int 0)))) [.no,.no,.no,.d (CS uss),.d (.list (AR rs)),.d (Bn t),.no,.d (Aj h),.d (Aj c),.own (.lst (AR (DV uss rs h (AJ t)).2)),R,M,I,.no]=some (.list (BF (FA t c).rs)):=by
   have:=Pb (zs:=t.rs) (a:=ES) (g:=fun r=>ES (r.map fun q=>q*c)) (i:=1) (f:=C2 (Et 1) F0 (Ci P8 (Al (nm 1) (Al (nm 2) Cc))) [none,none,some 2] (JI (nm 1))) (fr:=[none,none,some 8]) (fs:=JI (CU GK (nm 5) (fC (.int 0)))) (δ:=[.no,.no,.no,.d (CS uss),.d (.list (AR rs)),.d (Bn t),.no,.d (Aj h),.d (Aj c),.own (.lst (AR (DV uss rs h (AJ t)).2)),R,M,I,.no]) rfl (aU tn (by decide)) fun r Y=>row r _ _ _ (rl r Y) (tr r Y) rfl (fun _=>rfl) fun _=>⟨rfl,rfl⟩;unfold C2;unfold C2 at this;rw[this];show some (PyData.list _)=some (PyData.list (BF _));unfold BF FA;rw[List.map_map];rfl
  have c2:C2 (Et 1) F0 (Ci P8 (Al (nm 1) (Al (nm 2) Cc))) [none,none,some 8] (JI (CU GK (nm 5) (fC (.int 1)))) [.no,.no,.no,.d (CS uss),.d (.list (AR rs)),.d (Bn t),.no,.d (Aj h),.d (Aj c),.own (.lst (AR (DV uss rs h (AJ t)).2)),R,M,I,.no]=some (ES (FA t c).ls):=row t.ls _ _ _ (by rw[o.tab.last];exact tn) tl rfl (fun _=>rfl) fun _=>⟨rfl,rfl⟩;exact Z7 (BD c1 (BD (fs:=Cc) (xs:=[]) c2 rfl)) (show 2<=El by decide)
 refine L7 (Cu (BD (Cu (xs:=[Bn (FA t c),CS uss,.list (AR rs),Aj h]) rfl (Sd q2)) (BD (Cu (xs:=[Bn t,CS uss,.list (AR rs),Aj (h*c)]) ?_ (Sd q3)) rfl)) (Sa (by rw[q.times q3]) (XD (by rw[q.times q3];lia))));exact BD rfl (BD rfl (BD rfl (BD (Cu (BD (x:=Aj h) rfl (BD (x:=Aj c) rfl rfl)) (VT hf cf (by decide))) rfl)))
def Vg(K:PySem.W.Frag):Sp:=fun vs H Q _=>∃(a:Addr) (ns:List Int),vs=[.ref a]/\AO K H a (ns.map V.int)/\ns.length<=63/\∀H',Q (.bl true) H'
theorem YG{many mo:Nat}(hmo:mo<=3){g:List (List IT.Tm)}(h1:1<=many)(h4:many<=4)(Z:g.length=many)(Ah:∀us∈g,Hg mo many us){rs:List Rat}(U:rs.length=many)(Y:∀r∈rs,Uq r){t:Tb}(ot:t.Ok 4)(M:t.Fits 3){most:Nat}(hm:most<=7):BS t (g.map fun us=>us.map Gn) rs most many:=by
 refine⟨ot,M,h4,by rw[List.length_map];exact Z,U,hm,fun us R=>?_,fun us R m hm=>?_,fun r hr=>(Y r hr).1,Yh Z h1 Ah⟩
 .obtain⟨ts,M,rfl⟩:=aJ.mp R;refine⟨by rw[List.length_map];exact(Ah ts M).1,fun m hm=>?_⟩;obtain⟨t,I,rfl⟩:=aJ.mp hm;exact(Ry ((Ah ts M).2.1 t I)).2.1
 .obtain⟨ts,M,rfl⟩:=aJ.mp R;obtain⟨t,I,rfl⟩:=aJ.mp hm;obtain⟨⟨l,sm⟩,ps,_⟩:=(Ah ts M).2.1 t I;exact⟨l,fun p hp=>(ps p hp).1,by have:(Gn t).1.sum<=(mo:Int):=sm;lia⟩
theorem kU{X:Cx}{g:List Stmt}{F:DF}{s1:Stmt}{t1:TS}{s2:Stmt}{Z:TS}{s3:Stmt}{t3:TS}{s4:Stmt}{Y:TS}{s5:Stmt}{U:TS}{s6:Stmt}{R:TS}{s7:Stmt}{M:TS}{s8:Stmt}{I:TS}(d:MS X g F)(p1:PS X s1 t1)(p2:PS X s2 Z)(p3:PS X s3 t3)(p4:PS X s4 Y)(p5:PS X s5 U)(p6:PS X s6 R)(p7:PS X s7 M)(p8:PS X s8 I){Pz:TS->Prop}(k:∀u:TS,(∀δ r,F δ=some r->∀G0 H0 G H σ D,Rw G0 H0 G H σ δ []->Fin G0 H0 D r->u D σ H)->Pz (Jo t1 (Jo Z (Jo t3 (Jo Y (Jo U (Jo R (Jo M (Jo I u))))))))):∃t,Ig X (s1::s2::s3::s4::s5::s6::s7::s8::g) t/\Pz t:=by
 obtain⟨t,pt,kt⟩:=d;exact⟨_,(AD p1 (AD p2 (AD p3 (AD p4 (AD p5 (AD p6 (AD p7 (AD p8 pt)))))))),k t kt⟩
section
variable{P:Program}{w:World}{K:PySem.W.Frag}{mg:Str->Option Value}{base:Heap}{f g1 g2 g3 g4 g5 g6 g7 g8 g9 g10:Addr}{fd gd1 gd2 gd3 gd4 gd5 gd6 gd7 gd8 gd9 gd10:FuncData}
theorem dm{k:Nat}(F:Fn K mg "law" Nq ["_law_script"] f fd)(BN:Fn K mg "_law_cell" Fc ["_law_script","_law_k"] g1 gd1)(Fm:Fn K mg "_law_change" Hn ["_law_script","_law_start_here","_law_many","_law_most"] g2 gd2)(GV:Fn K mg "_law_start" JO ["_law_cell_here","_law_many"] g3 gd3)(Ge:Fn K mg "_law_table" Ic ["_law_script","_law_start_here","_law_most"] g4 gd4)(BO:Fn K mg "_law_part" Ek ["_law_pile"] g5 gd5)(Eg:Fn K mg "step_rows" HI ["table","change","start","most"] g6 gd6)(EF:Fn K mg "step_to" Ji ["table","change","start","length"] g7 gd7)(Bv:Fn K mg "_law_same" HW ["_law_found","_law_due"] g8 gd8)(Di:Fn K mg "_law_by" Jc ["_law_one","_law_other"] g9 gd9)(Ef:Fn K mg "_law_plus" HJ ["_law_one","_law_other"] g10 gd10)
 (CD:AL P w K mg base AY k g1 gd1 ["_law_script","_law_k"] (Lx K))(QD:AL P w K mg base AY k g2 gd2 ["_law_script","_law_start_here","_law_many","_law_most"] (SW K))(Qm:AL P w K mg base AY k g3 gd3 ["_law_cell_here","_law_many"] Si)(Qn:AL P w K mg base AY k g4 gd4 ["_law_script","_law_start_here","_law_most"] (SA K))(Cf:AL P w K mg base AY k g5 gd5 ["_law_pile"] J8)(Jr:AL P w K mg base AY k g6 gd6 ["table","change","start","most"] (FD (Su 0)))(HX:AL P w K mg base AY k g7 gd7 ["table","change","start","length"] (FD Tu))(C9:AL P w K mg base AY k g8 gd8 ["_law_found","_law_due"] (FD (Nt 2)))(EG:AL P w K mg base AY k g9 gd9 ["_law_one","_law_other"] (FD P8))(Fg:AL P w K mg base AY k g10 gd10 ["_law_one","_law_other"] (FD ZY))
  : AL P w K mg base AY (k+1) f fd ["_law_script"] (Vg K):=by
 have sc:=WZ;refine F.F.ok (k:=k) sc (fun vs H Q E h=>?_) (fun cdv A outer s H vs Q E g h=>?_)
 .obtain⟨a,ns,rfl,_⟩:=h
  rfl
 obtain⟨a,ns,rfl,R,h63,q⟩:=h
 refine' kU (Xf Di EG Ef Fg Bv C9 Eg Jr EF HX cdv A outer s H E g) ?p1 ?p2 ?p3 ?p4 ?p5 ?p6 ?p7 ?p8 ?kk
 case p1=>exact(AU (i:=1) sc.nd rfl (Or.inl rfl) (Aa B2 AE (Aa JQ (AX BN CD g rfl (AA (pv 0) (AA AE AB))) AE)))
 case p2=>exact(AU (i:=2) sc.nd rfl (Or.inl rfl) (Aa JQ (Aa Ti (AX BN CD g rfl (AA (pv 0) (AA AE AB))) AE) AE))
 case p3=>exact(AU (i:=3) sc.nd rfl (Or.inl rfl) (AX Fm QD g rfl (AA (pv 0) (AA AE (AA (pv 1) (AA (Aa FW AE (pv 2)) AB))))))
 case p4=>exact(AU (i:=4) sc.nd rfl (Or.inl rfl) (AX GV Qm g rfl (AA (AX BN CD g rfl (AA (pv 0) (AA AE AB))) (AA (pv 1) AB))))
 case p5=>exact(AU (i:=5) sc.nd rfl (Or.inl rfl) (AX Ge Qn g rfl (AA (pv 0) (AA AE (AA (Aa B2 AE (pv 2)) AB)))))
 case p6=>exact(AU (i:=6) sc.nd rfl (Or.inl rfl) (CA (AA (AX BN CD g rfl (AA (pv 0) (AA AE AB))) AB)))
 case p7=>exact(AU (i:=7) sc.nd rfl (Or.inl rfl) (AX BO Cf g rfl (AA (pv 6) AB)))
 case p8=>exact(AU (i:=8) sc.nd rfl (Or.inr rfl) (AX BO Cf g rfl (AA (pv 6) AB)))
 intro u kt;refine⟨_,rfl,a,ns,0,rfl,R,by decide,by decide,fun x0=>⟨_,_,rfl,rfl,(by show(0:Int)<3;decide),_,_,rfl,rfl,?_⟩⟩;obtain⟨many,Y,hm3,em⟩:∃many:Nat,1<=many/\many<=3/\1+x0 % 3=(many:Int):=⟨(1+x0 % 3).toNat,by lia,by lia,by lia⟩;rw[show((fun i j:Int=>V.int (i+j)) 1 (x0 % 3))=V.int (many:Int) from bP V.int em];have U:many<=4:=by lia
 refine⟨_,rfl,a,ns,0,rfl,R,by decide,by decide,fun x1=>⟨_,_,rfl,rfl,⟨by decide,by decide⟩,_,_,rfl,rfl,(by show(0:Int)<2;decide),?_⟩⟩;obtain⟨mo,mt,hmo1,hmt1,hmm,f1,f2⟩:∃mo mt:Nat,1<=mo/\2<=mt/\mo+mt=4/\2-x1 / 3 % 2=(mo:Int)/\2+x1 / 3 % 2=(mt:Int):=⟨(2-x1 / 3 % 2).toNat,(2+x1 / 3 % 2).toNat,by lia,by lia,by lia,by lia,by lia⟩;refine⟨_,rfl,_,rfl,_,rfl,_,_,rfl,rfl,a,ns,many,mo,by show [V.ref a,.int 1,.int many,.int (2-x1 / 3 % 2)]=_;rw[f1],by lia,R,Y,U,fun vC H1 I e1 htl Ah dC=>?_⟩;refine⟨_,rfl,a,ns,5,rfl,e1.seq R,by decide,by decide,fun x2=>⟨_,rfl,x2,many,rfl,U,fun S H2 xs rs e2 hS dx hrl hrf=>?_⟩⟩;have E2:=e1.trans e2;refine⟨_,rfl,_,rfl,_,_,rfl,rfl,a,ns,mt,by show [V.ref a,.int 6,.int (2+x1 / 3 % 2)]=_;rw[f2],by lia,by lia,E2.seq R,fun vt H3 t e3 dt ot ht hrs hls=>?_⟩;have E3:=E2.trans e3;have tf:t.Fits 3:=⟨fun r g q M=>(hrs r g q M).1,fun q M=>(hls q M).1⟩;have o:=YG (by lia:mo<=3) Y U htl Ah hrl hrf ot tf (aD 7);have hs:∀us∈I.map (fun us=>us.map Gn),∀m∈us,m.1.sum<=(mo:Int):=fun us hu m hm=>by
  obtain⟨ts,ht,rfl⟩:=aJ.mp hu;obtain⟨t,htm,rfl⟩:=aJ.mp hm;exact((Ah ts ht).2.1 t htm).1.2
 have co:EV (I.map fun us=>us.map Gn) many:=by
  refine⟨by rw[List.length_map];lia,fun us hu=>?_⟩;have hu':=hu;obtain⟨ts,ht,rfl⟩:=aJ.mp hu;refine⟨by rw[List.length_map];exact(Ah ts ht).1,fun m hm=>?_⟩;have hs':=hs _ hu' m hm;obtain⟨t,htm,rfl⟩:=aJ.mp hm;have tk:=(Ah ts ht).2.1 t htm;obtain⟨_,g2,g3,_⟩:=Ry tk;exact⟨g2,g3,tk.1.1,tk.2.1,Nm fun p hp=>(tk.2.1 p hp).1,by show(Gn t).1.sum<=2;lia⟩
 have dC:DU H1 (CS (I.map fun us=>us.map Gn)) vC:=by
  have e:(I.map fun us=>us.map Gn).map CP=I.map HZ:=by
   rw[List.map_map];exact aW fun us hu=>(UI (Ah us hu)).symm
  show DU H1 (.list ((I.map fun us=>us.map Gn).map CP)) vC;rw[e];exact dC
 generalize I.map (fun us=>us.map Gn)=uss at o hs co dC;refine⟨_,rfl,a,ns,13,rfl,E3.seq R,by decide,by decide,fun x3=>⟨BJ (show 1<=60 by decide),fun l hl=>?_⟩⟩;have e4:=AK hl (.lst [.int x3]);have hl4:upd H3 l (.lst [.int x3]) l=some (.lst [.int x3]):=AH;generalize upd H3 l (.lst [.int x3])=H4 at e4 hl4;refine⟨_,rfl,l,x3,rfl,hl4,fun p h y5 H5 e5 hp h6 h7=>?_⟩;have hl5:H5 l=some (.lst [.int y5]):=e5 _ _ AH;refine⟨_,rfl,l,y5,rfl,hl5,fun p2 c y6 H6 e6 hp2 c6 c7=>?_⟩;have Z:AG H3 H6:=fun b u z=>e6 _ _ (by rw[AI (AM z hl)];exact e5 _ _ (by rw[AI (AM z hl)];exact e4 _ _ z));have hp6:H6 p=some (.tup (Gd h)):=e6 _ _ (by rw[AI (fun z=>by rw[z,hl5]at hp;cases hp)];exact hp);have hf:FM.Fits h 3:=⟨aL h6 (by decide),Nat.lt_of_le_of_lt h7 (by decide)⟩;have cf:FM.Fits c 3:=⟨aL c6 (by decide),Nat.lt_of_le_of_lt c7 (by decide)⟩;have rfit:∀r∈AJ t,∀q∈r,FM.Fits q 3:=fun r g q M=>by
  unfold AJ at g;rcases aS.mp g with z|z
  .exact tf.1 r (bh z) q M
  .rw[List.mem_singleton.mp z]at M;exact tf.2 q M
 have q1:∀h:Rat,FM.Fits h 6->Em t uss rs h many:=fun h hf=>⟨ot,by lia,fun r g q M=>(rfit r g q M).mono,co,o.good,o.len,hrl,hrf,Y,U,hf⟩;have q2:Em (FA t c) uss rs h many:=by
  refine⟨⟨by show 1<=(t.rs.map _).length;rw[List.length_map];exact ot.one,by show(t.rs.map _).length<=4;rw[List.length_map];exact ot.most,by show(t.ls.map _).length=(t.rs.map _).length;rw[List.length_map,List.length_map];exact ot.last,fun i r g=>?_⟩,by show(t.rs.map _).length<=3;rw[List.length_map];lia,fun r g q M=>?_,co,o.good,o.len,hrl,hrf,Y,U,hf.mono⟩
  .have g:(t.rs.map fun r=>r.map fun q=>q*c)[i]? = some r:=g;rw[List.getElem?_map]at g;obtain⟨r',h1,rfl⟩:=aH.mp g;rw[List.length_map];exact ot.row i r' h1
  .rw[NO]at g;obtain⟨r',h1,rfl⟩:=aJ.mp g;obtain⟨q',h2,rfl⟩:=aJ.mp M;exact(rfit r' h1 q' h2).times cf
 have hrr:(AJ t).length=t.rs.length:=by unfold AJ;have:=ot.one;simp;lia
 have hd:Ms mo (AJ t).length 0<=7:=by
  have h1:=ot.one;have:(AJ t).length<=2\/(mo=1/\(AJ t).length<=3):=by lia
  rcases this with z|⟨rfl,z⟩
  .have:mo=1\/mo=2:=by lia
   rcases this with rfl|rfl
   all_goals
    rcases hn:(AJ t).length with _|_|_|n
    .decide
    .decide
    .decide
    .lia
  .rcases hn:(AJ t).length with _|_|_|_|n
   .decide
   .decide
   .decide
   .decide
   .lia
 refine kt _ _ (gN o hf cf (q1 h (hf.mono)) q2 (q1 (h*c) (hf.times cf)) hmo1 hs hd) H6 H6 H6 H6 _ _ ⟨.refl _,Nw.refl,.refl _,.refl _,rfl,fun i x h=>?_,fun i xs h=>?_,fun i j xs ys _ h=>?_,fun q M=>by cases M⟩ fun v G' H' _ _ _ _ dv=>?_
 .rcases i with _|_|_|_|_|_|_|_|_|_|_|_|_|_|i
  all_goals first|(cases h;done)|(simp at h;done)|skip
  .cases h;exact⟨_,rfl,(dC.same (e2.trans (e3.trans Z))).du⟩
  .cases h;exact⟨_,rfl,(DU.lst (Z _ _ (e3 _ _ hS)) (dx.same (e3.trans Z))).du⟩
  .cases h;exact⟨_,rfl,(dt.same Z).du⟩
  .cases h;exact⟨_,rfl,(Lp hp6).du⟩
  .cases h;exact⟨_,rfl,(Lp hp2).du⟩
 .rcases i with _|_|_|_|_|_|_|_|_|_|_|_|_|_|i
  all_goals first|(cases h;done)|(simp at h)
 .rcases i with _|_|_|_|_|_|_|_|_|_|_|_|_|_|i
  all_goals first|(cases h;done)|(simp at h)
 .rw[Du]at dv;subst dv;exact q H'
end
section
open PySem.W
theorem fnX{w:World}{mg:Str->Option Value}{h:Heap}(X:(kH w.params).In h)(G:h.Ns mainGlobals mg)(n:String)(i:Nat)(m:String)(t c f:Nat)(ps:List Str)
 (ha:nsIn (kH w.params) mainGlobals (Str.ofString n)=some (some (.ref f)):=by kernel_rfl)(g:(kH w.params).lookup f=some (fO n i m t c):=by kernel_rfl)(M:codeIn (kH w.params) (.ref c) (Str.ofString n)=true:=by kernel_rfl)(I:keepIn (kH w.params) (.ref f)=true:=by kernel_rfl)
 (R:∀(kV doc pm:Value) (an:Option Addr) (cdv ct:Value) (us:List Value),us.length=ps.length->bindArgs (fnOf (Str.ofString n) (Str.ofString n) (FL (top i)) (DZ (top i)) (AN (top i)) .none kV doc pm an cdv ct) ⟨us,[]⟩=pure (ps.zip us):=by first|(exact fun _ _ _ _ _ _ us g=>match us,g with|[_],_=>rfl)|(exact fun _ _ _ _ _ _ us g=>match us,g with|[_,_],_=>rfl)|(exact fun _ _ _ _ _ _ us g=>match us,g with|[_,_,_],_=>rfl)|(exact fun _ _ _ _ _ _ us g=>match us,g with|[_,_,_,_],_=>rfl)|(exact fun _ _ _ _ _ _ us g=>match us,g with|[_,_,_,_,_],_=>rfl)|(exact fun _ _ _ _ _ _ us g=>match us,g with|[],_=>rfl)) :
  Fn (kH w.params) mg (Str.ofString n) (top i) ps f (fnOf (Str.ofString n) (Str.ofString n) (FL (top i)) (DZ (top i)) (AN (top i)) .none .none .none (.str (Str.ofString m) t) none (.ref c) .none) :=
 ⟨WU g M I,(WU (st:=top i) g M I).binds R,mg_of X G ha⟩
set_option maxHeartbeats 4000000 in
theorem j5(w:World)(mg:Str->Option Value)(fa:Addr)(h:Heap)(X:(kH w.params).In h)(G:h.Ns mainGlobals mg)(hfa:mg "law" = some (.ref fa)) :
  ∃fd:FuncData,(∀(s:Shared) (v:Value),BindsTo s fd ⟨[v],[]⟩ [("_law_script",v)])/\∀base:Heap,(kH w.params).In base->base.Ns mainGlobals mg->AL DQ.prog w (kH w.params) mg base AY 10 fa fd ["_law_script"] (Vg (kH w.params)):=by
 have e:=hfa.symm.trans (mg_of X G (v:=.ref 444) (by kernel_rfl));cases e;have Bm:=fnX X G "fraction_of" 8 "stepgrove.fracs" 287 93 94 ["top","bottom"];have Cv:=fnX X G "is_fraction" 9 "stepgrove.fracs" 287 100 101 ["thing"];have BV:=fnX X G "are_fractions" 10 "stepgrove.fracs" 287 107 108 ["thing"];have Dh:=fnX X G "is_whole" 11 "stepgrove.fracs" 287 114 115 ["thing"];have Au:=fnX X G "greatest_divisor" 12 "stepgrove.fracs" 287 121 122 ["one","other"];have R:=fnX X G "common_bottom" 13 "stepgrove.fracs" 287 128 129 ["bottoms"];have GG:=fnX X G "frac_total" 14 "stepgrove.fracs" 287 133 134 ["some"];have CQ:=fnX X G "power_of" 15 "stepgrove.fracs" 287 140 141 ["base","power"];have JZ:=fnX X G "is_poly" 17 "stepgrove.polys" 357 147 148 ["thing","unknowns"];have Jh:=fnX X G "is_term" 18 "stepgrove.polys" 357 154 155 ["thing","unknowns"];have GD:=fnX X G "are_powers" 19 "stepgrove.polys" 357 161 162 ["thing","unknowns"];have EA:=fnX X G "refuse_no_start" 20 "stepgrove.polys" 357 168 169 ["thing","unknowns"];have Zk:=fnX X G "refuse_start" 21 "stepgrove.polys" 357 175 176 [];have EX:=fnX X G "one_less" 22 "stepgrove.polys" 357 182 183 ["powers","k"];have IG:=fnX X G "worth_at" 23 "stepgrove.polys" 357 187 188 ["some","start"];have Gb:=fnX X G "term_worth" 24 "stepgrove.polys" 357 194 195 ["powers","part","start"];have EK:=fnX X G "grain_of" 26 "stepgrove.wholes" 427 199 200 ["start"];have FE:=fnX X G "pace_of" 27 "stepgrove.wholes" 427 206 207 ["change","grain"];have Bx:=fnX X G "tops_over" 28 "stepgrove.wholes" 427 211 212 ["some","bottom"];have FN:=fnX X G "table_bottom" 29 "stepgrove.wholes" 427 216 217 ["table"];have Cb:=fnX X G "whole_change" 30 "stepgrove.wholes" 427 221 222 ["change","grain"];have GX:=fnX X G "whole_poly" 31 "stepgrove.wholes" 427 228 229 ["some","bottom","grain","greatest"];have CH:=fnX X G "speeds_bottom" 32 "stepgrove.wholes" 427 233 234 ["change"];have B7:=fnX X G "greatest_power" 33 "stepgrove.wholes" 427 240 241 ["change"];have HL:=fnX X G "is_change" 35 "stepgrove.changes" 492 247 248 ["thing"];have Dj:=fnX X G "refuse_no_change" 36 "stepgrove.changes" 492 254 255 ["thing"];have D7:=fnX X G "refuse_too_many" 39 "stepgrove.growth" 509 261 262 ["most"];have Dg:=fnX X G "row_of_fractions" 40 "stepgrove.growth" 509 268 269 ["row","pace","grain"];have Eo:=fnX X G "powers_needed" 41 "stepgrove.growth" 509 275 276 ["change"];have CL:=fnX X G "first_unknown" 42 "stepgrove.growth" 509 282 283 ["powers"];have Gm:=fnX X G "product_at" 43 "stepgrove.growth" 509 287 288 ["products","rows","powers","k"];have IL:=fnX X G "speed_at" 44 "stepgrove.growth" 509 292 293 ["some","products","k"];have Hy:=fnX X G "is_table" 47 "stepgrove.tables" 564 299 300 ["thing"];have D8:=fnX X G "refuse_no_table" 48 "stepgrove.tables" 564 306 307 ["thing"];have Hx:=fnX X G "are_rows" 49 "stepgrove.tables" 564 313 314 ["thing"];have EF:=fnX X G "step_to" 51 "stepgrove.steps" 591 318 319 ["table","change","start","length"];have Eg:=fnX X G "step_rows" 52 "stepgrove.steps" 591 323 324 ["table","change","start","most"]
 have B5:=fnX X G "refuse_no_step" 53 "stepgrove.steps" 591 330 331 ["table","change","start"];have B4:=fnX X G "rows_that_read" 54 "stepgrove.steps" 591 337 338 ["table"];have HQ:=fnX X G "speeds_at" 55 "stepgrove.steps" 591 342 343 ["change","place"];have KW:=fnX X G "led_to" 56 "stepgrove.steps" 591 347 348 ["start","row","speeds","length"];have GZ:=fnX X G "whole_step" 57 "stepgrove.steps" 591 352 353 ["reading","change","start","most"];have GP:=fnX X G "speed_rows" 58 "stepgrove.steps" 591 357 358 ["change","order","places","most"];have Ja:=fnX X G "read_at" 59 "stepgrove.steps" 591 362 363 ["row","speeds","unknown","most"];have BN:=fnX X G "_law_cell" 61 "law_stepgrove_k36_whole_steps_of_lengths" 651 369 370 ["_law_script","_law_k"];have Bw:=fnX X G "_law_take" 62 "law_stepgrove_k36_whole_steps_of_lengths" 651 376 377 ["_law_pile","_law_size"];have Fl:=fnX X G "_law_shared" 63 "law_stepgrove_k36_whole_steps_of_lengths" 651 383 384 ["_law_one","_law_other"];have CF:=fnX X G "_law_frac" 64 "law_stepgrove_k36_whole_steps_of_lengths" 651 390 391 ["_law_top","_law_bottom"];have Ef:=fnX X G "_law_plus" 65 "law_stepgrove_k36_whole_steps_of_lengths" 651 397 398 ["_law_one","_law_other"];have Di:=fnX X G "_law_by" 66 "law_stepgrove_k36_whole_steps_of_lengths" 651 404 405 ["_law_one","_law_other"];have BO:=fnX X G "_law_part" 67 "law_stepgrove_k36_whole_steps_of_lengths" 651 411 412 ["_law_pile"];have HH:=fnX X G "_law_poly" 68 "law_stepgrove_k36_whole_steps_of_lengths" 651 418 419 ["_law_pile","_law_many","_law_most"];have Fm:=fnX X G "_law_change" 69 "law_stepgrove_k36_whole_steps_of_lengths" 651 423 424 ["_law_script","_law_start_here","_law_many","_law_most"];have GV:=fnX X G "_law_start" 70 "law_stepgrove_k36_whole_steps_of_lengths" 651 428 429 ["_law_cell_here","_law_many"];have Ge:=fnX X G "_law_table" 71 "law_stepgrove_k36_whole_steps_of_lengths" 651 433 434 ["_law_script","_law_start_here","_law_most"];have Bv:=fnX X G "_law_same" 72 "law_stepgrove_k36_whole_steps_of_lengths" 651 438 439 ["_law_found","_law_due"];have gY:=fnX X G "law" 73 "law_stepgrove_k36_whole_steps_of_lengths" 651 443 444 ["_law_script"];have g:mg "len" = none:=mg_none_of X G (by kernel_rfl);have M:mg "range" = none:=mg_none_of X G (by kernel_rfl);have Kk:mg "abs" = none:=mg_none_of X G (by kernel_rfl);have I:mg "isinstance" = none:=mg_none_of X G (by kernel_rfl);have KQ:mg "int" = none:=mg_none_of X G (by kernel_rfl);have Ik:mg "bool" = none:=mg_none_of X G (by kernel_rfl);have Y:mg "tuple" = none:=mg_none_of X G (by kernel_rfl);have CZ:mg "list" = none:=mg_none_of X G (by kernel_rfl);have Ce:mg "enumerate" = none:=mg_none_of X G (by kernel_rfl);have U:mg "sum" = none:=mg_none_of X G (by kernel_rfl);have EM:mg "zip" = none:=mg_none_of X G (by kernel_rfl);have HB:mg "sorted" = none:=mg_none_of X G (by kernel_rfl);have Qb:mg "all" = none:=mg_none_of X G (by kernel_rfl);have U8:mg "max" = none:=mg_none_of X G (by kernel_rfl);have a_MP:nsIn (kH w.params) mainGlobals "MOST_POWER" = some (some (.int 7 511)):=by kernel_rfl
 have Z:nsIn (kH w.params) mainGlobals "MOST_ROWS" = some (some (.int 40 566)):=by kernel_rfl
 refine⟨fnOf (Str.ofString "law") (Str.ofString "law") (FL (top 73)) (DZ (top 73)) (AN (top 73)) .none .none .none (.str (Str.ofString "law_stepgrove_k36_whole_steps_of_lengths") 651) none (.ref 443) .none,fun s v=>.of_eq rfl,fun base _ _=>?_⟩;have Il:=PySem.W.mg_of X G a_MP;have Jx:=PySem.W.mg_of X G Z;have VF:=Kt (P:=DQ.prog) (w:=w) (base:=base) Au Kk;have YK:=OU Bm Au VF;have fR:=Tc (P:=DQ.prog) (w:=w) (base:=base) Dh I KQ Ik;have Wo:=N8 Cv Dh Au fR VF I Y g;have Xw:=M9 BV Cv Wo I CZ;have jb:=Sz Hx BV Xw Jx I CZ g Ce;have jc:=TZ Hy Hx BV jb (Xw.mono) I Y g;have jS:=LM D8 Hy (jc.mono);have gQ:=QO GD Dh fR I Y g;have jv:=VJ Jh GD Cv gQ Wo I Y g;have jR:=VS JZ Jh jv I CZ Ce;have j9:=RF HL JZ jR I CZ g;have jd:=Kv Dj HL (j9.mono);have jV:=LL EA BV (Xw.mono) g;have fX:=MK B5 D8 Dj EA (jS.mono) jd (jV.mono) g;have iT:=K5 (P:=DQ.prog) (w:=w) (base:=base) D7 Il;have U6:=MN R Au VF;have kK:=Nv FN R U6;have VW:=TQ (P:=DQ.prog) (w:=w) (base:=base) CQ;have Xx:=Rx (P:=DQ.prog) (w:=w) (base:=base) Bx;have fw:=Te EK R U6;have fK:=MZ CH R U6;have ej:=MM (P:=DQ.prog) (w:=w) (base:=base) B7 U8 U;have kQ:=P9 GX CQ VW U;have cR:=N0 Cb CH B7 GX fK (ej.mono) (kQ.mono);have cy:=VU FE CH B7 CQ fK (ej.mono) (VW.mono);have gG:=MI (P:=DQ.prog) (w:=w) (base:=base) B4;have dD:=TC (P:=DQ.prog) (w:=w) (base:=base) EX;have eY:=Mu (P:=DQ.prog) (w:=w) (base:=base) CL;have jU:=Mj Eo CL EX eY dD U HB;have iH:=QA Gm CL EX eY dD U M;have jx:=S9 (P:=DQ.prog) (w:=w) (base:=base) IL U;have iJ:=QC GP Gm IL iH jx M;have LS:=U3 (P:=DQ.prog) (w:=w) (base:=base) (k:=0) Ja EM;have iQ:=QF GZ Eo GP Ja (jU.mono) iJ (LS.mono) Ce;have gS:=Ku Dg Bm YK;have iD:=RT Eg B5 D7 EK FN B4 Bx GZ Cb FE Dg fX (iT.mono) (fw.mono) (kK.mono) (gG.mono) (Xx.mono) (iQ.mono) (cR.mono) (cy.mono) (gS.mono);have XU:=Rf (P:=DQ.prog) (w:=w) (base:=base) Bw;have YM:=OZ (P:=DQ.prog) (w:=w) (base:=base) Fl Kk;have XF:=SV CF Fl YM;have Sh:=SS (P:=DQ.prog) (w:=w) (base:=base) BN g M;have NN:=Q9 BO Bw CF (XU.mono) XF;have kJ:=RB HH Bw BO (XU.mono) NN M HB Y;have jD:=OC Fm BN HH (Sh.mono) kJ M;have jI:=Oe GV BO NN M;have kB:=Od Ge BN BO (Sh.mono) NN M;have iL:=M8 R Au VF;have iP:=Ob GG R Bm iL YK U;have ji:=OT Gb CQ VW EM;have jW:=Rl IG GG Gb iP (ji.mono);have jX:=Qe HQ Cb IG FE cR jW cy;have jG:=XA KW R Bx U6 (Xx.mono) EM;have jE:=VO EF B5 EK Bx B4 HQ KW Bm (fX.mono) (fw.mono) (Xx.mono) (gG.mono) (jX.mono) (jG.mono) (YK.mono);have g_same:=LX (P:=DQ.prog) (w:=w) (base:=base) Bv I CZ Y KQ Ik g Qb EM 3;have C8:=jY XF;have C9:=dH (n:=2) g_same;have Fg:=Rc (P:=DQ.prog) (w:=w) (base:=base) (k:=2) Ef CF (C8.mono);have EG:=VQ (P:=DQ.prog) (w:=w) (base:=base) (k:=2) Di CF (C8.mono);exact dm (k:=9) gY BN Fm GV Ge BO Eg EF Bv Di Ef (Sh.mono) (jD.mono) (jI.mono) (kB.mono) (NN.mono) ((jM iD).mono) ((kI jE).mono) (C9.mono) (EG.mono) (Fg.mono)
theorem walkX:WalkO qX [] (XL qX []) hX.says DQ.row.toRowW dX [] (fun f vs=>PySem.call f vs) :=
 L2.Z0 (l:=DQ) (n:=63) (k:=10) (x := "_law_script") (CX:=fun _=>AY) (K:=kH) (sp:=fun w=>Vg (kH w.params)) rfl (by decide) rfl ⟨rfl,by decide,by decide⟩ (fun w mg h X G H d e=>by rw[mg_none_of X G (by kernel_rfl)]at e;cases e) (fun w h Y=>kIn_of Y) j5 (fun _ _ a ns g _ I=>⟨a,ns,rfl,I,g,fun _=>rfl⟩) fun _ _ _ _ _ z=>z
end
end Q36
open PySem PySem.W PyProof.Rows
set_option maxRecDepth 100000 in
theorem PySem.Challenge.cw_stepgrove_k36_whole_steps_of_lengths_holds : PySem.Challenge.rw_stepgrove_k36_whole_steps_of_lengths.Holds := by
  refine Q36.openX ?hw Q36.walkX
  w_witness2
#print axioms PySem.Challenge.cw_stepgrove_k36_whole_steps_of_lengths_holds
