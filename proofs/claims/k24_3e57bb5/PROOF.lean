import PyProof.Rows.All
import Wide.All
import OpenK.AllK
import Wide.FinOn
import Lean
import PyProof.EqAt
import PyProof.EqKinds
import PyProof.TupleCall
import PySem.Challenge.RW_stepgrove_k24_true_growth
set_option Elab.async false
set_option linter.all false
set_option maxRecDepth 100000
set_option maxHeartbeats 4000000
abbrev aA:=@PySem.wpAny_bind
abbrev aB:=@PySem.wpAny_pure
abbrev aC:=@List.getElem?_eq_some_iff
abbrev aD:=@PySem.Heap.get?_push_of_some
abbrev aE:=@PySem.Heap.lt_size
abbrev aF:=@Option.bind_eq_some_iff
abbrev aG:=@Nat.le_refl
abbrev aH:=@Option.map_eq_some_iff
abbrev aI:=@List.getElem?_eq_getElem
abbrev aJ:=@Bool.false_ne_true
abbrev aK:=@PySem.PassesOwn.never
abbrev aL:=@List.mem_of_getElem?
abbrev aM:=@PyProof.Rows.boot_isinstance
abbrev aN:=@Nat.ne_of_lt
abbrev aO:=@Nat.lt_of_lt_of_le
abbrev aP:=@Nat.lt_of_le_of_lt
abbrev aQ:=@List.mem_map
abbrev aR:=@Nat.le_trans
abbrev aS:=@List.mem_cons
abbrev aT:=@PySem.Heap.get?_push_size
abbrev aU:=@List.map_congr_left
abbrev aV:=@List.mem_cons_of_mem
abbrev aW:=@Option.some.inj
abbrev aX:=@PySem.wpAny_newObj_type
abbrev aY:=@Nat.mul_le_mul_left
abbrev aZ:=@List.mem_append
abbrev aa:=@List.mem_cons_self
abbrev ab:=@PySem.wpAny_mono
abbrev ae:=@PyProof.Rows.boot_list
abbrev af:=@PySem.wpAny_setField_rec
abbrev ag:=@List.mem_append_right
abbrev ah:=@PySem.wpAny_field
abbrev ai:=@PySem.wpAny_callSpecial?_slot
abbrev aj:=@of_decide_eq_true
abbrev ak:=@Nat.zero_le
abbrev ao:=@PySem.wpAny_call_entry
abbrev aq:=@Nat.ne_of_gt
abbrev ar:=@Bool.eq_false_iff
abbrev au:=@List.mem_range
abbrev av:=@PySem.boot_len
abbrev ax:=@List.getElem_mem
abbrev ay:=@PySem.wpAny_typeNameOfWhole_itemiter
abbrev az:=@PySem.wpAny_isOneOf_itemiter
abbrev bA:=@PySem.F.slot_dict_itemiterator_next
abbrev bC:=@PySem.Heap.SameBut.update
abbrev bD:=@congrArg
abbrev bE:=@PySem.W.kia_one
abbrev bF:=@PyProof.Rows.callWith_type1
abbrev bG:=@PyProof.Rows.boot_tuple
abbrev bH:=@PySem.F.plainAttrs_list
abbrev bI:=@Nat.pow_le_pow_right
abbrev bJ:=@List.getElem?_of_mem
abbrev bK:=@PySem.wpAny_holding
abbrev bL:=@decide_eq_false
abbrev bM:=@PySem.wpAny_typeNameOf_itemiter
abbrev bN:=@of_decide_eq_false
abbrev bO:=@List.mem_append_left
abbrev bP:=@decide_eq_true
abbrev bQ:=@Nat.lt_succ_of_lt
abbrev bR:=@Nat.add_le_add_left
abbrev bS:=@List.not_mem_nil
abbrev bT:=@PyProof.Rows.boot_sum
abbrev bU:=@PySem.F.plain_extend_loop
abbrev bV:=@Nat.le_of_lt
abbrev bW:=@PyProof.Rows.KeyOrd.kle_refl
abbrev bX:=@PySem.F.slot_list_append
abbrev bY:=@PySem.F.type_list_append
abbrev bZ:=@PySem.wpAny_truthy_bool
abbrev ba:=@PySem.wpAny_dictEntries
abbrev bb:=@List.eq_nil_of_length_eq_zero
abbrev bc:=@PySem.wpAny_seqItems
abbrev bf:=@PySem.wpAny_fieldsOf
abbrev bg:=@List.nodup_cons
namespace Opn
open PySem PySem.W PyProof.Rows PySem.Calls
noncomputable def q0:Pos:=⟨0,0,0,0⟩
noncomputable def eZ:Obj:={ cls:=.type "tuple",data:=.seq #[]}
noncomputable def eX:Obj:={ cls:=.none,data:=.fields #[]}
noncomputable def eW:Obj:={ cls:=.type "code",data:=.fields #[.str (Str.ofString "<module>") 182,.str (Str.ofString "<module>") 183,.str (Str.ofString "/claim/cut.py") 184,.int 1 0,.int 0 0,.int 0 0,.int 0 0,.int 0 0,.ref 11,.bool false,.int 181 0,.ref 12,.none,.none,.none,.none,.int 185 0,.int 1 0,.str (Str.ofString "/claim/cut.py") 186]}
noncomputable def eP:Obj:={ cls:=.type "frame",slots:=#[some (.ref 13),some (.ref 3),some (.ref 3),none,some (.str (Str.ofString "__main__") 164),none,some (.ref 0)]}
noncomputable def dR(P:Params):List Obj:=(boot_heap P).objs.toList++[eZ,eX,eW,eP]
noncomputable def nN(P:Params)(o:Params→Obj)(l r:BT):BT:=.node (o P) l r
noncomputable def lN(P:Params)(o:Params→Obj):BT:=.node (o P) .nil .nil
noncomputable def cj(P:Params):BT :=
 nN P boot_o_0 (nN P boot_o_1 (nN P boot_o_3 (lN P boot_o_7) (.node eZ .nil .nil)) (nN P boot_o_5 (lN P boot_o_9) (.node eW .nil .nil)))
  (nN P boot_o_2 (nN P boot_o_4 (lN P boot_o_8) (.node eX .nil .nil)) (nN P boot_o_6 (lN P boot_o_10) (.node eP .nil .nil)))
noncomputable def XG:Life:=Life.mk [] [] [] 0 [] [] false #[] [] 0 false false false 0 [2000,10,10] false 0 true [] [] 0 false
noncomputable def sA(w:World)(os:OsState):Shared:=⟨⟨⟨dR w.params⟩,XG⟩,#[],boot_drawn,187,os⟩
noncomputable def sB(w:World)(os:OsState):SharedT:=⟨cj w.params,15,XG,#[],boot_drawn,187,os⟩
noncomputable def Lo(p:Program):Env:={ scope:=p.main.scope,locals:=mainNs,globals:=mainNs,cells:=[],code:=.ref 13,frame:=some 14}
noncomputable def cB(p:Program):Code:=.body (behindTheImports p) (Lo p)
noncomputable abbrev Gj:Option Value:=some (.ref 6)
noncomputable abbrev bB:List Frame:=[topFrame q0]
noncomputable def Ta(p:Program)(M:Nat)(w:World)(os:OsState):Option (Flow×SharedT×Code×Pos) :=
 PySem.W.Fast.tw10110043849684766642 PySem.W.Fast.tw14364793385576792824 p w 11 Gj 1 M (sB w os) (piecesOf (behindTheImports p) (Lo p) (cB p) q0 bB)
noncomputable def Te(p:Program)(M:Nat)(w:World)(os:OsState):SharedT:=match Ta p M w os with|some (_,s,_)=>s|none=>sB w os
theorem YK{p:Program}{M:Nat}{w:World}{os:OsState}{r:Option (Flow×SharedT×Code×Pos)}(h:Ta p M w os=r) :
  segRunT treeTable p w 11 Gj 1 M (sB w os) (piecesOf (behindTheImports p) (Lo p) (cB p) q0 bB)=r:=by
 have e:segRunT treeTable=PySem.W.Fast.tw10110043849684766642 PySem.W.Fast.tw14364793385576792824:=congr PySem.W.Fast.te10110043849684766642 PySem.W.Fast.te14364793385576792824;rw[e];exact h
theorem Z5{p:Program}{M M0:Nat}{posE:Pos}{w:World}{os:OsState}
 (pre:topGo treeTable p w 11 Gj 12 ⟨boot_heap w.params,#[],boot_drawn,boot_toks,os⟩ (topStub p)=some (sA w os,⟨denote treeTable (cB p),cB p,q0,bB⟩))
 (blk:segRun treeTable p w 11 Gj 1 1 (sA w os) (blockOf (behindTheImports p) (Lo p) (cB p) q0 bB)=some (.next,(sB w os).abs,cB p,q0))
 (seg:Ta p M w os=some (.next,Te p M w os,cB p,posE))
 (fin:∀s,topRun treeTable p w 11 Gj 2 s (restOf [] (Lo p) (cB p) posE bB)=some s)(hM:M0=12+(1+(M+2))) :
  topRun treeTable p w 11 Gj M0 ⟨boot_heap w.params,#[],boot_drawn,boot_toks,os⟩ (topStub p)=some (Te p M w os).abs:=by
 subst hM;refine go_top pre (piece_block blk ?_);have h:=piece_app (rest:=[]) (segRun_of (YK seg)) (fin _);rw[List.append_nil]at h;exact h
theorem X7{p q:Program}{loose:List Str}{Xt:Shared→Bool}{α:Type}{Yf:Shared→α}{Ya:World→α}{N M:Nat}{S:World→OsState→Shared}
 (open_:∀w:World,(fencedOpening treeTable p w N).map (fun s=>(s.heap,s.gens,s.drawn,s.toks))=some (boot_heap w.params,#[],boot_drawn,boot_toks))
 (size:∀w:World,((boot_heap w.params).isNs mainGlobals&&(#[]:Array GenState).size==0,(boot_heap w.params).objs.size,(boot_heap w.params).nsMap mainGlobals "__annotations__")=(true,11,Gj))
 (run:∀w os,topRun treeTable p w 11 Gj M ⟨boot_heap w.params,#[],boot_drawn,boot_toks,os⟩ (topStub p)=some (S w os))(le:Nat.ble M N=true)
 (ok:∀w os,(staticsOk (importedModules p.main.body) (boot_heap w.params) (S w os).heap&&namesBound p (S w os).heap&&gensDone (S w os)&&laidKept (boot_heap w.params) (S w os).heap)=true)
 (seen:∀w os,openSeen q loose (importedModules p.main.body) Xt true (S w os)=openGood q loose)
 (hY:∀w os,Yf (S w os)=Ya w):LeftO p q loose Xt Yf Ya N:=fun w=>by
 obtain⟨⟨h,gs,d,k,os⟩,e,e'⟩:=aH.mp (open_ w);obtain⟨rfl,rfl,rfl,rfl⟩:h=boot_heap w.params∧gs=#[]∧d=boot_drawn∧k=boot_toks:=by simpa using e'
 obtain⟨z1,z2,z3⟩:_∧_∧_:=by simpa only[Prod.mk.injEq]using size w
 have l1:=ok w os;have r:=topRun_mono (N-M) _ _ _ _ (run w os);rw[show M+(N-M)=N by have:=Nat.le_of_ble_eq_true le;lia]at r;have t:topFrom treeTable p w N ⟨boot_heap w.params,#[],boot_drawn,boot_toks,os⟩=some (S w os):=by
  unfold topFrom;dsimp only;rw[z1,z2,z3,r];show(match staticsOk (importedModules p.main.body) (boot_heap w.params) (S w os).heap&&namesBound p (S w os).heap&&gensDone (S w os)&&laidKept (boot_heap w.params) (S w os).heap with|true=>_|false=>_)=_;rw[l1]
 unfold openEnds;rw[e];show(topFrom treeTable p w N _).map _=_;rw[t];exact bD some (Prod.ext (seen w os) (hY w os))
theorem df(w:World):((boot_heap w.params).isNs mainGlobals&&(#[]:Array GenState).size==0,(boot_heap w.params).objs.size,(boot_heap w.params).nsMap mainGlobals "__annotations__")=(true,11,Gj):=by kernel_rfl
end Opn
namespace Q24
open PySem
def top(i:Nat):Stmt:=PySem.Challenge.pw_stepgrove_k24_true_growth.main.body.getD i (.Pass ⟨0,0,0,0⟩)
end Q24
namespace L2
open PySem
def Ee(s:Stmt):Arguments:=match s with
 |.FunctionDef _ a _ _ _ _ _ _ _ _=>a
 |_=>{ posonlyargs:=[],args:=[],vararg:=none,kwonlyargs:=[],kw_defaults:=[],kwarg:=none,defaults:=[]}
def Cu(s:Stmt):List Stmt:=match s with
 |.FunctionDef _ _ b _ _ _ _ _ _ _=>b
 |_=>[]
def AM(s:Stmt):Scope:=match s with
 |.FunctionDef _ _ _ _ _ _ sc _ _ _=>sc
 |_=>{ kind:=.function,names:=[],isGenerator:=false,isCoroutine:=false}
end L2
namespace Q24
open PySem L2
section
open PySem.W PyProof.Rows PySem.Calls
abbrev Ds:Program:=PySem.Challenge.pw_stepgrove_k24_true_growth
abbrev CV:OpenLaw:=PySem.Challenge.rw_stepgrove_k24_true_growth
noncomputable abbrev dE(P:Params)(x:String)(t:Nat)(v:Value):DictEntry:=⟨PyData.keyHash P (Str.ofString x),.str (Str.ofString x) t,v⟩
noncomputable abbrev sV(x:String)(t:Nat):Value:=.str (Str.ofString x) t
noncomputable abbrev fO(n:String)(i:Nat)(m:String)(t c:Nat):Obj:=⟨.type "function",none,.func (fnOf n n (Ee (top i)) (Cu (top i)) (AM (top i)) .none .none .none (.str (Str.ofString m) t) none (.ref c) .none),#[]⟩
noncomputable abbrev cO(n:String)(t l a k r:Nat)(b:Bool)(r2:Nat)(v1 v2 v3 v4:Value)(t2:Nat):Obj:=⟨.type "code",none,.fields #[sV n t,sV n (t+1),sV "/claim/cut.py" (t+2),.int l 0,.int a 0,.int 0 0,.int 0 0,.int k 0,.ref r,.bool b,.int 181 0,.ref r2,v1,v2,v3,v4,.int t2 0,.int l 0,sV "/claim/cut.py" (t2+1)],#[]⟩
noncomputable def kH:Params→Frag:=fun P =>
 (nat_lit 2,⟨.none,none,(.dict #[] 0),#[]⟩) ::
 (nat_lit 3,⟨(.type "dict"),none,(.dict #[dE P "__name__" 165 (sV "law_stepgrove_k24_true_growth" 546),dE P "__doc__" 166 .none,dE P "__package__" 167 .none,dE P "__loader__" 168 (.builtin "__main__.__loader__#opaque"),dE P "__spec__" 169 .none,dE P "__annotations__" 170 (.ref 6),dE P "__builtins__" 171 (.ref 4),dE P "__file__" 173 (sV "/claim/cut.py" 172),dE P "__cached__" 174 .none,dE P "GroveError" 206 (.ref 24),dE P "NoBottom" 222 (.ref 37),dE P "NoChange" 238 (.ref 49),dE P "NoStart" 254 (.ref 61),dE P "TooMany" 270 (.ref 73),dE P "fraction_of" 281 (.ref 82),dE P "is_fraction" 288 (.ref 89),dE P "are_fractions" 296 (.ref 96),dE P "is_whole" 303 (.ref 103),dE P "greatest_divisor" 314 (.ref 110),dE P "common_bottom" 323 (.ref 117),dE P "power_of" 334 (.ref 124),dE P "is_poly" 346 (.ref 131),dE P "is_term" 354 (.ref 138),dE P "are_powers" 363 (.ref 145),dE P "refuse_no_start" 371 (.ref 152),dE P "refuse_start" 377 (.ref 159),dE P "one_less" 385 (.ref 166),dE P "product_up_to" 396 (.ref 173),dE P "grain_of" 404 (.ref 178),dE P "pace_of" 412 (.ref 185),dE P "whole_start" 418 (.ref 190),dE P "tops_over" 424 (.ref 195),dE P "whole_change" 430 (.ref 200),dE P "whole_poly" 444 (.ref 207),dE P "speeds_bottom" 450 (.ref 212),dE P "greatest_power" 461 (.ref 219),dE P "is_change" 471 (.ref 226),dE P "refuse_no_change" 478 (.ref 233),dE P "MOST_POWER" 482 (.int 7 481),dE P "growth_rows" 488 (.ref 238),dE P "refuse_too_many" 495 (.ref 245),dE P "row_of_fractions" 507 (.ref 252),dE P "whole_rows" 513 (.ref 257),dE P "powers_needed" 525 (.ref 264),dE P "first_unknown" 533 (.ref 271),dE P "product_at" 539 (.ref 276),dE P "speed_at" 545 (.ref 281),dE P "_law_cell" 559 (.ref 288),dE P "_law_take" 568 (.ref 295),dE P "_law_shared" 576 (.ref 302),dE P "_law_frac" 585 (.ref 309),dE P "_law_plus" 593 (.ref 316),dE P "_law_by" 601 (.ref 323),dE P "_law_part" 609 (.ref 330),dE P "_law_poly" 626 (.ref 337),dE P "_law_change" 632 (.ref 342),dE P "_law_start" 638 (.ref 347),dE P "_law_row_product" 644 (.ref 352),dE P "_law_row_of" 650 (.ref 357),dE P "_law_same" 656 (.ref 362),dE P "_law_good" 662 (.ref 367),dE P "law" 668 (.ref 372)] 62),#[]⟩) ::
 (nat_lit 15,⟨(.type "tuple"),none,(.seq #[(.type "ValueError")] 0),#[]⟩) ::
 (nat_lit 22,⟨(.type "tuple"),none,(.seq #[] 0),#[]⟩) ::
 (nat_lit 23,⟨(.type "dict"),none,(.dict #[dE P "__module__" 196 (sV "stepgrove.errors" 187),dE P "__firstlineno__" 200 (.int 2 199),dE P "__static_attributes__" 201 (.ref 22),dE P "__weakref__" 203 (.ref 25),dE P "__doc__" 204 .none] 3),#[]⟩) ::
 (nat_lit 24,⟨(.type "type"),none,(.cls ⟨Str.ofString "GroveError",[(.type "ValueError")],[(.ref 24),(.type "ValueError"),(.type "Exception"),(.type "BaseException"),(.type "object")],23,Str.ofString "GroveError",true,[],[(.ref 37),(.ref 49),(.ref 61),(.ref 73)],false,none,false⟩),#[some (.ref 15),none,some (sV "GroveError" 189),some (sV "GroveError" 197),some (.builtin "ValueError.__new__"),some (.bool true)]⟩) ::
 (nat_lit 25,⟨(.type "getset_descriptor"),none,(.fields #[(sV "__weakref__" 202),(.ref 24),(.builtin "ExceptionGroup.__weakref__"),.none]),#[]⟩) ::
 (nat_lit 28,⟨(.type "tuple"),none,(.seq #[(.ref 24)] 0),#[]⟩) ::
 (nat_lit 35,⟨(.type "tuple"),none,(.seq #[] 0),#[]⟩) ::
 (nat_lit 36,⟨(.type "dict"),none,(.dict #[dE P "__module__" 214 (sV "stepgrove.errors" 187),dE P "__firstlineno__" 218 (.int 4 217),dE P "__static_attributes__" 219 (.ref 35),dE P "__doc__" 220 .none] 2),#[]⟩) ::
 (nat_lit 37,⟨(.type "type"),none,(.cls ⟨Str.ofString "NoBottom",[(.ref 24)],[(.ref 37),(.ref 24),(.type "ValueError"),(.type "Exception"),(.type "BaseException"),(.type "object")],36,Str.ofString "NoBottom",true,[],[],false,none,false⟩),#[some (.ref 28),none,some (sV "NoBottom" 207),some (sV "NoBottom" 215),some (.builtin "ValueError.__new__"),some (.bool true)]⟩) ::
 (nat_lit 40,⟨(.type "tuple"),none,(.seq #[(.ref 24)] 0),#[]⟩) ::
 (nat_lit 47,⟨(.type "tuple"),none,(.seq #[] 0),#[]⟩) ::
 (nat_lit 48,⟨(.type "dict"),none,(.dict #[dE P "__module__" 230 (sV "stepgrove.errors" 187),dE P "__firstlineno__" 234 (.int 6 233),dE P "__static_attributes__" 235 (.ref 47),dE P "__doc__" 236 .none] 2),#[]⟩) ::
 (nat_lit 49,⟨(.type "type"),none,(.cls ⟨Str.ofString "NoChange",[(.ref 24)],[(.ref 49),(.ref 24),(.type "ValueError"),(.type "Exception"),(.type "BaseException"),(.type "object")],48,Str.ofString "NoChange",true,[],[],false,none,false⟩),#[some (.ref 40),none,some (sV "NoChange" 223),some (sV "NoChange" 231),some (.builtin "ValueError.__new__"),some (.bool true)]⟩) ::
 (nat_lit 52,⟨(.type "tuple"),none,(.seq #[(.ref 24)] 0),#[]⟩) ::
 (nat_lit 59,⟨(.type "tuple"),none,(.seq #[] 0),#[]⟩) ::
 (nat_lit 60,⟨(.type "dict"),none,(.dict #[dE P "__module__" 246 (sV "stepgrove.errors" 187),dE P "__firstlineno__" 250 (.int 8 249),dE P "__static_attributes__" 251 (.ref 59),dE P "__doc__" 252 .none] 2),#[]⟩) ::
 (nat_lit 61,⟨(.type "type"),none,(.cls ⟨Str.ofString "NoStart",[(.ref 24)],[(.ref 61),(.ref 24),(.type "ValueError"),(.type "Exception"),(.type "BaseException"),(.type "object")],60,Str.ofString "NoStart",true,[],[],false,none,false⟩),#[some (.ref 52),none,some (sV "NoStart" 239),some (sV "NoStart" 247),some (.builtin "ValueError.__new__"),some (.bool true)]⟩) ::
 (nat_lit 64,⟨(.type "tuple"),none,(.seq #[(.ref 24)] 0),#[]⟩) ::
 (nat_lit 71,⟨(.type "tuple"),none,(.seq #[] 0),#[]⟩) ::
 (nat_lit 72,⟨(.type "dict"),none,(.dict #[dE P "__module__" 262 (sV "stepgrove.errors" 187),dE P "__firstlineno__" 266 (.int 10 265),dE P "__static_attributes__" 267 (.ref 71),dE P "__doc__" 268 .none] 2),#[]⟩) ::
 (nat_lit 73,⟨(.type "type"),none,(.cls ⟨Str.ofString "TooMany",[(.ref 24)],[(.ref 73),(.ref 24),(.type "ValueError"),(.type "Exception"),(.type "BaseException"),(.type "object")],72,Str.ofString "TooMany",true,[],[],false,none,false⟩),#[some (.ref 64),none,some (sV "TooMany" 255),some (sV "TooMany" 263),some (.builtin "ValueError.__new__"),some (.bool true)]⟩) ::
 (nat_lit 81,cO "fraction_of" 273 13 2 3 76 true 77 .none (.ref 78) (.ref 79) (.ref 80) 279) ::
 (nat_lit 82,fO "fraction_of" 7 "stepgrove.fracs" 271 81) ::
 (nat_lit 88,cO "is_fraction" 282 20 1 3 83 true 84 .none (.ref 85) (.ref 86) (.ref 87) 286) ::
 (nat_lit 89,fO "is_fraction" 8 "stepgrove.fracs" 271 88) ::
 (nat_lit 95,cO "are_fractions" 289 26 1 3 90 true 91 .none (.ref 92) (.ref 93) (.ref 94) 294) ::
 (nat_lit 96,fO "are_fractions" 9 "stepgrove.fracs" 271 95) ::
 (nat_lit 102,cO "is_whole" 297 33 1 3 97 true 98 .none (.ref 99) (.ref 100) (.ref 101) 301) ::
 (nat_lit 103,fO "is_whole" 10 "stepgrove.fracs" 271 102) ::
 (nat_lit 109,cO "greatest_divisor" 304 35 2 3 104 true 105 .none (.ref 106) (.ref 107) (.ref 108) 312) ::
 (nat_lit 110,fO "greatest_divisor" 11 "stepgrove.fracs" 271 109) ::
 (nat_lit 116,cO "common_bottom" 315 43 1 3 111 true 112 .none (.ref 113) (.ref 114) (.ref 115) 321) ::
 (nat_lit 117,fO "common_bottom" 12 "stepgrove.fracs" 271 116) ::
 (nat_lit 123,cO "power_of" 324 48 2 3 118 true 119 .none (.ref 120) (.ref 121) (.ref 122) 332) ::
 (nat_lit 124,fO "power_of" 13 "stepgrove.fracs" 271 123) ::
 (nat_lit 130,cO "is_poly" 337 60 2 3 125 true 126 .none (.ref 127) (.ref 128) (.ref 129) 344) ::
 (nat_lit 131,fO "is_poly" 15 "stepgrove.polys" 335 130) ::
 (nat_lit 137,cO "is_term" 347 67 2 3 132 true 133 .none (.ref 134) (.ref 135) (.ref 136) 352) ::
 (nat_lit 138,fO "is_term" 16 "stepgrove.polys" 335 137) ::
 (nat_lit 144,cO "are_powers" 355 71 2 3 139 true 140 .none (.ref 141) (.ref 142) (.ref 143) 361) ::
 (nat_lit 145,fO "are_powers" 17 "stepgrove.polys" 335 144) ::
 (nat_lit 151,cO "refuse_no_start" 364 78 2 3 146 true 147 .none (.ref 148) (.ref 149) (.ref 150) 369) ::
 (nat_lit 152,fO "refuse_no_start" 18 "stepgrove.polys" 335 151) ::
 (nat_lit 158,cO "refuse_start" 372 81 0 3 153 true 154 .none (.ref 155) (.ref 156) (.ref 157) 375) ::
 (nat_lit 159,fO "refuse_start" 19 "stepgrove.polys" 335 158) ::
 (nat_lit 165,cO "one_less" 378 83 2 3 160 true 161 .none (.ref 162) (.ref 163) (.ref 164) 383) ::
 (nat_lit 166,fO "one_less" 20 "stepgrove.polys" 335 165) ::
 (nat_lit 172,cO "product_up_to" 388 86 1 3 167 true 168 .none (.ref 169) (.ref 170) (.ref 171) 394) ::
 (nat_lit 173,fO "product_up_to" 22 "stepgrove.trees" 386 172) ::
 (nat_lit 177,cO "grain_of" 399 92 1 3 174 true 175 .none .none .none (.ref 176) 402) ::
 (nat_lit 178,fO "grain_of" 24 "stepgrove.wholes" 397 177) ::
 (nat_lit 184,cO "pace_of" 405 94 2 3 179 true 180 .none (.ref 181) (.ref 182) (.ref 183) 410) ::
 (nat_lit 185,fO "pace_of" 25 "stepgrove.wholes" 397 184) ::
 (nat_lit 189,cO "whole_start" 413 96 2 3 186 true 187 .none .none .none (.ref 188) 416) ::
 (nat_lit 190,fO "whole_start" 26 "stepgrove.wholes" 397 189) ::
 (nat_lit 194,cO "tops_over" 419 98 2 3 191 true 192 .none .none .none (.ref 193) 422) ::
 (nat_lit 195,fO "tops_over" 27 "stepgrove.wholes" 397 194) ::
 (nat_lit 199,cO "whole_change" 425 100 2 3 196 true 197 .none .none .none (.ref 198) 428) ::
 (nat_lit 200,fO "whole_change" 28 "stepgrove.wholes" 397 199) ::
 (nat_lit 206,cO "whole_poly" 431 104 4 3 201 true 202 .none (.ref 203) (.ref 204) (.ref 205) 442) ::
 (nat_lit 207,fO "whole_poly" 29 "stepgrove.wholes" 397 206) ::
 (nat_lit 211,cO "speeds_bottom" 445 110 1 3 208 true 209 .none .none .none (.ref 210) 448) ::
 (nat_lit 212,fO "speeds_bottom" 30 "stepgrove.wholes" 397 211) ::
 (nat_lit 218,cO "greatest_power" 451 115 1 3 213 true 214 .none (.ref 215) (.ref 216) (.ref 217) 459) ::
 (nat_lit 219,fO "greatest_power" 31 "stepgrove.wholes" 397 218) ::
 (nat_lit 225,cO "is_change" 464 122 1 3 220 true 221 .none (.ref 222) (.ref 223) (.ref 224) 469) ::
 (nat_lit 226,fO "is_change" 33 "stepgrove.changes" 462 225) ::
 (nat_lit 232,cO "refuse_no_change" 472 129 1 3 227 true 228 .none (.ref 229) (.ref 230) (.ref 231) 476) ::
 (nat_lit 233,fO "refuse_no_change" 34 "stepgrove.changes" 462 232) ::
 (nat_lit 237,cO "growth_rows" 483 134 3 3 234 true 235 .none .none .none (.ref 236) 486) ::
 (nat_lit 238,fO "growth_rows" 37 "stepgrove.growth" 479 237) ::
 (nat_lit 244,cO "refuse_too_many" 489 143 1 3 239 true 240 .none (.ref 241) (.ref 242) (.ref 243) 493) ::
 (nat_lit 245,fO "refuse_too_many" 38 "stepgrove.growth" 479 244) ::
 (nat_lit 251,cO "row_of_fractions" 496 146 3 3 246 true 247 .none (.ref 248) (.ref 249) (.ref 250) 505) ::
 (nat_lit 252,fO "row_of_fractions" 39 "stepgrove.growth" 479 251) ::
 (nat_lit 256,cO "whole_rows" 508 153 4 3 253 true 254 .none .none .none (.ref 255) 511) ::
 (nat_lit 257,fO "whole_rows" 40 "stepgrove.growth" 479 256) ::
 (nat_lit 263,cO "powers_needed" 514 165 1 3 258 true 259 .none (.ref 260) (.ref 261) (.ref 262) 523) ::
 (nat_lit 264,fO "powers_needed" 41 "stepgrove.growth" 479 263) ::
 (nat_lit 270,cO "first_unknown" 526 175 1 3 265 true 266 .none (.ref 267) (.ref 268) (.ref 269) 531) ::
 (nat_lit 271,fO "first_unknown" 42 "stepgrove.growth" 479 270) ::
 (nat_lit 275,cO "product_at" 534 180 4 3 272 true 273 .none .none .none (.ref 274) 537) ::
 (nat_lit 276,fO "product_at" 43 "stepgrove.growth" 479 275) ::
 (nat_lit 280,cO "speed_at" 540 186 3 3 277 true 278 .none .none .none (.ref 279) 543) ::
 (nat_lit 281,fO "speed_at" 44 "stepgrove.growth" 479 280) ::
 (nat_lit 287,cO "_law_cell" 548 189 2 3 282 true 283 .none (.ref 284) (.ref 285) (.ref 286) 557) ::
 (nat_lit 288,fO "_law_cell" 46 "law_stepgrove_k24_true_growth" 546 287) ::
 (nat_lit 294,cO "_law_take" 560 201 2 3 289 true 290 .none (.ref 291) (.ref 292) (.ref 293) 566) ::
 (nat_lit 295,fO "_law_take" 47 "law_stepgrove_k24_true_growth" 546 294) ::
 (nat_lit 301,cO "_law_shared" 569 205 2 3 296 true 297 .none (.ref 298) (.ref 299) (.ref 300) 574) ::
 (nat_lit 302,fO "_law_shared" 48 "law_stepgrove_k24_true_growth" 546 301) ::
 (nat_lit 308,cO "_law_frac" 577 209 2 3 303 true 304 .none (.ref 305) (.ref 306) (.ref 307) 583) ::
 (nat_lit 309,fO "_law_frac" 49 "law_stepgrove_k24_true_growth" 546 308) ::
 (nat_lit 315,cO "_law_plus" 586 214 2 3 310 true 311 .none (.ref 312) (.ref 313) (.ref 314) 591) ::
 (nat_lit 316,fO "_law_plus" 50 "law_stepgrove_k24_true_growth" 546 315) ::
 (nat_lit 322,cO "_law_by" 594 216 2 3 317 true 318 .none (.ref 319) (.ref 320) (.ref 321) 599) ::
 (nat_lit 323,fO "_law_by" 51 "law_stepgrove_k24_true_growth" 546 322) ::
 (nat_lit 329,cO "_law_part" 602 218 1 3 324 true 325 .none (.ref 326) (.ref 327) (.ref 328) 607) ::
 (nat_lit 330,fO "_law_part" 52 "law_stepgrove_k24_true_growth" 546 329) ::
 (nat_lit 336,cO "_law_poly" 610 221 3 3 331 true 332 .none (.ref 333) (.ref 334) (.ref 335) 624) ::
 (nat_lit 337,fO "_law_poly" 53 "law_stepgrove_k24_true_growth" 546 336) ::
 (nat_lit 341,cO "_law_change" 627 237 4 3 338 true 339 .none .none .none (.ref 340) 630) ::
 (nat_lit 342,fO "_law_change" 54 "law_stepgrove_k24_true_growth" 546 341) ::
 (nat_lit 346,cO "_law_start" 633 239 2 3 343 true 344 .none .none .none (.ref 345) 636) ::
 (nat_lit 347,fO "_law_start" 55 "law_stepgrove_k24_true_growth" 546 346) ::
 (nat_lit 351,cO "_law_row_product" 639 242 2 3 348 true 349 .none .none .none (.ref 350) 642) ::
 (nat_lit 352,fO "_law_row_product" 56 "law_stepgrove_k24_true_growth" 546 351) ::
 (nat_lit 356,cO "_law_row_of" 645 248 3 3 353 true 354 .none .none .none (.ref 355) 648) ::
 (nat_lit 357,fO "_law_row_of" 57 "law_stepgrove_k24_true_growth" 546 356) ::
 (nat_lit 361,cO "_law_same" 651 257 2 3 358 true 359 .none .none .none (.ref 360) 654) ::
 (nat_lit 362,fO "_law_same" 58 "law_stepgrove_k24_true_growth" 546 361) ::
 (nat_lit 366,cO "_law_good" 657 267 4 3 363 true 364 .none .none .none (.ref 365) 660) ::
 (nat_lit 367,fO "_law_good" 59 "law_stepgrove_k24_true_growth" 546 366) ::
 (nat_lit 371,cO "law" 663 281 1 3 368 true 369 .none .none .none (.ref 370) 666) ::
 (nat_lit 372,fO "law" 60 "law_stepgrove_k24_true_growth" 546 371)::[]
abbrev qX:Program:=view Ds [1,2,3,4,5,7,8,9,10,11,12,13,15,16,17,18,19,20,22,24,25,26,27,28,29,30,31,33,34,36,37,38,39,40,41,42,43,44,46,47,48,49,50,51,52,53,54,55,56,57,58,59,60]
noncomputable abbrev hX:Hook:=kHook kH [nat_lit 2,nat_lit 3,nat_lit 15,nat_lit 22,nat_lit 23,nat_lit 24,nat_lit 25,nat_lit 28,nat_lit 35,nat_lit 36,nat_lit 37,nat_lit 40,nat_lit 47,nat_lit 48,nat_lit 49,nat_lit 52,nat_lit 59,nat_lit 60,nat_lit 61,nat_lit 64,nat_lit 71,nat_lit 72,nat_lit 73,nat_lit 81,nat_lit 82,nat_lit 88,nat_lit 89,nat_lit 95,nat_lit 96,nat_lit 102,nat_lit 103,nat_lit 109,nat_lit 110,nat_lit 116,nat_lit 117,nat_lit 123,nat_lit 124,nat_lit 130,nat_lit 131,nat_lit 137,nat_lit 138,nat_lit 144,nat_lit 145,nat_lit 151,nat_lit 152,nat_lit 158,nat_lit 159,nat_lit 165,nat_lit 166,nat_lit 172,nat_lit 173,nat_lit 177,nat_lit 178,nat_lit 184,nat_lit 185,nat_lit 189,nat_lit 190,nat_lit 194,nat_lit 195,nat_lit 199,nat_lit 200,nat_lit 206,nat_lit 207,nat_lit 211,nat_lit 212,nat_lit 218,nat_lit 219,nat_lit 225,nat_lit 226,nat_lit 232,nat_lit 233,nat_lit 237,nat_lit 238,nat_lit 244,nat_lit 245,nat_lit 251,nat_lit 252,nat_lit 256,nat_lit 257,nat_lit 263,nat_lit 264,nat_lit 270,nat_lit 271,nat_lit 275,nat_lit 276,nat_lit 280,nat_lit 281,nat_lit 287,nat_lit 288,nat_lit 294,nat_lit 295,nat_lit 301,nat_lit 302,nat_lit 308,nat_lit 309,nat_lit 315,nat_lit 316,nat_lit 322,nat_lit 323,nat_lit 329,nat_lit 330,nat_lit 336,nat_lit 337,nat_lit 341,nat_lit 342,nat_lit 346,nat_lit 347,nat_lit 351,nat_lit 352,nat_lit 356,nat_lit 357,nat_lit 361,nat_lit 362,nat_lit 366,nat_lit 367,nat_lit 371,nat_lit 372] (fun _=>by kernel_rfl)
noncomputable def dX:DefRec:=⟨Str.ofString "law",Ee (top 60),Cu (top 60),AM (top 60),⟨281,0,300,78⟩⟩
theorem dh:CV.wellSaid=true:=(congrFun PySem.W.Fast.te9446332074065402090 _).trans (by kernel_rfl)
theorem fF(w:World)(os:OsState):topGo treeTable Ds w 11 Opn.Gj 12 ⟨boot_heap w.params,#[],boot_drawn,boot_toks,os⟩ (topStub Ds)=some (Opn.sA w os,⟨denote treeTable (Opn.cB Ds),Opn.cB Ds,Opn.q0,Opn.bB⟩):=by kernel_rfl
theorem fq(w:World)(os:OsState):segRun treeTable Ds w 11 Opn.Gj 1 1 (Opn.sA w os) (blockOf (behindTheImports Ds) (Opn.Lo Ds) (Opn.cB Ds) Opn.q0 Opn.bB)=some (.next,(Opn.sB w os).abs,Opn.cB Ds,Opn.q0):=by kernel_rfl
theorem eh(w:World)(s:Shared):topRun treeTable Ds w 11 Opn.Gj 2 s (restOf [] (Opn.Lo Ds) (Opn.cB Ds) ⟨281,0,300,78⟩ Opn.bB)=some s:=by kernel_rfl
theorem eo(w:World)(os:OsState):Opn.Ta Ds 2504 w os=some (.next,Opn.Te Ds 2504 w os,Opn.cB Ds,⟨281,0,300,78⟩):=by kernel_rfl
noncomputable abbrev sX(w:World)(os:OsState):Shared:=(Opn.Te Ds 2504 w os).abs
theorem fc(w:World)(os:OsState):(staticsOk (importedModules Ds.main.body) (boot_heap w.params) (sX w os).heap&&namesBound Ds (sX w os).heap&&gensDone (sX w os)&&laidKept (boot_heap w.params) (sX w os).heap)=true:=by kernel_rfl
theorem eF(w:World)(os:OsState):hX.obs (sX w os)=hX.val w:=by kernel_rfl
noncomputable abbrev b7:Shared→Bool:=fun s=>xlAt qX [] s&&recOk (RowW.records CV.row.toRowW) s
theorem dq(w:World)(os:OsState):openSeen qX [] (importedModules Ds.main.body) b7 true (sX w os)=openGood qX []:=by kernel_rfl
theorem eM(w:World):(fencedOpening treeTable Ds w 5132).map (fun s=>(s.heap,s.gens,s.drawn,s.toks))=some (boot_heap w.params,#[],boot_drawn,boot_toks):=boot_open (p:=Ds) (N:=5132) (by kernel_rfl) (by kernel_rfl) (fun _=>by kernel_rfl) w
theorem cx:LeftO Ds qX [] b7 hX.obs hX.val 5132:=Opn.X7 (M:=2519) (S:=sX) eM Opn.df (fun w os=>Opn.Z5 (fF w os) (fq w os) (eo w os) (eh w) (by kernel_rfl)) (by kernel_rfl) fc dq eF
theorem ff:defOf qX CV.row.name=some (dX,[]):=by kernel_rfl
theorem fW:Ds.theDef CV.row.name=some (dX.params,dX.body,dX.scope):=by kernel_rfl
theorem gW:kwWritten? dX.params.kwonlyargs dX.params.kw_defaults=some []:=by kernel_rfl
theorem fD:(chainsOk qX&&opensWell CV.row.prog&&(frees CV.row.toRowW&&CV.row.within.isEmpty))=true:=by kernel_rfl
theorem dZ:Ds.bare:=⟨rfl,rfl,rfl,rfl,rfl,by decide +kernel⟩
theorem openX(hw:CV.row.toRowW.promised)(hc:WalkO qX [] (XL qX []) hX.says CV.row.toRowW dX [] (fun f vs=>PySem.call f vs)):CV.Holds :=
 holds_law dh fun said=>holds_open (r:=CV.row) (q:=qX) (loose:=[]) (Xt:=b7) (XP:=XL qX []) (Yf:=hX.obs) (Ya:=hX.val) (YP:=hX.says) (d:=dX) (kwd:=[]) (N:=5132) cx hX.of hX.keeps (fun s e=>xl_of s (Bool.and_eq_true_iff.mp e).1) XL.keeps ff fW gW (fun s e=>recFacts_of (Bool.and_eq_true_iff.mp e).2) rfl said fD dZ hw hc
end
end Q24
namespace L2
open PySem PySem.Spec PyProof.Rows
abbrev Key:=Sum Int Str
def K8:Key→Value→Bool
 |.inl k,v=>Value.isInt k v
 |.inr x,v=>Value.isStrOf x v
def gC(w:World):Key→Int
 |.inl k=>hashInt k
 |.inr x=>hashStr w x
theorem CA:∀ {k:Key} {v:Value},K8 k v=true→(∃i t,k=Sum.inl i∧v=Value.int i t)∨(∃x t,k=Sum.inr x∧v=Value.str x t)
 |.inl i,v,h=>by
  obtain⟨t,e⟩:=Value.isInt_shape (k:=i) (v:=v) h;exact .inl ⟨i,t,rfl,e⟩
 |.inr x,v,h=>by
  obtain⟨t,e⟩:=Value.isStrOf_shape (x:=x) (v:=v) h;exact .inr ⟨x,t,rfl,e⟩
theorem U0(i:Int)(t:Tok):K8 (.inl i) (.int i t)=true:=by simp[K8,Value.isInt]
theorem Vq(x:Str)(t:Tok):K8 (.inr x) (.str x t)=true:=by simp[K8,Value.isStrOf]
theorem ZV(a b:Int):decide ((Sum.inl a:Key)=Sum.inl b)=(a==b):=by
 by_cases e:a=b
 ·subst e;simp
 ·have h:¬(Sum.inl a:Key)=Sum.inl b:=fun q=>e (Sum.inl.inj q);rw[decide_eq_false h];exact(beq_eq_false_iff_ne.mpr e).symm
theorem Z9(a b:Str):decide ((Sum.inr a:Key)=Sum.inr b)=decide (a=b):=by
 by_cases e:a=b
 ·subst e;simp
 ·have h:¬(Sum.inr a:Key)=Sum.inr b:=fun q=>e (Sum.inr.inj q);rw[decide_eq_false h,decide_eq_false e]
theorem a7(a:Int)(b:Str):decide ((Sum.inl a:Key)=Sum.inr b)=false:=bL (fun q=>nomatch q)
theorem bo(a:Str)(b:Int):decide ((Sum.inr a:Key)=Sum.inl b)=false:=bL (fun q=>nomatch q)
def Cg(prog:Program)(w:World):PySem.KeyKind prog w Key where
 is:=K8
 hash:=gC w
 inj:=fun v a b ha hb=>by
  rcases CA ha with ⟨i,t,rfl,rfl⟩|⟨x,t,rfl,rfl⟩
  ·rcases CA hb with ⟨j,u,rfl,e⟩|⟨y,u,rfl,e⟩
   ·injection e with e1 _;rw[e1]
   ·exact nomatch e
  ·rcases CA hb with ⟨j,u,rfl,e⟩|⟨y,u,rfl,e⟩
   ·exact nomatch e
   ·injection e with e1 _;rw[e1]
 byValue:=fun k v h=>by
  rcases CA h with ⟨i,t,rfl,rfl⟩|⟨x,t,rfl,rfl⟩<;>rfl
 pyHash:=fun hv h=>by
  rcases CA hv with ⟨i,t,rfl,rfl⟩|⟨x,t,rfl,rfl⟩
  ·exact wpAny_pyHash_int h
  ·exact wpAny_pyHash_str h
 eqBool:=fun hu hv h=>by
  rcases CA hu with ⟨i,t,rfl,rfl⟩|⟨x,t,rfl,rfl⟩
  ·rcases CA hv with ⟨j,u,rfl,rfl⟩|⟨y,u,rfl,rfl⟩
   ·rw[ZV]at h;exact wpAny_eqBool_int h
   ·rw[a7]at h;exact SeqAt.EqAt.int_str i t y u _ _ _ _ h
  ·rcases CA hv with ⟨j,u,rfl,rfl⟩|⟨y,u,rfl,rfl⟩
   ·rw[bo]at h;exact SeqAt.EqAt.str_int x t j u _ _ _ _ h
   ·rw[Z9]at h;exact wpAny_eqBool_str h
 «strs»:=fun k x t v h=>by
  rcases CA h with ⟨i,u,rfl,e⟩|⟨y,u,rfl,e⟩
  ·exact nomatch e
  ·injection e with e1 _
   subst e1;cases v<;>rfl
theorem RI(prog:Program)(w:World)(i:Int)(t:Tok):(Cg prog w).is (.inl i) (.int i t)=true:=U0 i t
theorem RX(prog:Program)(w:World)(x:Str)(t:Tok):(Cg prog w).is (.inr x) (.str x t)=true:=Vq x t
inductive V where
 |BA|bl (b:Bool)|int (i:Int)|str (x:Str)|KC (b:Array UInt8)|SV (b:UInt64)|ref (a:Addr)|ty (n:String)
 deriving DecidableEq
def RelV:V→Value→Prop
 |.BA,u=>u=Value.none
 |.bl b,u=>u=Value.bool b
 |.int i,u=>∃t,u=Value.int i t
 |.str x,u=>∃t,u=Value.str x t
 |.KC b,u=>∃t,u=Value.bytes b t
 |.SV b,u=>∃t,u=Value.float b t
 |.ref a,u=>u=Value.ref a
 |.ty n,u=>u=Value.type n
abbrev Vals:List V→List Value→Prop:=Paired RelV
theorem Vals.length{xs:List V}{us:List Value}(r:Vals xs us):xs.length=us.length:=Paired.length r
theorem Vals.get:∀ {xs:List V} {us:List Value} {i:Nat} {x:V},Vals xs us→xs[i]? = some x→∃u,us[i]? = some u∧RelV x u
 |_,_,_,_,.nil,e=>by simp at e
 |_,_,0,_,.cons r _,e=>by simp at e;subst e;exact⟨_,rfl,r⟩
 |_,_,i+1,x,.cons _ t,e=>by
  obtain⟨u,h1,h2⟩:=Vals.get (i:=i) (x:=x) t (by simpa using e);exact⟨u,by simpa using h1,h2⟩
theorem Vals.set{x:V}{u:Value}(r:RelV x u):∀ {xs:List V} {us:List Value} (i:Nat),Vals xs us→Vals (xs.set i x) (us.set i u)
 |_,_,_,.nil=>.nil
 |_,_,0,.cons _ t=>.cons r t
 |_,_,i+1,.cons q t=>.cons q (Vals.set r i t)
theorem Vals.append:∀ {xs ys:List V} {us ws:List Value},Vals xs us→Vals ys ws→Vals (xs++ys) (us++ws)
 |_,_,_,_,.nil,s=>s
 |_,_,_,_,.cons r t,s=>.cons r (Vals.append t s)
theorem Vals.take:∀ {xs:List V} {us:List Value} (n:Nat),Vals xs us→Vals (xs.take n) (us.take n)
 |_,_,0,_=>.nil
 |_,_,_+1,.nil=>.nil
 |_,_,n+1,.cons r t=>.cons r (Vals.take n t)
theorem Vals.drop:∀ {xs:List V} {us:List Value} (n:Nat),Vals xs us→Vals (xs.drop n) (us.drop n)
 |_,_,0,r=>r
 |_,_,_+1,.nil=>.nil
 |_,_,n+1,.cons _ t=>Vals.drop n t
def Hi:Option V→Option Value→Prop
 |some v,some u=>RelV v u
 |none,none=>True
 |_,_=>False
def KV{κ:Type}:List (κ×V)→List (κ×Value)→Prop:=Paired fun(p:κ×V) (q:κ×Value)=>p.1=q.1∧RelV p.2 q.2
def kV:Key→V
 |.inl i=>.int i
 |.inr x=>.str x
inductive HO where
 |lst (xs:List V)
 |tup (xs:List V)
 |dK (kvs:List (Key×V))|dT (kvs:List (List Key×V))
 |set (S:Int→Bool) (n:Nat)
 |ins (C dx:Addr) (fs:List (Str×V))
 |own (x:Addr)
 |xd (fs:List (Str×V))
 |met (f x:Addr)
 |Zj (lo hi:Int)
 |Hr (o:Obj) (u:HO)
 |Qu (ps:Array Value)
 |ext (φ:Heap→Prop)
abbrev Hp:=Addr→Option HO
def upd(H:Hp)(a:Addr)(o:HO):Hp:=fun b=>if b=a then some o else H b
theorem AI{H:Hp}{a:Addr}{o:HO}:upd H a o a=some o:=by unfold upd;rw[if_pos rfl]
theorem AE{H:Hp}{a b:Addr}{o:HO}(h:b≠a):upd H a o b=H b:=by unfold upd;rw[if_neg h]
theorem cq{H:Hp}{a b:Addr}{o u:HO}(h:H a=some o)(h':H b=some u)(d:o≠u):a≠b:=by
 intro e;subst e;rw[h]at h';exact d (aW h')
theorem AK{H:Hp}{a b:Addr}{o:HO}(h:H a=some o)(h':H b=none):a≠b:=by
 intro e;subst e;rw[h]at h';cases h'
section
variable(P:Program)(w:World)
def Bc(H:Hp)(h:Heap)(a:Addr):HO→Prop
 |.lst xs=>xs.length≤sizeLine∧∃(its:List Value) (n:Nat),Vals xs its∧h.get? a=some { cls:=.type "list",data:=.seq its.toArray n}
 |.tup xs=>xs.length≤sizeLine∧∃its:List Value,Vals xs its∧IsTup h a its.toArray
 |.dK kvs=>kvs.length≤sizeLine∧(a==sysModules)=false∧∃vs,KV kvs vs∧h.DictOf (Cg P w) a vs
 |.dT kvs=>kvs.length≤sizeLine∧(a==sysModules)=false∧∃xs:List (List Key×Addr×Value),
   Paired (fun(p:List Key×V) (q:List Key×Addr×Value)=>p.1=q.1∧H q.2.1=some (.tup (p.1.map kV))∧RelV p.2 q.2.2) kvs xs ∧
   ∃o es ep,h.get? a=some o∧o.ExactDict∧o.data=.dict es ep∧es.toList=xs.map (entryOfKey (tupleKind (Cg P w)))∧(xs.map (·.1)).Nodup
 |.set S n=>h.SetOf (intKind P w) a S n
 |.ins C dx fs=>H dx=some (.own a)∧fs.length≤1000∧dx≠a∧h.get? a=some (PySem.W.instObj C dx) ∧
   ∃mA,h.Ns1 dx mA∧(∀f,Hi (fs.lookup f) (mA f))∧PySem.Within mA (fs.map (·.1))
 |.own _=>∃o,h.get? a=some o
 |.xd fs=>∃mA,h.Ns1 a mA∧∀f,Hi (fs.lookup f) (mA f)
 |.Zj lo hi=>∃t u v,h.get? a=some { cls:=.type "range",data:=.fields #[.int lo t,.int hi u,.int 1 v]}
 |.Hr o u=>h.get? a=some o∧Bc H h a u
 |.Qu ps=>h.get? a=some { cls:=.none,data:=.fields ps}
 |.met f x=>h.get? a=some (PySem.W.methodObj (.ref f) (.ref x))
 |.ext φ=>φ h∧(∃o,h.get? a=some o)∧∀h1 h2:Heap,φ h1→(∀o,h1.get? a=some o→h2.get? a=some o)→φ h2
def CN(H:Hp)(h:Heap):Prop:=∀a o,H a=some o→Bc P w H h a o
end
section
variable{P:Program}{w:World}{H H':Hp}{h h':Heap}{a:Addr}{o:HO}
theorem Bc.lt(x:Bc P w H h a o):a<h.objs.size:=by
 cases o with
 |lst xs=>obtain⟨_,_,_,_,e⟩:=x;exact aE e
 |tup xs=>obtain⟨_,_,_,p⟩:=x;exact p.lt
 |dK kvs=>obtain⟨_,_,_,_,o,_,_,e,_⟩:=x;exact aE e
 |dT kvs=>obtain⟨_,_,_,_,o,_,_,e,_⟩:=x;exact aE e
 |set S n=>obtain⟨o,_,_,_,e,_⟩:=x;exact aE e
 |ins C dx fs=>obtain⟨_,_,_,e,_⟩:=x;exact aE e
 |own y=>obtain⟨_,e⟩:=x;exact aE e
 |xd fs=>obtain⟨_,⟨_,_,_,e,_⟩,_⟩:=x;exact aE e
 |Zj lo hi=>obtain⟨_,_,_,e⟩:=x;exact aE e
 |Hr ob u=>obtain⟨e,_⟩:=x;exact aE e
 |Qu ps=>exact aE (show h.get? a=some _ from x)
 |met f y=>exact aE (show h.get? a=some _ from x)
 |ext φ=>obtain⟨_,⟨_,e⟩,_⟩:=x;exact aE e
theorem Paired.WO{α β:Type}{F G:α→β→Prop}:∀ {l₁:List α} {l₂:List β},Paired F l₁ l₂→(∀a b,F a b→G a b)→Paired G l₁ l₂
 |_,_,.nil,_=>.nil
 |_,_,.cons r t,f=>.cons (f _ _ r) (Paired.WO t f)
theorem Bc.Gq(x:Bc P w H h a o)(k:∀b u,(b=a∨H b=some (.own a))→h.get? b=some u→h'.get? b=some u)
 (ho:∀b,H b=some (.own a)→H' b=some (.own a))(ht:∀b xs,H b=some (.tup xs)→H' b=some (.tup xs)):Bc P w H' h' a o:=by
 induction o with
 |lst xs=>obtain⟨z,its,n,r,e⟩:=x;exact⟨z,its,n,r,k _ _ (.inl rfl) e⟩
 |tup xs=>obtain⟨z,its,r,ob,e,c⟩:=x;exact⟨z,its,r,ob,k _ _ (.inl rfl) e,c⟩
 |dK kvs=>obtain⟨z,y,vs,r,ob,es,ep,e,c⟩:=x;exact⟨z,y,vs,r,ob,es,ep,k _ _ (.inl rfl) e,c⟩
 |dT kvs =>
  obtain⟨z,y,xs,r,ob,es,ep,e,c⟩:=x;exact⟨z,y,xs,Paired.WO r fun p q z=>⟨z.1,ht _ _ z.2.1,z.2.2⟩,ob,es,ep,k _ _ (.inl rfl) e,c⟩
 |set S n=>obtain⟨ob,es,ep,t,e,c⟩:=x;exact⟨ob,es,ep,t,k _ _ (.inl rfl) e,c⟩
 |ins C dx fs =>
  obtain⟨d,z,ne,e,mA,⟨od,es,ep,e2,c⟩,r⟩:=x;exact⟨ho _ d,z,ne,k _ _ (.inl rfl) e,mA,⟨od,es,ep,k _ _ (.inr d) e2,c⟩,r⟩
 |own y=>obtain⟨ob,e⟩:=x;exact⟨ob,k _ _ (.inl rfl) e⟩
 |xd fs=>obtain⟨mA,⟨od,es,ep,e,c⟩,r⟩:=x;exact⟨mA,⟨od,es,ep,k _ _ (.inl rfl) e,c⟩,r⟩
 |Zj lo hi=>obtain⟨t,u,v,e⟩:=x;exact⟨t,u,v,k _ _ (.inl rfl) e⟩
 |Hr ob u ih=>obtain⟨e,q⟩:=x;exact⟨k _ _ (.inl rfl) e,ih q⟩
 |Qu ps =>
  have e:h.get? a=some { cls:=.none,data:=.fields ps}:=x;show h'.get? a=some { cls:=.none,data:=.fields ps};exact k a _ (.inl rfl) e
 |met f y =>
  have e:h.get? a=some (PySem.W.methodObj (.ref f) (.ref y)):=x;show h'.get? a=some (PySem.W.methodObj (.ref f) (.ref y));exact k a _ (.inl rfl) e
 |ext φ=>obtain⟨p,⟨o,e⟩,st⟩:=x;exact⟨st _ _ p fun o q=>k _ _ (.inl rfl) q,⟨o,k _ _ (.inl rfl) e⟩,st⟩
theorem CN.lt(x:CN P w H h)(e:H a=some o):a<h.objs.size:=(x a o e).lt
theorem CN.fresh(x:CN P w H h)(e:h.objs.size≤a):H a=none:=by
 cases q:H a with
 |none=>rfl
 |some u=>exact absurd (aO (x.lt q) e) (Nat.lt_irrefl _)
theorem CN.kept(x:CN P w H h)(k:∀b u,h.get? b=some u→h'.get? b=some u):CN P w H h':=fun a o e =>
 (x a o e).Gq (fun b u _ q=>k b u q) (fun _ q=>q) fun _ _ q=>q
theorem CN.laid(x:CN P w H h)(k:∀b u,h.get? b=some u→h'.get? b=some u)(hp:h.objs.size≤a)(new:Bc P w (upd H a o) h' a o):CN P w (upd H a o) h':=fun b u e=>by
 have hn:=x.fresh hp;by_cases hb:b=a
 ·subst hb;rw[AI]at e;cases e;exact new
 ·rw[AE hb]at e;exact(x b u e).Gq (fun c v _ q=>k c v q) (fun c q=>by rw[AE (AK q hn)];exact q) fun c xs q=>by rw[AE (AK q hn)];exact q
end
def Rd(H:Hp)(a:Addr)(u:HO):Prop:=H a=some u∨∃o,H a=some (.Hr o u)
theorem Rd.ok{P:Program}{w:World}{H:Hp}{h:Heap}{a:Addr}{u:HO}(r:Rd H a u)(x:CN P w H h):Bc P w H h a u:=by
 rcases r with r|⟨o,r⟩
 ·exact x a u r
 ·obtain⟨_,q⟩:=x a _ r;exact q
def Uh:Option HO→Prop
 |some (.lst _)=>True
 |some (.dK _)=>True
 |some (.dT _)=>True
 |some (.set _ _)=>True
 |some (.ins _ _ _)=>True
 |some (.ext _)=>True
 |_=>False
section
variable{P:Program}{w:World}{H:Hp}{h h':Heap}{x e:Addr}{o':HO}
theorem CN.write(ok:CN P w H h)(mu:Uh (H x))(he:e=x∨H e=some (.own x))(k:∀b u,b≠e→h.get? b=some u→h'.get? b=some u)(heo:∃u,h'.get? e=some u)
 (new:Bc P w (upd H x o') h' x o'):CN P w (upd H x o') h':=fun b u q=>by
 have nown:∀c y,H c=some (.own y)→c≠x:=fun c y r z=>by subst z;rw[r]at mu;exact mu
 have Tq:∀c xs,H c=some (.tup xs)→c≠x:=fun c xs r z=>by subst z;rw[r]at mu;exact mu
 by_cases hb:b=x
 ·subst hb;rw[AI]at q;cases q;exact new
 ·rw[AE hb]at q;by_cases hbe:b=e
  ·have q':H b=some (.own x):=by
    rcases he with z|z
    ·exact absurd (hbe.trans z) hb
    ·rw[hbe];exact z
   rw[q]at q';cases q';obtain⟨v,hv⟩:=heo;exact⟨v,by rw[hbe];exact hv⟩
  ·refine(ok b u q).Gq (fun c v hc r=>k c v ?_ r) (fun c r=>by rw[AE (nown c b r)];exact r) fun c xs r=>by rw[AE (Tq c xs r)];exact r
   rcases hc with rfl|hc
   ·exact hbe
   ·rintro rfl;rcases he with z|z
    ·exact nown c b hc z
    ·rw[hc]at z;cases z;exact hb rfl
end
structure Un(fs ex:List Addr)(H H':Hp)(h h':Heap):Prop where
 keep:∀b o,h.get? b=some o→H b=none→b ∉ fs→b ∉ ex→h'.get? b=some o
 slot:∀b o,h.get? b=some o→H b=none→b∈fs→b ∉ ex→∃sl,h'.get? b=some {o with slots:=sl}
 free:∀b o,h.get? b=some o→H b=none→b ∉ ex→H' b=none
 there:∀b o,h.get? b=some o→b ∉ ex→∃o',h'.get? b=some o'
 Fz:∀b xs,H b=some (.tup xs)→H' b=some (.tup xs)
 Hv:∀b o u,H b=some (.Hr o u)→H' b=some (.Hr o u)
 JZ:∀b ps,H b=some (.Qu ps)→∃more,H' b=some (.Qu (ps++more))
 JK:∀b xs o,H b=some (.tup xs)→h.get? b=some o→b ∉ ex→h'.get? b=some o
section
variable{fs ex:List Addr}{H H1:Hp}{h h1 h':Heap}{a x e:Addr}{o:HO}
theorem Un.any(u:Un fs ex H H1 h h1){b:Addr}{ob:Obj}(q:h.get? b=some ob)(n:H b=none)(hx:b ∉ ex):∃sl,h1.get? b=some {ob with slots:=sl}:=by
 by_cases hb:b∈fs
 ·exact u.slot b ob q n hb hx
 ·exact⟨ob.slots,u.keep b ob q n hb hx⟩
theorem Un.kept(k:∀b u,h.get? b=some u→h'.get? b=some u):Un fs ex H H h h' :=
 ⟨fun b ob q _ _ _=>k b ob q,fun b ob q _ _ _=>⟨ob.slots,k b ob q⟩,fun _ _ _ n _=>n,fun b ob q _=>⟨ob,k b ob q⟩,fun _ _ q=>q,fun _ _ _ q=>q,fun _ ps q=>⟨#[],by rw[q];simp⟩,fun _ _ ob _ e _=>k _ ob e⟩
theorem Un.refl:Un fs ex H H h h:=Un.kept fun _ _ q=>q
theorem Un.laid(k:∀b u,h.get? b=some u→h'.get? b=some u)(hp:h.objs.size≤a)(hn:H a=none):Un fs ex H (upd H a o) h h' where
 keep:=fun b u q _ _ _=>k b u q
 slot:=fun b u q _ _ _=>⟨u.slots,k b u q⟩
 free:=fun b u q n _=>by rw[AE (aN (aO (aE q) hp))];exact n
 there:=fun b u q _=>⟨u,k b u q⟩
 Fz:=fun b xs q=>by rw[AE (AK q hn)];exact q
 Hv:=fun b u xs q=>by rw[AE (AK q hn)];exact q
 JZ:=fun b ps q=>⟨#[],by rw[AE (AK q hn),q];simp⟩
 JK:=fun b _ u _ e _=>k b u e
theorem Un.write(mu:Uh (H x))(he:e=x∨H e=some (.own x))(k:∀b u,b≠e→h.get? b=some u→h'.get? b=some u)(heo:∃u,h'.get? e=some u):Un fs ex H (upd H x o) h h':=by
 have hx:∀b,H b=none→b≠x:=fun b n z=>by subst z;rw[n]at mu;exact mu
 have hb:∀b,H b=none→b≠e:=fun b n z=>by
  subst z;rcases he with r|r
  ·exact hx b n r
  ·rw[n]at r;cases r
 have hm:∀b u,H b=some u→¬Uh (some u)→b≠x:=fun b u q nm z=>by subst z;rw[q]at mu;exact nm mu
 refine⟨fun b u q n _ _=>k b u (hb b n) q,fun b u q n _ _=>⟨u.slots,k b u (hb b n) q⟩,fun b u q n _=>by rw[AE (hx b n)];exact n,fun b u q _=>?_,
  fun b xs q=>by rw[AE (hm b _ q fun z=>z)];exact q,fun b u xs q=>by rw[AE (hm b _ q fun z=>z)];exact q,fun b ps q=>⟨#[],by rw[AE (hm b _ q fun z=>z),q];simp⟩,fun b xs u q e _=>k b u (fun z=>by
   rcases he with r|r
   ·exact hm b _ q (fun z=>z) (z.trans r)
   ·rw[←z,q]at r;cases r) e⟩
 by_cases hbe:b=e
 ·subst hbe;exact heo
 ·exact⟨u,k b u hbe q⟩
end
def FO(h:Heap)(H:Hp):List Addr:=(List.range h.objs.size).filter fun a=>(H a).isSome
def JG(h:Heap)(H:Hp):Heap:=PySem.W.hideAll h (FO h H)
theorem VM(h:Heap)(H:Hp):(JG h H).objs.size=h.objs.size:=PySem.W.hideAll_size _ _
theorem XD{h:Heap}{H:Hp}{b:Addr}{o:Obj}(e:h.get? b=some o)(n:H b=none):(JG h H).get? b=some o :=
 PySem.W.hideAll_get _ e fun hm=>by
  have q:(H b).isSome=true:=(List.mem_filter.mp hm).2;rw[n]at q;simp at q
theorem Xx{h:Heap}{H:Hp}{b:Addr}{o:Obj}(e:(JG h H).get? b=some o):h.get? b=some o∧H b=none:=by
 have e':h.get? b=some o:=PySem.W.of_hideAll (FO h H) e;refine⟨e',?_⟩;cases q:H b with
 |none=>rfl
 |some x =>
  have hm:b∈FO h H:=List.mem_filter.mpr ⟨au.mpr (aE e'),by simp[q]⟩;have z:(JG h H).get? b=none:=PySem.W.hideAll_none (FO h H) hm;rw[z]at e;cases e
structure Mod(K:PySem.W.Frag)(mg:Str→Option Value)(base:Heap):Prop where
 ZO:K.In base
 glob:base.Ns mainGlobals mg
 blt:∃mb,base.Ns builtinsNs mb∧∀x:Str,x ≠ "__name__" → mb x=bootBuiltins x
 nolimit:base.NoLimit
def gZ(d:Nat):List (List V):=[[],[.ref (d+1)],[.int 1,.int 1],[.ref (d+3)],[.ref (d+2),.ref (d+4)],[],[.int 1,.int 2],[.ref (d+7)],[.ref (d+6),.ref (d+8)],[.int 0,.int 1],[.int 1,.int 1],[.ref (d+10),.ref (d+11)],[.ref (d+9),.ref (d+12)],[],[.int 1,.int 1],[.ref (d+15)],[.ref (d+14),.ref (d+16)],[.int 1,.int 2],[.int 1,.int 2],[.ref (d+18),.ref (d+19)],[.ref (d+17),.ref (d+20)],[],[.int 1,.int 3],[.ref (d+23)],[.int 0,.int 1],[.int 2,.int 3],[.ref (d+25),.ref (d+26)],[.ref (d+22),.ref (d+24),.ref (d+27)],[.int 1,.int 4],[.int 0,.int 1],[.int 3,.int 4],[.ref (d+29),.ref (d+30),.ref (d+31)],[.ref (d+28),.ref (d+32)],[],[.int 1,.int 2],[.ref (d+35)],[.int 0,.int 1],[.int 1,.int 2],[.ref (d+37),.ref (d+38)],[.int 0,.int 1],[.int 0,.int 1],[.int 1,.int 1],[.ref (d+40),.ref (d+41),.ref (d+42)],[.ref (d+34),.ref (d+36),.ref (d+39),.ref (d+43)],[.int 1,.int 6],[.int 1,.int 3],[.int 1,.int 3],[.int 1,.int 6],[.ref (d+45),.ref (d+46),.ref (d+47),.ref (d+48)],[.ref (d+44),.ref (d+49)]]
def gL(d:Nat):List (Key×V):=[(.inr "plain",.ref (d+5)),(.inr "middle",.ref (d+13)),(.inr "heel",.ref (d+21)),(.inr "third",.ref (d+33)),(.inr "fourth",.ref (d+50))]
def KTb(mg:Str→Option Value)(H:Hp):Prop:=∀d:Addr,mg "NAMED_TABLES" = some (.ref d)→(∃o,H d=some (.Hr o (.dK (gL d))))∧∀j xs,(gZ d)[j]? = some xs→H (d+1+j)=some (.tup xs)
theorem KTb.un{mg:Str→Option Value}{fs ex:List Addr}{H H':Hp}{h h':Heap}(k:KTb mg H)(u:Un fs ex H H' h h'):KTb mg H':=fun d e=>by
 obtain⟨⟨o,h1⟩,h2⟩:=k d e;exact⟨⟨o,u.Hv _ _ _ h1⟩,fun j xs q=>u.Fz _ _ (h2 j xs q)⟩
structure Cx where
 prog:Program
 w:World
 K:PySem.W.Frag
 mg:Str→Option Value
 base:Heap
 A:Around
 N:List Str
 s₀:Shared
 H₀:Hp
 env:Env
 outer:List Env
 stack:List Env
 ex:List Addr
 fn:Str→Bool
 calm:Bool
 pn:List (Addr×Obj)
 xe:Value→Shared→Prop
def Jk(l:List Env):List Addr:=l.filterMap (·.frame)
abbrev Cx.fs(X:Cx):List Addr:=Jk X.outer
def bj(sc:Scope)(x:Str):Prop:=sc.names.lookup x=some .local∨sc.names.lookup x=some .cell∨sc.names.lookup x=some .free
def Loc(sc:Scope)(x:Str):Prop:=sc.names.lookup x=some .local∨sc.names.lookup x=some .cell
def Look(env:Env)(h:Heap)(m:Str→Option Value)(x:Str)(u:Value):Prop :=
 (env.kindOf x=some .local∧m x=some u)∨((env.kindOf x=some .cell∨env.kindOf x=some .free)∧∃c,env.cells.lookup x=some c∧h.IsCell c (some u))
structure Cx.Ok(X:Cx):Prop where
 mod:Mod X.K X.mg X.base
 kind:X.env.scope.kind=.function
 glob:X.env.globals=mainGlobals
 blt:X.env.builtins=builtinsNs
 above:X.s₀.heap.objs.size≤X.env.locals
 inj:∀x y c,X.env.cells.lookup x=some c→X.env.cells.lookup y=some c→x=y
 has:∀x,(X.env.kindOf x=some .cell∨X.env.kindOf x=some .free)→∃c,X.env.cells.lookup x=some c
 R6:∀x c,X.fn x=true→X.env.cells.lookup x=some c→X.s₀.heap.objs.size≤c
 hd:X.calm=true→X.A.handled=none
 frames:X.A.frames=some X.stack
 Xh:X.stack=X.outer∨(X.stack=X.env::X.outer∧X.env.frame=some X.env.locals)
 eY:∀b∈X.ex,b≠X.env.locals∧∀x c,X.env.cells.lookup x=some c→c≠b
 bs:∀b o,X.base.get? b=some o→X.s₀.heap.get? b=some o∧X.H₀ b=none
 OX:X.base.objs.size≤X.s₀.heap.objs.size
 Pj:∀b o,X.base.get? b=some o→b ∉ X.ex
 Qy:∀b∈X.ex,b ∉ X.fs
 HY:X.s₀.heap.FunFrames X.base X.outer
 Se:∀b∈X.fs,X.H₀ b=none
 kt:KTb X.mg X.H₀
structure Inv(X:Cx)(pins:List (Addr×Obj))(σ:List (Option V))(H:Hp)(s:Shared):Prop where
 ok:X.Ok
 os:s.os=X.s₀.os
 bare:AllBare s.gens
 base:Un X.fs X.ex X.H₀ H X.s₀.heap s.heap
 loc:∃m,s.heap.Ns X.env.locals m∧∀(i:Nat) (x:Str) (v:V),X.N[i]? = some x→σ[i]? = some (some v)→bj X.env.scope x→∃u,RelV v u∧Look X.env s.heap m x u
 cell:∀x c,X.env.cells.lookup x=some c→∃v,s.heap.IsCell c v
 free:H X.env.locals=none
 GF:∀x c,X.env.cells.lookup x=some c→H c=none
 pin:∀p∈X.pn++pins,s.heap.get? p.1=some p.2∧H p.1=none∧p.1≠X.env.locals∧p.1 ∉ X.fs∧∀v,p.2.data≠.cell v
 Ah:CN X.prog X.w H s.heap
 len:σ.length=X.N.length
theorem Inv.kt{X:Cx}{pins:List (Addr×Obj)}{σ:List (Option V)}{H:Hp}{s:Shared}(I:Inv X pins σ H s):KTb X.mg H:=I.ok.kt.un I.base
section
variable{X:Cx}{pins:List (Addr×Obj)}{σ:List (Option V)}{H H':Hp}{s:Shared}{h':Heap}
theorem Cx.Ok.gF(ok:X.Ok){b:Addr}{o:Obj}(e:X.base.get? b=some o):b ∉ X.fs:=fun hb=>by
 have:=(ok.HY.mem hb).1;rw[e]at this;cases this
theorem Inv.bs(I:Inv X pins σ H s):∀b o,X.base.get? b=some o→s.heap.get? b=some o∧H b=none:=fun b o e =>
 ⟨I.base.keep b o (I.ok.bs b o e).1 (I.ok.bs b o e).2 (I.ok.gF e) (I.ok.Pj b o e),I.base.free b o (I.ok.bs b o e).1 (I.ok.bs b o e).2 (I.ok.Pj b o e)⟩
theorem Inv.bk(I:Inv X pins σ H s):∀b o,X.base.get? b=some o→s.heap.get? b=some o:=fun b o e=>(I.bs b o e).1
theorem Inv.mod(I:Inv X pins σ H s):Mod X.K X.mg X.base:=I.ok.mod
theorem Inv.GX(I:Inv X pins σ H s):X.K.In s.heap:=I.ok.mod.ZO.keeps I.bk
theorem Inv.lt(I:Inv X pins σ H s):X.env.locals<s.heap.objs.size:=let⟨_,hn,_⟩:=I.loc;hn.lt
theorem Inv.sz(I:Inv X pins σ H s):X.s₀.heap.objs.size≤s.heap.objs.size:=aR I.ok.above (bV I.lt)
theorem Inv.fL(I:Inv X pins σ H s){a:Addr}(h:s.heap.objs.size≤a):a ∉ X.fs:=fun hb=>by
 obtain⟨_,o,ho,_⟩:=I.ok.HY.mem hb;exact absurd (aO (aE ho) (aR I.sz h)) (Nat.lt_irrefl _)
theorem Inv.P5(I:Inv X pins σ H s):∀x c,X.env.cells.lookup x=some c→c≠X.env.locals:=fun x c e z=>by
 obtain⟨v,o,ho,hd⟩:=I.cell x c e;obtain⟨m,⟨o',es,ep,ho',hd',_⟩,_⟩:=I.loc;rw[z,ho']at ho;cases ho;rw[hd']at hd;cases hd
theorem Inv.HY(I:Inv X pins σ H s):s.heap.FunFrames X.base X.outer:=by
 have all:∀(l:List Env),(∀b∈Jk l,b∈X.fs)→X.s₀.heap.FunFrames X.base l→s.heap.FunFrames X.base l:=by
  intro l
  induction l with
  |nil=>intro _ _;trivial
  |cons env r ih =>
   intro hs hl;obtain⟨hk,⟨L,o,hf,hn,ho,hd⟩,hr⟩:=hl;have hL:L∈X.fs:=hs L (by unfold Jk;rw[List.filterMap_cons,hf];exact aa);obtain⟨sl,e⟩:=I.base.slot L o ho (I.ok.Se L hL) hL fun z=>I.ok.Qy L z hL;exact⟨hk,⟨L,_,hf,hn,e,hd⟩,ih (fun b hb=>hs b (by unfold Jk;rw[List.filterMap_cons,hf];exact aV _ hb)) hr⟩
 exact all X.outer (fun _ hb=>hb) I.ok.HY
theorem Inv.stack(I:Inv X pins σ H s):s.heap.FunFrames X.base X.stack:=by
 rcases I.ok.Xh with e|⟨e,hf⟩
 ·rw[e];exact I.HY
 ·rw[e];obtain⟨m,hn,_⟩:=I.loc;refine .cons (by rw[I.ok.kind];decide) hf hn ?_ I.HY;exact Heap.get?_none_of_le (aR I.ok.OX I.ok.above)
theorem Inv.O8(I:Inv X pins σ H s):∀b∈Jk X.stack,b∈X.env.locals::X.fs:=fun b hb=>by
 rcases I.ok.Xh with e|⟨e,hf⟩
 ·rw[e]at hb;exact aV _ hb
 ·rw[e]at hb;unfold Jk at hb;rw[List.filterMap_cons,hf]at hb;exact hb
theorem Inv.Rm(I:Inv X pins σ H s):∀b∈Jk X.stack,H b=none:=fun b hb=>by
 rcases aS.mp (I.O8 b hb) with e|hb
 ·rw[e];exact I.free
 ·obtain⟨_,o,ho,_⟩:=I.ok.HY.mem hb;exact I.base.free b o ho (I.ok.Se b hb) fun z=>I.ok.Qy b z hb
theorem Inv.step{g':Array GenState}{t':Nat}{d':Drawn}{ch:List Addr}(I:Inv X pins σ H s)
 (hch:∀b∈ch,(b∈X.ex∨X.s₀.heap.objs.size≤b)∧b≠X.env.locals∧(∀x c,X.env.cells.lookup x=some c→c≠b)∧∀p∈X.pn++pins,p.1≠b)
 (keep:∀b o,b≠X.env.locals→b ∉ X.fs→b ∉ ch→s.heap.get? b=some o→H b=none→h'.get? b=some o)
 (slot:∀b o,b≠X.env.locals→b∈X.fs→b ∉ ch→s.heap.get? b=some o→H b=none→∃sl,h'.get? b=some {o with slots:=sl})(free:∀b o,b ∉ ch→s.heap.get? b=some o→H b=none→H' b=none)
 (there:∀b o,b ∉ ch→s.heap.get? b=some o→∃o',h'.get? b=some o')
 (Fz:∀b xs,H b=some (.tup xs)→H' b=some (.tup xs))(Hv:∀b o u,H b=some (.Hr o u)→H' b=some (.Hr o u))(JZ:∀b ps,H b=some (.Qu ps)→∃more,H' b=some (.Qu (ps++more)))
 (JK:∀b xs o,b ∉ ch→H b=some (.tup xs)→s.heap.get? b=some o→h'.get? b=some o)
 (ns:∀m,s.heap.Ns X.env.locals m→h'.Ns X.env.locals m)(Ah:CN X.prog X.w H' h')(hg:AllBare g') :
  Inv X pins σ H' {s with heap:=h',gens:=g',drawn:=d',toks:=t'}:=by
 have neL:∀b o,X.s₀.heap.get? b=some o→b≠X.env.locals:=fun b o e=>aN (aO (aE e) I.ok.above);have neC:∀b o,X.s₀.heap.get? b=some o→b ∉ X.ex→b ∉ ch:=fun b o e hx hb=>by
  rcases(hch b hb).1 with z|z
  ·exact hx z
  ·exact absurd (aO (aE e) z) (Nat.lt_irrefl _)
 have cellK:∀x c,X.env.cells.lookup x=some c→∀v,s.heap.IsCell c v→h'.IsCell c v:=fun x c e v ⟨o,ho,hd⟩=>by
  have nch:c ∉ ch:=fun z=>(hch c z).2.2.1 x c e rfl;by_cases hc:c∈X.fs
  ·obtain⟨sl,q⟩:=slot c o (I.P5 x c e) hc nch ho (I.GF x c e);exact⟨_,q,hd⟩
  ·exact⟨o,keep c o (I.P5 x c e) hc nch ho (I.GF x c e),hd⟩
 refine⟨I.ok,I.os,hg,⟨fun b o e n hb hx=>?_,fun b o e n hb hx=>?_,fun b o e n hx=>?_,fun b o e hx=>?_,fun b xs e=>Fz b xs (I.base.Fz b xs e),fun b o xs e=>Hv b o xs (I.base.Hv b o xs e),fun b ps e=>?_,fun b xs o q e hx=>JK b xs o (neC b o e hx) (I.base.Fz b xs q) (I.base.JK b xs o q e hx)⟩,?_,fun x c e=>?_,?_,fun x c e=>?_,fun p hp=>?_,Ah,I.len⟩
 ·exact keep b o (neL b o e) hb (neC b o e hx) (I.base.keep b o e n hb hx) (I.base.free b o e n hx)
 ·obtain⟨sl,e1⟩:=I.base.slot b o e n hb hx;obtain⟨sl',e2⟩:=slot b _ (neL b o e) hb (neC b o e hx) e1 (I.base.free b o e n hx);exact⟨sl',e2⟩
 ·obtain⟨o',e1⟩:=I.base.there b o e hx;exact free b o' (neC b o e hx) e1 (I.base.free b o e n hx)
 ·obtain⟨o',e1⟩:=I.base.there b o e hx;exact there b o' (neC b o e hx) e1
 ·obtain⟨m1,e1⟩:=I.base.JZ b ps e;obtain⟨m2,e2⟩:=JZ b _ e1;exact⟨m1++m2,by rw[e2,Array.append_assoc]⟩
 ·obtain⟨m,hn,hl⟩:=I.loc;refine⟨m,ns m hn,fun i x v e1 e2 e3=>?_⟩;obtain⟨u,r,l⟩:=hl i x v e1 e2 e3;refine⟨u,r,?_⟩;rcases l with l|⟨k,c,e,z⟩
  ·exact .inl l
  ·exact .inr ⟨k,c,e,cellK x c e _ z⟩
 ·obtain⟨v,z⟩:=I.cell x c e;exact⟨v,cellK x c e v z⟩
 ·obtain⟨m,⟨o,_,_,ho,_⟩,_⟩:=I.loc;exact free _ o (fun z=>(hch _ z).2.1 rfl) ho I.free
 ·obtain⟨v,o,ho,hd⟩:=I.cell x c e;exact free c o (fun z=>(hch c z).2.2.1 x c e rfl) ho (I.GF x c e)
 ·obtain⟨e,n,ne,nf,d⟩:=I.pin p hp;have nch:p.1 ∉ ch:=fun z=>(hch p.1 z).2.2.2 p hp rfl;exact⟨keep p.1 p.2 ne nf nch e n,free p.1 p.2 nch e n,ne,nf,d⟩
theorem Inv.un{t':Nat}(I:Inv X pins σ H s)(u:Un X.fs [] H H' s.heap h')(Ah:CN X.prog X.w H' h'):Inv X pins σ H' {s with heap:=h',toks:=t'}:=by
 obtain⟨m,⟨o,es,ep,ho,r⟩,_⟩:=id I.loc;obtain⟨sl,hL⟩:=u.any ho I.free (by simp);exact I.step (g':=s.gens) (d':=s.drawn) (ch:=[]) (fun _ z=>nomatch z) (fun b o _ hb _ e n=>u.keep b o e n hb (by simp)) (fun b o _ hb _ e n=>u.slot b o e n hb (by simp)) (fun b o _ e n=>u.free b o e n (by simp)) (fun b o _ e=>u.there b o e (by simp)) u.Fz u.Hv u.JZ (fun b xs o _ q e=>u.JK b xs o q e (by simp)) (fun m' hm=>by
  obtain⟨o',es',ep',ho',r'⟩:=hm;rw[ho]at ho';cases ho';exact⟨_,es',ep',hL,r'⟩) Ah I.bare
theorem Inv.call{g':Array GenState}{t':Nat}{d':Drawn}{ch:List Addr}(I:Inv X pins σ H s)(u:Un (Jk X.stack) ch H H' s.heap h')(Ah:CN X.prog X.w H' h')(hg:AllBare g')
 (hch:∀b∈ch,(b∈X.ex∨X.s₀.heap.objs.size≤b)∧b≠X.env.locals∧(∀x c,X.env.cells.lookup x=some c→c≠b)∧∀p∈X.pn++pins,p.1≠b) :
  Inv X pins σ H' {s with heap:=h',gens:=g',drawn:=d',toks:=t'}:=by
 obtain⟨m,⟨o,es,ep,ho,r⟩,_⟩:=id I.loc;obtain⟨sl,hL⟩:=u.any ho I.free fun z=>(hch _ z).2.1 rfl;exact I.step (ch:=ch) hch (fun b o hL hb hc e n=>u.keep b o e n (fun z=>(aS.mp (I.O8 b z)).elim hL hb) hc) (fun b o _ _ hc e n=>u.any e n hc) (fun b o hc e n=>u.free b o e n hc) (fun b o hc e=>u.there b o e hc) u.Fz u.Hv u.JZ (fun b xs o hc q e=>u.JK b xs o q e hc) (fun m' hm=>by
  obtain⟨o',es',ep',ho',r'⟩:=hm;rw[ho]at ho';cases ho';exact⟨_,es',ep',hL,r'⟩) Ah hg
theorem Inv.turned{t':Nat}{it:Addr}(I:Inv X pins σ H s)(k:∀b o,b≠it→s.heap.get? b=some o→h'.get? b=some o)(hn:H it=none)(hL:it≠X.env.locals)
 (h1:it∈X.ex∨X.s₀.heap.objs.size≤it)(h2:∀x c,X.env.cells.lookup x=some c→c≠it)(h3:∀p∈X.pn++pins,p.1≠it):Inv X pins σ H {s with heap:=h',toks:=t'}:=by
 have nit:∀b u,H b=some u→b≠it:=fun b u e z=>by rw[z,hn]at e;cases e
 refine I.step (g':=s.gens) (d':=s.drawn) (ch:=[it]) (fun b hb=>?_) (fun b o _ _ hc e _=>k b o (fun z=>hc (by simp[z])) e) (fun b o _ _ hc e _=>⟨o.slots,k b o (fun z=>hc (by simp[z])) e⟩) (fun _ _ _ _ n=>n)
  (fun b o hc e=>⟨o,k b o (fun z=>hc (by simp[z])) e⟩) (fun _ _ e=>e) (fun _ _ _ e=>e) (fun b ps e=>⟨#[],by rw[e];simp⟩) (fun b xs o hc _ e=>k b o (fun z=>hc (by simp[z])) e) (fun m hm=>?_) (fun b u e=>?_) I.bare
 ·have e:b=it:=by simpa using hb
  subst e;exact⟨h1,hL,h2,h3⟩
 ·obtain⟨o,es,ep,ho,r⟩:=hm;exact⟨o,es,ep,k _ o (Ne.symm hL) ho,r⟩
 ·refine(I.Ah b u e).Gq (fun c v hc q=>k c v ?_ q) (fun _ q=>q) fun _ _ q=>q;rcases hc with z|z
  ·rw[z];exact nit b u e
  ·exact nit c _ z
theorem Inv.tok(I:Inv X pins σ H s)(t:Nat):Inv X pins σ H {s with toks:=t}:=I.un (h':=s.heap) (t':=t) Un.refl I.Ah
theorem Inv.kept{t':Nat}(I:Inv X pins σ H s)(k:∀b u,s.heap.get? b=some u→h'.get? b=some u):Inv X pins σ H {s with heap:=h',toks:=t'}:=I.un (Un.kept k) (I.Ah.kept k)
theorem Inv.laid{a:Addr}{o:HO}{t':Nat}(I:Inv X pins σ H s)(k:∀b u,s.heap.get? b=some u→h'.get? b=some u)(hp:s.heap.objs.size≤a)(new:Bc X.prog X.w (upd H a o) h' a o) :
  Inv X pins σ (upd H a o) {s with heap:=h',toks:=t'}:=I.un (Un.laid k hp (I.Ah.fresh hp)) (I.Ah.laid k hp new)
theorem Inv.write{x e:Addr}{o:HO}{t':Nat}(I:Inv X pins σ H s)(mu:Uh (H x))(he:e=x∨H e=some (.own x))(k:∀b u,b≠e→s.heap.get? b=some u→h'.get? b=some u)(heo:∃u,h'.get? e=some u)
 (new:Bc X.prog X.w (upd H x o) h' x o):Inv X pins σ (upd H x o) {s with heap:=h',toks:=t'}:=I.un (Un.write mu he k heo) (I.Ah.write mu he k heo new)
theorem Inv.SY{pins':List (Addr×Obj)}(I:Inv X pins σ H s)(h:∀p∈pins',s.heap.get? p.1=some p.2∧H p.1=none∧p.1≠X.env.locals∧p.1 ∉ X.fs∧∀v,p.2.data≠.cell v):Inv X pins' σ H s :=
 ⟨I.ok,I.os,I.bare,I.base,I.loc,I.cell,I.free,I.GF,fun p hp=>(aZ.mp hp).elim (fun z=>I.pin p (bO _ z)) (h p),I.Ah,I.len⟩
theorem Qo{N:List Str}(hN:N.Nodup){i j:Nat}{x:Str}(a:N[i]? = some x)(b:N[j]? = some x):i=j:=by
 obtain⟨h1,e1⟩:=aC.mp a;obtain⟨h2,e2⟩:=aC.mp b;exact(List.getElem_inj hN).mp (e1.trans e2.symm)
theorem Kh{M:Model}{A:Around}{E:Value→Shared→Prop}{i:Nat}{x:Str}{v:V}{u:Value}{Q:Unit→Shared→Prop}(I:Inv X pins σ H s)(hN:X.N.Nodup)(hi:X.N[i]? = some x)(hx:Loc X.env.scope x)(r:RelV v u)
 (h:∀s',Inv X pins (σ.set i (some v)) H s'→(∃a,Heap.SameBut a s.heap s'.heap∧(a=X.env.locals∨X.env.cells.lookup x=some a))→Q () s')(hf:X.fn x=true∨X.env.scope.names.lookup x=some .local:=by first|exact .inl rfl|exact .inr rfl|assumption):wpAny M A (storeName X.env x u) Q E s:=by
 obtain⟨m,hn,hl⟩:=id I.loc;have hcls:(X.env.scope.kind==.class||(X.env.scope.kind==.module&&X.env.locals != X.env.globals))=false:=by rw[I.ok.kind];rfl
 have hiσ:i<σ.length:=by rw[I.len];exact(aC.mp hi).1
 have P5:=I.P5;have tracked:∀ {a:Addr} {h':Heap},(∃o,s.heap.get? a=some o∧H a=none)→Heap.SameBut a s.heap h'→CN X.prog X.w H h':=fun {a h'} ha hs b ob e=>by
  obtain⟨_,_,hfree⟩:=ha;refine(I.Ah b ob e).Gq (fun c w' hc q=>(hs.2 c ?_).trans q) (fun _ q=>q) fun _ _ q=>q;rintro rfl;rcases hc with rfl|hc
  ·rw[hfree]at e;cases e
  ·rw[hfree]at hc;cases hc
 rcases hx with hk|hk
 ·refine wpAny_storeName_local hk hn (fun h' hn' hs=>?_) hcls;obtain⟨oL,_,_,hoL,_⟩:=id hn;refine h _ ⟨I.ok,I.os,I.bare,⟨fun b o e n hb hx=>?_,fun b o e n hb hx=>?_,I.base.free,fun b o e hx=>?_,I.base.Fz,I.base.Hv,I.base.JZ,fun b xs o q e hx=>(hs.2 b (aN (aO (aE e) I.ok.above))).trans (I.base.JK b xs o q e hx)⟩,⟨_,hn',fun j y v' e1 e2 e3=>?_⟩,fun y c e=>?_,I.free,I.GF,fun p hp=>?_,tracked ⟨oL,hoL,I.free⟩ hs,by simpa using I.len⟩ ⟨_,hs,.inl rfl⟩
  ·exact(hs.2 b (aN (aO (aE e) I.ok.above))).trans (I.base.keep b o e n hb hx)
  ·obtain⟨sl,e1⟩:=I.base.slot b o e n hb hx;exact⟨sl,(hs.2 b (aN (aO (aE e) I.ok.above))).trans e1⟩
  ·obtain⟨o',e1⟩:=I.base.there b o e hx;exact⟨o',(hs.2 b (aN (aO (aE e) I.ok.above))).trans e1⟩
  ·by_cases hj:j=i
   ·subst hj;rw[hi]at e1;cases e1;rw[List.getElem?_set_self hiσ]at e2;cases e2;exact⟨u,r,.inl ⟨hk,by simp⟩⟩
   ·rw[List.getElem?_set_ne (Ne.symm hj)]at e2;obtain⟨u',r',q⟩:=hl j y v' e1 e2 e3;refine⟨u',r',?_⟩;rcases q with ⟨k,e⟩|⟨k,c,e,z⟩
    ·refine .inl ⟨k,?_⟩;have:y≠x:=fun e=>hj (Qo hN e1 (e ▸ hi));simp[this,e]
    ·exact .inr ⟨k,c,e,z.sameBut hs (P5 y c e)⟩
  ·obtain⟨w',z⟩:=I.cell y c e;exact⟨w',z.sameBut hs (P5 y c e)⟩
  ·obtain⟨e,n,ne,nf,d⟩:=I.pin p hp;exact⟨(hs.2 p.1 ne).trans e,n,ne,nf,d⟩
 ·have hfn:X.fn x=true:=by
   rcases hf with z|z
   ·exact z
   ·rw[z]at hk;cases hk
  obtain⟨c,hc⟩:=I.ok.has x (.inl hk);obtain⟨w',z⟩:=I.cell x c hc;refine wpAny_storeName_cell I.ok.kind hk hc z (fun h' hc' hs=>?_);obtain⟨oc,hoc,hocd⟩:=id z;refine h {s with heap:=h'} ⟨I.ok,I.os,I.bare,⟨fun b o e n hb hx=>?_,fun b o e n hb hx=>?_,I.base.free,fun b o e hx=>?_,I.base.Fz,I.base.Hv,I.base.JZ,fun b xs o q e hx=>(hs.2 b (aN (aO (aE e) (I.ok.R6 x c hfn hc)))).trans (I.base.JK b xs o q e hx)⟩,⟨m,hn.sameBut hs (Ne.symm (P5 x c hc)),fun j y v' e1 e2 e3=>?_⟩,fun y c' e=>?_,I.free,I.GF,fun p hp=>?_,tracked ⟨oc,hoc,I.GF x c hc⟩ hs,by simpa using I.len⟩ ⟨c,hs,.inr hc⟩
  ·exact(hs.2 b (aN (aO (aE e) (I.ok.R6 x c hfn hc)))).trans (I.base.keep b o e n hb hx)
  ·obtain⟨sl,e1⟩:=I.base.slot b o e n hb hx;exact⟨sl,(hs.2 b (aN (aO (aE e) (I.ok.R6 x c hfn hc)))).trans e1⟩
  ·obtain⟨o',e1⟩:=I.base.there b o e hx;exact⟨o',(hs.2 b (aN (aO (aE e) (I.ok.R6 x c hfn hc)))).trans e1⟩
  ·by_cases hj:j=i
   ·subst hj;rw[hi]at e1;cases e1;rw[List.getElem?_set_self hiσ]at e2;cases e2;exact⟨u,r,.inr ⟨.inl hk,c,hc,hc'⟩⟩
   ·rw[List.getElem?_set_ne (Ne.symm hj)]at e2;obtain⟨u',r',q⟩:=hl j y v' e1 e2 e3;refine⟨u',r',?_⟩;rcases q with q|⟨k,c',e,z'⟩
    ·exact .inl q
    ·refine .inr ⟨k,c',e,z'.sameBut hs ?_⟩;rintro rfl;exact hj (Qo hN e1 (I.ok.inj _ _ _ e hc ▸ hi))
  ·by_cases hcc:c'=c
   ·subst hcc;exact⟨_,hc'⟩
   ·obtain⟨w2,z2⟩:=I.cell y c' e;exact⟨w2,z2.sameBut hs hcc⟩
  ·obtain⟨e,n,ne,nf,d⟩:=I.pin p hp;refine⟨(hs.2 p.1 ?_).trans e,n,ne,nf,d⟩;intro q;rw[q,hoc]at e;have q':oc=p.2:=aW e;exact d w' (by rw[←q'];exact hocd)
theorem JJ{M:Model}{A:Around}{E:Value→Shared→Prop}{i:Nat}{x:Str}{v:V}{u:Value}{Q:Unit→Shared→Prop}(I:Inv X pins σ H s)(hN:X.N.Nodup)(hi:X.N[i]? = some x)(hx:Loc X.env.scope x)(r:RelV v u)
 (h:∀s',Inv X pins (σ.set i (some v)) H s'→Q () s')(hf:X.fn x=true∨X.env.scope.names.lookup x=some .local:=by first|exact .inl rfl|exact .inr rfl|assumption):wpAny M A (storeName X.env x u) Q E s :=
 Kh I hN hi hx r (fun s' I' _=>h s' I') hf
theorem Inv.eO{s':Shared}{ch:List Addr}(I:Inv X pins σ H s)(ho:s'.os=s.os)(u:Un (Jk X.stack) ch H H' s.heap s'.heap)(Ah:CN X.prog X.w H' s'.heap)(hg:AllBare s'.gens)
 (hch:∀b∈ch,(b∈X.ex∨X.s₀.heap.objs.size≤b)∧b≠X.env.locals∧(∀x c,X.env.cells.lookup x=some c→c≠b)∧∀p∈X.pn++pins,p.1≠b):Inv X pins σ H' s':=by
 obtain⟨h',g',d',t',o'⟩:=s';have e:o'=s.os:=ho;subst e;exact I.call (g':=g') (t':=t') (d':=d') u Ah hg hch
end
abbrev XK:=Value→Option Addr→Hp→Prop
abbrev St:=List (Option V)
abbrev VK:=V→Hp→Prop
abbrev TE:=St→Hp→VK→Prop
abbrev TT:=St→Hp→(Bool→Hp→Prop)→Prop
abbrev TA:=St→Hp→(List V→Hp→Prop)→Prop
structure Ends where
 nx:St→Hp→Prop
 rt:VK
 bk:St→Hp→Prop:=fun _ _=>False
 ct:St→Hp→Prop:=fun _ _=>False
abbrev TS:=Ends→St→Hp→Prop
def EP(X:Cx)(pins:List (Addr×Obj))(σ:St)(Q:VK)(u:Value)(s':Shared):Prop:=∃v H',Inv X pins σ H' s'∧RelV v u∧Q v H'
def TP(X:Cx)(pins:List (Addr×Obj))(σ:St)(Q:Bool→Hp→Prop)(b:Bool)(s':Shared):Prop:=∃H',Inv X pins σ H' s'∧Q b H'
def AP(X:Cx)(pins:List (Addr×Obj))(σ:St)(Q:List V→Hp→Prop)(us:List Value)(s':Shared):Prop:=∃vs H',Inv X pins σ H' s'∧Vals vs us∧Q vs H'
def SP(X:Cx)(pins:List (Addr×Obj))(D:Ends)(f:Flow)(s':Shared):Prop :=
 match f with
 |.next=>∃σ' H',Inv X pins σ' H' s'∧D.nx σ' H'
 |.brk=>∃σ' H',Inv X pins σ' H' s'∧D.bk σ' H'
 |.cont=>∃σ' H',Inv X pins σ' H' s'∧D.ct σ' H'
 |.ret u=>∃v σ' H',Inv X pins σ' H' s'∧RelV v u∧D.rt v H'
def PE(X:Cx)(e:Expr)(t:TE):Prop :=
 ∀(pins:List (Addr×Obj)) (s:Shared) (σ:St) (H:Hp) (Q:VK),Inv X pins σ H s→t σ H Q→wpAny (model X.prog X.w) X.A (eval e X.env) (EP X pins σ Q) X.xe s
def PT(X:Cx)(e:Expr)(t:TT):Prop :=
 ∀(pins:List (Addr×Obj)) (s:Shared) (σ:St) (H:Hp) (Q:Bool→Hp→Prop),Inv X pins σ H s→t σ H Q→wpAny (model X.prog X.w) X.A (isTrue e X.env (eval e X.env)) (TP X pins σ Q) X.xe s
def PW(X:Cx)(e:Expr)(t:TT):Prop :=
 ∀(whole:Sem Value) (pins:List (Addr×Obj)) (s:Shared) (σ:St) (H:Hp) (Q:Bool→Hp→Prop),Inv X pins σ H s→t σ H Q→wpAny (model X.prog X.w) X.A (isTrue e X.env whole) (TP X pins σ Q) X.xe s
theorem PW.pt{X:Cx}{e:Expr}{t:TT}(h:PW X e t):PT X e t:=h _
def PA(X:Cx)(es:List Expr)(t:TA):Prop :=
 ∀(pos:Pos) (pins:List (Addr×Obj)) (s:Shared) (σ:St) (H:Hp) (Q:List V→Hp→Prop),Inv X pins σ H s→t σ H Q→wpAny (model X.prog X.w) X.A (spliced (backTo pos (starEach es X.env))) (AP X pins σ Q) X.xe s
def PS(X:Cx)(st:Stmt)(t:TS):Prop :=
 ∀(pins:List (Addr×Obj)) (s:Shared) (σ:St) (H:Hp) (D:Ends),Inv X pins σ H s→t D σ H→wpAny (model X.prog X.w) X.A (exec st X.env) (SP X pins D) X.xe s
def HQ(X:Cx)(st:List Stmt)(t:TS):Prop :=
 ∀(pins:List (Addr×Obj)) (s:Shared) (σ:St) (H:Hp) (D:Ends),Inv X pins σ H s→t D σ H→wpAny (model X.prog X.w) X.A (execs st X.env) (SP X pins D) X.xe s
theorem Av{α:Type}{t:Sem α}{Q Q':α→Shared→Prop}{M:Model}{A:Around}{E:Value→Shared→Prop}{s:Shared}(h:wpAny M A t Q E s)(hQ:∀a s,Q a s→Q' a s):wpAny M A t Q' E s:=ab h hQ fun _ _ x=>x
section
variable{X:Cx}
def NI(i:Nat):TE:=fun σ H Q=>∃v,σ[i]? = some (some v)∧Q v H
def tC(v:V):TE:=fun _ H Q=>Q v H
theorem Z3{i:Nat}{x:Str}{pos:Pos}(hN:X.N[i]? = some x)(hv:bj X.env.scope x)(hd:(x==("__debug__" : Str))=false:=by decide)(hcd:(x==("__classdict__" : Str))=false:=by decide):PE X (.Name x pos) (NI i):=by
 intro pins s σ H Q I h;obtain⟨v,e,h⟩:=h;obtain⟨m,hn,hl⟩:=I.loc;obtain⟨u,r,l⟩:=hl i x v hN e hv;have fin:EP X pins σ Q u s:=⟨v,H,I,r,h⟩;rcases l with ⟨hk,hm⟩|⟨hk,c,hc,hcell⟩
 ·exact wpAny_Name (wpAny_loadName_local I.ok.kind hk hn hm fin) hd
 ·rcases hk with hk|hk
  ·exact wpAny_Name (wpAny_loadName_cell I.ok.kind hk hc hcell fin) hd
  ·exact wpAny_Name (wpAny_loadName_free I.ok.kind hk hc hcell fin hcd) hd
theorem AH{i j pos}:PE X (.Constant (.int i) j pos) (tC (.int i)):=fun _ _ _ H _ I h=>wpAny_Constant_int ⟨.int i,H,I.tok _,⟨_,rfl⟩,h⟩
theorem CL{b j pos}:PE X (.Constant (.bool b) j pos) (tC (.bl b)):=fun _ _ _ H _ I h=>Constant_bool ⟨.bl b,H,I,rfl,h⟩
theorem Ua{j pos}:PE X (.Constant .none j pos) (tC .BA):=fun _ _ _ H _ I h=>Constant_none ⟨.BA,H,I,rfl,h⟩
def Gl(X:Cx)(x:Str):Prop:=X.env.kindOf x=some .globalImplicit
theorem Sn{E:Value→Shared→Prop}{pins:List (Addr×Obj)}{s:Shared}{σ:St}{H:Hp}{x:Str}{u:Value}{pos:Pos}{Q:Value→Shared→Prop}(I:Inv X pins σ H s)(hg:Gl X x)(hm:X.mg x=some u)(h:Q u s)
 (hd:(x==("__debug__" : Str))=false:=by decide):wpAny (model X.prog X.w) X.A (eval (.Name x pos) X.env) Q E s :=
 Calls.Name_function_global I.ok.kind hg (Calls.loadGlobal_global (by rw[I.ok.glob];exact I.mod.glob.keeps I.bk) hm h) hd
theorem EX{E:Value→Shared→Prop}{pins:List (Addr×Obj)}{s:Shared}{σ:St}{H:Hp}{x:Str}{u:Value}{pos:Pos}{Q:Value→Shared→Prop}(I:Inv X pins σ H s)(hg:Gl X x)(hm:X.mg x=none)(hv:bootBuiltins x=some u)(h:Q u s)
 (hn:x ≠ "__name__" := by decide)(hd:(x==("__debug__" : Str))=false:=by decide):wpAny (model X.prog X.w) X.A (eval (.Name x pos) X.env) Q E s:=by
 obtain⟨mb,h1,h2⟩:=I.mod.blt;exact Calls.Name_function_global I.ok.kind hg (Calls.loadGlobal_builtin (by rw[I.ok.glob];exact I.mod.glob.keeps I.bk) hm (by rw[I.ok.blt];exact h1.keeps I.bk) ((h2 x hn).trans hv) h) hd
theorem YL{x:Str}{v:V}{u:Value}{pos:Pos}(hg:Gl X x)(hm:X.mg x=some u)(r:RelV v u)(hd:(x==("__debug__" : Str))=false:=by decide):PE X (.Name x pos) (tC v) :=
 fun _ _ _ H _ I h=>Sn I hg hm ⟨v,H,I,r,h⟩ hd
theorem Bm{x:Str}{v:V}{u:Value}{pos:Pos}(hg:Gl X x)(hm:X.mg x=none)(hv:bootBuiltins x=some u)(r:RelV v u)(hn:x ≠ "__name__" := by decide)(hd:(x==("__debug__" : Str))=false:=by decide):PE X (.Name x pos) (tC v) :=
 fun _ _ _ H _ I h=>EX I hg hm hv ⟨v,H,I,r,h⟩ hn hd
variable{a b:Expr}{ta tb:TE}{pos:Pos}
def PC(X:Cx)(op:CmpOp)(a b:Expr)(t:TE):Prop :=
 ∀(pins:List (Addr×Obj)) (s:Shared) (σ:St) (H:Hp) (Q:VK),Inv X pins σ H s→t σ H Q →
  wpAny (model X.prog X.w) X.A (eval a X.env) (fun v s₁=>wpAny (model X.prog X.w) X.A (eval b X.env) (fun u s₂=>wpAny (model X.prog X.w) X.A (compareOp op v u) (EP X pins σ Q) X.xe s₂) X.xe s₁) X.xe s
def tB(t:TE):TT:=fun σ H Q=>t σ H fun x H1=>∃c,x=.bl c∧Q c H1
theorem Zs{op:CmpOp}{t:TE}(h:PC X op a b t)(h1:behindInMarks op b=false:=by first|exact nobehind _ (by decide) (by decide)|rfl):PT X (.Compare a [op] [b] pos) (tB t):=by
 intro pins s σ H Q I hw;refine wpAny_isTrue_Compare1 (Av (h pins s σ H _ I hw) fun v s1 h1=>Av h1 fun u s2 h2=>Av h2 fun c s3 ⟨x,H1,I1,r1,q1⟩=>?_) h1;obtain⟨d,rfl,q⟩:=q1;cases r1;exact bZ ⟨H1,I1,q⟩
theorem Bx{e : Expr}{t : TE}(h : PE X e t)(he : ∀ whole,isTrue e X.env whole = (do let v ← whole; standAt e.pos; holding [v] (truthy v)) := by intro _; rfl) : PT X e (tB t) := by
  intro pins s σ H Q I hw
  refine isTrue_plain (Av (h pins s σ H _ I hw) fun v s1 ⟨x,H1,I1,r1,q1⟩ => ?_) (he _)
  obtain ⟨d,rfl,q⟩:=q1
  cases r1
  exact bZ ⟨H1,I1,q⟩
variable{tA tB':TT}{rest:List Expr}
def gI(t u:TT):TT:=fun σ H Q=>t σ H fun c H1=>if c=true then u σ H1 Q else Q false H1
def gS(t u:TT):TT:=fun σ H Q=>t σ H fun c H1=>if c=true then Q true H1 else u σ H1 Q
def gH(t:TT):TT:=fun σ H Q=>t σ H fun c H1=>Q (!c) H1
theorem SX(ha:PT X a tA):PW X (.BoolOp .And [a] pos) tA:=by
 intro wh pins s σ H Q I h;refine isTrue_and (Av (ha pins s σ H Q I h) fun c s1 e=>?_);cases c with
 |true=>exact isTrue_and_nil e
 |false=>exact e
theorem DM(ha:PT X a tA):PW X (.BoolOp .Or [a] pos) tA:=by
 intro wh pins s σ H Q I h;refine isTrue_or (Av (ha pins s σ H Q I h) fun c s1 e=>?_);cases c with
 |false=>exact isTrue_or_nil e
 |true=>exact e
theorem Zv(ha:PT X a tA)(hb:PW X (.BoolOp .And (b::rest) pos) tB'):PW X (.BoolOp .And (a::b::rest) pos) (gI tA tB'):=by
 intro wh pins s σ H Q I h;refine isTrue_and (Av (ha pins s σ H _ I h) fun c s1 ⟨H1,I1,q1⟩=>?_);cases c with
 |true=>exact hb wh pins s1 σ H1 Q I1 q1
 |false=>exact⟨H1,I1,q1⟩
theorem EI(ha:PT X a tA)(hb:PW X (.BoolOp .Or (b::rest) pos) tB'):PW X (.BoolOp .Or (a::b::rest) pos) (gS tA tB'):=by
 intro wh pins s σ H Q I h;refine isTrue_or (Av (ha pins s σ H _ I h) fun c s1 ⟨H1,I1,q1⟩=>?_);cases c with
 |true=>exact⟨H1,I1,q1⟩
 |false=>exact hb wh pins s1 σ H1 Q I1 q1
theorem CI(ha:PT X a tA):PT X (.UnaryOp .Not a pos) (gH tA):=by
 intro pins s σ H Q I h;exact isTrue_not (ha pins s σ H (fun c H1=>Q (!c) H1) I h)
def eG(ta tb:TE):TE:=fun σ H Q=>ta σ H fun x H1=>∃c,x=.bl c∧if c=true then tb σ H1 Q else Q (.bl false) H1
def cp(ta:TE):TE:=fun σ H Q=>ta σ H fun x H1=>∃c,x=.bl c∧Q (.bl (!c)) H1
theorem Mr{op}{t:TE}(h:PE X a t):PE X (.BoolOp op [a] pos) t:=fun pins s σ H Q I hw=>BoolOp_one (h pins s σ H Q I hw)
theorem Kv(ha:PE X a ta)(hb:PE X (.BoolOp .And (b::rest) pos) tb):PE X (.BoolOp .And (a::b::rest) pos) (eG ta tb):=by
 intro pins s σ H Q I h;refine BoolOp_and (Av (ha pins s σ H _ I h) fun v s1 ⟨x,H1,I1,r1,q1⟩=>?_);obtain⟨c,rfl,q1⟩:=q1;cases r1;refine bZ ?_;cases c with
 |true=>exact hb pins s1 σ H1 Q I1 q1
 |false=>exact⟨.bl false,H1,I1,rfl,q1⟩
theorem Ud(ha:PE X a ta):PE X (.UnaryOp .Not a pos) (cp ta):=by
 intro pins s σ H Q I h;refine UnaryOp_ (Av (ha pins s σ H _ I h) fun v s1 ⟨x,H1,I1,r1,q1⟩=>?_);obtain⟨c,rfl,q1⟩:=q1;cases r1;exact not_of (bZ ⟨.bl (!c),H1,I1,rfl,q1⟩)
def gV(t:TT)(ta tb:TE):TE:=fun σ H Q=>t σ H fun c H1=>if c=true then ta σ H1 Q else tb σ H1 Q
theorem Wz{c:Expr}(hc:PT X c tA)(ha:PE X a ta)(hb:PE X b tb):PE X (.IfExp c a b pos) (gV tA ta tb):=by
 intro pins s σ H Q I h;refine wpAny_IfExp (Av (hc pins s σ H _ I h) fun d s1 ⟨H1,I1,q1⟩=>?_);cases d with
 |true=>exact ha pins s1 σ H1 Q I1 q1
 |false=>exact hb pins s1 σ H1 Q I1 q1
end
def AQ(K:PySem.W.Frag)(H:Hp)(a:Addr)(xs:List V):Prop :=
 Rd H a (.lst xs) ∨
  ∃(o:Obj) (its:Array Value) (n:Nat),K.lookup a=some o∧o.cls=.type "list" ∧ o.dict=none∧o.data=.seq its n∧its.size≤sizeLine∧Vals xs its.toList
def Ap(K:PySem.W.Frag)(H:Hp)(a:Addr)(xs:List V):Prop :=
 Rd H a (.tup xs) ∨
  ∃(o:Obj) (its:Array Value) (n:Nat),K.lookup a=some o∧o.cls=.type "tuple" ∧ o.data=.seq its n∧its.size≤sizeLine∧Vals xs its.toList
def fz:Value→Option V
 |.none=>some .BA
 |.bool b=>some (.bl b)
 |.int i _=>some (.int i)
 |.str x _=>some (.str x)
 |.bytes b _=>some (.KC b)
 |.float b _=>some (.SV b)
 |.ref a=>some (.ref a)
 |.type n=>some (.ty n)
 |_=>none
theorem RelV.abs{x:V}{u:Value}(r:RelV x u):fz u=some x:=by
 cases x with
 |BA=>cases r;rfl
 |bl _=>cases r;rfl
 |int _=>obtain⟨t,rfl⟩:=r;rfl
 |str _=>obtain⟨t,rfl⟩:=r;rfl
 |KC _=>obtain⟨t,rfl⟩:=r;rfl
 |SV _=>obtain⟨t,rfl⟩:=r;rfl
 |ref _=>cases r;rfl
 |ty _=>cases r;rfl
theorem RelV.inj{x y:V}{u:Value}(r:RelV x u)(q:RelV y u):x=y:=aW (r.abs.symm.trans q.abs)
theorem Vals.inj:∀ {xs ys:List V} {us:List Value},Vals xs us→Vals ys us→xs=ys
 |_,_,_,.nil,.nil=>rfl
 |_,_,_,.cons r t,.cons r' t'=>by rw[r.inj r',Vals.inj t t']
section
variable{X:Cx}{pins:List (Addr×Obj)}{σ:St}{H:Hp}{s:Shared}{a:Addr}{xs ys:List V}
theorem AQ.of{K:PySem.W.Frag}(h:H a=some (.lst xs)):AQ K H a xs:=.inl (.inl h)
theorem Ap.of{K:PySem.W.Frag}(h:H a=some (.tup xs)):Ap K H a xs:=.inl (.inl h)
theorem Inv.list(I:Inv X pins σ H s)(h:AQ X.K H a xs):∃its:List Value,Vals xs its∧PlainL s.heap a its.toArray∧xs.length≤sizeLine:=by
 rcases h with h|⟨o,its,n,hk,hc,hd,hs,hz,r⟩
 ·obtain⟨z,its,n,r,e⟩:=h.ok I.Ah;exact⟨its,r,⟨_,n,e,rfl,rfl,rfl⟩,z⟩
 ·refine⟨its.toList,r,⟨o,n,I.GX a o hk,hc,hd,by simpa using hs⟩,?_⟩;have e:=r.length;simp only[Array.length_toList]at e
  lia
theorem Inv.tuple(I:Inv X pins σ H s)(h:Ap X.K H a xs):∃its:List Value,Vals xs its∧IsTup s.heap a its.toArray∧xs.length≤sizeLine:=by
 rcases h with h|⟨o,its,n,hk,hc,hs,hz,r⟩
 ·obtain⟨z,its,r,p⟩:=h.ok I.Ah;exact⟨its,r,p,z⟩
 ·refine⟨its.toList,r,⟨o,I.GX a o hk,hc,n,by simpa using hs⟩,?_⟩;have e:=r.length;simp only[Array.length_toList]at e
  lia
theorem Inv.Qg(I:Inv X pins σ H s)(h:AQ X.K H a xs)(h':AQ X.K H a ys):xs=ys:=by
 obtain⟨its,r,⟨o,n,e,_,_,d⟩,_⟩:=I.list h;obtain⟨its',r',⟨o',n',e',_,_,d'⟩,_⟩:=I.list h';rw[e]at e';cases e';rw[d]at d'
 injection d' with d1 _
 have:its=its':=by simpa using bD Array.toList d1
 subst this;exact r.inj r'
theorem Inv.OM(I:Inv X pins σ H s)(h:Ap X.K H a xs)(h':Ap X.K H a ys):xs=ys:=by
 obtain⟨its,r,⟨o,e,_,n,d⟩,_⟩:=I.tuple h;obtain⟨its',r',⟨o',e',_,n',d'⟩,_⟩:=I.tuple h';rw[e]at e';cases e';rw[d]at d'
 injection d' with d1 _
 have:its=its':=by simpa using bD Array.toList d1
 subst this;exact r.inj r'
end
abbrev Cx.Ii(X:Cx)(E:Value→Shared→Prop):Cx:={X with xe:=E}
abbrev Cx.Si(X:Cx):Cx:=X.Ii fun _ _=>False
theorem Cx.Ok.Ii{X:Cx}(ok:X.Ok)(E:Value→Shared→Prop):(X.Ii E).Ok :=
 ⟨ok.mod,ok.kind,ok.glob,ok.blt,ok.above,ok.inj,ok.has,ok.R6,ok.hd,ok.frames,ok.Xh,ok.eY,ok.bs,ok.OX,ok.Pj,ok.Qy,ok.HY,ok.Se,ok.kt⟩
theorem Cx.Ok.GQ{X:Cx}{E:Value→Shared→Prop}(ok:(X.Ii E).Ok):X.Ok :=
 ⟨ok.mod,ok.kind,ok.glob,ok.blt,ok.above,ok.inj,ok.has,ok.R6,ok.hd,ok.frames,ok.Xh,ok.eY,ok.bs,ok.OX,ok.Pj,ok.Qy,ok.HY,ok.Se,ok.kt⟩
section
variable{X:Cx}{pins:List (Addr×Obj)}{σ:St}{H:Hp}{s:Shared}{E:Value→Shared→Prop}
theorem Inv.Ii(I:Inv X pins σ H s)(E:Value→Shared→Prop):Inv (X.Ii E) pins σ H s:=⟨I.ok.Ii E,I.os,I.bare,I.base,I.loc,I.cell,I.free,I.GF,I.pin,I.Ah,I.len⟩
theorem Inv.GQ(I:Inv (X.Ii E) pins σ H s):Inv X pins σ H s:=⟨I.ok.GQ,I.os,I.bare,I.base,I.loc,I.cell,I.free,I.GF,I.pin,I.Ah,I.len⟩
theorem SP.GQ{D:Ends}{f:Flow}{s':Shared}(h:SP (X.Ii E) pins D f s'):SP X pins D f s':=by
 cases f with
 |next=>obtain⟨σ',H',I,q⟩:=h;exact⟨σ',H',I.GQ,q⟩
 |brk=>obtain⟨σ',H',I,q⟩:=h;exact⟨σ',H',I.GQ,q⟩
 |cont=>obtain⟨σ',H',I,q⟩:=h;exact⟨σ',H',I.GQ,q⟩
 |ret u=>obtain⟨v,σ',H',I,r,q⟩:=h;exact⟨v,σ',H',I.GQ,r,q⟩
theorem HQ.Si{st:List Stmt}{t:TS}(h:HQ X.Si st t):HQ X st t:=fun pins s σ H D I hw =>
 ab (h pins s σ H D (I.Ii _) hw) (fun _ _ q=>q.GQ) fun _ _ z=>False.elim z
end
section
variable{X:Cx}{st:Stmt}{rest:List Stmt}{t u:TS}{e:Expr}{te:TE}{pos:Pos}
def cy:TS:=fun D σ H=>D.nx σ H
def Fp(t u:TS):TS:=fun D σ H=>t {D with nx:=u D} σ H
theorem Ax:HQ X [] cy:=fun _ _ σ H _ I h=>wpAny_execs_nil ⟨σ,H,I,h⟩
theorem AB(h1:PS X st t)(h2:HQ X rest u):HQ X (st::rest) (Fp t u):=by
 intro pins s σ H D I h;refine wpAny_execs_cons (Av (h1 pins s σ H {D with nx:=u D} I h) fun f s1 q=>?_);cases f with
 |next =>
  obtain⟨σ',H',I',q⟩:=q;exact h2 pins s1 σ' H' D I' q
 |ret v=>exact q
 |brk=>exact q
 |cont=>exact q
theorem AF(h1:PS X st t):HQ X [st] t:=by
 intro pins s σ H D I h;refine wpAny_execs_cons (Av (h1 pins s σ H D I h) fun f s1 q=>?_);cases f with
 |next=>exact wpAny_execs_nil q
 |ret v=>exact q
 |brk=>exact q
 |cont=>exact q
theorem Inv.quiet{pins:List (Addr×Obj)}{σ:St}{H:Hp}{s:Shared}(I:Inv X pins σ H s):interactive X.env=false:=by simp[interactive,I.ok.kind]
def cv(te:TE):TS:=fun D σ H=>te σ H fun _ H1=>D.nx σ H1
theorem DY(he:PE X e te)(hs:swapsWith e none pos.line X.env=pure false:=by rfl):PS X (.Expr e pos) (cv te):=by
 intro pins s σ H D I h;exact wpAny_Expr_any (Av (he pins s σ H _ I h) fun v s1 ⟨x,H1,I1,r1,q1⟩=>⟨σ,H1,I1,q1⟩) I.quiet hs
def eu(te:TE):TS:=fun D σ H=>te σ H D.rt
theorem Af(he:PE X e te):PS X (.Return (some e) pos) (eu te):=by
 intro pins s σ H D I h;exact wpAny_Return_some (Av (he pins s σ H _ I h) fun v s1 ⟨x,H1,I1,r1,q1⟩=>⟨x,σ,H1,I1,r1,q1⟩)
def fE(c:TT)(t u:TS):TS:=fun D σ H=>c σ H fun b H1=>if b=true then t D σ H1 else u D σ H1
theorem BK{c:Expr}{a b:List Stmt}{tc:TT}(hc:PT X c tc)(ha:HQ X a t)(hb:HQ X b u):PS X (.If c a b pos) (fE tc t u):=by
 intro pins s σ H D I h;refine wpAny_If (Av (hc pins s σ H _ I h) fun d s1 ⟨H1,I1,q1⟩=>?_);cases d with
 |true=>exact ha pins s1 σ H1 D I1 q1
 |false=>exact hb pins s1 σ H1 D I1 q1
def Y7:TS:=fun _ _ _=>False
theorem Ls:PS X st Y7:=fun _ _ _ _ _ _ h=>h.elim
end
abbrev TG:=V→St→Hp→(St→Hp→Prop)→Prop
abbrev Qq:=List V→St→Hp→(St→Hp→Prop)→Prop
def PG(X:Cx)(target:Expr)(t:TG):Prop :=
 ∀(pins:List (Addr×Obj)) (s:Shared) (σ:St) (H:Hp) (v:V) (u:Value) (Q:St→Hp→Prop),Inv X pins σ H s→RelV v u→t v σ H Q →
  wpAny (model X.prog X.w) X.A (assign target X.env u) (fun _ s'=>∃σ' H',Inv X pins σ' H' s'∧Q σ' H') X.xe s
def Xe(X:Cx)(ts:List Expr)(t:Qq):Prop :=
 ∀(pins:List (Addr×Obj)) (s:Shared) (σ:St) (H:Hp) (vs:List V) (us:List Value) (Q:St→Hp→Prop),Inv X pins σ H s→Vals vs us→t vs σ H Q →
  wpAny (model X.prog X.w) X.A (assignInOrder ((assignEach ts X.env).map (·.2)) us) (fun _ s'=>∃σ' H',Inv X pins σ' H' s'∧Q σ' H') X.xe s
abbrev WE:=V→V→V→Hp→(Hp→Prop)→Prop
def Zk(X:Cx)(t:WE):Prop :=
 ∀(pins:List (Addr×Obj)) (s:Shared) (σ:St) (H:Hp) (o i v:V) (ov iv u:Value) (Q:Hp→Prop),Inv X pins σ H s→RelV o ov→RelV i iv→RelV v u→t o i v H Q →
  wpAny (model X.prog X.w) X.A (setItem ov iv u) (fun _ s'=>∃H',Inv X pins σ H' s'∧Q H') X.xe s
section
variable{X:Cx}{pos:Pos}
def CM(i:Nat):TG:=fun v σ H Q=>Q (σ.set i (some v)) H
theorem Al{i:Nat}{x:Str}(hN:X.N.Nodup)(hi:X.N[i]? = some x)(hx:Loc X.env.scope x)(hf:X.fn x=true∨X.env.scope.names.lookup x=some .local:=by first|exact .inl rfl|exact .inr rfl|assumption):PG X (.Name x pos) (CM i):=by
 intro pins s σ H v u Q I r h;exact wpAny_assign_Name (JJ I hN hi hx r (fun s' I'=>⟨_,H,I',h⟩) hf)
def Ww:Qq:=fun vs σ H Q=>vs=[]∧Q σ H
def Mo(t:TG)(u:Qq):Qq:=fun vs σ H Q=>∃v r,vs=v::r∧t v σ H fun σ' H'=>u r σ' H' Q
theorem D7:Xe X [] Ww:=by
 intro pins s σ H vs us Q I r h;obtain⟨e,h⟩:=h;subst e;cases r;exact assignInOrder_nil ⟨σ,H,I,h⟩
theorem BH{e:Expr}{es:List Expr}{t:TG}{u:Qq}(h1:PG X e t)(h2:Xe X es u)
 (hs:(assignEach (e::es) X.env).map (·.2)=assign e X.env::(assignEach es X.env).map (·.2):=by rfl):Xe X (e::es) (Mo t u):=by
 intro pins s σ H vs us Q I r h;obtain⟨v,vr,e1,h⟩:=h;subst e1;cases r with
 |cons r rr =>
  rw[hs];refine assignInOrder_cons (Av (h1 pins s σ H _ _ _ I r h) fun _ s1 ⟨σ1,H1,I1,q1⟩=>?_);exact h2 pins s1 σ1 H1 _ _ Q I1 rr q1
def WL(K:PySem.W.Frag)(n:Nat)(t:Qq):TG:=fun v σ H Q=>∃a xs,v=.ref a∧Ap K H a xs∧xs.length=n∧t xs σ H Q
theorem En{es:List Expr}{k:Nat}{t:Qq}{n:Nat}(hc:X.calm=true)(h:Xe X es t)
 (hn:(assignEach es X.env).length=n:=by rfl)(hst:(assignEach es X.env).findIdx? (·.1)=none:=by rfl):PG X (.Tuple es k pos) (WL X.K n t):=by
 intro pins s σ H v u Q I r hw;obtain⟨a,xs,e1,hq,hl,hw⟩:=hw;subst e1;cases r;obtain⟨its,rv,ht,hz⟩:=I.tuple hq;refine assign_Tuple_tuple (I.ok.hd hc) ht (by simp[hn,←hl,rv.length]) hst fun h' hx=>?_;have I1:Inv X pins σ H {s with heap:=h'}:=I.kept (t':=s.toks) fun b o e=>hx b o (aN (aE e)) e;exact h pins _ σ H xs _ Q I1 (by simpa using rv) hw
def b5(to ti:TE)(t:WE):TG:=fun v σ H Q=>to σ H fun o H1=>ti σ H1 fun i H2=>t o i v H2 fun H3=>Q σ H3
theorem VT{o i:Expr}{to ti:TE}{t:WE}(ho:PE X o to)(hi:PE X i ti)(hs:Zk X t)
 (ha:∀v,assign (.Subscript o i pos) X.env v=(do
      let ov ←holding [v] (eval o X.env)
      let iv ←holding [v,ov] (eval i X.env)
      standAt pos
      holding [v,ov,iv] (setItem ov iv v)
      release [v,ov,iv] []):=by intro _;rfl):PG X (.Subscript o i pos) (b5 to ti t):=by
  intro pins s σ H v u Q I r h
  rw[ha]
  refine aA (bK (Av (ho pins s σ H _ I h) fun ov s1 ⟨x,H1,I1,r1,q1⟩=>?_))
  refine aA (bK (Av (hi pins s1 σ H1 _ I1 q1) fun iv s2 ⟨y,H2,I2,r2,q2⟩=>?_))
  refine aA (wpAny_standAt (aA (bK (Av (hs pins s2 σ H2 x y v ov iv u _ I2 r1 r2 r q2) fun _ s3 ⟨H3,I3,q3⟩=>?_))))
  exact wpAny_release ⟨σ,H3,I3,q3⟩
def Lc(te:TE)(g:TG):TS:=fun D σ H=>te σ H fun x H1=>g x σ H1 D.nx
theorem U4{tg e:Expr}{te:TE}{g:TG}(he:PE X e te)(hg:PG X tg g)(hs:swapsWithSole [tg] e pos.line X.env=pure false:=by rfl)(hw:swappedStores [tg] e X.env=pure none:=by rfl)
 (h1:(assignEach [tg] X.env).map (·.2)=[assign tg X.env]:=by rfl):PS X (.Assign [tg] e pos) (Lc te g):=by
 intro pins s σ H D I h;refine wpAny_Assign_stores (Av (he pins s σ H _ I h) fun v s1 ⟨x,H1,I1,r1,q1⟩=>?_) hs hw;rw[h1];exact Av (hg pins s1 σ H1 x v _ I1 r1 q1) fun _ s2 q=>q
theorem AW{i:Nat}{x:Str}{e:Expr}{te:TE}{pos':Pos}(hN:X.N.Nodup)(hi:X.N[i]? = some x)(hx:Loc X.env.scope x)(he:PE X e te)(hs:swapsWith e (some (.Name x pos')) pos.line X.env=pure false:=by rfl)(hf:X.fn x=true∨X.env.scope.names.lookup x=some .local:=by first|exact .inl rfl|exact .inr rfl|assumption) :
  PS X (.Assign [.Name x pos'] e pos) (Lc te (CM i)):=by
 intro pins s σ H D I h;refine wpAny_Assign_Name (Av (he pins s σ H _ I h) fun v s1 ⟨y,H1,I1,r1,q1⟩=>?_) hs;exact JJ I1 hN hi hx r1 (fun s2 I2=>⟨_,H1,I2,q1⟩) hf
def fk(i j:Nat)(ta:TA):TS:=fun D σ H=>ta σ H fun vs H1=>∃v w,vs=[v,w]∧D.nx ((σ.set i (some v)).set j (some w)) H1
theorem Y8{i j:Nat}{x y:Str}{a b:Expr}{ta:TA}{px py pt:Pos}{kt k2 pt2}(hc:X.calm=true)(hN:X.N.Nodup)(hi:X.N[i]? = some x)(hj:X.N[j]? = some y)(hij:i≠j)
 (hx:X.env.scope.names.lookup x=some .local)(hy:X.env.scope.names.lookup y=some .local)(ha:PA X [a,b] ta)
 (hw:swappedStores [.Tuple [.Name x px,.Name y py] kt pt] (.Tuple [a,b] k2 pt2) X.env=pure (some [x,y]))
 (hs:swapsWithSole [.Tuple [.Name x px,.Name y py] kt pt] (.Tuple [a,b] k2 pt2) pos.line X.env=pure false:=by rfl) :
  PS X (.Assign [.Tuple [.Name x px,.Name y py] kt pt] (.Tuple [a,b] k2 pt2) pos) (fk i j ta):=by
 intro pins s σ H D I h;rw[exec_Assign_arm];refine aA (wpAny_standAt ?_);rw[hs];refine aA (aB ?_);rw[if_neg (by decide)];refine aA (Tuple_ (Av (ha _ pins s σ H _ I h) fun us s1 ⟨vs,H1,I1,r1,q1⟩=>?_));obtain⟨v,w,e1,q1⟩:=q1;subst e1;obtain⟨u1,u2,rfl,rv,rw'⟩:∃u1 u2,us=[u1,u2]∧RelV v u1∧RelV w u2:=by
  cases r1 with
  |cons p q =>
   cases q with
   |cons p' q' =>
    cases q';exact⟨_,_,rfl,p,p'⟩
 refine aX ?_ (by show 2≤sizeLine;decide);have I2:Inv X pins σ H1 {s1 with heap:=s1.heap.push { cls:=.type "tuple",data:=.seq [u1,u2].toArray} }:=I1.kept (t':=s1.toks) fun b o e=>aD _ e;rw[hw];refine aA (aB ?_);show wpAny (model X.prog X.w) X.A (do rule "assign.swapped-stores"; let items ←unpackItems (.ref s1.heap.objs.size) 2 none;assignInOrder [fun v=>bindName X.env y v,fun v=>bindName X.env x v] items.reverse;pure Flow.next) _ _ _;refine aA (wpAny_rule (aA (unpackItems_tuple (items:=#[u1,u2]) (I.ok.hd hc) (IsTup.new s1.heap _) fun h' hx'=>?_)));have I3:=I2.kept (h':=h') (t':=s1.toks) fun b o e=>hx' b o (aN (aE e)) e;show wpAny _ _ (assignInOrder [fun v=>bindName X.env y v,fun v=>bindName X.env x v] [u2,u1]>>=fun _=>pure Flow.next) _ _ _;refine aA (assignInOrder_cons (wpAny_bindName (JJ I3 hN hj (.inl hy) rw' (fun s2 I4=>?_) (.inr hy))));refine assignInOrder_cons (wpAny_bindName (JJ I4 hN hi (.inl hx) rv (fun s3 I5=>assignInOrder_nil (aB ?_)) (.inr hx)));rw[List.set_comm _ _ (Ne.symm hij)]at I5;exact⟨_,H1,I5,q1⟩
end
section
variable{X:Cx}{pos:Pos}
def Vn(c:TT)(tb:TS):TS:=fun D σ H=>∃W:Nat→St→Hp→Prop,(∃m,W m σ H)∧∀m σ H,W m σ H →
 c σ H fun b H1=>if b=true then ∃N:St→Hp→Prop,(∀σ' H',N σ' H'→∃m',m'<m∧W m' σ' H')∧tb {D with nx:=N,ct:=N,bk:=D.nx} σ H1 else D.nx σ H1
theorem Ho{c:Expr}{body:List Stmt}{tc:TT}{tb:TS}(hp:PassesOwn (model X.prog X.w) X.A X.env X.xe)(hc:PT X c tc)(hb:HQ X body tb):PS X (.While c body [] pos) (Vn tc tb):=by
 intro pins s σ H D I h;obtain⟨W,⟨m0,w0⟩,turn⟩:=h;refine wpAny_While (codeAny_whileLoop (fun n s'=>∃σ' H',Inv X pins σ' H' s'∧W n σ' H') ?_ m0 ⟨σ,H,I,w0⟩);rintro n s1 ⟨σ1,H1,I1,w1⟩;refine wpAny_passesOwn hp (Av (hc pins s1 σ1 H1 _ I1 (turn n σ1 H1 w1)) fun b s2 ⟨H2,I2,q2⟩=>?_);cases b with
 |true =>
  obtain⟨N,hN,q2⟩:=q2;rw[if_pos rfl];refine wpAny_passesOwn hp (Av (hb pins s2 σ1 H2 _ I2 q2) fun f s3 q3=>?_);cases f with
  |next =>
   obtain⟨σ3,H3,I3,n3⟩:=q3;obtain⟨m',hm,w3⟩:=hN σ3 H3 n3;exact⟨m',hm,σ3,H3,I3,w3⟩
  |cont =>
   obtain⟨σ3,H3,I3,n3⟩:=q3;obtain⟨m',hm,w3⟩:=hN σ3 H3 n3;exact⟨m',hm,σ3,H3,I3,w3⟩
  |brk=>exact q3
  |ret v=>exact q3
 |false =>
  rw[if_neg aJ];exact wpAny_execs_nil ⟨σ1,H2,I2,q2⟩
end
structure It where
 go:Nat→Hp→Prop
 Df:Nat→Hp→V→Hp→Prop
 stop:Nat→Hp→Prop
def IV(X:Cx)(pins:List (Addr×Obj))(H:Hp)(b:Addr):Prop :=
 H b=none∧b≠X.env.locals∧b ∉ X.fs∧(b∈X.ex∨X.s₀.heap.objs.size≤b)∧(∀x c,X.env.cells.lookup x=some c→c≠b)∧∀p∈X.pn++pins,p.1≠b
theorem Inv.Mz{X:Cx}{pins:List (Addr×Obj)}{σ:St}{H H':Hp}{s:Shared}{b:Addr}(I:Inv X pins σ H s)(hb:s.heap.objs.size≤b)(hn:H' b=none):IV X pins H' b:=by
 refine⟨hn,Nat.ne_of_gt (aO I.lt hb),I.fL hb,.inr (aR I.sz hb),fun x c e z=>?_,fun p hp z=>?_⟩
 ·obtain⟨v,q⟩:=I.cell x c e;exact absurd (aO q.lt (by rw[z];exact hb)) (Nat.lt_irrefl _)
 ·exact absurd (aO (aE (I.pin p hp).1) (by rw[z];exact hb)) (Nat.lt_irrefl _)
structure Turn(P:Program)(w:World)(K:PySem.W.Frag)(tg:Expr)(J:It)(fp:List Addr)(it:Addr)(tn:Nat→Heap→Prop):Prop where
 mem:it∈fp
 obj:∀i h,tn i h→∀b∈fp,∃o,h.get? b=some o∧∀v,o.data≠.cell v
 keep:∀i h h',tn i h→(∀b∈fp,∀o,h.get? b=some o→h'.get? b=some o)→tn i h'
 item:∀(X:Cx),X.prog=P→X.w=w→X.K=K→X.calm=true→∀(i:Nat) (pins:List (Addr×Obj)) (s:Shared) (σ:St) (H:Hp) (E:Value→Shared→Prop),Inv X pins σ H s→(∀b∈fp,IV X pins H b)→tn i s.heap→J.go i H →
  wpAny (model P w) X.A (pyNext (.ref it)) (fun r s1=>∃u,r=some u ∧
   wpAny (model P w) X.A (letOwnedTupleGo tg (.ref it) u) (fun _ s2=>∃x H',Inv X pins σ H' s2∧RelV x u∧J.Df i H x H'∧tn (i+1) s2.heap∧∀b∈fp,H' b=none) E s1) E s
 done:∀(X:Cx),X.prog=P→X.w=w→X.K=K→X.calm=true→∀(i:Nat) (pins:List (Addr×Obj)) (s:Shared) (σ:St) (H:Hp) (E:Value→Shared→Prop),Inv X pins σ H s→(∀b∈fp,IV X pins H b)→tn i s.heap→J.stop i H →
  wpAny (model P w) X.A (pyNext (.ref it)) (fun r s1=>r=none∧Inv X pins σ H s1) E s
 self:∀(A:Around) (i:Nat) (s:Shared) (Q:Value→Shared→Prop) (E:Value→Shared→Prop),tn i s.heap→Q (.ref it) s→wpAny (model P w) A (pyIter (.ref it)) Q E s
abbrev TI:=St→Hp→(It→Hp→Prop)→Prop
def eT(X:Cx)(pins:List (Addr×Obj))(σ:St)(tg:Expr)(R:It→Hp→Prop)(itv:Value)(s2:Shared):Prop :=
 ∃(it:Addr) (fp:List Addr) (tn:Nat→Heap→Prop) (J:It) (H':Hp),itv=.ref it∧Inv X pins σ H' s2∧Turn X.prog X.w X.K tg J fp it tn∧tn 0 s2.heap∧(∀b∈fp,IV X pins H' b)∧R J H'
def PI(X:Cx)(tg iter:Expr)(wi:TI):Prop :=
 ∀(pins:List (Addr×Obj)) (s:Shared) (σ:St) (H:Hp) (R:It→Hp→Prop),Inv X pins σ H s→wi σ H R →
  wpAny (model X.prog X.w) X.A (eval iter X.env) (fun v s1=>wpAny (model X.prog X.w) X.A (pyIter v) (eT X pins σ tg R) X.xe s1) X.xe s
theorem T6{M:Model}{A:Around}{E:Value→Shared→Prop}{s:Shared}{tg:Expr}{it:Addr}{u:Value}{o:Obj}{n:String}{vs:Array Value}{Q:Unit→Shared→Prop}(ho:s.heap.get? it=some o)(hc:o.cls=.type n)(hd:o.data=.fields vs)
 (hn:["enumerate", "zip", "dict_itemiterator", "dict_reverseitemiterator", "odict_iterator", "itertools.zip_longest", "itertools.pairwise"].contains n=false)(hQ:Q () s):wpAny M A (letOwnedTupleGo tg (.ref it) u) Q E s:=by
 unfold letOwnedTupleGo;cases tg<;>first
  |exact aB hQ
  |(cases u<;>first
    |exact aB hQ
    |(refine aA (wpAny_load ho ?_)
      rw[hc,hd];show wpAny M A (if(["enumerate", "zip", "dict_itemiterator", "dict_reverseitemiterator", "odict_iterator", "itertools.zip_longest", "itertools.pairwise"].contains n&&vs[0]? == some (rawInt _))=true then _ else _) Q E s;rw[if_neg (by intro h;rw[hn,Bool.false_and]at h;cases h)];exact aB hQ))
def Ru(K:PySem.W.Frag)(a:Addr):It :=
 ⟨fun i H=>∃xs x,AQ K H a xs∧xs[i]? = some x,fun i H x H'=>H'=H∧∀xs,AQ K H a xs→xs[i]? = some x,fun i H=>∃xs,AQ K H a xs∧xs.length≤i⟩
def Sa(K:PySem.W.Frag)(a:Addr):It :=
 ⟨fun i H=>∃xs x,Ap K H a xs∧xs[i]? = some x,fun i H x H'=>H'=H∧∀xs,Ap K H a xs→xs[i]? = some x,fun i H=>∃xs,Ap K H a xs∧xs.length≤i⟩
def OD(lo:Int)(n:Nat):It:=⟨fun i _=>i<n,fun i H x H'=>H'=H∧x=.int (lo+i),fun i _=>n≤i⟩
theorem Vy{P:Program}{w:World}{K:PySem.W.Frag}{tg:Expr}(a it:Addr):Turn P w K tg (Ru K a) [it] it (fun i h=>h.IsListIter it a i) where
 mem:=by simp
 obj:=fun i h st b hb=>by
  have e:b=it:=by simpa using hb
  subst e;obtain⟨o,e,c,d⟩:=st;exact⟨o,e,fun v z=>by rw[d]at z;cases z⟩
 keep:=fun i h h' st k=>st.at fun o e=>k it (by simp) o e
 item:=by
  intro X hP hw hK hc i pins s σ H E I hf st hg;subst hP hw hK;obtain⟨xs,x,hq,hx⟩:=hg;obtain⟨its,rv,p,hz⟩:=I.list hq;obtain⟨u,hu,ru⟩:=rv.get hx;obtain⟨f0,f1,f2,f3,f4,f5⟩:=hf it (by simp);refine wpAny_pyNext_list_item st p.isList (x:=u) (by simpa using hu) fun h' st' sb=>?_;have I1:Inv X pins σ H {s with heap:=h'}:=I.turned (t':=s.toks) (fun b o hb e=>(sb.2 b hb).trans e) f0 f1 f3 f4 f5;obtain⟨o,e,c,d⟩:=id st';exact⟨u,rfl,T6 (s:={s with heap:=h'}) e c d (by decide) ⟨x,H,I1,ru,⟨rfl,fun ys hy=>by rw[I.Qg hy hq];exact hx⟩,st',fun b hb=>(hf b hb).1⟩⟩
 done:=by
  intro X hP hw hK hc i pins s σ H E I hf st hg;subst hP hw hK;obtain⟨xs,hq,hx⟩:=hg;obtain⟨its,rv,p,hz⟩:=I.list hq;obtain⟨f0,f1,f2,f3,f4,f5⟩:=hf it (by simp);have hl:=rv.length;exact wpAny_pyNext_list_end (I.ok.hd hc) st p.isList (by simp;lia) fun h' eb=>⟨rfl,I.turned (t':=s.toks) (fun b o hb e=>eb b o hb e) f0 f1 f3 f4 f5⟩
 self:=fun _ _ _ _ _ st h=>wpAny_pyIter_listiter st h
theorem T7{P:Program}{w:World}{K:PySem.W.Frag}{tg:Expr}(a it:Addr):Turn P w K tg (Sa K a) [it] it (fun i h=>h.IsTupleIter it a i) where
 mem:=by simp
 obj:=fun i h st b hb=>by
  have e:b=it:=by simpa using hb
  subst e;obtain⟨o,e,c,d⟩:=st;exact⟨o,e,fun v z=>by rw[d]at z;cases z⟩
 keep:=fun i h h' st k=>st.at fun o e=>k it (by simp) o e
 item:=by
  intro X hP hw hK hc i pins s σ H E I hf st hg;subst hP hw hK;obtain⟨xs,x,hq,hx⟩:=hg;obtain⟨its,rv,p,hz⟩:=I.tuple hq;obtain⟨u,hu,ru⟩:=rv.get hx;obtain⟨f0,f1,f2,f3,f4,f5⟩:=hf it (by simp);refine wpAny_pyNext_tuple_item st (show s.heap.IsTuple a its.toArray from p) (x:=u) (by simpa using hu) fun h' st' sb=>?_;have I1:Inv X pins σ H {s with heap:=h'}:=I.turned (t':=s.toks) (fun b o hb e=>(sb.2 b hb).trans e) f0 f1 f3 f4 f5;obtain⟨o,e,c,d⟩:=id st';exact⟨u,rfl,T6 (s:={s with heap:=h'}) e c d (by decide) ⟨x,H,I1,ru,⟨rfl,fun ys hy=>by rw[I.OM hy hq];exact hx⟩,st',fun b hb=>(hf b hb).1⟩⟩
 done:=by
  intro X hP hw hK hc i pins s σ H E I hf st hg;subst hP hw hK;obtain⟨xs,hq,hx⟩:=hg;obtain⟨its,rv,p,hz⟩:=I.tuple hq;obtain⟨f0,f1,f2,f3,f4,f5⟩:=hf it (by simp);have hl:=rv.length;exact wpAny_pyNext_tuple_end (I.ok.hd hc) st (show s.heap.IsTuple a its.toArray from p) (by simp;lia) fun h' eb=>⟨rfl,I.turned (t':=s.toks) (fun b o hb e=>eb b o hb e) f0 f1 f3 f4 f5⟩
 self:=fun _ _ _ _ _ st h=>wpAny_pyIter_tupleiter st h
theorem S7{P:Program}{w:World}{K:PySem.W.Frag}{tg:Expr}(it:Addr)(lo:Int)(n:Nat):Turn P w K tg (OD lo n) [it] it (fun i h=>IsRangeIter h it (lo+(i:Nat)*1) ((n:Int)-(i:Nat)) 1) where
 mem:=by simp
 obj:=fun i h st b hb=>by
  have e:b=it:=by simpa using hb
  subst e;exact⟨_,st,fun v z=>by
   have z':Data.fields _=Data.cell v:=z;cases z'⟩
 keep:=fun i h h' st k=>k it (by simp) _ st
 item:=by
  intro X hP hw hK hc i pins s σ H E I hf st hg;subst hP hw hK;obtain⟨f0,f1,f2,f3,f4,f5⟩:=hf it (by simp);have W:=Walks.range (prog:=X.prog) (w:=X.w) (I.ok.hd hc) it lo 1 n;refine W.item i s _ _ hg st fun v h' tk hv st' kk=>?_;obtain⟨t,rfl⟩:=hv;have I1:Inv X pins σ H {s with heap:=h',toks:=tk}:=I.turned (fun b o hb e=>kk b o (by simpa using hb) e) f0 f1 f3 f4 f5;refine⟨_,rfl,T6 (s:={s with heap:=h',toks:=tk}) (n := "range_iterator") st' rfl rfl (by decide) ⟨.int (lo+i),H,I1,⟨t,?_⟩,⟨rfl,rfl⟩,st',fun b hb=>(hf b hb).1⟩⟩;rw[Int.mul_one]
 done:=by
  intro X hP hw hK hc i pins s σ H E I hf st hg;subst hP hw hK;obtain⟨f0,f1,f2,f3,f4,f5⟩:=hf it (by simp);exact wpAny_pyNext_range_end (I.ok.hd hc) st (by have:n≤i:=hg;lia) fun h' eb=>⟨rfl,I.turned (t':=s.toks) (fun b o hb e=>eb b o hb e) f0 f1 f3 f4 f5⟩
 self:=fun _ _ _ _ _ st h=>wpAny_pyIter_rangeiter st h
section
variable{X:Cx}{tg:Expr}
def cm(K:PySem.W.Frag)(tl:TE):TI:=fun σ H R=>tl σ H fun x H1=>∃a,x=.ref a∧(∃xs,AQ K H1 a xs)∧R (Ru K a) H1
def fZ(K:PySem.W.Frag)(tl:TE):TI:=fun σ H R=>tl σ H fun x H1=>∃a,x=.ref a∧(∃xs,Ap K H1 a xs)∧R (Sa K a) H1
theorem BB{l:Expr}{tl:TE}(hl:PE X l tl):PI X tg l (cm X.K tl):=by
 intro pins s σ H R I h;refine Av (hl pins s σ H _ I h) fun v s1 ⟨x,H1,I1,r1,q1⟩=>?_;obtain⟨a,e,⟨xs,hq⟩,q⟩:=q1;subst e;cases r1;obtain⟨its,rv,p,hz⟩:=I1.list hq;refine wpAny_pyIter_list p.isList ?_;refine⟨s1.heap.objs.size,[s1.heap.objs.size],_,_,H1,rfl,I1.kept (t':=s1.toks) fun b o e=>aD _ e,Vy a _,⟨_,Heap.get?_push_size _ rfl,rfl,rfl⟩,fun b hb=>?_,q⟩;have e:b=s1.heap.objs.size:=by simpa using hb
 subst e;exact I1.Mz (aG _) (I1.Ah.fresh (aG _))
theorem Ub{l:Expr}{tl:TE}(hl:PE X l tl):PI X tg l (fZ X.K tl):=by
 intro pins s σ H R I h;refine Av (hl pins s σ H _ I h) fun v s1 ⟨x,H1,I1,r1,q1⟩=>?_;obtain⟨a,e,⟨xs,hq⟩,q⟩:=q1;subst e;cases r1;obtain⟨its,rv,p,hz⟩:=I1.tuple hq;refine wpAny_pyIter_tuple (show s1.heap.IsTuple a its.toArray from p) ?_;refine⟨s1.heap.objs.size,[s1.heap.objs.size],_,_,H1,rfl,I1.kept (t':=s1.toks) fun b o e=>aD _ e,T7 a _,⟨_,Heap.get?_push_size _ rfl,rfl,rfl⟩,fun b hb=>?_,q⟩;have e:b=s1.heap.objs.size:=by simpa using hb
 subst e;exact I1.Mz (aG _) (I1.Ah.fresh (aG _))
theorem PN{pins:List (Addr×Obj)}{σ:St}{H:Hp}{s:Shared}{R:It→Hp→Prop}{E:Value→Shared→Prop}{lo hi:Int}{t u v:Tok}{tk:Nat}(I:Inv X pins σ H s)(h1:-(2^62)≤lo)(h2:lo<2^62)(h3:-(2^62)≤hi)(h4:hi<2^62)
 (q:R (OD lo (hi-lo).toNat) H):wpAny (model X.prog X.w) X.A (pyIter (.ref s.heap.objs.size)) (eT X pins σ tg R) E {s with heap:=s.heap.push { cls:=.type "range",data:=.fields #[.int lo t,.int hi u,.int 1 v]},toks:=tk}:=by
 refine wpAny_pyIter_range (IsRange.new ..) (small_one h1 h2 h3 h4) ?_;have I1:Inv X pins σ H {s with heap:=s.heap.push { cls:=.type "range",data:=.fields #[.int lo t,.int hi u,.int 1 v]},toks:=tk}:=I.kept fun b o e=>aD _ e;refine⟨(s.heap.push { cls:=.type "range",data:=.fields #[.int lo t,.int hi u,.int 1 v]}).objs.size,[(s.heap.push { cls:=.type "range",data:=.fields #[.int lo t,.int hi u,.int 1 v]}).objs.size],_,_,H,rfl,
  I1.kept (t':=tk) fun b o e=>aD _ e,S7 _ lo (hi-lo).toNat,?_,fun b hb=>?_,q⟩
 ·have e1:lo+((0:Nat):Int)*1=lo:=by simp
  have e2:(((hi-lo).toNat:Nat):Int)-((0:Nat):Int)=Builtin.Range.rangeSize lo hi 1:=by rw[rangeSize_one];split<;>lia
  show IsRangeIter _ _ (lo+((0:Nat):Int)*1) ((((hi-lo).toNat:Nat):Int)-((0:Nat):Int)) 1;rw[e1,e2];exact aT _ rfl
 ·have e:b=(s.heap.push { cls:=.type "range",data:=.fields #[.int lo t,.int hi u,.int 1 v]}).objs.size:=by simpa using hb
  subst e;exact I1.Mz (aG _) (I1.Ah.fresh (aG _))
def dP(ta:TA):TI:=fun σ H R=>ta σ H fun vs H1=>∃j:Int,vs=[.int j]∧-(2^62)≤j∧j<2^62∧R (OD 0 j.toNat) H1
def dY(ta:TA):TI:=fun σ H R=>ta σ H fun vs H1=>∃i j:Int,vs=[.int i,.int j]∧(-(2^62)≤i∧i<2^62∧-(2^62)≤j∧j<2^62)∧R (OD i (j-i).toNat) H1
theorem Dd{a:Expr}{ta:TA}{p pos:Pos}(hg:Gl X "range")(hm:X.mg "range" = none)(ha:PA X [a] ta)(hs:starEach [a] X.env=[(false,eval a X.env)]:=by rfl):PI X tg (.Call (.Name "range" p) [a] [] pos) (dP ta):=by
 intro pins s σ H R I h;refine Call_ (EX I hg hm boot_range (bF (Av (ha pos pins s σ H _ I h) fun us s1 ⟨vs,H1,I1,r1,q1⟩=>?_) hs rfl));obtain⟨j,e,q1,q2,q⟩:=q1;subst e;cases r1 with
 |cons r rr =>
  cases rr;obtain⟨t,rfl⟩:=r;exact call_range_1 (PN I1 (by lia) (by lia) q1 q2 (by simpa using q))
theorem OV{a b:Expr}{ta:TA}{p pos:Pos}(hg:Gl X "range")(hm:X.mg "range" = none)(ha:PA X [a,b] ta)(hs:starEach [a,b] X.env=[(false,eval a X.env),(false,eval b X.env)]:=by rfl)(hs2:starEach [b] X.env=[(false,eval b X.env)]:=by rfl) :
  PI X tg (.Call (.Name "range" p) [a,b] [] pos) (dY ta):=by
 intro pins s σ H R I h;refine Call_ (EX I hg hm boot_range (bF (Av (ha pos pins s σ H _ I h) fun us s1 ⟨vs,H1,I1,r1,q1⟩=>?_) (by rw[hs,hs2]) (by rw[hs2];rfl)));obtain⟨i,j,e,⟨q1,q2,q3,q4⟩,q⟩:=q1;subst e;cases r1 with
 |cons r rr =>
  cases rr with
  |cons r' rr =>
   cases rr;obtain⟨t,rfl⟩:=r;obtain⟨t',rfl⟩:=r';exact call_range_2 (PN I1 q1 q2 q3 q4 q)
def fy(wi:TI)(g:TG)(tb:TS):TS:=fun D σ H=>wi σ H fun J H1=>∃W:Nat→Nat→St→Hp→Prop,(∃m,W 0 m σ H1)∧∀i m σ H,W i m σ H →
 (J.stop i H∧D.nx σ H)∨(J.go i H∧∃N:St→Hp→Prop,(∀σ' H',N σ' H'→∃m',m'<m∧W (i+1) m' σ' H')∧∀x H',J.Df i H x H'→g x σ H' fun σ2 H2=>tb {D with nx:=N,ct:=N,bk:=D.nx} σ2 H2)
def KH(fp:List Addr)(h:Heap):List (Addr×Obj):=fp.filterMap fun b=>(h.get? b).map fun o=>(b,o)
theorem HC{fp:List Addr}{h:Heap}{b:Addr}{o:Obj}(hb:b∈fp)(e:h.get? b=some o):(b,o)∈KH fp h:=List.mem_filterMap.mpr ⟨b,hb,by rw[e];rfl⟩
theorem VS{fp:List Addr}{h:Heap}{p:Addr×Obj}(hp:p∈KH fp h):p.1∈fp∧h.get? p.1=some p.2:=by
 obtain⟨b,hb,e⟩:=List.mem_filterMap.mp hp;cases q:h.get? b with
 |none=>rw[q]at e;cases e
 |some o =>
  rw[q]at e;have e':(b,o)=p:=aW e;subst e';exact⟨hb,q⟩
theorem Inv.pinned{pins:List (Addr×Obj)}{σ:St}{H:Hp}{s:Shared}{fp:List Addr}(I:Inv X pins σ H s)(hf:∀b∈fp,IV X pins H b)(ho:∀b∈fp,∃o,s.heap.get? b=some o∧∀v,o.data≠.cell v):Inv X (pins++KH fp s.heap) σ H s :=
 I.SY fun p hp=>(aZ.mp hp).elim (fun z=>I.pin p (ag _ z)) fun z=>by
  obtain⟨hb,e⟩:=VS z;obtain⟨f0,f1,f2,_⟩:=hf p.1 hb;obtain⟨o,e',d⟩:=ho p.1 hb;rw[e]at e';cases e';exact⟨e,f0,f1,f2,d⟩
theorem Inv.JI{pins pl:List (Addr×Obj)}{σ:St}{H:Hp}{s:Shared}(I:Inv X (pins++pl) σ H s):Inv X pins σ H s:=I.SY fun p hp=>I.pin p (ag _ (bO _ hp))
theorem Bf{iter:Expr}{body:List Stmt}{wi:TI}{g:TG}{tb:TS}{pos:Pos}(hp:PassesOwn (model X.prog X.w) X.A X.env X.xe)(hc:X.calm=true)(hi:PI X tg iter wi)(hg:PG X tg g)(hb:HQ X body tb)
 (hs:∀x,foldedSetIterable iter X.env x=pure x:=by intro _;rfl):PS X (.For tg iter body [] pos) (fy wi g tb):=by
 intro pins s σ H D I h;refine wpAny_For (Av (hi pins s σ H _ I h) fun v s1 h1=>Av h1 fun itv s2 h2=>?_) hs;obtain⟨it,fp,tn,J,H2,e,I2,T,st2,f2,W,⟨m0,w0⟩,turn⟩:=h2;subst e;have stat:∀ {H':Hp},(∀b∈fp,H' b=none)→∀b∈fp,IV X pins H' b:=fun hn b hb=>⟨hn b hb,(f2 b hb).2⟩;refine codeAny_forLoop_any (fun n s'=>∃i σ' H',Inv X pins σ' H' s'∧tn i s'.heap∧(∀b∈fp,H' b=none)∧W i n σ' H') ?_ m0 ⟨0,σ,H2,I2,st2,fun b hb=>(f2 b hb).1,w0⟩;rintro n s3 ⟨i,σ3,H3,I3,st3,fr3,w3⟩;rcases turn i n σ3 H3 w3 with ⟨stop,qn⟩|⟨go,N,hN,step⟩
 ·refine wpAny_passesOwn hp (Av (T.done X rfl rfl rfl hc i pins s3 σ3 H3 X.xe I3 (stat fr3) st3 stop) fun r s4 ⟨hr,I4⟩=>?_);subst hr;exact wpAny_execs_nil ⟨σ3,H3,I4,qn⟩
 ·refine wpAny_passesOwn hp (Av (T.item X rfl rfl rfl hc i pins s3 σ3 H3 X.xe I3 (stat fr3) st3 go) fun r s4 ⟨u,hr,h4⟩=>?_);subst hr;refine wpAny_passesOwn hp (Av h4 fun _ s5 ⟨x,H5,I5,r5,y5,st5,fr5⟩=>?_);have I5':=I5.pinned (stat fr5) (T.obj _ _ st5);refine wpAny_passesOwn hp (Av (hg _ s5 σ3 H5 x u _ I5' r5 (step x H5 y5)) fun _ s6 ⟨σ6,H6,I6,q6⟩=>?_);refine wpAny_passesOwn hp (Av (hb _ s6 σ6 H6 _ I6 q6) fun f s7 q7=>?_);have again:∀ {σ7:St} {H7:Hp},Inv X (pins++KH fp s5.heap) σ7 H7 s7→N σ7 H7→∃m,m<n∧∃i σ' H',Inv X pins σ' H' s7∧tn i s7.heap∧(∀b∈fp,H' b=none)∧W i m σ' H':=fun {σ7 H7} I7 n7=>by
   obtain⟨m',hm,w7⟩:=hN σ7 H7 n7;refine⟨m',hm,i+1,σ7,H7,I7.JI,T.keep _ _ _ st5 fun b hb o e=>(I7.pin (b,o) (ag _ (ag _ (HC hb e)))).1,fun b hb=>?_,w7⟩;obtain⟨o,e,d⟩:=T.obj _ _ st5 b hb;exact(I7.pin (b,o) (ag _ (ag _ (HC hb e)))).2.1
  cases f with
  |next=>obtain⟨σ7,H7,I7,n7⟩:=q7;exact again I7 n7
  |cont=>obtain⟨σ7,H7,I7,n7⟩:=q7;exact again I7 n7
  |brk=>obtain⟨σ7,H7,I7,q7⟩:=q7;exact⟨σ7,H7,I7.JI,q7⟩
  |ret v=>obtain⟨x7,σ7,H7,I7,r7,q7⟩:=q7;exact⟨x7,σ7,H7,I7.JI,r7,q7⟩
end
theorem B6{K:PySem.W.Frag}{a:Addr}{xs:List V}{g:TG}{tb:TS}{D:Ends}{σ:St}{H:Hp}(Pv:Nat→St→Hp→Prop)(h0:Pv 0 σ H)(hl:∀i σ H,i≤xs.length→Pv i σ H→AQ K H a xs)
 (hs:∀i x σ H,xs[i]? = some x→Pv i σ H→g x σ H fun σ2 H2=>tb {D with nx:=Pv (i+1),ct:=Pv (i+1),bk:=D.nx} σ2 H2)(hd:∀σ H,Pv xs.length σ H→D.nx σ H) :
  ∃W:Nat→Nat→St→Hp→Prop,(∃m,W 0 m σ H)∧∀i m σ H,W i m σ H →
   ((Ru K a).stop i H∧D.nx σ H)∨((Ru K a).go i H∧∃N:St→Hp→Prop,(∀σ' H',N σ' H'→∃m',m'<m∧W (i+1) m' σ' H')∧∀x H',(Ru K a).Df i H x H'→g x σ H' fun σ2 H2=>tb {D with nx:=N,ct:=N,bk:=D.nx} σ2 H2):=by
 refine⟨fun i m σ H=>m=xs.length-i∧i≤xs.length∧Pv i σ H,⟨xs.length,by simp,Nat.zero_le _,h0⟩,?_⟩;rintro i m σ H ⟨rfl,hi,p⟩;have q:=hl i σ H hi p;by_cases hlt:i<xs.length
 ·refine .inr ⟨⟨xs,xs[i],q,by simp[hlt]⟩,Pv (i+1),fun σ' H' p'=>⟨xs.length-(i+1),by lia,rfl,hlt,p'⟩,fun x H' y=>?_⟩;obtain⟨e,y⟩:=y;subst e;exact hs i x σ _ (y xs q) p
 ·have e:i=xs.length:=by lia
  subst e;exact .inl ⟨⟨xs,q,Nat.le_refl _⟩,hd σ H p⟩
theorem YS{K:PySem.W.Frag}{a:Addr}{xs:List V}{g:TG}{tb:TS}{D:Ends}{σ:St}{H:Hp}(Pv:Nat→St→Hp→Prop)(h0:Pv 0 σ H)(hl:∀i σ H,i≤xs.length→Pv i σ H→Ap K H a xs)
 (hs:∀i x σ H,xs[i]? = some x→Pv i σ H→g x σ H fun σ2 H2=>tb {D with nx:=Pv (i+1),ct:=Pv (i+1),bk:=D.nx} σ2 H2)(hd:∀σ H,Pv xs.length σ H→D.nx σ H) :
  ∃W:Nat→Nat→St→Hp→Prop,(∃m,W 0 m σ H)∧∀i m σ H,W i m σ H →
   ((Sa K a).stop i H∧D.nx σ H)∨((Sa K a).go i H∧∃N:St→Hp→Prop,(∀σ' H',N σ' H'→∃m',m'<m∧W (i+1) m' σ' H')∧∀x H',(Sa K a).Df i H x H'→g x σ H' fun σ2 H2=>tb {D with nx:=N,ct:=N,bk:=D.nx} σ2 H2):=by
 refine⟨fun i m σ H=>m=xs.length-i∧i≤xs.length∧Pv i σ H,⟨xs.length,by simp,Nat.zero_le _,h0⟩,?_⟩;rintro i m σ H ⟨rfl,hi,p⟩;have q:=hl i σ H hi p;by_cases hlt:i<xs.length
 ·refine .inr ⟨⟨xs,xs[i],q,by simp[hlt]⟩,Pv (i+1),fun σ' H' p'=>⟨xs.length-(i+1),by lia,rfl,hlt,p'⟩,fun x H' y=>?_⟩;obtain⟨e,y⟩:=y;subst e;exact hs i x σ _ (y xs q) p
 ·have e:i=xs.length:=by lia
  subst e;exact .inl ⟨⟨xs,q,Nat.le_refl _⟩,hd σ H p⟩
theorem GW{lo:Int}{n:Nat}{g:TG}{tb:TS}{D:Ends}{σ:St}{H:Hp}(Pv:Nat→St→Hp→Prop)(h0:Pv 0 σ H)
 (hs:∀i σ H,i<n→Pv i σ H→g (.int (lo+i)) σ H fun σ2 H2=>tb {D with nx:=Pv (i+1),ct:=Pv (i+1),bk:=D.nx} σ2 H2)(hd:∀σ H,Pv n σ H→D.nx σ H) :
  ∃W:Nat→Nat→St→Hp→Prop,(∃m,W 0 m σ H)∧∀i m σ H,W i m σ H →
   ((OD lo n).stop i H∧D.nx σ H)∨((OD lo n).go i H∧∃N:St→Hp→Prop,(∀σ' H',N σ' H'→∃m',m'<m∧W (i+1) m' σ' H')∧∀x H',(OD lo n).Df i H x H'→g x σ H' fun σ2 H2=>tb {D with nx:=N,ct:=N,bk:=D.nx} σ2 H2):=by
 refine⟨fun i m σ H=>m=n-i∧i≤n∧Pv i σ H,⟨n,by simp,Nat.zero_le _,h0⟩,?_⟩;rintro i m σ H ⟨rfl,hi,p⟩;by_cases hlt:i<n
 ·refine .inr ⟨hlt,Pv (i+1),fun σ' H' p'=>⟨n-(i+1),by lia,rfl,hlt,p'⟩,fun x H' y=>?_⟩;obtain⟨e,y⟩:=y;subst e y;exact hs i σ _ hlt p
 ·have e:i=n:=by lia
  subst e;exact .inl ⟨aG _,hd σ H p⟩
theorem Hy{c:TT}{tb:TS}{D:Ends}{σ:St}{H:Hp}(Pv:St→Hp→Prop)(μ:St→Hp→Nat)(h0:Pv σ H)
 (hs:∀σ H,Pv σ H→c σ H fun b H1=>if b=true then tb {D with nx:=fun σ' H'=>Pv σ' H'∧μ σ' H'<μ σ H,ct:=fun σ' H'=>Pv σ' H'∧μ σ' H'<μ σ H,bk:=D.nx} σ H1 else D.nx σ H1)
 (mono:∀σ H Q Q',(∀b H1,Q b H1→Q' b H1)→c σ H Q→c σ H Q'):Vn c tb D σ H:=by
 refine⟨fun m σ H=>m=μ σ H∧Pv σ H,⟨_,rfl,h0⟩,?_⟩;rintro m σ H ⟨rfl,p⟩;refine mono σ H _ _ (fun b H1 q=>?_) (hs σ H p);cases b with
 |true=>exact⟨_,fun σ' H' ⟨p',l⟩=>⟨_,l,rfl,p'⟩,q⟩
 |false=>exact q
abbrev R2:=V→V→Hp→VK→Prop
def B9(X:Cx)(f:Value→Value→Sem Value)(r:R2):Prop :=
 ∀(pins:List (Addr×Obj)) (s:Shared) (σ:St) (H:Hp) (x y:V) (v u:Value) (Q:VK),Inv X pins σ H s→RelV x v→RelV y u→r x y H Q →
  wpAny (model X.prog X.w) X.A (f v u) (EP X pins σ Q) X.xe s
def bx(X:Cx)(f:Value→Sem Value)(r:V→Hp→VK→Prop):Prop :=
 ∀(pins:List (Addr×Obj)) (s:Shared) (σ:St) (H:Hp) (x:V) (v:Value) (Q:VK),Inv X pins σ H s→RelV x v→r x H Q →
  wpAny (model X.prog X.w) X.A (f v) (EP X pins σ Q) X.xe s
def EE(X:Cx)(f:Value)(r:List V→Hp→VK→Prop):Prop :=
 ∀(pins:List (Addr×Obj)) (s:Shared) (σ:St) (H:Hp) (xs:List V) (us:List Value) (Q:VK),Inv X pins σ H s→Vals xs us→r xs H Q →
  wpAny (model X.prog X.w) X.A (call f us) (EP X pins σ Q) X.xe s
def Xo(r:R2)(ta tb:TE):TE:=fun σ H Q=>ta σ H fun x H1=>tb σ H1 fun y H2=>r x y H2 Q
def gR(r:V→Hp→VK→Prop)(ta:TE):TE:=fun σ H Q=>ta σ H fun x H1=>r x H1 Q
def rI(C:Int→Int→Prop)(g:Int→Int→V):R2:=fun x y H Q=>∃i j,x=.int i∧y=.int j∧C i j∧Q (g i j) H
def OW(g:Int→Int→V):R2:=fun x y H Q=>∃i j,x=.int i∧y=.int j∧Q (g i j) H
def rU(g:Int→V):V→Hp→VK→Prop:=fun x H Q=>∃i,x=.int i∧Q (g i) H
section
variable{X:Cx}{a b:Expr}{ta tb:TE}{pos:Pos}
theorem Wy(ha:PE X a ta)(hb:PE X b tb){pins:List (Addr×Obj)}{s:Shared}{σ:St}{H:Hp}{R:V→V→Hp→Prop}(I:Inv X pins σ H s)
 (h:ta σ H fun x H1=>tb σ H1 fun y H2=>R x y H2){Q:Value→Shared→Prop}{f:Value→Value→Sem Value}
 (hf:∀v u s2 x y H2,Inv X pins σ H2 s2→RelV x v→RelV y u→R x y H2→wpAny (model X.prog X.w) X.A (f v u) Q X.xe s2) :
  wpAny (model X.prog X.w) X.A (eval a X.env) (fun v s₁=>wpAny (model X.prog X.w) X.A (eval b X.env) (fun u s₂=>wpAny (model X.prog X.w) X.A (f v u) Q X.xe s₂) X.xe s₁) X.xe s:=by
 refine Av (ha pins s σ H _ I h) fun v s1 ⟨x,H1,I1,r1,q1⟩=>?_;refine Av (hb pins s1 σ H1 _ I1 q1) fun u s2 ⟨y,H2,I2,r2,q2⟩=>?_;exact hf v u s2 x y H2 I2 r1 r2 q2
theorem Ab{op:Operator}{r:R2}(ho:B9 X (binaryOp op) r)(ha:PE X a ta)(hb:PE X b tb):PE X (.BinOp a op b pos) (Xo r ta tb):=by
 intro pins s σ H Q I h;exact wpAny_BinOp (Wy ha hb I h fun v u s2 x y H2 I2 rx ry q=>ho pins s2 σ H2 x y v u Q I2 rx ry q)
theorem XT{op:UnaryOp}{r:V→Hp→VK→Prop}(ho:bx X (unaryOp op) r)(ha:PE X a ta):PE X (.UnaryOp op a pos) (gR r ta):=by
 intro pins s σ H Q I h;exact UnaryOp_ (Av (ha pins s σ H _ I h) fun v s1 ⟨x,H1,I1,r1,q1⟩=>ho pins s1 σ H1 x v Q I1 r1 q1)
theorem SI{f:Value→Value→Sem Value}{C:Int→Int→Prop}{g:Int→Int→Int}
 (rule:∀(i j:Int) (t u:Tok) (s:Shared) (Q:Value→Shared→Prop) (E:Value→Shared→Prop),C i j→Q (.int (g i j) s.toks) {s with toks:=s.toks+1}→wpAny (model X.prog X.w) X.A (f (.int i t) (.int j u)) Q E s) :
  B9 X f (rI C fun i j=>.int (g i j)):=by
 intro pins s σ H x y v u Q I rx ry h;obtain⟨i,j,rfl,rfl,hc,q⟩:=h;obtain⟨t,rfl⟩:=rx;obtain⟨t',rfl⟩:=ry;exact rule i j t t' s _ _ hc ⟨.int (g i j),H,I.tok _,⟨_,rfl⟩,q⟩
theorem ZP{f:Value→Value→Sem Value}{g:Int→Int→Int}
 (rule:∀(i j:Int) (t u:Tok) (s:Shared) (Q:Value→Shared→Prop) (E:Value→Shared→Prop),Q (.int (g i j) s.toks) {s with toks:=s.toks+1}→wpAny (model X.prog X.w) X.A (f (.int i t) (.int j u)) Q E s) :
  B9 X f (OW fun i j=>.int (g i j)):=by
 intro pins s σ H x y v u Q I rx ry h;obtain⟨i,j,rfl,rfl,q⟩:=h;obtain⟨t,rfl⟩:=rx;obtain⟨t',rfl⟩:=ry;exact rule i j t t' s _ _ ⟨.int (g i j),H,I.tok _,⟨_,rfl⟩,q⟩
theorem Ws{f:Value→Value→Sem Value}{g:Int→Int→Bool}
 (rule:∀(i j:Int) (t u:Tok) (s:Shared) (Q:Value→Shared→Prop) (E:Value→Shared→Prop),Q (.bool (g i j)) s→wpAny (model X.prog X.w) X.A (f (.int i t) (.int j u)) Q E s) :
  B9 X f (OW fun i j=>.bl (g i j)):=by
 intro pins s σ H x y v u Q I rx ry h;obtain⟨i,j,rfl,rfl,q⟩:=h;obtain⟨t,rfl⟩:=rx;obtain⟨t',rfl⟩:=ry;exact rule i j t t' s _ _ ⟨.bl (g i j),H,I,rfl,q⟩
def fR(i j:Int):Prop:=0<j∧j<1073741824
def gB(i j:Int):Prop:=0≤j∧j≤1000000∧i.natAbs<2^64
def Ng(i j:Int):Prop:=(-(2^64)<i∧i<2^64)∨(-(2^64)<j∧j<2^64)
theorem Ng.ok{i j:Int}(h:Ng i j):IntMulOk i j:=by
 rcases h with ⟨h1,h2⟩|⟨h1,h2⟩
 ·exact .of_left (intBits_le_64 h1 h2)
 ·exact .of_right (intBits_le_64 h1 h2)
theorem CU:B9 X (binaryOp .Add) (OW fun i j=>.int (i+j)):=ZP fun _ _ _ _ _ _ _ q=>add_int q
theorem EW:B9 X (binaryOp .Sub) (OW fun i j=>.int (i-j)):=ZP fun _ _ _ _ _ _ _ q=>sub_int q
theorem Ss:B9 X (binaryOp .FloorDiv) (rI fR fun i j=>.int (i / j)):=SI fun i j _ _ _ _ _ hc q=>by
 have h1:(0:Int)<j:=hc.1;have h2:j<1073741824:=hc.2;exact floordiv_int (by lia) (by rw[Int.fdiv_eq_ediv_of_nonneg i (by lia)];exact q) (.inl (PyProof.noPylong_small (by lia)))
theorem Ge:B9 X (binaryOp .Mod) (rI (fun _ j=>0<j) fun i j=>.int (i % j)):=SI fun i j _ _ _ _ _ hc q=>by
 have h1:(0:Int)<j:=hc;exact mod_int' (by lia) (by rw[Int.fmod_eq_emod_of_nonneg i (by lia)];exact q)
theorem K3:B9 X (binaryOp .Mod) (rI (fun _ j=>j≠0) fun i j=>.int (i.fmod j)):=SI fun _ _ _ _ _ _ _ hc q=>mod_int' hc q
theorem Q8:B9 X (binaryOp .Pow) (rI gB fun i j=>.int (i^j.toNat)):=SI fun _ _ _ _ _ _ _ hc q=>pow_int_small hc.1 hc.2.1 hc.2.2 q
theorem gM{f:Value→Sem Value}{g:Int→Int}
 (rule:∀(i:Int) (t:Tok) (s:Shared) (Q:Value→Shared→Prop) (E:Value→Shared→Prop),Q (.int (g i) s.toks) {s with toks:=s.toks+1}→wpAny (model X.prog X.w) X.A (f (.int i t)) Q E s) :
  bx X f (rU fun i=>.int (g i)):=by
 intro pins s σ H x v Q I rx h;obtain⟨i,rfl,q⟩:=h;obtain⟨t,rfl⟩:=rx;exact rule i t s _ _ ⟨.int (g i),H,I.tok _,⟨_,rfl⟩,q⟩
theorem Vs:bx X (unaryOp .USub) (rU fun i=>.int (-i)):=gM fun _ _ _ _ _ q=>neg_int q
end
def Zx:V→V→Bool
 |.BA,.BA=>true|.BA,.int _=>true|.int _,.BA=>true|.BA,.bl _=>true|.bl _,.BA=>true|.BA,.str _=>true|.str _,.BA=>true
 |.int _,.int _=>true|.bl _,.bl _=>true|.str _,.str _=>true|.KC _,.KC _=>true
 |.int _,.str _=>true|.str _,.int _=>true|.bl _,.str _=>true|.str _,.bl _=>true
 |_,_=>false
def gY:R2:=fun x y H Q=>Zx x y=true∧Q (.bl (decide (x=y))) H
def gc:R2:=fun x y H Q=>Zx x y=true∧Q (.bl (!decide (x=y))) H
theorem Rp{i j:Int}:decide (V.int i=V.int j)=(i==j):=by
 rw[Bool.eq_iff_iff];simp
theorem Vl{i j:Bool}:decide (V.bl i=V.bl j)=(i==j):=by
 rw[Bool.eq_iff_iff];simp
theorem Su{i j:Str}:decide (V.str i=V.str j)=(i==j):=by
 rw[Bool.eq_iff_iff];simp
theorem Sd{i j:Array UInt8}:decide (V.KC i=V.KC j)=(i.toList==j.toList):=by
 rw[Bool.eq_iff_iff];cases i;cases j;simp
section
variable{X:Cx}{a b c:Expr}{ta tb:TE}{pos:Pos}
theorem A5{pins:List (Addr×Obj)}{σ:St}{H:Hp}{s:Shared}{Q:VK}{k k':Bool}(I:Inv X pins σ H s)(q:Q (.bl k) H)(e:k=k'):EP X pins σ Q (.bool k') s:=by
 subst e;exact⟨.bl k,H,I,rfl,q⟩
theorem Fi:B9 X (compareOp .Eq) gY:=by
 intro pins s σ H x y v u Q I rx ry h;obtain⟨hs,q⟩:=h;cases x with
 |BA =>
  cases rx;cases y with
  |BA=>cases ry;exact PySem.EqNone.eq_none_none (A5 I q (by simp))
  |bl j=>cases ry;exact PySem.EqNone.eq_none_bool (A5 I q (by simp))
  |int j=>obtain⟨t',rfl⟩:=ry;exact PySem.EqNone.eq_none_int (A5 I q (by simp))
  |str j=>obtain⟨t',rfl⟩:=ry;exact PySem.EqNone.eq_none_str (A5 I q (by simp))
  |_=>exact absurd (show false=true from hs) aJ
 |bl i =>
  cases rx;cases y with
  |BA=>cases ry;exact PySem.EqNone.eq_bool_none (A5 I q (by simp))
  |bl j=>cases ry;exact eq_bool (A5 I q Vl)
  |str j=>obtain⟨t',rfl⟩:=ry;exact PySem.EqMixed.eq_bool_str (A5 I q (by simp))
  |_=>exact absurd (show false=true from hs) aJ
 |int i =>
  obtain⟨t,rfl⟩:=rx;cases y with
  |BA=>cases ry;exact PySem.EqNone.eq_int_none (A5 I q (by simp))
  |int j=>obtain⟨t',rfl⟩:=ry;exact eq_int (A5 I q Rp)
  |str j=>obtain⟨t',rfl⟩:=ry;exact PySem.EqMixed.eq_int_str (A5 I q (by simp))
  |_=>exact absurd (show false=true from hs) aJ
 |str i =>
  obtain⟨t,rfl⟩:=rx;cases y with
  |BA=>cases ry;exact PySem.EqNone.eq_str_none (A5 I q (by simp))
  |bl j=>cases ry;exact PySem.EqMixed.eq_str_bool (A5 I q (by simp))
  |int j=>obtain⟨t',rfl⟩:=ry;exact PySem.EqMixed.eq_str_int (A5 I q (by simp))
  |str j=>obtain⟨t',rfl⟩:=ry;exact eq_str (A5 I q Su)
  |_=>exact absurd (show false=true from hs) aJ
 |KC i =>
  obtain⟨t,rfl⟩:=rx;cases y with
  |KC j=>obtain⟨t',rfl⟩:=ry;exact PySem.W.eq_bytes (A5 I q Sd)
  |_=>exact absurd (show false=true from hs) aJ
 |_=>cases y<;>exact absurd (show false=true from hs) aJ
theorem GH:B9 X (compareOp .NotEq) gc:=by
 intro pins s σ H x y v u Q I rx ry h;obtain⟨hs,q⟩:=h;cases x with
 |BA =>
  cases rx;cases y with
  |BA=>cases ry;exact PySem.EqNone.ne_none_none (A5 I q (by simp))
  |bl j=>cases ry;exact PySem.EqNone.ne_none_bool (A5 I q (by simp))
  |int j=>obtain⟨t',rfl⟩:=ry;exact PySem.EqNone.ne_none_int (A5 I q (by simp))
  |str j=>obtain⟨t',rfl⟩:=ry;exact PySem.EqNone.ne_none_str (A5 I q (by simp))
  |_=>exact absurd (show false=true from hs) aJ
 |bl i =>
  cases rx;cases y with
  |BA=>cases ry;exact PySem.EqNone.ne_bool_none (A5 I q (by simp))
  |bl j=>cases ry;exact ne_bool (A5 I q (bD not Vl))
  |str j=>obtain⟨t',rfl⟩:=ry;exact PySem.EqMixed.ne_bool_str (A5 I q (by simp))
  |_=>exact absurd (show false=true from hs) aJ
 |int i =>
  obtain⟨t,rfl⟩:=rx;cases y with
  |BA=>cases ry;exact PySem.EqNone.ne_int_none (A5 I q (by simp))
  |int j=>obtain⟨t',rfl⟩:=ry;exact ne_int (A5 I q (bD not Rp))
  |str j=>obtain⟨t',rfl⟩:=ry;exact PySem.EqMixed.ne_int_str (A5 I q (by simp))
  |_=>exact absurd (show false=true from hs) aJ
 |str i =>
  obtain⟨t,rfl⟩:=rx;cases y with
  |BA=>cases ry;exact PySem.EqNone.ne_str_none (A5 I q (by simp))
  |bl j=>cases ry;exact PySem.EqMixed.ne_str_bool (A5 I q (by simp))
  |int j=>obtain⟨t',rfl⟩:=ry;exact PySem.EqMixed.ne_str_int (A5 I q (by simp))
  |str j=>obtain⟨t',rfl⟩:=ry;exact ne_str (A5 I q (bD not Su))
  |_=>exact absurd (show false=true from hs) aJ
 |KC i =>
  obtain⟨t,rfl⟩:=rx;cases y with
  |KC j=>obtain⟨t',rfl⟩:=ry;exact PySem.W.ne_bytes (A5 I q (bD not Sd))
  |_=>exact absurd (show false=true from hs) aJ
 |_=>cases y<;>exact absurd (show false=true from hs) aJ
theorem Ma:B9 X (compareOp .Lt) (OW fun i j=>.bl (decide (i<j))):=Ws fun _ _ _ _ _ _ _ q=>lt_int q
theorem MP:B9 X (compareOp .Gt) (OW fun i j=>.bl (decide (j<i))):=Ws fun _ _ _ _ _ _ _ q=>gt_int q
theorem Xc:B9 X (compareOp .GtE) (OW fun i j=>.bl (decide (j≤i))):=Ws fun _ _ _ _ _ _ _ q=>ge_int q
theorem UH:B9 X (compareOp .Is) (fun x y H Q=>y=.BA∧Q (.bl (decide (x=.BA))) H):=by
 intro pins s σ H x y v u Q I rx ry h;obtain⟨rfl,q⟩:=h;cases ry;refine is_none_gen (A5 I q ?_);cases x<;>first
  |(cases rx;rfl)
  |(obtain⟨t,rfl⟩:=rx;rfl)
theorem B9.or{f:Value→Value→Sem Value}{r r':R2}(h:B9 X f r)(h':B9 X f r'):B9 X f (fun x y H Q=>r x y H Q∨r' x y H Q):=by
 intro pins s σ H x y v u Q I rx ry q;rcases q with q|q
 ·exact h pins s σ H x y v u Q I rx ry q
 ·exact h' pins s σ H x y v u Q I rx ry q
theorem Ao(b:Expr){op:CmpOp}(h:op≠.In:=by decide)(h2:op≠.NotIn:=by decide):behindInMarks op b=false:=by
 have e1:(op==CmpOp.In)=false:=by cases op<;>first|rfl|exact absurd rfl h
 have e2:(op==CmpOp.NotIn)=false:=by cases op<;>first|rfl|exact absurd rfl h2
 cases b<;>simp[behindInMarks,e1,e2]
theorem F4{op:CmpOp}{r:R2}(ho:B9 X (compareOp op) r)(ha:PE X a ta)(hb:PE X b tb)(hm:behindInMarks op b=false):PE X (.Compare a [op] [b] pos) (Xo r ta tb):=by
 intro pins s σ H Q I h;exact wpAny_Compare1 (Wy ha hb I h fun v u s2 x y H2 I2 rx ry q=>ho pins s2 σ H2 x y v u Q I2 rx ry q) hm
def dg(t:TE):TT:=fun σ H Q=>t σ H fun x H'=>∃k,x=.bl k∧Q k H'
theorem Au{op:CmpOp}{r:R2}(ho:B9 X (compareOp op) r)(ha:PE X a ta)(hb:PE X b tb)(hm:behindInMarks op b=false):PT X (.Compare a [op] [b] pos) (dg (Xo r ta tb)):=by
 intro pins s σ H Q I h;refine wpAny_isTrue_Compare1 (Av (ha pins s σ H _ I h) fun v s1 ⟨x,H1,I1,r1,q1⟩=>Av (hb pins s1 σ H1 _ I1 q1) fun u s2 ⟨y,H2,I2,r2,q2⟩ =>
  Av (ho pins s2 σ H2 x y v u _ I2 r1 r2 q2) fun c s3 ⟨z,H3,I3,r3,k,e,q3⟩=>?_) hm
 subst e;cases r3;exact bZ ⟨H3,I3,q3⟩
theorem J1:(sizeLine:Nat)<2^63:=by rw[sizeLine_eq];decide
theorem TL:B9 X (binaryOp .Add) (fun x y H Q=>∃i j,x=.str i∧y=.str j∧i.length+j.length≤sizeLine∧Q (.str (i++j)) H):=by
 intro pins s σ H x y v u Q I rx ry h;obtain⟨i,j,rfl,rfl,hz,q⟩:=h;obtain⟨t,rfl⟩:=rx;obtain⟨t',rfl⟩:=ry;exact add_str (fun t' tk=>⟨.str (i++j),H,I.tok _,⟨_,rfl⟩,q⟩) hz
theorem vals1{x:V}{us:List Value}(r:Vals [x] us):∃u,us=[u]∧RelV x u:=by
 cases r with
 |cons r1 r2=>cases r2;exact⟨_,rfl,r1⟩
theorem vals2{x y:V}{us:List Value}(r:Vals [x,y] us):∃u w',us=[u,w']∧RelV x u∧RelV y w':=by
 cases r with
 |cons r1 r2 =>
  cases r2 with
  |cons r3 r4=>cases r4;exact⟨_,_,rfl,r1,r3⟩
theorem Ll:EE X (.builtin "abs") (fun xs H Q=>∃i,xs=[.int i]∧Q (.int (if i<0 then -i else i)) H):=by
 intro pins s σ H xs us Q I r h;obtain⟨i,rfl,q⟩:=h;obtain⟨u,rfl,t,rfl⟩:=vals1 r;exact call_abs_int fun u tk=>⟨.int (if i<0 then -i else i),H,I.tok _,⟨_,rfl⟩,q⟩
theorem U9(hc:X.calm=true):EE X (.builtin "max") (fun xs H Q=>∃i j,xs=[.int i,.int j]∧Q (.int (if j > i then j else i)) H):=by
 intro pins s σ H xs us Q I r h;obtain⟨i,j,rfl,q⟩:=h;obtain⟨u,w',rfl,⟨t,rfl⟩,⟨t',rfl⟩⟩:=vals2 r;refine max_two_ints (I.ok.hd hc) fun h' tk k=>⟨_,H,I.kept k,?_,q⟩;by_cases hj:j > i
 ·rw[if_pos hj,if_pos hj];exact⟨_,rfl⟩
 ·rw[if_neg hj,if_neg hj];exact⟨_,rfl⟩
theorem VN:EE X (.type "int") (fun xs H Q=>(∃i,xs=[.int i]∧Q (.int i) H)∨∃k,xs=[.bl k]∧Q (.int (if k then 1 else 0)) H):=by
 intro pins s σ H xs us Q I r h;rcases h with ⟨i,rfl,q⟩|⟨k,rfl,q⟩
 ·obtain⟨u,rfl,t,rfl⟩:=vals1 r;exact call_int_int ⟨.int i,H,I,⟨_,rfl⟩,q⟩
 ·obtain⟨u,rfl,r1⟩:=vals1 r;cases r1;exact call_int_bool ⟨.int (if k then 1 else 0),H,I.tok _,⟨_,rfl⟩,q⟩
end
structure Wt(h:Heap)(x dx C:Addr)(mA:Str→Option Value):Prop where
 obj:h.get? x=some (PySem.W.instObj C dx)
 ns:h.Ns1 dx mA
 ne:dx≠x
theorem UL{h:Heap}{dx:Addr}{mA:Str→Option Value}(n:h.Ns1 dx mA):∃od,h.get? dx=some od∧∀name,PySem.W.lookIn name od=some (mA name):=by
 obtain⟨o,es,ep,ho,hd,hk,_,hm⟩:=n;refine⟨o,ho,fun name=>?_⟩;have e:=hm name;unfold nsFind findBy at e;rw[←Array.find?_toList]at e;unfold PySem.W.lookIn;rw[hd];dsimp only;split
 ·rename_i y q;rw[q]at e;exact bD some e
 ·rename_i q;rw[q]at e;have a:es.toList.any (·.refKey)=false:=by
   rw[List.any_eq_false];intro y hy;obtain⟨z,t,hkey⟩:=hk y (Array.mem_toList_iff.mp hy);simp[DictEntry.refKey,hkey]
  have a':¬es.toList.any (·.refKey)=true:=by rw[a];exact aJ
  rw[if_neg a'];exact bD some e
theorem Wt.look{h:Heap}{x dx C:Addr}{mA:Str→Option Value}(I:Wt h x dx C mA):∃od,PySem.W.InstAt h x (PySem.W.instObj C dx) C (some od)∧∀name,PySem.W.lookIn name od=some (mA name) :=
 let⟨od,ho,hl⟩:=UL I.ns
 ⟨od,⟨I.obj,rfl,rfl,ho⟩,hl⟩
theorem Hi.some_of{v:V}{o:Option Value}(r:Hi (some v) o):∃u,o=some u∧RelV v u:=by
 cases o with
 |none=>exact(show False from r).elim
 |some u=>exact⟨u,rfl,r⟩
section
variable{P:Program}{w:World}{H:Hp}{h:Heap}{a C dx:Addr}{fs:List (Str×V)}
theorem YD(Ah:CN P w H h)(e:H a=some (.ins C dx fs)):∃mA,Wt h a dx C mA∧(∀f,Hi (fs.lookup f) (mA f))∧PySem.Within mA (fs.map (·.1))∧fs.length≤1000∧H dx=some (.own a):=by
 obtain⟨d,z,ne,ob,mA,n,r,q⟩:=(show Bc P w H h a (.ins C dx fs) from Ah a _ e);exact⟨mA,⟨ob,n,ne⟩,r,q,z,d⟩
end
structure SG(K:PySem.W.Frag)(C:Addr):Prop where
 pg:PySem.W.plainGet K C Str.empty=true
 hd:PySem.W.hasDictIn K C=true
 po:PySem.W.plainOver K C=true
 sa:PySem.W.findIn K (.ref C) "__setattr__" = some (some (.builtin "object.__setattr__"))
theorem SG.get{K:PySem.W.Frag}{C:Addr}(c:SG K C)(f:Str):PySem.W.plainGet K C f=true:=c.pg
section
variable{X:Cx}{pins:List (Addr×Obj)}{σ:St}{H:Hp}{s:Shared}{A:Around}{E:Value→Shared→Prop}{Q:Value→Shared→Prop}{c:Value}{b:Bool}
inductive FG(K:PySem.W.Frag)(H:Hp):V→Value→Prop where
 |BA:FG K H .BA (.type "NoneType")
 |bl (x:Bool):FG K H (.bl x) (.type "bool")
 |int (i:Int):FG K H (.int i) (.type "int")
 |str (x:Str):FG K H (.str x) (.type "str")
 |SV (x:UInt64):FG K H (.SV x) (.type "float")
 |lst {a:Addr} {xs:List V} (e:H a=some (.lst xs)):FG K H (.ref a) (.type "list")
 |Hr {a:Addr} {o:Obj} {xs:List V} (e:H a=some (.Hr o (.lst xs))):FG K H (.ref a) (.type "list")
 |tup {a:Addr} {xs:List V} (e:H a=some (.tup xs)):FG K H (.ref a) (.type "tuple")
 |dK {a:Addr} {kvs:List (Key×V)} (e:H a=some (.dK kvs)):FG K H (.ref a) (.type "dict")
 |dT {a:Addr} {kvs:List (List Key×V)} (e:H a=some (.dT kvs)):FG K H (.ref a) (.type "dict")
 |ins {a C dx:Addr} {fs:List (Str×V)} (e:H a=some (.ins C dx fs)) (cl:SG K C) (ha:PySem.W.findIn K (.ref C) "__class__" = some (some (.builtin "object.__class__")))
   (hn:PySem.W.specialIn K (.builtin "object.__class__") "__get__" = some (some (.builtin "getset_descriptor.__get__"))) (htk:PySem.W.takesIn K (.builtin "object.__class__")=some true)
   (hm:PySem.W.mroIn K C (.type "object")=some true):FG K H (.ref a) (.ref C)
theorem VL{x:V}{u t:Value}(I:Inv X pins σ H s)(rx:RelV x u)(ty:FG X.K H x t)(e:PySem.W.kitOne X.K t c=some b)(h:∀tk,Q (.bool b) {s with toks:=tk}) :
  wpAny (model X.prog X.w) A (call (.builtin "isinstance") [u,c]) Q E s:=by
 cases ty with
 |BA=>cases (show u=Value.none from rx);exact bE PySem.W.kitx_none I.GX True.intro e (fun z=>nomatch z) h
 |bl y=>cases (show u=Value.bool y from rx);exact bE PySem.W.kitx_bool I.GX True.intro e (fun z=>nomatch z) h
 |int i=>obtain⟨t,q⟩:=(show ∃t,u=Value.int i t from rx);cases q;exact bE PySem.W.kitx_int I.GX True.intro e (fun z=>nomatch z) h
 |str y=>obtain⟨t,q⟩:=(show ∃t,u=Value.str y t from rx);cases q;exact bE PySem.W.kitx_str I.GX True.intro e (fun z=>nomatch z) h
 |SV y=>obtain⟨t,q⟩:=(show ∃t,u=Value.float y t from rx);cases q;exact bE PySem.W.kitx_float I.GX True.intro e (fun z=>nomatch z) h
 | @lst a xs ea =>
  cases (show u=Value.ref a from rx);obtain⟨_,_,n,_,h1⟩:=(show Bc X.prog X.w H s.heap a (.lst xs) from I.Ah a _ ea);exact bE PySem.W.kitx_list I.GX ⟨_,h1,rfl⟩ e (fun z=>nomatch z) h
 | @Hr a ob xs ea =>
  cases (show u=Value.ref a from rx);obtain⟨_,_,_,n,_,h1⟩:=(show Bc X.prog X.w H s.heap a (.Hr ob (.lst xs)) from I.Ah a _ ea);exact bE PySem.W.kitx_list I.GX ⟨_,h1,rfl⟩ e (fun z=>nomatch z) h
 | @tup a xs ea =>
  cases (show u=Value.ref a from rx);obtain⟨_,_,_,p⟩:=(show Bc X.prog X.w H s.heap a (.tup xs) from I.Ah a _ ea);obtain⟨o,h1,h2,_⟩:=p;exact bE PySem.W.kitx_tuple I.GX ⟨o,h1,h2⟩ e (fun z=>nomatch z) h
 | @dK a kvs ea =>
  cases (show u=Value.ref a from rx);obtain⟨_,_,vs,_,p⟩:=(show Bc X.prog X.w H s.heap a (.dK kvs) from I.Ah a _ ea);obtain⟨o,es,ep,h1,h2,_⟩:=p;exact bE PySem.W.kitx_dict I.GX ⟨o,h1,h2.1⟩ e (fun z=>nomatch z) h
 | @dT a kvs ea =>
  cases (show u=Value.ref a from rx);obtain⟨_,_,xs,_,o,es,ep,h1,h2,_⟩:=(show Bc X.prog X.w H s.heap a (.dT kvs) from I.Ah a _ ea);exact bE PySem.W.kitx_dict I.GX ⟨o,h1,h2.1⟩ e (fun z=>nomatch z) h
 | @ins a C dx fs ea cl ha hn htk hm =>
  cases (show u=Value.ref a from rx);obtain⟨mA,O,_⟩:=YD I.Ah ea;obtain⟨od,J,_⟩:=O.look;exact bE (PySem.W.kitx_own (cl.get _) cl.hd ha hn htk hm) I.GX J e (fun z=>nomatch z) h
end
structure C7(k:Nat)(A:Around):Prop where
 hd:A.handled=none
 dp:A.depth+3*k+5<recursionLimit
 un:A.units+16*k+200<cLine
theorem C7.mono{j k:Nat}{A:Around}(r:C7 k A)(h:j≤k:=by decide):C7 j A:=⟨r.hd,by have:=r.dp;lia,by have:=r.un;lia⟩
theorem C7.deeper{k:Nat}{A:Around}(r:C7 (k+1) A)(env:Env):C7 k (A.deeper env) :=
 ⟨r.hd,by have:=r.dp;show A.depth+1+3*k+5<_;lia,by have:=r.un;show A.units+3+16*k+200<_;lia⟩
theorem C7.depth{k:Nat}{A:Around}(r:C7 k A):A.depth<recursionLimit:=by have:=r.dp;lia
theorem C7.units{k:Nat}{A:Around}(r:C7 k A):A.units+64<cLine:=by have:=r.un;lia
def fY:TA:=fun _ H Q=>Q [] H
def eK(ta:TE)(tr:TA):TA:=fun σ H Q=>ta σ H fun x H1=>tr σ H1 fun xs H2=>Q (x::xs) H2
section
variable{X:Cx}{e:Expr}{es:List Expr}{te:TE}{t:TA}{pos:Pos}
theorem AD:PA X [] fY:=fun _ _ _ _ H Q I h=>Calls.spliced_nil ⟨[],H,I,.nil,h⟩
theorem AA(ha:PE X e te)(hr:PA X es t)(hs:starEach (e::es) X.env=(false,eval e X.env)::starEach es X.env:=by rfl):PA X (e::es) (eK te t):=by
 intro pos pins s σ H Q I h;rw[hs];show wpAny _ _ (spliced ((false,eval e X.env)::backTo pos (starEach es X.env))) _ _ s;refine Calls.spliced_cons (Av (ha pins s σ H _ I h) fun u s1 ⟨x,H1,I1,r1,q1⟩=>?_);exact Av (hr pos pins s1 σ H1 _ I1 q1) fun us s2 ⟨xs,H2,I2,r2,q2⟩=>⟨x::xs,H2,I2,.cons r1 r2,q2⟩
def fg(t:TA):TE:=fun σ H Q=>t σ H fun xs H1=>xs.length≤sizeLine∧∀p,H1 p=none→Q (.ref p) (upd H1 p (.tup xs))
def fI(t:TA):TE:=fun σ H Q=>t σ H fun xs H1=>xs.length≤sizeLine∧∀p,H1 p=none→Q (.ref p) (upd H1 p (.lst xs))
theorem GY{x1}(h:PA X es t):PE X (.Tuple es x1 pos) (fg t):=by
 intro pins s σ H Q I hq;refine wpAny_Tuple_spliced (Av (h pos pins s σ H _ I hq) fun us s1 ⟨xs,H1,I1,r,z,q⟩=>⟨by rw[←r.length];exact z,?_⟩);have hf:H1 s1.heap.objs.size=none:=I1.Ah.fresh (aG _);refine⟨.ref s1.heap.objs.size,upd H1 s1.heap.objs.size (.tup xs),I1.laid (t':=s1.toks) (fun b u e=>aD _ e) (aG _) ?_,rfl,q _ hf⟩;exact⟨z,us,r,⟨_,Heap.get?_push_size _ rfl,rfl,_,rfl⟩⟩
theorem Dr(h:PA X es t):PE X (.List es pos) (fI t):=by
 intro pins s σ H Q I hq;refine wpAny_List_spliced (Av (h pos pins s σ H _ I hq) fun us s1 ⟨xs,H1,I1,r,z,q⟩=>⟨by rw[←r.length];exact z,?_⟩);have hf:H1 s1.heap.objs.size=none:=I1.Ah.fresh (aG _);refine⟨.ref s1.heap.objs.size,upd H1 s1.heap.objs.size (.lst xs),I1.laid (t':=s1.toks) (fun b u e=>aD _ e) (aG _) ?_,rfl,q _ hf⟩;exact⟨z,us,0,r,Heap.get?_push_size _ rfl⟩
end
abbrev Sp:=List V→Hp→VK→XK→Prop
abbrev Hl:=List Env→Hp→Shared→XK→Value→Shared→Prop
structure TZ(P:Program)(w:World)(K:PySem.W.Frag)(mg:Str→Option Value)(base:Heap)(A:Around)(outer:List Env)(s:Shared)(H:Hp):Prop where
 frames:A.frames=some outer
 mod:Mod K mg base
 bs:∀b o,base.get? b=some o→s.heap.get? b=some o∧H b=none
 OX:base.objs.size≤s.heap.objs.size
 HY:s.heap.FunFrames base outer
 Se:∀b∈Jk outer,H b=none
 Ah:CN P w H s.heap
 bare:AllBare s.gens
 kt:KTb mg H
def CE(outer:List Env)(P:Program)(w:World)(H:Hp)(s:Shared)(Q:VK)(u:Value)(s':Shared):Prop :=
 ∃v H',s'.os=s.os∧AllBare s'.gens∧Un (Jk outer) [] H H' s.heap s'.heap∧CN P w H' s'.heap∧RelV v u∧Q v H'
def CR(CX:Hl)(outer:List Env)(P:Program)(w:World)(H:Hp)(s:Shared)(Q:VK)(E:XK)(r:Result)(s':Shared):Prop :=
 match r with
 |.ok (.ret u)=>CE outer P w H s Q u s'
 |.ok _=>False
 |.error e=>CX outer H s E e s'
structure AL(P:Program)(w:World)(K:PySem.W.Frag)(mg:Str→Option Value)(base:Heap)(CX:Hl)(k:Nat)(f:Addr)(fd:FuncData)(ps:List Str)(sp:Sp):Prop where
 len:∀vs H Q E,sp vs H Q E→vs.length=ps.length
 run:∀(A:Around) (outer:List Env) (s:Shared) (H:Hp) (args:Args) (us:List Value) (vs:List V) (Q:VK) (E:XK),C7 k A→TZ P w K mg base A outer s H→BindsTo s fd args (ps.zip us)→Vals vs us→sp vs H Q E →
  codeAny (model P w) A (.call (.ref f) args) (CR CX outer P w H s Q E) s
theorem AL.mono{P:Program}{w:World}{K:PySem.W.Frag}{mg:Str→Option Value}{base:Heap}{CX:Hl}{j k:Nat}{f:Addr}{fd:FuncData}{ps:List Str}{sp:Sp}(F:AL P w K mg base CX j f fd ps sp)(h:j≤k:=by decide) :
  AL P w K mg base CX k f fd ps sp:=⟨F.len,fun A outer s H args us vs Q E hr=>F.run A outer s H args us vs Q E (hr.mono h)⟩
theorem AL.imp{P:Program}{w:World}{K:PySem.W.Frag}{mg:Str→Option Value}{base:Heap}{CX:Hl}{k:Nat}{f:Addr}{fd:FuncData}{ps:List Str}{sp sp':Sp}(F:AL P w K mg base CX k f fd ps sp)
 (h:∀vs H Q E,sp' vs H Q E→sp vs H Q E):AL P w K mg base CX k f fd ps sp' :=
 ⟨fun vs H Q E q=>F.len vs H Q E (h _ _ _ _ q),fun A outer s H args us vs Q E hr he hb hv hs=>F.run A outer s H args us vs Q E hr he hb hv (h _ _ _ _ hs)⟩
section
variable{X:Cx}{pins:List (Addr×Obj)}{σ:St}{H:Hp}{s s':Shared}
theorem Inv.fT(I:Inv X pins σ H s):TZ X.prog X.w X.K X.mg X.base X.A X.stack s H :=
 ⟨I.ok.frames,I.ok.mod,I.bs,Nat.le_trans I.ok.OX I.sz,I.stack,I.Rm,I.Ah,I.bare,I.kt⟩
theorem Inv.after{Q:VK}{u:Value}(I:Inv X pins σ H s)(h:CE X.stack X.prog X.w H s Q u s'):EP X pins σ Q u s':=by
 obtain⟨v,H',os,bare,un,Ah,r,q⟩:=h;obtain⟨hh,g,d,t,os'⟩:=s';obtain rfl:os'=s.os:=os;exact⟨v,H',I.call (h':=hh) (g':=g) (d':=d) (t':=t) (ch:=[]) un Ah bare (fun b z=>absurd z (by simp)),r,q⟩
end
def Xj(sp:Sp)(dvs:List V)(E:XK)(t:TA):TE:=fun σ H Q=>t σ H fun vs H1=>sp (vs++dvs) H1 Q E
def Binds(K:PySem.W.Frag)(fd:FuncData)(ps:List Str)(ds:List Value):Prop :=
 ∀(s:Shared) (us:List Value),K.In s.heap→(us++ds).length=ps.length→BindsTo s fd ⟨us,[]⟩ (ps.zip (us++ds))
theorem Binds.all{K:PySem.W.Frag}{fd:FuncData}{ps:List Str}(h:∀us:List Value,us.length=ps.length→bindArgs fd ⟨us,[]⟩=pure (ps.zip us)):Binds K fd ps []:=fun s us _ hl=>by
 rw[List.append_nil]at hl ⊢;exact .of_eq (h us hl)
def Passes(CX:Hl)(X:Cx)(E:XK):Prop:=∀(pins:List (Addr×Obj)) (σ:St) (H:Hp) (s:Shared) (e:Value) (s':Shared),Inv X pins σ H s→CX X.stack H s E e s'→X.xe e s'
section
variable{X:Cx}{CX:Hl}{k:Nat}{f:Addr}{fd:FuncData}{ps:List Str}{sp:Sp}{dvs:List V}{ds:List Value}{E:XK}{x:Str}{p pos:Pos}{e:Expr}{es:List Expr}{t:TA}
theorem bp{pins:List (Addr×Obj)}{σ:St}{H:Hp}{s:Shared}{Q:VK}{us:List Value}{vs:List V}(F:AL X.prog X.w X.K X.mg X.base CX k f fd ps sp)(hr:C7 k X.A)(hb:Binds X.K fd ps ds)(hd:Vals dvs ds)(hx:Passes CX X E)
 (I:Inv X pins σ H s)(r:Vals vs us)(h:sp (vs++dvs) H Q E):wpAny (model X.prog X.w) X.A (call (.ref f) us) (EP X pins σ Q) X.xe s:=by
 have r2:Vals (vs++dvs) (us++ds):=r.append hd;have hl:(us++ds).length=ps.length:=by rw[←r2.length];exact F.len _ _ _ _ h
 refine wpAny_call (codeAny_mono (F.run X.A X.stack s H ⟨us,[]⟩ (us++ds) (vs++dvs) Q E hr I.fT (hb s us I.GX hl) r2 h) fun r s' hq=>?_);cases r with
 |error e=>exact hx pins σ H s e s' I hq
 |ok fl =>
  cases fl with
  |ret u=>exact I.after hq
  |next=>exact False.elim hq
  |brk=>exact False.elim hq
  |cont=>exact False.elim hq
theorem Xy(F:AL X.prog X.w X.K X.mg X.base CX k f fd ps sp)(hr:C7 k X.A)(hg:Gl X x)(hm:X.mg x=some (.ref f))(hk:PySem.W.keepIn X.K (.ref f)=true)(hb:Binds X.K fd ps ds)(hd:Vals dvs ds)(hx:Passes CX X E)
 (ha:PA X (e::es) t)(hdb:(x==("__debug__" : Str))=false:=by decide)(he:starEach (e::es) X.env=(false,eval e X.env)::starEach es X.env:=by rfl)(hpl:(backTo pos (starEach es X.env)).any (·.1)=false:=by rfl) :
  PE X (.Call (.Name x p) (e::es) [] pos) (Xj sp dvs E t):=by
 intro pins s σ H Q I h;refine wpAny_Call_Name_kw (Sn I hg hm ?_ hdb);refine PySem.W.callWith_K (h₀:=X.base) I.ok.mod.ZO hk (Av (ha pos pins s σ H _ I h) fun us s1 ⟨vs,H1,I1,r,q⟩=>⟨I1.GX,?_⟩) he hpl;exact bp F hr hb hd hx I1 r q
end
structure Ad(N P:List Str)(sc:Scope):Prop where
 kind:sc.kind=.function
 co:sc.isCoroutine=false
 gen:sc.isGenerator=false
 nd:N.Nodup
 pre:N.take P.length=P
 par:∀x∈P,sc.names.lookup x=some .local∨sc.names.lookup x=some .cell
 ZK:∀y∈sc.names,y.2≠.free
theorem OG{kindOf:Str→Option NameKind}{x:Str}:∀ {binds:List (Str×Value)} {m:Str→Option Value},(∀v,(x,v) ∉ binds)→bindL kindOf binds m x=m x
 |[],_,_=>rfl
 |(n,v)::r,m,h=>by
  unfold bindL;rw[OG fun w hw=>h w (aV _ hw)];split
  ·have:x≠n:=by rintro rfl;exact h v aa
   simp[this]
  ·rfl
theorem Nn{kindOf:Str→Option NameKind}{x:Str}:∀ {binds:List (Str×Value)} {m:Str→Option Value},(∀v,(x,v) ∉ binds)→bindC kindOf binds m x=m x
 |[],_,_=>rfl
 |(n,v)::r,m,h=>by
  unfold bindC;rw[Nn fun w hw=>h w (aV _ hw)];split
  ·rfl
  ·have:x≠n:=by rintro rfl;exact h v aa
   simp[this]
theorem Nz{kindOf:Str→Option NameKind}{x:Str}{v:Value}:∀ {P:List Str} {vs:List Value} {i:Nat} {m:Str→Option Value},P.Nodup→P[i]? = some x→vs[i]? = some v→kindOf x=some .local →
  bindL kindOf (P.zip vs) m x=some v
 |[],_,_,_,_,h,_,_=>by simp at h
 |_::_,[],_,_,_,_,h,_=>by simp at h
 |p::P,w::vs,0,m,nd,h1,h2,hk=>by
  simp at h1 h2;subst h1;subst h2;show bindL kindOf ((p,w)::P.zip vs) m p=_;unfold bindL;rw[OG fun v hv=>(bg.mp nd).1 (List.of_mem_zip hv).1,if_pos hk];simp
 |p::P,w::vs,i+1,m,nd,h1,h2,hk=>by
  show bindL kindOf ((p,w)::P.zip vs) m x=_;unfold bindL;exact Nz (i:=i) (bg.mp nd).2 (by simpa using h1) (by simpa using h2) hk
theorem Nx{kindOf:Str→Option NameKind}{x:Str}{v:Value}:∀ {P:List Str} {vs:List Value} {i:Nat} {m:Str→Option Value},P.Nodup→P[i]? = some x→vs[i]? = some v→kindOf x≠some .local →
  bindC kindOf (P.zip vs) m x=some v
 |[],_,_,_,_,h,_,_=>by simp at h
 |_::_,[],_,_,_,_,h,_=>by simp at h
 |p::P,w::vs,0,m,nd,h1,h2,hk=>by
  simp at h1 h2;subst h1;subst h2;show bindC kindOf ((p,w)::P.zip vs) m p=_;unfold bindC;rw[Nn fun v hv=>(bg.mp nd).1 (List.of_mem_zip hv).1,if_neg hk];simp
 |p::P,w::vs,i+1,m,nd,h1,h2,hk=>by
  show bindC kindOf ((p,w)::P.zip vs) m x=_;unfold bindC;exact Nx (i:=i) (bg.mp nd).2 (by simpa using h1) (by simpa using h2) hk
def start(N:List Str)(vs:List V):St:=vs.map some++List.replicate (N.length-vs.length) none
def KA(CX:Hl)(P:Program)(w:World)(K:PySem.W.Frag)(mg:Str→Option Value)(base:Heap)(N:List Str)(qual:Str)(scope:Scope)(f:Addr)(cd:Value)(A:Around)(outer:List Env)(s:Shared)(H:Hp)(E:XK):Cx where
 prog:=P
 w:=w
 K:=K
 mg:=mg
 base:=base
 A:=A.deeper (envOfC qual scope s.heap.objs.size f cd)
 N:=N
 s₀:=s
 H₀:=H
 env:=envOfC qual scope s.heap.objs.size f cd
 outer:=outer
 stack:=envOfC qual scope s.heap.objs.size f cd::outer
 ex:=[]
 calm:=true
 fn:=fun _=>true
 pn:=[]
 xe:=fun e s'=>wpAny (model P w) (A.deeper (envOfC qual scope s.heap.objs.size f cd)) (leaving (envOfC qual scope s.heap.objs.size f cd) e) (fun _ s''=>CX outer H s E e s'') (fun e' s''=>CX outer H s E e' s'') s'
theorem P9{sc:Scope}{n:Nat}{x:Str}(h:sc.names.lookup x=some .cell):∃c,(cellsFrom n sc.names []).lookup x=some c:=by
 have q:=PySem.W.cellsFrom_some sc.names n [] (.inl h);exact Option.isSome_iff_exists.mp q
theorem Vo{CX:Hl}{P:Program}{w:World}{K:PySem.W.Frag}{mg:Str→Option Value}{base:Heap}{N ps:List Str}{qual:Str}{scope:Scope}{f:Addr}{cd:Value}{A:Around}{outer:List Env}{s s1:Shared}{H:Hp}{E:XK}{us:List Value}{vs:List V}
 (S:Ad N ps scope)(hd:A.handled=none)(e0:TZ P w K mg base A outer s H)(hl:vs.length=ps.length)(r:Vals vs us)
 (x:InCallC s s.heap.objs.size (bindL (envOfC qual scope s.heap.objs.size f cd).kindOf (ps.zip us) fun _=>none) (cellsFrom (s.heap.objs.size+1) scope.names []) (bindC (envOfC qual scope s.heap.objs.size f cd).kindOf (ps.zip us) fun _=>none) s1) :
  Inv (KA CX P w K mg base N qual scope f cd A outer s H E) [] (start N vs) H s1:=by
 have hpl:ps.length≤N.length:=by have:=bD List.length S.pre;rw[List.length_take]at this;lia
 obtain⟨h1,tk,rfl,hk⟩:=x.done;have noA:∀b:Addr,b ∉ (KA CX P w K mg base N qual scope f cd A outer s H E).ex:=fun b z=>absurd (show b∈([]:List Addr) from z) (by simp);refine⟨⟨e0.mod,S.kind,rfl,rfl,Nat.le_refl _,fun y z c h1 h2=>?_,fun y hy=>?_,fun y c _ h=>?_,fun _=>hd,Around.frames_deeper e0.frames,.inr ⟨rfl,rfl⟩,fun b z=>absurd z (noA b),e0.bs,e0.OX,fun b _ _=>noA b,fun b z=>absurd z (noA b),e0.HY,e0.Se,e0.kt⟩,
  rfl,e0.bare,Un.kept hk,⟨_,x.toInCall.ns,fun i y v h1 h2 h3=>?_⟩,fun y c h=>⟨_,x.cell y c h⟩,e0.Ah.fresh (aG _),fun y c h=>?_,fun p hp=>absurd (show p∈([]:List (Addr×Obj)) from hp) (by simp),e0.Ah.kept hk,?_⟩
 ·exact name_of_addr x.apart (PySem.mem_of_lookup h1) (PySem.mem_of_lookup h2)
 ·have hy:scope.names.lookup y=some .cell∨scope.names.lookup y=some .free:=hy;rcases hy with hy|hy
  ·exact P9 hy
  ·exact absurd rfl (S.ZK _ (PySem.mem_of_lookup hy))
 ·exact bV (x.above y c (PySem.mem_of_lookup h))
 ·have hi:i<vs.length:=by
   unfold start at h2;by_cases hi:i<vs.length
   ·exact hi
   ·rw[List.getElem?_append_right (by simpa using hi)]at h2;rw[List.getElem?_replicate]at h2;split at h2<;>cases h2
  have ha:vs[i]? = some v:=by
   unfold start at h2;rw[List.getElem?_append_left (by simpa using hi),List.getElem?_map]at h2;cases e:vs[i]? with
   |none=>rw[e]at h2;cases h2
   |some a=>rw[e]at h2;cases h2;rfl
  obtain⟨u,hu,rv⟩:=r.get ha;have hp:ps[i]? = some y:=by
   rw[←S.pre,List.getElem?_take_of_lt (by lia)];exact h1
  have ndP:ps.Nodup:=by rw[←S.pre];exact S.nd.sublist (List.take_sublist _ _)
  refine⟨u,rv,?_⟩;rcases S.par y (aL hp) with k|k
  ·exact .inl ⟨k,Nz ndP hp hu k⟩
  ·obtain⟨c,e⟩:=P9 (n:=s.heap.objs.size+1) k;refine .inr ⟨.inl k,c,e,?_⟩;have q:=x.cell y c e;rw[Nx ndP hp hu (by show scope.names.lookup y≠_;rw[k];decide)]at q;exact q
 ·exact e0.Ah.fresh (bV (x.above y c (PySem.mem_of_lookup h)))
 ·unfold start;show _=N.length;rw[List.length_append,List.length_map,List.length_replicate]
  lia
theorem dD{CX:Hl}{P:Program}{w:World}{K:PySem.W.Frag}{mg:Str→Option Value}{base:Heap}{k:Nat}{f:Addr}{name qual:Str}{params:Arguments}{body:List Stmt}{scope:Scope}{dV kV doc pm cdv ct oc:Value}{an od:Option Addr}
 {osl:Array (Option Value)}{N ps:List Str}{sp:Sp}(lk:K.lookup f=some ⟨oc,od,.func (PySem.W.fnOf name qual params body scope dV kV doc pm an cdv ct),osl⟩)(hcd:PySem.W.codeIn K cdv qual=true)(S:Ad N ps scope)
 (len:∀vs H Q E,sp vs H Q E→vs.length=ps.length)
 (hbody:∀(A:Around) (outer:List Env) (s:Shared) (H:Hp) (vs:List V) (Q:VK) (E:XK),C7 k (A.deeper (envOfC qual scope s.heap.objs.size f cdv))→sp vs H Q E →
   ∃t,HQ (KA CX P w K mg base N qual scope f cdv A outer s H E) body t∧t { nx:=fun _ H'=>Q .BA H',rt:=Q} (start N vs) H) :
  AL P w K mg base CX (k+1) f (PySem.W.fnOf name qual params body scope dV kV doc pm an cdv ct) ps sp:=by
 refine⟨len,fun A outer s H args us vs Q E hr e0 hb r hsp=>?_⟩;have hl:=len _ _ _ _ hsp;have KX:K.In s.heap:=e0.mod.ZO.keeps fun b o e=>(e0.bs b o e).1;have lim:s.heap.NoLimit:=e0.mod.nolimit.keeps fun b o e=>(e0.bs b o e).1;have hkind:∀y∈ps.zip us,scope.names.lookup y.1=some .local∨(scope.names.lookup y.1=some .cell∧((cellsFrom (s.heap.objs.size+1) scope.names []).lookup y.1).isSome=true):=fun⟨n,v⟩ hy=>by
  rcases S.par n (List.of_mem_zip hy).1 with q|q
  ·exact .inl q
  ·exact .inr ⟨q,PySem.W.cellsFrom_some _ _ _ (.inl q)⟩
 refine codeAny_call_function hr.depth (KX _ _ lk) rfl S.co S.gen rfl (PySem.W.codeRec_of KX hcd) (hb _ _ _ _ ?_);refine wpAny_newFunctionEnv_cells S.kind hkind fun env he s1 x=>?_;subst he;refine⟨lim.keeps x.toInCall.keep,codeAny_func ?_⟩;obtain⟨t,ht,hq⟩:=hbody A outer s H vs Q E (hr.deeper _) hsp;have I:Inv (KA CX P w K mg base N qual scope f cdv A outer s H E) [] (start N vs) H s1:=Vo S hr.hd e0 hl r x;refine ab (ht [] s1 (start N vs) H _ I hq) (fun fl s' hs=>?_) fun e s' hs=>hs;have fin:∀ {σ':St} {H':Hp} {v:V} {u:Value},Inv (KA CX P w K mg base N qual scope f cdv A outer s H E) [] σ' H' s'→RelV v u→Q v H'→CE outer P w H s Q u s' :=
  fun {σ' H' v u} J rv q=>⟨v,H',J.os,J.bare,J.base,J.Ah,rv,q⟩
 cases fl with
 |ret u =>
  obtain⟨v,σ',H',J,rv,q⟩:=hs;exact fin J rv q
 |next =>
  obtain⟨σ',H',J,q⟩:=hs;exact fin (v:=V.BA) (u:=Value.none) J rfl q
 |brk =>
  obtain⟨_,_,_,q⟩:=hs;exact False.elim q
 |cont =>
  obtain⟨_,_,_,q⟩:=hs;exact False.elim q
section
variable{X:Cx}{x:Str}{p pos:Pos}{e:Expr}{es:List Expr}{t:TA}{id T:String}{r:List V→Hp→VK→Prop}
def eV(r:List V→Hp→VK→Prop)(t:TA):TE:=fun σ H Q=>t σ H fun vs H1=>r vs H1 Q
theorem Ai(hc:EE X (.builtin id) r)(hg:Gl X x)(hm:X.mg x=none)(hv:bootBuiltins x=some (.builtin id))(ha:PA X (e::es) t)(hn:x ≠ "__name__" := by decide)(hdb:(x==("__debug__" : Str))=false:=by decide)
 (he:starEach (e::es) X.env=(false,eval e X.env)::starEach es X.env:=by rfl)(hpl:(backTo pos (starEach es X.env)).any (·.1)=false:=by rfl):PE X (.Call (.Name x p) (e::es) [] pos) (eV r t):=by
 intro pins s σ H Q I h;refine wpAny_Call_Name_kw (EX I hg hm hv ?_ hn hdb);exact PyProof.Rows.callWith_builtin1 (Av (ha pos pins s σ H _ I h) fun us s1 ⟨vs,H1,I1,r1,q1⟩=>hc pins s1 σ H1 vs us Q I1 r1 q1) he hpl
theorem GP(hc:EE X (.type T) r)(hg:Gl X x)(hm:X.mg x=none)(hv:bootBuiltins x=some (.type T))(ha:PA X (e::es) t)(hn:x ≠ "__name__" := by decide)(hdb:(x==("__debug__" : Str))=false:=by decide)
 (he:starEach (e::es) X.env=(false,eval e X.env)::starEach es X.env:=by rfl)(hpl:(backTo pos (starEach es X.env)).any (·.1)=false:=by rfl):PE X (.Call (.Name x p) (e::es) [] pos) (eV r t):=by
 intro pins s σ H Q I h;refine wpAny_Call_Name_kw (EX I hg hm hv ?_ hn hdb);exact bF (Av (ha pos pins s σ H _ I h) fun us s1 ⟨vs,H1,I1,r1,q1⟩=>hc pins s1 σ H1 vs us Q I1 r1 q1) he hpl
end
end L2
namespace HT
open PySem PyProof.Rows
section
variable{prog:Program}{w:World}{A:Around}{E:Value→Shared→Prop}{s:Shared}
theorem Yl{t b:Addr}{vs ws:List Value}{Q:Value→Shared→Prop}(ht:IsTup s.heap t vs.toArray)(hb:IsTup s.heap b ws.toArray)(hv:vs≠[])
 (h1:ws=[]→Q (.ref t) s)(h2:ws≠[]→Q (.ref s.heap.objs.size) {s with heap:=s.heap.push { cls:=.type "tuple",data:=.seq (vs++ws).toArray} })
 (hsz:vs.length+ws.length≤sizeLine):wpAny (model prog w) A (binaryOp .Add (.ref t) (.ref b)) Q E s:=by
 obtain⟨⟨cls,dd,data,sl⟩,ho,hc,n,hd⟩:=id ht;obtain⟨⟨cls2,dd2,data2,sl2⟩,ho2,hc2,n2,hd2⟩:=id hb;simp only at hc hd hc2 hd2;subst hc hd hc2 hd2;have e:vs.toArray++ws.toArray=(vs++ws).toArray:=by simp
 by_cases hw:ws=[]
 ·exact concat_meets ⟨_,ho,rfl⟩ ⟨_,ho2,rfl⟩ noFill_tuple_add seq_tuple_add PySem.F.slot_tuple_add PySem.F.entry_tuple_add (PySem.F.args_tuple_add_2 _ _)
   (tuple_addW1 t b vs.toArray ws.toArray n n2 dd dd2 sl sl2 (by simpa using hv) (by simp[hw])) ⟨ho,ho2,h1 hw⟩
 ·refine concat_meets ⟨_,ho,rfl⟩ ⟨_,ho2,rfl⟩ noFill_tuple_add seq_tuple_add PySem.F.slot_tuple_add PySem.F.entry_tuple_add (PySem.F.args_tuple_add_2 _ _)
   (tuple_addW2 t b vs.toArray ws.toArray n n2 dd dd2 sl sl2 (by simpa using hv) (by simpa using hw) (by rw[List.size_toArray,List.size_toArray];exact hsz)) ⟨ho,ho2,?_⟩
  rw[e];exact h2 hw
def A6(n d:Nat):Option Int→Nat
 |none=>d
 |some v=>if v<0 then(v+(n:Int)).toNat else min v.toNat n
theorem JX(n d:Nat):A6 n d none=d:=rfl
theorem HJ(n d k:Nat):A6 n d (some (k:Int))=min k n:=by
 show(if(k:Int)<0 then((k:Int)+(n:Int)).toNat else min (k:Int).toNat n)=min k n;rw[if_neg (by lia),Int.toNat_natCast]
theorem ZN(n d:Nat)(hd:d≤n)(o:Option Int):A6 n d o≤n:=by
 cases o with
 |none=>exact hd
 |some v =>
  show(if v<0 then(v+(n:Int)).toNat else min v.toNat n)≤n;by_cases hv:v<0
  ·rw[if_pos hv];lia
  ·rw[if_neg hv];exact Nat.min_le_right _ _
theorem Rx(v:Int)(n d:Nat):(if v<0 then max (v+(n:Int)) 0 else min v (n:Int))=((A6 n d (some v):Nat):Int):=by
 show(if v<0 then max (v+(n:Int)) 0 else min v (n:Int))=(((if v<0 then(v+(n:Int)).toNat else min v.toNat n):Nat):Int);by_cases hv:v<0
 ·simp only[if_pos hv];lia
 ·simp only[if_neg hv];lia
theorem UA(lo hi:Option Int)(n:Nat):Builtin.Slice.sliceAdjust lo hi 1 (n:Int)=(((A6 n 0 lo:Nat):Int),((A6 n n hi:Nat):Int)):=by
 have h1:¬((1:Int)<0):=by lia
 unfold Builtin.Slice.sliceAdjust;simp only[h1,if_false];refine Prod.ext ?_ ?_
 ·cases lo with
  |none=>rfl
  |some v=>exact Rx v n 0
 ·cases hi with
  |none=>rfl
  |some v=>exact Rx v n n
theorem T8(i j:Nat):Builtin.Slice.slicePlaces (i:Int) (j:Int) 1=j-i:=by
 unfold Builtin.Slice.slicePlaces;have h1:(1:Int) > 0:=by lia
 simp only[h1,if_true,Int.ediv_one];split<;>lia
theorem Mh{v:Value}{o:Option Int}{Q:Option Int→Shared→Prop}(p:IsPart v o)(h:Q o s):wpAny (model prog w) A (Builtin.Slice.slicePartIndex v) Q E s:=by
 cases p with
 |none=>exact slicePart_none h
 |int i t=>exact slicePart_int h
theorem Lw{sl:Addr}{vl vu:Value}{lo hi:Option Int}{n:Nat}{Q:Int×Int×Nat→Shared→Prop}(hs:s.heap.IsSliceOf sl vl vu .none)(pl:IsPart vl lo)(pu:IsPart vu hi)
 (h:Q (((A6 n 0 lo:Nat):Int),1,A6 n n hi-A6 n 0 lo) s):wpAny (model prog w) A (Builtin.Slice.sliceApplied (.ref sl) (pure (n:Int))) Q E s:=by
 obtain⟨os,hos,hcs,hds⟩:=id hs;unfold Builtin.Slice.sliceApplied Builtin.Slice.sliceFields;refine aA (aA (ah hos hds (x:=vl) rfl (aA (ah hos hds (x:=vu) rfl (aA (ah hos hds (x:=.none) rfl (aB ?_)))))));refine aA (slicePart_none ?_);show wpAny _ _ (if((1:Int)==0)=true then _ else _) _ _ s;rw[if_neg (by decide)];refine aA (Mh pl (aA (Mh pu (aA (aB ?_)))));show wpAny _ _ (match Builtin.Slice.sliceAdjust lo hi 1 (n:Int) with|(lo,hi)=>pure (lo,(1:Int),Builtin.Slice.slicePlaces lo hi 1)) _ _ s;rw[UA lo hi n];show wpAny _ _ (pure (((A6 n 0 lo:Nat):Int),(1:Int),Builtin.Slice.slicePlaces ((A6 n 0 lo:Nat):Int) ((A6 n n hi:Nat):Int) 1)) _ _ s;rw[T8];exact aB h
theorem Wo(xs:Array Value)(i k:Nat):((List.range k).filterMap fun(m:Nat)=>xs[((i:Int)+(m:Int)*1).toNat]?).toArray=((xs.toList.drop i).take k).toArray:=by
 have e:(fun(m:Nat)=>xs[((i:Int)+(m:Int)*1).toNat]?)=fun m=>xs[i+m]? := by
  funext m
  have:((i:Int)+(m:Int)*1).toNat=i+m:=by lia
  rw[this]
 rw[e];have:=pick_run xs i k;rw[List.filterMap_map]at this;have e2:((fun x=>xs[x]?) ∘ fun x=>i+x)=fun m=>xs[i+m]?:=rfl;rw[e2]at this;rw[this]
theorem LI{t sl:Addr}{items:Array Value}{vl vu:Value}{lo hi:Option Int}{Q:Value→Shared→Prop}(ht:IsTup s.heap t items)(hs:s.heap.IsSliceOf sl vl vu .none)(pl:IsPart vl lo)(pu:IsPart vu hi)
 (hw:¬(A6 items.size 0 lo=0∧A6 items.size items.size hi=items.size))
 (h:Q (.ref s.heap.objs.size) {s with heap:=s.heap.push { cls:=.type "tuple",data:=.seq ((items.toList.drop (A6 items.size 0 lo)).take (A6 items.size items.size hi-A6 items.size 0 lo)).toArray} })
 (hsz:items.size≤sizeLine):wpAny (model prog w) A (getItem (.ref t) (.ref sl)) Q E s:=by
 have htake:sizeOk (.seq ((items.toList.drop (A6 items.size 0 lo)).take (A6 items.size items.size hi-A6 items.size 0 lo)).toArray):=by
  show((items.toList.drop (A6 items.size 0 lo)).take (A6 items.size items.size hi-A6 items.size 0 lo)).toArray.size≤sizeLine;rw[List.size_toArray,List.length_take,List.length_drop,Array.length_toList]
  lia
 have hj:A6 items.size items.size hi≤items.size:=ZN _ _ (aG _) hi;obtain⟨os,hos,hcs,hds⟩:=id hs;have hTs:s.TypeIs (.ref sl) "slice" := ⟨os,hos,hcs⟩;unfold getItem
 try with_reducible refine bK ?_
 first|refine aA (aB ?_)|skip
 refine aA (wpAny_sequenceKey ht.typeIs (by decide) ?_);refine aA (ai (name:=Str.ofString "__getitem__") ht.typeIs PyProof.Rows.slot_tuple_getitem
  (ao PyProof.Rows.slot_tuple_getitem ht.typeIs entry_tuple_getitem ?_ (args_tuple_getitem _ _)))
 show wpAny _ _ (Builtin.Tuple.tupleItemsOf (.ref t)>>=_) _ _ s;refine aA (tupleItemsOf_ ht ?_);refine aA (wpAny_typeOf hTs ?_);rw[if_pos (by decide)];refine aA (Lw hs pl pu ?_);have hno:¬((((A6 items.size 0 lo:Nat):Int)==0&&(1:Int)==1&&(A6 items.size items.size hi-A6 items.size 0 lo)==items.size)=true):=by
  intro q;rw[Bool.and_eq_true,Bool.and_eq_true]at q;have q1:((A6 items.size 0 lo:Nat):Int)=0:=eq_of_beq q.1.1;have q2:A6 items.size items.size hi-A6 items.size 0 lo=items.size:=eq_of_beq q.2;exact hw ⟨by lia,by lia⟩
 show wpAny _ _ (if(((A6 items.size 0 lo:Nat):Int)==0&&(1:Int)==1&&(A6 items.size items.size hi-A6 items.size 0 lo)==items.size)=true then _ else _) _ _ s;rw[if_neg hno,Wo]
 first
  |exact aA (m:=Builtin.Tuple.tupleExact _) (aX (aB ⟨_,rfl,wpAny_pure h⟩) htake)
  |exact aA (m:=Builtin.Tuple.tupleExact _) (aX (aA (aB (aB ⟨_,rfl,wpAny_pure h⟩))) htake)
  |exact aA (aA (m:=Builtin.Tuple.tupleExact _) (aX (aB (aB ⟨_,rfl,wpAny_pure h⟩)) htake))
  |exact aA (aA (m:=Builtin.Tuple.tupleExact _) (aX (aB ⟨_,rfl,wpAny_pure h⟩) htake))
end
end HT
namespace L2
open PySem PySem.Spec PyProof.Rows
abbrev TO:=St→Hp→(Option Int→Hp→Prop)→Prop
def PO(X:Cx)(e:Option Expr)(t:TO):Prop :=
 ∀(pins:List (Addr×Obj)) (s:Shared) (σ:St) (H:Hp) (Q:Option Int→Hp→Prop),Inv X pins σ H s→t σ H Q →
  wpAny (model X.prog X.w) X.A (evalPart e X.env) (fun u s'=>∃o H',Inv X pins σ H' s'∧IsPart u o∧Q o H') X.xe s
def Yq:TO:=fun _ H Q=>Q none H
def dJ(t:TE):TO:=fun σ H Q=>t σ H fun x H1=>∃i,x=.int i∧Q (some i) H1
theorem intsAre_of{ns:List Int}:∀ {us:List Value},Vals (ns.map V.int) us→IntsAre us ns:=by
 induction ns with
 |nil=>intro us r;rw[List.map_nil]at r;cases r;exact .nil
 |cons n ns ih =>
  intro us r;rw[List.map_cons]at r;cases r with
  |cons r1 r2 =>
   obtain⟨t,e⟩:=r1;subst e;exact .cons n t (ih r2)
section
variable{X:Cx}{e:Expr}{te:TE}{lo hi:Option Expr}{tl th:TO}{pos p2:Pos}
theorem Iw:PO X none Yq:=by
 intro pins s σ H Q I h;rw[evalPart_none];exact aB ⟨none,H,I,.none,h⟩
theorem Iy(h:PE X e te):PO X (some e) (dJ te):=by
 intro pins s σ H Q I hw;rw[evalPart_some];refine Av (h pins s σ H _ I hw) fun u s1 ⟨x,H1,I1,r1,q1⟩=>?_;obtain⟨i,rfl,q⟩:=q1;obtain⟨t,rfl⟩:=r1;exact⟨some i,H1,I1,.int i t,q⟩
def Qe(X:Cx)(r:V→Option Int→Option Int→Hp→VK→Prop):Prop :=
 ∀(pins:List (Addr×Obj)) (s:Shared) (σ:St) (H:Hp) (x:V) (v vl vu:Value) (lo hi:Option Int) (sl:Addr) (Q:VK),Inv X pins σ H s→RelV x v→s.heap.IsSliceOf sl vl vu .none→IsPart vl lo→IsPart vu hi→r x lo hi H Q →
  ∃T id,typeLookup (.type T) "__getitem__" = pure (some (.builtin id))∧s.TypeIs v T∧wpAny (model X.prog X.w) X.A (getItem v (.ref sl)) (EP X pins σ Q) X.xe s
theorem Qe.or{r r':V→Option Int→Option Int→Hp→VK→Prop}(h:Qe X r)(h':Qe X r'):Qe X (fun x lo hi H Q=>r x lo hi H Q∨r' x lo hi H Q):=by
 intro pins s σ H x v vl vu lo hi sl Q I rx hs pl pu q;rcases q with q|q
 ·exact h pins s σ H x v vl vu lo hi sl Q I rx hs pl pu q
 ·exact h' pins s σ H x v vl vu lo hi sl Q I rx hs pl pu q
def gT(r:V→Option Int→Option Int→Hp→VK→Prop)(te:TE)(tl th:TO):TE:=fun σ H Q=>te σ H fun x H1=>tl σ H1 fun l H2=>th σ H2 fun u H3=>r x l u H3 Q
theorem Hh{r:V→Option Int→Option Int→Hp→VK→Prop}(hr:Qe X r)(he:PE X e te)(hl:PO X lo tl)(hu:PO X hi th):PE X (.Subscript e (.Slice lo hi none p2) pos) (gT r te tl th):=by
 intro pins s σ H Q I h;refine Subscript_ (Av (he pins s σ H _ I h) fun v s1 ⟨x,H1,I1,r1,q1⟩=>?_);refine wpAny_Slice (Av (hl pins s1 σ H1 _ I1 q1) fun vl s2 ⟨l,H2,I2,pl,q2⟩=>Av (hu pins s2 σ H2 _ I2 q2) fun vu s3 ⟨u,H3,I3,pu,q3⟩=>?_);rw[evalPart_none];refine aB ?_;have I4:Inv X pins σ H3 {s3 with heap:=s3.heap.push { cls:=.type "slice",data:=.fields #[vl,vu,.none]} }:=I3.kept (t':=s3.toks) fun b ob q=>aD _ q;obtain⟨T,id,hT,ht,hg⟩:=hr pins {s3 with heap:=s3.heap.push { cls:=.type "slice",data:=.fields #[vl,vu,.none]} } σ H3 x v vl vu l u s3.heap.objs.size Q I4 r1 (Heap.IsSliceOf.new ..) pl pu q3;show wpAny (model X.prog X.w) X.A (subscriptTail e (.Slice lo hi none p2) v (.ref s3.heap.objs.size)) (EP X pins σ Q) X.xe {s3 with heap:=s3.heap.push { cls:=.type "slice",data:=.fields #[vl,vu,.none]} };exact tail_any (ops:=[.ref s3.heap.objs.size,v]) ht hT hg (by with_unfolding_all rfl)
def Bo(xs:List V)(lo hi:Option Int):List V:=(xs.drop (HT.A6 xs.length 0 lo)).take (HT.A6 xs.length xs.length hi-HT.A6 xs.length 0 lo)
theorem D5(xs:List V)(lo hi:Option Int):(Bo xs lo hi).length≤xs.length:=by
 unfold Bo;rw[List.length_take,List.length_drop]
 lia
def fV(K:PySem.W.Frag):V→Option Int→Option Int→Hp→VK→Prop:=fun x lo hi H Q=>∃a xs,x=.ref a∧Ap K H a xs ∧
 ¬(HT.A6 xs.length 0 lo=0∧HT.A6 xs.length xs.length hi=xs.length)∧∀p,H p=none→Q (.ref p) (upd H p (.tup (Bo xs lo hi)))
theorem Ql:Qe X (fV X.K):=by
 intro pins s σ H x v vl vu lo hi sl Q I rx hs pl pu h;obtain⟨a,xs,rfl,hx,hw,q⟩:=h;cases rx;obtain⟨its,r,ht,hz⟩:=I.tuple hx;have hlen:its.toArray.size=xs.length:=by rw[List.size_toArray];exact r.length.symm
 refine⟨"tuple",_,PyProof.Rows.slot_tuple_getitem.lookup,ht.typeIs,?_⟩;refine HT.LI ht hs pl pu (by rw[hlen];exact hw) ?_ (by rw[hlen];exact hz);rw[hlen];refine⟨.ref s.heap.objs.size,_,I.laid (t':=s.toks) (o:=.tup (Bo xs lo hi)) (fun b ob q=>aD _ q) (aG _) ?_,rfl,q _ (I.Ah.fresh (aG _))⟩;exact⟨aR (D5 xs lo hi) hz,_,(r.drop (HT.A6 xs.length 0 lo)).take (HT.A6 xs.length xs.length hi-HT.A6 xs.length 0 lo),IsTup.new _ _⟩
theorem Vals.Sb{xs:List V}{us:List Value}(r:Vals xs us):us=[] ↔ xs=[]:=by
 cases r with
 |nil=>simp
 |cons _ _=>simp
end
def Jq(n:Nat)(i:Int):Option Nat:=if 0≤i then(if i<n then some i.toNat else none) else if -(n:Int)≤i then some (i+n).toNat else none
def Cy{α:Type}(xs:List α)(i:Int):Option α:=(Jq xs.length i).bind fun j=>xs[j]?
theorem Sk{n:Nat}{i:Int}{j:Nat}(h:Jq n i=some j):seqIndex? i n=some j∧j<n∧-(n:Int)≤i∧i<n:=by
 unfold Jq at h;by_cases h0:0≤i
 ·rw[if_pos h0]at h;by_cases h1:i<n
  ·rw[if_pos h1]at h;have e:i.toNat=j:=aW h;exact⟨by rw[seqIndex_of h0 h1,e],by lia,by lia,h1⟩
  ·rw[if_neg h1]at h;cases h
 ·rw[if_neg h0]at h;by_cases h1:-(n:Int)≤i
  ·rw[if_pos h1]at h;have e:(i+n).toNat=j:=aW h;exact⟨by rw[seqIndex_neg (by lia) h1,e],by lia,h1,by lia⟩
  ·rw[if_neg h1]at h;cases h
theorem Mx{α:Type}{xs:List α}{i:Int}{v:α}(h:Cy xs i=some v):∃j,seqIndex? i xs.length=some j∧xs[j]? = some v∧j<xs.length∧-(xs.length:Int)≤i∧i<xs.length:=by
 unfold Cy at h;cases e:Jq xs.length i with
 |none=>rw[e]at h;cases h
 |some j =>
  rw[e]at h;obtain⟨h1,h2,h3,h4⟩:=Sk e;exact⟨j,h1,h,h2,h3,h4⟩
theorem HI{α:Type}{xs:List α}{j:Nat}{v:α}(h:xs[j]? = some v):Cy xs (j:Int)=some v:=by
 have hj:j<xs.length:=(aC.mp h).1;have e:Jq xs.length (j:Int)=some j:=by
  unfold Jq;rw[if_pos (by lia),if_pos (by lia)];simp
 unfold Cy;rw[e];exact h
def Nd(b:Expr):Prop:=∀o i,subscripted b false o i=operate [o,i] (getItem o i)
def KP(X:Cx)(r:R2):Prop :=
 ∀(value slice:Expr) (pins:List (Addr×Obj)) (s:Shared) (σ:St) (H:Hp) (x y:V) (v u:Value) (Q:VK),Inv X pins σ H s→RelV x v→RelV y u→r x y H Q →
  subscripted slice false v u=operate [v,u] (getItem v u)→wpAny (model X.prog X.w) X.A (subscriptTail value slice v u) (EP X pins σ Q) X.xe s
def eQ(X:Cx)(id:String)(r:V→List V→Hp→VK→Prop):Prop :=
 ∀(pins:List (Addr×Obj)) (s:Shared) (σ:St) (H:Hp) (x:V) (xs:List V) (v:Value) (us:List Value) (Q:VK),Inv X pins σ H s→RelV x v→Vals xs us→r x xs H Q →
  wpAny (model X.prog X.w) X.A (call (.builtin id) (v::us)) (EP X pins σ Q) X.xe s
section
variable{X:Cx}{a b:Expr}{ta tb:TE}{pos:Pos}
theorem KP.or{r r':R2}(h:KP X r)(h':KP X r'):KP X (fun x y H Q=>r x y H Q∨r' x y H Q):=by
 intro value slice pins s σ H x y v u Q I rx ry q hs;rcases q with q|q
 ·exact h value slice pins s σ H x y v u Q I rx ry q hs
 ·exact h' value slice pins s σ H x y v u Q I rx ry q hs
theorem BG{r:R2}(hr:KP X r)(ha:PE X a ta)(hb:PE X b tb)(hs:Nd b):PE X (.Subscript a b pos) (Xo r ta tb):=by
 intro pins s σ H Q I h;exact Subscript_ (Wy ha hb I h fun v u s2 x y H2 I2 rx ry q=>hr a b pins s2 σ H2 x y v u Q I2 rx ry q (hs _ _))
def WJ(K:PySem.W.Frag):R2:=fun x y H Q=>∃p xs i v,x=.ref p∧y=.int i∧AQ K H p xs∧Cy xs i=some v∧Q v H
def Wm(K:PySem.W.Frag):R2:=fun x y H Q=>∃p xs i v,x=.ref p∧y=.int i∧Ap K H p xs∧Cy xs i=some v∧Q v H
def Zw:R2:=fun x y H Q=>∃z i c,x=.str z∧y=.int i∧z.length≤sizeLine∧Cy z.cps.toList i=some c∧Q (.str ⟨#[c]⟩) H
theorem D6:KP X (WJ X.K):=by
 intro value slice pins s σ H x y v u Q I rx ry h hs;obtain⟨p,xs,i,z,rfl,rfl,hq,he,q⟩:=h;cases rx;obtain⟨t,rfl⟩:=ry;obtain⟨its,r,pl,hz⟩:=I.list hq;obtain⟨j,h1,h2,h3,h4,h5⟩:=Mx he;obtain⟨w,ew,rw'⟩:=r.get h2;have hl:=r.length;have hn:=J1;have fin:EP X pins σ Q w s:=⟨z,H,I,rw',q⟩;by_cases h0:0≤i
 ·have hj:i.toNat=j:=by
   rw[seqIndex_of h0 h5]at h1;exact aW h1
  exact item_listR pl.isList h0 (by lia) (by rw[hj];simpa using ew) fin hs
 ·have hj:(i+(its.toArray.size:Int)).toNat=j:=by
   rw[seqIndex_neg (by lia) h4]at h1;rw[List.size_toArray,←hl];exact aW h1
  exact subscriptTail_builtinR (x:=w) pl.isList.typeIs slot_list_getitem.lookup
   (wpAny_getItem_list_neg (Q:=fun r s'=>r=w∧EP X pins σ Q r s') pl.isList (by lia) (by rw[List.size_toArray]<;>lia) (by lia) (by rw[hj];simpa using ew) ⟨rfl,fin⟩) hs
theorem CH:KP X (Wm X.K):=by
 intro value slice pins s σ H x y v u Q I rx ry h hs;obtain⟨p,xs,i,z,rfl,rfl,hq,he,q⟩:=h;cases rx;obtain⟨t,rfl⟩:=ry;obtain⟨its,r,pl,hz⟩:=I.tuple hq;obtain⟨j,h1,h2,h3,h4,h5⟩:=Mx he;obtain⟨w,ew,rw'⟩:=r.get h2;have hl:=r.length;have hn:=J1;have fin:EP X pins σ Q w s:=⟨z,H,I,rw',q⟩;exact subscriptTail_builtinR (x:=w) pl.typeIs slot_tuple_getitem.lookup
  (getItem_tuple (j:=j) (Q:=fun r s'=>r=w∧EP X pins σ Q r s') pl (by lia) (by lia) (by rw[List.size_toArray,←hl];exact h1) (by simpa using ew) ⟨rfl,fin⟩) hs
theorem b6:KP X Zw:=by
 intro value slice pins s σ H x y v u Q I rx ry h hs;obtain⟨z,i,c,rfl,rfl,hz,he,q⟩:=h;obtain⟨t,rfl⟩:=rx;obtain⟨t',rfl⟩:=ry;obtain⟨j,h1,h2,h3,h4,h5⟩:=Mx he;have hl:z.cps.toList.length=z.length:=by simp[Str.length]
 rw[hl]at h1 h4 h5;have hn:=J1;exact tail_any (typeIs_str s z t) slot_str_getitem.lookup (getItem_str (c:=c) (by
  have e1:decide (i < -(2^63:Int))=false:=bL (by lia);have e2:decide (i ≥ 2^63)=false:=bL (by lia);rw[e1,e2,Bool.or_false]) (by rw[h1];simpa using h2) ⟨.str ⟨#[c]⟩,H,I.tok _,⟨_,rfl⟩,q⟩) hs
def gP(K:PySem.W.Frag):R2:=fun x y H Q=>WJ K x y H Q∨Wm K x y H Q∨Zw x y H Q
theorem cF:KP X (gP X.K):=D6.or (CH.or b6)
theorem TV(its:List Value)(n j:Nat)(u:Value):Obj.mapSeq (·.setIfInBounds j u) { cls:=.type "list",data:=.seq its.toArray n}={ cls:=.type "list",data:=.seq (its.set j u).toArray n}:=by
 simp[Obj.mapSeq]
theorem Inv.lst{pins:List (Addr×Obj)}{σ:St}{H:Hp}{s:Shared}{p:Addr}{xs:List V}(I:Inv X pins σ H s)(h:H p=some (.lst xs)) :
  ∃(its:List Value) (n:Nat),Vals xs its∧s.heap.get? p=some { cls:=.type "list",data:=.seq its.toArray n}∧xs.length≤sizeLine:=by
 obtain⟨z,its,n,r,e⟩:=I.Ah p _ h;exact⟨its,n,r,e,z⟩
theorem Inv.bq{pins:List (Addr×Obj)}{σ:St}{H:Hp}{s:Shared}{p:Addr}{xs ys:List V}{its its':List Value}{n n':Nat}{f:Obj→Obj}(I:Inv X pins σ H s)(h:H p=some (.lst xs))
 (ho:s.heap.get? p=some { cls:=.type "list",data:=.seq its.toArray n})(hf:f { cls:=.type "list",data:=.seq its.toArray n}={ cls:=.type "list",data:=.seq its'.toArray n'})(r:Vals ys its')(hz:ys.length≤sizeLine)(t:Nat) :
  Inv X pins σ (upd H p (.lst ys)) {s with heap:=s.heap.update p f,toks:=t}:=by
 have e:(s.heap.update p f).get? p=some { cls:=.type "list",data:=.seq its'.toArray n'}:=by
  rw[Heap.get?_update_self f ho (by rw[hf]<;>rfl),hf]
 refine I.write (x:=p) (e:=p) (by rw[h];trivial) (.inl rfl) (fun b u hb q=>(Heap.get?_update_other _ _ (Ne.symm hb)).trans q) ⟨_,e⟩ ?_;exact⟨hz,its',n',r,e⟩
def XZ:V→V→V→Hp→(Hp→Prop)→Prop:=fun o i v H Q=>∃p xs k j,o=.ref p∧i=.int k∧H p=some (.lst xs)∧Jq xs.length k=some j∧Q (upd H p (.lst (xs.set j v)))
theorem set_list:Zk X XZ:=by
 intro pins s σ H o i v ov iv u Q I ro ri rv h;obtain⟨p,xs,k,j,rfl,rfl,hp,hj,q⟩:=h;cases ro;obtain⟨t,rfl⟩:=ri;obtain⟨its,n,r,ho,hz⟩:=I.lst hp;obtain⟨h1,h2,h3,h4⟩:=Sk hj;have hl:=r.length;have hn:=J1;have I':Inv X pins σ (upd H p (.lst (xs.set j v))) {s with heap:=s.heap.update p (Obj.mapSeq (·.setIfInBounds j u))} :=
  I.bq hp ho (TV its n j u) (r.set rv j) (by rw[List.length_set];exact hz) s.toks
 by_cases h0:0≤k
 ·have hk:k.toNat=j:=by
   rw[seqIndex_of h0 h4]at h1;exact aW h1
  exact PySem.W.ki_setAt ho h0 (by lia) (by rw[List.size_toArray,←hl];exact h4) (by rw[hk];exact⟨_,I',q⟩)
 ·have hk:(k+(its.toArray.size:Int)).toNat=j:=by
   rw[seqIndex_neg (by lia) h3]at h1;rw[List.size_toArray,←hl];exact aW h1
  exact PySem.W.ki_setBack ho (by lia) (by rw[List.size_toArray,←hl];exact h3) (by lia) (by rw[hk];exact⟨_,I',q⟩)
theorem Py(lo hi:Option Int)(n:Nat):(sliceBounds lo hi none n).1=((HT.A6 n 0 lo:Nat):Int)∧(sliceBounds lo hi none n).2.1=((HT.A6 n n hi:Nat):Int)∧(sliceBounds lo hi none n).2.2=1:=by
 refine⟨?_,?_,rfl⟩
 ·cases lo with
  |none=>simp[sliceBounds,HT.A6]
  |some i =>
   simp only[sliceBounds,HT.A6,Option.getD_none,show(1:Int) > 0 by decide,if_true];by_cases h:i<0
   ·simp only[h,if_true]<;>lia
   ·simp only[h,if_false]<;>lia
 ·cases hi with
  |none=>simp[sliceBounds,HT.A6]
  |some i =>
   simp only[sliceBounds,HT.A6,Option.getD_none,show(1:Int) > 0 by decide,if_true];by_cases h:i<0
   ·simp only[h,if_true]<;>lia
   ·simp only[h,if_false]<;>lia
theorem Ov(its:List Value)(lo hi:Option Int):slicePick its.toArray lo hi none=((its.drop (HT.A6 its.length 0 lo)).take (HT.A6 its.length its.length hi-HT.A6 its.length 0 lo)).toArray:=by
 obtain⟨h1,h2,h3⟩:=Py lo hi its.toArray.size;unfold slicePick;rw[h1,h2,h3];simp only[sliceRange_one,pick_run,List.size_toArray]<;>rfl
def fM(K:PySem.W.Frag):V→Option Int→Option Int→Hp→VK→Prop:=fun x lo hi H Q=>∃a xs,x=.ref a∧AQ K H a xs∧∀p,H p=none→Q (.ref p) (upd H p (.lst (Bo xs lo hi)))
theorem Nk:Qe X (fM X.K):=by
 intro pins s σ H x v vl vu lo hi sl Q I rx hs pl pu h;obtain⟨a,xs,rfl,hx,q⟩:=h;cases rx;obtain⟨its,r,ht,hz⟩:=I.list hx;have hlen:=r.length;refine⟨"list",_,slot_list_getitem.lookup,ht.isList.typeIs,?_⟩;refine wpAny_getItem_list_slice ht.isList hs pl pu .none (by simp) ?_ (by rw[List.size_toArray]<;>lia);rw[Ov,←hlen];refine⟨.ref s.heap.objs.size,_,I.laid (t':=s.toks) (o:=.lst (Bo xs lo hi)) (fun b ob q=>aD _ q) (aG _) ?_,rfl,q _ (I.Ah.fresh (aG _))⟩;exact⟨aR (D5 xs lo hi) hz,_,0,(r.drop (HT.A6 xs.length 0 lo)).take (HT.A6 xs.length xs.length hi-HT.A6 xs.length 0 lo),Heap.get?_push_size _ rfl⟩
theorem BW:EE X (.builtin "len") (fun xs H Q=>∃p ys,xs=[.ref p]∧(AQ X.K H p ys∨Ap X.K H p ys)∧Q (.int ys.length) H):=by
 intro pins s σ H xs us Q I r h;obtain⟨p,ys,rfl,hq,q⟩:=h;obtain⟨u,rfl,rx⟩:=vals1 r;cases rx;have hn:=J1;rcases hq with hq|hq
 ·obtain⟨its,r',pl,hz⟩:=I.list hq;have hlen:=r'.length;exact Calls.call_len_list pl.isList (by simp only[List.size_toArray]<;>lia) ⟨.int ys.length,H,I.tok _,⟨s.toks+1,by rw[List.size_toArray,hlen]⟩,q⟩
 ·obtain⟨its,r',pl,hz⟩:=I.tuple hq;have hlen:=r'.length;exact len_tuple pl (by simp only[List.size_toArray]<;>lia) ⟨.int ys.length,H,I.tok _,⟨s.toks+1,by rw[List.size_toArray,hlen]⟩,q⟩
theorem J8:EE X (.type "list") (fun xs H Q=>∃p ys,xs=[.ref p]∧(AQ X.K H p ys∨Ap X.K H p ys)∧∀l,H l=none→Q (.ref l) (upd H l (.lst ys))):=by
 intro pins s σ H xs us Q I r h;obtain⟨p,ys,rfl,hq,q⟩:=h;obtain⟨u,rfl,rx⟩:=vals1 r;cases rx;have fin:∀(its:List Value),Vals ys its→ys.length≤sizeLine→∀(h':Heap) (c':Nat),(∀b o',s.heap.get? b=some o'→h'.get? b=some o') →
   h'.get? s.heap.objs.size=some { cls:=.type "list",dict:=none,data:=.seq its.toArray c',slots:=#[]}→EP X pins σ Q (.ref s.heap.objs.size) {s with heap:=h'}:=fun its r' hz h' c' kp e =>
  ⟨.ref s.heap.objs.size,_,I.laid (t':=s.toks) kp (aG _) (show Bc X.prog X.w _ h' _ (.lst ys) from⟨hz,its,c',r',e⟩),rfl,q _ (I.Ah.fresh (aG _))⟩
 rcases hq with hq|hq
 ·obtain⟨its,r',pl,hz⟩:=I.list hq;have hlen:=r'.length;obtain⟨o,ho,hc,n,hd⟩:=pl.isList;exact call_list_seq p (.inl rfl) ho hc hd (fun h' c' kp e=>fin its r' hz h' c' kp e) (by simp only[List.size_toArray]<;>lia)
 ·obtain⟨its,r',pl,hz⟩:=I.tuple hq;have hlen:=r'.length;obtain⟨o,ho,hc,n,hd⟩:=pl;exact call_list_seq p (.inr rfl) ho hc hd (fun h' c' kp e=>fin its r' hz h' c' kp e) (by simp only[List.size_toArray]<;>lia)
theorem Ot:EE X (.type "tuple") (fun xs H Q=>∃p ys,xs=[.ref p]∧((AQ X.K H p ys∧∀l,H l=none→Q (.ref l) (upd H l (.tup ys)))∨(Ap X.K H p ys∧Q (.ref p) H))):=by
 intro pins s σ H xs us Q I r h;obtain⟨p,ys,rfl,h⟩:=h;obtain⟨u,rfl,rx⟩:=vals1 r;cases rx;rcases h with ⟨hq,q⟩|⟨hq,q⟩
 ·obtain⟨its,r',pl,hz⟩:=I.list hq;have hlen:=r'.length;refine call_tuple_list pl.isList (fun h' kp=>?_) (by simp only[List.size_toArray]<;>lia);have I1:Inv X pins σ H {s with heap:=h'}:=I.kept (t':=s.toks) kp;have I2:Inv X pins σ (upd H h'.objs.size (.tup ys)) {s with heap:=h'.push { cls:=.type "tuple",data:=.seq its.toArray} } :=
   I1.laid (t':=s.toks) (fun b o e=>aD _ e) (aG _) (show Bc X.prog X.w _ _ _ (.tup ys) from⟨hz,its,r',IsTup.new _ _⟩)
  exact⟨.ref h'.objs.size,_,I2,rfl,q _ (I1.Ah.fresh (aG _))⟩
 ·obtain⟨its,r',pl,hz⟩:=I.tuple hq;exact call_tuple_same pl ⟨.ref p,H,I,rfl,q⟩
def Yt(K:PySem.W.Frag)(T:String)(x:V)(H:Hp):Prop:=match x with
 |.str _=>T = "str"
 |.int _=>T = "int"
 |.ref p=>(T = "list" ∧ ∃xs,AQ K H p xs)∨(T = "tuple" ∧ ∃o,K.lookup p=some o∧o.cls=.type "tuple" ∧ o.dict=none) ∨
   (T = "dict" ∧((∃kvs,H p=some (.dK kvs))∨∃kvs,H p=some (.dT kvs)))∨(T = "set" ∧ ∃S n,H p=some (.set S n))
 |_=>False
theorem Vf{pins:List (Addr×Obj)}{σ:St}{H:Hp}{s:Shared}{T:String}{x:V}{v:Value}(I:Inv X pins σ H s)(r:RelV x v)(ty:Yt X.K T x H) :
  s.TypeIs v T∧∀a,v=.ref a→∃ob,s.heap.get? a=some ob∧ob.dict=none:=by
 cases x with
 |str z =>
  obtain⟨t,rfl⟩:=r;cases (show T = "str" from ty);exact⟨typeIs_str s z t,fun _ e=>nomatch e⟩
 |int i =>
  obtain⟨t,rfl⟩:=r;cases (show T = "int" from ty);exact⟨typeIs_int s i t,fun _ e=>nomatch e⟩
 |ref p =>
  cases r;rcases ty with ⟨rfl,xs,hq⟩|⟨rfl,o,hk,hc,hd⟩|⟨rfl,hk⟩|⟨rfl,S,n,hk⟩
  ·obtain⟨its,_,pl,_⟩:=I.list hq;refine⟨pl.isList.typeIs,fun a e=>?_⟩;cases e;obtain⟨o,n,e,c,hd,_⟩:=pl;exact⟨o,e,hd⟩
  ·refine⟨⟨o,I.GX p o hk,hc⟩,fun a e=>?_⟩;cases e;exact⟨o,I.GX _ o hk,hd⟩
  ·have z:∃o,s.heap.get? p=some o∧o.ExactDict:=by
    rcases hk with ⟨kvs,hk⟩|⟨kvs,hk⟩
    ·obtain⟨_,_,_,_,o,_,_,e,ex,_⟩:=I.Ah p _ hk;exact⟨o,e,ex⟩
    ·obtain⟨_,_,_,_,o,_,_,e,ex,_⟩:=I.Ah p _ hk;exact⟨o,e,ex⟩
   obtain⟨o,e,ex⟩:=z;refine⟨⟨o,e,ex.1⟩,fun a e2=>?_⟩;cases e2;exact⟨o,e,ex.2.1⟩
  ·obtain⟨o,_,_,_,e,ex,_⟩:=I.Ah p _ hk;refine⟨⟨o,e,ex.1⟩,fun a e2=>?_⟩;cases e2;exact⟨o,e,ex.2.1⟩
 |_=>exact False.elim ty
def fX(K:PySem.W.Frag)(T:String)(r:V→List V→Hp→VK→Prop)(to:TE):TE:=fun σ H Q=>to σ H fun x H1=>Yt K T x H1∧r x [] H1 Q
def gg(K:PySem.W.Frag)(T:String)(r:V→List V→Hp→VK→Prop)(to:TE)(t:TA):TE:=fun σ H Q=>to σ H fun x H1=>Yt K T x H1∧t σ H1 fun xs H2=>r x xs H2 Q
variable{o e:Expr}{es:List Expr}{to:TE}{t:TA}{name:Str}{apos cpos:Pos}{T id:String}{r:V→List V→Hp→VK→Prop}
theorem ZA(pa:PlainAttrs T)(slot:Slot T name id)(hty:typeOf (.builtin id)=pure (.type "method_descriptor"))(hm:eQ X id r)(ho:PE X o to)
 (hbase:attributeBase o name X.env (eval o X.env)=eval o X.env:=by rfl)(hline:(apos.endLine==cpos.line)=true:=by rfl):PE X (.Call (.Attribute o name apos) [] [] cpos) (fX X.K T r to):=by
 intro pins s σ H Q I h;refine wpAny_Call_method0_late hbase hline (Av (ho pins s σ H _ I h) fun v s1 ⟨x,H1,I1,r1,ty,q1⟩=>?_);obtain⟨h1,h2⟩:=Vf I1 r1 ty;exact⟨T,id,pa,slot,hty,h1,h2,Calls.callWith_builtin rfl (PySem.evalArgs_none (hm pins s1 σ H1 x [] v [] Q I1 r1 .nil q1))⟩
theorem K0(pa:PlainAttrs T)(slot:Slot T name id)(hty:typeOf (.builtin id)=pure (.type "method_descriptor"))(hm:eQ X id r)(ho:PE X o to)(ha:PA X (e::es) t)
 (hbase:attributeBase o name X.env (eval o X.env)=eval o X.env:=by rfl)
 (hfew:((backTo cpos (starEach (e::es) X.env)).all (fun x=>!x.1)&&(backToKw cpos (keywordEach [] X.env)).all (fun x=>x.1.isSome)
   && decide ((e::es).length+([]:List Keyword).length+(if([]:List Keyword).isEmpty then 0 else 1)<30))=true:=by rfl)
 (hline:(apos.endLine==cpos.line)=true:=by rfl)(hs:starEach (e::es) X.env=(false,eval e X.env)::starEach es X.env:=by rfl)(hplain:(backTo cpos (starEach es X.env)).any (·.1)=false:=by rfl) :
  PE X (.Call (.Attribute o name apos) (e::es) [] cpos) (gg X.K T r to t):=by
 intro pins s σ H Q I h;refine wpAny_Call_method_late hbase hfew hline rfl (Av (ho pins s σ H _ I h) fun v s1 ⟨x,H1,I1,r1,ty,q1⟩=>?_);obtain⟨h1,h2⟩:=Vf I1 r1 ty;refine⟨T,id,pa,slot,hty,h1,h2,?_⟩;have hA:=ha cpos pins s1 σ H1 _ I1 q1;rw[hs]at hA ⊢;refine Calls.callWith_builtin (by show(false||(backTo cpos (starEach es X.env)).any (·.1))=false;rw[hplain]<;>rfl) (Calls.evalArgs_plain ?_);exact Av hA fun us s2 ⟨vs,H2,I2,r2,q2⟩=>hm pins s2 σ H2 x vs v us Q I2 r1 r2 q2
end
def ZW(X:Cx)(id:String)(r:V→List V→Hp→VK→Prop):Prop :=
 ∀(pins:List (Addr×Obj)) (s:Shared) (σ:St) (H:Hp) (x:V) (xs:List V) (v:Value) (us:List Value) (Q:VK),Inv X pins σ H s→RelV x v→Vals xs us→r x xs H Q →
  wpAny (model X.prog X.w) X.A (call (.builtin id) (v::us)) (EP X pins σ Q) X.xe s
theorem Vals.one:∀ {x:V} {us:List Value},Vals [x] us→∃u,us=[u]∧RelV x u
 |_,_,.cons r .nil=>⟨_,rfl,r⟩
theorem Vals.two:∀ {x y:V} {us:List Value},Vals [x,y] us→∃u v,us=[u,v]∧RelV x u∧RelV y v
 |_,_,_,.cons r (.cons q .nil)=>⟨_,_,rfl,r,q⟩
theorem Vals.zero:∀ {us:List Value},Vals [] us→us=[]
 |_,.nil=>rfl
theorem Vals.rep{xs:List V}{us:List Value}(h:Vals xs us):∀k:Nat,Vals (List.replicate k xs).flatten (List.replicate k us).flatten
 |0=>.nil
 |k+1=>by
  rw[List.replicate_succ,List.replicate_succ,List.flatten_cons,List.flatten_cons];exact Vals.append h (Vals.rep h k)
theorem foldl_rep(its:List Value):∀(k:Nat) (acc:List Value),
  List.foldl (fun x1 x2=>x1++x2) acc.toArray (List.replicate k its.toArray)=(acc++(List.replicate k its).flatten).toArray
 |0,acc=>by simp
 |k+1,acc=>by
  have e:acc.toArray++its.toArray=(acc++its).toArray:=by simp
  have e2:(acc++its)++(List.replicate k its).flatten=acc++(List.replicate (k+1) its).flatten:=by
   rw[List.replicate_succ,List.flatten_cons,List.append_assoc]
  rw[←e2,←foldl_rep its k (acc++its),←e,List.replicate_succ,List.foldl_cons]
section
variable{X:Cx}{pins:List (Addr×Obj)}{σ:St}{H:Hp}{s:Shared}{l:Addr}{xs ys:List V}
theorem Inv.Wi{its its':List Value}{n:Nat}{f:Array Value→Array Value}{t':Nat}(I:Inv X pins σ H s)(hH:H l=some (.lst xs))
 (e:s.heap.get? l=some { cls:=.type "list",data:=.seq its.toArray n})(hf:f its.toArray=its'.toArray)(hv:Vals ys its')(hz:ys.length≤sizeLine) :
  Inv X pins σ (upd H l (.lst ys)) {s with heap:=s.heap.update l (Obj.mapSeq f),toks:=t'}:=by
 have q:=PySem.IsL.update e f;rw[hf]at q;refine I.write (x:=l) (e:=l) (by rw[hH];exact trivial) (.inl rfl) (fun b' u hb hu=>(Heap.get?_update_other s.heap (Obj.mapSeq f) (Ne.symm hb)).trans hu) ⟨_,q⟩ ?_;exact⟨hz,its',_,hv,q⟩
theorem Inv.ZD{its:List Value}{t':Nat}(I:Inv X pins σ H s)(hv:Vals ys its)(hz:ys.length≤sizeLine) :
  Inv X pins σ (upd H s.heap.objs.size (.lst ys)) {s with heap:=s.heap.push { cls:=.type "list",data:=.seq its.toArray},toks:=t'} :=
 I.laid (fun _ _ q=>aD _ q) (aG _) ⟨hz,its,0,hv,Heap.get?_push_size _ rfl⟩
theorem Inv.fresh(I:Inv X pins σ H s):H s.heap.objs.size=none:=I.Ah.fresh (aG _)
theorem Inv.Lm(I:Inv X pins σ H s)(hH:H l=some (.lst xs)):xs.length≤sizeLine∧∃(its:List Value) (n:Nat),Vals xs its∧xs.length=its.length∧s.heap.get? l=some { cls:=.type "list",data:=.seq its.toArray n}:=by
 obtain⟨z,its,n,r,e⟩:=I.Ah l _ hH;exact⟨z,its,n,r,r.length,e⟩
theorem Ph{n:Nat}(h:n≤sizeLine):Builtin.List.listTooLong n=false:=by
 unfold Builtin.List.listTooLong;exact bL (by lia)
end
section
variable{X:Cx}
def YI:V→List V→Hp→VK→Prop:=fun x vs H Q=>∃l xs y,x=.ref l∧vs=[y]∧H l=some (.lst xs)∧xs.length<sizeLine∧Q .BA (upd H l (.lst (xs++[y])))
theorem FK:ZW X "list.append" YI:=by
 intro pins s σ H x vs v us Q I rx rv h;obtain⟨l,xs,y,rfl,rfl,hH,hz,q⟩:=h;cases rx;obtain⟨u,rfl,ru⟩:=rv.one;obtain⟨z,its,n,r,hl,e⟩:=I.Lm hH;refine call_meets F.slot_list_append ⟨_,e,rfl⟩ F.entry_list_append (F.args_list_append_2 _ _) (PySem.list_append l its.toArray n u (by rw[List.size_toArray];lia)) ⟨e,?_⟩;refine⟨.BA,_,I.Wi (its':=its++[u]) hH e (by simp) (r.append (.cons ru .nil)) ?_,rfl,q⟩;rw[List.length_append,List.length_singleton]
 lia
def Xv:V→List V→Hp→VK→Prop:=fun x vs H Q=>∃l b xs zs,x=.ref l∧vs=[.ref b]∧H l=some (.lst xs)∧H b=some (.lst zs)∧xs.length+zs.length≤sizeLine∧Q .BA (upd H l (.lst (xs++zs)))
theorem Uj:ZW X "list.extend" Xv:=by
 intro pins s σ H x vs v us Q I rx rv h;obtain⟨l,b,xs,zs,rfl,rfl,hH,hB,hz,q⟩:=h;cases rx;obtain⟨u,rfl,ru⟩:=rv.one;cases ru;obtain⟨z,its,n,r,hl,e⟩:=I.Lm hH;obtain⟨z2,its2,n2,r2,hl2,e2⟩:=I.Lm hB;have hsz:its.toArray.size+its2.toArray.size≤sizeLine:=by rw[List.size_toArray,List.size_toArray];lia
 have hlong:¬(!its.toArray.isEmpty&&Builtin.List.listTooLong (its.toArray.size+its2.toArray.size))=true:=by
  rw[Ph hsz,Bool.and_false];exact aJ
 refine call_meets F.slot_list_extend ⟨_,e,rfl⟩ F.entry_list_extend (F.args_list_extend_2 _ _)
  (AutoSeq1.list_extend_list_list_0 l its.toArray n b its2.toArray n2 hlong (by rw[List.size_toArray];lia) (by lia)) ⟨e,e2,?_⟩
 refine⟨.BA,_,I.Wi (its':=its++its2) hH e (by simp) (r.append r2) ?_,rfl,q⟩;rw[List.length_append]
 lia
def Zc:V→List V→Hp→VK→Prop:=fun x vs H Q=>∃l xs,x=.ref l∧vs=[]∧H l=some (.lst xs)∧Q .BA (upd H l (.lst []))
theorem Vz:ZW X "list.clear" Zc:=by
 intro pins s σ H x vs v us Q I rx rv h;obtain⟨l,xs,rfl,rfl,hH,q⟩:=h;cases rx;have hus:=rv.zero;subst hus;obtain⟨z,its,n,r,hl,e⟩:=I.Lm hH;refine call_meets F.slot_list_clear ⟨_,e,rfl⟩ F.entry_list_clear (F.args_list_clear_1 _) (AutoSeq1.list_clear_list_0 l its.toArray n (by rw[List.size_toArray];lia)) ⟨e,?_⟩;exact⟨.BA,_,I.Wi (its':=[]) (ys:=[]) hH e rfl .nil (ak _),rfl,q⟩
def fv:R2:=fun x y H Q=>∃l b xs zs,x=.ref l∧y=.ref b∧H l=some (.lst xs)∧H b=some (.lst zs)∧xs.length+zs.length≤sizeLine∧∀p,H p=none→Q (.ref p) (upd H p (.lst (xs++zs)))
theorem Px:B9 X (binaryOp .Add) fv:=by
 intro pins s σ H x y v u Q I rx ry h;obtain⟨l,b,xs,zs,rfl,rfl,hH,hB,hz,q⟩:=h;cases rx;cases ry;obtain⟨z,its,n,r,hl,e⟩:=I.Lm hH;obtain⟨z2,its2,n2,r2,hl2,e2⟩:=I.Lm hB;refine PySem.P.add_list e e2 ?_ (by rw[List.size_toArray,List.size_toArray];lia);have ea:its.toArray++its2.toArray=(its++its2).toArray:=by simp
 rw[ea];exact⟨.ref _,_,I.ZD (t':=s.toks) (r.append r2) (by rw[List.length_append];lia),rfl,q _ I.fresh⟩
def ei:R2:=fun x y H Q=>∃l k xs,x=.ref l∧y=.int k∧H l=some (.lst xs)∧-(2^63)≤k∧k<2^63∧xs.length*k.toNat≤sizeLine ∧
 ∀p,H p=none→Q (.ref p) (upd H p (.lst (List.replicate k.toNat xs).flatten))
theorem len_rep{α:Type}(xs:List α)(k:Nat):(List.replicate k xs).flatten.length=k*xs.length:=by
 induction k with
 |zero=>simp
 |succ k ih=>rw[List.replicate_succ,List.flatten_cons,List.length_append,ih,Nat.succ_mul,Nat.add_comm]
theorem Zb:B9 X (binaryOp .Mult) ei:=by
 intro pins s σ H x y v u Q I rx ry h;obtain⟨l,k,xs,rfl,rfl,hH,h1,h2,hz,q⟩:=h;cases rx;obtain⟨t,rfl⟩:=ry;obtain⟨z,its,n,r,hl,e⟩:=I.Lm hH;have hlen:its.toArray.size*k.toNat≤sizeLine:=by rw[List.size_toArray,←hl];exact hz
 have hcap:¬its.toArray.size*k.toNat > (2^63-1) / 8:=by
  have:(sizeLine:Nat)≤(2^63-1) / 8:=by decide
  lia
 have hfit:¬(!Builtin.List.listFitsIndex k)=true:=by
  rw[fitsIndex_both h1 h2];exact aJ
 have hlong:¬Builtin.List.listTooLong (its.toArray.size*k.toNat)=true:=by
  rw[Ph hlen];exact aJ
 have hnew:List.foldl (fun x1 x2=>x1++x2) #[] (List.replicate (if its.toArray.isEmpty=true then 0 else k.toNat) its.toArray)=(List.replicate k.toNat its).flatten.toArray:=by
  have f0:∀m:Nat,List.foldl (fun x1 x2=>x1++x2) #[] (List.replicate m its.toArray)=(List.replicate m its).flatten.toArray:=fun m=>by
   have:=foldl_rep its m [];rw[List.nil_append]at this;exact this
  rw[f0];cases its with
  |nil=>simp
  |cons a r'=>rw[if_neg (by simp)]
 refine wpAny_binaryOp_repeat_ref (T := "list") (U := "int") (by decide) ⟨_,e,rfl⟩ (fun s'=>typeIs_int s' k t) noFill_list_mul F.fills_int_mul F.slot_int_rmul repeat_list F.slot_int_index.lookup
  (call_meets F.slot_int_rmul (typeIs_int s k t) F.entry_int_rmul (F.args_int_rmul_2 _ _) (int___rmul___int_list k t l its.toArray n)
   ⟨e,rfl,⟨_,e,rfl⟩,call_meets F.slot_list_mul ⟨_,e,rfl⟩ F.entry_list_mul (F.args_list_mul_2 _ _) (AutoListH.list___mul___list_int_3 l its.toArray n k t hfit hcap hlong) ⟨e,?_⟩⟩)
 rw[hnew];exact⟨.ref _,_,I.ZD (t':=s.toks) (r.rep k.toNat) (by rw[len_rep,Nat.mul_comm];exact hz),rfl,q _ I.fresh⟩
end
end L2
namespace Att
open PySem PySem.W PySem.Calls PyProof.Rows
theorem Mk{P:Params}{h:Heap}:∀(ns:List Int) (vs:List Value),WellAll P h vs (ns.map WData.int)→IntsAre vs ns:=by
 intro ns
 induction ns with
 |nil =>
  intro vs w;rw[List.map_nil]at w;cases w;exact .nil
 |cons n ns ih =>
  intro vs w;rw[List.map_cons]at w;cases w with
  |cons a b =>
   cases a;exact .cons _ _ (ih _ b)
theorem Vt{l:OpenLaw}{n:Nat}(hn:l.most=some n){P:Params}{h:Heap}{args:List WData}{vals:List Value}
 (hpre:l.row.toRowW.claim.pre args=true)(hwl:WellAll P h vals args) :
  ∃a vs ns,vals=[Value.ref a]∧args=[WData.list (ns.map WData.int)]∧h.get? a=some { cls:=.type "list",data:=.seq vs.toArray}∧IntsAre vs ns∧ns.length≤n:=by
 have hsh:WShape.hasAll [] args [.list .int]=true:=(pre_splitW hpre).1;have hc:l.pre.holds [] { args:=args}=true:=(pre_splitW hpre).2;obtain⟨d,r,rfl,h1,h2⟩:=hasAllW_cons hsh;obtain rfl:=hasAllW_nil h2;obtain⟨xs,rfl,h3⟩:=hasW_list h1;obtain⟨ns,rfl⟩:=items_int h3;have hlen:ns.length≤n:=by
  unfold OpenLaw.pre at hc;have h4:(WTm.not (.lt (.lit (.int (n:Int))) (.len (.arg 0)))).holds [] { args:=[.list (ns.map .int)]}=true:=by
   have h4:=(holds_andW hc).1;rw[hn]at h4;exact h4
  have h5:=condW_of h4 (w_not (w_lt w_lit (w_len_list (w_arg rfl))));rw[List.length_map]at h5;refine Nat.le_of_not_lt fun q=>?_;have q':(n:Int)<((ns.length:Nat):Int):=by lia
  first
   |(rw[decide_eq_true q']at h5;exact absurd h5 (by decide))
   |(simp at h5;lia)
 cases hwl with
 |cons w1 w2 =>
  cases w2;cases w1 with
  |list ho hall=>exact⟨_,_,ns,rfl,rfl,ho,Mk ns _ hall,hlen⟩
theorem Vr(l:OpenLaw)(args:List WData):l.row.toRowW.claim.post args (.bool true) args=true :=
 postW_of (r:=l.row.toRowW) (X:=(true==true))
  (show WShape.has [] (.bool true) .bool=true by first|rfl|decide|simp[WShape.has,WShape.arms,WShape.armsAll])
  (show(WTm.eq .res (.lit (.bool true))).value [] { args:=args,res:=some (.bool true),after:=args}=some (.bool (true==true)) from w_eq_bool (w_res rfl) w_lit) rfl
theorem RK{l:OpenLaw}{n:Nat}{q:Program}{loose:List Str}{XP:(Str→Option Value)→Heap→Prop}{YP:World→Heap→Prop}{d:DefRec}
 (hn:l.most=some n)(hdf:d.params.defaults=[])
 (call:∀(w:World) (s₀ s₁:Shared) (mg mb:Str→Option Value) (fa:Addr) (o:Obj) (pm cd doc:Value) (a:Addr) (vs:List Value) (ns:List Int),
   Ground q loose [] XP w s₀ mg mb s₁.heap→YP w s₁.heap →
   s₁.heap.get? fa=some o→o.data=.func (docDef d.name d.params d.body d.scope pm cd doc)→s₁.heap.CodeRec cd d.name→mg d.name=some (.ref fa) →
   s₁.heap.get? a=some { cls:=.type "list",data:=.seq vs.toArray}→IntsAre vs ns→ns.length≤n→s₁.gens=#[] →
   codeAny (model l.prog w) callerA (.call (.ref fa) ⟨[.ref a],[]⟩) (fun r s'=>r=.ok (.ret (.bool true))∧OldK s₁.heap s'.heap∧s'.os=s₁.os∧AllBare s'.gens) s₁) :
  WalkO q loose XP YP l.row.toRowW d [] (fun f vs=>PySem.call f vs):=by
 intro w s₀ s₁ mg mb G Y fa o pm cd doc dV kV ho hd hcd hD hmg hg args vals as hpre hlay hrd hwl hlo;obtain rfl:dV=.none:=Dflts.none hD hdf;obtain rfl:kV=.none:=Dflts.noKw hD;obtain⟨a,vs,ns,rfl,rfl,hobj,hints,hlen⟩:=Vt hn hpre hwl;refine enter_call (codeAny_mono (call w s₀ s₁ mg mb fa o pm cd doc a vs ns G Y ho (fd_plain hd) hcd hmg hobj hints hlen hg) fun r s' hq=>?_);obtain⟨rfl,h2,h3,h4⟩:=hq;exact⟨.inl ⟨.bool true,.bool true,[],rfl,fun _=>rfl,.bool true,Vr l _,fun _=>⟨List.Pairwise.nil,fun _ hm=>(nomatch hm)⟩⟩,h2,h3,h4⟩
end Att
namespace L2
open PySem PySem.Spec PyProof.Rows
theorem Ny:∀ {vs:List Value} {ns:List Int},IntsAre vs ns→Vals (ns.map V.int) vs
 |_,_,.nil=>.nil
 |_,_,.cons n t h=>.cons ⟨t,rfl⟩ (Ny h)
def W6(H:Hp):Prop:=∀b,H b=none∨∃o xs,H b=some (.Hr o (.lst xs))
theorem Wn{P:Program}{w:World}{K:PySem.W.Frag}{mg mb:Str→Option Value}{CX:Hl}{k:Nat}{fa a:Addr}{fd:FuncData}{x:Str}{sp:Sp}{s₁:Shared}{vs:List Value}{ns:List Int}
 (KX:K.In s₁.heap)(hns:s₁.heap.Ns mainGlobals mg)(hb:s₁.heap.Ns builtinsNs mb)(hbb:∀x:Str,x ≠ "__name__" → mb x=bootBuiltins x)(hlim:s₁.heap.NoLimit)(hg:s₁.gens=#[])
 (ha:s₁.heap.get? a=some { cls:=.type "list",data:=.seq vs.toArray})(hi:IntsAre vs ns)(hl:ns.length≤sizeLine)(hr:C7 k callerA)(hkt:∀H,KTb mg H)
 (F:∀base:Heap,K.In base→base.Ns mainGlobals mg→AL P w K mg base CX k fa fd [x] sp)(hbind:∀(s:Shared) (u:Value),BindsTo s fd ⟨[u],[]⟩ [(x,u)])
 (hsp:∀H:Hp,W6 H→AQ K H a (ns.map V.int)→sp [.ref a] H (fun v _=>v=.bl true) fun _ _ _=>False)
 (hCX:∀H e s',CX [] H s₁ (fun _ _ _=>False) e s'→False) :
  codeAny (model P w) callerA (.call (.ref fa) ⟨[.ref a],[]⟩) (fun r s'=>r=.ok (.ret (.bool true))∧OldK s₁.heap s'.heap∧s'.os=s₁.os∧AllBare s'.gens) s₁:=by
 have rv:=Ny hi;have lenV:=hi.length;have core:∀H:Hp,W6 H→AQ K H a (ns.map V.int)→CN P w H s₁.heap→(∀b,H b≠none→b=a)→(H a≠none→K.lookup a=none) →
   codeAny (model P w) callerA (.call (.ref fa) ⟨[.ref a],[]⟩) (fun r s'=>r=.ok (.ret (.bool true))∧OldK s₁.heap s'.heap∧s'.os=s₁.os∧AllBare s'.gens) s₁:=by
  intro H hO hS Ah hA hK;have base_of:∀ {b:Addr} {o:Obj},s₁.heap.get? b=some o→H b=none→(JG s₁.heap H).get? b=some o:=fun e n=>XD e n;have noA:∀ {b:Addr} {o:Obj} {es:Array DictEntry} {ep:Nat},s₁.heap.get? b=some o→o.data=.dict es ep→H b=none:=fun {b o es ep} e d=>by
   cases q:H b with
   |none=>rfl
   |some u =>
    have e':b=a:=hA b (by rw[q];simp);subst e';rw[ha]at e;cases e;have d':Data.seq vs.toArray _=Data.dict es ep:=d;cases d'
  have nsK:∀ {b:Addr} {m:Str→Option Value},s₁.heap.Ns b m→(JG s₁.heap H).Ns b m:=fun {b m} ⟨o,es,ep,e,d,r⟩=>⟨o,es,ep,base_of e (noA e d),d,r⟩;have hKb:K.In (JG s₁.heap H):=fun b o e=>base_of (KX b o e) (by
   cases q:H b with
   |none=>rfl
   |some u =>
    have e':b=a:=hA b (by rw[q];simp);subst e';rw[hK (by rw[q];simp)]at e;cases e)
  have hM:Mod K mg (JG s₁.heap H):=⟨hKb,nsK hns,⟨mb,nsK hb,hbb⟩,let⟨mc,h1,h2⟩:=hlim;⟨mc,nsK h1,h2⟩⟩;have e0:TZ P w K mg (JG s₁.heap H) callerA [] s₁ H:=⟨rfl,hM,fun b o e=>Xx e,Nat.le_of_eq (VM _ _),trivial,fun b hb=>absurd (show b∈([]:List Addr) from hb) (by simp),Ah,.of_eq hg,hkt H⟩;refine codeAny_mono ((F _ hKb (nsK hns)).run callerA [] s₁ H ⟨[.ref a],[]⟩ [.ref a] [.ref a] _ _ hr e0 (hbind s₁ (.ref a)) (.cons rfl .nil) (hsp H hO hS)) fun r s' h=>?_;cases r with
  |error e=>exact(hCX H e s' h).elim
  |ok fl =>
   cases fl with
   |next=>exact False.elim h
   |brk=>exact False.elim h
   |cont=>exact False.elim h
   |ret u =>
    obtain⟨v,H',os,bare,un,hok',r',q⟩:=h;have q':v=.bl true:=q;subst q';obtain rfl:u=Value.bool true:=r';refine⟨rfl,OldK.of_keep fun b o e=>?_,os,bare⟩;cases q:H b with
    |none=>exact un.keep b o e q (by intro z;exact absurd (show b∈([]:List Addr) from z) (by simp)) (by simp)
    |some u =>
     rcases hO b with z|⟨ob,xs,z⟩
     ·rw[q]at z;cases z
     ·have z2:=un.Hv b ob _ z;obtain⟨e1,_⟩:=Ah b _ z;obtain⟨e2,_⟩:=hok' b _ z2;rw[e]at e1;cases e1;exact e2
 cases hk:K.lookup a with
 |some o =>
  have e:=KX a o hk;rw[ha]at e;cases e;refine core (fun _=>none) (fun _=>.inl rfl) (.inr ⟨_,vs.toArray,_,hk,rfl,rfl,rfl,by rw[List.size_toArray,lenV];exact hl,by simpa using rv⟩) (fun b u z=>by have z':(none:Option HO)=some u:=z;cases z') (fun b z=>absurd rfl z) fun z=>absurd rfl z
 |none =>
  refine core (fun b=>if b=a then some (.Hr { cls:=.type "list",data:=.seq vs.toArray} (.lst (ns.map V.int))) else none) (fun b=>?_) (.inl (.inr ⟨{ cls:=.type "list",data:=.seq vs.toArray},if_pos rfl⟩)) (fun b u z=>?_) (fun b z=>?_) fun _=>hk
  ·by_cases hb:b=a
   ·exact .inr ⟨_,_,if_pos hb⟩
   ·exact .inl (if_neg hb)
  ·by_cases hb:b=a
   ·have z':=(if_pos hb).symm.trans z;cases z';subst hb;exact⟨ha,by rw[List.length_map];exact hl,vs,_,rv,ha⟩
   ·have z':=(if_neg hb).symm.trans z;cases z'
  ·by_cases hb:b=a
   ·exact hb
   ·exact absurd (if_neg hb) z
theorem Xw{l:PySem.W.OpenLaw}{n k:Nat}{q:Program}{loose:List Str}{XP:(Str→Option Value)→Heap→Prop}{YP:World→Heap→Prop}{d:DefRec}{K:Params→PySem.W.Frag}{CX:World→Hl}{sp:World→Sp}{x:Str}
 (hn:l.most=some n)(hn2:n≤sizeLine)(hdf:d.params.defaults=[])(hr:C7 k callerA)(hkt:∀(w:World) (mg:Str→Option Value) (h:Heap),(K w.params).In h→h.Ns mainGlobals mg→∀H,KTb mg H)
 (hY:∀(w:World) (h:Heap),YP w h→(K w.params).In h)
 (F:∀(w:World) (mg:Str→Option Value) (fa:Addr) (h:Heap),(K w.params).In h→h.Ns mainGlobals mg→mg d.name=some (.ref fa) →
   ∃fd:FuncData,(∀(s:Shared) (u:Value),BindsTo s fd ⟨[u],[]⟩ [(x,u)]) ∧
    ∀base:Heap,(K w.params).In base→base.Ns mainGlobals mg→AL l.prog w (K w.params) mg base (CX w) k fa fd [x] (sp w))
 (hsp:∀(w:World) (H:Hp) (a:Addr) (ns:List Int),ns.length≤n→W6 H→AQ (K w.params) H a (ns.map V.int)→sp w [.ref a] H (fun v _=>v=.bl true) fun _ _ _=>False)
 (hCX:∀(w:World) (H:Hp) (s:Shared) (e:Value) (s':Shared),CX w [] H s (fun _ _ _=>False) e s'→False) :
  PySem.W.WalkO q loose XP YP l.row.toRowW d [] (fun f vs=>PySem.call f vs):=by
 refine Att.RK hn hdf fun w s₀ s₁ mg mb fa o pm cd doc a vs ns G Y ho hd hcd hmg hobj hints hlen hg=>?_;have KX:=hY w _ Y;obtain⟨fd,hb,hF⟩:=F w mg fa _ KX G.T.g hmg;exact Wn (hkt:=hkt w mg _ KX G.T.g) KX G.T.g G.T.b G.T.builtins G.T.nolimit hg hobj hints (aR hlen hn2) hr hF hb (fun H hO hS=>hsp w H a ns hlen hO hS) fun H e s'=>hCX w H s₁ e s'
abbrev Ac:Hl:=fun _ _ _ _ _ _=>False
abbrev E0:XK:=fun _ _ _=>False
theorem eD{X:Cx}:Passes Ac X E0:=fun _ _ _ _ _ _ _ h=>h.elim
structure SQ(K:PySem.W.Frag)(x qual:Str)(st:Stmt)(f:Addr)(fd:FuncData):Prop where
 ex:∃(oc:Value) (od:Option Addr) (kV doc pm:Value) (an:Option Addr) (cdv ct:Value) (osl:Array (Option Value)),
  fd=PySem.W.fnOf x qual (Ee st) (Cu st) (AM st) .none kV doc pm an cdv ct∧K.lookup f=some ⟨oc,od,.func fd,osl⟩∧PySem.W.codeIn K cdv qual=true
 kp:PySem.W.keepIn K (.ref f)=true
section
variable{P:Program}{w:World}{K:PySem.W.Frag}{mg:Str→Option Value}{base:Heap}
theorem SQ.ok{x qual:Str}{st:Stmt}{f:Addr}{fd:FuncData}{N ps:List Str}{k:Nat}{sp:Sp}(F:SQ K x qual st f fd)(S:Ad N ps (AM st))(len:∀vs H Q E,sp vs H Q E→vs.length=ps.length)
 (hbody:∀(cdv:Value) (A:Around) (outer:List Env) (s:Shared) (H:Hp) (vs:List V) (Q:VK) (E:XK),C7 k (A.deeper (envOfC qual (AM st) s.heap.objs.size f cdv))→sp vs H Q E →
   ∃t,HQ (KA Ac P w K mg base N qual (AM st) f cdv A outer s H E).Si (Cu st) t∧t { nx:=fun _ H'=>Q .BA H',rt:=Q} (start N vs) H):AL P w K mg base Ac (k+1) f fd ps sp:=by
 obtain⟨oc,od,kV,doc,pm,an,cdv,ct,osl,rfl,lk,hcd⟩:=F.ex;refine dD lk hcd S len fun A outer s H vs Q E hr hsp=>?_;obtain⟨t,h,q⟩:=hbody cdv A outer s H vs Q E hr hsp;exact⟨t,h.Si,q⟩
theorem SQ.binds{x qual:Str}{st:Stmt}{f:Addr}{fd:FuncData}{ps:List Str}(F:SQ K x qual st f fd)
 (h:∀(kV doc pm:Value) (an:Option Addr) (cdv ct:Value) (us:List Value),us.length=ps.length→bindArgs (PySem.W.fnOf x qual (Ee st) (Cu st) (AM st) .none kV doc pm an cdv ct) ⟨us,[]⟩=pure (ps.zip us)):Binds K fd ps []:=by
 obtain⟨oc,od,kV,doc,pm,an,cdv,ct,osl,rfl,lk,hcd⟩:=F.ex;exact .all (h kV doc pm an cdv ct)
theorem Us{x qual:Str}{st:Stmt}{f:Addr}{oc:Value}{od an:Option Addr}{osl:Array (Option Value)}{kV doc pm cdv ct:Value}(l:K.lookup f=some ⟨oc,od,.func (PySem.W.fnOf x qual (Ee st) (Cu st) (AM st) .none kV doc pm an cdv ct),osl⟩)
 (c:PySem.W.codeIn K cdv qual=true)(k:PySem.W.keepIn K (.ref f)=true):SQ K x qual st f (PySem.W.fnOf x qual (Ee st) (Cu st) (AM st) .none kV doc pm an cdv ct):=⟨⟨oc,od,kV,doc,pm,an,cdv,ct,osl,rfl,l,c⟩,k⟩
end
theorem Nu{n:Nat}(h:n≤1000):n<sizeLine:=aP h (by decide)
section
variable{X:Cx}
theorem pv(i:Nat){x:Str}{pos:Pos}(hN:X.N[i]? = some x:=by rfl)(hv:bj X.env.scope x:=by first|exact Or.inl rfl|exact Or.inr (Or.inl rfl)|exact Or.inr (Or.inr rfl))(hd:(x==("__debug__" : Str))=false:=by decide)
 (hcd:(x==("__classdict__" : Str))=false:=by decide):PE X (.Name x pos) (NI i):=Z3 hN hv hd hcd
end
theorem Cr{A B:Prop}(h:B):if false=true then A else B:=by
 rw[if_neg aJ];exact h
theorem BV{A B:Prop}(h:A):if true=true then A else B:=by
 rw[if_pos rfl];exact h
theorem BQ{c A B:Prop}[Decidable c](h1:c→A)(h2:¬c→B):if c then A else B:=by
 by_cases h:c
 ·rw[if_pos h];exact h1 h
 ·rw[if_neg h];exact h2 h
def AG(H H':Hp):Prop:=∀b o,H b=some o→H' b=some o
theorem AG.refl(H:Hp):AG H H:=fun _ _ h=>h
theorem AG.trans{H H1 H2:Hp}(a:AG H H1)(b:AG H1 H2):AG H H2:=fun c o h=>b c o (a c o h)
theorem AG.seq{K:PySem.W.Frag}{H H':Hp}{a:Addr}{xs:List V}(e:AG H H')(h:AQ K H a xs):AQ K H' a xs:=by
 rcases h with (h|⟨o,h⟩)|h
 ·exact .inl (.inl (e _ _ h))
 ·exact .inl (.inr ⟨o,e _ _ h⟩)
 ·exact .inr h
section
variable{X:Cx}
def K6(i j:Int):Prop:=∃m:Nat,m≤1000000∧i.natAbs<2^m∧j.natAbs<2^m
theorem K6.ok{i j:Int}(h:K6 i j):IntMulOk i j:=by
 obtain⟨m,hm,h1,h2⟩:=h;exact IntMulOk.of_le (intBits_le_iff.mpr h1) (intBits_le_iff.mpr h2) (by lia)
theorem BS:B9 X (binaryOp .Mult) (rI (fun i j=>Ng i j∨K6 i j) fun i j=>.int (i*j)) :=
 SI fun _ _ _ _ _ _ _ hc q=>mul_int q (hc.elim (fun z=>z.ok) fun z=>z.ok)
def eL(_i j:Int):Prop:=j≠0∧∃m:Nat,m≤9000∧j.natAbs<2^m
theorem C9:B9 X (binaryOp .FloorDiv) (rI eL fun i j=>.int (i.fdiv j)):=SI fun i j _ _ _ _ _ hc q=>by
 obtain⟨h0,m,hm,h1⟩:=hc;refine floordiv_int h0 q (.inl (PyProof.noPylong_of_log2 ?_));have hne:j.natAbs≠0:=by lia
 have:j.natAbs.log2<m:=(Nat.log2_lt hne).mpr h1
 lia
mutual
def Br(K:PySem.W.Frag)(H:Hp):PyData→V→Prop
 |.none,v=>v=.BA
 |.bool b,v=>v=.bl b
 |.int i,v=>v=.int i
 |.str x,v=>v=.str x
 |.tuple ds,v=>∃a xs,v=.ref a∧Ap K H a xs∧DH K H ds xs
 |.list ds,v=>∃a xs,v=.ref a∧AQ K H a xs∧DH K H ds xs
 |.dict _,_=>False
def DH(K:PySem.W.Frag)(H:Hp):List PyData→List V→Prop
 |[],xs=>xs=[]
 |d::ds,xs=>∃x r,xs=x::r∧Br K H d x∧DH K H ds r
end
mutual
theorem Br.reads{pins:List (Addr×Obj)}{σ:St}{H:Hp}{s:Shared}(I:Inv X pins σ H s):∀ {d:PyData} {v:V} {u:Value},Br X.K H d v→RelV v u→∃as,Reads s.heap u d as
 |.none,_,u,h,r=>by rw[Br]at h;subst h;cases r;exact⟨_,.none⟩
 |.bool b,_,u,h,r=>by rw[Br]at h;subst h;cases r;exact⟨_,.bool b⟩
 |.int i,_,u,h,r=>by rw[Br]at h;subst h;obtain⟨t,rfl⟩:=r;exact⟨_,.int i t⟩
 |.str x,_,u,h,r=>by rw[Br]at h;subst h;obtain⟨t,rfl⟩:=r;exact⟨_,.str x t⟩
 |.tuple ds,_,u,h,r=>by
  rw[Br]at h;obtain⟨a,xs,e1,h1,h2⟩:=h;subst e1;cases r;obtain⟨its,rv,⟨o,e,c,n,hd⟩,_⟩:=I.tuple h1;obtain⟨as,ra⟩:=DH.reads I h2 rv;exact⟨_,.tuple e c hd (by simpa using ra)⟩
 |.list ds,_,u,h,r=>by
  rw[Br]at h;obtain⟨a,xs,e1,h1,h2⟩:=h;subst e1;cases r;obtain⟨its,rv,⟨o,n,e,c,_,hd⟩,_⟩:=I.list h1;obtain⟨as,ra⟩:=DH.reads I h2 rv;exact⟨_,.list e c hd (by simpa using ra)⟩
 |.dict _,_,_,h,_=>by rw[Br]at h;exact h.elim
theorem DH.reads{pins:List (Addr×Obj)}{σ:St}{H:Hp}{s:Shared}(I:Inv X pins σ H s):∀ {ds:List PyData} {xs:List V} {us:List Value},DH X.K H ds xs→Vals xs us→∃as,ReadsAll s.heap us ds as
 |[],_,us,h,r=>by rw[DH]at h;subst h;cases r;exact⟨_,.nil⟩
 |_::_,_,us,h,r=>by
  rw[DH]at h;obtain⟨x,q,e1,h1,h2⟩:=h;subst e1;cases r with
  |cons r1 r2 =>
   obtain⟨as,ra⟩:=Br.reads I h1 r1;obtain⟨bs,rb⟩:=DH.reads I h2 r2;exact⟨_,.cons ra rb⟩
end
def XB(K:PySem.W.Frag)(neg:Bool):R2:=fun x y H Q=>∃d e,Br K H d x∧Br K H e y∧SeqAt.shaped d=true∧SeqAt.shaped e=true∧Q (.bl (if neg then !PyData.eqv d e else PyData.eqv d e)) H
theorem Zi(hu:X.A.units+64<cLine):B9 X (compareOp .Eq) (XB X.K false):=by
 intro pins s σ H x y v u Q I rx ry h;obtain⟨d,e,h1,h2,s1,s2,q⟩:=h;obtain⟨as,ra⟩:=Br.reads I h1 rx;obtain⟨bs,rb⟩:=Br.reads I h2 ry;exact eq_dataH ra rb s1 s2 hu ⟨.bl _,H,I,rfl,q⟩
theorem QP(hu:X.A.units+64<cLine):B9 X (compareOp .NotEq) (XB X.K true):=by
 intro pins s σ H x y v u Q I rx ry h;obtain⟨d,e,h1,h2,s1,s2,q⟩:=h;obtain⟨as,ra⟩:=Br.reads I h1 rx;obtain⟨bs,rb⟩:=Br.reads I h2 ry;exact ne_dataH ra rb s1 s2 hu ⟨.bl _,H,I,rfl,q⟩
end
def JA(X:Cx)(ifs:List Expr)(t:TT):Prop :=
 ∀(pins:List (Addr×Obj)) (s:Shared) (σ:St) (H:Hp) (Q:Bool→Hp→Prop),Inv X pins σ H s→t σ H Q →
  wpAny (model X.prog X.w) X.A (forIn ifs true fun c r=>if r=true then do let ok ←isTrue c X.env (eval c X.env);pure (ForInStep.yield ok) else pure (ForInStep.yield r)) (TP X pins σ Q) X.xe s
def Cq:TT:=fun _ H Q=>Q true H
theorem Bl{X:Cx}:JA X [] Cq:=fun _ _ σ H _ I h=>wpAny_tests_nil ⟨H,I,h⟩
def DZ(N XN:List Str)(sc xsc:Scope):List (Option Nat)→Nat→Bool
 |[],_=>true
 |none::r,i=>DZ N XN sc xsc r (i+1)
 |some j::r,i=>(match N[i]?,XN[j]? with
   |some n,some m=>n==m&&sc.names.lookup n==some .free&&xsc.names.lookup n==some .cell
   |_,_=>false)&&DZ N XN sc xsc r (i+1)
theorem MA{N XN:List Str}{sc xsc:Scope}:∀ {fr:List (Option Nat)} {k:Nat},DZ N XN sc xsc fr k=true→∀ {i j:Nat},fr[i]? = some (some j) →
  ∃n,N[k+i]? = some n∧XN[j]? = some n∧sc.names.lookup n=some .free∧xsc.names.lookup n=some .cell
 |[],_,_,i,j,e=>by simp at e
 |none::r,k,h,0,j,e=>by simp at e
 |none::r,k,h,i+1,j,e=>by
  have q:=MA (fr:=r) (k:=k+1) h (i:=i) (j:=j) (by simpa using e);have z:k+(i+1)=k+1+i:=by lia
  rw[z];exact q
 |some j'::r,k,h,0,j,e=>by
  have e':j'=j:=by simpa using e
  subst e';rw[DZ,Bool.and_eq_true]at h;have h1:=h.1;split at h1
  ·rename_i n m hn hm;simp only[Bool.and_eq_true,beq_iff_eq]at h1;obtain⟨⟨rfl,h2⟩,h3⟩:=h1;exact⟨n,by simpa using hn,hm,h2,h3⟩
  ·cases h1
 |some j'::r,k,h,i+1,j,e=>by
  rw[DZ,Bool.and_eq_true]at h;have q:=MA (fr:=r) (k:=k+1) h.2 (i:=i) (j:=j) (by simpa using e);have z:k+(i+1)=k+1+i:=by lia
  rw[z];exact q
def carry(fr:List (Option Nat))(σ:St):St:=fr.map fun o=>match o with
 |some j=>(σ[j]?).join
 |none=>none
theorem Vx{fr:List (Option Nat)}{σ:St}{i:Nat}{v:V}(h:(carry fr σ)[i]? = some (some v)):∃j,fr[i]? = some (some j)∧σ[j]? = some (some v):=by
 unfold carry at h;rw[List.getElem?_map]at h;cases e:fr[i]? with
 |none=>rw[e]at h;cases h
 |some o =>
  rw[e]at h;cases o with
  |none=>simp at h
  |some j =>
   refine⟨j,rfl,?_⟩;simp only[Option.map_some,Option.some.injEq]at h;cases q:σ[j]? with
   |none=>rw[q]at h;cases h
   |some w=>rw[q]at h;simp at h;rw[h]
theorem Ec{env:Env}:∀(names:List (Str×NameKind)) (cs:List (Str×Addr)),(∀x∈names,x.2=NameKind.free→∃c,env.cells.lookup x.1=some c)→(∀x c,cs.lookup x=some c→env.cells.lookup x=some c) →
  ∃cl,(forIn names cs (fun(x:Str×NameKind) (r:List (Str×Addr))=>do if(x.2==NameKind.free)=true then do let a ←cellOf env x.1;pure (ForInStep.yield ((x.1,a)::r)) else pure (ForInStep.yield r)):Sem (List (Str×Addr)))=pure cl ∧
   (∀x c,cl.lookup x=some c→env.cells.lookup x=some c)∧(∀x,(∃c,cs.lookup x=some c)→∃c,cl.lookup x=some c)∧∀x∈names,x.2=NameKind.free→∃c,cl.lookup x.1=some c
 |[],cs,_,h2=>⟨cs,rfl,h2,fun _ q=>q,fun _ z=>(by cases z)⟩
 |(n,k)::r,cs,h1,h2=>by
  rw[List.forIn_cons];by_cases hk:(k==NameKind.free)=true
  ·obtain⟨c,hc⟩:=h1 (n,k) aa (by simpa using hk);have h2':∀x c',((n,c)::cs).lookup x=some c'→env.cells.lookup x=some c':=fun x c' e=>by
    rw[List.lookup_cons]at e;cases hx:x==n with
    |true=>rw[hx]at e;have:=beq_iff_eq.mp hx;subst this;simp at e;rw[←e];exact hc
    |false=>rw[hx]at e;exact h2 x c' e
   obtain⟨cl,q1,q2,q3,q4⟩:=Ec r ((n,c)::cs) (fun x hx=>h1 x (aV _ hx)) h2';have hn:∃c',cl.lookup n=some c':=q3 n ⟨c,by rw[List.lookup_cons,beq_self_eq_true]⟩;refine⟨cl,?_,q2,fun x hx=>?_,fun x hx hf=>?_⟩
   ·simp only[hk,if_true];unfold cellOf;rw[hc];exact q1
   ·refine q3 x ?_;rw[List.lookup_cons];cases hxn:x==n with
    |true=>exact⟨c,rfl⟩
    |false=>exact hx
   ·rcases aS.mp hx with e|hx
    ·subst e;exact hn
    ·exact q4 x hx hf
  ·obtain⟨cl,q1,q2,q3,q4⟩:=Ec r cs (fun x hx=>h1 x (aV _ hx)) h2;refine⟨cl,?_,q2,q3,fun x hx hf=>?_⟩
   ·simp only[hk];exact q1
   ·rcases aS.mp hx with e|hx
    ·subst e;exact absurd (by simpa using hf) hk
    ·exact q4 x hx hf
def Ak(X:Cx)(scope:Scope)(cl:List (Str×Addr))(N:List Str)(C:Addr)(s₀:Shared)(H₀:Hp)(fp:List Addr):Cx where
 prog:=X.prog
 w:=X.w
 K:=X.K
 mg:=X.mg
 base:=X.base
 A:=X.A
 N:=N
 s₀:=s₀
 H₀:=H₀
 env:=compEnvC scope cl C X.env
 outer:=X.stack
 stack:=X.stack
 ex:=fp
 fn:=fun _=>false
 calm:=X.calm
 pn:=[]
 xe:=fun _ _=>False
def K1(wi:TI)(fr:List (Option Nat))(ix:Nat)(tif:TT)(te:TE):TE:=fun σ H Q=>wi σ H fun J H1=>∀D,H1 D=none→∃W:Nat→Nat→List V→Hp→Prop,(∃m,W 0 m [] (upd H1 D (.lst []))) ∧
 ∀i m ys H,W i m ys H→H D=some (.lst ys)∧((J.stop i H∧Q (.ref D) H)∨(J.go i H∧ys.length<sizeLine∧∀x H',J.Df i H x H' →
  tif ((carry fr σ).set ix (some x)) H' fun b H2=>if b=true then te ((carry fr σ).set ix (some x)) H2 fun y H3=>H3 D=some (.lst ys)∧∃m',m'<m∧W (i+1) m' (ys++[y]) (upd H3 D (.lst (ys++[y])))
   else ∃m',m'<m∧W (i+1) m' ys H2))
structure CK(scope:Scope)(N:List Str)(x:Str)(ix:Nat):Prop where
 kind:scope.kind=.function
 cell:∀y∈scope.names,y.2≠.cell
 names:∀y∈scope.names,y.2=.local→scope.names.lookup y.1=some .local
 free:∀y∈scope.names,y.2=.free→scope.names.lookup y.1=some .free
 loc:scope.names.lookup x=some .local
 nd:N.Nodup
 at_:N[ix]? = some x
theorem lookup_mem{names:List (Str×NameKind)}{n:Str}{k:NameKind}:names.lookup n=some k→(n,k)∈names:=by
 induction names with
 |nil=>intro h;cases h
 |cons y r ih =>
  intro h;obtain⟨m,j⟩:=y;rw[List.lookup_cons]at h;cases e:n==m with
  |true=>rw[e]at h;have:=beq_iff_eq.mp e;subst this;simp at h;subst h;exact aa
  |false=>rw[e]at h;exact aV _ (ih h)
theorem QD{scope:Scope}{env:Env}(hc:∀y∈scope.names,y.2≠.cell){n:Str}(h:(relabel scope env).names.lookup n=some .cell∨(relabel scope env).names.lookup n=some .free):∃k,(n,k)∈scope.names∧k=NameKind.free:=by
 have key:∀k',(relabel scope env).names.lookup n=some k'→(k'=.cell∨k'=.free)→∃k,(n,k)∈scope.names∧k=NameKind.free:=fun k' h hk=>by
  have hm:=lookup_mem h;unfold relabel at hm;obtain⟨⟨m,k⟩,hy,e⟩:=aQ.mp hm;dsimp only at e;by_cases hcond:(k==NameKind.free&&env.scope.kind==.function&&env.kindOf m==some .cell)=true
  ·rw[if_pos hcond]at e
   injection e with e1 e2
   subst e1;refine⟨k,hy,?_⟩;simp only[Bool.and_eq_true,beq_iff_eq]at hcond;exact hcond.1.1
  ·rw[if_neg hcond]at e
   injection e with e1 e2
   subst e1 e2;rcases hk with rfl|rfl
   ·exact absurd rfl (hc _ hy)
   ·exact⟨_,hy,rfl⟩
 rcases h with h|h
 ·exact key _ h (.inl rfl)
 ·exact key _ h (.inr rfl)
section
variable{X:Cx}{elt iter:Expr}{x:Str}{px pos:Pos}{ifs:List Expr}{scope:Scope}{wi:TI}{fr:List (Option Nat)}{ix:Nat}{tif:TT}{te:TE}{N:List Str}
theorem IA{prog:Program}{w:World}{A:Around}{R:Result→Shared→Prop}{s:Shared}{elt target iter:Expr}{ifs:List Expr}{scope:Scope}{pos:Pos}{it acc:Value}{env:Env}(I:Nat→Shared→Prop)
 (turn:∀n s,I n s→wpAny (model prog w) A (pyNext it) (fun r s₁=>match r with
   |none=>R (.ok .next) s₁
   |some v=>wpAny (model prog w) A (letOwnedTupleGo target it v>>=fun _=>assign target env v) (fun _ s₂ =>
     wpAny (model prog w) A (forIn ifs true fun c r=>if r=true then do let ok ←isTrue c env (eval c env);pure (ForInStep.yield ok) else pure (ForInStep.yield r)) (fun ok s₃ =>
      if ok=true then wpAny (model prog w) A (eval elt env) (fun x s₄ =>
       wpAny (model prog w) A (call (.builtin "list.append") [acc,x]) (fun _ s₅=>∃m,m<n∧I m s₅) (notedBy (model prog w) A env fun e s'=>R (.error e) s') s₄) (notedBy (model prog w) A env fun e s'=>R (.error e) s') s₃
      else ∃m,m<n∧I m s₃) (notedBy (model prog w) A env fun e s'=>R (.error e) s') s₂) (notedBy (model prog w) A env fun e s'=>R (.error e) s') s₁) (notedBy (model prog w) A env fun e s'=>R (.error e) s') s)
 (n:Nat)(h:I n s) :
  codeAny (model prog w) A (.compLoop (.ListComp elt [⟨target,iter,ifs,0⟩] scope pos) 0 it acc env) R s:=by
 refine codeAny_loop rfl I (fun n s hI=>?_) n h;show wpAny _ A ((compTurn (.ListComp elt [⟨target,iter,ifs,0⟩] scope pos) 0 it acc env).onRaise (fun x=>do noteFrame x env;theTreesLotGoes x)) _ _ s;refine wpAny_noted ?_;rw[compTurn_list];refine aA (wpAny_standAt (aA (ab (turn n s hI) (fun r s₁ h₁=>?_) fun _ _ h'=>h')));cases r with
 |none=>exact aB h₁
 |some v =>
  show wpAny (model prog w) A (letOwnedTupleGo target it v>>=fun _=>assign target env v>>=_) _ _ s₁;rw[←bind_assoc];refine aA (ab h₁ (fun _ s₂ h₂=>aA (ab h₂ (fun ok s₃ h₃=>?_) fun _ _ h'=>h')) fun _ _ h'=>h');cases ok with
  |false=>exact aB ⟨rfl,h₃⟩
  |true =>
   exact aA (aA (ab h₃ (fun x s₄ h₄=>aA (ab h₄ (fun _ s₅ h₅=>aB (aB ⟨rfl,h₅⟩)) fun _ _ h'=>h')) fun _ _ h'=>h'))
theorem LJ{pins:List (Addr×Obj)}{σ:St}{H2:Hp}{s2:Shared}{Q:VK}{it:Addr}{fp:List Addr}{tn:Nat→Heap→Prop}{J:It}{cl:List (Str×Addr)}{E:Value→Shared→Prop}{RR:Value→Addr→Result→Shared→Prop}
 (S:CK scope N x ix)(hcalm:X.calm=true){tgE:Expr}{g:TG}(Rv:St→Prop)(r0:Rv (carry fr σ))(hpg:∀C,PG (Ak X scope cl N C s2 H2 fp) tgE g)(hfr:DZ N X.N scope X.env.scope fr 0=true)(hlen:fr.length=N.length)
 (hif:∀cl C s₀ H₀ fp,JA (Ak X scope cl N C s₀ H₀ fp) ifs tif)(he:∀cl C s₀ H₀ fp,PE (Ak X scope cl N C s₀ H₀ fp) elt te)
 (I2:Inv X pins σ H2 s2)(T:Turn X.prog X.w X.K tgE J fp it tn)(st2:tn 0 s2.heap)(f2:∀b∈fp,IV X pins H2 b)
 (c1:∀x c,cl.lookup x=some c→X.env.cells.lookup x=some c)(c2:∀x∈scope.names,x.2=NameKind.free→∃c,cl.lookup x.1=some c)
 (W:∀D,H2 D=none→∃W:Nat→Nat→List V→Hp→Prop,(∃m,W 0 m [] (upd H2 D (.lst []))) ∧
   ∀i m ys H,W i m ys H→H D=some (.lst ys)∧((J.stop i H∧Q (.ref D) H)∨(J.go i H∧ys.length<sizeLine∧∀x H',J.Df i H x H'→∀σ',Rv σ'→g x σ' H' fun σ6 H6=>Rv σ6 ∧
    tif σ6 H6 fun b H2=>if b=true then te σ6 H2 fun y H3=>H3 D=some (.lst ys)∧∃m',m'<m∧W (i+1) m' (ys++[y]) (upd H3 D (.lst (ys++[y])))
     else ∃m',m'<m∧W (i+1) m' ys H2)))
 (fin:∀(D C:Addr) (s':Shared) (H':Hp) m,s'.heap.Ns C m→Q (.ref D) H'→(∀h',Heap.SameBut C s'.heap h'→Inv X pins σ H' { s' with heap:=h'})→C≠D→(∀b o,s2.heap.get? b=some o→b≠C)→H' C=none→s2.heap.objs.size≤C→RR (.ref D) C (.ok .next) s') :
  wpAny (model X.prog X.w) X.A (newList []) (fun acc s₃=>wpAny (model X.prog X.w) X.A (newFunctionEnv scope X.env.globals cl [] X.env.qual none .none (some X.env)) (fun cenv s₄ =>
   codeAny (model X.prog X.w) X.A (.compStart (.ListComp elt [⟨tgE,iter,ifs,0⟩] scope pos) 0 (.ref it) acc {cenv with scope:=relabel scope X.env}) (RR acc cenv.locals) s₄) E s₃) E s2:=by
 refine aX (wpAny_newFunctionEnv S.cell (by intro y hy;simp at hy) (fun h₁ hns₁ hsb₁=>?_) S.kind);dsimp only at hns₁ hsb₁ ⊢;generalize hHp:s2.heap.push { cls:=.type "list",dict:=none,data:=.seq ([]:List Value).toArray}=Hq at hns₁ hsb₁ ⊢;have hC:Hq.objs.size=s2.heap.objs.size+1:=by rw[←hHp,Heap.size_push]
 have hDC:s2.heap.objs.size≠Hq.objs.size:=by rw[hC];exact aN (Nat.lt_succ_self _)
 have below:∀b,b<s2.heap.objs.size→b≠Hq.objs.size∧b≠s2.heap.objs.size:=fun b hb=>⟨by rw[hC];exact aN (bQ hb),Nat.ne_of_lt hb⟩;have old:∀b o,s2.heap.get? b=some o→h₁.get? b=some o:=fun b o e=>hsb₁.extBut b o (below b (aE e)).1 (aD _ (hHp ▸ aD _ e));have hacc:h₁.get? s2.heap.objs.size=some { cls:=.type "list",data:=.seq ([]:List Value).toArray}:=hsb₁.extBut _ _ hDC (aD _ (hHp ▸ aT _ rfl));have hD2:H2 s2.heap.objs.size=none:=I2.Ah.fresh (aG _);have hC2:H2 Hq.objs.size=none:=I2.Ah.fresh (by rw[hC];exact Nat.le_succ _);have fpo:∀b∈fp,b<s2.heap.objs.size:=fun b hb=>by
  obtain⟨o,e,_⟩:=T.obj _ _ st2 b hb;exact aE e
 obtain⟨W,⟨m0,w0⟩,turn⟩:=W s2.heap.objs.size hD2;have ok:(Ak X scope cl N Hq.objs.size s2 H2 fp).Ok:=by
  refine⟨I2.ok.mod,S.kind,I2.ok.glob,I2.ok.blt,by show s2.heap.objs.size≤Hq.objs.size;rw[hC];exact Nat.le_succ _,?_,?_,?_,fun _=>I2.ok.hd hcalm,I2.ok.frames,.inl rfl,?_,I2.bs,Nat.le_trans I2.ok.OX I2.sz,?_,?_,I2.stack,I2.Rm,I2.kt⟩
  ·exact fun a b c h1 h2=>I2.ok.inj a b c (c1 _ _ h1) (c1 _ _ h2)
  ·intro y hy;obtain⟨k,hm,rfl⟩:=QD S.cell hy;exact c2 _ hm rfl
  ·intro y c hf;cases hf
  ·intro b hb;refine⟨(below b (fpo b hb)).1,fun y c e=>?_⟩;obtain⟨_,_,_,_,f5,_⟩:=f2 b hb;exact f5 y c (c1 _ _ e)
  ·intro b o e hb;obtain⟨_,_,_,f4,_,_⟩:=f2 b hb;rcases f4 with z|z
   ·exact I2.ok.Pj b o e z
   ·exact absurd (aO (aE e) (aR I2.ok.OX z)) (Nat.lt_irrefl _)
  ·intro b hb hs;obtain⟨_,f1,f3,_⟩:=f2 b hb;rcases aS.mp (I2.O8 b hs) with z|z
   ·exact f1 z
   ·exact f3 z
 have I4:Inv (Ak X scope cl N Hq.objs.size s2 H2 fp) [] (carry fr σ) (upd H2 s2.heap.objs.size (.lst [])) {s2 with heap:=h₁,toks:=s2.toks+([]:List (Str×Value)).length}:=by
  refine⟨ok,rfl,I2.bare,Un.laid old (aG _) hD2,⟨_,hns₁,fun i y v h1 h2 h3=>?_⟩,fun y c e=>?_,?_,fun y c e=>?_,fun p hp=>(by cases hp),I2.Ah.laid old (aG _) ⟨ak _,[],0,.nil,hacc⟩,?_⟩
  ·obtain⟨j,e1,e2⟩:=Vx h2;obtain⟨n,n1,n2,n3,n4⟩:=MA hfr e1;rw[Nat.zero_add]at n1;have:y=n:=by
    have h1':N[i]? = some y:=h1;rw[h1']at n1;exact aW n1
   subst this;obtain⟨m,hn,hl⟩:=I2.loc;obtain⟨u,ru,lk⟩:=hl j y v n2 e2 (.inr (.inl n4));refine⟨u,ru,?_⟩;obtain⟨c,hc⟩:=c2 _ (lookup_mem n3) rfl;rcases lk with ⟨k1,_⟩|⟨_,c',hc',hcell⟩
   ·have k1':X.env.scope.names.lookup y=some .local:=k1;rw[n4]at k1';cases k1'
   ·have:=c1 _ _ hc;rw[hc']at this;cases this;refine .inr ⟨?_,c,hc,hcell.keeps old⟩;rcases h3 with z|z|z
    ·obtain⟨k,hm⟩:∃k,(y,k)∈scope.names∧k=NameKind.local:=by
      have hm:=lookup_mem z;have hm':(y,NameKind.local)∈(relabel scope X.env).names:=hm;unfold relabel at hm';obtain⟨⟨m',k⟩,hy,e⟩:=aQ.mp hm';dsimp only at e;by_cases hcond:(k==NameKind.free&&X.env.scope.kind==.function&&X.env.kindOf m'==some .cell)=true
      ·rw[if_pos hcond]at e;injection e with _ e2';cases e2'
      ·rw[if_neg hcond]at e;injection e with e1' e2';subst e1' e2';exact⟨_,hy,rfl⟩
     obtain⟨hm,rfl⟩:=hm;have:=S.names _ hm rfl;rw[n3]at this;cases this
    ·exact .inl z
    ·exact .inr z
  ·obtain⟨v,z⟩:=I2.cell y c (c1 _ _ e);exact⟨v,z.keeps old⟩
  ·show upd H2 s2.heap.objs.size _ Hq.objs.size=none;rw[AE (Ne.symm hDC)];exact hC2
  ·obtain⟨v,o,ho,_⟩:=I2.cell y c (c1 _ _ e);rw[AE (below c (aE ho)).2];exact I2.GF y c (c1 _ _ e)
  ·show(carry fr σ).length=N.length;unfold carry;rw[List.length_map];exact hlen
 have fpX:∀(p:List (Addr×Obj)) (H':Hp),(∀q∈p,q.1∈fp→False)→(∀b∈fp,H' b=none)→∀b∈fp,IV (Ak X scope cl N Hq.objs.size s2 H2 fp) p H' b:=fun p H' hp hn b hb=>by
  obtain⟨_,f1,f3,f4,f5,_⟩:=f2 b hb;refine⟨hn b hb,(below b (fpo b hb)).1,fun hs=>ok.Qy b hb hs,.inl hb,fun y c e=>f5 y c (c1 _ _ e),fun q hq e=>?_⟩;exact hp q hq (e ▸ hb)
 have hxv:(relabel scope X.env).names.lookup x=some .local:=lookup_relabel_local S.loc;have loop:∀s₃:Shared,s₃={s2 with heap:=h₁,toks:=s2.toks+([]:List (Str×Value)).length} →
   codeAny (model X.prog X.w) X.A (.compLoop (.ListComp elt [⟨tgE,iter,ifs,0⟩] scope pos) 0 (.ref it) (.ref s2.heap.objs.size) (compEnvC scope cl Hq.objs.size X.env)) (RR (.ref s2.heap.objs.size) Hq.objs.size) s₃:=by
  rintro s₃ rfl;refine IA (fun n s'=>∃i ys σ' H',Inv (Ak X scope cl N Hq.objs.size s2 H2 fp) [] σ' H' s'∧Rv σ'∧tn i s'.heap∧(∀b∈fp,H' b=none)∧W i n ys H') ?_ m0
   ⟨0,[],carry fr σ,_,I4,r0,T.keep _ _ _ st2 fun b _ o e=>old b o e,fun b hb=>by rw[AE (below b (fpo b hb)).2];exact(f2 b hb).1,w0⟩
  rintro n s3 ⟨i,ys,σ3,H3,I3,hσ,st3,fr3,w3⟩;obtain⟨hD3,way⟩:=turn i n ys H3 w3;rcases way with ⟨stop,qn⟩|⟨go,hsz,step⟩
  ·refine ab (T.done (Ak X scope cl N Hq.objs.size s2 H2 fp) rfl rfl rfl hcalm i [] s3 σ3 H3 (fun _ _=>False) I3 (fpX [] H3 (fun _ z=>by cases z) fr3) st3 stop) (fun r s4 ⟨hr,I5⟩=>?_) fun _ _ z=>z.elim;subst hr;obtain⟨m,hn,_⟩:=id I5.loc;refine fin _ _ s4 H3 m hn qn (fun h' hs'=>?_) (Ne.symm hDC) (fun b o e=>(below b (aE e)).1) I5.free (by rw[hC];exact Nat.le_succ _);have nC:∀b u,H3 b=some u→b≠Hq.objs.size:=fun b u e z=>by
    have:=I5.free;rw[show(Ak X scope cl N Hq.objs.size s2 H2 fp).env.locals=Hq.objs.size from rfl,←z,e]at this;cases this
   have keepU:Un (Jk X.stack) fp H2 H3 s2.heap h':=by
    have u:=I5.base;refine⟨fun b o e n hb hx=>?_,fun b o e n hb hx=>?_,fun b o e n hx=>u.free b o e n hx,fun b o e hx=>?_,u.Fz,u.Hv,u.JZ,fun b xs o q e hx=>(hs'.2 b (below b (aE e)).1).trans (u.JK b xs o q e hx)⟩
    ·exact(hs'.2 b (below b (aE e)).1).trans (u.keep b o e n hb hx)
    ·obtain⟨sl,e1⟩:=u.slot b o e n hb hx;exact⟨sl,(hs'.2 b (below b (aE e)).1).trans e1⟩
    ·obtain⟨o',e1⟩:=u.there b o e hx;exact⟨o',(hs'.2 b (below b (aE e)).1).trans e1⟩
   have hok':CN X.prog X.w H3 h':=fun b u e=>(I5.Ah b u e).Gq (fun c v hc q=>(hs'.2 c (by
    rcases hc with rfl|hc
    ·exact nC _ _ e
    ·exact nC _ _ hc)).trans q) (fun _ q=>q) fun _ _ q=>q
   refine I2.eO (s':={s4 with heap:=h'}) (ch:=fp) I5.os keepU hok' I5.bare fun b hb=>?_;obtain⟨_,f1,_,f4,f5,f6⟩:=f2 b hb;exact⟨f4,f1,f5,f6⟩
  ·refine ab (T.item (Ak X scope cl N Hq.objs.size s2 H2 fp) rfl rfl rfl hcalm i [] s3 σ3 H3 (fun _ _=>False) I3 (fpX [] H3 (fun _ z=>by cases z) fr3) st3 go) (fun r s4 ⟨u,hr,h4⟩=>?_) fun _ _ z=>z.elim;subst hr;show wpAny (model X.prog X.w) X.A (letOwnedTupleGo tgE (.ref it) u>>=fun _=>assign tgE (compEnvC scope cl Hq.objs.size X.env) u) _ _ s4;refine aA (ab h4 (fun _ s5 ⟨xv,H5,I5,r5,y5,st5,fr5⟩=>?_) fun _ _ z=>z.elim);have I5':=I5.pinned (fpX [] H5 (fun _ z=>by cases z) fr5) (T.obj _ _ st5);refine ab (hpg _ _ s5 σ3 H5 xv u _ I5' r5 (step xv H5 y5 σ3 hσ)) (fun _ s6 ⟨σ6,H6,I6,rv6,step5⟩=>?_) fun _ _ z=>z.elim;refine ab (hif _ _ _ _ _ _ s6 _ H6 _ I6 step5) (fun b s7 ⟨H7,I7,q7⟩=>?_) fun _ _ z=>z.elim;have again:∀ {s8:Shared} {H8:Hp} {k:Nat} {zs:List V},Inv (Ak X scope cl N Hq.objs.size s2 H2 fp) ([]++KH fp s5.heap) σ6 H8 s8→W (i+1) k zs H8→k<n →
     ∃m,m<n∧∃i ys σ' H',Inv (Ak X scope cl N Hq.objs.size s2 H2 fp) [] σ' H' s8∧Rv σ'∧tn i s8.heap∧(∀b∈fp,H' b=none)∧W i m ys H':=fun {s8 H8 k zs} I8 w8 hk=>by
    refine⟨k,hk,i+1,zs,_,H8,I8.JI,rv6,T.keep _ _ _ st5 fun b hb o e=>(I8.pin (b,o) (ag _ (ag _ (HC hb e)))).1,fun b hb=>?_,w8⟩;obtain⟨o,e,d⟩:=T.obj _ _ st5 b hb;exact(I8.pin (b,o) (ag _ (ag _ (HC hb e)))).2.1
   cases b with
   |false =>
    rw[if_neg aJ]at q7 ⊢;obtain⟨k,hk,w7⟩:=q7;exact again I7 w7 hk
   |true =>
    rw[if_pos rfl]at q7 ⊢;refine ab (he _ _ _ _ _ _ s7 _ H7 _ I7 q7) (fun yv s8 ⟨y,H8,I8,r8,hD8,k,hk,w8⟩=>?_) fun _ _ z=>z.elim;refine ab (FK (X:=Ak X scope cl N Hq.objs.size s2 H2 fp) _ s8 _ H8 (.ref s2.heap.objs.size) [y] (.ref s2.heap.objs.size) [yv] (fun _ H9=>H9=upd H8 s2.heap.objs.size (.lst (ys++[y]))) I8 rfl (.cons r8 .nil) ⟨_,ys,y,rfl,rfl,hD8,hsz,rfl⟩) (fun _ s9 ⟨_,H9,I9,_,e9⟩=>?_) fun _ _ z=>z.elim;subst e9;exact again I9 w8 hk
 exact codeAny_compStart_list (loop _ rfl) (T.self X.A 0 _ _ _ (T.keep _ _ _ st2 fun b _ o e=>old b o e) (loop _ rfl))
theorem Mj{pins:List (Addr×Obj)}{σ:St}{H2:Hp}{s2:Shared}{Q:VK}{it:Addr}{fp:List Addr}{tn:Nat→Heap→Prop}{J:It}{cl:List (Str×Addr)}{E:Value→Shared→Prop}{RR:Value→Addr→Result→Shared→Prop}
 (S:CK scope N x ix)(hcalm:X.calm=true)(hfr:DZ N X.N scope X.env.scope fr 0=true)(hlen:fr.length=N.length)
 (hif:∀cl C s₀ H₀ fp,JA (Ak X scope cl N C s₀ H₀ fp) ifs tif)(he:∀cl C s₀ H₀ fp,PE (Ak X scope cl N C s₀ H₀ fp) elt te)
 (I2:Inv X pins σ H2 s2)(T:Turn X.prog X.w X.K (.Name x px) J fp it tn)(st2:tn 0 s2.heap)(f2:∀b∈fp,IV X pins H2 b)
 (c1:∀x c,cl.lookup x=some c→X.env.cells.lookup x=some c)(c2:∀x∈scope.names,x.2=NameKind.free→∃c,cl.lookup x.1=some c)
 (W:∀D,H2 D=none→∃W:Nat→Nat→List V→Hp→Prop,(∃m,W 0 m [] (upd H2 D (.lst []))) ∧
   ∀i m ys H,W i m ys H→H D=some (.lst ys)∧((J.stop i H∧Q (.ref D) H)∨(J.go i H∧ys.length<sizeLine∧∀x H',J.Df i H x H' →
    tif ((carry fr σ).set ix (some x)) H' fun b H2=>if b=true then te ((carry fr σ).set ix (some x)) H2 fun y H3=>H3 D=some (.lst ys)∧∃m',m'<m∧W (i+1) m' (ys++[y]) (upd H3 D (.lst (ys++[y])))
     else ∃m',m'<m∧W (i+1) m' ys H2)))
 (fin:∀(D C:Addr) (s':Shared) (H':Hp) m,s'.heap.Ns C m→Q (.ref D) H'→(∀h',Heap.SameBut C s'.heap h'→Inv X pins σ H' { s' with heap:=h'})→C≠D→(∀b o,s2.heap.get? b=some o→b≠C)→H' C=none→s2.heap.objs.size≤C→RR (.ref D) C (.ok .next) s') :
  wpAny (model X.prog X.w) X.A (newList []) (fun acc s₃=>wpAny (model X.prog X.w) X.A (newFunctionEnv scope X.env.globals cl [] X.env.qual none .none (some X.env)) (fun cenv s₄ =>
   codeAny (model X.prog X.w) X.A (.compStart (.ListComp elt [⟨.Name x px,iter,ifs,0⟩] scope pos) 0 (.ref it) acc {cenv with scope:=relabel scope X.env}) (RR acc cenv.locals) s₄) E s₃) E s2:=by
 have hxv:(relabel scope X.env).names.lookup x=some .local:=lookup_relabel_local S.loc;refine LJ S hcalm (fun σ'=>∀v,σ'.set ix v=(carry fr σ).set ix v) (fun _=>rfl) (fun C=>Al (X:=Ak X scope cl N C s2 H2 fp) S.nd S.at_ (.inl hxv) (.inr hxv)) hfr hlen hif he I2 T st2 f2 c1 c2 (fun D hD=>?_) fin;obtain⟨W,w0,st⟩:=W D hD;refine⟨W,w0,fun i m ys H w=>?_⟩;obtain⟨h1,h2|⟨h2,h3,h4⟩⟩:=st i m ys H w
 ·exact⟨h1,.inl h2⟩
 ·refine⟨h1,.inr ⟨h2,h3,fun x H' hy σ' hr=>?_⟩⟩;have:=h4 x H' hy;rw[←hr]at this;exact⟨fun v=>by rw[List.set_set,hr],this⟩
theorem Yi(S:CK scope N x ix)(hcalm:X.calm=true)(hfr:DZ N X.N scope X.env.scope fr 0=true)(hlen:fr.length=N.length)(hfree:∀y∈scope.names,y.2=.free→X.env.scope.names.lookup y.1=some .cell∨X.env.scope.names.lookup y.1=some .free)
 (hi:PI X (.Name x px) iter wi)(hif:∀cl C s₀ H₀ fp,JA (Ak X scope cl N C s₀ H₀ fp) ifs tif)(he:∀cl C s₀ H₀ fp,PE (Ak X scope cl N C s₀ H₀ fp) elt te)
 (hs:∀x,foldedSetIterable iter X.env x=pure x:=by intro _;rfl):PE X (.ListComp elt [⟨.Name x px,iter,ifs,0⟩] scope pos) (K1 wi fr ix tif te):=by
 intro pins s σ H Q I hw;obtain⟨cl,hclos,c1,_,c2⟩:=Ec (env:=X.env) scope.names [] (fun y hy hf=>I.ok.has y.1 (hfree y hy hf)) (fun y c z=>by cases z);have hclos':closureFor scope X.env=pure cl:=by
  have e:closureFor scope X.env=((forIn scope.names [] (fun(x:Str×NameKind) (r:List (Str×Addr))=>do if(x.2==NameKind.free)=true then do let a ←cellOf X.env x.1;pure (ForInStep.yield ((x.1,a)::r)) else pure (ForInStep.yield r)):Sem (List (Str×Addr)))>>=fun cs=>pure cs):=rfl;rw[e,hclos]
  rfl
 rw[eval_ListComp];refine wpAny_comprehension_free (use:=none) rfl hs hclos' S.kind S.names (Av (hi pins s σ H _ I hw) fun v s1 h1=>Av h1 fun itv s2 h2=>?_);obtain⟨it,fp,tn,J,H2,e,I2,T,st2,f2,W⟩:=h2;subst e;refine Mj (RR:=fun acc C=>compPost (model X.prog X.w) X.A X.xe none (EP X pins σ Q) acc C) S hcalm hfr hlen hif he I2 T st2 f2 c1 c2 W ?_;intro D C s' H' m hn q hI _ _ _ _;exact⟨m,hn,fun h' hs'=>⟨.ref D,H',hI h' hs',rfl,q⟩⟩
theorem TU{i : Nat}{y : Str}{py spos : Pos}(hN : X.N.Nodup)(hy : X.N[i]? = some y)(hly : X.env.scope.names.lookup y = some .local)(S : CK scope N x ix)(hcalm : X.calm = true)(hfr : DZ N X.N scope X.env.scope fr 0 = true)(hlen : fr.length = N.length)
 (hfree : ∀ y∈scope.names,y.2 = .free→X.env.scope.names.lookup y.1 = some .cell∨X.env.scope.names.lookup y.1 = some .free)
 (hi : PI X (.Name x px) iter wi)(hif : ∀ cl C s₀ H₀ fp,JA (Ak X scope cl N C s₀ H₀ fp) ifs tif)(he : ∀ cl C s₀ H₀ fp,PE (Ak X scope cl N C s₀ H₀ fp) elt te)
 (hsw : swapsWith (.ListComp elt [⟨.Name x px,iter,ifs,0⟩] scope pos) (some (.Name y py)) spos.line X.env = pure true := by rfl)
 (hs : ∀ x,foldedSetIterable iter X.env x = pure x := by intro _; rfl) :
    PS X (.Assign [.Name y py] (.ListComp elt [⟨.Name x px,iter,ifs,0⟩] scope pos) spos) (Lc (K1 wi fr ix tif te) (CM i)) := by
  intro pins s σ H D I hw
  obtain ⟨cl,hclos,c1,_,c2⟩:=Ec (env:=X.env) scope.names [] (fun y hy hf => I.ok.has y.1 (hfree y hy hf)) (fun y c z => by cases z)
  have hclos' : closureFor scope X.env = pure cl := by
    have e : closureFor scope X.env = ((forIn scope.names [] (fun (x : Str×NameKind) (r : List (Str×Addr)) => do if (x.2 == NameKind.free) = true then do let a ← cellOf X.env x.1; pure (ForInStep.yield ((x.1,a) :: r)) else pure (ForInStep.yield r)) : Sem (List (Str×Addr))) >>= fun cs => pure cs):=rfl
    rw [e,hclos]
    rfl
  rw [exec_Assign_Name_used _ _ _ _ hsw]
  refine aA (wpAny_standAt (aA ?_))
  show wpAny _ X.A (do let _ ← comprehension (.ListComp elt [⟨.Name x px,iter,ifs,0⟩] scope pos) scope X.env _ (newList []) false (eval iter X.env) (some (assign (.Name y py) X.env))) _ _ s
  refine aA (ab (wpAny_comprehension_free (use:=some (assign (.Name y py) X.env)) (Q:=fun _ s' => SP X pins D .next s') rfl hs hclos' S.kind S.names
    (Av (hi pins s σ H _ I hw) fun v s1 h1 => Av h1 fun itv s2 h2 => ?_)) (fun _ s' hq => aB (aB hq)) fun _ _ e => e)
  obtain ⟨it,fp,tn,J,H2,e,I2,T,st2,f2,W⟩:=h2
  subst e
  refine Mj (Q:=fun x H1 => CM i x σ H1 D.nx) (RR:=fun acc C => compPost (model X.prog X.w) X.A X.xe (some (assign (.Name y py) X.env)) (fun _ s' => SP X pins D .next s') acc C) S hcalm hfr hlen hif he I2 T st2 f2 c1 c2 W ?_
  intro D' C s' H' m hn q hI hCD hold hfreeC hsz
  have I5 : Inv X pins σ H' s':=hI s'.heap (Heap.SameBut.refl ..)
  refine wpAny_assign_Name (Kh I5 hN hy (.inl hly) (v:=.ref D') rfl (fun s'' I6 ⟨a,hsb,ha⟩ => ?_) (.inr hly))
  have hL : C≠X.env.locals:=fun z => by
    obtain ⟨_,⟨o,_,_,e,_⟩,_⟩:=I2.loc
    exact hold _ _ e z.symm
  have hcl : ∀ z c,X.env.cells.lookup z = some c→c≠C:=fun z c e => by
    obtain ⟨_,o,ho,_⟩:=I2.cell z c e
    exact hold _ _ ho
  have hCa : C≠a := by
    rcases ha with z | z
    · rw [z]; exact hL
    · exact Ne.symm (hcl _ _ z)
  refine ⟨m,hn.sameBut hsb hCa,fun h' hs' => ⟨_,H',I6.turned (t':=s''.toks) (it:=C) (fun b o hb e => (hs'.2 b hb).trans e) hfreeC hL (.inr (aR I2.sz hsz)) hcl fun p hp => ?_,q⟩⟩
  obtain ⟨e,_⟩:=I2.pin p hp
  exact hold _ _ e
end
end L2
namespace FM
def gi(a b:Int):Int:=(Int.gcd a b:Int)
theorem PY(a b:Int):Int.gcd b (a.fmod b)=Int.gcd a b:=by
 have e:a.fmod b=a-b*a.fdiv b:=Int.fmod_def a b;rw[e,Int.gcd_comm a b];exact Int.gcd_sub_mul_left_right b a (a.fdiv b)
theorem Nv(a b:Int)(hb:b≠0):(a.fmod b).natAbs<b.natAbs:=by
 rcases Int.lt_or_gt_of_ne hb with h|h
 ·have h1:-(a.fmod b)=(-a).fmod (-b):=by
   rw[Int.fmod_def,Int.fmod_def,Int.neg_fdiv_neg];have:-b*a.fdiv b=-(b*a.fdiv b):=Int.neg_mul _ _
   lia
  have h2:=Int.fmod_nonneg_of_pos (-a) (show 0 < -b by lia);have h3:=Int.fmod_lt_of_pos (-a) (show 0 < -b by lia)
  lia
 ·have h2:=Int.fmod_nonneg_of_pos a h;have h3:=Int.fmod_lt_of_pos a h
  lia
theorem J2{a b:Int}(hb:b≠0):0<gi a b:=by
 have:0<Int.gcd a b:=Int.gcd_pos_of_ne_zero_right a hb;unfold gi;lia
theorem XM{a b:Int}(hb:b≠0):(gi a b).natAbs≤b.natAbs:=by
 have h:Int.gcd a b ∣ b.natAbs:=by
  have:=Int.gcd_dvd_right a b;exact Int.natAbs_dvd_natAbs.mpr this
 have h2:0<b.natAbs:=by lia
 have:=Nat.le_of_dvd h2 h;unfold gi;lia
def gs(t b:Int):Int:=if b<0 then -gi t b else gi t b
theorem Xn{t b:Int}(hb:b≠0):gs t b≠0:=by
 have:=J2 (a:=t) hb;unfold gs;split<;>lia
theorem Xq{t b:Int}(hb:b≠0):(gs t b).natAbs≤b.natAbs:=by
 have:=XM (a:=t) hb;unfold gs;split<;>lia
theorem Ed{g x k:Int}(hg:g≠0)(e:x=g*k):x.fdiv g=k:=by
 subst e;exact Int.mul_fdiv_cancel_left k hg
theorem LV(a b:Int):gi a b ∣ a:=Int.gcd_dvd_left a b
theorem KD(a b:Int):gi a b ∣ b:=Int.gcd_dvd_right a b
theorem Qk{t b:Int}(hb:b≠0):t.fdiv (gs t b)=(Rat.divInt t b).num:=by
 have hp:=J2 (a:=t) hb;obtain⟨k,hk⟩:=LV t b;rw[Rat.num_divInt,Int.gcd_comm b t];show t.fdiv (gs t b)=b.sign*t / gi t b;unfold gs;generalize gi t b=g at hp hk ⊢;rcases Int.lt_or_gt_of_ne hb with h|h
 ·rw[if_pos h,Int.sign_eq_neg_one_of_neg h,Ed (k:=-k) (by lia) (by rw[hk];simp[Int.mul_neg,Int.neg_mul])];have:-1*t=g*(-k):=by rw[hk];simp[Int.mul_neg]
  rw[this,Int.mul_ediv_cancel_left _ (by lia)]
 ·rw[if_neg (by lia),Int.sign_eq_one_of_pos h,Ed (k:=k) (by lia) hk,Int.one_mul,hk,Int.mul_ediv_cancel_left _ (by lia)]
theorem QM{t b:Int}(hb:b≠0):b.fdiv (gs t b)=((Rat.divInt t b).den:Int):=by
 have hp:=J2 (a:=t) hb;obtain⟨k,hk⟩:=KD t b;rw[Rat.den_divInt,if_neg hb,Int.gcd_comm b t];have e:(((b.natAbs / Int.gcd t b:Nat)):Int)=(b.natAbs:Int) / gi t b:=by unfold gi;simp
 rw[e];unfold gs;generalize gi t b=g at hp hk ⊢;rcases Int.lt_or_gt_of_ne hb with h|h
 ·rw[if_pos h,Ed (k:=-k) (by lia) (by rw[Int.neg_mul_neg];exact hk)];have:(b.natAbs:Int)=g*(-k):=by rw[Int.mul_neg,←hk];lia
  rw[this,Int.mul_ediv_cancel_left _ (by lia)]
 ·rw[if_neg (by lia),Ed (k:=k) (by lia) hk];have:(b.natAbs:Int)=g*k:=by rw[←hk];lia
  rw[this,Int.mul_ediv_cancel_left _ (by lia)]
theorem BI(a b:Int):(a.fdiv b).natAbs≤a.natAbs:=by
 cases a with
 |ofNat n =>
  cases n with
  |zero =>
   have e:Int.fdiv (.ofNat 0) b=0:=Int.zero_fdiv b;rw[e];exact ak _
  |succ k =>
   cases b with
   |ofNat j=>exact Nat.div_le_self (k+1) j
   |negSucc j=>exact Nat.succ_le_succ (Nat.div_le_self k (j+1))
 |negSucc k =>
  cases b with
  |ofNat j =>
   cases j with
   |zero=>exact ak _
   |succ j=>exact Nat.succ_le_succ (Nat.div_le_self k (j+1))
  |negSucc j=>exact Nat.div_le_self (k+1) (j+1)
theorem ZY{t b:Int}(hb:b≠0):(Rat.divInt t b).num.natAbs≤t.natAbs:=by
 rw[←Qk hb];exact BI _ _
theorem b8{t b:Int}(hb:b≠0):(Rat.divInt t b).den≤b.natAbs:=by
 have h:=BI b (gs t b);rw[QM hb]at h
 simpa using h
theorem Kb(p:Rat):(p.den:Int)≠0:=by
 have:=p.den_nz
 lia
theorem Cd(p:Rat):Rat.divInt p.num p.den=p:=Rat.num_divInt_den p
theorem cL(p q:Rat):Rat.divInt (p.num*q.den+q.num*p.den) (p.den*q.den)=p+q:=by
 rw[←Rat.divInt_add_divInt _ _ (Kb p) (Kb q),Cd,Cd]
theorem WT(p q:Rat):Rat.divInt (p.num*q.num) (p.den*q.den)=p*q:=by
 rw[←Rat.divInt_mul_divInt,Cd,Cd]
theorem SU(p q:Rat):(p.den:Int)*q.den≠0:=Int.mul_ne_zero (Kb p) (Kb q)
theorem DL{x y:Int}{m n:Nat}(hx:x.natAbs<2^m)(hy:y.natAbs<2^n):(x*y).natAbs<2^(m+n):=by
 rw[Int.natAbs_mul,Nat.pow_add];exact Nat.mul_lt_mul'' hx hy
theorem Ci{x:Nat}{m n:Nat}(hx:x<2^m)(h:m≤n):x<2^n:=aO hx (bI (by decide) h)
def Fits(p:Rat)(n:Nat):Prop:=p.num.natAbs<2^n∧p.den<2^n
theorem Fits.mono{p:Rat}{m n:Nat}(h:Fits p m)(l:m≤n:=by decide):Fits p n:=⟨Ci h.1 l,Ci h.2 l⟩
theorem Fits.d{p:Rat}{n:Nat}(h:Fits p n):((p.den:Int)).natAbs<2^n:=by simpa using h.2
theorem Fits.Z7{t b:Int}{n:Nat}(hb:b≠0)(h1:t.natAbs<2^n)(h2:b.natAbs<2^n):Fits (Rat.divInt t b) n :=
 ⟨aP (ZY hb) h1,Nat.lt_of_le_of_lt (b8 hb) h2⟩
theorem dd{p q:Rat}{m n:Nat}(h:Fits p m)(k:Fits q n):((p.den:Int)*q.den).natAbs<2^(m+n):=DL h.d k.d
end FM
namespace FM
theorem YN(a b:Int):Int.gcd (if a<0 then -a else a) (if b<0 then -b else b)=Int.gcd a b:=by
 split<;>split<;>simp[Int.gcd_neg,Int.neg_gcd]
theorem abs_nonneg(a:Int):0≤(if a<0 then -a else a):=by split<;>lia
theorem Y4{g a b:Int}(h:Int.gcd g 0=Int.gcd a b)(h0:0≤g):g=gi a b:=by
 unfold gi;rw[←h,Int.gcd_zero_right]
 lia
theorem Yd{g a b:Int}(h:Int.gcd g 0=Int.gcd a b):(if g<0 then -g else g)=gi a b:=by
 unfold gi;rw[←h,Int.gcd_zero_right];split<;>lia
theorem fmod_nonneg{g l:Int}(hl:l≠0)(h:0≤l):0≤g.fmod l:=Int.fmod_nonneg_of_pos g (by lia)
end FM
namespace L2
open PySem PySem.Spec PyProof.Rows
structure Fn(K:PySem.W.Frag)(mg:Str→Option Value)(x:Str)(st:Stmt)(ps:List Str)(f:Addr)(fd:FuncData):Prop where
 F:SQ K x x st f fd
 b:Binds K fd ps []
 m:mg x=some (.ref f)
section
variable{X:Cx}{k:Nat}{f:Addr}{fd:FuncData}{ps:List Str}{sp:Sp}{x:Str}{st:Stmt}{p pos:Pos}{e:Expr}{es:List Expr}{t:TA}
theorem Aj(T:Fn X.K X.mg x st ps f fd)(G:AL X.prog X.w X.K X.mg X.base Ac k f fd ps sp)(hr:C7 k X.A)(hg:Gl X x)(ha:PA X (e::es) t)
 (hdb:(x==("__debug__" : Str))=false:=by decide)(he:starEach (e::es) X.env=(false,eval e X.env)::starEach es X.env:=by rfl)(hpl:(backTo pos (starEach es X.env)).any (·.1)=false:=by rfl) :
  PE X (.Call (.Name x p) (e::es) [] pos) (Xj sp [] E0 t):=Xy G hr hg T.m T.F.kp T.b .nil eD ha hdb he hpl
end
theorem Ez{t u:TS}{D:Ends}{σ:St}{H:Hp}(P:St→Hp→Prop)(h1:∀nx:St→Hp→Prop,(∀σ' H',P σ' H'→nx σ' H')→t {D with nx:=nx} σ H)(h2:∀σ' H',P σ' H'→u D σ' H'):Fp t u D σ H:=h1 _ h2
theorem Sg:2≤sizeLine:=by decide
theorem AN{H:Hp}{p:Addr}(h:H p=none)(o:HO):AG H (upd H p o):=fun b u q=>by rw[AE (AK q h)];exact q
def SameBut(l:Addr)(H H':Hp):Prop:=∀b o,b≠l→H b=some o→H' b=some o
theorem SameBut.of{l:Addr}{H H':Hp}(h:AG H H'):SameBut l H H':=fun b o _ q=>h b o q
theorem SameBut.trans{l:Addr}{H H1 H2:Hp}(a:SameBut l H H1)(b:SameBut l H1 H2):SameBut l H H2:=fun c o n h=>b c o n (a c o n h)
theorem SameBut.upd{l:Addr}{H:Hp}{o:HO}:SameBut l H (upd H l o):=fun b u n q=>by rw[AE n];exact q
def KG(p:Rat):List V:=[.int p.num,.int (p.den:Int)]
def AV(p:Rat):PyData:=.tuple [.int p.num,.int (p.den:Int)]
theorem F8{i j:Int}{m n:Nat}(h1:i.natAbs<2^m)(h2:j.natAbs<2^n)(h:m+n≤1000000):Ng i j∨K6 i j :=
 .inr ⟨m+n,h,FM.Ci h1 (Nat.le_add_right _ _),FM.Ci h2 (Nat.le_add_left _ _)⟩
def fi(ea:Addr)(cls:Value):HO:=.ext fun h=>∃o vs,h.get? ea=some o∧o.cls=cls∧o.data=.fields vs
open PySem PySem.Spec PyProof.Rows PySem.Builtin.ObjectAttr PySem.Builtin.Getset_descriptor
def NT:V→Value
 |.ref C=>.ref C
 |.ty n=>.type n
 |_=>.none
theorem YH{c:V}{u:Value}(r:RelV c u)(h:NT c≠.none):u=NT c:=by
 cases c with
 |ref C=>exact r
 |ty n=>exact r
 |_=>exact absurd rfl h
section
variable{X:Cx}
def fK(K:PySem.W.Frag):List V→Hp→VK→Prop:=fun xs H Q=>∃x c t b,xs=[x,c]∧NT c≠.none∧FG K H x t∧PySem.W.kitOne K t (NT c)=some b∧Q (.bl b) H
theorem BU:EE X (.builtin "isinstance") (fK X.K):=by
 intro pins s σ H xs us Q I r h;obtain⟨x,c,t,b,rfl,hc,ty,e,q⟩:=h;obtain⟨u,v,rfl,r1,r2⟩:=r.two;rw[YH r2 hc];exact VL I r1 ty e fun tk=>⟨.bl b,H,I.tok tk,rfl,q⟩
end
theorem Yx(K:PySem.W.Frag):PySem.W.kitOne K (.type "tuple") (.type "tuple")=some true:=rfl
theorem cV(K:PySem.W.Frag):PySem.W.kitOne K (.type "int") (.type "int")=some true:=rfl
theorem ZS(K:PySem.W.Frag):PySem.W.kitOne K (.type "bool") (.type "bool")=some true:=rfl
theorem ZI(K:PySem.W.Frag):PySem.W.kitOne K (.type "int") (.type "bool")=some false:=by kernel_rfl
theorem Zr(K:PySem.W.Frag):PySem.W.kitOne K (.type "bool") (.type "int")=some true:=by kernel_rfl
theorem Y5(K:PySem.W.Frag):PySem.W.kitOne K (.type "list") (.type "tuple")=some false:=by kernel_rfl
theorem cN(K:PySem.W.Frag):PySem.W.kitOne K (.type "tuple") (.type "list")=some false:=by kernel_rfl
theorem Z0(K:PySem.W.Frag):PySem.W.kitOne K (.type "list") (.type "list")=some true:=rfl
theorem Yu(K:PySem.W.Frag):PySem.W.kitOne K (.type "int") (.type "tuple")=some false:=by kernel_rfl
theorem Zo(K:PySem.W.Frag):PySem.W.kitOne K (.type "bool") (.type "tuple")=some false:=by kernel_rfl
theorem Zg(K:PySem.W.Frag):PySem.W.kitOne K (.type "NoneType") (.type "tuple")=some false:=by kernel_rfl
theorem cA(K:PySem.W.Frag):PySem.W.kitOne K (.type "str") (.type "tuple")=some false:=by kernel_rfl
theorem Yv(K:PySem.W.Frag):PySem.W.kitOne K (.type "tuple") (.type "int")=some false:=by kernel_rfl
theorem cT(K:PySem.W.Frag):PySem.W.kitOne K (.type "list") (.type "int")=some false:=by kernel_rfl
theorem Zn(K:PySem.W.Frag):PySem.W.kitOne K (.type "NoneType") (.type "int")=some false:=by kernel_rfl
theorem ZC(K:PySem.W.Frag):PySem.W.kitOne K (.type "str") (.type "int")=some false:=by kernel_rfl
theorem Zu(K:PySem.W.Frag):PySem.W.kitOne K (.type "int") (.type "list")=some false:=by kernel_rfl
theorem Y1(K:PySem.W.Frag):PySem.W.kitOne K (.type "bool") (.type "list")=some false:=by kernel_rfl
theorem cS(K:PySem.W.Frag):PySem.W.kitOne K (.type "NoneType") (.type "list")=some false:=by kernel_rfl
theorem Y2(K:PySem.W.Frag):PySem.W.kitOne K (.type "str") (.type "list")=some false:=by kernel_rfl
def freeOk(xsc:Scope)(names:List (Str×NameKind)):Bool:=names.all fun y=>y.2 != .free||xsc.names.lookup y.1==some .cell||xsc.names.lookup y.1==some .free
theorem ID{xsc:Scope}{names:List (Str×NameKind)}(h:freeOk xsc names=true):∀y∈names,y.2=.free→xsc.names.lookup y.1=some .cell∨xsc.names.lookup y.1=some .free:=fun y hy hf=>by
 have q:=List.all_eq_true.mp h y hy;rw[hf]at q;simp only[bne_self_eq_false,Bool.false_or,Bool.or_eq_true,beq_iff_eq]at q;exact q
def BO(scope:Scope)(N:List Str)(x:Str)(ix:Nat):Bool :=
 scope.kind==.function&&(scope.names.all fun y=>y.2 != .cell&&(y.2 != .local||scope.names.lookup y.1==some .local)&&(y.2 != .free||scope.names.lookup y.1==some .free))&&scope.names.lookup x==some .local&&decide N.Nodup&&N[ix]? == some x
theorem DV{scope:Scope}{N:List Str}{x:Str}{ix:Nat}(h:BO scope N x ix=true):CK scope N x ix:=by
 unfold BO at h;simp only[Bool.and_eq_true,beq_iff_eq,decide_eq_true_eq,List.all_eq_true,bne_iff_ne,Bool.or_eq_true]at h;obtain⟨⟨⟨⟨h1,h2⟩,h3⟩,h4⟩,h5⟩:=h;exact⟨h1,fun y hy=>(h2 y hy).1.1,fun y hy hl=>(h2 y hy).1.2.resolve_left fun z=>z hl,fun y hy hl=>(h2 y hy).2.resolve_left fun z=>z hl,h3,h4,h5⟩
section
variable{X:Cx}{elt iter:Expr}{x:Str}{px pos:Pos}{ifs:List Expr}{scope:Scope}{wi:TI}{tif:TT}{te:TE}
theorem DC(N:List Str)(ix:Nat)(fr:List (Option Nat))(hi:PI X (.Name x px) iter wi)(hif:∀cl C s₀ H₀ fp,JA (Ak X scope cl N C s₀ H₀ fp) ifs tif)(he:∀cl C s₀ H₀ fp,PE (Ak X scope cl N C s₀ H₀ fp) elt te)
 (h1:BO scope N x ix=true:=by decide +kernel)(h2:X.calm=true:=by rfl)(h3:DZ N X.N scope X.env.scope fr 0=true:=by rfl)(h4:fr.length=N.length:=by rfl)(h5:freeOk X.env.scope scope.names=true:=by rfl)
 (hs:∀x,foldedSetIterable iter X.env x=pure x:=by intro _;rfl):PE X (.ListComp elt [⟨.Name x px,iter,ifs,0⟩] scope pos) (K1 wi fr ix tif te) :=
 Yi (DV h1) h2 h3 h4 (ID h5) hi hif he hs
theorem Em{i:Nat}{y:Str}{py spos:Pos}(N:List Str)(ix:Nat)(fr:List (Option Nat))(hN:X.N.Nodup)(hy:X.N[i]? = some y)(hly:X.env.scope.names.lookup y=some .local)
 (hi:PI X (.Name x px) iter wi)(hif:∀cl C s₀ H₀ fp,JA (Ak X scope cl N C s₀ H₀ fp) ifs tif)(he:∀cl C s₀ H₀ fp,PE (Ak X scope cl N C s₀ H₀ fp) elt te)
 (h1:BO scope N x ix=true:=by decide +kernel)(h2:X.calm=true:=by rfl)(h3:DZ N X.N scope X.env.scope fr 0=true:=by rfl)(h4:fr.length=N.length:=by rfl)(h5:freeOk X.env.scope scope.names=true:=by rfl)
 (hsw:swapsWith (.ListComp elt [⟨.Name x px,iter,ifs,0⟩] scope pos) (some (.Name y py)) spos.line X.env=pure true:=by rfl)
 (hs:∀x,foldedSetIterable iter X.env x=pure x:=by intro _;rfl):PS X (.Assign [.Name y py] (.ListComp elt [⟨.Name x px,iter,ifs,0⟩] scope pos) spos) (Lc (K1 wi fr ix tif te) (CM i)) :=
 TU hN hy hly (DV h1) h2 h3 h4 (ID h5) hi hif he hsw hs
end
end L2
inductive Tr where
 |nil
 |cons (b r:Tr)
 deriving DecidableEq
namespace Tr
def deep:Tr→Nat
 |.nil=>0
 |.cons b r=>max (b.deep+1) r.deep
end Tr
namespace SM
open PySem.W PyProof.Rows
def Wp{α:Type}(lt:Nat→Nat→Bool)(n:Nat):KasT α→(α→Prop)→Prop
 |.ret a,Q=>Q a
 |.ask i j k,Q=>i<n∧j<n∧Wp lt n (k (lt i j)) Q
theorem Wp.mono{α:Type}{lt:Nat→Nat→Bool}{n:Nat}{Q Q':α→Prop}(hq:∀a,Q a→Q' a):∀t:KasT α,Wp lt n t Q→Wp lt n t Q'
 |.ret a,h=>hq a h
 |.ask i j k,h=>⟨h.1,h.2.1,Wp.mono hq (k (lt i j)) h.2.2⟩
theorem Wp.bind{α β:Type}{lt:Nat→Nat→Bool}{n:Nat}{f:α→KasT β}{Q:β→Prop}:∀t:KasT α,Wp lt n t (fun a=>Wp lt n (f a) Q)→Wp lt n (t.bind f) Q
 |.ret _,h=>h
 |.ask i j k,h=>⟨h.1,h.2.1,Wp.bind (k (lt i j)) h.2.2⟩
theorem Hm{p:Array Nat}{i j:Nat}(hj:j≤p.size)(k:Nat):(kas_rev p i j).getD k 0=if i≤k∧k<j then p.getD (i+j-1-k) 0 else p.getD k 0:=by
 have e:=getElem?_mirror_all (i:=i) hj k;unfold kas_rev;rw[Array.getD_eq_getD_getElem?,Array.getD_eq_getD_getElem?,Array.getD_eq_getD_getElem?,e];split<;>rfl
theorem RZ{p:Array Nat}{src d:Nat}(hs:src<p.size)(hd:d≤src)(k:Nat) :
  (bubble p src d).getD k 0=if k=src-d then p.getD src 0 else if src-d<k∧k≤src then p.getD (k-1) 0 else p.getD k 0:=by
 have e:=getElem?_bubble hs d hd k;simp only[Array.getD_eq_getD_getElem?,e];split
 ·rfl
 ·split<;>rfl
section
variable{O:KeyOrd}{key:Nat→O.α}{n:Nat}
def Key(key:Nat→O.α)(p:Array Nat)(i:Nat):O.α:=key (p.getD i 0)
def Up(key:Nat→O.α)(p:Array Nat)(m:Nat):Prop:=∀i j,i≤j→j<m→O.kle (Key key p i) (Key key p j)
def Dn(key:Nat→O.α)(p:Array Nat)(m:Nat):Prop:=∀i j,i≤j→j<m→O.kle (Key key p j) (Key key p i)
structure Pm(n:Nat)(p:Array Nat):Prop where
 perm:p.Perm (List.toArray (List.range n))
 pos:0<n
theorem Pm.size{p:Array Nat}(h:Pm n p):p.size=n:=by rw[h.perm.size_eq];simp
theorem Pm.lt{p:Array Nat}(h:Pm n p)(i:Nat):p.getD i 0<n:=by
 rw[Array.getD_eq_getD_getElem?];by_cases hi:i<p.size
 ·rw[Array.getElem?_eq_getElem hi];have hm:p[i]∈p:=Array.getElem_mem hi;have:=(h.perm.mem_iff).mp hm
  simpa using this
 ·rw[Array.getElem?_eq_none (by lia)];exact h.pos
theorem Pm.rev{p:Array Nat}(h:Pm n p)(i j:Nat):Pm n (kas_rev p i j):=⟨(mirror_perm _ _ _ _).trans h.perm,h.pos⟩
theorem Pm.bubble{p:Array Nat}(h:Pm n p)(i j:Nat):Pm n (bubble p i j):=⟨(bubble_perm _ _ _).trans h.perm,h.pos⟩
abbrev E9(key:Nat→O.α):Nat→Nat→Bool:=fun i j=>O.blt (key i) (key j)
theorem Up.one{p:Array Nat}:Up key p 1:=fun i j h1 h2=>by
 have:i=j:=by lia
 subst this;exact bW _
theorem Up.more{p:Array Nat}{m:Nat}(h:Up key p m)(h1:1≤m)(hk:O.kle (Key key p (m-1)) (Key key p m)):Up key p (m+1):=fun i j hij hj=>by
 by_cases e:j=m
 ·subst e;by_cases e2:i=j
  ·subst e2;exact bW _
  ·exact KeyOrd.kle_trans (h i (j-1) (by lia) (by lia)) hk
 ·exact h i j hij (by lia)
theorem Dn.more{p:Array Nat}{m:Nat}(h:Dn key p m)(h1:1≤m)(hk:O.kle (Key key p m) (Key key p (m-1))):Dn key p (m+1):=fun i j hij hj=>by
 by_cases e:j=m
 ·subst e;by_cases e2:i=j
  ·subst e2;exact bW _
  ·exact KeyOrd.kle_trans hk (h i (j-1) (by lia) (by lia))
 ·exact h i j hij (by lia)
theorem asc{p:Array Nat}(hp:Pm n p):∀(f m:Nat),1≤m→Up key p m→Wp (E9 key) n (kas_asc p f m) fun r=>m≤r∧r≤m+f∧Up key p r∧(r=m+f∨O.klt (Key key p r) (Key key p (r-1)))
 |0,m,_,h=>⟨aG _,Nat.le_refl _,h,.inl rfl⟩
 |f+1,m,h1,h=>by
  refine⟨hp.lt _,hp.lt _,?_⟩;cases c:E9 key (p.getD m 0) (p.getD (m-1) 0) with
  |true=>exact⟨aG _,by lia,h,.inr c⟩
  |false =>
   simp only[Bool.false_eq_true,if_false];refine Wp.mono (fun r hr=>?_) _ (asc hp f (m+1) (by lia) (h.more h1 c));exact⟨by lia,by lia,hr.2.2.1,hr.2.2.2.elim (fun z=>.inl (by lia)) .inr⟩
def Eq(key:Nat→O.α)(p:Array Nat)(m q:Nat):Prop:=q<m∧∀k,m-(q+1)≤k→k<m→Key key p k=Key key p (m-1)
theorem rev_eq{p:Array Nat}{m q:Nat}(h:Eq key p m q)(hm:m≤p.size)(k:Nat):Key key (kas_rev p (m-(q+1)) m) k=Key key p k:=by
 unfold Key;rw[Hm hm];split
 ·have a:=h.2 (m-(q+1)+m-1-k) (by have:=h.1;lia) (by have:=h.1;lia);have b:=h.2 k (by lia) (by lia);exact a.trans b.symm
 ·rfl
theorem desc:∀(f:Nat) (p:Array Nat) (m q:Nat),Pm n p→1≤m→m+f≤n→Dn key p m→Eq key p m q→Wp (E9 key) n (kas_desc f p m q) fun r=>Pm n r.1∧m≤r.2.1∧r.2.1≤m+f∧Dn key r.1 r.2.1∧Eq key r.1 r.2.1 r.2.2
 |0,p,m,q,hp,_,_,h,e=>⟨hp,Nat.le_refl _,Nat.le_refl _,h,e⟩
 |f+1,p,m,q,hp,h1,hf,h,e=>by
  refine⟨hp.lt _,hp.lt _,?_⟩;have hm:m≤p.size:=by rw[hp.size];lia
  cases c:E9 key (p.getD m 0) (p.getD (m-1) 0) with
  |true =>
   have ck:O.klt (Key key p m) (Key key p (m-1)):=c;simp only[if_true];have fin:∀p':Array Nat,Pm n p'→(∀k,Key key p' k=Key key p k)→Wp (E9 key) n (kas_desc f p' (m+1) 0) fun r=>Pm n r.1∧m≤r.2.1∧r.2.1≤m+(f+1)∧Dn key r.1 r.2.1∧Eq key r.1 r.2.1 r.2.2:=fun p' hp' hk=>by
    have hd:Dn key p' (m+1):=fun i j hij hj=>by rw[hk,hk];exact h.more h1 (KeyOrd.kle_of_klt ck) i j hij hj
    have he:Eq key p' (m+1) 0:=⟨by lia,fun k h1 h2=>by rw[show k=m+1-1 by lia]⟩;exact Wp.mono (fun r hr=>⟨hr.1,by lia,by lia,hr.2.2.2.1,hr.2.2.2.2⟩) _ (desc f p' (m+1) 0 hp' (by lia) (by lia) hd he)
   split
   ·exact fin _ (hp.rev _ _) (rev_eq e hm)
   ·exact fin _ hp fun _=>rfl
  |false =>
   simp only[Bool.false_eq_true,if_false];refine⟨hp.lt _,hp.lt _,?_⟩;cases d:E9 key (p.getD (m-1) 0) (p.getD m 0) with
   |true =>
    simp only[if_true];exact⟨hp,Nat.le_refl _,Nat.le_add_right _ _,h,e⟩
   |false =>
    simp only[Bool.false_eq_true,if_false];have ek:Key key p m=Key key p (m-1):=KeyOrd.kle_antisymm (show O.kle (Key key p m) (Key key p (m-1)) from d) (show O.kle (Key key p (m-1)) (Key key p m) from c);refine Wp.mono (fun r hr=>⟨hr.1,by lia,by lia,hr.2.2.2.1,hr.2.2.2.2⟩) _ (desc f p (m+1) (q+1) hp (by lia) (by lia) (h.more h1 (by rw[ek];exact bW _)) ⟨by have:=e.1;lia,fun k h2 h3=>?_⟩);rw[show m+1-1=m by lia,ek];by_cases z:k=m
    ·rw[z,ek]
    ·exact e.2 k (by lia) (by lia)
theorem b9{p:Array Nat}{m:Nat}(h:Dn key p m)(hm:m≤p.size):Up key (kas_rev p 0 m) m:=fun i j hij hj=>by
 unfold Key;rw[Hm hm,Hm hm,if_pos ⟨ak _,by lia⟩,if_pos ⟨ak _,by lia⟩];exact h (0+m-1-j) (0+m-1-i) (by lia) (by lia)
theorem tail3{p:Array Nat}{m:Nat}(hp:Pm n p)(h1:1≤m)(hm:m≤n)(h:Dn key p m):Wp (E9 key) n (kas_tail3 m n p) fun r=>Pm n r.2∧1≤r.1∧r.1≤n∧Up key r.2 r.1:=by
 unfold kas_tail3;refine Wp.bind _ (Wp.mono (fun r hr=>?_) _ (asc (hp.rev 0 m) (n-m) m h1 (b9 h (by rw[hp.size];exact hm))));exact⟨hp.rev 0 m,by lia,by lia,hr.2.2.1⟩
theorem descPart{p:Array Nat}{m:Nat}(hp:Pm n p)(h1:1≤m)(hm:m+1≤n)(h:Dn key p (m+1)):Wp (E9 key) n (kas_descPart m n p) fun r=>Pm n r.2∧1≤r.1∧r.1≤n∧Up key r.2 r.1:=by
 unfold kas_descPart;refine Wp.bind _ (Wp.mono (fun r hr=>?_) _ (desc (n-(m+1)) p (m+1) 0 hp (by lia) (by lia) h ⟨by lia,fun k h1 h2=>by rw[show k=m+1-1 by lia]⟩));obtain⟨a,b,c,d,e⟩:=hr;have hz:r.2.1≤r.1.size:=by rw[a.size];lia
 split
 ·refine tail3 (a.rev _ _) (by lia) (by lia) fun i j hij hj=>?_;rw[rev_eq e hz,rev_eq e hz];exact d i j hij hj
 ·exact tail3 a (by lia) (by lia) d
theorem count{p:Array Nat}(hp:Pm n p):Wp (E9 key) n (kas_count n p) fun r=>Pm n r.2∧1≤r.1∧r.1≤n∧Up key r.2 r.1:=by
 have hn:=hp.pos;unfold kas_count;refine Wp.bind _ (Wp.mono (fun m hm=>?_) _ (asc hp (n-1) 1 (aG _) Up.one));obtain⟨h1,h2,h3,h4⟩:=hm;split
 ·exact⟨hp,h1,by lia,h3⟩
 ·rename_i hne;have hne':m≠n:=by simpa using hne
  have hk:O.klt (Key key p m) (Key key p (m-1)):=by
   rcases h4 with z|z
   ·exact absurd (by lia) hne'
   ·exact z
  have hz:m≤p.size:=by rw[hp.size];lia
  split
  ·refine⟨hp.lt _,hp.lt _,?_⟩;cases c:E9 key (p.getD 0 0) (p.getD (m-1) 0) with
   |true=>simp only[if_true];exact⟨hp,h1,by lia,h3⟩
   |false =>
    simp only[Bool.false_eq_true,if_false];have all:∀k,k<m→Key key p k=Key key p (m-1):=fun k hk'=>KeyOrd.kle_antisymm (h3 k (m-1) (by lia) (by lia)) (KeyOrd.kle_trans (show O.kle (Key key p (m-1)) (Key key p 0) from c) (h3 0 k (by lia) hk'));have ek:∀k,Key key (kas_rev p 0 m) k=Key key p k:=fun k=>by
     by_cases hk':k<m
     ·have:Key key (kas_rev p 0 m) k=Key key p (0+m-1-k):=by
       unfold Key;rw[Hm hz,if_pos ⟨ak _,hk'⟩]
      rw[this,all _ (by lia),all k hk']
     ·unfold Key;rw[Hm hz,if_neg (by lia)]
    refine descPart (hp.rev _ _) h1 (by lia) fun i j hij hj=>?_;rw[ek,ek];by_cases e:j=m
    ·subst e;by_cases e2:i=j
     ·subst e2;exact bW _
     ·rw[all i (by lia)];exact KeyOrd.kle_of_klt hk
    ·rw[all i (by lia),all j (by lia)];exact bW _
  ·have:m=1:=by lia
   subst this;refine descPart hp h1 (by lia) fun i j hij hj=>?_;by_cases e:i=j
   ·subst e;exact bW _
   ·rw[show i=0 by lia,show j=1 by lia];exact KeyOrd.kle_of_klt hk
theorem place{p:Array Nat}{k:Nat}(hp:Pm n p)(hs:Up key p k):∀(f l r:Nat),l≤r→r≤k→r-l≤f→(∀i,i<l→O.kle (Key key p i) (Key key p k))→(∀i,r≤i→i<k→O.klt (Key key p k) (Key key p i)) →
  Wp (E9 key) n (kas_place p k f l r) fun x=>x≤k∧(∀i,i<x→O.kle (Key key p i) (Key key p k))∧∀i,x≤i→i<k→O.klt (Key key p k) (Key key p i)
 |0,l,r,h1,h2,h3,a,b=>by
  have:l=r:=by lia
  subst this;exact⟨h2,a,b⟩
 |f+1,l,r,h1,h2,h3,a,b=>by
  unfold kas_place;split
  ·have:l=r:=by lia
   subst this;exact⟨h2,a,b⟩
  ·refine⟨hp.lt _,hp.lt _,?_⟩;cases c:E9 key (p.getD k 0) (p.getD ((l+r) / 2) 0) with
   |true =>
    simp only[if_true];exact place hp hs f l ((l+r) / 2) (by lia) (by lia) (by lia) a fun i x1 x2=>KeyOrd.klt_of_klt_of_kle (show O.klt (Key key p k) (Key key p ((l+r) / 2)) from c) (hs _ _ x1 x2)
   |false =>
    simp only[Bool.false_eq_true,if_false];exact place hp hs f ((l+r) / 2+1) r (by lia) h2 (by lia) (fun i x1=>KeyOrd.kle_trans (hs i ((l+r) / 2) (by lia) (by lia)) (show O.kle (Key key p ((l+r) / 2)) (Key key p k) from c)) b
theorem bin:∀(f:Nat) (p:Array Nat) (k:Nat),Pm n p→1≤k→k+f=n→Up key p k→Wp (E9 key) n (kas_bin f p k) fun r=>Pm n r∧Up key r n
 |0,p,k,hp,_,hk,h=>by
  have:k=n:=by lia
  subst this;exact⟨hp,h⟩
 |f+1,p,k,hp,h1,hk,h=>by
  have hks:k<p.size:=by rw[hp.size];lia
  refine Wp.bind _ (Wp.mono (fun l hl=>?_) _ (place hp h k 0 k (ak _) (aG _) (by lia) (fun i z=>absurd z (by lia)) fun i z1 z2=>absurd z1 (by lia)));obtain⟨hlk,hlo,hhi⟩:=hl;refine bin f _ (k+1) (hp.bubble _ _) (by lia) (by lia) fun i j hij hj=>?_;have kb:∀x,Key key (PyProof.Rows.bubble p k (k-l)) x=if x=l then Key key p k else if l<x∧x≤k then Key key p (x-1) else Key key p x:=fun x=>by
   unfold Key;rw[RZ hks (by lia),show k-(k-l)=l by lia];split
   ·rfl
   ·split<;>rfl
  rw[kb,kb]
  repeat' split
  all_goals first
   |(exfalso;lia)
   |exact bW _
   |exact hlo _ (by lia)
   |exact KeyOrd.kle_of_klt (hhi _ (by lia) (by lia))
   |exact h _ _ (by lia) (by lia)
theorem sort(hn:0<n):Wp (E9 key) n (kas_sort n) fun p=>Pm n p∧Up key p n:=by
 have hp:Pm n (List.toArray (List.range n)):=⟨Array.Perm.refl _,hn⟩;unfold kas_sort;refine Wp.bind _ (Wp.mono (fun r hr=>?_) _ (count hp));obtain⟨a,b,c,d⟩:=hr;split
 ·rw[show max r.1 1=r.1 by lia];exact bin _ _ _ a b (by lia) d
 ·have:r.1=n:=by lia
  rw[this]at d;exact⟨a,d⟩
end
end SM
namespace TH
open PySem PySem.W PyProof.Rows PySem.SeqAt
section
variable{A:Around}{E:Value→Shared→Prop}{s:Shared}{a:Addr}{Q:Bool→Shared→Prop}
theorem RS{M:Model}{h:Heap}{a:Addr}{x:Array Value}(h1:h.IsTuple a x):Looks M h (typeOf (.ref a)) (.type "tuple"):=by
 obtain⟨o,ho,hc,_⟩:=h1;exact hc ▸ (Looks.ld ho).andThen .now
theorem YU{M:Model}{vs:List Value}{Q:Option Value→Shared→Prop}(hT:∀v∈vs,Looks M s.heap (typeOf v) (.type "tuple"))(h0:vs=[]→Q none s)(h1:Q (some (.type "tuple")) s):wpAny M A (oneTypeOnly' vs.toArray) Q E s:=by
 rw[oneTypeOnly'_eq,List.mapM_toArray,map_eq_pure_bind];refine aA (aA (kas_mapM (r:=Value.type "tuple") _ (fun v hv Q' hq=>(hT v hv).here hq) (aB ?_)));cases vs with
 |nil=>exact aB (h0 rfl)
 |cons f r =>
  have hall:((List.map (fun _=>Value.type "tuple") (f::r)).toArray.all fun x=>x==Value.type "tuple")=true:=by
   simp only[List.all_toArray,List.all_map,List.all_eq_true];intro _ _
   rfl
  have e0:(List.map (fun _=>Value.type "tuple") (f::r)).toArray[0]? = some (Value.type "tuple"):=by simp
  rw[e0];simp only[hall,if_true];exact aB h1
theorem Q5{α:Type}{cmp:Nat→Nat→(Bool→Shared→Prop)→Shared→Prop}{lt:Nat→Nat→Bool}{n:Nat}{Q':α→Prop}(hc:∀i j C,i<n→j<n→C (lt i j) s→cmp i j C s):∀T:KasT α,SM.Wp lt n T Q'→T.kasWp cmp (fun a s'=>s'=s∧Q' a) s
 |.ret a,h=>⟨rfl,h⟩
 |.ask i j k,h=>hc i j _ h.1 h.2.1 (Q5 hc (k (lt i j)) h.2.2)
end
end TH
namespace TH
open PySem PySem.W PyProof.Rows PySem.SeqAt
theorem map_getD{α:Type}(d:α)(l:List α):(List.range l.length).map (fun i=>l.getD i d)=l:=by
 refine List.ext_getElem (by simp) fun i h1 h2=>?_;simp[h2]
section
theorem VH(b:Bool)(us:List Value)(hz:us.length<2):(if b=true then((if b=true then(us.toArray.zip us.toArray).reverse else us.toArray.zip us.toArray).map (·.2)).reverse else(if b=true then(us.toArray.zip us.toArray).reverse else us.toArray.zip us.toArray).map (·.2))=us.toArray:=by
 match us,hz with
 |[],_=>cases b<;>simp
 |[x],_=>cases b<;>simp
end
end TH
namespace ET
open PySem
section
variable{prog:Program}{w:World}{A:Around}{E:Value→Shared→Prop}{s:Shared}
theorem next_item{it t:Addr}{i:Nat}{items}{x:Value}{Q:Value→Shared→Prop}(hit:s.heap.IsTupleIter it t i)(ht:s.heap.IsTuple t items)(hx:items[i]? = some x)
 (hQ:∀h',h'.IsTupleIter it t (i+1)→Heap.SameBut it s.heap h'→Q x {s with heap:=h'}):wpAny (model prog w) A (Builtin.SmallTypes.nextOf (.ref it)) Q E s:=by
 obtain⟨o,ho,hc,hd⟩:=id hit;obtain⟨ol,hol,_,nl,hdl⟩:=ht;unfold Builtin.SmallTypes.nextOf;refine aA (ai (name:=Str.ofString "__next__") hit.typeIs F.slot_tuple_iterator_next
  (ao F.slot_tuple_iterator_next hit.typeIs F.entry_tuple_iterator_next ?_ (F.args_tuple_iterator_next_1 _)))
 show wpAny _ _ (field (.ref it) 0>>=_) _ _ s;refine aA (ah ho hd (x:=.ref t) rfl ?_);show wpAny _ _ (if(Value.ref t==Value.none)=true then _ else _) _ _ s;rw[if_neg (show ¬((Value.ref t==Value.none)=true) from aJ)];show wpAny _ _ (field (.ref it) 1>>=_) _ _ s;refine aA (ah ho hd (x:=.int i 0) rfl ?_);show wpAny _ _ (seqItems? (.ref t)>>=_) _ _ s;refine aA (bc hol hdl ?_);simp only[Int.toNat_natCast,hx];refine aA (wpAny_setField ho hd (by simp) (aB ⟨x,rfl,wpAny_pure (hQ _ ?_ (bC ..))⟩));exact⟨_,Heap.get?_update_self _ ho (Obj.isFreed_of_fields (Obj.data_mapFields hd _)),(Obj.cls_mapFields ..).trans hc,by
  rw[Obj.data_mapFields hd];simp[rawInt]⟩
theorem next_end{it t:Addr}{i:Nat}{items}{Q:Value→Shared→Prop}(hh:A.handled=none)(hit:s.heap.IsTupleIter it t i)(ht:s.heap.IsTuple t items)(hx:items[i]? = none)
 (hE:∀h' e,Heap.ExtBut it s.heap h'→(∃o,h'.get? e=some o∧o.cls=.type "StopIteration")→E (.ref e) {s with heap:=h'}):wpAny (model prog w) A (Builtin.SmallTypes.nextOf (.ref it)) Q E s:=by
 obtain⟨o,ho,hc,hd⟩:=id hit;obtain⟨ol,hol,_,nl,hdl⟩:=ht;unfold Builtin.SmallTypes.nextOf;refine aA (ai (name:=Str.ofString "__next__") hit.typeIs F.slot_tuple_iterator_next
  (ao F.slot_tuple_iterator_next hit.typeIs F.entry_tuple_iterator_next ?_ (F.args_tuple_iterator_next_1 _)))
 show wpAny _ _ (field (.ref it) 0>>=_) _ _ s;refine aA (ah ho hd (x:=.ref t) rfl ?_);show wpAny _ _ (if(Value.ref t==Value.none)=true then _ else _) _ _ s;rw[if_neg (show ¬((Value.ref t==Value.none)=true) from aJ)];show wpAny _ _ (field (.ref it) 1>>=_) _ _ s;refine aA (ah ho hd (x:=.int i 0) rfl ?_);show wpAny _ _ (seqItems? (.ref t)>>=_) _ _ s;refine aA (bc hol hdl ?_);simp only[Int.toNat_natCast,hx];refine aA (wpAny_rule (aA (wpAny_setField ho hd (by simp) ?_)));show wpAny _ _ (newExc (.type "StopIteration") []>>=_) _ _ _;refine aA ?_;simp only[newExc,newTuple];refine aA (aX ?_ (by size_fits));refine aA (m:=firstArgMember _ _) (wpAny_of_eq (a:=Value.none) (by first|rfl|(simp only[firstArgMember];rfl)) ?_);refine aX ?_ (by size_fits);simp only[raiseNew];refine aA (wpAny_handled ?_)
 first|rw[show A.in1.handled=none from hh]|rw[hh]
 refine aA (aB (wpAny_throw ?_));exact hE _ _ (((bC ..).extBut.push _).push _) ⟨_,Heap.get?_push_size _ rfl,rfl⟩
end
section
open AutoSeq1 (wpAny_loadPart')
theorem UM(l:Addr)(items:Array Value)(n:Nat)(dct:Option Addr)(sl:Array (Option Value)) :
  Meets (Builtin.«enumerate.__new__» ⟨[.type "enumerate",.ref l],[]⟩) (fun _ R s=>s.heap.get? l=some { cls:=.type "tuple",dict:=dct,data:=.seq items n,slots:=sl} ∧
   R (.ok (.ret (.ref (s.heap.push { cls:=.type "tuple_iterator",data:=.fields #[.ref l,.int 0 0]}).objs.size)))
    {s with heap:=(s.heap.push { cls:=.type "tuple_iterator",data:=.fields #[.ref l,.int 0 0]}).push { cls:=.type "enumerate",data:=.fields #[.none,.bool false,.ref s.heap.objs.size,rawInt 0,.none,.none]} }) :=
 .of_wp fun prog w A R s h=>by
  obtain⟨hp,g,d,tk,os⟩:=s;obtain⟨hl,h⟩:=h;have hsub:=sub_enumerate;have hL:Heap.IsTuple (Shared.heap ⟨hp,g,d,tk,os⟩) l items:=⟨_,hl,rfl,n,rfl⟩
  wp_walk using wpAny_loadPart' hl
  refine wpAny_stack_any fun st=>aB ?_;split
  ·rename_i c _ _ _ _ _;cases (c==Value.type "enumerate")
   ·wp_walk using wpAny_loadPart' hl,wpAny_pyIter_tuple hL
    exact⟨_,rfl,h⟩
   ·wp_walk using wpAny_loadPart' hl,wpAny_pyIter_tuple hL
    exact⟨_,rfl,h⟩
  ·wp_walk using wpAny_loadPart' hl,wpAny_pyIter_tuple hL
   exact⟨_,rfl,h⟩
theorem U7{prog:Program}{w:World}{A:Around}{E:Value→Shared→Prop}{s:Shared}{l:Addr}{items:Array Value}{Q:Value→Shared→Prop}(hL:s.heap.IsTuple l items)
 (h:∀h',IsEnum h' (s.heap.objs.size+1) s.heap.objs.size 0 .none→h'.IsTupleIter s.heap.objs.size l 0→h'.objs.size=s.heap.objs.size+2 →
   (∀b o,s.heap.get? b=some o→h'.get? b=some o)→Q (.ref (s.heap.objs.size+1)) {s with heap:=h'}) :
  wpAny (model prog w) A (call (.type "enumerate") [.ref l]) Q E s:=by
 obtain⟨⟨c,dct,dt,sl⟩,hl,hc,n,hd⟩:=hL
 replace hc:c=.type "tuple" := hc
 replace hd:dt=.seq items n:=hd
 subst hc hd;refine callType_new F.called_enumerate (by decide) (F.typeCall_enumerate_1 _) (F.newCall_enumerate_1 _) (fun obj=>F.args_object_init_2 obj _) F.entry_enumerate_new
  (UM l items n dct sl) ⟨hl,?_⟩
 have hz:(s.heap.push { cls:=.type "tuple_iterator",data:=.fields #[.ref l,.int 0 0]}).objs.size=s.heap.objs.size+1:=Heap.size_push ..;show _∧_;rw[hz];have he:IsEnum ((s.heap.push { cls:=.type "tuple_iterator",data:=.fields #[.ref l,.int 0 0]}).push
   { cls:=.type "enumerate",data:=.fields #[.none,.bool false,.ref s.heap.objs.size,rawInt 0,.none,.none]}) (s.heap.objs.size+1) s.heap.objs.size 0 .none:=by
  have:=aT (s.heap.push { cls:=.type "tuple_iterator",data:=.fields #[.ref l,.int 0 0]})
   (o:={ cls:=.type "enumerate",data:=.fields #[.none,.bool false,.ref s.heap.objs.size,rawInt 0,.none,.none]}) rfl
  rw[hz]at this;exact this
 refine⟨⟨_,he,rfl⟩,h _ he ⟨_,Heap.get?_push_of_some _ (aT _ rfl),rfl,rfl⟩ (by rw[Heap.size_push,hz]) fun b o x=>aD _ (aD _ x)⟩
end
theorem draws{prog:Program}{w:World}{A:Around}(hh:A.handled=none)(it a:Addr)(its:List Value)(hne:a≠it) :
  Draws prog w A it [it,a] its.length (fun i x=>its[i]? = some x) (fun i h=>h.IsTupleIter it a i∧h.IsTuple a its.toArray) where
 live:=fun i h st=>let⟨o,e,_⟩:=st.1;⟨o,e⟩
 frame:=fun i h h' st k=>by
  obtain⟨⟨o,e,r⟩,o2,e2,r2⟩:=st;exact⟨⟨o,k it (by simp) o e,r⟩,o2,k a (by simp) o2 e2,r2⟩
 item:=fun i s Q E hi st hQ=>next_item st.1 st.2 (x:=its[i]) (by simp[hi]) fun h' st' sb =>
  hQ _ h' s.toks (by simp[hi]) ⟨st',let⟨o,e,r⟩:=st.2;⟨o,(sb.2 a hne).trans e,r⟩⟩ sb
 done:=fun s Q E st hE=>next_end hh st.1 st.2 (by simp) hE
end ET
namespace L2
open PySem PySem.Spec PyProof.Rows
def Ts(H:Hp):Tr→List V→Prop
 |.nil,xs=>xs=[]
 |.cons b r,xs=>∃(a:Addr) (ys zs:List V),xs=.ref a::zs∧H a=some (.tup ys)∧Ts H b ys∧Ts H r zs
def Tv(H:Hp)(t:Tr)(v:V):Prop:=∃(a:Addr) (ys:List V),v=.ref a∧H a=some (.tup ys)∧Ts H t ys
theorem Ts.same{H H':Hp}(e:AG H H'):∀ {t:Tr} {xs:List V},Ts H t xs→Ts H' t xs
 |.nil,xs,h=>by rw[Ts]at h ⊢;exact h
 |.cons b r,xs,h=>by
  rw[Ts]at h ⊢;obtain⟨a,ys,zs,e1,h1,h2,h3⟩:=h;exact⟨a,ys,zs,e1,e _ _ h1,h2.same e,h3.same e⟩
theorem Tv.same{H H':Hp}{t:Tr}{v:V}(h:Tv H t v)(e:AG H H'):Tv H' t v:=let⟨a,ys,e1,h1,h2⟩:=h;⟨a,ys,e1,e _ _ h1,h2.same e⟩
def cD(K:PySem.W.Frag)(a:Addr):It :=
 ⟨fun i H=>∃xs x,Ap K H a xs∧xs[i]? = some x,fun i H v H'=>∃p x,v=.ref p∧H p=none∧H'=upd H p (.tup [.int i,x])∧∀xs,Ap K H a xs→xs[i]? = some x,fun i H=>∃xs,Ap K H a xs∧xs.length=i⟩
theorem U8{P:Program}{w:World}{K:PySem.W.Frag}{elts:List Expr}{x1}{pos:Pos}(a e it:Addr)(hne:e≠it) :
  Turn P w K (.Tuple elts x1 pos) (cD K a) [e,it] e (fun i h=>(∃old,IsEnum h e it (i:Nat) old)∧h.IsTupleIter it a i) where
 mem:=by simp
 obj:=fun i h st b hb=>by
  rcases aS.mp hb with rfl|hb
  ·obtain⟨⟨old,q⟩,_⟩:=st;exact⟨_,q,fun v z=>by cases z⟩
  ·have e2:b=it:=by simpa using hb
   subst e2;obtain⟨_,o,q,c,d⟩:=st;exact⟨o,q,fun v z=>by rw[d]at z;cases z⟩
 keep:=fun i h h' st k=>by
  obtain⟨⟨old,q⟩,o,q2,r⟩:=st;exact⟨⟨old,k e (by simp) _ q⟩,o,k it (by simp) _ q2,r⟩
 item:=by
  intro X hP hw hK hc i pins s σ H E I hf st hg;subst hP hw hK;obtain⟨xs,x,hq,hx⟩:=hg;obtain⟨its,rv,p,hz⟩:=I.tuple hq;obtain⟨u,hu,ru⟩:=rv.get hx;obtain⟨⟨old,he⟩,hit⟩:=st;have hai:a≠it:=fun z=>by
   obtain⟨o,e1,c1,_⟩:=p;obtain⟨o2,e2,c2,_⟩:=hit;rw[z,e2]at e1;cases e1;rw[c1]at c2;exact absurd c2 (by decide)
  have hae:a≠e:=fun z=>by
   obtain⟨o,e1,c1,_⟩:=p;rw[z,he]at e1;cases e1;exact absurd (show Value.type "enumerate" = Value.type "tuple" from c1) (by decide)
  have hlt:i<its.length:=(aC.mp hu).1;have hE0:=hf e (by simp);have hI0:=hf it (by simp);refine wpAny_pyNext_enum_itemD (ET.draws (prog:=X.prog) (w:=X.w) (A:=X.A.in1) (I.ok.hd hc) it a its hai) he ⟨hit,p⟩ hlt hne (by simp[hne,Ne.symm hae]) fun y h' tk hy ho hs' hT hsz hk=>⟨_,rfl,wpAny_letOwnedTupleGo_enum (s:={s with heap:=h',toks:=tk+1}) ho fun h'' he'' sb=>?_⟩;have hyu:y=u:=by rw[hu]at hy;exact(aW hy).symm
  subst hyu;have keep:∀b o,b≠e→b≠it→s.heap.get? b=some o→h''.get? b=some o:=fun b o h1 h2 q=>(sb.2 b h1).trans (hk b o h1 h2 q);have hTe:s.heap.objs.size≠e:=aq (aE he);have hTi:s.heap.objs.size≠it:=let⟨_,q,_⟩:=hit;aq (aE q);have hT'':h''.get? s.heap.objs.size=some { cls:=.type "tuple",data:=.seq #[.int i tk,y]}:=(sb.2 _ hTe).trans hT;have hTn:H s.heap.objs.size=none:=I.Ah.fresh (aG _);have neT:∀b o,s.heap.get? b=some o→b≠s.heap.objs.size:=fun b o q=>aN (aE q);have FO:∀b o,H b=some o→b≠e∧b≠it:=fun b o q=>⟨(fun z=>by rw[z,hE0.1]at q;cases q),(fun z=>by rw[z,hI0.1]at q;cases q)⟩;refine⟨.ref s.heap.objs.size,upd H s.heap.objs.size (.tup [.int i,x]),?_,rfl,⟨_,x,rfl,hTn,rfl,fun ys hy=>by rw[I.OM hy hq];exact hx⟩,⟨⟨_,by simpa using he''⟩,?_⟩,fun b hb=>?_⟩
  ·show Inv X pins σ _ {s with heap:=h'',gens:=s.gens,drawn:=s.drawn,toks:=tk+1};refine I.step (h':=h'') (g':=s.gens) (d':=s.drawn) (t':=tk+1) (ch:=[e,it]) (fun b hb=>?_) (fun b o _ _ hc q _=>keep b o (fun z=>hc (by simp[z])) (fun z=>hc (by simp[z])) q) (fun b o _ _ hc q _=>⟨o.slots,keep b o (fun z=>hc (by simp[z])) (fun z=>hc (by simp[z])) q⟩)
    (fun b o _ q n=>by rw[AE (neT b o q)];exact n) (fun b o hc q=>⟨o,keep b o (fun z=>hc (by simp[z])) (fun z=>hc (by simp[z])) q⟩) (fun b ys q=>by rw[AE (AK q hTn)];exact q) (fun b o u q=>by rw[AE (AK q hTn)];exact q)
    (fun b ps q=>⟨#[],by rw[AE (AK q hTn),q];simp⟩) (fun b _ o hc _ q=>keep b o (fun z=>hc (by simp[z])) (fun z=>hc (by simp[z])) q) (fun m hm=>?_) (fun b o q=>?_) I.bare
   ·rcases aS.mp hb with rfl|hb
    ·exact⟨hE0.2.2.2.1,hE0.2.1,hE0.2.2.2.2.1,hE0.2.2.2.2.2⟩
    ·have e2:b=it:=by simpa using hb
     subst e2;exact⟨hI0.2.2.2.1,hI0.2.1,hI0.2.2.2.2.1,hI0.2.2.2.2.2⟩
   ·obtain⟨o,es,ep,ho,r⟩:=hm;exact⟨o,es,ep,keep _ o (Ne.symm hE0.2.1) (Ne.symm hI0.2.1) ho,r⟩
   ·by_cases hb:b=s.heap.objs.size
    ·subst hb;rw[AI]at q;cases q;exact⟨Sg,[.int i tk,y],.cons ⟨tk,rfl⟩ (.cons ru .nil),_,hT'',rfl,_,rfl⟩
    ·rw[AE hb]at q;refine(I.Ah b o q).Gq (fun c v hc r=>keep c v ?_ ?_ r) (fun c r=>by rw[AE (AK r hTn)];exact r) fun c ys r=>by rw[AE (AK r hTn)];exact r
     ·rcases hc with rfl|hc
      ·exact(FO _ _ q).1
      ·exact(FO _ _ hc).1
     ·rcases hc with rfl|hc
      ·exact(FO _ _ q).2
      ·exact(FO _ _ hc).2
  ·obtain⟨⟨o,q,r⟩,_⟩:=hs';exact⟨o,(sb.2 it (Ne.symm hne)).trans q,r⟩
  ·rcases aS.mp hb with rfl|hb
   ·rw[AE (Ne.symm hTe)];exact hE0.1
   ·have e2:b=it:=by simpa using hb
    subst e2;rw[AE (Ne.symm hTi)];exact hI0.1
 done:=by
  intro X hP hw hK hc i pins s σ H E I hf st hg;subst hP hw hK;obtain⟨xs,hq,hx⟩:=hg;obtain⟨its,rv,p,hz⟩:=I.tuple hq;obtain⟨⟨old,he⟩,hit⟩:=st;have hai:a≠it:=fun z=>by
   obtain⟨o,e1,c1,_⟩:=p;obtain⟨o2,e2,c2,_⟩:=hit;rw[z,e2]at e1;cases e1;rw[c1]at c2;exact absurd c2 (by decide)
  have hl:its.length=i:=by rw[←rv.length];exact hx
  subst hl;obtain⟨f0,f1,f2,f3,f4,f5⟩:=hf it (by simp);exact wpAny_pyNext_enum_endD (ET.draws (prog:=X.prog) (w:=X.w) (A:=X.A.in1) (I.ok.hd hc) it a its hai) he ⟨hit,p⟩ fun h' eb=>⟨rfl,I.turned (t':=s.toks) (fun b o hb q=>eb b o hb q) f0 f1 f3 f4 f5⟩
 self:=fun _ _ _ _ _ st h=>by
  obtain⟨⟨old,he⟩,_⟩:=st;exact wpAny_pyIter_enum he h
def dw(K:PySem.W.Frag)(ta:TA):TI:=fun σ H R=>ta σ H fun vs H1=>∃a,vs=[.ref a]∧(∃xs,Ap K H1 a xs)∧R (cD K a) H1
theorem YB{X:Cx}{elts:List Expr}{x1}{tpos:Pos}{a:Expr}{ta:TA}{p pos:Pos}(hg:Gl X "enumerate")(hm:X.mg "enumerate" = none)(ha:PA X [a] ta)(hs:starEach [a] X.env=[(false,eval a X.env)]:=by rfl) :
  PI X (.Tuple elts x1 tpos) (.Call (.Name "enumerate" p) [a] [] pos) (dw X.K ta):=by
 intro pins s σ H R I h;refine Call_ (EX I hg hm boot_enumerate (bF (Av (ha pos pins s σ H _ I h) fun us s1 ⟨vs,H1,I1,r1,q1⟩=>?_) hs rfl));obtain⟨t,e,⟨xs,hq⟩,q⟩:=q1;subst e;cases r1 with
 |cons r rr =>
  cases rr;cases r;obtain⟨its,rv,p',hz⟩:=I1.tuple hq;refine ET.U7 (show s1.heap.IsTuple t its.toArray from p') fun h' he hit hsz hk=>wpAny_pyIter_enum he ?_;have I2:Inv X pins σ H1 {s1 with heap:=h'}:=I1.kept (t':=s1.toks) hk;have hn:s1.heap.objs.size+1≠s1.heap.objs.size:=by lia
  refine⟨s1.heap.objs.size+1,[s1.heap.objs.size+1,s1.heap.objs.size],_,_,H1,rfl,I2,U8 t _ _ hn,⟨⟨_,he⟩,hit⟩,fun b hb=>?_,q⟩;have hb':s1.heap.objs.size≤b:=by
   have hb2:b=s1.heap.objs.size+1∨b=s1.heap.objs.size:=by simpa using hb
   rcases hb2 with z|z
   ·rw[z];exact Nat.le_succ _
   ·rw[z];exact aG _
  exact I1.Mz hb' (I1.Ah.fresh hb')
end L2
namespace L2
open PySem PySem.Spec PyProof.Rows
theorem Vals.pick{xs:List V}{us:List Value}(r:Vals xs us):∀ix:List Nat,(∀i∈ix,i<xs.length)→Vals (ix.map fun i=>xs.getD i .BA) (ix.map fun i=>us.getD i Value.none)
 |[],_=>.nil
 |i::ix,h=>by
  refine .cons ?_ (Vals.pick r ix fun k hk=>h k (aV _ hk));have hi:=h i aa;obtain⟨u,h1,h2⟩:=r.get (i:=i) (x:=xs[i]) (by simp[hi]);show RelV (xs.getD i .BA) (us.getD i Value.none);rw[List.getD_eq_getElem?_getD,List.getD_eq_getElem?_getD,h1,List.getElem?_eq_getElem hi];exact h2
def CW(Pv:Nat→List V→Hp→Prop)(n:Nat)(D:Addr):Nat→Nat→List V→Hp→Prop:=fun i m ys H=>m=n-i∧i≤n∧H D=some (.lst ys)∧Pv i ys H
theorem BZ{Pv:Nat→List V→Hp→Prop}{n i:Nat}{D:Addr}{ys:List V}{y:V}{H:Hp}(hi:i<n)(p:Pv (i+1) (ys++[y]) (upd H D (.lst (ys++[y])))):∃m',m'<n-i∧CW Pv n D (i+1) m' (ys++[y]) (upd H D (.lst (ys++[y]))) :=
 ⟨n-(i+1),by lia,rfl,hi,AI,p⟩
theorem SN{Pv:Nat→List V→Hp→Prop}{n i:Nat}{D:Addr}{ys:List V}{H:Hp}(hi:i<n)(hD:H D=some (.lst ys))(p:Pv (i+1) ys H):∃m',m'<n-i∧CW Pv n D (i+1) m' ys H:=⟨n-(i+1),by lia,rfl,hi,hD,p⟩
theorem Ce{J:It}{n:Nat}{D:Addr}{H1:Hp}{fr:List (Option Nat)}{σ:St}{ix:Nat}{tif:TT}{te:TE}{G:Hp→Prop}(Pv:Nat→List V→Hp→Prop)(h0:Pv 0 [] (upd H1 D (.lst [])))
 (hgo:∀i ys H,i<n→Pv i ys H→H D=some (.lst ys)→J.go i H∧ys.length<sizeLine∧∀x H',J.Df i H x H' →
   tif ((carry fr σ).set ix (some x)) H' fun b H2=>if b=true then te ((carry fr σ).set ix (some x)) H2 fun y H3=>H3 D=some (.lst ys)∧∃m',m'<n-i∧CW Pv n D (i+1) m' (ys++[y]) (upd H3 D (.lst (ys++[y])))
    else ∃m',m'<n-i∧CW Pv n D (i+1) m' ys H2)
 (hstop:∀ys H,Pv n ys H→H D=some (.lst ys)→J.stop n H∧G H) :
  ∃W:Nat→Nat→List V→Hp→Prop,(∃m,W 0 m [] (upd H1 D (.lst []))) ∧
   ∀i m ys H,W i m ys H→H D=some (.lst ys)∧((J.stop i H∧G H)∨(J.go i H∧ys.length<sizeLine∧∀x H',J.Df i H x H' →
    tif ((carry fr σ).set ix (some x)) H' fun b H2=>if b=true then te ((carry fr σ).set ix (some x)) H2 fun y H3=>H3 D=some (.lst ys)∧∃m',m'<m∧W (i+1) m' (ys++[y]) (upd H3 D (.lst (ys++[y])))
     else ∃m',m'<m∧W (i+1) m' ys H2)):=by
 refine⟨CW Pv n D,⟨n,by simp,Nat.zero_le _,AI,h0⟩,?_⟩;rintro i m ys H ⟨rfl,hi,hH,p⟩;refine⟨hH,?_⟩;by_cases hlt:i<n
 ·exact .inr (hgo i ys H hlt p hH)
 ·have e:i=n:=by lia
  subst e;exact .inl (hstop ys H p hH)
section
variable{X:Cx}
theorem Wd(hc:X.calm=true):EE X (.builtin "all") (fun xs H Q=>∃(p:Addr) (bs:List Bool),xs=[.ref p]∧AQ X.K H p (bs.map V.bl)∧Q (.bl (bs.all id)) H):=by
 intro pins s σ H xs us Q I r h;obtain⟨p,bs,rfl,hq,q⟩:=h;obtain⟨u,rfl,r1⟩:=r.one;cases r1;obtain⟨its,rv,pl,hz⟩:=I.list hq;have hl:s.heap.IsList p its.toArray:=pl.isList;have hlt:p<s.heap.objs.size:=by obtain⟨_,e,_⟩:=hl;exact aE e
 have hlen:its.length=bs.length:=by rw[←rv.length,List.length_map]
 refine call_all_walk (wpAny_pyIter_list hl ?_);refine⟨s.heap.objs.size,[s.heap.objs.size,p],[s.heap.objs.size],its.toArray.size,_,_,fun i=>(bs[i]?).getD true,rfl,Walks.list (A:=X.A.in1) (I.ok.hd hc) _ p (aN hlt) its.toArray,
  ⟨⟨_,Heap.get?_push_size _ rfl,rfl,rfl⟩,hl.push _⟩,fun i v s' Q' E' hP hQ=>?_,fun h' tk hk=>?_⟩
 ·have hv:its[i]? = some v:=by simpa using hP
  have hi:i<bs.length:=by rw[←hlen];exact(aC.mp hv).1
  obtain⟨u,h1,h2⟩:=rv.get (i:=i) (x:=.bl bs[i]) (by rw[List.getElem?_map,List.getElem?_eq_getElem hi];rfl);rw[hv]at h1;cases h1;cases h2;simp only[List.getElem?_eq_getElem hi,Option.getD_some]at hQ;exact bZ hQ
 ·have e:((List.range its.toArray.size).all fun i=>(bs[i]?).getD true)=bs.all id:=by
   rw[List.size_toArray,hlen];exact PyProof.Rows.LSm.range_all bs
  rw[e];exact⟨.bl _,H,I.kept (t':=tk) (PyProof.Rows.LSm.kept_iter hk),rfl,q⟩
theorem Pe(hc:X.calm=true):EE X (.builtin "sum") (fun xs H Q=>∃(p:Addr) (ns:List Int),xs=[.ref p]∧AQ X.K H p (ns.map V.int)∧Q (.int ns.sum) H):=by
 intro pins s σ H xs us Q I r h;obtain⟨p,ns,rfl,hq,q⟩:=h;obtain⟨u,rfl,r1⟩:=r.one;cases r1;obtain⟨its,rv,pl,hz⟩:=I.list hq;have hi:=intsAre_of rv;obtain⟨xs,hx⟩:=hi.allInts.items;have hl':s.heap.IsList p (intItems xs):=hx ▸ pl.isList
 refine sum_intListG (I.ok.hd hc) hl' fun h' tk t' hk=>?_;have e1:ns=xs.toList.map (·.1):=by
  rw[←nums_intItems,←hx];exact(show numsOf its.toArray.toList=ns from hi.numsOf).symm
 have e2:preSum (numAt xs) xs.size=ns.sum:=by
  rw[preSum_eq,List.take_of_length_le (by simp),e1]
 rw[e2];exact⟨.int _,H,I.kept (t':=tk) hk,⟨t',rfl⟩,q⟩
end
section
variable{X:Cx}{scope:Scope}{cl:List (Str×Addr)}{N:List Str}{C:Addr}{s₀:Shared}{H₀:Hp}{fp:List Addr}
theorem Ja:KP (Ak X scope cl N C s₀ H₀ fp) (WJ X.K):=D6
theorem HK:KP (Ak X scope cl N C s₀ H₀ fp) (Wm X.K):=CH
end
mutual
def Dt(l:Addr)(H:Hp):PyData→V→Prop
 |.none,v=>v=.BA
 |.bool b,v=>v=.bl b
 |.int i,v=>v=.int i
 |.str x,v=>v=.str x
 |.tuple ds,v=>∃(a:Addr) (xs:List V),v=.ref a∧a≠l∧H a=some (.tup xs)∧AO l H ds xs
 |.list ds,v=>∃(a:Addr) (xs:List V),v=.ref a∧a≠l∧H a=some (.lst xs)∧AO l H ds xs
 |.dict _,_=>False
def AO(l:Addr)(H:Hp):List PyData→List V→Prop
 |[],xs=>xs=[]
 |d::ds,xs=>∃x r,xs=x::r∧Dt l H d x∧AO l H ds r
end
mutual
theorem Dt.but{l:Addr}{H H':Hp}(e:SameBut l H H'):∀ {d:PyData} {v:V},Dt l H d v→Dt l H' d v
 |.none,_,h=>by rw[Dt]at h ⊢;exact h
 |.bool _,_,h=>by rw[Dt]at h ⊢;exact h
 |.int _,_,h=>by rw[Dt]at h ⊢;exact h
 |.str _,_,h=>by rw[Dt]at h ⊢;exact h
 |.tuple _,_,h=>by
  rw[Dt]at h ⊢;obtain⟨a,xs,e1,n,h1,h2⟩:=h;exact⟨a,xs,e1,n,e _ _ n h1,AO.but e h2⟩
 |.list _,_,h=>by
  rw[Dt]at h ⊢;obtain⟨a,xs,e1,n,h1,h2⟩:=h;exact⟨a,xs,e1,n,e _ _ n h1,AO.but e h2⟩
 |.dict _,_,h=>by rw[Dt]at h;exact h.elim
theorem AO.but{l:Addr}{H H':Hp}(e:SameBut l H H'):∀ {ds:List PyData} {xs:List V},AO l H ds xs→AO l H' ds xs
 |[],_,h=>by rw[AO]at h ⊢;exact h
 |_::_,_,h=>by
  rw[AO]at h ⊢;obtain⟨x,r,e1,h1,h2⟩:=h;exact⟨x,r,e1,Dt.but e h1,AO.but e h2⟩
end
theorem Dt.same{l:Addr}{H H':Hp}{d:PyData}{v:V}(h:Dt l H d v)(e:AG H H'):Dt l H' d v:=Dt.but (.of e) h
theorem AO.same{l:Addr}{H H':Hp}{d:List PyData}{v:List V}(h:AO l H d v)(e:AG H H'):AO l H' d v:=AO.but (.of e) h
mutual
theorem Dt.br{K:PySem.W.Frag}{l:Addr}{H:Hp}:∀ {d:PyData} {v:V},Dt l H d v→Br K H d v
 |.none,_,h=>by rw[Dt]at h;rw[Br];exact h
 |.bool _,_,h=>by rw[Dt]at h;rw[Br];exact h
 |.int _,_,h=>by rw[Dt]at h;rw[Br];exact h
 |.str _,_,h=>by rw[Dt]at h;rw[Br];exact h
 |.tuple _,_,h=>by
  rw[Dt]at h;rw[Br];obtain⟨a,xs,e1,n,h1,h2⟩:=h;exact⟨a,xs,e1,Ap.of h1,AO.br h2⟩
 |.list _,_,h=>by
  rw[Dt]at h;rw[Br];obtain⟨a,xs,e1,n,h1,h2⟩:=h;exact⟨a,xs,e1,AQ.of h1,AO.br h2⟩
 |.dict _,_,h=>by rw[Dt]at h;exact h.elim
theorem AO.br{K:PySem.W.Frag}{l:Addr}{H:Hp}:∀ {ds:List PyData} {xs:List V},AO l H ds xs→DH K H ds xs
 |[],_,h=>by rw[AO]at h;rw[DH];exact h
 |_::_,_,h=>by
  rw[AO]at h;rw[DH];obtain⟨x,r,e1,h1,h2⟩:=h;exact⟨x,r,e1,Dt.br h1,AO.br h2⟩
end
theorem AO.len{l:Addr}{H:Hp}:∀ {ds:List PyData} {xs:List V},AO l H ds xs→xs.length=ds.length
 |[],_,h=>by rw[AO]at h;rw[h];rfl
 |_::_,_,h=>by
  rw[AO]at h;obtain⟨x,r,rfl,_,h2⟩:=h;rw[List.length_cons,List.length_cons,AO.len h2]
theorem AO.get{l:Addr}{H:Hp}:∀ {ds:List PyData} {xs:List V} {i:Nat} {v:V},AO l H ds xs→xs[i]? = some v→∃d,ds[i]? = some d∧Dt l H d v
 |[],_,i,v,h,e=>by rw[AO]at h;subst h;simp at e
 |d::ds,_,i,v,h,e=>by
  rw[AO]at h;obtain⟨x,r,rfl,h1,h2⟩:=h;cases i with
  |zero=>simp at e;subst e;exact⟨d,rfl,h1⟩
  |succ i =>
   obtain⟨c,q1,q2⟩:=h2.get (i:=i) (v:=v) (by simpa using e);exact⟨c,by simpa using q1,q2⟩
theorem AO.nil{l:Addr}{H:Hp}:AO l H [] []:=by rw[AO]
theorem AO.cons{l:Addr}{H:Hp}{d:PyData}{ds:List PyData}{x:V}{xs:List V}(h:Dt l H d x)(k:AO l H ds xs):AO l H (d::ds) (x::xs):=by
 rw[AO];exact⟨x,xs,rfl,h,k⟩
theorem AO.app{l:Addr}{H:Hp}:∀ {ds es:List PyData} {xs ys:List V},AO l H ds xs→AO l H es ys→AO l H (ds++es) (xs++ys)
 |[],_,_,_,h,k=>by rw[AO]at h;subst h;exact k
 |d::ds,es,_,ys,h,k=>by
  rw[AO]at h;obtain⟨x,r,rfl,h1,h2⟩:=h;exact .cons h1 (h2.app k)
theorem Dt.int{l:Addr}{H:Hp}{i:Int}:Dt l H (.int i) (.int i):=by rw[Dt]
theorem Dt.bool{l:Addr}{H:Hp}{b:Bool}:Dt l H (.bool b) (.bl b):=by rw[Dt]
theorem Dt.BA{l:Addr}{H:Hp}:Dt l H .none .BA:=by rw[Dt]
theorem Dt.str{l:Addr}{H:Hp}{x:Str}:Dt l H (.str x) (.str x):=by rw[Dt]
theorem Dt.tup{l a:Addr}{H:Hp}{ds:List PyData}{xs:List V}(n:a≠l)(h:H a=some (.tup xs))(k:AO l H ds xs):Dt l H (.tuple ds) (.ref a):=by rw[Dt];exact⟨a,xs,rfl,n,h,k⟩
theorem Dt.lst{l a:Addr}{H:Hp}{ds:List PyData}{xs:List V}(n:a≠l)(h:H a=some (.lst xs))(k:AO l H ds xs):Dt l H (.list ds) (.ref a):=by rw[Dt];exact⟨a,xs,rfl,n,h,k⟩
def Ok(n:Nat)(d:PyData):Prop:=d.canLay0=true∧d.depth≤n
def Eu(n:Nat)(ds:List PyData):Prop:=PyData.canLayAll0 ds=true∧PyData.depthAll ds≤n
theorem Ok.shaped{n:Nat}{d:PyData}(h:Ok n d)(hn:n≤64):SeqAt.shaped d=true:=by
 unfold SeqAt.shaped;rw[h.1,Bool.true_and];exact bP (aR h.2 hn)
theorem Eu.nil{n:Nat}:Eu n []:=⟨by simp[PyData.canLayAll0],by simp[PyData.depthAll]⟩
theorem Eu.cons{n:Nat}{d:PyData}{ds:List PyData}(h:Ok n d)(k:Eu n ds):Eu n (d::ds):=⟨by simp[PyData.canLayAll0,h.1,k.1],by simp only[PyData.depthAll];exact Nat.max_le.mpr ⟨h.2,k.2⟩⟩
theorem Eu.of{n:Nat}:∀ {ds:List PyData},(∀d∈ds,Ok n d)→Eu n ds
 |[],_=>.nil
 |d::ds,h=>.cons (h d aa) (Eu.of fun e he=>h e (aV _ he))
theorem Ok.tup{n:Nat}{ds:List PyData}(h:Eu n ds):Ok (n+1) (.tuple ds):=⟨by simp only[PyData.canLay0];exact h.1,by simp only[PyData.depth];exact Nat.succ_le_succ h.2⟩
theorem Ok.lst{n:Nat}{ds:List PyData}(h:Eu n ds):Ok (n+1) (.list ds):=⟨by simp only[PyData.canLay0];exact h.1,by simp only[PyData.depth];exact Nat.succ_le_succ h.2⟩
theorem Ok.int{n:Nat}{i:Int}:Ok n (.int i):=⟨by simp[PyData.canLay0],by simp[PyData.depth]⟩
theorem Ok.bool{n:Nat}{b:Bool}:Ok n (.bool b):=⟨by simp[PyData.canLay0],by simp[PyData.depth]⟩
theorem Ok.BA{n:Nat}:Ok n .none:=⟨by simp[PyData.canLay0],by simp[PyData.depth]⟩
theorem Ok.str{n:Nat}{x:Str}(h:PyData.strOk x=true):Ok n (.str x):=⟨by simp[PyData.canLay0,h],by simp[PyData.depth]⟩
mutual
theorem Jg:∀d:PyData,d.canLay0=true→PyData.eqv d d=true
 |.none,_=>by simp[PyData.eqv]
 |.bool _,_=>by simp[PyData.eqv]
 |.int _,_=>by simp[PyData.eqv]
 |.str _,_=>by simp[PyData.eqv]
 |.tuple ds,h=>by simp only[PyData.eqv];exact IQ ds (by simpa only[PyData.canLay0]using h)
 |.list ds,h=>by simp only[PyData.eqv];exact IQ ds (by simpa only[PyData.canLay0]using h)
 |.dict _,h=>by simp[PyData.canLay0]at h
theorem IQ:∀ds:List PyData,PyData.canLayAll0 ds=true→PyData.eqvAll ds ds=true
 |[],_=>by simp[PyData.eqvAll]
 |d::ds,h=>by
  simp only[PyData.canLayAll0,Bool.and_eq_true]at h;simp only[PyData.eqvAll,Jg d h.1,IQ ds h.2,Bool.and_self]
end
def Lj:PyData→String
 |.none => "NoneType"
 |.bool _ => "bool"
 |.int _ => "int"
 |.str _ => "str"
 |.tuple _ => "tuple"
 |.list _ => "list"
 |.dict _ => "dict"
theorem Dt.ty{K:PySem.W.Frag}{l:Addr}{H:Hp}:∀ {d:PyData} {v:V},Dt l H d v→FG K H v (.type (Lj d))
 |.none,_,h=>by rw[Dt]at h;subst h;exact .BA
 |.bool _,_,h=>by rw[Dt]at h;subst h;exact .bl _
 |.int _,_,h=>by rw[Dt]at h;subst h;exact .int _
 |.str _,_,h=>by rw[Dt]at h;subst h;exact .str _
 |.tuple _,_,h=>by rw[Dt]at h;obtain⟨a,xs,rfl,_,h1,_⟩:=h;exact .tup h1
 |.list _,_,h=>by rw[Dt]at h;obtain⟨a,xs,rfl,_,h1,_⟩:=h;exact .lst h1
 |.dict _,_,h=>by rw[Dt]at h;exact h.elim
def Cm:PyData→Bool
 |.tuple _=>true
 |_=>false
def CG:PyData→Bool
 |.list _=>true
 |_=>false
def Gg:PyData→Bool
 |.int _=>true
 |.bool _=>true
 |_=>false
def FJ:PyData→Bool
 |.bool _=>true
 |_=>false
theorem Dl(K:PySem.W.Frag):∀d:PyData,(∀kv,d≠.dict kv)→PySem.W.kitOne K (.type (Lj d)) (.type "tuple")=some (Cm d)
 |.none,_=>Zg K
 |.bool _,_=>Zo K
 |.int _,_=>Yu K
 |.str _,_=>cA K
 |.tuple _,_=>Yx K
 |.list _,_=>Y5 K
 |.dict kv,h=>absurd rfl (h kv)
theorem CT(K:PySem.W.Frag):∀d:PyData,(∀kv,d≠.dict kv)→PySem.W.kitOne K (.type (Lj d)) (.type "list")=some (CG d)
 |.none,_=>cS K
 |.bool _,_=>Y1 K
 |.int _,_=>Zu K
 |.str _,_=>Y2 K
 |.tuple _,_=>cN K
 |.list _,_=>Z0 K
 |.dict kv,h=>absurd rfl (h kv)
theorem bz(K:PySem.W.Frag):PySem.W.kitOne K (.type "NoneType") (.type "bool")=some false:=by kernel_rfl
theorem cW(K:PySem.W.Frag):PySem.W.kitOne K (.type "str") (.type "bool")=some false:=by kernel_rfl
theorem bh(K:PySem.W.Frag):PySem.W.kitOne K (.type "tuple") (.type "bool")=some false:=by kernel_rfl
theorem cK(K:PySem.W.Frag):PySem.W.kitOne K (.type "list") (.type "bool")=some false:=by kernel_rfl
theorem Qj(K:PySem.W.Frag):∀d:PyData,(∀kv,d≠.dict kv)→PySem.W.kitOne K (.type (Lj d)) (.type "int")=some (Gg d)
 |.none,_=>Zn K
 |.bool _,_=>Zr K
 |.int _,_=>cV K
 |.str _,_=>ZC K
 |.tuple _,_=>Yv K
 |.list _,_=>cT K
 |.dict kv,h=>absurd rfl (h kv)
theorem OY(K:PySem.W.Frag):∀d:PyData,(∀kv,d≠.dict kv)→PySem.W.kitOne K (.type (Lj d)) (.type "bool")=some (FJ d)
 |.none,_=>bz K
 |.bool _,_=>ZS K
 |.int _,_=>ZI K
 |.str _,_=>cW K
 |.tuple _,_=>bh K
 |.list _,_=>cK K
 |.dict kv,h=>absurd rfl (h kv)
theorem Dt.nodict{l:Addr}{H:Hp}{d:PyData}{v:V}(h:Dt l H d v):∀kv,d≠.dict kv:=fun kv z=>by subst z;rw[Dt]at h;exact h
end L2
namespace L2
open PySem PySem.Spec PyProof.Rows
def leaf:PyData→Prop
 |.none=>True
 |.bool _=>True
 |.int _=>True
 |.str x=>PyData.strOk x=true
 |_=>False
def Sm:Nat→PyData→Prop
 |0,d=>leaf d
 |n+1,d=>leaf d∨∃ds,(d=.tuple ds∨d=.list ds)∧ds.length≤60∧∀e∈ds,Sm n e
theorem leaf.ok{n:Nat}:∀ {d:PyData},leaf d→Ok n d
 |.none,_=>.BA
 |.bool _,_=>.bool
 |.int _,_=>.int
 |.str _,h=>.str h
theorem Sm.ok:∀ {n:Nat} {d:PyData},Sm n d→Ok n d
 |0,_,h=>leaf.ok h
 |n+1,d,h=>by
  rcases h with h|⟨ds,h1,_,h2⟩
  ·exact h.ok
  ·have:=Eu.of fun e he=>(h2 e he).ok;rcases h1 with rfl|rfl
   ·exact .tup this
   ·exact .lst this
theorem Sm.tup{n:Nat}{ds:List PyData}(h:ds.length≤60)(k:∀e∈ds,Sm n e):Sm (n+1) (.tuple ds):=.inr ⟨ds,.inl rfl,h,k⟩
section
variable{X:Cx}
def dA:R2:=fun x y H Q=>∃a b xs ys,x=.ref a∧y=.ref b∧H a=some (.tup xs)∧H b=some (.tup ys)∧xs.length+ys.length≤sizeLine∧∀p H',AG H H'→H' p=some (.tup (xs++ys))→Q (.ref p) H'
theorem NX:B9 X (binaryOp .Add) dA:=by
 intro pins s σ H x y v u Q I rx ry h;obtain⟨a,b,xs,ys,rfl,rfl,ha,hb,hz,q⟩:=h;cases rx;cases ry;obtain⟨its,r1,p1,_⟩:=I.tuple (Ap.of (K:=X.K) ha);obtain⟨its2,r2,p2,_⟩:=I.tuple (Ap.of (K:=X.K) hb);by_cases hv:its=[]
 ·have hx:=r1.Sb.mp hv;subst hv hx;obtain⟨⟨cls,dd,data,sl⟩,ho,hc,n,hd⟩:=id p1;obtain⟨⟨cls2,dd2,data2,sl2⟩,ho2,hc2,n2,hd2⟩:=id p2;simp only at hc hd hc2 hd2;subst hc hd hc2 hd2;exact concat_meets ⟨_,ho,rfl⟩ ⟨_,ho2,rfl⟩ noFill_tuple_add seq_tuple_add PySem.F.slot_tuple_add PySem.F.entry_tuple_add (PySem.F.args_tuple_add_2 _ _)
   (tuple_addW0 a b _ _ n n2 dd dd2 sl sl2 (by simp)) ⟨ho,ho2,⟨.ref b,H,I,rfl,q b H (.refl H) (by simpa using hb)⟩⟩
 ·refine HT.Yl p1 p2 hv (fun z=>?_) (fun z=>?_) (by rw[←r1.length,←r2.length];exact hz)
  ·have hy:=r2.Sb.mp z;subst hy;exact⟨.ref a,H,I,rfl,q a H (.refl H) (by simpa using ha)⟩
  ·refine⟨.ref s.heap.objs.size,_,I.laid (t':=s.toks) (o:=.tup (xs++ys)) (fun b ob q=>aD _ q) (aG _) ?_,rfl,q _ _ (AN (I.Ah.fresh (aG _)) _) AI⟩;exact⟨by rw[List.length_append];exact hz,_,r1.append r2,IsTup.new _ _⟩
end
end L2
namespace Tim
open PySem PyProof.Rows
section pure
end pure
section
section pure
end pure
section pure
end pure
end
end Tim
namespace GS
open PySem PySem.W PyProof.Rows PySem.SeqAt
abbrev Ext(h0 h:Heap):Prop:=∀c o,h0.get? c=some o→h.get? c=some o
def NL(O:KeyOrd)(prog:Program)(w:World)(κ:SortKind)(A:Around)(s:Shared)(ks:List O.α)(us:List Value):Prop :=
 ∀(E:Value→Shared→Prop) (i j:Nat) (x y:O.α) (u v:Value) (Q:Bool→Shared→Prop),us[i]? = some u→us[j]? = some v→ks[i]? = some x→ks[j]? = some y→Q (O.blt x y) s→wpAny (model prog w) A (keyLt' κ u v) Q E s
structure XS(O:KeyOrd)(prog:Program)(w:World)(h0:Heap)(r:Nat)(ks:List O.α)(us:List Value):Prop where
 len:us.length=ks.length
 go:∃ok:SortKind→Prop,(∀(A:Around) (E:Value→Shared→Prop) (s:Shared) (Q:SortKind→Shared→Prop),Ext h0 s.heap→(∀κ,ok κ→Q κ s)→wpAny (model prog w) A (keyKind' us.toArray) Q E s) ∧
  ∀(A:Around) (s:Shared) (κ:SortKind),Ext h0 s.heap→A.units+r<cLine→ok κ→NL O prog w κ A s ks us
def Runs(O:KeyOrd)(prog:Program)(w:World)(ks:List O.α):Prop :=
 ∀(d:O.α) (A:Around) (E:Value→Shared→Prop) (s:Shared) (κ:SortKind) (ws:List Value),ws.length=ks.length→2≤ws.length→NL O prog w κ A s ks ws →
  wpAny (model prog w) A ((sortRuns').run (SortSt.mk' κ (ws.toArray.zip ws.toArray) #[] 7 none)) (fun r s'=>s'=s∧failedOf r.2=none∧∃ix:List Nat,ix.Perm (List.range ws.length) ∧
   (arrOf r.2).map (·.2)=(ix.map fun i=>ws.getD i Value.none).toArray∧(ix.map fun i=>ks.getD i d).Pairwise O.kle) E s
theorem MS{O:KeyOrd}{prog:Program}{w:World}{ks:List O.α}(h64:ks.length<64):Runs O prog w ks:=by
 intro d A E s κ ws hl h2 ask;have h64:ws.length<64:=by lia
 refine kat_run (Q:=fun st' s'=>s'=s∧failedOf st'=none∧∃ix:List Nat,ix.Perm (List.range ws.length)∧(arrOf st').map (·.2)=(ix.map fun i=>ws.getD i Value.none).toArray∧(ix.map fun i=>ks.getD i d).Pairwise O.kle)
  (G:=fun p s'=>s'=s∧SM.Pm ws.length p∧SM.Up (O:=O) (fun i=>ks.getD i d) p ws.length) rfl h2 h64 (fun p st' s' hp har hf hG=>?_)
  (TH.Q5 (lt:=SM.E9 (O:=O) fun i=>ks.getD i d) (n:=ws.length) (fun i j C hi hj hC=>?_) _ (SM.sort (by lia)))
 ·obtain⟨rfl,hpm,hup⟩:=hG;have h1:p.toList.Perm (List.range ws.length):=by simpa using Array.perm_iff_toList_perm.mp hpm.perm
  refine⟨rfl,hf,p.toList,h1,kat_snds rfl har,?_⟩;refine List.pairwise_iff_getElem.mpr fun i j hi hj hij=>?_;rw[List.length_map,Array.length_toList,hp]at hi hj;have:=hup i j (by lia) hj;have e1:∀k,k<ws.length→∀hk,(p.toList.map fun i=>ks.getD i d)[k]' hk=ks.getD (p.getD k 0) d:=fun k hk hk'=>by
   rw[List.getElem_map,Array.getElem_toList,Array.getD,dif_pos (by lia)]
   rfl
  rw[e1 i hi,e1 j hj];exact this
 ·have gi:∀k,k<ws.length→∃u x,ws[k]? = some u∧ks[k]? = some x∧ws.getD k Value.none=u∧ks.getD k d=x:=fun k hk=>by
   refine⟨ws[k],ks[k]'(by lia),List.getElem?_eq_getElem hk,List.getElem?_eq_getElem (by lia),?_,?_⟩
   ·rw[List.getD_eq_getElem?_getD,List.getElem?_eq_getElem hk];rfl
   ·rw[List.getD_eq_getElem?_getD,List.getElem?_eq_getElem (by lia)];rfl
  obtain⟨u,x,q1,q2,q3,q4⟩:=gi i hi;obtain⟨v,y,r1,r2,r3,r4⟩:=gi j hj;unfold kas_ask;rw[q3,r3];refine ask _ i j x y u v C q1 r1 q2 r2 ?_;have hC:C (O.blt (ks.getD i d) (ks.getD j d)) s:=hC;rw[q4,r4]at hC;exact hC
section
variable{O:KeyOrd}{prog:Program}{w:World}{A:Around}{E:Value→Shared→Prop}{s:Shared}{h0:Heap}{r:Nat}{ks:List O.α}{us:List Value}
theorem NL.rev{κ:SortKind}(hl:us.length=ks.length)(a:NL O prog w κ A s ks us):NL O prog w κ A s ks.reverse us.reverse:=fun E i j x y u v Q h1 h2 h3 h4 q=>by
 have b1:=(aC.mp h1).1;have b2:=(aC.mp h2).1;rw[List.length_reverse]at b1 b2;rw[List.getElem?_reverse (by lia)]at h1 h2 h3 h4;rw[←hl]at h3 h4;exact a E _ _ x y u v Q h1 h2 h3 h4 q
theorem WY{α:Type}{R:α→α→Prop}:∀ {l:List α},l.length<2→l.Pairwise R
 |[],_=>.nil
 |[_],_=>List.pairwise_singleton ..
 |_::_::_,h=>by simp at h;lia
theorem VW(d : O.α){a : Addr}{n : Nat}{b : Bool}{P : PySem.Fin→Shared→Prop}(C : XS O prog w h0 r ks us)(hx : Ext h0 s.heap)(ha0 : h0.objs.size≤a)(ho : s.heap.get? a = some (seqObj "list" us.toArray n))(hsz : us.length≤1000)(hr : Runs O prog w (if b then ks.reverse else ks))(hu : A.units + r < cLine)
 (h : ∀ ix : List Nat,ix.Perm (List.range us.length)→(ix.map fun i => ks.getD i d).Pairwise (fun x y => if b = true then O.kle y x else O.kle x y)→P (.done (.ret .none)) { s with heap:=sortedHeap s.heap a us (ix.map fun i => us.getD i Value.none).toArray }) :
    wpAny (model prog w) A (Builtin.«list.sort» ⟨[.ref a],[(Str.ofString "reverse",.bool b)]⟩) P E s := by
  rw [list_sort_rev]
  have ha : a < s.heap.objs.size:=aE ho
  refine aA (listItems_at ho rfl ?_)
  refine aA (listUpdate_at ho rfl ?_ (by rw [List.size_toArray,sizeLine_eq]; lia) (ak _))
  obtain ⟨e1,ho1⟩ : ∃ e1,(s.heap.update a (Obj.mapSeq fun _ => #[])).get? a = some (seqObj "list" #[] e1):=⟨_,get?_update_seq ho (fun _ => #[])⟩
  refine aA (seqEpoch_at ho1 rfl ?_)
  refine aA (wpAny_newTuple ?_ (by show us.length≤_; rw [sizeLine_eq]; lia))
  refine aA (wpAny_newList ?_ (ak _))
  refine bK ?_
  have ho6 : (((s.heap.update a (Obj.mapSeq fun _ => #[])).push (seqObj "tuple" us.toArray 0)).push (seqObj "list" #[] 0)).get? a = some (seqObj "list" #[] e1) := by
    rw [Heap.get?_push_ne _ _ _ (by rw [size_push',Heap.size_update]; exact aN (bQ ha)),Heap.get?_push_ne _ _ _ (by rw [Heap.size_update]; exact aN ha)]
    exact ho1
  have keep : Ext h0 (((s.heap.update a (Obj.mapSeq fun _ => #[])).push (seqObj "tuple" us.toArray 0)).push (seqObj "list" #[] 0)):=fun c o hc => by
    have hlt : c < h0.objs.size:=aE hc
    have hne : c≠a:=fun z => Nat.not_lt.mpr ha0 (z ▸ hlt)
    refine aD _ (aD _ ?_)
    rw [Heap.get?_update_ne _ _ _ _ hne]
    exact hx c o hc
  show wpAny (model prog w) A _ P E { s with heap:=((s.heap.update a (Obj.mapSeq fun _ => #[])).push (seqObj "tuple" us.toArray 0)).push (seqObj "list" #[] 0) }
  dsimp only
  have step : ∀ T : Sem PySem.Fin,wpAny (model prog w) A T P E { s with heap:=((s.heap.update a (Obj.mapSeq fun _ => #[])).push (seqObj "tuple" us.toArray 0)).push (seqObj "list" #[] 0) } →
      wpAny (model prog w) A (if b = true then (do let _ ← rule "list.sort.reverse"; T) else T) P E { s with heap:=((s.heap.update a (Obj.mapSeq fun _ => #[])).push (seqObj "tuple" us.toArray 0)).push (seqObj "list" #[] 0) } := by
    intro T hT
    split
    · exact aA (wpAny_rule hT)
    · exact hT
  refine step _ ?_
  obtain ⟨ok,hkind,hask⟩:=C.go
  have hl:=C.len
  by_cases h2 : us.toArray.size < 2
  · rw [if_pos h2,if_pos h2]
    refine aA (aB ?_)
    rw [StateT.run_pure]
    refine aA (aB ?_)
    dsimp only
    have hz : us.length < 2 := by simpa using h2
    have hout:=TH.VH b us hz
    refine aA (seqEpoch_at ho6 rfl ?_)
    refine aA (listUpdate_at ho6 rfl ?_ (ak _) (by
      refine aR (Nat.le_of_eq (bD Array.size hout)) ?_
      rw [List.size_toArray,sizeLine_eq]; lia))
    simp only [bne_self_eq_false,Bool.false_eq_true,if_false]
    have fin:=h (List.range us.length) (.refl _) (WY (by simpa using hz))
    rw [TH.map_getD] at fin
    rw [← hout] at fin
    exact aB fin
  · rw [if_neg h2,if_neg h2]
    have hz : 2≤us.length := by simpa using h2
    refine aA (hkind A E { s with heap:=((s.heap.update a (Obj.mapSeq fun _ => #[])).push (seqObj "tuple" us.toArray 0)).push (seqObj "list" #[] 0) } _ keep fun κ hκ => ?_)
    have ask:=hask A { s with heap:=((s.heap.update a (Obj.mapSeq fun _ => #[])).push (seqObj "tuple" us.toArray 0)).push (seqObj "list" #[] 0) } κ keep hu hκ
    obtain ⟨ws,kw,aw,hwl,hwk,hws,hrw,pick⟩ : ∃ (ws : List Value) (kw : List O.α),NL O prog w κ A { s with heap:=((s.heap.update a (Obj.mapSeq fun _ => #[])).push (seqObj "tuple" us.toArray 0)).push (seqObj "list" #[] 0) } kw ws∧ws.length = us.length∧ws.length = kw.length ∧
        (if b = true then (us.toArray.zip us.toArray).reverse else us.toArray.zip us.toArray) = ws.toArray.zip ws.toArray∧Runs O prog w kw ∧
        ∀ ix : List Nat,ix.Perm (List.range ws.length)→(ix.map fun i => kw.getD i d).Pairwise O.kle→∃ iy : List Nat,iy.Perm (List.range us.length)∧(iy.map fun i => ks.getD i d).Pairwise (fun x y => if b = true then O.kle y x else O.kle x y) ∧
          (if b = true then ((ix.map fun i => ws.getD i Value.none).toArray).reverse else (ix.map fun i => ws.getD i Value.none).toArray) = (iy.map fun i => us.getD i Value.none).toArray := by
      cases b with
      | false => exact ⟨us,ks,ask,rfl,hl,rfl,hr,fun ix h1 h2 => ⟨ix,h1,by simpa using h2,rfl⟩⟩
      | true =>
        refine ⟨us.reverse,ks.reverse,ask.rev hl,by simp,by simp [hl],kat_pairs (ks:=us) (vs:=us) true rfl,hr,fun ix h1 h2 => ⟨(ix.map fun i => us.length - 1 - i).reverse,?_,?_,?_⟩⟩
        · rw [List.length_reverse] at h1
          refine (List.reverse_perm _).trans ((h1.map fun i => us.length - 1 - i).trans ?_)
          have : (List.range us.length).map (fun i => us.length - 1 - i) = (List.range us.length).reverse := by
            refine List.ext_getElem (by simp) fun i a1 a2 => ?_
            simp
          rw [this]
          exact List.reverse_perm _
        · have hb : ∀ i∈ix,i < us.length:=fun i hi => by simpa using h1.mem_iff.mp hi
          have e : ((ix.map fun i => us.length - 1 - i).reverse.map fun i => ks.getD i d) = (ix.map fun i => ks.reverse.getD i d).reverse := by
            rw [List.map_reverse,List.map_map]
            congr 1
            exact aU fun i hi => by
              have:=hb i hi
              show ks.getD (us.length - 1 - i) d = _
              rw [List.getD_eq_getElem?_getD,List.getD_eq_getElem?_getD,List.getElem?_reverse (by lia),hl]
          rw [e,List.pairwise_reverse]
          simpa using h2
        · have hb : ∀ i∈ix,i < us.length:=fun i hi => by simpa using h1.mem_iff.mp hi
          rw [if_pos rfl,List.map_reverse,List.map_map,List.reverse_toArray]
          congr 2
          exact aU fun i hi => by
            have:=hb i hi
            show us.reverse.getD i Value.none = us.getD (us.length - 1 - i) Value.none
            rw [List.getD_eq_getElem?_getD,List.getD_eq_getElem?_getD,List.getElem?_reverse (by lia)]
    rw [hws]
    refine aA (ab (hrw d A E { s with heap:=((s.heap.update a (Obj.mapSeq fun _ => #[])).push (seqObj "tuple" us.toArray 0)).push (seqObj "list" #[] 0) } κ ws hwk (by lia) aw) ?_ fun _ _ z => z)
    rintro ⟨⟨⟩,st'⟩ s' ⟨rfl,hf,ix,hix,hout,hst⟩
    dsimp only
    refine aA (seqEpoch_at ho6 rfl ?_)
    obtain ⟨iy,y1,y2,hfin⟩ : ∃ iy : List Nat,iy.Perm (List.range us.length)∧(iy.map fun i => ks.getD i d).Pairwise (fun x y => if b = true then O.kle y x else O.kle x y) ∧
        (if b = true then ((arrOf st').map (·.2)).reverse else (arrOf st').map (·.2)) = (iy.map fun i => us.getD i Value.none).toArray := by
      rw [show (arrOf st').map (·.2) = _ from hout]
      exact pick ix hix hst
    refine aA (listUpdate_at ho6 rfl ?_ (ak _) (by
      refine aR (Nat.le_of_eq (bD Array.size hfin)) ?_
      have:=y1.length_eq
      rw [List.length_range] at this
      rw [List.size_toArray,List.length_map,this,sizeLine_eq]; lia))
    rw [show failedOf st' = none from hf]
    simp only [bne_self_eq_false,Bool.false_eq_true,if_false]
    have fin:=h iy y1 y2
    rw [← hfin] at fin
    exact aB fin
theorem RJ(d:O.α){b:Bool}{Q:Value→Shared→Prop}{h1:Heap}{tk:Nat}{T:Sem PySem.Fin}(C:XS O prog w s.heap r ks us)(hsz:us.length≤1000)(hr:Runs O prog w (if b then ks.reverse else ks))(x1:Ext s.heap h1)(z1:s.heap.objs.size≤h1.objs.size)
 (h:∀(h':Heap) (D tk:Nat) (ix:List Nat) (e1:Nat),s.heap.objs.size≤D→Ext s.heap h'→h'.get? D=some (seqObj "list" (ix.map fun i=>us.getD i Value.none).toArray e1)→ix.Perm (List.range us.length)→(ix.map fun i=>ks.getD i d).Pairwise (fun x y=>if b=true then O.kle y x else O.kle x y)→Q (.ref D) {s with heap:=h',toks:=tk}) :
  (h1.push (seqObj "list" us.toArray 0)).get? h1.objs.size=some (seqObj "list" us.toArray 0)∧Ext s.heap (h1.push (seqObj "list" us.toArray 0)) ∧
  ∀ix:List Nat,ix.Perm (List.range us.length)→(ix.map fun i=>ks.getD i d).Pairwise (fun x y=>if b=true then O.kle y x else O.kle x y)→Q (.ref h1.objs.size) {s with heap:=sortedHeap (h1.push (seqObj "list" us.toArray 0)) h1.objs.size us (ix.map fun i=>us.getD i Value.none).toArray,toks:=tk}:=by
 have g1:(h1.push (seqObj "list" us.toArray 0)).get? h1.objs.size=some (seqObj "list" us.toArray 0):=aT _ rfl;refine⟨g1,fun b u e=>aD _ (x1 b u e),fun ix p1 p2=>?_⟩;obtain⟨e1,he1⟩:=sortedHeap_at (vs:=us) (out:=(ix.map fun i=>us.getD i Value.none).toArray) g1;refine h _ h1.objs.size tk ix e1 z1 (fun b u e=>?_) he1 p1 p2;have lb:b<h1.objs.size:=aE (x1 b u e);rw[sortedHeap_old (aN lb) (by rw[Heap.size_push];exact bQ lb)];exact aD _ (x1 b u e)
end
end GS
set_option maxHeartbeats 0
set_option maxHeartbeats 4000000
namespace TH
open PySem PySem.W PyProof.Rows PySem.SeqAt
theorem M5{h h':Heap}(k:GS.Ext h h'){a:Addr}{x:Array Value}(e:h.IsTuple a x):h'.IsTuple a x:=let⟨o,e1,c,n,d⟩:=e;⟨o,k _ _ e1,c,n,d⟩
section
open PySem.MeetsSeq PySem.MeetsSeq2 PySem.MeetsSeq3
variable{A:Around}{E:Value→Shared→Prop}{s:Shared}
def Q0(h:Heap)(v:Value):Prop:=∃(a b:Addr) (xs:Array Value) (its:List Value),v=.ref a∧h.IsTuple a ((.ref b::its).toArray)∧h.IsTuple b xs
theorem OU{M:Model}:∀(us:List Value) {Q:List (Option Value)→Shared→Prop},(∀v∈us,Q0 s.heap v)→(∀fs:List Value,fs.length=us.length→(∀v∈fs,Looks M s.heap (typeOf v) (.type "tuple"))→Q (fs.map some) s)→wpAny M A (us.mapM firstOfTuple') Q E s
 |[],Q,_,h=>by
  rw[List.mapM_nil];exact aB (h [] rfl fun _ z=>by cases z)
 |v::us,Q,e,h=>by
  obtain⟨a,b,xs,its,rfl,h1,h2⟩:=e v aa;obtain⟨o,ho,hc,n,hd⟩:=id h1;rw[List.mapM_cons];refine aA ?_;rw[kas_first_eq];refine aA (Looks.here (show Looks M s.heap (typeOf (.ref a)) o.cls from(Looks.ld ho).andThen .now) ?_);rw[hc,if_neg (by first|decide|simp)];refine aA (listItems_at ho hd (aB ?_));refine aA (OU us (Q:=fun bs s'=>wpAny M A (pure ((.ref b::its).toArray[0]? :: bs)) Q E s') (fun v hv=>e v (aV _ hv)) fun fs hl hfs=>aB ?_);have:=h (.ref b::fs) (by simp[hl]) fun v hv=>by
   rcases aS.mp hv with rfl|hv
   ·exact RS h2
   ·exact hfs v hv
  simpa using this
theorem Yc{M:Model}{us:List Value}{Q:SortKind→Shared→Prop}(e:∀v∈us,Q0 s.heap v)(h:Q (tuples' false) s):wpAny M A (keyKind' us.toArray) Q E s:=by
 rw[kat_kind_eq,List.mapM_toArray,map_eq_pure_bind];refine aA (aA (OU us e fun fs hl hfs=>aB ?_));rw[if_pos (by simp)];refine aA (wpAny_rule ?_);have e1:((fs.map some).toArray.filterMap id)=fs.toArray:=by simp
 rw[e1];exact aA (YU hfs (fun _=>aB h) (aB h))
end
end TH
namespace L2
open PySem PySem.Spec PyProof.Rows
abbrev LY(x y:Str)(px py:Pos)(tk:Nat)(tp:Pos):Expr:=.Tuple [.Name x px,.Name y py] tk tp
theorem X9{ix iy:Nat}(h:ix≠iy)(σ:St)(a b c d:Option V):((((σ.set ix a).set iy b).set ix c).set iy d)=(σ.set ix c).set iy d:=by
 rw[List.set_comm _ _ h.symm,List.set_set,List.set_set]
def JB(K:PySem.W.Frag)(wi:TI)(fr:List (Option Nat))(ix iy:Nat)(tif:TT)(te:TE):TE:=fun σ H Q=>wi σ H fun J H1=>∀D,H1 D=none→∃W:Nat→Nat→List V→Hp→Prop,(∃m,W 0 m [] (upd H1 D (.lst []))) ∧
 ∀i m ys H,W i m ys H→H D=some (.lst ys)∧((J.stop i H∧Q (.ref D) H)∨(J.go i H∧ys.length<sizeLine∧∀x H',J.Df i H x H'→∃a v1 v2,x=.ref a∧Ap K H' a [v1,v2] ∧
  tif (((carry fr σ).set ix (some v1)).set iy (some v2)) H' fun b H2=>if b=true then te (((carry fr σ).set ix (some v1)).set iy (some v2)) H2 fun y H3=>H3 D=some (.lst ys)∧∃m',m'<m∧W (i+1) m' (ys++[y]) (upd H3 D (.lst (ys++[y])))
   else ∃m',m'<m∧W (i+1) m' ys H2))
section
variable{X:Cx}{elt iter:Expr}{x y:Str}{px py tp pos:Pos}{tk:Nat}{ifs:List Expr}{scope:Scope}{wi:TI}{fr:List (Option Nat)}{ix iy:Nat}{tif:TT}{te:TE}{N:List Str}
theorem La{pins:List (Addr×Obj)}{σ:St}{H2:Hp}{s2:Shared}{Q:VK}{it:Addr}{fp:List Addr}{tn:Nat→Heap→Prop}{J:It}{cl:List (Str×Addr)}{E:Value→Shared→Prop}{RR:Value→Addr→Result→Shared→Prop}
 (S:CK scope N x ix)(S2:CK scope N y iy)(hxy:ix≠iy)(hcalm:X.calm=true)(hfr:DZ N X.N scope X.env.scope fr 0=true)(hlen:fr.length=N.length)
 (hif:∀cl C s₀ H₀ fp,JA (Ak X scope cl N C s₀ H₀ fp) ifs tif)(he:∀cl C s₀ H₀ fp,PE (Ak X scope cl N C s₀ H₀ fp) elt te)
 (I2:Inv X pins σ H2 s2)(T:Turn X.prog X.w X.K (LY x y px py tk tp) J fp it tn)(st2:tn 0 s2.heap)(f2:∀b∈fp,IV X pins H2 b)
 (c1:∀x c,cl.lookup x=some c→X.env.cells.lookup x=some c)(c2:∀x∈scope.names,x.2=NameKind.free→∃c,cl.lookup x.1=some c)
 (W:∀D,H2 D=none→∃W:Nat→Nat→List V→Hp→Prop,(∃m,W 0 m [] (upd H2 D (.lst []))) ∧
   ∀i m ys H,W i m ys H→H D=some (.lst ys)∧((J.stop i H∧Q (.ref D) H)∨(J.go i H∧ys.length<sizeLine∧∀x H',J.Df i H x H'→∃a v1 v2,x=.ref a∧Ap X.K H' a [v1,v2] ∧
    tif (((carry fr σ).set ix (some v1)).set iy (some v2)) H' fun b H2=>if b=true then te (((carry fr σ).set ix (some v1)).set iy (some v2)) H2 fun y H3=>H3 D=some (.lst ys)∧∃m',m'<m∧W (i+1) m' (ys++[y]) (upd H3 D (.lst (ys++[y])))
     else ∃m',m'<m∧W (i+1) m' ys H2)))
 (fin:∀(D C:Addr) (s':Shared) (H':Hp) m,s'.heap.Ns C m→Q (.ref D) H'→(∀h',Heap.SameBut C s'.heap h'→Inv X pins σ H' { s' with heap:=h'})→C≠D→(∀b o,s2.heap.get? b=some o→b≠C)→H' C=none→s2.heap.objs.size≤C→RR (.ref D) C (.ok .next) s') :
  wpAny (model X.prog X.w) X.A (newList []) (fun acc s₃=>wpAny (model X.prog X.w) X.A (newFunctionEnv scope X.env.globals cl [] X.env.qual none .none (some X.env)) (fun cenv s₄ =>
   codeAny (model X.prog X.w) X.A (.compStart (.ListComp elt [⟨LY x y px py tk tp,iter,ifs,0⟩] scope pos) 0 (.ref it) acc {cenv with scope:=relabel scope X.env}) (RR acc cenv.locals) s₄) E s₃) E s2:=by
 have hxv:(relabel scope X.env).names.lookup x=some .local:=lookup_relabel_local S.loc;have hyv:(relabel scope X.env).names.lookup y=some .local:=lookup_relabel_local S2.loc;refine LJ (g:=WL X.K 2 (Mo (CM ix) (Mo (CM iy) Ww))) S hcalm (fun σ'=>∀v w,(σ'.set ix v).set iy w=((carry fr σ).set ix v).set iy w) (fun _ _=>rfl) (fun C=>En (X:=Ak X scope cl N C s2 H2 fp) hcalm (BH (Al (X:=Ak X scope cl N C s2 H2 fp) S.nd S.at_ (.inl hxv) (.inr hxv)) (BH (Al (X:=Ak X scope cl N C s2 H2 fp) S2.nd S2.at_ (.inl hyv) (.inr hyv)) D7))) hfr hlen hif he I2 T st2 f2 c1 c2 (fun D hD=>?_) fin;obtain⟨W,w0,st⟩:=W D hD;refine⟨W,w0,fun i m ys H w=>?_⟩;obtain⟨h1,h2|⟨h2,h3,h4⟩⟩:=st i m ys H w
 ·exact⟨h1,.inl h2⟩
 ·refine⟨h1,.inr ⟨h2,h3,fun x H' hy σ' hr=>?_⟩⟩;obtain⟨a,v1,v2,rfl,hs,q⟩:=h4 x H' hy;rw[←hr]at q;exact⟨a,[v1,v2],rfl,hs,rfl,v1,[v2],rfl,v2,[],rfl,rfl,fun v w=>by rw[X9 hxy,hr],q⟩
theorem V7(S:CK scope N x ix)(S2:CK scope N y iy)(hxy:ix≠iy)(hcalm:X.calm=true)(hfr:DZ N X.N scope X.env.scope fr 0=true)(hlen:fr.length=N.length)(hfree:∀y∈scope.names,y.2=.free→X.env.scope.names.lookup y.1=some .cell∨X.env.scope.names.lookup y.1=some .free)
 (hi:PI X (LY x y px py tk tp) iter wi)(hif:∀cl C s₀ H₀ fp,JA (Ak X scope cl N C s₀ H₀ fp) ifs tif)(he:∀cl C s₀ H₀ fp,PE (Ak X scope cl N C s₀ H₀ fp) elt te)
 (hs:∀x,foldedSetIterable iter X.env x=pure x:=by intro _;rfl):PE X (.ListComp elt [⟨LY x y px py tk tp,iter,ifs,0⟩] scope pos) (JB X.K wi fr ix iy tif te):=by
 intro pins s σ H Q I hw;obtain⟨cl,hclos,c1,_,c2⟩:=Ec (env:=X.env) scope.names [] (fun y hy hf=>I.ok.has y.1 (hfree y hy hf)) (fun y c z=>by cases z);have hclos':closureFor scope X.env=pure cl:=by
  have e:closureFor scope X.env=((forIn scope.names [] (fun(x:Str×NameKind) (r:List (Str×Addr))=>do if(x.2==NameKind.free)=true then do let a ←cellOf X.env x.1;pure (ForInStep.yield ((x.1,a)::r)) else pure (ForInStep.yield r)):Sem (List (Str×Addr)))>>=fun cs=>pure cs):=rfl;rw[e,hclos]
  rfl
 rw[eval_ListComp];refine wpAny_comprehension_free (use:=none) rfl hs hclos' S.kind S.names (Av (hi pins s σ H _ I hw) fun v s1 h1=>Av h1 fun itv s2 h2=>?_);obtain⟨it,fp,tn,J,H2,e,I2,T,st2,f2,W⟩:=h2;subst e;refine La (RR:=fun acc C=>compPost (model X.prog X.w) X.A X.xe none (EP X pins σ Q) acc C) S S2 hxy hcalm hfr hlen hif he I2 T st2 f2 c1 c2 W ?_;intro D C s' H' m hn q hI _ _ _ _;exact⟨m,hn,fun h' hs'=>⟨.ref D,H',hI h' hs',rfl,q⟩⟩
theorem RU{i : Nat}{z : Str}{pz spos : Pos}(hN : X.N.Nodup)(hy : X.N[i]? = some z)(hly : X.env.scope.names.lookup z = some .local)(S : CK scope N x ix)(S2 : CK scope N y iy)(hxy : ix≠iy)(hcalm : X.calm = true)(hfr : DZ N X.N scope X.env.scope fr 0 = true)(hlen : fr.length = N.length)
 (hfree : ∀ y∈scope.names,y.2 = .free→X.env.scope.names.lookup y.1 = some .cell∨X.env.scope.names.lookup y.1 = some .free)
 (hi : PI X (LY x y px py tk tp) iter wi)(hif : ∀ cl C s₀ H₀ fp,JA (Ak X scope cl N C s₀ H₀ fp) ifs tif)(he : ∀ cl C s₀ H₀ fp,PE (Ak X scope cl N C s₀ H₀ fp) elt te)
 (hsw : swapsWith (.ListComp elt [⟨LY x y px py tk tp,iter,ifs,0⟩] scope pos) (some (.Name z pz)) spos.line X.env = pure true := by rfl)
 (hs : ∀ x,foldedSetIterable iter X.env x = pure x := by intro _; rfl) :
    PS X (.Assign [.Name z pz] (.ListComp elt [⟨LY x y px py tk tp,iter,ifs,0⟩] scope pos) spos) (Lc (JB X.K wi fr ix iy tif te) (CM i)) := by
  intro pins s σ H D I hw
  obtain ⟨cl,hclos,c1,_,c2⟩:=Ec (env:=X.env) scope.names [] (fun y hy hf => I.ok.has y.1 (hfree y hy hf)) (fun y c z => by cases z)
  have hclos' : closureFor scope X.env = pure cl := by
    have e : closureFor scope X.env = ((forIn scope.names [] (fun (x : Str×NameKind) (r : List (Str×Addr)) => do if (x.2 == NameKind.free) = true then do let a ← cellOf X.env x.1; pure (ForInStep.yield ((x.1,a) :: r)) else pure (ForInStep.yield r)) : Sem (List (Str×Addr))) >>= fun cs => pure cs):=rfl
    rw [e,hclos]
    rfl
  rw [exec_Assign_Name_used _ _ _ _ hsw]
  refine aA (wpAny_standAt (aA ?_))
  show wpAny _ X.A (do let _ ← comprehension (.ListComp elt [⟨LY x y px py tk tp,iter,ifs,0⟩] scope pos) scope X.env _ (newList []) false (eval iter X.env) (some (assign (.Name z pz) X.env))) _ _ s
  refine aA (ab (wpAny_comprehension_free (use:=some (assign (.Name z pz) X.env)) (Q:=fun _ s' => SP X pins D .next s') rfl hs hclos' S.kind S.names
    (Av (hi pins s σ H _ I hw) fun v s1 h1 => Av h1 fun itv s2 h2 => ?_)) (fun _ s' hq => aB (aB hq)) fun _ _ e => e)
  obtain ⟨it,fp,tn,J,H2,e,I2,T,st2,f2,W⟩:=h2
  subst e
  refine La (Q:=fun x H1 => CM i x σ H1 D.nx) (RR:=fun acc C => compPost (model X.prog X.w) X.A X.xe (some (assign (.Name z pz) X.env)) (fun _ s' => SP X pins D .next s') acc C) S S2 hxy hcalm hfr hlen hif he I2 T st2 f2 c1 c2 W ?_
  intro D' C s' H' m hn q hI hCD hold hfreeC hsz
  have I5 : Inv X pins σ H' s':=hI s'.heap (Heap.SameBut.refl ..)
  refine wpAny_assign_Name (Kh I5 hN hy (.inl hly) (v:=.ref D') rfl (fun s'' I6 ⟨a,hsb,ha⟩ => ?_) (.inr hly))
  have hL : C≠X.env.locals:=fun z => by
    obtain ⟨_,⟨o,_,_,e,_⟩,_⟩:=I2.loc
    exact hold _ _ e z.symm
  have hcl : ∀ z c,X.env.cells.lookup z = some c→c≠C:=fun z c e => by
    obtain ⟨_,o,ho,_⟩:=I2.cell z c e
    exact hold _ _ ho
  have hCa : C≠a := by
    rcases ha with z | z
    · rw [z]; exact hL
    · exact Ne.symm (hcl _ _ z)
  refine ⟨m,hn.sameBut hsb hCa,fun h' hs' => ⟨_,H',I6.turned (t':=s''.toks) (it:=C) (fun b o hb e => (hs'.2 b hb).trans e) hfreeC hL (.inr (aR I2.sz hsz)) hcl fun p hp => ?_,q⟩⟩
  obtain ⟨e,_⟩:=I2.pin p hp
  exact hold _ _ e
end
section
variable{X:Cx}{elt iter:Expr}{x y:Str}{px py tp pos:Pos}{tk:Nat}{ifs:List Expr}{scope:Scope}{wi:TI}{tif:TT}{te:TE}
theorem Ko(N:List Str)(ix iy:Nat)(fr:List (Option Nat))(hi:PI X (LY x y px py tk tp) iter wi)(hif:∀cl C s₀ H₀ fp,JA (Ak X scope cl N C s₀ H₀ fp) ifs tif)(he:∀cl C s₀ H₀ fp,PE (Ak X scope cl N C s₀ H₀ fp) elt te)
 (h1:BO scope N x ix=true:=by decide +kernel)(h1':BO scope N y iy=true:=by decide +kernel)(hxy:ix≠iy:=by decide)(h2:X.calm=true:=by rfl)(h3:DZ N X.N scope X.env.scope fr 0=true:=by rfl)(h4:fr.length=N.length:=by rfl)(h5:freeOk X.env.scope scope.names=true:=by rfl)
 (hs:∀x,foldedSetIterable iter X.env x=pure x:=by intro _;rfl):PE X (.ListComp elt [⟨.Tuple [.Name x px,.Name y py] tk tp,iter,ifs,0⟩] scope pos) (JB X.K wi fr ix iy tif te) :=
 V7 (DV h1) (DV h1') hxy h2 h3 h4 (ID h5) hi hif he hs
theorem Km{i:Nat}{z:Str}{pz spos:Pos}(N:List Str)(ix iy:Nat)(fr:List (Option Nat))(hN:X.N.Nodup)(hy:X.N[i]? = some z)(hly:X.env.scope.names.lookup z=some .local)
 (hi:PI X (LY x y px py tk tp) iter wi)(hif:∀cl C s₀ H₀ fp,JA (Ak X scope cl N C s₀ H₀ fp) ifs tif)(he:∀cl C s₀ H₀ fp,PE (Ak X scope cl N C s₀ H₀ fp) elt te)
 (h1:BO scope N x ix=true:=by decide +kernel)(h1':BO scope N y iy=true:=by decide +kernel)(hxy:ix≠iy:=by decide)(h2:X.calm=true:=by rfl)(h3:DZ N X.N scope X.env.scope fr 0=true:=by rfl)(h4:fr.length=N.length:=by rfl)(h5:freeOk X.env.scope scope.names=true:=by rfl)
 (hsw:swapsWith (.ListComp elt [⟨.Tuple [.Name x px,.Name y py] tk tp,iter,ifs,0⟩] scope pos) (some (.Name z pz)) spos.line X.env=pure true:=by rfl)
 (hs:∀x,foldedSetIterable iter X.env x=pure x:=by intro _;rfl):PS X (.Assign [.Name z pz] (.ListComp elt [⟨.Tuple [.Name x px,.Name y py] tk tp,iter,ifs,0⟩] scope pos) spos) (Lc (JB X.K wi fr ix iy tif te) (CM i)) :=
 RU hN hy hly (DV h1) (DV h1') hxy h2 h3 h4 (ID h5) hi hif he hsw hs
end
theorem F3{K:PySem.W.Frag}{J:It}{n:Nat}{D:Addr}{H1:Hp}{fr:List (Option Nat)}{σ:St}{ix iy:Nat}{tif:TT}{te:TE}{G:Hp→Prop}(Pv:Nat→List V→Hp→Prop)(h0:Pv 0 [] (upd H1 D (.lst [])))
 (hgo:∀i ys H,i<n→Pv i ys H→H D=some (.lst ys)→J.go i H∧ys.length<sizeLine∧∀x H',J.Df i H x H'→∃a v1 v2,x=.ref a∧Ap K H' a [v1,v2] ∧
   tif (((carry fr σ).set ix (some v1)).set iy (some v2)) H' fun b H2=>if b=true then te (((carry fr σ).set ix (some v1)).set iy (some v2)) H2 fun y H3=>H3 D=some (.lst ys)∧∃m',m'<n-i∧CW Pv n D (i+1) m' (ys++[y]) (upd H3 D (.lst (ys++[y])))
    else ∃m',m'<n-i∧CW Pv n D (i+1) m' ys H2)
 (hstop:∀ys H,Pv n ys H→H D=some (.lst ys)→J.stop n H∧G H) :
  ∃W:Nat→Nat→List V→Hp→Prop,(∃m,W 0 m [] (upd H1 D (.lst []))) ∧
   ∀i m ys H,W i m ys H→H D=some (.lst ys)∧((J.stop i H∧G H)∨(J.go i H∧ys.length<sizeLine∧∀x H',J.Df i H x H'→∃a v1 v2,x=.ref a∧Ap K H' a [v1,v2] ∧
    tif (((carry fr σ).set ix (some v1)).set iy (some v2)) H' fun b H2=>if b=true then te (((carry fr σ).set ix (some v1)).set iy (some v2)) H2 fun y H3=>H3 D=some (.lst ys)∧∃m',m'<m∧W (i+1) m' (ys++[y]) (upd H3 D (.lst (ys++[y])))
     else ∃m',m'<m∧W (i+1) m' ys H2)):=by
 refine⟨CW Pv n D,⟨n,by simp,Nat.zero_le _,AI,h0⟩,?_⟩;rintro i m ys H ⟨rfl,hi,hH,p⟩;refine⟨hH,?_⟩;by_cases hlt:i<n
 ·exact .inr (hgo i ys H hlt p hH)
 ·have:i=n:=by lia
  subst this;exact .inl (hstop ys H p hH)
end L2
namespace ZT
open PySem PyProof.Rows
structure Apart(z TI TO i1 i2:Addr)(f1 f2:List Addr):Prop where
 a1:TI≠z∧TI≠TO∧TI≠i1∧TI≠i2
 a2:TO≠z∧TO≠i1∧TO≠i2
 a3:i1≠z∧i2≠z∧i1≠i2
 b1:z ∉ f1∧TO ∉ f1∧i2 ∉ f1
 b2:z ∉ f2∧TO ∉ f2∧i1 ∉ f2
section
variable{prog:Program}{w:World}{A:Around}{E:Value→Shared→Prop}{s:Shared}{z TI TO i1 i2:Addr}{f1 f2:List Addr}{n1 n2 k:Nat}{P1 P2:Nat→Value→Prop}{S1 S2:Nat→Heap→Prop}{a b:Value}
theorem Ct{f:List Addr}{x:Addr}{h h':Heap}(hx:x ∉ f)(e:Heap.SameBut x h h'):∀c∈f,∀o,h.get? c=some o→h'.get? c=some o:=fun c hc o q=>(e.2 c fun y=>hx (y ▸ hc)).trans q
theorem item{Q:Value→Shared→Prop}(D1:Draws prog w A i1 f1 n1 P1 S1)(D2:Draws prog w A i2 f2 n2 P2 S2)(ap:Apart z TI TO i1 i2 f1 f2)(hz:IsZip s.heap z TI TO .none)(hI:IsPair s.heap TI (.ref i1) (.ref i2))(hO:IsPair s.heap TO a b)
 (t1:S1 k s.heap)(t2:S2 k s.heap)(l1:k<n1)(l2:k<n2)
 (q:∀x y h' tk,P1 k x→P2 k y→IsZip h' z TI TO (rawInt s.heap.objs.size)→IsPair h' TO x y→S1 (k+1) h'→S2 (k+1) h'→IsPair h' s.heap.objs.size x y→h'.objs.size=s.heap.objs.size+1 →
   (∀c o,c≠z→c≠TO→c≠i1→c≠i2→s.heap.get? c=some o→h'.get? c=some o)→Q (.ref s.heap.objs.size) {s with heap:=h',toks:=tk}) :
  wpAny (model prog w) A (Builtin.«zip.__next__» ⟨[.ref z],[]⟩) (fun fin s'=>∃v,fin=.done (.ret v)∧Q v s') E s:=by
 obtain⟨⟨c1,c2,c3,c4⟩,⟨c5,c6,c7⟩,⟨c8,c9,c10⟩,⟨d1,d2,d3⟩,d4,d5,d6⟩:=ap;show wpAny _ _ (field (.ref z) 2>>=_) _ _ _;refine aA (ah hz rfl (x:=.bool false) rfl ?_);show wpAny _ _ (field (.ref z) 3>>=_) _ _ _;refine aA (ah hz rfl (x:=.ref TI) rfl (aA (bc hI rfl ?_)));show wpAny _ _ (Builtin.SmallTypes.ownedTupleIsFree (.ref z)>>=_) _ _ _;unfold Builtin.SmallTypes.ownedTupleIsFree;refine aA (aA (ah hz rfl (x:=.none) rfl (aB ?_)));simp only[if_true];refine aA (wpAny_rule (aA (ah hz rfl (x:=.ref TO) rfl (aA (af hz (by simp) fun g1 z1 m1=>aA ?_)))));have m1:Heap.SameBut z s.heap g1:=m1;have z1:IsZip g1 z TI TO .ellipsis:=z1;simp only[List.zipIdx_cons,List.zipIdx_nil,List.forIn_cons,List.forIn_nil];refine aA (aA (wpAny_onRaise ?_));show wpAny _ _ (Builtin.SmallTypes.nextOf (.ref i1)>>=_) _ _ _;refine aA (D1.item k _ _ _ l1 (D1.frame _ _ _ t1 (Ct d1 m1)) fun x g2 tk2 p1 u1 m2=>aB ?_);have o2:IsPair g2 TO a b:=(m2.2 _ c6).trans ((m1.2 _ c5).trans hO);refine aA (bc o2 rfl (aA (wpAny_updateSeq_pair o2 fun g3 o3 m3=>aA (wpAny_letGo (aB ?_)))));have o3:IsPair g3 TO x b:=o3;have t2':S2 k g3:=D2.frame _ _ _ (D2.frame _ _ _ (D2.frame _ _ _ t2 (Ct d4 m1)) (Ct d6 m2)) (Ct d5 m3);refine aA (aA (wpAny_onRaise ?_));show wpAny _ _ (Builtin.SmallTypes.nextOf (.ref i2)>>=_) _ _ _;refine aA (D2.item k _ _ _ l2 t2' fun y g4 tk4 p2 u2 m4=>aB ?_);have m3:Heap.SameBut TO g2 g3:=m3;have m4:Heap.SameBut i2 g3 g4:=m4;have o4:IsPair g4 TO x b:=(m4.2 _ c7).trans o3;refine aA (bc o4 rfl (aA (wpAny_updateSeq_pair o4 fun g5 o5 m5=>aA (wpAny_letGo (aB (aB ?_))))));have m5:Heap.SameBut TO g4 g5:=m5;have o5:IsPair g5 TO x y:=o5;refine aA (bc o5 rfl (aA (wpAny_newTuple ?_)));have m2:Heap.SameBut i1 g1 g2:=m2;have sz:g5.objs.size=s.heap.objs.size:=by rw[m5.1,m4.1,m3.1,m2.1,m1.1]
 have z5:IsZip g5 z TI TO .ellipsis:=(m5.2 _ c5.symm).trans ((m4.2 _ c9.symm).trans ((m3.2 _ c5.symm).trans ((m2.2 _ c8.symm).trans z1)));have kp:∀c o,c≠z→c≠TO→c≠i1→c≠i2→s.heap.get? c=some o→g5.get? c=some o:=fun c o e1 e2 e3 e4 e=>(m5.2 _ e2).trans ((m4.2 _ e4).trans ((m3.2 _ e2).trans ((m2.2 _ e3).trans ((m1.2 _ e1).trans e))));have v1:S1 (k+1) g5:=D1.frame _ _ _ (D1.frame _ _ _ (D1.frame _ _ _ u1 (Ct d2 m3)) (Ct d3 m4)) (Ct d2 m5);have v2:S2 (k+1) g5:=D2.frame _ _ _ u2 (Ct d5 m5);show wpAny _ _ (Builtin.SmallTypes.ownedTupleHandOut (.ref z) (.ref g5.objs.size)>>=_) _ _ _;unfold Builtin.SmallTypes.ownedTupleHandOut;have z6:IsZip (g5.push { cls:=.type "tuple",data:=.seq #[x,y]}) z TI TO .ellipsis:=aD _ z5;refine aA (aA (af z6 (by simp) fun g7 z7 m7=>af (show IsZip g7 z TI TO (rawInt g5.objs.size) from z7) (by simp) fun g8 z8 m8=>?_));have z8:IsZip g8 z TI TO (rawInt g5.objs.size):=z8;have up:∀c o,c≠z→(g5.push { cls:=.type "tuple",data:=.seq #[x,y]}).get? c=some o→g8.get? c=some o:=fun c o e1 e=>(m8.2 _ e1).trans ((m7.2 _ e1).trans e);have zl:z<g5.objs.size:=aE z5;refine aB ⟨_,rfl,?_⟩;show Q (.ref g5.objs.size) _;have fin:=q x y g8 tk4 p1 p2 (by rw[←sz];exact z8) (up _ _ c5 (aD _ o5)) (D1.frame _ _ _ v1 fun c hc o e=>up c o (fun y=>d1 (y ▸ hc)) (aD _ e)) (D2.frame _ _ _ v2 fun c hc o e=>up c o (fun y=>d4 (y ▸ hc)) (aD _ e))
  (by rw[←sz];exact up _ _ (aq zl) (aT _ rfl)) (by rw[←sz,m8.1,m7.1,Heap.size_push]) fun c o e1 e2 e3 e4 e=>up c o e1 (aD _ (kp c o e1 e2 e3 e4 e))
 rw[sz];exact fin
theorem ended{Q:Fin→Shared→Prop}(D1:Draws prog w A i1 f1 n1 P1 S1)(D2:Draws prog w A i2 f2 n2 P2 S2)(ap:Apart z TI TO i1 i2 f1 f2)(hz:IsZip s.heap z TI TO .none)(hI:IsPair s.heap TI (.ref i1) (.ref i2))(hO:IsPair s.heap TO a b)
 (t1:S1 k s.heap)(t2:S2 k s.heap)(he:k=n1∨(k<n1∧k=n2))
 (q:∀h' e tk,(∀c o,c≠z→c≠TO→c≠i1→c≠i2→s.heap.get? c=some o→h'.get? c=some o)→(∃o,h'.get? e=some o∧o.cls=.type "StopIteration")→E (.ref e) {s with heap:=h',toks:=tk}) :
  wpAny (model prog w) A (Builtin.«zip.__next__» ⟨[.ref z],[]⟩) Q E s:=by
 obtain⟨⟨c1,c2,c3,c4⟩,⟨c5,c6,c7⟩,⟨c8,c9,c10⟩,⟨d1,d2,d3⟩,d4,d5,d6⟩:=ap;show wpAny _ _ (field (.ref z) 2>>=_) _ _ _;refine aA (ah hz rfl (x:=.bool false) rfl ?_);show wpAny _ _ (field (.ref z) 3>>=_) _ _ _;refine aA (ah hz rfl (x:=.ref TI) rfl (aA (bc hI rfl ?_)));show wpAny _ _ (Builtin.SmallTypes.ownedTupleIsFree (.ref z)>>=_) _ _ _;unfold Builtin.SmallTypes.ownedTupleIsFree;refine aA (aA (ah hz rfl (x:=.none) rfl (aB ?_)));simp only[if_true];refine aA (wpAny_rule (aA (ah hz rfl (x:=.ref TO) rfl (aA (af hz (by simp) fun g1 z1 m1=>aA ?_)))));have m1:Heap.SameBut z s.heap g1:=m1;have z1:IsZip g1 z TI TO .ellipsis:=z1;simp only[List.zipIdx_cons,List.zipIdx_nil,List.forIn_cons,List.forIn_nil];refine aA (aA (wpAny_onRaise ?_));show wpAny _ _ (Builtin.SmallTypes.nextOf (.ref i1)>>=_) _ _ _;have t1':=D1.frame _ _ _ t1 (Ct d1 m1);rcases he with he|⟨he1,he2⟩
 ·rw[he]at t1';refine aA (D1.done _ _ _ t1' fun g2 e m2 ho=>?_);obtain⟨o,ho,hc⟩:=ho;have z2:IsZip g2 z TI TO .ellipsis:=m2 _ _ c8.symm z1;have ez:e≠z:=fun y=>by subst y;rw[z2]at ho;cases ho;simp at hc
  exact af z2 (by simp) fun g3 _ m3=>q g3 e _ (fun c o e1 e2 e3 e4 y=>(m3.2 _ e1).trans (m2 _ _ e3 ((m1.2 _ e1).trans y))) ⟨o,(m3.2 _ ez).trans ho,hc⟩
 ·refine aA (D1.item k _ _ _ he1 t1' fun x g2 tk2 p1 u1 m2=>aB ?_);have o2:IsPair g2 TO a b:=(m2.2 _ c6).trans ((m1.2 _ c5).trans hO);refine aA (bc o2 rfl (aA (wpAny_updateSeq_pair o2 fun g3 o3 m3=>aA (wpAny_letGo (aB ?_)))));have t2':S2 k g3:=D2.frame _ _ _ (D2.frame _ _ _ (D2.frame _ _ _ t2 (Ct d4 m1)) (Ct d6 m2)) (Ct d5 m3);rw[he2]at t2';have m2:Heap.SameBut i1 g1 g2:=m2;have m3:Heap.SameBut TO g2 g3:=m3;refine aA (aA (wpAny_onRaise ?_));show wpAny _ _ (Builtin.SmallTypes.nextOf (.ref i2)>>=_) _ _ _;refine aA (D2.done _ _ _ t2' fun g4 e m4 ho=>?_);obtain⟨o,ho,hc⟩:=ho;have z4:IsZip g4 z TI TO .ellipsis:=m4 _ _ c9.symm ((m3.2 _ c5.symm).trans ((m2.2 _ c8.symm).trans z1));have ez:e≠z:=fun y=>by subst y;rw[z4]at ho;cases ho;simp at hc
  exact af z4 (by simp) fun g5 _ m5=>q g5 e _ (fun c o e1 e2 e3 e4 y=>(m5.2 _ e1).trans (m4 _ _ e4 ((m3.2 _ e2).trans ((m2.2 _ e3).trans ((m1.2 _ e1).trans y))))) ⟨o,(m5.2 _ ez).trans ho,hc⟩
theorem next_item{Q:Option Value→Shared→Prop}(D1:Draws prog w A.in1 i1 f1 n1 P1 S1)(D2:Draws prog w A.in1 i2 f2 n2 P2 S2)(ap:Apart z TI TO i1 i2 f1 f2)(hz:IsZip s.heap z TI TO .none)(hI:IsPair s.heap TI (.ref i1) (.ref i2))(hO:IsPair s.heap TO a b)
 (t1:S1 k s.heap)(t2:S2 k s.heap)(l1:k<n1)(l2:k<n2)
 (q:∀x y h' tk,P1 k x→P2 k y→IsZip h' z TI TO (rawInt s.heap.objs.size)→IsPair h' TO x y→S1 (k+1) h'→S2 (k+1) h'→IsPair h' s.heap.objs.size x y→h'.objs.size=s.heap.objs.size+1 →
   (∀c o,c≠z→c≠TO→c≠i1→c≠i2→s.heap.get? c=some o→h'.get? c=some o)→Q (some (.ref s.heap.objs.size)) {s with heap:=h',toks:=tk}) :
  wpAny (model prog w) A (pyNext (.ref z)) Q E s:=by
 have hT:s.TypeIs (.ref z) "zip" := ⟨_,hz,rfl⟩;unfold pyNext;exact aA (wpAny_attempt (ai (name:=Str.ofString "__next__") hT F.slot_zip_next
  (ao F.slot_zip_next hT F.entry_zip_next (item D1 D2 ap hz hI hO t1 t2 l1 l2 fun x y h' tk r1 r2 r3 r4 r5 r6 r7 r8 r9=>aB (q x y h' tk r1 r2 r3 r4 r5 r6 r7 r8 r9)) (F.args_zip_next_1 _))))
theorem next_end{Q:Option Value→Shared→Prop}(D1:Draws prog w A.in1 i1 f1 n1 P1 S1)(D2:Draws prog w A.in1 i2 f2 n2 P2 S2)(ap:Apart z TI TO i1 i2 f1 f2)(hz:IsZip s.heap z TI TO .none)(hI:IsPair s.heap TI (.ref i1) (.ref i2))(hO:IsPair s.heap TO a b)
 (t1:S1 k s.heap)(t2:S2 k s.heap)(he:k=n1∨(k<n1∧k=n2))
 (q:∀h' tk,(∀c o,c≠z→c≠TO→c≠i1→c≠i2→s.heap.get? c=some o→h'.get? c=some o)→Q none {s with heap:=h',toks:=tk}) :
  wpAny (model prog w) A (pyNext (.ref z)) Q E s:=by
 have hT:s.TypeIs (.ref z) "zip" := ⟨_,hz,rfl⟩;unfold pyNext;refine aA (wpAny_attempt (ai (name:=Str.ofString "__next__") hT F.slot_zip_next
  (ao F.slot_zip_next hT F.entry_zip_next (ended D1 D2 ap hz hI hO t1 t2 he fun h' e tk kp ho=>?_) (F.args_zip_next_1 _))))
 obtain⟨o,ho,hc⟩:=ho;exact aA (wpAny_isInstance (T := "StopIteration") (b:=true) ⟨o,ho,hc⟩ isSubtype_stop (aB (q _ _ kp)))
end
end ZT
namespace ZT
open PySem PyProof.Rows
def Sq(b:Bool)(h:Heap)(l:Addr)(xs:List Value):Prop:=if b then h.IsTuple l xs.toArray else h.IsList l xs.toArray
def De(b:Bool)(l:Addr):Obj:=if b then { cls:=.type "tuple_iterator",data:=.fields #[.ref l,.int 0 0]} else { cls:=.type "list_iterator",data:=.fields #[.ref l,.int 0 0]}
def Ms(b:Bool)(h:Heap)(it l:Addr)(k:Nat):Prop:=if b then h.IsTupleIter it l k else h.IsListIter it l k
theorem Sq.push{b:Bool}{h:Heap}{l:Addr}{xs:List Value}(o:Obj)(x:Sq b h l xs):Sq b (h.push o) l xs:=by
 cases b with
 |true=>obtain⟨u,e,r⟩:=(show h.IsTuple l xs.toArray from x);exact(show(h.push o).IsTuple l xs.toArray from⟨u,Heap.get?_push_of_some _ e,r⟩)
 |false=>obtain⟨u,e,r⟩:=(show h.IsList l xs.toArray from x);exact(show(h.push o).IsList l xs.toArray from⟨u,Heap.get?_push_of_some _ e,r⟩)
section
variable{prog:Program}{w:World}{A:Around}{E:Value→Shared→Prop}{s:Shared}
theorem R8{b:Bool}{l:Addr}{xs:List Value}{Q:Value→Shared→Prop}(x:Sq b s.heap l xs)(h:Q (.ref s.heap.objs.size) {s with heap:=s.heap.push (De b l)}):wpAny (model prog w) A (pyIter (.ref l)) Q E s:=by
 cases b with
 |true=>exact wpAny_pyIter_tuple x h
 |false=>exact wpAny_pyIter_list x h
theorem JH(hh:A.handled=none)(b:Bool)(it l:Addr)(xs:List Value)(hne:l≠it):Draws prog w A it [it,l] xs.length (fun i v=>xs[i]? = some v) (fun i h=>Ms b h it l i∧Sq b h l xs):=by
 cases b with
 |true=>exact ET.draws hh it l xs hne
 |false =>
  have:=Draws.list (prog:=prog) (w:=w) hh it l hne xs.toArray
  simpa[Ms,Sq]using this
def zh(b1 b2:Bool)(h:Heap)(l1 l2:Addr):Heap :=
 ((((h.push (De b1 l1)).push (De b2 l2)).push { cls:=.type "tuple",data:=.seq #[.ref h.objs.size,.ref (h.push (De b1 l1)).objs.size]}).push { cls:=.type "tuple",data:=.seq #[.none,.none]}).push
  { cls:=.type "zip",data:=.fields #[.none,.bool false,.bool false,.ref ((h.push (De b1 l1)).push (De b2 l2)).objs.size,.ref (((h.push (De b1 l1)).push (De b2 l2)).push { cls:=.type "tuple",data:=.seq #[.ref h.objs.size,.ref (h.push (De b1 l1)).objs.size]}).objs.size]}
theorem YG(b1 b2:Bool)(l1 l2:Addr)(xs ys:List Value) :
  Meets (Builtin.«zip.__new__» ⟨[.type "zip",.ref l1,.ref l2],[]⟩) (fun _ R s=>Sq b1 s.heap l1 xs∧Sq b2 s.heap l2 ys ∧
   R (.ok (.ret (.ref ((((s.heap.push (De b1 l1)).push (De b2 l2)).push { cls:=.type "tuple",data:=.seq #[.ref s.heap.objs.size,.ref (s.heap.push (De b1 l1)).objs.size]}).push { cls:=.type "tuple",data:=.seq #[.none,.none]}).objs.size)) ) {s with heap:=zh b1 b2 s.heap l1 l2}) :=
 .of_wp fun prog w A R s h=>by
  obtain⟨hp,g,d,tk,os⟩:=s;obtain⟨h1,h2,h⟩:=h;have hsub:=sub_zip;have i1:∀(A:Around) (E:Value→Shared→Prop) (Q:Value→Shared→Prop),Q (.ref hp.objs.size) ⟨hp.push (De b1 l1),g,d,tk,os⟩→wpAny (model prog w) A (pyIter (.ref l1)) Q E ⟨hp,g,d,tk,os⟩:=fun A E Q q=>R8 (s:=⟨hp,g,d,tk,os⟩) h1 q;have i2:∀(A:Around) (E:Value→Shared→Prop) (Q:Value→Shared→Prop),Q (.ref (hp.push (De b1 l1)).objs.size) ⟨(hp.push (De b1 l1)).push (De b2 l2),g,d,tk,os⟩→wpAny (model prog w) A (pyIter (.ref l2)) Q E ⟨hp.push (De b1 l1),g,d,tk,os⟩:=fun A E Q q=>R8 (s:=⟨hp.push (De b1 l1),g,d,tk,os⟩) (h2.push _) q
  wp_walk using i1,i2
  exact⟨_,rfl,h⟩
theorem V3{b1 b2:Bool}{l1 l2:Addr}{xs ys:List Value}{Q:Value→Shared→Prop}(h1:Sq b1 s.heap l1 xs)(h2:Sq b2 s.heap l2 ys)
 (h:∀h',IsZip h' (s.heap.objs.size+4) (s.heap.objs.size+2) (s.heap.objs.size+3) .none→IsPair h' (s.heap.objs.size+2) (.ref s.heap.objs.size) (.ref (s.heap.objs.size+1))→IsPair h' (s.heap.objs.size+3) .none .none →
   Ms b1 h' s.heap.objs.size l1 0→Ms b2 h' (s.heap.objs.size+1) l2 0→(∀c o,s.heap.get? c=some o→h'.get? c=some o)→Q (.ref (s.heap.objs.size+4)) {s with heap:=h'}) :
  wpAny (model prog w) A (call (.type "zip") [.ref l1,.ref l2]) Q E s:=by
 refine callType_new F.called_zip (by decide) (F.typeCall_zip_2 _ _) (F.newCall_zip_2 _ _) (fun obj=>F.args_object_init_3 obj _ _) F.entry_zip_new (YG b1 b2 l1 l2 xs ys) ⟨h1,h2,?_⟩;have n1:(s.heap.push (De b1 l1)).objs.size=s.heap.objs.size+1:=Heap.size_push ..;have up:∀(g:Heap) (o:Obj) (c:Addr) (u:Obj),g.get? c=some u→(g.push o).get? c=some u:=fun g o c u e=>aD _ e;have a0:(s.heap.push (De b1 l1)).get? s.heap.objs.size=some (De b1 l1):=aT _ (by cases b1<;>rfl);generalize hg1:s.heap.push (De b1 l1)=g1 at n1 a0;have k1:∀c o,s.heap.get? c=some o→g1.get? c=some o:=fun c o e=>by rw[←hg1];exact up _ _ _ _ e
 have n2:(g1.push (De b2 l2)).objs.size=s.heap.objs.size+2:=by rw[Heap.size_push,n1]
 have a1:(g1.push (De b2 l2)).get? (s.heap.objs.size+1)=some (De b2 l2):=by rw[←n1];exact aT _ (by cases b2<;>rfl)
 generalize hg2:g1.push (De b2 l2)=g2 at n2 a1;have k2:∀c o,g1.get? c=some o→g2.get? c=some o:=fun c o e=>by rw[←hg2];exact up _ _ _ _ e
 have n3:(g2.push { cls:=.type "tuple",data:=.seq #[.ref s.heap.objs.size,.ref (s.heap.objs.size+1)]}).objs.size=s.heap.objs.size+3:=by rw[Heap.size_push,n2]
 have a2:IsPair (g2.push { cls:=.type "tuple",data:=.seq #[.ref s.heap.objs.size,.ref (s.heap.objs.size+1)]}) (s.heap.objs.size+2) (.ref s.heap.objs.size) (.ref (s.heap.objs.size+1)):=by rw[←n2];exact aT _ rfl
 generalize hg3:g2.push { cls:=.type "tuple",data:=.seq #[.ref s.heap.objs.size,.ref (s.heap.objs.size+1)]}=g3 at n3 a2;have k3:∀c o,g2.get? c=some o→g3.get? c=some o:=fun c o e=>by rw[←hg3];exact up _ _ _ _ e
 have n4:(g3.push { cls:=.type "tuple",data:=.seq #[.none,.none]}).objs.size=s.heap.objs.size+4:=by rw[Heap.size_push,n3]
 have a3:IsPair (g3.push { cls:=.type "tuple",data:=.seq #[.none,.none]}) (s.heap.objs.size+3) .none .none:=by rw[←n3];exact aT _ rfl
 generalize hg4:g3.push { cls:=.type "tuple",data:=.seq #[.none,.none]}=g4 at n4 a3;have k4:∀c o,g3.get? c=some o→g4.get? c=some o:=fun c o e=>by rw[←hg4];exact up _ _ _ _ e
 have ez:zh b1 b2 s.heap l1 l2=g4.push { cls:=.type "zip",data:=.fields #[.none,.bool false,.bool false,.ref (s.heap.objs.size+2),.ref (s.heap.objs.size+3)]}:=by
  unfold zh;rw[hg1,hg2,n1,hg3,hg4,n2,n3]
 have a4:IsZip (g4.push { cls:=.type "zip",data:=.fields #[.none,.bool false,.bool false,.ref (s.heap.objs.size+2),.ref (s.heap.objs.size+3)]}) (s.heap.objs.size+4) (s.heap.objs.size+2) (s.heap.objs.size+3) .none:=by rw[←n4];exact aT _ rfl
 rw[n1,hg3,hg4,n4,ez];show _∧_;have k5:∀c o,g4.get? c=some o→(g4.push { cls:=.type "zip",data:=.fields #[.none,.bool false,.bool false,.ref (s.heap.objs.size+2),.ref (s.heap.objs.size+3)]}).get? c=some o:=fun c o e=>up _ _ _ _ e;refine⟨⟨_,a4,rfl⟩,h _ a4 (k5 _ _ (k4 _ _ a2)) (k5 _ _ a3) ?_ ?_ fun c o e=>k5 _ _ (k4 _ _ (k3 _ _ (k2 _ _ (k1 _ _ e))))⟩
 ·have:=k5 _ _ (k4 _ _ (k3 _ _ (k2 _ _ a0)));cases b1 with
  |true=>exact⟨_,this,rfl,rfl⟩
  |false=>exact⟨_,this,rfl,rfl⟩
 ·have:=k5 _ _ (k4 _ _ (k3 _ _ a1));cases b2 with
  |true=>exact⟨_,this,rfl,rfl⟩
  |false=>exact⟨_,this,rfl,rfl⟩
end
end ZT
namespace L2
open PySem PySem.Spec PyProof.Rows
def EV(b:Bool)(H:Hp)(a:Addr)(xs:List V):Prop:=if b then H a=some (.tup xs) else H a=some (.lst xs)
theorem EV.inj{b:Bool}{H:Hp}{a:Addr}{xs ys:List V}(h:EV b H a xs)(k:EV b H a ys):xs=ys:=by
 cases b with
 |true=>have h:H a=some (.tup xs):=h;have k:H a=some (.tup ys):=k;rw[h]at k;cases k;rfl
 |false=>have h:H a=some (.lst xs):=h;have k:H a=some (.lst ys):=k;rw[h]at k;cases k;rfl
theorem EV.none{b:Bool}{H:Hp}{a c:Addr}{xs:List V}(h:EV b H a xs)(k:H c=none):a≠c:=fun z=>by
 subst z;cases b with
 |true=>have h:H a=some (.tup xs):=h;rw[k]at h;cases h
 |false=>have h:H a=some (.lst xs):=h;rw[k]at h;cases h
theorem EV.raw{X:Cx}{pins:List (Addr×Obj)}{σ:St}{H:Hp}{s:Shared}(I:Inv X pins σ H s){b:Bool}{a:Addr}{xs:List V}(h:EV b H a xs):∃its,Vals xs its∧ZT.Sq b s.heap a its:=by
 cases b with
 |true =>
  obtain⟨its,rv,p,_⟩:=I.tuple (Ap.of (K:=X.K) (show H a=some (.tup xs) from h));exact⟨its,rv,p⟩
 |false =>
  obtain⟨its,rv,p,_⟩:=I.list (AQ.of (K:=X.K) (show H a=some (.lst xs) from h));exact⟨its,rv,p.isList⟩
def ZR(b1 b2:Bool)(a1 a2:Addr):It :=
 ⟨fun i H=>∃xs x ys y,EV b1 H a1 xs∧EV b2 H a2 ys∧xs[i]? = some x∧ys[i]? = some y,
  fun i H v H'=>∃p x y,v=.ref p∧H p=none∧H'=upd H p (.tup [x,y])∧(∀xs,EV b1 H a1 xs→xs[i]? = some x)∧∀ys,EV b2 H a2 ys→ys[i]? = some y,
  fun i H=>∃xs ys,EV b1 H a1 xs∧EV b2 H a2 ys∧(i=xs.length∨(i<xs.length∧i=ys.length))⟩
def gh(b1 b2:Bool)(a1 a2 z TI TO i1 i2:Addr):Nat→Heap→Prop:=fun i h=>IsZip h z TI TO .none∧IsPair h TI (.ref i1) (.ref i2)∧(∃a b,IsPair h TO a b)∧ZT.Ms b1 h i1 a1 i∧ZT.Ms b2 h i2 a2 i
theorem K5{b:Bool}{h:Heap}{it l:Addr}{k:Nat}(x:ZT.Ms b h it l k):∃o,h.get? it=some o∧∀v,o.data≠.cell v:=by
 cases b with
 |true=>obtain⟨o,e,_,d⟩:=(show h.IsTupleIter it l k from x);exact⟨o,e,fun v z=>by rw[d]at z;cases z⟩
 |false=>obtain⟨o,e,_,d⟩:=(show h.IsListIter it l k from x);exact⟨o,e,fun v z=>by rw[d]at z;cases z⟩
theorem JN{b:Bool}{h h':Heap}{it l:Addr}{k:Nat}(x:ZT.Ms b h it l k)(e:∀o,h.get? it=some o→h'.get? it=some o):ZT.Ms b h' it l k:=by
 cases b with
 |true=>obtain⟨o,q,r⟩:=(show h.IsTupleIter it l k from x);exact(show h'.IsTupleIter it l k from⟨o,e _ q,r⟩)
 |false=>obtain⟨o,q,r⟩:=(show h.IsListIter it l k from x);exact(show h'.IsListIter it l k from⟨o,e _ q,r⟩)
theorem WQ{P:Program}{w:World}{K:PySem.W.Frag}{elts:List Expr}{x1}{pos:Pos}{b1 b2:Bool}{a1 a2 z TI TO i1 i2:Addr}(ne:[z,TI,TO,i1,i2].Nodup) :
  Turn P w K (.Tuple elts x1 pos) (ZR b1 b2 a1 a2) [z,TI,TO,i1,i2] z (gh b1 b2 a1 a2 z TI TO i1 i2) where
 mem:=by simp
 obj:=fun i h st b hb=>by
  obtain⟨h1,h2,⟨u,v,h3⟩,h4,h5⟩:=st;have hb:b=z∨b=TI∨b=TO∨b=i1∨b=i2:=by simpa using hb
  rcases hb with rfl|rfl|rfl|rfl|rfl
  ·exact⟨_,h1,fun v y=>by cases y⟩
  ·exact⟨_,h2,fun v y=>by cases y⟩
  ·exact⟨_,h3,fun v y=>by cases y⟩
  ·exact K5 h4
  ·exact K5 h5
 keep:=fun i h h' st k=>by
  obtain⟨h1,h2,⟨u,v,h3⟩,h4,h5⟩:=st;exact⟨k z (by simp) _ h1,k TI (by simp) _ h2,⟨u,v,k TO (by simp) _ h3⟩,JN h4 fun o e=>k i1 (by simp) o e,JN h5 fun o e=>k i2 (by simp) o e⟩
 item:=by
  intro X hP hw hK hc i pins s σ H E I hf st hg;subst hP hw hK;obtain⟨xs,x,ys,y,q1,q2,hx,hy⟩:=hg;obtain⟨us,rv1,p1⟩:=q1.raw I;obtain⟨vs,rv2,p2⟩:=q2.raw I;obtain⟨u,hu,ru⟩:=rv1.get hx;obtain⟨v,hv,rv⟩:=rv2.get hy;obtain⟨t1,t2,⟨ta,tb,t3⟩,t4,t5⟩:=st;have e1:∀b∈[z,TI,TO,i1,i2],a1≠b:=fun b hb=>q1.none (hf b hb).1;have e2:∀b∈[z,TI,TO,i1,i2],a2≠b:=fun b hb=>q2.none (hf b hb).1;simp only[List.nodup_cons,List.mem_cons,List.not_mem_nil,or_false,not_or]at ne;obtain⟨⟨n1,n2,n3,n4⟩,⟨n5,n6,n7⟩,⟨n8,n9⟩,n10,_⟩:=ne;have ap:ZT.Apart z TI TO i1 i2 [i1,a1] [i2,a2]:=⟨⟨Ne.symm n1,n5,n6,n7⟩,⟨Ne.symm n2,n8,n9⟩,⟨Ne.symm n3,Ne.symm n4,n10⟩,
   ⟨by simp[n3,Ne.symm (e1 z (by simp))],by simp[n8,Ne.symm (e1 TO (by simp))],by simp[Ne.symm n10,Ne.symm (e1 i2 (by simp))]⟩,⟨by simp[n4,Ne.symm (e2 z (by simp))],by simp[n9,Ne.symm (e2 TO (by simp))],by simp[n10,Ne.symm (e2 i1 (by simp))]⟩⟩
  refine ZT.next_item (ZT.JH (prog:=X.prog) (w:=X.w) (A:=X.A.in1) (I.ok.hd hc) b1 i1 a1 us (e1 i1 (by simp))) (ZT.JH (prog:=X.prog) (w:=X.w) (A:=X.A.in1) (I.ok.hd hc) b2 i2 a2 vs (e2 i2 (by simp))) ap t1 t2 t3 ⟨t4,p1⟩ ⟨t5,p2⟩ (aC.mp hu).1 (aC.mp hv).1
   fun u' v' h' tk r1 r2 r3 r4 r5 r6 r7 r8 r9=>⟨_,rfl,wpAny_letOwnedTupleGo_zip (s:={s with heap:=h',toks:=tk}) r3 fun h'' z'' sb=>?_⟩
  rw[hu]at r1;rw[hv]at r2;cases r1;cases r2;have keep:∀b o,b ∉ [z,TI,TO,i1,i2]→s.heap.get? b=some o→h''.get? b=some o:=fun b o hb q=>by
   simp only[List.mem_cons,List.not_mem_nil,or_false,not_or]at hb;exact(sb.2 b hb.1).trans (r9 b o hb.1 hb.2.2.1 hb.2.2.2.1 hb.2.2.2.2 q)
  have lt:∀b∈[z,TI,TO,i1,i2],b<s.heap.objs.size:=fun b hb=>by
   have hb:b=z∨b=TI∨b=TO∨b=i1∨b=i2:=by simpa using hb
   rcases hb with rfl|rfl|rfl|rfl|rfl
   ·exact aE t1
   ·exact aE t2
   ·exact aE t3
   ·obtain⟨o,e,_⟩:=K5 t4;exact aE e
   ·obtain⟨o,e,_⟩:=K5 t5;exact aE e
  have hTn:H s.heap.objs.size=none:=I.Ah.fresh (aG _);have hT'':h''.get? s.heap.objs.size=some { cls:=.type "tuple",data:=.seq #[u,v]}:=(sb.2 _ (aq (lt z (by simp)))).trans r7;have neT:∀b o,s.heap.get? b=some o→b≠s.heap.objs.size:=fun b o q=>aN (aE q);have FO:∀b o,H b=some o→b ∉ [z,TI,TO,i1,i2]:=fun b o q hb=>by rw[(hf b hb).1]at q;cases q
  refine⟨.ref s.heap.objs.size,upd H s.heap.objs.size (.tup [x,y]),?_,rfl,⟨_,x,y,rfl,hTn,rfl,fun zs hz=>by rw[hz.inj q1];exact hx,fun zs hz=>by rw[hz.inj q2];exact hy⟩,⟨z'',?_,⟨u,v,?_⟩,?_,?_⟩,fun b hb=>?_⟩
  ·show Inv X pins σ _ {s with heap:=h'',gens:=s.gens,drawn:=s.drawn,toks:=tk};refine I.step (h':=h'') (g':=s.gens) (d':=s.drawn) (t':=tk) (ch:=[z,TI,TO,i1,i2]) (fun b hb=>?_) (fun b o _ _ hc q _=>keep b o hc q) (fun b o _ _ hc q _=>⟨o.slots,keep b o hc q⟩)
    (fun b o _ q n=>by rw[AE (neT b o q)];exact n) (fun b o hc q=>⟨o,keep b o hc q⟩) (fun b ys q=>by rw[AE (AK q hTn)];exact q) (fun b o u q=>by rw[AE (AK q hTn)];exact q)
    (fun b ps q=>⟨#[],by rw[AE (AK q hTn),q];simp⟩) (fun b _ o hc _ q=>keep b o hc q) (fun m hm=>?_) (fun b o q=>?_) I.bare
   ·obtain⟨_,f1,_,f3,f4,f5⟩:=hf b hb;exact⟨f3,f1,f4,f5⟩
   ·obtain⟨o,es,ep,ho,r⟩:=hm;exact⟨o,es,ep,keep _ o (fun hb=>(hf _ hb).2.1 rfl) ho,r⟩
   ·by_cases hb:b=s.heap.objs.size
    ·subst hb;rw[AI]at q;cases q;exact⟨Sg,[u,v],.cons ru (.cons rv .nil),_,hT'',rfl,_,rfl⟩
    ·rw[AE hb]at q;refine(I.Ah b o q).Gq (fun c w hc r=>keep c w ?_ r) (fun c r=>by rw[AE (AK r hTn)];exact r) fun c ys r=>by rw[AE (AK r hTn)];exact r
     rcases hc with rfl|hc
     ·exact FO _ _ q
     ·exact FO _ _ hc
  ·exact(sb.2 _ (Ne.symm n1)).trans (r9 _ _ (Ne.symm n1) n5 n6 n7 t2)
  ·exact(sb.2 _ (Ne.symm n2)).trans r4
  ·exact JN r5.1 fun o e=>(sb.2 _ (Ne.symm n3)).trans e
  ·exact JN r6.1 fun o e=>(sb.2 _ (Ne.symm n4)).trans e
  ·rw[AE (aN (lt b hb))];exact(hf b hb).1
 done:=by
  intro X hP hw hK hc i pins s σ H E I hf st hg;subst hP hw hK;obtain⟨xs,ys,q1,q2,he⟩:=hg;obtain⟨us,rv1,p1⟩:=q1.raw I;obtain⟨vs,rv2,p2⟩:=q2.raw I;obtain⟨t1,t2,⟨ta,tb,t3⟩,t4,t5⟩:=st;have e1:∀b∈[z,TI,TO,i1,i2],a1≠b:=fun b hb=>q1.none (hf b hb).1;have e2:∀b∈[z,TI,TO,i1,i2],a2≠b:=fun b hb=>q2.none (hf b hb).1;simp only[List.nodup_cons,List.mem_cons,List.not_mem_nil,or_false,not_or]at ne;obtain⟨⟨n1,n2,n3,n4⟩,⟨n5,n6,n7⟩,⟨n8,n9⟩,n10,_⟩:=ne;have ap:ZT.Apart z TI TO i1 i2 [i1,a1] [i2,a2]:=⟨⟨Ne.symm n1,n5,n6,n7⟩,⟨Ne.symm n2,n8,n9⟩,⟨Ne.symm n3,Ne.symm n4,n10⟩,
   ⟨by simp[n3,Ne.symm (e1 z (by simp))],by simp[n8,Ne.symm (e1 TO (by simp))],by simp[Ne.symm n10,Ne.symm (e1 i2 (by simp))]⟩,⟨by simp[n4,Ne.symm (e2 z (by simp))],by simp[n9,Ne.symm (e2 TO (by simp))],by simp[n10,Ne.symm (e2 i1 (by simp))]⟩⟩
  have he':i=us.length∨(i<us.length∧i=vs.length):=by rw[←rv1.length,←rv2.length];exact he
  refine ZT.next_end (ZT.JH (prog:=X.prog) (w:=X.w) (A:=X.A.in1) (I.ok.hd hc) b1 i1 a1 us (e1 i1 (by simp))) (ZT.JH (prog:=X.prog) (w:=X.w) (A:=X.A.in1) (I.ok.hd hc) b2 i2 a2 vs (e2 i2 (by simp))) ap t1 t2 t3 ⟨t4,p1⟩ ⟨t5,p2⟩ he' fun h' tk kp=>⟨rfl,?_⟩;have keep:∀b o,b ∉ [z,TI,TO,i1,i2]→s.heap.get? b=some o→h'.get? b=some o:=fun b o hb q=>by
   simp only[List.mem_cons,List.not_mem_nil,or_false,not_or]at hb;exact kp b o hb.1 hb.2.2.1 hb.2.2.2.1 hb.2.2.2.2 q
  have FO:∀b o,H b=some o→b ∉ [z,TI,TO,i1,i2]:=fun b o q hb=>by rw[(hf b hb).1]at q;cases q
  show Inv X pins σ _ {s with heap:=h',gens:=s.gens,drawn:=s.drawn,toks:=tk};refine I.step (h':=h') (g':=s.gens) (d':=s.drawn) (t':=tk) (ch:=[z,TI,TO,i1,i2]) (fun b hb=>?_) (fun b o _ _ hc q _=>keep b o hc q) (fun b o _ _ hc q _=>⟨o.slots,keep b o hc q⟩)
    (fun b o _ q n=>n) (fun b o hc q=>⟨o,keep b o hc q⟩) (fun b ys q=>q) (fun b o u q=>q)
    (fun b ps q=>⟨#[],by rw[q];simp⟩) (fun b _ o hc _ q=>keep b o hc q) (fun m hm=>?_) (fun b o q=>?_) I.bare
  ·obtain⟨_,f1,_,f3,f4,f5⟩:=hf b hb;exact⟨f3,f1,f4,f5⟩
  ·obtain⟨o,es,ep,ho,r⟩:=hm;exact⟨o,es,ep,keep _ o (fun hb=>(hf _ hb).2.1 rfl) ho,r⟩
  ·refine(I.Ah b o q).Gq (fun c w hc r=>keep c w ?_ r) (fun c r=>r) fun c ys r=>r;rcases hc with rfl|hc
   ·exact FO _ _ q
   ·exact FO _ _ hc
 self:=fun _ _ _ _ _ st h=>wpAny_pyIter_zip st.1 h
def fG(ta:TA):TI:=fun σ H R=>ta σ H fun vs H1=>∃(b1 b2:Bool) (a1 a2:Addr),vs=[.ref a1,.ref a2]∧(∃xs,EV b1 H1 a1 xs)∧(∃ys,EV b2 H1 a2 ys)∧R (ZR b1 b2 a1 a2) H1
theorem P7{X:Cx}{elts:List Expr}{x1}{tpos:Pos}{a b:Expr}{ta:TA}{p pos:Pos}(hg:Gl X "zip")(hm:X.mg "zip" = none)(ha:PA X [a,b] ta)(hs:starEach [a,b] X.env=[(false,eval a X.env),(false,eval b X.env)]:=by rfl)(hs2:starEach [b] X.env=[(false,eval b X.env)]:=by rfl) :
  PI X (.Tuple elts x1 tpos) (.Call (.Name "zip" p) [a,b] [] pos) (fG ta):=by
 intro pins s σ H R I h;refine Call_ (EX I hg hm boot_zip (bF (Av (ha pos pins s σ H _ I h) fun us s1 ⟨vs,H1,I1,r1,q1⟩=>?_) (by rw[hs,hs2]) (by rw[hs2];rfl)));obtain⟨b1,b2,l1,l2,e,⟨xs,h1⟩,⟨ys,h2⟩,q⟩:=q1;subst e;cases r1 with
 |cons r rr =>
  cases rr with
  |cons r' rr =>
   cases rr;cases r;cases r';obtain⟨us,_,p1⟩:=h1.raw I1;obtain⟨vs,_,p2⟩:=h2.raw I1;refine ZT.V3 p1 p2 fun h' z1 z2 z3 z4 z5 hk=>wpAny_pyIter_zip z1 ?_;have I2:Inv X pins σ H1 {s1 with heap:=h'}:=I1.kept (t':=s1.toks) hk;refine⟨_,[s1.heap.objs.size+4,s1.heap.objs.size+2,s1.heap.objs.size+3,s1.heap.objs.size,s1.heap.objs.size+1],_,_,H1,rfl,I2,WQ ?_,⟨z1,z2,⟨_,_,z3⟩,z4,z5⟩,fun b hb=>?_,q⟩
   ·simp
   have hb':s1.heap.objs.size≤b:=by
    have hb2:b=s1.heap.objs.size+4∨b=s1.heap.objs.size+2∨b=s1.heap.objs.size+3∨b=s1.heap.objs.size∨b=s1.heap.objs.size+1:=by simpa using hb
    rcases hb2 with h|h|h|h|h<;>rw[h]<;>first|exact aG _|exact Nat.le_add_right _ _
   exact I1.Mz hb' (I1.Ah.fresh hb')
def Rl(K:PySem.W.Frag)(a:Addr):It :=
 ⟨fun i H=>∃xs x,AQ K H a xs∧xs[i]? = some x,fun i H v H'=>∃p x,v=.ref p∧H p=none∧H'=upd H p (.tup [.int i,x])∧∀xs,AQ K H a xs→xs[i]? = some x,fun i H=>∃xs,AQ K H a xs∧xs.length=i⟩
theorem Td{P:Program}{w:World}{K:PySem.W.Frag}{elts:List Expr}{x1}{pos:Pos}(a e it:Addr)(hne:e≠it) :
  Turn P w K (.Tuple elts x1 pos) (Rl K a) [e,it] e (fun i h=>(∃old,IsEnum h e it (i:Nat) old)∧h.IsListIter it a i) where
 mem:=by simp
 obj:=fun i h st b hb=>by
  rcases aS.mp hb with rfl|hb
  ·obtain⟨⟨old,q⟩,_⟩:=st;exact⟨_,q,fun v z=>by cases z⟩
  ·have e2:b=it:=by simpa using hb
   subst e2;obtain⟨_,o,q,c,d⟩:=st;exact⟨o,q,fun v z=>by rw[d]at z;cases z⟩
 keep:=fun i h h' st k=>by
  obtain⟨⟨old,q⟩,o,q2,r⟩:=st;exact⟨⟨old,k e (by simp) _ q⟩,o,k it (by simp) _ q2,r⟩
 item:=by
  intro X hP hw hK hc i pins s σ H E I hf st hg;subst hP hw hK;obtain⟨xs,x,hq,hx⟩:=hg;obtain⟨its,rv,pL,hz⟩:=I.list hq;have p:=pL.isList;obtain⟨u,hu,ru⟩:=rv.get hx;obtain⟨⟨old,he⟩,hit⟩:=st;have hai:a≠it:=fun z=>by
   obtain⟨o,e1,c1,_⟩:=p;obtain⟨o2,e2,c2,_⟩:=hit;rw[z,e2]at e1;cases e1;rw[c1]at c2;exact absurd c2 (by decide)
  have hae:a≠e:=fun z=>by
   obtain⟨o,e1,c1,_⟩:=p;rw[z,he]at e1;cases e1;exact absurd (show Value.type "enumerate" = Value.type "list" from c1) (by decide)
  have hlt:i<its.length:=(aC.mp hu).1;have hE0:=hf e (by simp);have hI0:=hf it (by simp);refine wpAny_pyNext_enum_itemD (Draws.list (prog:=X.prog) (w:=X.w) (A:=X.A.in1) (I.ok.hd hc) it a hai its.toArray) he ⟨hit,p⟩ (by simpa using hlt) hne (by simp[hne,Ne.symm hae]) fun y h' tk hy ho hs' hT hsz hk=>⟨_,rfl,wpAny_letOwnedTupleGo_enum (s:={s with heap:=h',toks:=tk+1}) ho fun h'' he'' sb=>?_⟩;have hyu:y=u:=by
   have hy:its[i]? = some y:=by simpa using hy
   rw[hu]at hy;exact(aW hy).symm
  subst hyu;have keep:∀b o,b≠e→b≠it→s.heap.get? b=some o→h''.get? b=some o:=fun b o h1 h2 q=>(sb.2 b h1).trans (hk b o h1 h2 q);have hTe:s.heap.objs.size≠e:=aq (aE he);have hTi:s.heap.objs.size≠it:=let⟨_,q,_⟩:=hit;aq (aE q);have hT'':h''.get? s.heap.objs.size=some { cls:=.type "tuple",data:=.seq #[.int i tk,y]}:=(sb.2 _ hTe).trans hT;have hTn:H s.heap.objs.size=none:=I.Ah.fresh (aG _);have neT:∀b o,s.heap.get? b=some o→b≠s.heap.objs.size:=fun b o q=>aN (aE q);have FO:∀b o,H b=some o→b≠e∧b≠it:=fun b o q=>⟨(fun z=>by rw[z,hE0.1]at q;cases q),(fun z=>by rw[z,hI0.1]at q;cases q)⟩;refine⟨.ref s.heap.objs.size,upd H s.heap.objs.size (.tup [.int i,x]),?_,rfl,⟨_,x,rfl,hTn,rfl,fun ys hy=>by rw[I.Qg hy hq];exact hx⟩,⟨⟨_,by simpa using he''⟩,?_⟩,fun b hb=>?_⟩
  ·show Inv X pins σ _ {s with heap:=h'',gens:=s.gens,drawn:=s.drawn,toks:=tk+1};refine I.step (h':=h'') (g':=s.gens) (d':=s.drawn) (t':=tk+1) (ch:=[e,it]) (fun b hb=>?_) (fun b o _ _ hc q _=>keep b o (fun z=>hc (by simp[z])) (fun z=>hc (by simp[z])) q) (fun b o _ _ hc q _=>⟨o.slots,keep b o (fun z=>hc (by simp[z])) (fun z=>hc (by simp[z])) q⟩)
    (fun b o _ q n=>by rw[AE (neT b o q)];exact n) (fun b o hc q=>⟨o,keep b o (fun z=>hc (by simp[z])) (fun z=>hc (by simp[z])) q⟩) (fun b ys q=>by rw[AE (AK q hTn)];exact q) (fun b o u q=>by rw[AE (AK q hTn)];exact q)
    (fun b ps q=>⟨#[],by rw[AE (AK q hTn),q];simp⟩) (fun b _ o hc _ q=>keep b o (fun z=>hc (by simp[z])) (fun z=>hc (by simp[z])) q) (fun m hm=>?_) (fun b o q=>?_) I.bare
   ·rcases aS.mp hb with rfl|hb
    ·exact⟨hE0.2.2.2.1,hE0.2.1,hE0.2.2.2.2.1,hE0.2.2.2.2.2⟩
    ·have e2:b=it:=by simpa using hb
     subst e2;exact⟨hI0.2.2.2.1,hI0.2.1,hI0.2.2.2.2.1,hI0.2.2.2.2.2⟩
   ·obtain⟨o,es,ep,ho,r⟩:=hm;exact⟨o,es,ep,keep _ o (Ne.symm hE0.2.1) (Ne.symm hI0.2.1) ho,r⟩
   ·by_cases hb:b=s.heap.objs.size
    ·subst hb;rw[AI]at q;cases q;exact⟨Sg,[.int i tk,y],.cons ⟨tk,rfl⟩ (.cons ru .nil),_,hT'',rfl,_,rfl⟩
    ·rw[AE hb]at q;refine(I.Ah b o q).Gq (fun c v hc r=>keep c v ?_ ?_ r) (fun c r=>by rw[AE (AK r hTn)];exact r) fun c ys r=>by rw[AE (AK r hTn)];exact r
     ·rcases hc with rfl|hc
      ·exact(FO _ _ q).1
      ·exact(FO _ _ hc).1
     ·rcases hc with rfl|hc
      ·exact(FO _ _ q).2
      ·exact(FO _ _ hc).2
  ·obtain⟨⟨o,q,r⟩,_⟩:=hs';exact⟨o,(sb.2 it (Ne.symm hne)).trans q,r⟩
  ·rcases aS.mp hb with rfl|hb
   ·rw[AE (Ne.symm hTe)];exact hE0.1
   ·have e2:b=it:=by simpa using hb
    subst e2;rw[AE (Ne.symm hTi)];exact hI0.1
 done:=by
  intro X hP hw hK hc i pins s σ H E I hf st hg;subst hP hw hK;obtain⟨xs,hq,hx⟩:=hg;obtain⟨its,rv,pL,hz⟩:=I.list hq;have p:=pL.isList;obtain⟨⟨old,he⟩,hit⟩:=st;have hai:a≠it:=fun z=>by
   obtain⟨o,e1,c1,_⟩:=p;obtain⟨o2,e2,c2,_⟩:=hit;rw[z,e2]at e1;cases e1;rw[c1]at c2;exact absurd c2 (by decide)
  have hl:its.length=i:=by rw[←rv.length];exact hx
  subst hl;obtain⟨f0,f1,f2,f3,f4,f5⟩:=hf it (by simp);exact wpAny_pyNext_enum_endD (Draws.list (prog:=X.prog) (w:=X.w) (A:=X.A.in1) (I.ok.hd hc) it a hai its.toArray) he ⟨hit,p⟩ fun h' eb=>⟨rfl,I.turned (t':=s.toks) (fun b o hb q=>eb b o hb q) f0 f1 f3 f4 f5⟩
 self:=fun _ _ _ _ _ st h=>by
  obtain⟨⟨old,he⟩,_⟩:=st;exact wpAny_pyIter_enum he h
def Ze(K:PySem.W.Frag)(ta:TA):TI:=fun σ H R=>ta σ H fun vs H1=>∃a,vs=[.ref a]∧(∃xs,AQ K H1 a xs)∧R (Rl K a) H1
theorem RA{X:Cx}{elts:List Expr}{x1}{tpos:Pos}{a:Expr}{ta:TA}{p pos:Pos}(hg:Gl X "enumerate")(hm:X.mg "enumerate" = none)(ha:PA X [a] ta)(hs:starEach [a] X.env=[(false,eval a X.env)]:=by rfl) :
  PI X (.Tuple elts x1 tpos) (.Call (.Name "enumerate" p) [a] [] pos) (Ze X.K ta):=by
 intro pins s σ H R I h;refine Call_ (EX I hg hm boot_enumerate (bF (Av (ha pos pins s σ H _ I h) fun us s1 ⟨vs,H1,I1,r1,q1⟩=>?_) hs rfl));obtain⟨t,e,⟨xs,hq⟩,q⟩:=q1;subst e;cases r1 with
 |cons r rr =>
  cases rr;cases r;obtain⟨its,rv,p',hz⟩:=I1.list hq;refine call_enumerate_list (show s1.heap.IsList t its.toArray from p'.isList) fun h' he hit hsz hk=>wpAny_pyIter_enum he ?_;have I2:Inv X pins σ H1 {s1 with heap:=h'}:=I1.kept (t':=s1.toks) hk;have hn:s1.heap.objs.size+1≠s1.heap.objs.size:=by lia
  refine⟨s1.heap.objs.size+1,[s1.heap.objs.size+1,s1.heap.objs.size],_,_,H1,rfl,I2,Td t _ _ hn,⟨⟨_,he⟩,hit⟩,fun b hb=>?_,q⟩;have hb':s1.heap.objs.size≤b:=by
   have hb2:b=s1.heap.objs.size+1∨b=s1.heap.objs.size:=by simpa using hb
   rcases hb2 with z|z
   ·rw[z];exact Nat.le_succ _
   ·rw[z];exact aG _
  exact I1.Mz hb' (I1.Ah.fresh hb')
theorem Vd{K:PySem.W.Frag}{a:Addr}{xs:List V}{g:TG}{tb:TS}{D:Ends}{σ:St}{H:Hp}(Pv:Nat→St→Hp→Prop)(h0:Pv 0 σ H)(hl:∀i σ H,i≤xs.length→Pv i σ H→AQ K H a xs)
 (hs:∀i x σ H,xs[i]? = some x→Pv i σ H→∀p,H p=none→g (.ref p) σ (upd H p (.tup [.int (i:Nat),x])) fun σ2 H2=>tb {D with nx:=Pv (i+1),ct:=Pv (i+1),bk:=D.nx} σ2 H2)(hd:∀σ H,Pv xs.length σ H→D.nx σ H) :
  ∃W:Nat→Nat→St→Hp→Prop,(∃m,W 0 m σ H)∧∀i m σ H,W i m σ H →
   ((Rl K a).stop i H∧D.nx σ H)∨((Rl K a).go i H∧∃N:St→Hp→Prop,(∀σ' H',N σ' H'→∃m',m'<m∧W (i+1) m' σ' H')∧∀x H',(Rl K a).Df i H x H'→g x σ H' fun σ2 H2=>tb {D with nx:=N,ct:=N,bk:=D.nx} σ2 H2):=by
 refine⟨fun i m σ H=>m=xs.length-i∧i≤xs.length∧Pv i σ H,⟨xs.length,by simp,Nat.zero_le _,h0⟩,?_⟩;rintro i m σ H ⟨rfl,hi,p⟩;have q:=hl i σ H hi p;by_cases hlt:i<xs.length
 ·refine .inr ⟨⟨xs,xs[i],q,by simp[hlt]⟩,Pv (i+1),fun σ' H' p'=>⟨xs.length-(i+1),by lia,rfl,hlt,p'⟩,fun x H' y=>?_⟩;obtain⟨pp,x',rfl,hn,rfl,y⟩:=y;exact hs i x' σ _ (y xs q) p pp hn
 ·have e:i=xs.length:=by lia
  subst e;exact .inl ⟨⟨xs,q,rfl⟩,hd σ H p⟩
section
variable{X:Cx}{scope:Scope}{cl:List (Str×Addr)}{N:List Str}{C:Addr}{s₀:Shared}{H₀:Hp}{fp:List Addr}
theorem Jm:EE (Ak X scope cl N C s₀ H₀ fp) (.type "list") (fun xs H Q=>∃p ys,xs=[.ref p]∧(AQ X.K H p ys∨Ap X.K H p ys)∧∀l,H l=none→Q (.ref l) (upd H l (.lst ys))):=J8
end
section
variable{κ:Type}[DecidableEq κ]
def Bu(kvs:List (κ×V))(k:κ):Option V:=(kvs.find? fun kv=>decide (kv.1=k)).map (·.2)
def putK(kvs:List (κ×V))(k:κ)(v:V):List (κ×V) :=
 if(kvs.any fun kv=>decide (kv.1=k))=true then kvs.map (fun kv=>if kv.1=k then(kv.1,v) else kv) else kvs++[(k,v)]
theorem FA{p:κ×V}{r:List (κ×V)}{k:κ}(e:p.1=k):Bu (p::r) k=some p.2:=by simp[Bu,List.find?_cons,e]
theorem FE{p:κ×V}{r:List (κ×V)}{k:κ}(e:¬p.1=k):Bu (p::r) k=Bu r k:=by simp[Bu,List.find?_cons,e]
theorem F7(k:κ):∀kvs:List (κ×V),(kvs.any fun kv=>decide (kv.1=k))=(Bu kvs k).isSome
 |[]=>rfl
 |p::r=>by
  rw[List.any_cons];by_cases e:p.1=k
  ·simp only[FA e,decide_eq_true e,Bool.true_or,Option.isSome_some]
  ·rw[FE e,decide_eq_false e,Bool.false_or];exact F7 k r
theorem Nr(k j:κ)(y:V):∀kvs:List (κ×V),Bu kvs k=none→Bu (kvs++[(k,y)]) j=if j=k then some y else Bu kvs j
 |[],_=>by
  by_cases e:k=j
  ·rw[if_pos e.symm];exact FA (p:=(k,y)) e
  ·rw[if_neg (fun z=>e z.symm)];exact FE (p:=(k,y)) e
 |p::r,hn=>by
  rw[List.cons_append];have hk:¬p.1=k:=fun z=>by rw[FA z]at hn;cases hn
  rw[FE hk]at hn;have ih:=Nr k j y r hn;by_cases e:p.1=j
  ·rw[FA e,FA e,if_neg (fun z=>hk (e.trans z))]
  ·rw[FE e,FE e,ih]
theorem Io(kvs:List (κ×V))(k:κ)(v:V):(putK kvs k v).length≤kvs.length+1:=by
 unfold putK;split
 ·rw[List.length_map];lia
 ·rw[List.length_append,List.length_cons,List.length_nil];lia
theorem Li{kvs:List (κ×V)}{k:κ}(v:V)(h:Bu kvs k=none):putK kvs k v=kvs++[(k,v)]:=by
 unfold putK;rw[F7,h];exact if_neg (by decide)
theorem Hi.Kk{o:Option V}{u:Option Value}(r:Hi o u):o.isSome=u.isSome:=by
 cases o with
 |none=>cases u with
  |none=>rfl
  |some _=>exact(show False from r).elim
 |some _=>cases u with
  |none=>exact(show False from r).elim
  |some _=>rfl
theorem KV.val{kvs:List (κ×V)}{vs:List (κ×Value)}(r:KV kvs vs)(k:κ):Hi (Bu kvs k) (valueAt vs k):=by
 unfold KV at r
 induction r with
 |nil=>exact True.intro
 | @cons p q ps qs h t ih =>
  obtain⟨h1,h2⟩:=h;by_cases e:p.1=k
  ·have e':q.1=k:=h1.symm.trans e;have b:valueAt (q::qs) k=some q.2:=by simp[valueAt,List.find?_cons,e']
   rw[FA e,b];exact h2
  ·have e':¬q.1=k:=fun z=>e (h1.trans z);have b:valueAt (q::qs) k=valueAt qs k:=by simp[valueAt,List.find?_cons,e']
   rw[FE e,b];exact ih
theorem KV.any{kvs:List (κ×V)}{vs:List (κ×Value)}(r:KV kvs vs)(k:κ):(kvs.any fun kv=>decide (kv.1=k))=vs.any fun kv=>decide (kv.1=k):=by
 unfold KV at r
 induction r with
 |nil=>rfl
 |cons h t ih=>rw[List.any_cons,List.any_cons,ih,h.1]
theorem KV.WI{kvs:List (κ×V)}{vs:List (κ×Value)}(r:KV kvs vs)(k:κ){y:V}{u:Value}(ry:RelV y u) :
  KV (kvs.map fun kv=>if kv.1=k then(kv.1,y) else kv) (vs.map fun kv=>if kv.1=k then(kv.1,u) else kv):=by
 unfold KV at r ⊢
 induction r with
 |nil=>exact .nil
 | @cons p q ps qs h t ih =>
  rw[List.map_cons,List.map_cons];refine .cons ?_ ih;obtain⟨h1,h2⟩:=h;by_cases e:p.1=k
  ·rw[if_pos e,if_pos (h1.symm.trans e)];exact⟨h1,ry⟩
  ·rw[if_neg e,if_neg (fun z=>e (h1.trans z))];exact⟨h1,h2⟩
theorem KV.put{kvs:List (κ×V)}{vs:List (κ×Value)}(r:KV kvs vs)(k:κ){y:V}{u:Value}(ry:RelV y u):KV (putK kvs k y) (stored vs k u):=by
 unfold putK stored;rw[r.any k];by_cases e:(vs.any fun kv=>decide (kv.1=k))=true
 ·rw[if_pos e,if_pos e];exact r.WI k ry
 ·rw[if_neg e,if_neg e];exact Paired.snoc r ⟨rfl,ry⟩
theorem KV.length{kvs:List (κ×V)}{vs:List (κ×Value)}(r:KV kvs vs):kvs.length=vs.length:=Paired.length r
end
theorem O2{P:Program}{w:World}{k:Key}{u:Value}(r:RelV (kV k) u):(Cg P w).is k u=true:=by
 cases k with
 |inl i=>obtain⟨t,e⟩:=(show ∃t,u=Value.int i t from r);subst e;exact RI P w i t
 |inr x=>obtain⟨t,e⟩:=(show ∃t,u=Value.str x t from r);subst e;exact RX P w x t
theorem OQ{P:Program}{w:World}:∀ {ks:List Key} {us:List Value},Vals (ks.map kV) us→ItemsAre (Cg P w) ks us
 |[],_,r=>by rw[List.map_nil]at r;cases r;exact .nil
 |k::ks,_,r=>by
  rw[List.map_cons]at r;cases r with
  |cons h t=>exact .cons (O2 h) (OQ t)
abbrev KT(H:Hp):List (List Key×V)→List (List Key×Addr×Value)→Prop:=Paired fun p q=>p.1=q.1∧H q.2.1=some (.tup (p.1.map kV))∧RelV p.2 q.2.2
theorem KT.val{H:Hp}{kvs:List (List Key×V)}{xs:List (List Key×Addr×Value)}(r:KT H kvs xs)(k:List Key):Hi (Bu kvs k) ((atKey xs k).map (·.2)):=by
 induction r with
 |nil=>exact True.intro
 | @cons p q ps qs h t ih =>
  obtain⟨h1,_,h2⟩:=h;by_cases e:p.1=k
  ·have e':q.1=k:=h1.symm.trans e;have b:atKey (q::qs) k=some q.2:=by simp[atKey,List.find?_cons,e']
   rw[FA e,b];exact h2
  ·have e':¬q.1=k:=fun z=>e (h1.trans z);have b:atKey (q::qs) k=atKey qs k:=by simp[atKey,List.find?_cons,e']
   rw[FE e,b];exact ih
theorem KT.WI{H:Hp}{kvs:List (List Key×V)}{xs:List (List Key×Addr×Value)}(r:KT H kvs xs)(k:List Key){y:V}{u:Value}(ry:RelV y u) :
  KT H (kvs.map fun kv=>if kv.1=k then(kv.1,y) else kv) (xs.map (putAt k u)):=by
 induction r with
 |nil=>exact .nil
 | @cons p q ps qs h t ih =>
  rw[List.map_cons,List.map_cons];refine .cons ?_ ih;obtain⟨h1,h2,h3⟩:=h;unfold putAt;by_cases e:p.1=k
  ·rw[if_pos e,if_pos (h1.symm.trans e)];exact⟨h1,h2,ry⟩
  ·rw[if_neg e,if_neg (fun z=>e (h1.trans z))];exact⟨h1,h2,h3⟩
theorem KT.put{H:Hp}{kvs:List (List Key×V)}{xs:List (List Key×Addr×Value)}(r:KT H kvs xs)(k:List Key){b:Addr}{y:V}{u:Value}(hb:H b=some (.tup (k.map kV)))(ry:RelV y u) :
  KT H (putK kvs k y) (storedH xs k b u):=by
 have e:(kvs.any fun kv=>decide (kv.1=k))=(atKey xs k).isSome:=by
  rw[F7,(r.val k).Kk,Option.isSome_map]
 unfold putK storedH;rw[e];by_cases q:(atKey xs k).isSome=true
 ·rw[if_pos q,if_pos q];exact r.WI k ry
 ·rw[if_neg q,if_neg q];exact Paired.snoc r ⟨rfl,hb,ry⟩
theorem KT.keeps{H H':Hp}{kvs:List (List Key×V)}{xs:List (List Key×Addr×Value)}(r:KT H kvs xs)(ht:∀b ys,H b=some (.tup ys)→H' b=some (.tup ys)):KT H' kvs xs :=
 Paired.WO r fun _ _ z=>⟨z.1,ht _ _ z.2.1,z.2.2⟩
section
variable{P:Program}{w:World}{H:Hp}{h:Heap}{a:Addr}
theorem XY{u:HO}(ok:CN P w H h)(e:Rd H a u):Bc P w H h a u:=e.ok ok
theorem O4{kvs:List (Key×V)}(ok:CN P w H h)(e:Rd H a (.dK kvs)):kvs.length≤sizeLine∧(a==sysModules)=false∧∃vs,KV kvs vs∧h.DictOf (Cg P w) a vs :=
 show Bc P w H h a (.dK kvs) from XY ok e
theorem eN{kvs:List (Key×V)}(ok:CN P w H h)(e:H a=some (.dK kvs)):kvs.length≤sizeLine∧(a==sysModules)=false∧∃vs,KV kvs vs∧h.DictOf (Cg P w) a vs:=O4 ok (.inl e)
theorem MG{ks:List Key}(ok:CN P w H h)(e:H a=some (.tup (ks.map kV))):(tupleKind (Cg P w)).is h ks a:=by
 obtain⟨_,its,r,o,h1,h2,n,h3⟩:=(show Bc P w H h a (.tup (ks.map kV)) from ok a _ e);exact⟨o,its.toArray,n,h1,h2,h3,by simpa using OQ r⟩
theorem Oz{kvs:List (List Key×V)}(ok:CN P w H h)(e:Rd H a (.dT kvs)):kvs.length≤sizeLine∧(a==sysModules)=false ∧
  ∃xs,KT H kvs xs∧h.DictOfH (tupleKind (Cg P w)) a xs:=by
 obtain⟨z,y,xs,r,o,es,ep,h1,h2,h3,h4,h5⟩:=(show Bc P w H h a (.dT kvs) from XY ok e);refine⟨z,y,xs,r,o,es,ep,h1,h2,h3,h4,fun x hx=>?_,h5⟩;have all:∀ {l:List (List Key×V)} {m:List (List Key×Addr×Value)},KT H l m→∀x∈m,(tupleKind (Cg P w)).is h x.1 x.2.1:=by
  intro l m q
  induction q with
  |nil=>intro x hx;exact nomatch hx
  | @cons p q ps qs hq t ih =>
   intro x hx;rcases aS.mp hx with e|hx
   ·subst e;exact MG ok (by rw[←hq.1];exact hq.2.1)
   ·exact ih x hx
 exact all r x hx
theorem Tp{kvs:List (List Key×V)}(ok:CN P w H h)(e:H a=some (.dT kvs)):kvs.length≤sizeLine∧(a==sysModules)=false ∧
  ∃xs,KT H kvs xs∧h.DictOfH (tupleKind (Cg P w)) a xs:=Oz ok (.inl e)
end
def FX(H:Hp)(a:Addr)(y:V)(r:Option V):Prop :=
 (∃kvs k,Rd H a (.dK kvs)∧y=kV k∧r=Bu kvs k)∨∃kvs k b,Rd H a (.dT kvs)∧y=.ref b∧H b=some (.tup (k.map kV))∧r=Bu kvs k
def Lp(H:Hp)(a:Addr)(y v:V)(H':Hp):Prop :=
 (∃kvs k,H a=some (.dK kvs)∧y=kV k∧kvs.length<sizeLine∧H'=upd H a (.dK (putK kvs k v))) ∨
 ∃kvs k b,H a=some (.dT kvs)∧y=.ref b∧H b=some (.tup (k.map kV))∧kvs.length<sizeLine∧H'=upd H a (.dT (putK kvs k v))
theorem FX.t{H:Hp}{a b:Addr}{kvs:List (List Key×V)}{k:List Key}(e:H a=some (.dT kvs))(eb:H b=some (.tup (k.map kV))):FX H a (.ref b) (Bu kvs k):=.inr ⟨kvs,k,b,.inl e,rfl,eb,rfl⟩
theorem Lp.t{H:Hp}{a b:Addr}{kvs:List (List Key×V)}{k:List Key}{v:V}(e:H a=some (.dT kvs))(eb:H b=some (.tup (k.map kV)))(hl:kvs.length<sizeLine) :
  Lp H a (.ref b) v (upd H a (.dT (putK kvs k v))):=.inr ⟨kvs,k,b,e,rfl,eb,hl,rfl⟩
section
variable{X:Cx}{pins:List (Addr×Obj)}{σ:St}{H:Hp}{s:Shared}{a:Addr}{y v:V}{u r:Value}{o:Option V}{A:Around}{E:Value→Shared→Prop}
theorem Inv.big(I:Inv X pins σ H s):sysModules<s.heap.objs.size:=by
 have h:mainGlobals<s.heap.objs.size:=(I.mod.glob.keeps I.bk).lt;exact Nat.lt_trans (by decide) h
theorem Uo{Q:Value→Shared→Prop}(hu:A.units+1<cLine)(I:Inv X pins σ H s)(g:FX H a y (some v))(ry:RelV y u)(h:∀w' s',Inv X pins σ H s'→RelV v w'→Q w' s') :
  wpAny (model X.prog X.w) A (getItem (.ref a) u) Q E s:=by
 rcases g with ⟨kvs,k,e,ey,l⟩|⟨kvs,k,b,e,ey,eb,l⟩
 ·subst ey;obtain⟨z,hd,vs,rel,dd⟩:=O4 I.Ah e;obtain⟨w',hw,rw'⟩:=Hi.some_of (v:=v) (o:=valueAt vs k) (by rw[l];exact rel.val k);exact wpAny_getItem_of (O2 ry) dd.mapOf hw (h w' _ (I.tok _) rw')
 ·subst ey;cases (show u=Value.ref b from ry);obtain⟨z,hd,xs,rel,dd⟩:=Oz I.Ah e;obtain⟨w',hw,rw'⟩:=Hi.some_of (v:=v) (o:=(atKey xs k).map (·.2)) (by rw[l];exact rel.val k);obtain⟨p,hp,hp2⟩:=aH.mp hw;refine wpAny_getItem_heap (tupleKind_room_in1 hu) (MG I.Ah eb) dd hp ?_;rw[hp2];exact h w' _ (I.tok _) rw'
theorem X4{Q:Value→Shared→Prop}(hu:A.units+1<cLine)(I:Inv X pins σ H s)(g:FX H a y o)(ry:RelV y u)(h:∀s',Inv X pins σ H s'→Q (.bool (!o.isSome)) s') :
  wpAny (model X.prog X.w) A (compareOp .NotIn u (.ref a)) Q E s:=by
 rcases g with ⟨kvs,k,e,ey,l⟩|⟨kvs,k,b,e,ey,eb,l⟩
 ·subst ey;obtain⟨z,hd,vs,rel,dd⟩:=O4 I.Ah e;refine wpAny_notIn_of (O2 ry) hd dd.mapOf ?_;rw[←(rel.val k).Kk,←l];exact h _ (I.tok _)
 ·subst ey;cases (show u=Value.ref b from ry);obtain⟨z,hd,xs,rel,dd⟩:=Oz I.Ah e;refine wpAny_notIn_heap (tupleKind_room_in1 hu) (MG I.Ah eb) hd dd ?_;have q:=(rel.val k).Kk;rw[Option.isSome_map]at q;rw[←q,←l];exact h _ (I.tok _)
theorem SE{h':Heap}{t':Nat}{ob:HO}(I:Inv X pins σ H s)(mu:Uh (H a))(hs:Heap.SameBut a s.heap h')(he:∃q,h'.get? a=some q)(new:Bc X.prog X.w (upd H a ob) h' a ob) :
  Inv X pins σ (upd H a ob) {s with heap:=h',toks:=t'} :=
 I.write (x:=a) (e:=a) mu (.inl rfl) (fun b q hb z=>(hs.2 b hb).trans z) he new
theorem Zq{P:Program}{w:World}{H':Hp}{h':Heap}{kvs:List (Key×V)}{vs:List (Key×Value)}(z:kvs.length≤sizeLine)(hd:(a==sysModules)=false)(rel:KV kvs vs)(dd:h'.DictOf (Cg P w) a vs) :
  Bc P w H' h' a (.dK kvs):=⟨z,hd,vs,rel,dd⟩
theorem U1{H':Hp}{Q:Unit→Shared→Prop}(hu:A.units+1<cLine)(I:Inv X pins σ H s)(g:Lp H a y v H')(ry:RelV y u)(rv:RelV v r)(h:∀s',Inv X pins σ H' s'→Q () s') :
  wpAny (model X.prog X.w) A (setItem (.ref a) u r) Q E s:=by
 rcases g with ⟨kvs,k,e,ey,l,eH⟩|⟨kvs,k,b,e,ey,eb,l,eH⟩
 ·subst ey eH;obtain⟨z,hd,vs,rel,dd⟩:=eN I.Ah e;have hz:vs.length≤sizeLine:=by rw[←rel.length];exact z
  have hl:(putK kvs k v).length≤sizeLine:=by have:=Io kvs k v;lia
  refine wpAny_setItem_pairs (hsz:=hz) (O2 ry) dd fun h' dd' hs=>h _ ?_;have he:∃q,h'.get? a=some q:=let⟨q,_,_,hq,_⟩:=dd';⟨q,hq⟩;exact SE I (by rw[e];exact True.intro) hs he (Zq hl hd (rel.put k rv) dd')
 ·subst ey eH;cases (show u=Value.ref b from ry);obtain⟨z,hd,xs,rel,dd⟩:=Tp I.Ah e;have hz:xs.length≤sizeLine:=by rw[←Paired.length rel];exact z
  have hl:(putK kvs k v).length≤sizeLine:=by have:=Io kvs k v;lia
  refine wpAny_setItem_heap (hsz:=hz) (tupleKind_room_in1 hu) (MG I.Ah eb) dd fun h' dd' hs=>h _ ?_;obtain⟨q,es,ep,hq,h2,h3,h4,_,h5⟩:=dd';refine SE I (by rw[e];exact True.intro) hs ⟨q,hq⟩ ⟨hl,hd,_,(rel.put k eb rv).keeps fun c ys ec=>?_,q,es,ep,hq,h2,h3,h4,h5⟩;rw[AE (cq ec e (fun z=>nomatch z))];exact ec
end
def ZX(i:Expr):Prop:=∀ov iv,subscripted i false ov iv=operate [ov,iv] (getItem ov iv)
theorem Xr{prog:Program}{w:World}{A:Around}{E:Value→Shared→Prop}{s:Shared}{env:Env}{value slice:Expr}{pos:Pos}{T id:String}{Q:Value→Shared→Prop}
 (hl:typeLookup (.type T) "__getitem__" = pure (some (.builtin id)))(hs:ZX slice)
 (h:wpAny (model prog w) A (eval value env) (fun o s₁=>wpAny (model prog w) A (eval slice env) (fun i s₂=>s₂.TypeIs o T∧wpAny (model prog w) A (getItem o i) Q E s₂) E s₁) E s) :
  wpAny (model prog w) A (eval (.Subscript value slice pos) env) Q E s:=by
 refine Subscript_ (ab h (fun o s₁ h₁=>ab h₁ (fun i s₂ h₂=>?_) fun _ _ x=>x) fun _ _ x=>x);obtain⟨hT,h₂⟩:=h₂;unfold subscriptTail;refine aA ?_;rw[getitemInPython_of_ne hT.not_modules];refine aA (wpAny_specialOf hT hl ?_);have fin:wpAny (model prog w) A (subscripted slice false o i) (fun r s₃=>wpAny (model prog w) A (letTemporaryGo value o r>>=fun _=>pure r) Q E s₃) E s₂:=by
  rw[hs o i];exact wpAny_operating (ab h₂ (fun r s₃ h₃=>aA (wpAny_letTemporaryGo (aB h₃))) fun _ _ x=>x)
 first
  |exact aB (aA fin)
  |exact aA (aB (aA fin))
  |exact aA fin
theorem RV{X:Cx}{pins:List (Addr×Obj)}{σ:St}{H:Hp}{s:Shared}{a:Addr}{y:V}{o:Option V}(I:Inv X pins σ H s)(g:FX H a y o):s.TypeIs (.ref a) "dict" := by
 rcases g with ⟨kvs,k,e,_,_⟩|⟨kvs,k,b,e,_,_,_⟩
 ·obtain⟨_,_,vs,_,dd⟩:=O4 I.Ah e;exact dd.typeIs
 ·obtain⟨_,_,xs,_,dd⟩:=Oz I.Ah e;exact dd.typeIs
def dm(td ty:TE):TE:=fun σ H Q=>td σ H fun x H1=>ty σ H1 fun y H2=>∃a v,x=.ref a∧FX H2 a y (some v)∧Q v H2
def YE(ty td:TE):TE:=fun σ H Q=>ty σ H fun y H1=>td σ H1 fun x H2=>∃a o,x=.ref a∧FX H2 a y o∧Q (.bl (!o.isSome)) H2
def cf(td ty tv:TE):TS:=fun D σ H=>tv σ H fun v H1=>td σ H1 fun x H2=>ty σ H2 fun y H3=>∃a H4,x=.ref a∧Lp H3 a y v H4∧D.nx σ H4
section
variable{X:Cx}{o i value:Expr}{pos pos':Pos}{td ty tv:TE}
theorem NU(hu:X.A.units+1<cLine)(ho:PE X o td)(hi:PE X i ty)(hs:ZX i):PE X (.Subscript o i pos) (dm td ty):=by
 intro pins s σ H Q I h;refine Xr PySem.F.slot_dict_getitem.lookup hs (Av (ho pins s σ H _ I h) fun u s1 ⟨x,H1,I1,rx,q1⟩=>Av (hi pins s1 σ H1 _ I1 q1) fun iv s2 ⟨y,H2,I2,ry,a,v,ex,g,q2⟩=>?_);subst ex;obtain rfl:u=Value.ref a:=rx;exact⟨RV I2 g,Uo hu I2 g ry fun w' s3 I3 rw'=>⟨v,H2,I3,rw',q2⟩⟩
theorem Vh(hu:X.A.units+1<cLine)(hi:PE X i ty)(ho:PE X o td):PC X .NotIn i o (YE ty td):=by
 intro pins s σ H Q I h;refine Av (hi pins s σ H _ I h) fun iv s1 ⟨y,H1,I1,ry,q1⟩=>Av (ho pins s1 σ H1 _ I1 q1) fun u s2 ⟨x,H2,I2,rx,a,ov,ex,g,q2⟩=>?_;subst ex;obtain rfl:u=Value.ref a:=rx;exact X4 hu I2 g ry fun s3 I3=>⟨.bl (!ov.isSome),H2,I3,rfl,q2⟩
theorem NC(hu:X.A.units+1<cLine)(ho:PE X o td)(hi:PE X i ty)(hv:PE X value tv)(hs:swapsWith value (some (.Subscript o i pos')) pos.line X.env=pure false) :
  PS X (.Assign [.Subscript o i pos'] value pos) (cf td ty tv):=by
 intro pins s σ H D I h;refine wpAny_Assign_Subscript (Av (hv pins s σ H _ I h) fun r s1 ⟨v,H1,I1,rv,q1⟩=>Av (ho pins s1 σ H1 _ I1 q1) fun u s2 ⟨x,H2,I2,rx,q2⟩=>Av (hi pins s2 σ H2 _ I2 q2) fun iv s3 ⟨y,H3,I3,ry,a,H4,ex,g,q3⟩=>?_) hs;subst ex;obtain rfl:u=Value.ref a:=rx;exact U1 hu I3 g ry rv fun s4 I4=>⟨σ,H4,I4,q3⟩
end
theorem W3{P:Program}{w:World}{H:Hp}(h:Heap)(hb:sysModules<h.objs.size):Bc P w H (h.push { cls:=.type "dict",data:=.dict #[]}) h.objs.size (.dT []) :=
 ⟨ak _,beq_eq_false_iff_ne.mpr (Ne.symm (aN hb)),[],.nil,_,#[],0,Heap.get?_push_size _ rfl,⟨rfl,rfl,rfl⟩,rfl,rfl,List.nodup_nil⟩
def bw:TE:=fun _ H Q=>∀p,H p=none→Q (.ref p) (upd H p (.dT []))
section
variable{X:Cx}{pos:Pos}
theorem Lq:PE X (.Dict [] [] pos) bw:=fun pins s σ H Q I h =>
 wpAny_Dict_empty ⟨.ref s.heap.objs.size,_,I.laid (a:=s.heap.objs.size) (o:=.dT []) (t':=s.toks) (fun _ _ q=>aD _ q) (aG _) (W3 s.heap I.big),rfl,h _ (I.Ah.fresh (aG _))⟩
end
end L2
namespace L2
open PySem PySem.Spec PyProof.Rows
section
variable{κ:Type}[DecidableEq κ]
theorem XC{kvs:List (κ×V)}{k:κ}(h:Bu kvs k=none):¬k∈kvs.map (·.1):=by
 intro m;obtain⟨p,hp,e⟩:=aQ.mp m;have q:(kvs.any fun kv=>decide (kv.1=k))=true:=List.any_eq_true.mpr ⟨p,hp,decide_eq_true e⟩;rw[F7,h]at q;exact absurd q (by simp)
theorem Ro:∀ {l:List κ} {k:κ},l.Nodup→¬k∈l→(l++[k]).Nodup
 |[],k,_,_=>by simp
 |a::r,k,h,hk=>by
  obtain⟨h1,h2⟩:=bg.mp h;show(a::(r++[k])).Nodup;refine bg.mpr ⟨fun m=>?_,Ro h2 fun m=>hk (aS.mpr (Or.inr m))⟩;rcases aZ.mp m with q|q
  ·exact h1 q
  ·exact hk (aS.mpr (Or.inl (List.mem_singleton.mp q).symm))
theorem X3{kvs:List (κ×V)}{k:κ}(v:V)(hn:(kvs.map (·.1)).Nodup)(h:Bu kvs k=none):((putK kvs k v).map (·.1)).Nodup:=by
 rw[Li v h,List.map_append];exact Ro hn (XC h)
end
end L2
namespace DI
open PySem PySem.W PyProof.Rows
def RD(h:Heap)(d:Addr)(es:Array DictEntry)(ep:Nat):Prop:=∃o,h.get? d=some o∧o.ExactDict∧o.data=.dict es ep
def St(h:Heap)(it d S:Addr)(i n ep:Nat):Prop:=(i=0∧∃ok ov,IsItemIter h it d 0 n ep ok ov)∨∃ok ov a f oa,KdxIt h it d i n ep ok ov a f∧h.get? a=some oa∧a≠it∧a≠S
section
variable{prog:Program}{w:World}{A:Around}{E:Value→Shared→Prop}{s:Shared}{it d:Addr}{i ep:Nat}{es:Array DictEntry}{ok ov:Value}
theorem S8{Q:Option Value→Shared→Prop}(hit:IsItemIter s.heap it d i es.size ep ok ov)(hm:RD s.heap d es ep)(hi:i<es.size)
 (q:∀h',IsItemIterOut h' it d (i+1) es.size ep es[i].key es[i].val s.heap.objs.size→h'.get? s.heap.objs.size=some { cls:=.type "tuple",data:=.seq #[es[i].key,es[i].val]}→h'.objs.size=s.heap.objs.size+1 →
   (∀b o,b≠it→s.heap.get? b=some o→h'.get? b=some o)→Q (some (.ref s.heap.objs.size)) {s with heap:=h'}):wpAny (model prog w) A (pyNext (.ref it)) Q E s:=by
 obtain⟨hp,g,dr,tk,os⟩:=s;obtain⟨od,e1,e2,e3⟩:=hm;have hT:Shared.TypeIs ⟨hp,g,dr,tk,os⟩ (.ref it) "dict_itemiterator" := ⟨_,hit,rfl⟩;have own:Builtin.Dict_items.ownsTuple "dict_itemiterator" = true:=by decide
 unfold pyNext;refine aA (wpAny_attempt (ai (name:=Str.ofString "__next__") hT bA
  (ao bA hT F.entry_dict_itemiterator_next (aA (aB (aA (aA ?_)))) (F.args_dict_itemiterator_next_1 _))))
 first|refine aA (ay hT (aB (aA (bf hit rfl ?_))))|refine aA (bM hT (aB (aA (bf hit rfl ?_))))
 simp only[own,if_true];show wpAny _ _ (if(Value.ref d==Value.none)=true then _ else _) _ _ _;rw[if_neg (show ¬((Value.ref d==Value.none)=true) from aJ)];refine aA (aB (aA (ba e1 e3 ?_)));rw[if_neg (by simp)];refine aA (aB (aA (wpAny_dictEpoch e1 e3 ?_)));rw[if_neg (by simp)];refine aB ?_;simp only[show ¬((i:Int)<0) from by lia,if_false,Int.toNat_natCast,Array.getElem?_eq_getElem hi];refine aA ?_
 first|refine aA (ay hT (aB (aA (az hT ?_))))|refine aA (bM hT (aB (aA (az hT ?_))))
 show wpAny _ _ (setField (.ref it) 3 (rawInt ((i:Int)+1))>>=_) _ _ ⟨hp,g,dr,tk,os⟩;refine aA (af hit (by simp) fun g1 z1 m1=>?_);have m1:Heap.SameBut it hp g1:=m1;have z1:IsItemIter g1 it d (i+1) es.size ep ok ov:=by
  have e:((i+1:Nat):Int)=(i:Int)+1:=by lia
  unfold IsItemIter;rw[e]
  simpa[rawInt]using z1
 have hT1:Shared.TypeIs ⟨g1,g,dr,tk,os⟩ (.ref it) "dict_itemiterator" := ⟨_,z1,rfl⟩;refine aA (bK (aA (az hT1 (aA (az hT1 ?_)))));show wpAny _ _ (Builtin.Dict_items.pairFromOwner (.ref it) 6 es[i].key es[i].val) _ _ ⟨g1,g,dr,tk,os⟩;unfold Builtin.Dict_items.pairFromOwner;refine aA (wpAny_newTuple ?_);have z2:IsItemIter (g1.push { cls:=.type "tuple",data:=.seq #[es[i].key,es[i].val]}) it d (i+1) es.size ep ok ov:=aD _ z1;have a2:(g1.push { cls:=.type "tuple",data:=.seq #[es[i].key,es[i].val]}).get? hp.objs.size=some { cls:=.type "tuple",data:=.seq #[es[i].key,es[i].val]}:=by rw[←m1.1];exact aT _ rfl
 have s2:(g1.push { cls:=.type "tuple",data:=.seq #[es[i].key,es[i].val]}).objs.size=hp.objs.size+1:=by rw[Heap.size_push,m1.1]
 have k2:∀b o,b≠it→hp.get? b=some o→(g1.push { cls:=.type "tuple",data:=.seq #[es[i].key,es[i].val]}).get? b=some o:=fun b o hb e=>aD _ ((m1.2 b hb).trans e);generalize g1.push { cls:=.type "tuple",data:=.seq #[es[i].key,es[i].val]}=g2 at z2 a2 s2 k2;have il:it<hp.objs.size:=aE hit;show wpAny _ _ (Builtin.Dict_items.ownedTupleIsFree (.ref it)>>=_) _ _ ⟨g2,g,dr,tk,os⟩;rw[m1.1];unfold Builtin.Dict_items.ownedTupleIsFree;refine aA (aA (ah z2 rfl (x:=.none) rfl (aB ?_)));simp only[if_true];refine aA (ah z2 rfl (x:=ok) rfl (aA (ah z2 rfl (x:=ov) rfl (aA (af z2 (by simp) fun g3 z3 m3=>?_)))));refine aA (af (show IsItemIter g3 it d (i+1) es.size ep es[i].key ov from z3) (by simp) fun g4 z4 m4=>?_);refine aA (af (show IsItemIter g4 it d (i+1) es.size ep es[i].key es[i].val from z4) (by simp) fun g5 z5 m5=>?_);refine aA (af (show IsItemIterOut g5 it d (i+1) es.size ep es[i].key es[i].val hp.objs.size from z5) (by simp) fun g6 z6 m6=>?_);have up:∀b o,b≠it→g2.get? b=some o→g6.get? b=some o:=fun b o hb e=>(m6.2 b hb).trans ((m5.2 b hb).trans ((m4.2 b hb).trans ((m3.2 b hb).trans e)));exact aA (wpAny_letGo (aB (aB ⟨_,rfl,wpAny_pure (q g6 z6 (up _ _ (aq il) a2) (by show g6.objs.size=hp.objs.size+1;rw[m6.1,m5.1,m4.1,m3.1,s2]) fun b o hb e=>up b o hb (k2 b o hb e))⟩)))
theorem Sz{a:Addr}{f:Bool}{oa:Obj}{Q:Option Value→Shared→Prop}(hit:KdxIt s.heap it d i es.size ep ok ov a f)(ha:s.heap.get? a=some oa)(hai:a≠it)(hm:RD s.heap d es ep)(hi:i<es.size)
 (q:∀h',KdxIt h' it d (i+1) es.size ep ok ov a true→h'.get? s.heap.objs.size=some { cls:=.type "tuple",data:=.seq #[es[i].key,es[i].val]}→h'.objs.size=s.heap.objs.size+1 →
   (∀b o,b≠it→s.heap.get? b=some o→h'.get? b=some o)→Q (some (.ref s.heap.objs.size)) {s with heap:=h'}):wpAny (model prog w) A (pyNext (.ref it)) Q E s:=by
 obtain⟨hp,g,dr,tk,os⟩:=s;obtain⟨od,e1,e2,e3⟩:=hm;have hT:Shared.TypeIs ⟨hp,g,dr,tk,os⟩ (.ref it) "dict_itemiterator" := ⟨_,hit,rfl⟩;have own:Builtin.Dict_items.ownsTuple "dict_itemiterator" = true:=by decide
 unfold pyNext;refine aA (wpAny_attempt (ai (name:=Str.ofString "__next__") hT bA
  (ao bA hT F.entry_dict_itemiterator_next (aA (aB (aA (aA ?_)))) (F.args_dict_itemiterator_next_1 _))))
 first|refine aA (ay hT (aB (aA (bf hit rfl ?_))))|refine aA (bM hT (aB (aA (bf hit rfl ?_))))
 simp only[own,if_true];show wpAny _ _ (if(Value.ref d==Value.none)=true then _ else _) _ _ _;rw[if_neg (show ¬((Value.ref d==Value.none)=true) from aJ)];refine aA (aB (aA (ba e1 e3 ?_)));rw[if_neg (by simp)];refine aA (aB (aA (wpAny_dictEpoch e1 e3 ?_)));rw[if_neg (by simp)];refine aB ?_;simp only[show ¬((i:Int)<0) from by lia,if_false,Int.toNat_natCast,Array.getElem?_eq_getElem hi];refine aA ?_
 first|refine aA (ay hT (aB (aA (az hT ?_))))|refine aA (bM hT (aB (aA (az hT ?_))))
 show wpAny _ _ (setField (.ref it) 3 (rawInt ((i:Int)+1))>>=_) _ _ ⟨hp,g,dr,tk,os⟩;refine aA (af hit (by simp) fun g1 z1 m1=>?_);have m1:Heap.SameBut it hp g1:=m1;have z1:KdxIt g1 it d (i+1) es.size ep ok ov a f:=by
  have e:((i+1:Nat):Int)=(i:Int)+1:=by lia
  unfold KdxIt;rw[e]
  simpa[rawInt]using z1
 have hT1:Shared.TypeIs ⟨g1,g,dr,tk,os⟩ (.ref it) "dict_itemiterator" := ⟨_,z1,rfl⟩;refine aA (bK (aA (az hT1 (aA (az hT1 ?_)))));show wpAny _ _ (Builtin.Dict_items.pairFromOwner (.ref it) 6 es[i].key es[i].val) _ _ ⟨g1,g,dr,tk,os⟩;unfold Builtin.Dict_items.pairFromOwner;refine aA (wpAny_newTuple ?_);have z2:KdxIt (g1.push { cls:=.type "tuple",data:=.seq #[es[i].key,es[i].val]}) it d (i+1) es.size ep ok ov a f:=aD _ z1;have a2:(g1.push { cls:=.type "tuple",data:=.seq #[es[i].key,es[i].val]}).get? hp.objs.size=some { cls:=.type "tuple",data:=.seq #[es[i].key,es[i].val]}:=by rw[←m1.1];exact aT _ rfl
 have s2:(g1.push { cls:=.type "tuple",data:=.seq #[es[i].key,es[i].val]}).objs.size=hp.objs.size+1:=by rw[Heap.size_push,m1.1]
 have k2:∀b o,b≠it→hp.get? b=some o→(g1.push { cls:=.type "tuple",data:=.seq #[es[i].key,es[i].val]}).get? b=some o:=fun b o hb e=>aD _ ((m1.2 b hb).trans e);generalize g1.push { cls:=.type "tuple",data:=.seq #[es[i].key,es[i].val]}=g2 at z2 a2 s2 k2;have il:it<hp.objs.size:=aE hit;show wpAny _ _ (Builtin.Dict_items.ownedTupleIsFree (.ref it)>>=_) _ _ ⟨g2,g,dr,tk,os⟩;rw[m1.1];unfold Builtin.Dict_items.ownedTupleIsFree;refine aA (aA (ah z2 rfl (x:=rawInt a) rfl ?_));show wpAny _ _ (loadIfAlive ((a:Int).toNat)>>=_) _ _ _;rw[Int.toNat_natCast];refine aA (kdx_alive (k2 a oa hai ha) ?_);simp only[Option.isNone_some,Bool.false_eq_true,if_false];refine aA (ah z2 rfl (x:=.bool f) rfl ?_);cases f with
 |true =>
  rw[if_neg (show ¬((Value.bool true != Value.bool true)=true) from aJ)];refine aB ?_;simp only[Bool.false_eq_true,if_false];exact aB (aB ⟨_,rfl,wpAny_pure (q g2 z2 a2 s2 k2)⟩)
 |false =>
  rw[if_pos (show(Value.bool false != Value.bool true)=true from rfl)];refine aA (af z2 (by simp) fun g3 z3 m3=>aB ?_);simp only[Bool.false_eq_true,if_false];exact aB (aB ⟨_,rfl,wpAny_pure (q g3 z3 ((m3.2 _ (aq il)).trans a2) (by show g3.objs.size=hp.objs.size+1;rw[m3.1,s2]) fun b o hb e=>(m3.2 b hb).trans (k2 b o hb e))⟩)
theorem next_end{x0 x1:Value}{Q:Option Value→Shared→Prop}(hh:A.handled=none)(hit:s.heap.get? it=some { cls:=.type "dict_itemiterator",dict:=none,data:=.fields #[x0,x1,.ref d,.int i 0,.int es.size 0,.int ep 0,ok,ov],slots:=#[]})(hm:RD s.heap d es ep)(hi:es.size≤i)
 (q:∀h',Heap.ExtBut it s.heap h'→Q none {s with heap:=h'}):wpAny (model prog w) A (pyNext (.ref it)) Q E s:=by
 obtain⟨od,e1,e2,e3⟩:=hm;have hT:s.TypeIs (.ref it) "dict_itemiterator" := ⟨_,hit,rfl⟩;have own:Builtin.Dict_items.ownsTuple "dict_itemiterator" = true:=by decide
 unfold pyNext;refine aA (wpAny_attempt (ai (name:=Str.ofString "__next__") hT bA
  (ao bA hT F.entry_dict_itemiterator_next (aA (aB (aA (aA ?_)))) (F.args_dict_itemiterator_next_1 _))))
 first|refine aA (ay hT (aB (aA (bf hit rfl ?_))))|refine aA (bM hT (aB (aA (bf hit rfl ?_))))
 simp only[own,if_true];show wpAny _ _ (if(Value.ref d==Value.none)=true then _ else _) _ _ _;rw[if_neg (show ¬((Value.ref d==Value.none)=true) from aJ)];refine aA (aB (aA (ba e1 e3 ?_)));rw[if_neg (by simp)];refine aA (aB (aA (wpAny_dictEpoch e1 e3 ?_)));rw[if_neg (by simp)];refine aB ?_;simp only[show ¬((i:Int)<0) from by lia,if_false,Int.toNat_natCast,Array.getElem?_eq_none hi];refine aA ?_
 first|refine aA (ay hT (aB ?_))|refine aA (bM hT (aB ?_))
 show wpAny _ _ (setField (.ref it) 2 .none>>=_) _ _ s;refine aA (wpAny_setField hit rfl (by simp) ?_);show wpAny _ _ (newExc (.type "StopIteration") []>>=_) _ _ _;simp only[newExc,newTuple];refine aA (aA (aX ?_ (by size_fits)));refine aA (m:=firstArgMember _ _) (wpAny_of_eq (a:=Value.none) (by first|rfl|(simp only[firstArgMember];rfl)) (aX ?_ (by size_fits)));simp only[raiseNew];refine aA (wpAny_handled ?_);rw[show A.in1.handled=none from hh];refine aA (aB (wpAny_throw ?_));refine aA (wpAny_isInstance (T := "StopIteration") (b:=true) ⟨_,Heap.get?_push_size _ rfl,rfl⟩ isSubtype_stop (aB (q _ ?_)));exact((bC ..).extBut.push _).push _
theorem St.keep{h h':Heap}{S:Addr}{n:Nat}(x:St h it d S i n ep)(k:∀b o,b≠S→h.get? b=some o→h'.get? b=some o)(hI:it≠S):St h' it d S i n ep:=by
 rcases x with ⟨e,ok,ov,hit⟩|⟨ok,ov,a,f,oa,hit,ha,hai,haS⟩
 ·exact .inl ⟨e,ok,ov,k _ _ hI hit⟩
 ·exact .inr ⟨ok,ov,a,f,oa,k _ _ hI hit,k _ _ haS ha,hai,haS⟩
theorem next_item{S:Addr}{Q:Option Value→Shared→Prop}(st:St s.heap it d S i es.size ep)(hS:S<s.heap.objs.size)(hm:RD s.heap d es ep)(hi:i<es.size)
 (q:∀h',St h' it d S (i+1) es.size ep→h'.get? s.heap.objs.size=some { cls:=.type "tuple",data:=.seq #[es[i].key,es[i].val]}→h'.objs.size=s.heap.objs.size+1 →
   (∀b o,b≠it→s.heap.get? b=some o→h'.get? b=some o)→Q (some (.ref s.heap.objs.size)) {s with heap:=h'}):wpAny (model prog w) A (pyNext (.ref it)) Q E s:=by
 rcases st with ⟨rfl,ok,ov,hit⟩|⟨ok,ov,a,f,oa,hit,ha,hai,haS⟩
 ·exact S8 hit hm hi fun h' r1 r2 r3 r4=>q h' (.inr ⟨_,_,_,false,_,r1,r2,Nat.ne_of_gt (aE hit),Nat.ne_of_gt hS⟩) r2 r3 r4
 ·exact Sz hit ha hai hm hi fun h' r1 r2 r3 r4=>q h' (.inr ⟨ok,ov,a,true,oa,r1,r4 a oa hai ha,hai,haS⟩) r2 r3 r4
theorem UI{S:Addr}{Q:Option Value→Shared→Prop}(hh:A.handled=none)(st:St s.heap it d S es.size es.size ep)(hm:RD s.heap d es ep)
 (q:∀h',Heap.ExtBut it s.heap h'→Q none {s with heap:=h'}):wpAny (model prog w) A (pyNext (.ref it)) Q E s:=by
 rcases st with ⟨e,ok,ov,hit⟩|⟨ok,ov,a,f,oa,hit,_⟩
 ·rw[←e]at hit;exact next_end (i:=es.size) hh hit hm (aG _) q
 ·exact next_end hh hit hm (aG _) q
def Made(es:Array DictEntry)(lo:Addr)(h:Heap)(as:List Addr):Prop:=∀(j:Nat) (a:Addr),as[j]? = some a→lo<a∧∃e,es[j]? = some e∧h.get? a=some { cls:=.type "tuple",data:=.seq #[e.key,e.val]}
theorem loop{R:Result→Shared→Prop}{S I:Addr}(hh:A.handled=none)(hSI:S<I)(hSd:d≠S)(hId:d≠I)(hn:es.size≤sizeLine)(res:Value){h1:Heap}
 (hR:∀h' tk acc c as,(∀b o,b≠S→b≠I→h1.get? b=some o→h'.get? b=some o)→h'.get? S=some { cls:=.type "list",dict:=none,data:=.seq acc c,slots:=#[]}→as.length=es.size→Made es I h' as→acc.toList=as.map Value.ref→R (.ok (.ret res)) {s with heap:=h',toks:=tk}) :
  ∀(k i:Nat) (h:Heap) (tk c:Nat) (acc:Array Value) (as:List Addr),es.size-i=k→i≤es.size→St h I d S i es.size ep→RD h d es ep→(∀b o,b≠S→b≠I→h1.get? b=some o→h.get? b=some o) →
   h.get? S=some { cls:=.type "list",dict:=none,data:=.seq acc c,slots:=#[]}→acc.toList=as.map Value.ref→as.length=i→Made es I h as→I<h.objs.size →
   codeAny (model prog w) A (.builtin "list.extend.loop" ⟨[.ref S,.ref I,res],[]⟩) R {s with heap:=h,toks:=tk}:=by
 have ne:S≠I:=aN hSI;intro k
 induction k with
 |zero =>
  intro i h tk c acc as hk hi st hD kp hS ha hl hG hIs;have hin:i=es.size:=by lia
  subst hin;refine codeAny_builtin PySem.F.entry_extend_loop ?_;rw[Around.under_plainId bU _];show wpAny _ A.in1 (pyNext (.ref I)>>=_) _ _ _;refine aA (UI (s:={s with heap:=h,toks:=tk}) (A:=A.in1) hh st hD fun h' he=>aB (hR h' tk acc c as (fun b o r1 r2 e=>he b o r2 (kp b o r1 r2 e)) (he S _ ne hS) hl (fun j a hj=>?_) ha));obtain⟨r1,e,r2,r3⟩:=hG j a hj;exact⟨r1,e,r2,he a _ (aq r1) r3⟩
 |succ k ih =>
  intro i h tk c acc as hk hi st hD kp hS ha hl hG hIs;have hlt:i<es.size:=by lia
  have hsz:acc.size=i:=by rw[←Array.length_toList,ha,List.length_map,hl]
  refine codeAny_builtin PySem.F.entry_extend_loop ?_;rw[Around.under_plainId bU _];show wpAny _ A.in1 (pyNext (.ref I)>>=_) _ _ _;refine aA (next_item (s:={s with heap:=h,toks:=tk}) (S:=S) st (aE hS) hD hlt fun h' st' ht hz hkp=>?_);dsimp only at ht hz hkp ⊢;have hS':=hkp S _ ne hS;have up:∀b o,b≠S→h'.get? b=some o→(h'.update S (Obj.mapSeq (·.push (Value.ref h.objs.size)))).get? b=some o:=fun b o hb e=>(Heap.get?_update_other _ _ (Ne.symm hb)).trans e;have hSl:S<h.objs.size:=aE hS;have hT:=up _ _ (aq hSl) ht;show wpAny _ A.in1 (updateSeq S (·.push (Value.ref h.objs.size))>>=_) _ _ _;refine aA (wpAny_updateSeq hS' rfl (aB ⟨plainId_quiet bU _,ih (i+1) _ tk _ (acc.push (Value.ref h.objs.size)) (as++[h.objs.size]) (by lia) hlt (st'.keep up (Ne.symm ne)) ?_ (fun b o r1 r2 e=>up b o r1 (hkp b o r2 (kp b o r1 r2 e)))
   (Heap.get?_update_self _ hS' rfl) (by rw[Array.toList_push,ha,List.map_append];rfl) (by rw[List.length_append,hl];rfl) (fun j b hj=>?_) (Nat.lt_trans hIs (aE hT))⟩) (by rw[hsz];lia) (by show(acc.push (Value.ref h.objs.size)).size≤sizeLine+1;rw[Array.size_push,hsz];lia))
  ·obtain⟨o,r1,r2⟩:=hD;exact⟨o,up d o hSd (hkp d o hId r1),r2⟩
  ·by_cases hj1:j<as.length
   ·rw[List.getElem?_append_left hj1]at hj;obtain⟨r1,e,r2,r3⟩:=hG j b hj;exact⟨r1,e,r2,up b _ (aq (Nat.lt_trans hSI r1)) (hkp b _ (aq r1) r3)⟩
   ·rw[List.getElem?_append_right (by lia)]at hj;have hj0:j-as.length=0:=by
     have:=(aC.mp hj).1;simp at this
     lia
    rw[hj0]at hj;have hb:h.objs.size=b:=by simpa using hj
    subst hb;have hji:j=i:=by lia
    subst hji;exact⟨hIs,_,Array.getElem?_eq_getElem hlt,hT⟩
theorem iter{v:Addr}{Q:Value→Shared→Prop}(hv:s.heap.IsItemsView v d)(hm:RD s.heap d es ep)
 (q:Q (.ref s.heap.objs.size) {s with heap:=s.heap.push { cls:=.type "dict_itemiterator",data:=.fields #[.none,.bool false,.ref d,.int 0 0,.int es.size 0,.int ep 0,.none,.none]} }):wpAny (model prog w) A (pyIter (.ref v)) Q E s:=by
 obtain⟨o1,r1,r2,r3⟩:=id hv;obtain⟨od,e1,e2,e3⟩:=hm;have own:Builtin.Dict_items.ownsTuple "dict_itemiterator" = true:=by decide
 refine wpAny_pyIter_slot hv.typeIs F.slot_dict_items_iter (ao F.slot_dict_items_iter hv.typeIs F.entry_dict_items_iter ?_ (F.args_dict_items_iter_1 _));unfold Builtin.«dict_items.__iter__»;refine aA (aB (aA ?_));unfold Builtin.Dict_items.dictOf;refine aA (ah r1 r3 (x:=.ref d) rfl (aB (aA ?_)));unfold Builtin.Dict_items.newIterator;refine aA (ba e1 e3 (aA (wpAny_dictEpoch e1 e3 ?_)));simp only[own,if_true];refine aX (aB ⟨_,rfl, "dict_itemiterator",_,⟨_,Heap.get?_push_size _ rfl,rfl⟩,F.slot_dict_itemiterator_next.lookup,?_⟩)
  (by simp only[sizeOk,Builtin.Dict_items.ownedTupleFields,List.size_toArray,List.length_append,List.length_cons,List.length_nil,sizeLine_eq];lia)
 simpa[rawInt,Builtin.Dict_items.ownedTupleFields]using q
theorem extend{R:Result→Shared→Prop}{v:Addr}(hh:A.handled=none)(hv:s.heap.IsItemsView v d)(hm:RD s.heap d es ep)(S:Addr)(hSv:S≠v)(hSd:d≠S)(res:Value)(c0:Nat)(hS:s.heap.get? S=some { cls:=.type "list",data:=.seq #[] c0})
 (hR:∀h' tk acc c as,(∀b o,b≠S→s.heap.get? b=some o→h'.get? b=some o)→h'.get? S=some { cls:=.type "list",dict:=none,data:=.seq acc c,slots:=#[]}→as.length=es.size→Made es s.heap.objs.size h' as→acc.toList=as.map Value.ref→R (.ok (.ret res)) {s with heap:=h',toks:=tk})(hn:es.size≤sizeLine) :
  wpAny (model prog w) A.in1 (Builtin.List.listExtendWith (.ref S) (.ref v) res) (fun fin s'=>match fin with|.done f=>R (.ok f) s'|.again c'=>c'.quiet=true∧codeAny (model prog w) A c' R s') (fun e s'=>R (.error e) s') s:=by
 have hSI:S<s.heap.objs.size:=aE hS;have hdI:d<s.heap.objs.size:=by obtain⟨o,e,_⟩:=hm;exact aE e
 have go:∀(h:Heap) (c1 tk:Nat),(∀b o,b≠S→(s.heap.push { cls:=.type "dict_itemiterator",data:=.fields #[.none,.bool false,.ref d,.int 0 0,.int es.size 0,.int ep 0,.none,.none]}).get? b=some o→h.get? b=some o) →
   h.get? S=some { cls:=.type "list",data:=.seq #[] c1}→codeAny (model prog w) A (.builtin "list.extend.loop" ⟨[.ref S,.ref s.heap.objs.size,res],[]⟩) R {s with heap:=h,toks:=tk}:=fun h c1 tk hk hS1=>by
  have hI:=hk s.heap.objs.size _ (aq hSI) (aT _ rfl);refine loop (h1:=s.heap) (ep:=ep) hh hSI hSd (aN hdI) hn res (fun h' tk' acc c as r1 r2 r3 r4 r5=>hR h' tk' acc c as (fun b o hb e=>r1 b o hb (aN (aE e)) e) r2 r3 r4 r5) es.size 0 h tk c1 #[] [] (Nat.sub_zero _) (ak _)
   (.inl ⟨rfl,.none,.none,hI⟩) ?_ (fun b o hb _ e=>hk b o hb (aD _ e)) hS1 rfl rfl (fun j a hj=>by simp at hj) (aE hI)
  obtain⟨o,e,r⟩:=hm;exact⟨o,hk d o hSd (aD _ e),r⟩
 unfold Builtin.List.listExtendWith;refine aA (wpAny_typeOf (T := "dict_items") hv.typeIs ?_);have t1:Builtin.List.listSameRef (.ref S) (.ref v)=false:=by simp[Builtin.List.listSameRef,hSv]
 have t2:(Value.type "dict_items" == Value.type "list")=false:=by decide
 have t3:(Value.type "dict_items" == Value.type "tuple")=false:=by decide
 simp only[t1,t2,t3,Bool.or_false,Bool.false_eq_true,if_false];refine aA (iter hv hm ?_);have g1:=aD { cls:=.type "dict_itemiterator",data:=.fields #[.none,.bool false,.ref d,.int 0 0,.int es.size 0,.int ep 0,.none,.none]} hS;refine aA (bK (kdx_hint (let⟨o,ho,hc,_⟩:=hv;⟨o,Heap.get?_push_of_some _ ho,hc⟩) ?_));refine wpAny_ite_split (fun _=>?_) (fun _=>aB ⟨plainId_quiet bU _,go _ c0 _ (fun b o _ e=>e) g1⟩);refine aA (wpAny_rule (aA ?_));show wpAny _ _ (updateSeq S (·.push .none)>>=fun _=>updateSeq S (·.pop)) _ _ _;refine aA (wpAny_updateSeq g1 rfl ?_);have g2:=Heap.get?_update_self (Obj.mapSeq (·.push Value.none)) g1 rfl;refine wpAny_updateSeq (hz:=by seq_fits) g2 rfl ?_;have g3:=Heap.get?_update_self (Obj.mapSeq (·.pop)) g2 rfl;exact aB ⟨plainId_quiet bU _,go _ _ _ (fun b o hb e=>(Heap.get?_update_other _ _ (Ne.symm hb)).trans ((Heap.get?_update_other _ _ (Ne.symm hb)).trans e)) g3⟩
theorem gather{R:List Value→Shared→Prop}{v:Addr}(hh:A.handled=none)(hv:s.heap.IsItemsView v d)(hm:RD s.heap d es ep)(hn:es.size≤sizeLine)
 (k:∀(h1:Heap) (tk:Nat) (as:List Addr),s.heap.objs.size<h1.objs.size→(∀b u,s.heap.get? b=some u→h1.get? b=some u)→as.length=es.size→Made es s.heap.objs.size h1 as→R (as.map Value.ref) {s with heap:=h1,toks:=tk}) :
  wpAny (model prog w) A (collect (.ref v)) R E s:=by
 have lv:v<s.heap.objs.size:=by obtain⟨o,e,_⟩:=hv;exact aE e
 have ld:d<s.heap.objs.size:=by obtain⟨o,e,_⟩:=hm;exact aE e
 unfold collect;refine aA (wpAny_runValue (codeAny_builtin entry_proto_collect' ?_));rw[Around.under_plainId PySem.F.plain_proto_collect _];show wpAny _ A.in1 (newList []>>=fun x=>again (.builtin "list.__iadd__" ⟨[x,.ref v],[]⟩)) _ _ s;refine aA (aX (aB ⟨plainId_quiet PySem.F.plain_list_iadd _,codeAny_builtin entry_list_iadd' ?_⟩));rw[Around.under_plainId PySem.F.plain_list_iadd _];have g0:(s.heap.push { cls:=.type "list",data:=.seq ([]:List Value).toArray}).get? s.heap.objs.size=some { cls:=.type "list",data:=.seq #[]}:=aT _ rfl;have sz0:(s.heap.push { cls:=.type "list",data:=.seq ([]:List Value).toArray}).objs.size=s.heap.objs.size+1:=Heap.size_push ..;have main:=extend (prog:=prog) (w:=w) (A:=A) (s:={s with heap:=s.heap.push { cls:=.type "list",data:=.seq ([]:List Value).toArray} }) (es:=es) (ep:=ep) hh (v:=v) (d:=d) (by obtain⟨o,e,r⟩:=hv;exact⟨o,Heap.get?_push_of_some _ e,r⟩) (by obtain⟨o,e,r⟩:=hm;exact⟨o,Heap.get?_push_of_some _ e,r⟩)
  s.heap.objs.size (aq lv) (aN ld) (.ref s.heap.objs.size) 0 g0
  (R:=fun q s1=>∃h1 tk acc c as,q=.ok (.ret (.ref s.heap.objs.size))∧s1={s with heap:=h1,toks:=tk}∧(∀b u,s.heap.get? b=some u→h1.get? b=some u)∧h1.get? s.heap.objs.size=some { cls:=.type "list",dict:=none,data:=.seq acc c,slots:=#[]}∧as.length=es.size∧Made es s.heap.objs.size h1 as∧acc.toList=as.map Value.ref)
  (fun h1 tk acc c as k1 g1 hl hG ha=>⟨h1,tk,acc,c,as,rfl,rfl,fun b u e=>k1 b u (aN (aE e)) (aD _ e),g1,hl,fun j a hj=>by
   obtain⟨r1,r2⟩:=hG j a hj;exact⟨Nat.lt_trans (by show s.heap.objs.size<(s.heap.push _).objs.size;rw[sz0];exact Nat.lt_succ_self _) r1,r2⟩,ha⟩) hn
 refine ab main (fun fin s1 x=>?_) fun e s1 x=>?_
 ·cases fin with
  |done f =>
   obtain⟨h1,tk,acc,c,as,e,rfl,k1,g1,hl,hG,ha⟩:=x;cases e;show wpAny _ A (load s.heap.objs.size>>=_) _ _ _;refine aA (wpAny_load g1 (aB ?_));show R acc.toList _;rw[ha];exact k h1 tk as (aE g1) k1 hl hG
  |again c1 =>
   refine⟨x.1,codeAny_mono x.2 fun q s2 y=>?_⟩;obtain⟨h1,tk,acc,c,as,rfl,rfl,k1,g1,hl,hG,ha⟩:=y;show wpAny _ A (load s.heap.objs.size>>=_) _ _ _;refine aA (wpAny_load g1 (aB ?_));show R acc.toList _;rw[ha];exact k h1 tk as (aE g1) k1 hl hG
 ·obtain⟨_,_,_,_,_,e,_⟩:=x;cases e
end
end DI
namespace IT
open PySem PySem.W PyProof.Rows PySem.SeqAt
def lt:List Int→List Int→Bool
 |[],[]=>false
 |[],_::_=>true
 |_::_,[]=>false
 |a::r,b::q=>if a=b then lt r q else decide (a<b)
theorem lt_irrefl:∀a,lt a a=false
 |[]=>rfl
 |a::r=>by rw[lt,if_pos rfl,lt_irrefl r]
theorem lt_trans:∀a b c,lt a b=true→lt b c=true→lt a c=true
 |[],[],_,h,_=>by cases h
 |[],_::_,[],_,h=>by cases h
 |[],_::_,_::_,_,_=>rfl
 |_::_,[],_,h,_=>by cases h
 |_::_,_::_,[],_,h=>by cases h
 |a::r,b::q,c::p,h,k=>by
  rw[lt]at h k ⊢;by_cases e1:a=b
  ·subst e1;rw[if_pos rfl]at h;by_cases e2:a=c
   ·rw[if_pos e2]at k ⊢;exact lt_trans r q p h k
   ·rw[if_neg e2]at k ⊢;exact k
  ·rw[if_neg e1]at h;have h:=aj h;by_cases e2:b=c
   ·subst e2;rw[if_neg e1];exact bP h
   ·rw[if_neg e2]at k;have k:=aj k;rw[if_neg (by lia)];exact bP (by lia)
theorem Jb:∀a b,lt a b=false→lt b a=false→a=b
 |[],[],_,_=>rfl
 |[],_::_,h,_=>by cases h
 |_::_,[],_,h=>by cases h
 |a::r,b::q,h,k=>by
  rw[lt]at h k;by_cases e:a=b
  ·subst e;rw[if_pos rfl]at h k;rw[Jb r q h k]
  ·rw[if_neg e]at h;rw[if_neg (Ne.symm e)]at k;have h:=bN h;have k:=bN k
   lia
def Is:List Int→List Value→Prop
 |[],us=>us=[]
 |k::r,us=>∃t rest,us=.int k t::rest∧Is r rest
theorem Is.length:∀ {ks:List Int} {us:List Value},Is ks us→us.length=ks.length
 |[],us,h=>by rw[Is]at h;subst h;rfl
 |k::r,us,h=>by
  rw[Is]at h;obtain⟨t,rest,rfl,h⟩:=h;rw[List.length_cons,List.length_cons,Is.length h]
theorem Is.inj:∀ {ks js:List Int} {us:List Value},Is ks us→Is js us→ks=js
 |[],[],_,_,_=>rfl
 |[],_::_,us,h,k=>by
  simp only[Is]at h k;subst h;obtain⟨t,rest,e,_⟩:=k;cases e
 |_::_,[],us,h,k=>by
  simp only[Is]at h k;subst k;obtain⟨t,rest,e,_⟩:=h;cases e
 |a::r,b::q,us,h,k=>by
  rw[Is]at h k;obtain⟨t,rest,rfl,h⟩:=h;obtain⟨t',rest',e,k⟩:=k
  injection e with e1 e2
  injection e1 with e1 e3
  subst e1 e2;rw[Is.inj h k]
theorem Is.get:∀ {ks:List Int} {us:List Value} {j:Nat},Is ks us→(h:j<us.length)→∃k t,ks[j]? = some k∧us[j]=.int k t
 |[],us,j,h,hj=>by rw[Is]at h;subst h;exact absurd hj (Nat.not_lt_zero _)
 |k::r,us,j,h,hj=>by
  rw[Is]at h;obtain⟨t,rest,rfl,h⟩:=h;cases j with
  |zero=>exact⟨k,t,rfl,rfl⟩
  |succ j =>
   obtain⟨k',t',h1,h2⟩:=Is.get (j:=j) h (by simpa using hj);exact⟨k',t',by simpa using h1,by simpa using h2⟩
theorem V0{h:Heap}{a:Addr}{x y:Array Value}(h1:h.IsTuple a x)(h2:h.IsTuple a y):x=y:=by
 obtain⟨o,e1,_,n,d1⟩:=h1;obtain⟨o',e2,_,n',d2⟩:=h2;rw[e1]at e2;cases e2;rw[d1]at d2;cases d2
 rfl
theorem ej{s:Shared}{ks js:List Int}{A:Around}{a b:Addr}{its its':List Value}(h1:s.heap.IsTuple a its.toArray)(k1:Is ks its)(h2:s.heap.IsTuple b its'.toArray)(k2:Is js its')(hu:A.units<cLine) :
  RcAt A s (.ref a) (.ref b) (decide (ks=js)):=by
 have key:=RcAt.tuples (s:=s) (A:=A) (e:=fun j=>decide (ks[j]? = js[j]?)) h1 h2 hu fun j x1 x2=>by
  obtain⟨x,t,q1,q2⟩:=k1.get (j:=j) (by simpa using x1);obtain⟨y,u,q3,q4⟩:=k2.get (j:=j) (by simpa using x2);have e:decide (ks[j]? = js[j]?)=(x==y):=by
   rw[q1,q3];by_cases hxy:x=y
   ·subst hxy;simp
   ·rw[decide_eq_false (by simpa using hxy)];simp[hxy]
  rw[e];have:=EqAt.int_int (A:=A.in1) (s:=s) x t y u
  simpa[q2,q4]using this
 have ev:((List.range (min its.toArray.size its'.toArray.size)).all (fun j=>decide (ks[j]? = js[j]?))&&its.toArray.size==its'.toArray.size)=decide (ks=js):=by
  have z1:its.toArray.size=ks.length:=by rw[←k1.length];simp
  have z2:its'.toArray.size=js.length:=by rw[←k2.length];simp
  rw[z1,z2];by_cases hbc:ks=js
  ·subst hbc;simp
  ·rw[decide_eq_false hbc];cases hl:ks.length==js.length with
   |false=>rw[Bool.and_false]
   |true =>
    rw[Bool.and_true];have hl':ks.length=js.length:=by simpa using hl
    refine ar.mpr fun z=>hbc (List.ext_getElem? fun i=>?_);by_cases hi:i<ks.length
    ·have:=List.all_eq_true.mp z i (au.mpr (by lia))
     simpa using this
    ·rw[List.getElem?_eq_none (by lia),List.getElem?_eq_none (by lia)]
 rw[ev]at key;exact key
theorem a8{s:Shared}{ks js:List Int}{A:Around}{a b:Addr}{its its':List Value}(h1:s.heap.IsTuple a its.toArray)(k1:Is ks its)(h2:s.heap.IsTuple b its'.toArray)(k2:Is js its')(hu:A.units<cLine) :
  EqAt A s (.ref a) (.ref b) (decide (ks=js)):=by
 by_cases ea:a=b
 ·subst ea;have e2:its=its':=by simpa using V0 h1 h2
  subst e2;rw[k1.inj k2,decide_eq_true rfl];exact EqAt.same _
 ·exact EqAt.of_refs ea (ej h1 k1 h2 k2 hu)
section
open PySem.AutoSeq1 (wpAny_loadPart')
open PySem.MeetsSeq PySem.MeetsSeq2 PySem.MeetsSeq3
theorem Wv(l b:Addr)(items items2:Array Value)(n n2:Nat)(dd dd2:Option Addr)(sl sl2:Array (Option Value))(t u:List Int) :
  Meets (Builtin.«tuple.__lt__» ⟨[.ref l,.ref b],[]⟩)
   (fun A R s=>s.heap.get? l=some { cls:=.type "tuple",dict:=dd,data:=.seq items n,slots:=sl}∧s.heap.get? b=some { cls:=.type "tuple",dict:=dd2,data:=.seq items2 n2,slots:=sl2} ∧
    Is t items.toList∧Is u items2.toList∧A.units<cLine∧R (.ok (.ret (.bool (lt t u)))) s) :=
 .of_wp fun prog w A R s h=>by
  obtain⟨hp,g,d,tk,os⟩:=s;obtain⟨hl,hb,hi,hj,hun,h⟩:=h;have f2:=AutoSeq1.sub_tuple_tuple;have z1:items.size=t.length:=by rw[←Is.length hi];simp
  have z2:items2.size=u.length:=by rw[←Is.length hj];simp
  wp_walk using wpAny_loadPart' hl,wpAny_loadPart' hb,wpAny_forIn_list _ (fun rest b s'=>b.1=none∧s'=⟨hp,g,d,tk,os⟩∧∃(vs ws:List Value) (t' u':List Int),rest=vs.zip ws ∧
   Is t' vs∧Is u' ws∧t'.length+items2.size=u'.length+items.size∧R (.ok (.ret (.bool (lt t' u')))) ⟨hp,g,d,tk,os⟩) _
  case turn =>
   rintro⟨y,x⟩ rest b s' ⟨hb',rfl,vs,ws,t',u',hz,hvi,hwi,hlen,hR⟩;cases t' with
   |nil=>rw[Is]at hvi;subst hvi;rw[List.zip_nil_left]at hz;cases hz
   |cons bt rt =>
    cases u' with
    |nil=>rw[Is]at hwi;subst hwi;rw[List.zip_nil_right]at hz;cases hz
    |cons bu ru =>
     rw[Is]at hvi hwi;obtain⟨a1,v1,rfl,p3⟩:=hvi;obtain⟨a2,v2,rfl,q3⟩:=hwi;rw[List.zip_cons_cons]at hz
     injection hz with hyx hrest
     injection hyx with hy hx
     subst hy hx;rw[lt]at hR;simp only[List.length_cons]at hlen;have he:=EqAt.int_int (A:=A.in1) (s:=⟨hp,g,d,tk,os⟩) bt a1 bu a2;refine aA (he prog w _ _ ?_);by_cases hc:bt=bu
     ·rw[if_pos hc]at hR;rw[beq_iff_eq.mpr hc]
      wp_walk
      exact⟨rfl,rfl,_,_,_,_,hrest,p3,q3,by lia,hR⟩
     ·rw[if_neg hc]at hR;rw[beq_eq_false_iff_ne.mpr hc];have hri:∀(E:Value→Shared→Prop) (Q:Value→Shared→Prop),Q (.bool (decide (bt<bu))) ⟨hp,g,d,tk,os⟩→wpAny (model prog w) A.in1 (richCompare .Lt (.int bt a1) (.int bu a2)) Q E ⟨hp,g,d,tk,os⟩:=fun E Q h=>wpAny_lt_int h
      wp_walk using hri
      exact⟨_,rfl,by simpa using hR⟩
  case fin =>
   rintro⟨b1,b2⟩ s' ⟨hb',rfl,vs,ws,t',u',hz,hvi,hwi,hlen,hR⟩;simp only at hb';subst hb';have hv:lt t' u'=decide (items.size<items2.size):=by
    cases t' with
    |nil =>
     cases u' with
     |nil =>
      simp only[List.length_nil]at hlen;exact(bL (by lia)).symm
     |cons c q =>
      simp only[List.length_cons,List.length_nil]at hlen;exact(bP (by lia)).symm
    |cons bt rt =>
     cases u' with
     |nil =>
      simp only[List.length_cons,List.length_nil]at hlen;exact(bL (by lia)).symm
     |cons c q =>
      rw[Is]at hvi hwi;obtain⟨_,_,rfl,_⟩:=hvi;obtain⟨_,_,rfl,_⟩:=hwi;rw[List.zip_cons_cons]at hz;cases hz
   rw[hv]at hR
   wp_walk
   exact⟨_,rfl,by simpa[Builtin.Tuple.tupleCompareSizes]using hR⟩
  case h =>
   exact⟨rfl,rfl,items.toList,items2.toList,t,u,rfl,hi,hj,by lia,h⟩
end
end IT
namespace IT
open PySem PySem.W PyProof.Rows PySem.SeqAt
section
open PySem.MeetsSeq PySem.MeetsSeq2 PySem.MeetsSeq3
variable{prog:Program}{w:World}{A:Around}{E:Value→Shared→Prop}{s:Shared}{t u:List Int}{a b:Addr}{its its':List Value}
theorem eC{Q:Value→Shared→Prop}(h1:s.heap.IsTuple a its.toArray)(k1:Is t its)(h2:s.heap.IsTuple b its'.toArray)(k2:Is u its')(hu:A.units+1<cLine)(h:Q (.bool (lt t u)) s):wpAny (model prog w) A (richCompare .Lt (.ref a) (.ref b)) Q E s:=by
 obtain⟨⟨cls,dd,data,sl⟩,ho,hc,n,hdt⟩:=id h1;obtain⟨⟨cls2,dd2,data2,sl2⟩,ho2,hc2,n2,hdt2⟩:=id h2;simp only at hc hdt hc2 hdt2;subst hc hdt hc2 hdt2;exact richCompare_meets_room (op:=.Lt) ⟨_,ho,rfl⟩ ⟨_,ho2,rfl⟩ PySem.F.slot_tuple_lt PySem.F.entry_tuple_lt (PySem.F.args_tuple_lt_2 _ _) (Wv a b its.toArray its'.toArray n n2 dd dd2 sl sl2 t u)
  ⟨ho,ho2,by simpa using k1,by simpa using k2,by lia,show Value.bool (lt t u)≠Value.notImplemented∧Q (.bool (lt t u)) s from⟨(fun x=>nomatch x),h⟩⟩ (by lia)
theorem SF{Q:Bool→Shared→Prop}(h1:s.heap.IsTuple a its.toArray)(k1:Is t its)(h2:s.heap.IsTuple b its'.toArray)(k2:Is u its')(hu:A.units+1<cLine)(h:Q (lt t u) s):wpAny (model prog w) A (oneLt' false (.ref a) (.ref b)) Q E s:=by
 rw[oneLt'_eq];simp only[Bool.false_eq_true,if_false];exact aA (eC h1 k1 h2 k2 hu (bZ h))
end
abbrev Tm:=List Int×List Int
def FL(x y:Tm):Bool:=if x.1=y.1 then lt x.2 y.2 else lt x.1 y.1
theorem UD(x:Tm):FL x x=false:=by unfold FL;rw[if_pos rfl,lt_irrefl]
theorem N3(x y:Tm)(h:FL x y=false)(k:FL y x=false):x=y:=by
 unfold FL at h k;by_cases e:x.1=y.1
 ·rw[if_pos e]at h;rw[if_pos e.symm]at k;exact Prod.ext e (Jb _ _ h k)
 ·rw[if_neg e]at h;rw[if_neg (Ne.symm e)]at k;exact absurd (Jb _ _ h k) e
theorem Oa(x y z:Tm)(h:FL x y=true)(k:FL y z=true):FL x z=true:=by
 unfold FL at h k ⊢;by_cases e1:x.1=y.1
 ·rw[if_pos e1]at h;by_cases e2:y.1=z.1
  ·rw[if_pos e2]at k;rw[if_pos (e1.trans e2)];exact lt_trans _ _ _ h k
  ·rw[if_neg e2]at k;rw[if_neg (fun q=>e2 (e1.symm.trans q)),e1];exact k
 ·rw[if_neg e1]at h;by_cases e2:y.1=z.1
  ·rw[if_neg (fun q=>e1 (q.trans e2.symm)),←e2];exact h
  ·rw[if_neg e2]at k;have:=lt_trans _ _ _ h k;rw[if_neg (fun q=>by rw[q,lt_irrefl]at this;cases this)];exact this
theorem QO(a b c:Tm)(h:FL a c=true):FL a b=true∨FL b c=true:=by
 cases k:FL a b with
 |true=>exact .inl rfl
 |false =>
  right
  cases m:FL b c with
  |true=>rfl
  |false =>
   cases n:FL b a with
   |true=>have:=Oa b a c n h;rw[m]at this;cases this
   |false=>have:=N3 a b k n;subst this;rw[m]at h;cases h
def Hw:KeyOrd where
 α:=Tm
 blt:=FL
 irrefl:=UD
 trans:=Oa
 negTrans:=QO
 total:=N3
def IM(h:Heap)(k:Tm)(v:Value):Prop:=∃(a b c:Addr) (its its2:List Value),v=.ref a∧h.IsTuple a [.ref b,.ref c].toArray∧h.IsTuple b its.toArray∧Is k.1 its∧h.IsTuple c its2.toArray∧Is k.2 its2
theorem IM.ext{h h':Heap}(e:GS.Ext h h'){k:Tm}{v:Value}(x:IM h k v):IM h' k v:=by
 obtain⟨a,b,c,i1,i2,rfl,h1,h2,h3,h4,h5⟩:=x;exact⟨a,b,c,i1,i2,rfl,TH.M5 e h1,TH.M5 e h2,h3,TH.M5 e h4,h5⟩
section
open PySem.MeetsSeq PySem.MeetsSeq2 PySem.MeetsSeq3
variable{prog:Program}{w:World}{A:Around}{E:Value→Shared→Prop}{s:Shared}
theorem Wb{x y:Tm}{u v:Value}{Q:Bool→Shared→Prop}(h1:IM s.heap x u)(h2:IM s.heap y v)(hu:A.units+2<cLine)(h:Q (FL x y) s):wpAny (model prog w) A (keyLt' (tuples' false) u v) Q E s:=by
 obtain⟨a,b,l,i1,i2,rfl,k1,k2,k3,k4,k5⟩:=h1;obtain⟨a',b',l',j1,j2,rfl,m1,m2,m3,m4,m5⟩:=h2;obtain⟨o,ho,hc,n,hd⟩:=id k1;obtain⟨o2,ho2,hc2,n2,hd2⟩:=id m1;refine kat_lt ho hd ho2 hd2 ?_;unfold FL at h;show KatLex prog w A false (decide (2<2)) Q [(.ref b,.ref b'),(.ref l,.ref l')] 0 s;refine kat_cons (a8 k2 k3 m2 m3 (by lia) prog w _ _ ?_);by_cases e1:x.1=y.1
 ·rw[decide_eq_true e1];rw[if_pos e1]at h;refine kat_yes (kat_cons (a8 k4 k5 m4 m5 (by lia) prog w _ _ ?_));by_cases e2:x.2=y.2
  ·rw[decide_eq_true e2];rw[e2,lt_irrefl]at h;exact kat_yes (kat_nil h)
  ·rw[decide_eq_false e2];exact kat_no (by rw[Bool.false_and];exact SF k4 k5 m4 m5 (by lia) h)
 ·rw[decide_eq_false e1];rw[if_neg e1]at h;exact kat_no (by rw[Bool.false_and];exact SF k2 k3 m2 m3 (by lia) h)
theorem IM.tt{h:Heap}{x:Tm}{v:Value}(z:IM h x v):TH.Q0 h v:=by
 obtain⟨a,b,l,i1,i2,rfl,h1,h2,h3,h4,h5⟩:=z;exact⟨a,b,_,[.ref l],rfl,h1,h2⟩
theorem V1{h0:Heap}{ks:List Tm}{us:List Value}(hl:us.length=ks.length)(he:∀(i:Nat) (x:Tm) (u:Value),ks[i]? = some x→us[i]? = some u→IM h0 x u):GS.XS Hw prog w h0 2 ks us :=
 ⟨hl,fun κ=>κ=tuples' false,fun A E s Q hx h=>TH.Yc (fun v hv=>by
  obtain⟨i,hi,rfl⟩:=List.getElem_of_mem hv;exact((he i _ _ (aI (by lia)) (aI hi)).ext hx).tt) (h _ rfl),
  fun A s κ hx hr hκ E i j x y u v Q h1 h2 h3 h4 q=>by
  subst hκ;exact Wb ((he i x u h3 h1).ext hx) ((he j y v h4 h2).ext hx) (by lia) q⟩
end
end IT
namespace DI
open PySem PySem.W PyProof.Rows PySem.SeqAt GS
section
variable{prog:Program}{w:World}{A:Around}{E:Value→Shared→Prop}{s:Shared}{d v:Addr}{ep:Nat}{es:Array DictEntry}{ks:List IT.Tm}
def cC(h:Heap)(k:IT.Tm)(e:DictEntry):Prop:=∃(b c:Addr) (its its2:List Value),e.key=.ref b∧e.val=.ref c∧h.IsTuple b its.toArray∧IT.Is k.1 its∧h.IsTuple c its2.toArray∧IT.Is k.2 its2
theorem QH{b:Bool}{Q:Value→Shared→Prop}(hh:A.handled=none)(hv:s.heap.IsItemsView v d)(hm:RD s.heap d es ep)(hn:es.size<64)(hl:ks.length=es.size)(he:∀(j:Nat) (k:IT.Tm) (e:DictEntry),ks[j]? = some k→es[j]? = some e→cC s.heap k e)(hu:A.units+4<cLine)
 (h:∀(h':Heap) (D tk:Nat) (ix:List Nat) (e1:Nat) (as:List Addr),(∀b u,s.heap.get? b=some u→h'.get? b=some u)→as.length=es.size→(∀(j:Nat) (a:Addr),as[j]? = some a→s.heap.objs.size<a∧a<D∧∃e,es[j]? = some e∧h'.get? a=some { cls:=.type "tuple",data:=.seq #[e.key,e.val]}) →
   h'.get? D=some (seqObj "list" (ix.map fun i=>(as.map Value.ref).getD i Value.none).toArray e1)→ix.Perm (List.range es.size)→(ix.map fun i=>ks.getD i ([],[])).Pairwise (fun x y=>if b=true then IT.Hw.kle y x else IT.Hw.kle x y)→s.heap.objs.size≤D→Q (.ref D) {s with heap:=h',toks:=tk}) :
  wpAny (model prog w) A (call (.builtin "sorted") [.ref v] [(Str.ofString "reverse",.bool b)]) Q E s:=by
 refine call_function_entry_kw kind_sorted plain_sorted entry_sorted (args_sorted_rev _ _) ?_;unfold Builtin.«sorted»;refine aA (m:=checkCount "sorted" 1 1 _) (aB ?_);refine aA (gather (A:=A.in1) hh hv hm (by rw[sizeLine_eq];lia) fun h1 tk as z1 k1 hal hG=>?_);have hus:(as.map Value.ref).length=es.size:=by rw[List.length_map,hal]
 refine aA (wpAny_newList ?_ (by rw[sizeLine_eq];lia));have C:XS IT.Hw prog w h1 2 ks (as.map Value.ref):=IT.V1 (by rw[hus,hl]) fun i x u hx hu'=>by
  rw[List.getElem?_map]at hu';obtain⟨a,ha,rfl⟩:=aH.mp hu';obtain⟨r1,e,r2,r3⟩:=hG i a ha;obtain⟨b,c,its,its2,q1,q2,q3,q4,q5,q6⟩:=he i x e hx r2;refine⟨a,b,c,its,its2,rfl,⟨_,r3,rfl,0,?_⟩,?_,q4,?_,q6⟩
  ·rw[q1,q2]
  ·obtain⟨o,y,r⟩:=q3;exact⟨o,k1 _ _ y,r⟩
  ·obtain⟨o,y,r⟩:=q5;exact⟨o,k1 _ _ y,r⟩
 have hr:Runs IT.Hw prog w (if b then ks.reverse else ks):=by
  cases b with
  |true=>exact MS (O:=IT.Hw) (ks:=ks.reverse) (show(ks.reverse:List IT.Tm).length<64 by rw[List.length_reverse,hl];exact hn)
  |false=>exact MS (O:=IT.Hw) (ks:=ks) (show(ks:List IT.Tm).length<64 by rw[hl];exact hn)
 obtain⟨g1,x2,fin⟩:=RJ (s:={s with heap:=h1,toks:=tk}) (h1:=h1) (T:=pure (.done (.ret .none))) (tk:=tk) (b:=b) (([],[]):IT.Tm) C (by lia) hr (fun _ _ e=>e) (aG _)
  (Q:=fun x s'=>∃(h':Heap) (D tk:Nat) (ix:List Nat) (e1:Nat),x=.ref D∧s'={s with heap:=h',toks:=tk}∧h1.objs.size≤D∧Ext h1 h'∧h'.get? D=some (seqObj "list" (ix.map fun i=>(as.map Value.ref).getD i Value.none).toArray e1)∧ix.Perm (List.range (as.map Value.ref).length)∧(ix.map fun i=>ks.getD i ([],[])).Pairwise (fun x y=>if b=true then IT.Hw.kle y x else IT.Hw.kle x y))
  (fun h' D tk ix e1 a1 a2 a3 a4 a5=>⟨h',D,tk,ix,e1,rfl,rfl,a1,a2,a3,a4,a5⟩)
 refine aA (bK (wpAny_call_entry_kw slot_list_sort ⟨_,g1,rfl⟩ entry_list_sort ?_ (args_list_sort_rev _ _)));refine VW (s:={s with heap:=h1.push (seqObj "list" (as.map Value.ref).toArray 0),toks:=tk}) (([],[]):IT.Tm) C x2 (aG _) g1 (by lia) hr (by rw[show A.in1.in1.units=A.units+2 from rfl];lia) fun ix p1 p2=>⟨_,rfl,?_⟩;refine aB ⟨_,rfl,?_⟩;obtain⟨h',D,tk',ix',e1,q1,q2,q3,q4,q5,q6,q7⟩:=fin ix p1 p2;rw[q1];have:=h h' D tk' ix' e1 as (fun b u e=>q4 _ _ (k1 b u e)) hal (fun j a hj=>by
  obtain⟨r1,e,r2,r3⟩:=hG j a hj;exact⟨r1,Nat.lt_of_lt_of_le (aE r3) q3,e,r2,q4 _ _ r3⟩) q5 (by rw[hus]at q6;exact q6) q7 (aR (bV z1) q3)
 rw[←q2]at this;exact this
end
end DI
namespace L2
open PySem PySem.Spec PyProof.Rows
theorem Inv.many{X:Cx}{pins:List (Addr×Obj)}{σ:St}{H H':Hp}{s:Shared}{h':Heap}{t':Nat}(I:Inv X pins σ H s)(k:∀b u,s.heap.get? b=some u→h'.get? b=some u)(hH:∀b,b<s.heap.objs.size→H' b=H b)(Ah:CN X.prog X.w H' h') :
  Inv X pins σ H' {s with heap:=h',toks:=t'}:=by
 have lt:∀b o,H b=some o→b<s.heap.objs.size:=fun b o e=>(I.Ah b o e).lt;have up:∀b o,H b=some o→H' b=some o:=fun b o e=>by rw[hH b (lt b o e)];exact e
 show Inv X pins σ H' {s with heap:=h',gens:=s.gens,drawn:=s.drawn,toks:=t'};refine I.step (h':=h') (ch:=[]) (fun b hb=>nomatch hb) (fun b o _ _ _ e _=>k b o e) (fun b o _ _ _ e _=>⟨o.slots,k b o e⟩) (fun b o _ e n=>by rw[hH b (aE e)];exact n) (fun b o _ e=>⟨o,k b o e⟩)
  (fun b xs e=>up b _ e) (fun b o u e=>up b _ e) (fun b ps e=>⟨#[],by rw[up b _ e];simp⟩) (fun b _ o _ _ e=>k b o e) (fun m hm=>?_) Ah I.bare
 obtain⟨o,es,ep,ho,r⟩:=hm;exact⟨o,es,ep,k _ o ho,r⟩
theorem MI:∀ {ps:List Int} {us:List Value},Vals (ps.map V.int) us→IT.Is ps us
 |[],_,r=>by rw[List.map_nil]at r;cases r;rw[IT.Is]
 |p::ps,_,r=>by
  rw[List.map_cons]at r;cases r with
  |cons h t =>
   obtain⟨tk,rfl⟩:=h;rw[IT.Is];exact⟨tk,_,rfl,MI t⟩
theorem Wh{prog:Program}{w:World}(d:Addr)(nd:(d==sysModules)=false) :
  MeetsIn prog w (Builtin.«dict.items» ⟨[.ref d],[]⟩) (fun _ R s=>(∃es ep,DI.RD s.heap d es ep)∧R (.ok (.ret (.ref s.heap.objs.size))) {s with heap:=s.heap.push { cls:=.type "dict_items",data:=.fields #[.ref d]} }) :=
 .of_wp fun A R s ⟨⟨es,ep,o,r1,r2,r3⟩,h⟩=>by
  unfold Builtin.«dict.items»;refine aA ?_;unfold Builtin.Dict.noArgs;refine aA (wpAny_notOrdered_dict ⟨o,r1,r2.1⟩ ?_);refine aB (show wpAny _ _ (Builtin.Dict.showsAll d>>=_) _ _ s from ?_);unfold Builtin.Dict.showsAll;rw[nd,if_neg aJ];exact aA (aB (aA (aX (aB ⟨_,rfl,h⟩))))
def XO(H1:Hp)(x:V)(Q:VK):Prop:=∃(a:Addr) (kvs:List (List Key×V)) (ts:List IT.Tm),x=.ref a∧H1 a=some (.dT kvs)∧kvs.length<64∧ts.length=kvs.length ∧
 (∀(j:Nat) k v t,kvs[j]? = some (k,v)→ts[j]? = some t→k=t.1.map Sum.inl∧∃c,v=.ref c∧H1 c=some (.tup (t.2.map V.int))) ∧
 ∀(D:Addr) (H':Hp) (zs:List V) (us:List IT.Tm),AG H1 H'→H1 D=none→H' D=some (.lst zs)→us.Perm ts→us.Pairwise (fun x y=>IT.Hw.kle y x)→zs.length=us.length →
  (∀(j:Nat) z t,zs[j]? = some z→us[j]? = some t→∃p b c,z=.ref p∧H1 p=none∧H' p=some (.tup [.ref b,.ref c])∧H1 b=some (.tup (t.1.map V.int))∧H1 c=some (.tup (t.2.map V.int)))→Q (.ref D) H'
theorem Qd(ps:List Int):(ps.map (Sum.inl:Int→Key)).map kV=ps.map V.int:=by rw[List.map_map];rfl
theorem KS{α β:Type}{F:α→β→Prop}:∀ {xs:List α} {ys:List β} {j:Nat} {x:α} {y:β},Paired F xs ys→xs[j]? = some x→ys[j]? = some y→F x y
 |_,_,j,x,y,.nil,h,_=>by simp at h
 |_,_,0,x,y,.cons f _,h,k=>by simp at h k;subst h k;exact f
 |_,_,j+1,x,y,.cons _ r,h,k=>KS r (by simpa using h) (by simpa using k)
theorem VP{α:Type}(d:α)(ts:List α){ix:List Nat}(h:ix.Perm (List.range ts.length)):(ix.map fun i=>ts.getD i d).Perm ts:=by
 have e:(List.range ts.length).map (fun i=>ts.getD i d)=ts:=by
  apply List.ext_getElem
  ·simp
  ·intro i h1 h2;simp at h1;simp[h1]
 have:=h.map fun i=>ts.getD i d
 rwa [e]at this
theorem Ks:∀as:List Addr,Vals (as.map V.ref) (as.map Value.ref)
 |[]=>.nil
 |a::as=>.cons rfl (Ks as)
def Xl(h:Heap)(y:Addr):Option HO:=match (h.get? y).map (fun o:Obj=>o.data) with
 |some (Data.seq its _)=>match its.toList with
  |[Value.ref b,Value.ref c]=>some (.tup [.ref b,.ref c])
  |_=>none
 |_=>none
theorem UT{X:Cx}{pins:List (Addr×Obj)}{σ:St}{H:Hp}{s:Shared}{Q:VK}(I:Inv X pins σ H s){x:V}{v:Value}(rx:RelV x v)(hc:X.calm=true)(hu:X.A.units+64<cLine)(q:XO H x Q) :
  ∃(a:Addr) (es:Array DictEntry) (ep:Nat),v=.ref a∧(a==sysModules)=false∧DI.RD s.heap a es ep ∧
   wpAny (model X.prog X.w) X.A (call (.builtin "sorted") [.ref s.heap.objs.size] [(Str.ofString "reverse",.bool true)]) (EP X pins σ Q) X.xe {s with heap:=s.heap.push { cls:=.type "dict_items",data:=.fields #[.ref a]} }:=by
 obtain⟨a,kvs,ts,rfl,ha,h64,hts,hterm,q⟩:=q;cases rx;obtain⟨hz,nd,xs,kt,o,es,ep,r1,r2,r3,r4,r5,r6⟩:=Tp I.Ah ha;refine⟨a,es,ep,rfl,nd,⟨o,r1,r2,r3⟩,?_⟩;have hlen:es.size=kvs.length:=by rw[size_of_entries r4];exact(Paired.length kt).symm
 have I2:Inv X pins σ H {s with heap:=s.heap.push { cls:=.type "dict_items",data:=.fields #[.ref a]} }:=I.kept (t':=s.toks) fun b ob e=>aD _ e;have ent:∀(j:Nat) (e:DictEntry),es[j]? = some e→∃k w x,kvs[j]? = some (k,w)∧xs[j]? = some x∧e.key=.ref x.2.1∧e.val=x.2.2∧H x.2.1=some (.tup (k.map kV))∧RelV w x.2.2:=fun j e he=>by
  rw[entry_at r4 j]at he;obtain⟨x,hx,rfl⟩:=aH.mp he;have hj:j<kvs.length:=by rw[Paired.length kt];exact(aC.mp hx).1
  obtain⟨kv,hkv⟩:∃kv,kvs[j]? = some kv:=⟨kvs[j],by simp[hj]⟩;have:=KS kt hkv hx;exact⟨kv.1,kv.2,x,hkv,hx,rfl,rfl,this.1 ▸ this.2.1,this.2.2⟩
 have trm:∀(j:Nat) (t:IT.Tm) (e:DictEntry),ts[j]? = some t→es[j]? = some e→∃b c,e.key=.ref b∧e.val=.ref c∧H b=some (.tup (t.1.map V.int))∧H c=some (.tup (t.2.map V.int)):=fun j t e ht he=>by
  obtain⟨k,w,x,h1,h2,h3,h4,h5,h6⟩:=ent j e he;obtain⟨rfl,c,rfl,h7⟩:=hterm j k w t h1 ht;rw[Qd]at h5;refine⟨x.2.1,c,h3,?_,h5,h7⟩;rw[h4];obtain⟨xk,xb,xv⟩:=x;cases h6
  rfl
 have entV:∀(j:Nat) (k:IT.Tm) (e:DictEntry),ts[j]? = some k→es[j]? = some e→DI.cC (s.heap.push { cls:=.type "dict_items",data:=.fields #[.ref a]}) k e:=fun j k e hk he=>by
  obtain⟨b,c,h1,h2,h3,h4⟩:=trm j k e hk he;obtain⟨i1,v1,p1,_⟩:=I2.tuple (Ap.of (K:=X.K) h3);obtain⟨i2,v2,p2,_⟩:=I2.tuple (Ap.of (K:=X.K) h4);exact⟨b,c,i1,i2,h1,h2,p1,MI v1,p2,MI v2⟩
 refine DI.QH (s:={s with heap:=s.heap.push { cls:=.type "dict_items",data:=.fields #[.ref a]} }) (b:=true) (ks:=ts) (d:=a) (es:=es) (ep:=ep) (I.ok.hd hc) ⟨_,Heap.get?_push_size _ rfl,rfl,rfl⟩ ⟨o,Heap.get?_push_of_some _ r1,r2,r3⟩ (by lia) (by lia) entV (by lia) fun h' D tk ix e1 as keep hal hG hD hp hs hge=>?_;have hsz:(s.heap.push { cls:=.type "dict_items",data:=.fields #[.ref a]}).objs.size=s.heap.objs.size+1:=Heap.size_push ..;simp only[hsz]at hG hge;have ixl:ix.length=kvs.length:=by rw[hp.length_eq,List.length_range];exact hlen
 have ixm:∀i∈ix,i<kvs.length:=fun i hi=>by
  have:=(hp.mem_iff (a:=i)).mp hi;rw[List.mem_range]at this
  lia
 have szD:D<h'.objs.size:=aE hD;have at_:∀j a',as[j]? = some a'→∃(b c:Addr) (t:IT.Tm),ts[j]? = some t∧h'.get? a'=some { cls:=.type "tuple",data:=.seq #[.ref b,.ref c]}∧H b=some (.tup (t.1.map V.int))∧H c=some (.tup (t.2.map V.int))∧s.heap.objs.size<a'∧a'<D:=fun j a' hj=>by
  obtain⟨h1,h2,e,h3,h4⟩:=hG j a' hj;have hjk:j<ts.length:=by
   rw[hts,←hlen,←hal];exact(aC.mp hj).1
  obtain⟨t,ht⟩:∃t,ts[j]? = some t:=⟨ts[j],by simp[hjk]⟩;obtain⟨b,c,k1,k2,k3,k4⟩:=trm j t e ht h3;rw[k1,k2]at h4;exact⟨b,c,t,ht,h4,k3,k4,by lia,h2⟩
 let zs:List V:=ix.map fun i=>(as.map V.ref).getD i .BA
 let H':Hp:=fun y=>if y=D then some (.lst zs) else if y∈as then Xl h' y else H y
 have hHD:H' D=some (.lst zs):=if_pos rfl;have hHa:∀(j:Nat) a' b c,as[j]? = some a'→h'.get? a'=some { cls:=.type "tuple",data:=.seq #[.ref b,.ref c]}→H' a'=some (.tup [.ref b,.ref c]):=fun j a' b c hj hb=>by
  obtain⟨_,_,_,_,_,_,_,_,hlt⟩:=at_ j a' hj;show(if a'=D then _ else _)=_;rw[if_neg (aN hlt),if_pos (aL hj)];unfold Xl;rw[hb]
  rfl
 have hHo:∀y,y<s.heap.objs.size+1→H' y=H y:=fun y hy=>by
  have hyD:y≠D:=by lia
  show(if y=D then _ else _)=_;rw[if_neg hyD];refine if_neg fun hm=>?_;obtain⟨j,hj⟩:=bJ hm;obtain⟨_,_,_,_,_,_,_,h1,_⟩:=at_ j y hj
  lia
 have up:∀b o,H b=some o→H' b=some o:=fun b o e=>by
  rw[hHo b (bQ (I.Ah b o e).lt)];exact e
 have Ah:CN X.prog X.w H' h':=fun y u e=>by
  by_cases hyD:y=D
  ·subst hyD;rw[hHD]at e;cases e;refine⟨?_,_,e1,?_,hD⟩
   ·show(ix.map _).length≤sizeLine;rw[List.length_map,ixl];exact hz
   ·exact Vals.pick (Ks as) ix fun i hi=>by rw[List.length_map,hal,hlen];exact ixm i hi
  ·by_cases hm:y∈as
   ·obtain⟨j,hj⟩:=bJ hm;obtain⟨b,c,t,h1,h2,h3,h4,_,_⟩:=at_ j y hj;rw[hHa j y b c hj h2]at e;cases e;exact⟨Sg,[.ref b,.ref c],.cons rfl (.cons rfl .nil),_,h2,rfl,_,rfl⟩
   ·have e':H y=some u:=by
     have:H' y=H y:=by
      show(if y=D then _ else _)=_;rw[if_neg hyD,if_neg hm]
     rw[this]at e;exact e
    exact(I.Ah y u e').Gq (fun b o _ z=>keep b o (aD _ z)) (fun b z=>up _ _ z) fun b xs z=>up _ _ z
 have I3:Inv X pins σ H' {s with heap:=h',toks:=tk}:=I.many (fun b u e=>keep b u (aD _ e)) (fun b hb=>hHo b (by lia)) Ah;refine⟨.ref D,H',I3,rfl,q D H' zs (ix.map fun i=>ts.getD i ([],[])) up (I.Ah.fresh (by lia)) hHD (VP _ ts (by rw[hts,←hlen];exact hp)) ?_ (by simp[zs]) fun j z t hz' ht=>?_⟩
 ·simpa using hs
 ·have hj:j<ix.length:=by
   have:=(aC.mp ht).1
   simpa using this
  have hix:ix[j]? = some ix[j]:=by simp[hj]
  have hi:=ixm ix[j] (ax hj);have k1:z=.ref (as[ix[j]]'(by rw[hal,hlen];exact hi)):=by
   have:zs[j]? = some ((as.map V.ref).getD ix[j] .BA):=by
    show(ix.map _)[j]? = _;rw[List.getElem?_map,hix];rfl
   rw[this]at hz';cases hz';simp[List.getD_eq_getElem?_getD,List.getElem?_map,show ix[j]<as.length by rw[hal,hlen];exact hi]
  have k2:t=ts[ix[j]]'(by rw[hts];exact hi):=by
   rw[List.getElem?_map,hix]at ht;simp[List.getD_eq_getElem?_getD,show ix[j]<ts.length by rw[hts];exact hi]at ht;exact ht.symm
  obtain⟨b,c,t',h1,h2,h3,h4,h5,h6⟩:=at_ ix[j] (as[ix[j]]'(by rw[hal,hlen];exact hi)) (aI _);have k3:t'=t:=by
   rw[k2];rw[List.getElem?_eq_getElem (by rw[hts];exact hi)]at h1;exact(aW h1).symm
  subst k3;exact⟨_,b,c,k1,I.Ah.fresh (by lia),hHa _ _ b c (aI _) h2,h3,h4⟩
def ZE(to:TE):TE:=fun σ H Q=>to σ H fun x H1=>XO H1 x Q
theorem WA{X:Cx}{o:Expr}{to:TE}{p pos apos cpos kp kp2:Pos}{j}(hc:X.calm=true)(hu:X.A.units+64<cLine)(hg:Gl X "sorted")(hm:X.mg "sorted" = none)(ho:PE X o to)
 (hbase:attributeBase o "items" X.env (eval o X.env)=eval o X.env:=by rfl)(hline:(apos.endLine==cpos.line)=true:=by rfl)
 (he:backTo pos (starEach [.Call (.Attribute o "items" apos) [] [] cpos] X.env)=(false,eval (.Call (.Attribute o "items" apos) [] [] cpos) X.env)::backTo pos (starEach [] X.env):=by rfl)(hplain:(backTo pos (starEach [.Call (.Attribute o "items" apos) [] [] cpos] X.env)).any (·.1)=false:=by rfl) :
  PE X (.Call (.Name "sorted" p) [.Call (.Attribute o "items" apos) [] [] cpos] [⟨some "reverse",.Constant (.bool true) j kp2,kp⟩] pos) (ZE to):=by
 intro pins s σ H Q I h;refine wpAny_Call_Name_kw (EX I hg hm boot_sorted ?_ (by decide) (by decide));refine callWith_kw ?_ he hplain;rw[he];refine Calls.spliced_cons (wpAny_Call_method0_late hbase hline (Av (ho pins s σ H _ I h) fun v s1 ⟨x,H1,I1,r1,q1⟩=>?_));obtain⟨a,es,ep,rfl,nd,rd,fin⟩:=UT I1 r1 hc hu q1;obtain⟨ob,e1,e2,e3⟩:=id rd;refine⟨"dict", "dict.items",PySem.F.plainAttrs_dict,PySem.F.slot_dict_items,PySem.F.type_dict_items,⟨ob,e1,e2.1⟩,fun b hb=>?_,Calls.callWith_builtin rfl (PySem.evalArgs_none ?_)⟩
 ·cases hb;exact⟨ob,e1,e2.2.1⟩
 refine call_meetsIn PySem.F.slot_dict_items ⟨ob,e1,e2.1⟩ PySem.F.entry_dict_items (PySem.F.args_dict_items_1 _) (Wh a nd) ⟨⟨es,ep,rd⟩,?_⟩;exact Calls.spliced_nil (kws_cons (Constant_bool (kws_nil fin)))
end L2
namespace IT
open PySem PySem.W PyProof.Rows PySem.SeqAt
section
open PySem.AutoSeq1 (wpAny_loadPart')
open PySem.MeetsSeq PySem.MeetsSeq2 PySem.MeetsSeq3
theorem V4(l b:Addr)(items items2:Array Value)(n n2:Nat)(dd dd2:Option Addr)(sl sl2:Array (Option Value))(t u:List Int) :
  Meets (Builtin.«tuple.__ge__» ⟨[.ref l,.ref b],[]⟩)
   (fun A R s=>s.heap.get? l=some { cls:=.type "tuple",dict:=dd,data:=.seq items n,slots:=sl}∧s.heap.get? b=some { cls:=.type "tuple",dict:=dd2,data:=.seq items2 n2,slots:=sl2} ∧
    Is t items.toList∧Is u items2.toList∧A.units<cLine∧R (.ok (.ret (.bool (!lt t u)))) s) :=
 .of_wp fun prog w A R s h=>by
  obtain⟨hp,g,d,tk,os⟩:=s;obtain⟨hl,hb,hi,hj,hun,h⟩:=h;have f2:=AutoSeq1.sub_tuple_tuple;have z1:items.size=t.length:=by rw[←Is.length hi];simp
  have z2:items2.size=u.length:=by rw[←Is.length hj];simp
  wp_walk using wpAny_loadPart' hl,wpAny_loadPart' hb,wpAny_forIn_list _ (fun rest b s'=>b.1=none∧s'=⟨hp,g,d,tk,os⟩∧∃(vs ws:List Value) (t' u':List Int),rest=vs.zip ws ∧
   Is t' vs∧Is u' ws∧t'.length+items2.size=u'.length+items.size∧R (.ok (.ret (.bool (!lt t' u')))) ⟨hp,g,d,tk,os⟩) _
  case turn =>
   rintro⟨y,x⟩ rest b s' ⟨hb',rfl,vs,ws,t',u',hz,hvi,hwi,hlen,hR⟩;cases t' with
   |nil=>rw[Is]at hvi;subst hvi;rw[List.zip_nil_left]at hz;cases hz
   |cons bt rt =>
    cases u' with
    |nil=>rw[Is]at hwi;subst hwi;rw[List.zip_nil_right]at hz;cases hz
    |cons bu ru =>
     rw[Is]at hvi hwi;obtain⟨a1,v1,rfl,p3⟩:=hvi;obtain⟨a2,v2,rfl,q3⟩:=hwi;rw[List.zip_cons_cons]at hz
     injection hz with hyx hrest
     injection hyx with hy hx
     subst hy hx;rw[lt]at hR;simp only[List.length_cons]at hlen;have he:=EqAt.int_int (A:=A.in1) (s:=⟨hp,g,d,tk,os⟩) bt a1 bu a2;refine aA (he prog w _ _ ?_);by_cases hc:bt=bu
     ·rw[if_pos hc]at hR;rw[beq_iff_eq.mpr hc]
      wp_walk
      exact⟨rfl,rfl,_,_,_,_,hrest,p3,q3,by lia,hR⟩
     ·rw[if_neg hc]at hR;rw[beq_eq_false_iff_ne.mpr hc];have hri:∀(E:Value→Shared→Prop) (Q:Value→Shared→Prop),Q (.bool (decide (bu≤bt))) ⟨hp,g,d,tk,os⟩→wpAny (model prog w) A.in1 (richCompare .GtE (.int bt a1) (.int bu a2)) Q E ⟨hp,g,d,tk,os⟩:=fun E Q h=>PyProof.Rows.ge_int h;have e:(!decide (bt<bu))=decide (bu≤bt):=by rw[Bool.eq_iff_iff];simp
      rw[e]at hR
      wp_walk using hri
      exact⟨_,rfl,by simpa using hR⟩
  case fin =>
   rintro⟨b1,b2⟩ s' ⟨hb',rfl,vs,ws,t',u',hz,hvi,hwi,hlen,hR⟩;simp only at hb';subst hb';have hv:lt t' u'=decide (items.size<items2.size):=by
    cases t' with
    |nil =>
     cases u' with
     |nil =>
      simp only[List.length_nil]at hlen;exact(bL (by lia)).symm
     |cons c q =>
      simp only[List.length_cons,List.length_nil]at hlen;exact(bP (by lia)).symm
    |cons bt rt =>
     cases u' with
     |nil =>
      simp only[List.length_cons,List.length_nil]at hlen;exact(bL (by lia)).symm
     |cons c q =>
      rw[Is]at hvi hwi;obtain⟨_,_,rfl,_⟩:=hvi;obtain⟨_,_,rfl,_⟩:=hwi;rw[List.zip_cons_cons]at hz;cases hz
   have e:(!decide (items.size<items2.size))=decide (items2.size≤items.size):=by rw[Bool.eq_iff_iff];simp
   rw[hv,e]at hR
   wp_walk
   exact⟨_,rfl,by simpa[Builtin.Tuple.tupleCompareSizes]using hR⟩
  case h =>
   exact⟨rfl,rfl,items.toList,items2.toList,t,u,rfl,hi,hj,by lia,h⟩
end
section
open PySem.MeetsSeq PySem.MeetsSeq2 PySem.MeetsSeq3
variable{prog:Program}{w:World}{A:Around}{E:Value→Shared→Prop}{s:Shared}{t u:List Int}{a b:Addr}{its its':List Value}
theorem dj{Q:Value→Shared→Prop}(h1:s.heap.IsTuple a its.toArray)(k1:Is t its)(h2:s.heap.IsTuple b its'.toArray)(k2:Is u its')(hu:A.units+1<cLine)(h:Q (.bool (!lt t u)) s):wpAny (model prog w) A (richCompare .GtE (.ref a) (.ref b)) Q E s:=by
 obtain⟨⟨cls,dd,data,sl⟩,ho,hc,n,hdt⟩:=id h1;obtain⟨⟨cls2,dd2,data2,sl2⟩,ho2,hc2,n2,hdt2⟩:=id h2;simp only at hc hdt hc2 hdt2;subst hc hdt hc2 hdt2;exact richCompare_meets_room (op:=.GtE) ⟨_,ho,rfl⟩ ⟨_,ho2,rfl⟩ PySem.F.slot_tuple_ge PySem.F.entry_tuple_ge (PySem.F.args_tuple_ge_2 _ _) (V4 a b its.toArray its'.toArray n n2 dd dd2 sl sl2 t u)
  ⟨ho,ho2,by simpa using k1,by simpa using k2,by lia,show Value.bool (!lt t u)≠Value.notImplemented∧Q (.bool (!lt t u)) s from⟨(fun x=>nomatch x),h⟩⟩ (by lia)
end
end IT
namespace L2
open PySem PySem.Spec PyProof.Rows
theorem b4{X:Cx}(hu:X.A.units+64<cLine):B9 X (compareOp .GtE) (fun x y H Q=>∃(a b:Addr) (ps qs:List Int),x=.ref a∧y=.ref b∧H a=some (.tup (ps.map V.int))∧H b=some (.tup (qs.map V.int))∧Q (.bl (!IT.lt ps qs)) H):=by
 intro pins s σ H x y v u' Q I rx ry h;obtain⟨a,b,ps,qs,rfl,rfl,ha,hb,q⟩:=h;cases rx;cases ry;obtain⟨i1,v1,p1,_⟩:=I.tuple (Ap.of (K:=X.K) ha);obtain⟨i2,v2,p2,_⟩:=I.tuple (Ap.of (K:=X.K) hb);exact IT.dj p1 (MI v1) p2 (MI v2) (by lia) ⟨.bl _,H,I,rfl,q⟩
end L2
namespace TH
open PySem PyProof.Rows PySem.SeqAt
def Tb:Tr→List Int
 |.nil=>[]
 |.cons b r=>reduceHash (Builtin.Tuple.tupleHashOf (Tb b))::Tb r
def dM(t:Tr):Int:=reduceHash (Builtin.Tuple.tupleHashOf (Tb t))
end TH
namespace TH
open PySem PyProof.Rows PySem.SeqAt
section
variable{h:Int}
theorem MR{n:Nat}(h:n≤100000):n≤sizeLine:=aR h (by rw[sizeLine_eq];decide)
end
end TH
namespace TH
open PySem PyProof.Rows PySem.SeqAt
section
variable{prog:Program}{w:World}{A:Around}{E:Value→Shared→Prop}{s:Shared}
theorem gather{T:String}{r d:Addr}{n:Nat}{P:Nat→Value→Prop}{OK:Heap→Prop}{R:List Value→Shared→Prop}(K:PySem.W.KdlSrc prog w T r d n P OK)(hA:A.handled=none)(Ah:OK s.heap)(hn:n≤sizeLine)
 (k:∀(h1:Heap) (tk:Nat) (acc:Array Value),s.heap.objs.size<h1.objs.size→(∀b u,s.heap.get? b=some u→h1.get? b=some u)→ItemsOf P acc n→R acc.toList {s with heap:=h1,toks:=tk}) :
  wpAny (model prog w) A (collect (.ref r)) R E s:=by
 obtain⟨lr,ld⟩:=K.there _ Ah;unfold collect;refine aA (wpAny_runValue (codeAny_builtin entry_proto_collect' ?_));rw[Around.under_plainId PySem.F.plain_proto_collect _];show wpAny _ A.in1 (newList []>>=fun v=>again (.builtin "list.__iadd__" ⟨[v,.ref r],[]⟩)) _ _ s;refine aA (aX (aB ⟨plainId_quiet PySem.F.plain_list_iadd _,codeAny_builtin entry_list_iadd' ?_⟩));rw[Around.under_plainId PySem.F.plain_list_iadd _];have g0:(s.heap.push { cls:=.type "list",data:=.seq ([]:List Value).toArray}).get? s.heap.objs.size=some { cls:=.type "list",data:=.seq #[]}:=aT _ rfl;have main:=PySem.W.kdl_extend (A:=A) (s:={s with heap:=s.heap.push { cls:=.type "list",data:=.seq ([]:List Value).toArray} }) K hA
  (K.keep _ _ Ah fun _ _ _ e=>aD _ e) s.heap.objs.size (aq lr) (aq ld) (.ref s.heap.objs.size) 0 g0
  (R:=fun q s1=>∃h1 tk acc c,q=.ok (.ret (.ref s.heap.objs.size))∧s1={s with heap:=h1,toks:=tk}∧(∀b u,s.heap.get? b=some u→h1.get? b=some u)∧h1.get? s.heap.objs.size=some { cls:=.type "list",dict:=none,data:=.seq acc c,slots:=#[]}∧ItemsOf P acc n)
  (fun h1 tk acc c k1 g1 ha=>⟨h1,tk,acc,c,rfl,rfl,fun b u e=>k1 b u (aN (aE e)) (aD _ e),g1,ha⟩) hn
 refine ab main (fun fin s1 x=>?_) fun e s1 x=>?_
 ·cases fin with
  |done f =>
   obtain⟨h1,tk,acc,c,e,rfl,k1,g1,ha⟩:=x;cases e;show wpAny _ A (load s.heap.objs.size>>=_) _ _ _;exact aA (wpAny_load g1 (aB (k h1 tk acc (aE g1) k1 ha)))
  |again c1 =>
   refine⟨x.1,codeAny_mono x.2 fun q s2 y=>?_⟩;obtain⟨h1,tk,acc,c,rfl,rfl,k1,g1,ha⟩:=y;show wpAny _ A (load s.heap.objs.size>>=_) _ _ _;exact aA (wpAny_load g1 (aB (k h1 tk acc (aE g1) k1 ha)))
 ·obtain⟨_,_,_,_,z,_⟩:=x;cases z
end
end TH
namespace TH
open PySem PyProof.Rows
def cZ:Option Tr→Int
 |none=>4238894112
 |some t=>dM t
abbrev KE:=Option Tr×Value×Value
def fB(x:KE):DictEntry:=⟨cZ x.1,x.2.1,x.2.2⟩
end TH
namespace L2
open PySem PySem.Spec PyProof.Rows
abbrev KR:=Option Tr×V×V
def et(q:KR)(x:TH.KE):Prop:=x.1=q.1∧RelV q.2.1 x.2.1∧RelV q.2.2 x.2.2
def dN(d:Addr)(r:List KR):HO:=.ext fun h=>(d==sysModules)=false∧∃o es ep xs,h.get? d=some o∧o.ExactDict∧o.data=.dict es ep∧es.toList=xs.map TH.fB∧PySem.Paired et r xs
def S4(H:Hp):Option Tr→V→Prop
 |none,v=>v=.BA
 |some t,v=>t.deep<8∧Tv H t v
theorem S4.same{H H':Hp}{k:Option Tr}{v:V}(h:S4 H k v)(e:AG H H'):S4 H' k v:=by
 cases k with
 |none=>exact h
 |some t=>exact⟨h.1,h.2.same e⟩
section
variable{X:Cx}
theorem IP(hc:X.calm=true):EE X (.builtin "sum") (fun xs H Q=>∃(p:Addr) (ns:List Int),xs=[.ref p]∧Ap X.K H p (ns.map V.int)∧Q (.int ns.sum) H):=by
 intro pins s σ H xs us Q I r h;obtain⟨p,ns,rfl,hq,q⟩:=h;obtain⟨u,rfl,r1⟩:=r.one;cases r1;obtain⟨its,rv,pl,hz⟩:=I.tuple hq;have hi:=intsAre_of rv;obtain⟨xs,hx⟩:=hi.allInts.items;have hl':s.heap.IsTuple p (intItems xs):=hx ▸ pl
 have hlt:p<s.heap.objs.size:=by obtain⟨_,e,_⟩:=hl';exact aE e
 have e1:ns=xs.toList.map (·.1):=by
  rw[←nums_intItems,←hx];exact(show numsOf its.toArray.toList=ns from hi.numsOf).symm
 have e2:preSum (numAt xs) xs.size=ns.sum:=by
  rw[preSum_eq,List.take_of_length_le (by simp),e1]
 refine call_sum_walkG (wpAny_pyIter_tuple hl' ?_);refine⟨_,[_,p],[_],_,_,_,numAt xs,rfl,Walks.tuple (A:=X.A.in1) (I.ok.hd hc) _ p (aN hlt) (intItems xs),
  ⟨⟨_,Heap.get?_push_size _ rfl,rfl,rfl⟩,hl'.push _⟩,fun c hcc=>?_,(fun _ _=>intItems_at),fun h' tk t' hk=>?_⟩
 ·show c<(s.heap.push _).objs.size;rw[Heap.size_push];rcases aS.mp hcc with rfl|hcc
  ·exact Nat.lt_succ_self _
  ·rw[List.mem_singleton.mp hcc];exact bQ hlt
 ·have e3:preSum (numAt xs) (intItems xs).size=ns.sum:=by
   rw[←e2];simp[intItems]
  rw[e3];exact⟨.int _,H,I.kept (t':=tk) (PyProof.Rows.LSm.kept_iter hk),⟨t',rfl⟩,q⟩
end
end L2
set_option maxHeartbeats 1000000
namespace L2
open PySem PySem.Spec PyProof.Rows
theorem Rd.same{H H':Hp}{a:Addr}{u:HO}(e:AG H H')(h:Rd H a u):Rd H' a u:=by
 rcases h with h|⟨o,h⟩
 ·exact .inl (e _ _ h)
 ·exact .inr ⟨o,e _ _ h⟩
def Aq:Tr→List PyData
 |.nil=>[]
 |.cons b r=>.tuple (Aq b)::Aq r
def cU:Option Tr→PyData
 |none=>.none
 |some t=>.tuple (Aq t)
mutual
def Du(H:Hp):PyData→V→Prop
 |.none,v=>v=.BA
 |.bool b,v=>v=.bl b
 |.int i,v=>v=.int i
 |.str x,v=>v=.str x
 |.tuple ds,v=>∃a xs,v=.ref a∧H a=some (.tup xs)∧An H ds xs
 |.list ds,v=>∃a xs,v=.ref a∧H a=some (.lst xs)∧An H ds xs
 |.dict kv,v=>(∃ea C:Addr,kv=[(.int (C:Nat),.none)]∧v=.ref ea∧H ea=some (fi ea (.ref C)))∨(∃(a:Addr) (ns:List Int),kv=[(.none,.list (ns.map .int))]∧v=.ref a∧Rd H a (.lst (ns.map V.int)))∨LL H kv v
def An(H:Hp):List PyData→List V→Prop
 |[],xs=>xs=[]
 |d::ds,xs=>∃x r,xs=x::r∧Du H d x∧An H ds r
def LL(H:Hp):List (PyData×PyData)→V→Prop
 |[],_=>False
 |(k0,d0)::t,v=>k0=.bool true∧d0=.none∧∃a r,v=.ref a∧H a=some (dN a r)∧(r.map (·.1)).Nodup∧Ji H t r
def Ji(H:Hp):List (PyData×PyData)→List KR→Prop
 |[],r=>r=[]
 |(k,d)::t,r=>∃q r',r=q::r'∧k=cU q.1∧S4 H q.1 q.2.1∧Du H d q.2.2∧Ji H t r'
end
mutual
theorem Du.same{H H':Hp}(e:AG H H'):∀ {d:PyData} {v:V},Du H d v→Du H' d v
 |.none,_,h=>by rw[Du]at h ⊢;exact h
 |.bool _,_,h=>by rw[Du]at h ⊢;exact h
 |.int _,_,h=>by rw[Du]at h ⊢;exact h
 |.str _,_,h=>by rw[Du]at h ⊢;exact h
 |.tuple _,_,h=>by
  rw[Du]at h ⊢;obtain⟨a,xs,e1,h1,h2⟩:=h;exact⟨a,xs,e1,e _ _ h1,An.same e h2⟩
 |.list _,_,h=>by
  rw[Du]at h ⊢;obtain⟨a,xs,e1,h1,h2⟩:=h;exact⟨a,xs,e1,e _ _ h1,An.same e h2⟩
 |.dict _,_,h=>by
  rw[Du]at h ⊢;rcases h with ⟨ea,C,e1,e2,h1⟩|⟨a,ns,e1,e2,h1⟩|h
  ·exact .inl ⟨ea,C,e1,e2,e _ _ h1⟩
  ·exact .inr (.inl ⟨a,ns,e1,e2,h1.same e⟩)
  ·exact .inr (.inr (LL.same e h))
theorem An.same{H H':Hp}(e:AG H H'):∀ {ds:List PyData} {xs:List V},An H ds xs→An H' ds xs
 |[],_,h=>by rw[An]at h ⊢;exact h
 |_::_,_,h=>by
  rw[An]at h ⊢;obtain⟨x,r,e1,h1,h2⟩:=h;exact⟨x,r,e1,Du.same e h1,An.same e h2⟩
theorem LL.same{H H':Hp}(e:AG H H'):∀ {kv:List (PyData×PyData)} {v:V},LL H kv v→LL H' kv v
 |[],_,h=>by rw[LL]at h;exact h.elim
 |(_,_)::_,_,h=>by
  rw[LL]at h ⊢;obtain⟨h1,h2,a,r,h3,h4,h5,h6⟩:=h;exact⟨h1,h2,a,r,h3,e _ _ h4,h5,Ji.same e h6⟩
theorem Ji.same{H H':Hp}(e:AG H H'):∀ {kv:List (PyData×PyData)} {r:List KR},Ji H kv r→Ji H' kv r
 |[],_,h=>by rw[Ji]at h ⊢;exact h
 |(_,_)::_,_,h=>by
  rw[Ji]at h ⊢;obtain⟨q,r',h1,h2,h3,h4,h5⟩:=h;exact⟨q,r',h1,h2,h3.same e,Du.same e h4,Ji.same e h5⟩
end
mutual
theorem Du.br{K:PySem.W.Frag}{H:Hp}:∀ {d:PyData} {v:V},d.canLay0=true→Du H d v→Br K H d v
 |.none,_,_,h=>by rw[Du]at h;rw[Br];exact h
 |.bool _,_,_,h=>by rw[Du]at h;rw[Br];exact h
 |.int _,_,_,h=>by rw[Du]at h;rw[Br];exact h
 |.str _,_,_,h=>by rw[Du]at h;rw[Br];exact h
 |.tuple _,_,c,h=>by
  rw[Du]at h;rw[Br];obtain⟨a,xs,e1,h1,h2⟩:=h;exact⟨a,xs,e1,Ap.of h1,An.br (by simp only[PyData.canLay0,Bool.and_eq_true]at c;first|exact c|exact c.2|exact c.1) h2⟩
 |.list _,_,c,h=>by
  rw[Du]at h;rw[Br];obtain⟨a,xs,e1,h1,h2⟩:=h;exact⟨a,xs,e1,AQ.of h1,An.br (by simp only[PyData.canLay0,Bool.and_eq_true]at c;first|exact c|exact c.2|exact c.1) h2⟩
 |.dict _,_,c,h=>by simp[PyData.canLay0]at c
theorem An.br{K:PySem.W.Frag}{H:Hp}:∀ {ds:List PyData} {xs:List V},PyData.canLayAll0 ds=true→An H ds xs→DH K H ds xs
 |[],_,_,h=>by rw[An]at h;rw[DH];exact h
 |_::_,_,c,h=>by
  rw[An]at h;rw[DH];obtain⟨x,r,e1,h1,h2⟩:=h;simp only[PyData.canLayAll0,Bool.and_eq_true]at c;exact⟨x,r,e1,Du.br c.1 h1,An.br c.2 h2⟩
end
theorem An.nil{H:Hp}:An H [] []:=by rw[An]
theorem An.cons{H:Hp}{d:PyData}{ds:List PyData}{x:V}{xs:List V}(h:Du H d x)(k:An H ds xs):An H (d::ds) (x::xs):=by rw[An];exact⟨x,xs,rfl,h,k⟩
theorem An.un{H:Hp}{d:PyData}{ds:List PyData}{xs:List V}(h:An H (d::ds) xs):∃x r,xs=x::r∧Du H d x∧An H ds r:=by rw[An]at h;exact h
theorem An.nil_eq{H:Hp}{xs:List V}(h:An H [] xs):xs=[]:=by rw[An]at h;exact h
theorem An.len{H:Hp}:∀ {ds:List PyData} {xs:List V},An H ds xs→xs.length=ds.length
 |[],_,h=>by rw[h.nil_eq];rfl
 |_::_,_,h=>by obtain⟨x,r,rfl,_,h2⟩:=h.un;simp[h2.len]
theorem An.get{H:Hp}:∀ {ds:List PyData} {xs:List V} {i:Nat} {d:PyData},An H ds xs→ds[i]? = some d→∃v,xs[i]? = some v∧Du H d v
 |[],_,i,_,_,e=>by simp at e
 |_::_,_,0,_,h,e=>by
  obtain⟨x,r,rfl,h1,_⟩:=h.un;simp at e;subst e;exact⟨x,rfl,h1⟩
 |_::_,_,i+1,_,h,e=>by
  obtain⟨x,r,rfl,_,h2⟩:=h.un;obtain⟨v,k1,k2⟩:=h2.get (i:=i) (by simpa using e);exact⟨v,by simpa using k1,k2⟩
theorem An.back{H:Hp}{ds:List PyData}{xs:List V}{i:Nat}{v:V}(h:An H ds xs)(e:xs[i]? = some v):∃d,ds[i]? = some d∧Du H d v:=by
 have hl:=h.len;have hi:i<ds.length:=by rw[←hl];exact(aC.mp e).1
 have hd:ds[i]? = some ds[i]:=by simp[hi]
 obtain⟨w,k1,k2⟩:=h.get hd;rw[e]at k1;cases k1;exact⟨_,hd,k2⟩
theorem An.app{H:Hp}:∀ {ds es:List PyData} {xs ys:List V},An H ds xs→An H es ys→An H (ds++es) (xs++ys)
 |[],_,_,_,h,k=>by rw[h.nil_eq];exact k
 |_::_,_,_,_,h,k=>by obtain⟨x,r,rfl,h1,h2⟩:=h.un;exact .cons h1 (h2.app k)
theorem An.take{H:Hp}:∀ {ds:List PyData} {xs:List V} (i:Nat),An H ds xs→An H (ds.take i) (xs.take i)
 |_,_,0,_=>by rw[List.take_zero,List.take_zero];exact .nil
 |[],_,i+1,h=>by rw[h.nil_eq];exact .nil
 |_::_,_,i+1,h=>by obtain⟨x,r,rfl,h1,h2⟩:=h.un;exact .cons h1 (h2.take i)
theorem An.drop{H:Hp}:∀ {ds:List PyData} {xs:List V} (i:Nat),An H ds xs→An H (ds.drop i) (xs.drop i)
 |_,_,0,h=>h
 |[],_,i+1,h=>by rw[h.nil_eq];exact .nil
 |_::_,_,i+1,h=>by obtain⟨x,r,rfl,h1,h2⟩:=h.un;exact h2.drop i
inductive Oc where
 |lst (xs:List PyData)|IG (kvs:List (List Key×PyData))|UN (kvs:List (Option Tr×PyData))
inductive L where
 |no|d (x:PyData)|own (c:Oc)
abbrev Dv:=List L
def Gp(G:Hp):List (List Key×PyData)→List (List Key×V)→Prop
 |[],r=>r=[]
 |q::t,r=>∃v r',r=(q.1,v)::r'∧Du G q.2 v∧Gp G t r'
theorem Gp.same{G G':Hp}(e:AG G G'):∀ {t:List (List Key×PyData)} {r:List (List Key×V)},Gp G t r→Gp G' t r
 |[],r,h=>h
 |q::t,r,h=>by
  obtain⟨v,r',rfl,h1,h2⟩:=h;exact⟨v,r',rfl,h1.same e,Gp.same e h2⟩
abbrev XX(kvs:List (Option Tr×PyData)):List (PyData×PyData):=kvs.map fun q=>(cU q.1,q.2)
abbrev cg(kvs:List (Option Tr×PyData)):PyData:=.dict ((.bool true,.none)::XX kvs)
def Kj(G:Hp)(a:Addr):Oc→HO→Prop
 |.lst xs,o=>∃ys,o=.lst ys∧An G xs ys
 |.IG kvs,o=>∃r,o=.dT r∧Gp G kvs r
 |.UN kvs,o=>∃r,o=dN a r∧(r.map (·.1)).Nodup∧Ji G (XX kvs) r
theorem Kj.same{G G':Hp}{a:Addr}{c:Oc}{o:HO}(h:Kj G a c o)(e:AG G G'):Kj G' a c o:=by
 cases c with
 |UN kvs=>obtain⟨r,h1,h2,h3⟩:=h;exact⟨r,h1,h2,Ji.same e h3⟩
 |lst xs=>obtain⟨ys,h1,h2⟩:=h;exact⟨ys,h1,h2.same e⟩
 |IG kvs=>obtain⟨ys,h1,h2⟩:=h;exact⟨ys,h1,h2.same e⟩
theorem Kj.Tq{G:Hp}{a:Addr}{c:Oc}{xs:List V}(h:Kj G a c (.tup xs)):False:=by
 cases c with
 |UN kvs=>obtain⟨r,h1,h2,h3⟩:=h;unfold dN at h1;cases h1
 |lst xs=>obtain⟨ys,h1,h2⟩:=h;cases h1
 |IG kvs=>obtain⟨ys,h1,h2⟩:=h;cases h1
def Nw(G0 H0 G:Hp):Prop:=∀a o,G a=some o→G0 a=some o∨H0 a=none∨∃xs,o=HO.tup xs
structure Rw(G0 H0 G H:Hp)(σ:St)(δ:Dv)(ts:List (PyData×V)):Prop where
 ext:AG G0 G
 new:Nw G0 H0 G
 ins:AG G H
 keep:AG H0 H
 len:σ.length=δ.length
 dat:∀(i:Nat) (x:PyData),δ[i]? = some (L.d x)→∃v,σ[i]? = some (some v)∧Du G x v
 own:∀(i:Nat) (xs:Oc),δ[i]? = some (L.own xs)→∃(a:Addr) (ys:HO),σ[i]? = some (some (V.ref a))∧G a=none∧H0 a=none∧H a=some ys∧Kj G a xs ys
 apart:∀(i j:Nat) (xs ys:Oc),i≠j→δ[i]? = some (L.own xs)→δ[j]? = some (L.own ys)→σ[i]?≠σ[j]?
 Bq:∀p∈ts,Du G p.1 p.2
def DE(X:Cx)(e:Expr)(f:Dv→Option PyData):Prop:=∃t,PE X e t∧∀δ x,f δ=some x→∀G0 H0 G H σ ts (Q:VK),Rw G0 H0 G H σ δ ts→(∀v G' H',Rw G0 H0 G' H' σ δ ((x,v)::ts)→Q v H')→t σ H Q
def DA(X:Cx)(es:List Expr)(f:Dv→Option (List PyData)):Prop:=∃t,PA X es t∧∀δ xs,f δ=some xs→∀G0 H0 G H σ ts (Q:List V→Hp→Prop),Rw G0 H0 G H σ δ ts→(∀vs G' H',Rw G0 H0 G' H' σ δ (xs.zip vs++ts)→vs.length=xs.length→Q vs H')→t σ H Q
def DT(X:Cx)(e:Expr)(f:Dv→Option Bool):Prop:=∃t,PT X e t∧∀δ b,f δ=some b→∀G0 H0 G H σ ts (Q:Bool→Hp→Prop),Rw G0 H0 G H σ δ ts→(∀G' H',Rw G0 H0 G' H' σ δ ts→Q b H')→t σ H Q
section
variable{G0 H0 G H:Hp}{σ:St}{δ:Dv}{ts:List (PyData×V)}
theorem Rw.drop{p:PyData×V}(r:Rw G0 H0 G H σ δ (p::ts)):Rw G0 H0 G H σ δ ts:={r with Bq:=fun q hq=>r.Bq q (.tail _ hq)}
theorem Rw.less{us:List (PyData×V)}(r:Rw G0 H0 G H σ δ ts)(h:∀p∈us,p∈ts):Rw G0 H0 G H σ δ us:={r with Bq:=fun q hq=>r.Bq q (h q hq)}
theorem Rw.put{x:PyData}{v:V}(r:Rw G0 H0 G H σ δ ts)(h:Du G x v):Rw G0 H0 G H σ δ ((x,v)::ts):={r with Bq:=fun q hq=>by rcases aS.mp hq with rfl|hq;exact h;exact r.Bq q hq}
theorem Rw.newObj{p:Addr}{o:HO}(r:Rw G0 H0 G H σ δ ts)(hp:H p=none):Rw G0 H0 (upd G p o) (upd H p o) σ δ ts:=by
 have hG:G p=none:=by
  cases q:G p with
  |none=>rfl
  |some u=>rw[r.ins _ _ q]at hp;cases hp
 have h0:H0 p=none:=by
  cases q:H0 p with
  |none=>rfl
  |some u=>rw[r.keep _ _ q]at hp;cases hp
 have e:AG G (upd G p o):=AN hG o;refine⟨r.ext.trans e,fun a u h=>?_,fun a u h=>?_,r.keep.trans (AN hp o),r.len,fun i x h=>?_,fun i xs h=>?_,r.apart,fun q hq=>(r.Bq q hq).same e⟩
 ·by_cases ha:a=p
  ·subst ha;exact .inr (.inl h0)
  ·rw[AE ha]at h;exact r.new _ _ h
 ·by_cases ha:a=p
  ·subst ha;rw[AI]at h ⊢;exact h
  ·rw[AE ha]at h ⊢;exact r.ins _ _ h
 ·obtain⟨v,k1,k2⟩:=r.dat i x h;exact⟨v,k1,k2.same e⟩
 ·obtain⟨a,ys,k1,k2,k3,k4,k5⟩:=r.own i xs h;have ha:a≠p:=fun z=>by subst z;rw[k4]at hp;cases hp
  exact⟨a,ys,k1,by rw[AE ha];exact k2,k3,by rw[AE ha];exact k4,k5.same e⟩
theorem Rw.Y9{p:Addr}{xs:List V}{H':Hp}(r:Rw G0 H0 G H σ δ ts)(e:AG H H')(hp:H' p=some (.tup xs)):Rw G0 H0 (upd G p (.tup xs)) H' σ δ ts:=by
 have e1:AG G (upd G p (.tup xs)):=fun a o h=>by
  by_cases ha:a=p
  ·subst ha;have:=e _ _ (r.ins _ _ h);rw[hp]at this;rw[AI];exact this
  ·rw[AE ha];exact h
 refine⟨r.ext.trans e1,fun a u h=>?_,fun a u h=>?_,r.keep.trans e,r.len,fun i x h=>?_,fun i xs h=>?_,r.apart,fun q hq=>(r.Bq q hq).same e1⟩
 ·by_cases ha:a=p
  ·subst ha;rw[AI]at h;cases h;exact .inr (.inr ⟨_,rfl⟩)
  ·rw[AE ha]at h;exact r.new _ _ h
 ·by_cases ha:a=p
  ·subst ha;rw[AI]at h;rw[hp];exact h
  ·rw[AE ha]at h;exact e _ _ (r.ins _ _ h)
 ·obtain⟨v,k1,k2⟩:=r.dat i x h;exact⟨v,k1,k2.same e1⟩
 ·obtain⟨a,ys,k1,k2,k3,k4,k5⟩:=r.own i xs h;have ha:a≠p:=fun z=>by subst z;rw[e _ _ k4]at hp;cases hp;exact k5.Tq
  exact⟨a,ys,k1,by rw[AE ha];exact k2,k3,e _ _ k4,k5.same e1⟩
theorem Rw.lift{G' H':Hp}(r:Rw G0 H0 G H σ δ ts)(h1:AG G G')(h2:Nw G H G')(h3:AG G' H')(h4:AG H H'):Rw G0 H0 G' H' σ δ ts:=by
 refine⟨r.ext.trans h1,fun a o h=>?_,h3,r.keep.trans h4,r.len,fun i x h=>?_,fun i xs h=>?_,r.apart,fun q hq=>(r.Bq q hq).same h1⟩
 ·rcases h2 a o h with k|k|k
  ·exact r.new a o k
  ·right;left
   cases q:H0 a with
   |none=>rfl
   |some u=>rw[r.keep _ _ q]at k;cases k
  ·exact .inr (.inr k)
 ·obtain⟨v,k1,k2⟩:=r.dat i x h;exact⟨v,k1,k2.same h1⟩
 ·obtain⟨a,ys,k1,k2,k3,k4,k5⟩:=r.own i xs h;refine⟨a,ys,k1,?_,k3,h4 _ _ k4,k5.same h1⟩;cases q:G' a with
  |none=>rfl
  |some u =>
   rcases h2 a u q with z|z|⟨xs',z⟩
   ·rw[k2]at z;cases z
   ·rw[k4]at z;cases z
   ·have:=h3 _ _ q;rw[h4 _ _ k4,z]at this;cases this;exact k5.Tq.elim
end
section
variable{X:Cx}{a b e:Expr}{f g h:Dv→Option PyData}{pos:Pos}
theorem A0{i j pos}:DE X (.Constant (.int i) j pos) (fun _=>some (.int i)):=⟨_,AH,fun δ x h G0 H0 G H σ ts Q r k=>by cases h;exact k _ _ _ (r.put (by rw[Du]))⟩
theorem Kx{i j pos}:DE X (.Constant (.bool i) j pos) (fun _=>some (.bool i)):=⟨_,CL,fun δ x h G0 H0 G H σ ts Q r k=>by cases h;exact k _ _ _ (r.put (by rw[Du]))⟩
def nm(i:Nat)(δ:Dv):Option PyData:=match δ[i]? with|some (.d x)=>some x|_=>none
theorem cu{i:Nat}{δ:Dv}{x:PyData}(h:nm i δ=some x):δ[i]? = some (.d x):=by
 unfold nm at h;split at h
 ·rename_i y e;cases h;exact e
 ·cases h
theorem AU{i:Nat}{x:Str}(h:PE X (.Name x pos) (NI i)):DE X (.Name x pos) (nm i):=⟨_,h,fun δ y hy G0 H0 G H σ ts Q r k=>by
 obtain⟨v,h1,h2⟩:=r.dat _ _ (cu hy);exact⟨v,h1,k _ _ _ (r.put h2)⟩⟩
def Az(o:PyData→PyData→Option PyData)(f g:Dv→Option PyData)(δ:Dv):Option PyData:=(f δ).bind fun x=>(g δ).bind fun y=>o x y
def EM(X:Cx)(m:Value→Value→Sem Value)(o:PyData→PyData→Option PyData):Prop:=∃r:R2,B9 X m r∧∀x y z,o x y=some z→∀G0 H0 G H σ δ ts u v (Q:VK),Rw G0 H0 G H σ δ ts→Du G x u→Du G y v→(∀w G' H',Rw G0 H0 G' H' σ δ ((z,w)::ts)→Q w H')→r u v H Q
theorem two{x y:PyData}{f g:Dv→Option PyData}{δ:Dv}{o:PyData→PyData→Option PyData}{z:PyData}(h:Az o f g δ=some z):∃x y,f δ=some x∧g δ=some y∧o x y=some z:=by
 unfold Az at h;obtain⟨x,h1,h2⟩:=aF.mp h;obtain⟨y,h3,h4⟩:=aF.mp h2;exact⟨x,y,h1,h3,h4⟩
theorem Cp{op:Operator}{o:PyData→PyData→Option PyData}(ho:EM X (binaryOp op) o)(ha:DE X a f)(hb:DE X b g):DE X (.BinOp a op b pos) (Az o f g):=by
 obtain⟨r,hr,kr⟩:=ho;obtain⟨ta,pa,ka⟩:=ha;obtain⟨tb,pb,kb⟩:=hb;refine⟨_,Ab hr pa pb,fun δ z hz G0 H0 G H σ ts Q R0 k=>?_⟩;obtain⟨x,y,h1,h2,h3⟩:=two (x:=.none) (y:=.none) hz;refine ka δ x h1 G0 H0 G H σ ts _ R0 fun u G1 H1 R1=>?_;refine kb δ y h2 G0 H0 G1 H1 σ _ _ R1 fun v G2 H2 R2=>?_;exact kr x y z h3 G0 H0 G2 H2 σ δ ts u v Q (R2.drop.drop) (R2.Bq (x,u) (.tail _ (.head _))) (R2.Bq (y,v) (.head _)) k
theorem ZU{op:CmpOp}{o:PyData→PyData→Option PyData}(ho:EM X (compareOp op) o)(ha:DE X a f)(hb:DE X b g)(hm:behindInMarks op b=false):DE X (.Compare a [op] [b] pos) (Az o f g):=by
 obtain⟨r,hr,kr⟩:=ho;obtain⟨ta,pa,ka⟩:=ha;obtain⟨tb,pb,kb⟩:=hb;refine⟨_,F4 hr pa pb hm,fun δ z hz G0 H0 G H σ ts Q R0 k=>?_⟩;obtain⟨x,y,h1,h2,h3⟩:=two (x:=.none) (y:=.none) hz;refine ka δ x h1 G0 H0 G H σ ts _ R0 fun u G1 H1 R1=>?_;refine kb δ y h2 G0 H0 G1 H1 σ _ _ R1 fun v G2 H2 R2=>?_;exact kr x y z h3 G0 H0 G2 H2 σ δ ts u v Q (R2.drop.drop) (R2.Bq (x,u) (.tail _ (.head _))) (R2.Bq (y,v) (.head _)) k
end
section
variable{X:Cx}
def MO(o o':PyData→PyData→Option PyData)(x y:PyData):Option PyData:=match o x y with|some z=>some z|none=>o' x y
theorem EM.or{m:Value→Value→Sem Value}{o o':PyData→PyData→Option PyData}(h:EM X m o)(h':EM X m o'):EM X m (MO o o'):=by
 obtain⟨r,hr,kr⟩:=h;obtain⟨r',hr',kr'⟩:=h';refine⟨_,B9.or hr hr',fun x y z hz G0 H0 G H σ δ ts u v Q R0 du dv k=>?_⟩;unfold MO at hz;split at hz
 ·rename_i z' e;cases hz;exact .inl (kr x y z e G0 H0 G H σ δ ts u v Q R0 du dv k)
 ·exact .inr (kr' x y z hz G0 H0 G H σ δ ts u v Q R0 du dv k)
theorem NO{m:Value→Value→Sem Value}{C:Int→Int→Prop}{gv:Int→Int→V}{o:Int→Int→Option PyData}(ho:B9 X m (rI C gv))(hC:∀i j z,o i j=some z→C i j∧∀H,Du H z (gv i j)) :
  EM X m (fun x y=>match x,y with|.int i,.int j=>o i j|_,_=>none):=by
 refine⟨_,ho,fun x y z hz G0 H0 G H σ δ ts u v Q R0 du dv k=>?_⟩;dsimp only at hz;split at hz
 ·rename_i i j;rw[Du]at du dv;obtain⟨h1,h2⟩:=hC i j z hz;exact⟨i,j,du,dv,h1,k _ _ _ (R0.put (h2 _))⟩
 ·cases hz
theorem Q4{m:Value→Value→Sem Value}{gv:Int→Int→V}{o:Int→Int→PyData}(ho:B9 X m (OW gv))(hC:∀i j H,Du H (o i j) (gv i j)) :
  EM X m (fun x y=>match x,y with|.int i,.int j=>some (o i j)|_,_=>none):=by
 refine⟨_,ho,fun x y z hz G0 H0 G H σ δ ts u v Q R0 du dv k=>?_⟩;dsimp only at hz;split at hz
 ·rename_i i j;cases hz;rw[Du]at du dv;exact⟨i,j,du,dv,k _ _ _ (R0.put (hC _ _ _))⟩
 ·cases hz
def F6:Nat:=1000
theorem So{n:Nat}(h:n≤F6):n<sizeLine:=Nu h
theorem F5{n:Nat}(h:n≤F6):n≤sizeLine:=bV (Nu h)
def Za:PyData→PyData→Option PyData:=fun x y=>match x,y with|.int i,.int j=>some (.int (i+j))|_,_=>none
def P8:PyData→PyData→Option PyData:=fun x y=>match x,y with|.int i,.int j=>some (.int (i-j))|_,_=>none
def Kd(n:Nat)(i:Int):Bool:=decide (i.natAbs<2^n)
def MT(i j:Int):Bool:=Kd 64 i||Kd 64 j||(Kd 9000 i&&Kd 9000 j)
def S5:PyData→PyData→Option PyData:=fun x y=>match x,y with|.int i,.int j=>(if MT i j=true then some (.int (i*j)) else none)|_,_=>none
def Tx:PyData→PyData→Option PyData:=fun x y=>match x,y with|.int i,.int j=>(if j≠0∧Kd 9000 j=true then some (.int (i.fdiv j)) else none)|_,_=>none
def TR:PyData→PyData→Option PyData:=fun x y=>match x,y with|.int i,.int j=>(if j≠0 then some (.int (i.fmod j)) else none)|_,_=>none
theorem Yb:EM X (binaryOp .Add) Za:=Q4 CU fun _ _ _=>by rw[Du]
theorem Rr:EM X (binaryOp .Sub) P8:=Q4 EW fun _ _ _=>by rw[Du]
theorem Xp{i:Int}(h:Kd 64 i=true):-(2^64)<i∧i<2^64:=by
 have:=aj h
 lia
theorem YY:EM X (binaryOp .Mult) S5:=NO (o:=fun i j=>if MT i j=true then some (.int (i*j)) else none) BS fun i j z h=>by
 split at h
 ·rename_i q;cases h;refine⟨?_,fun _=>by rw[Du]⟩;unfold MT at q;rw[Bool.or_eq_true,Bool.or_eq_true,Bool.and_eq_true]at q;rcases q with (q|q)|q
  ·exact .inl (.inl (Xp q))
  ·exact .inl (.inr (Xp q))
  ·exact .inr ⟨9000,by decide,of_decide_eq_true q.1,of_decide_eq_true q.2⟩
 ·cases h
theorem X5:EM X (binaryOp .FloorDiv) Tx:=NO (o:=fun i j=>if j≠0∧Kd 9000 j=true then some (.int (i.fdiv j)) else none) C9 fun i j z h=>by
 split at h
 ·rename_i q;cases h;exact⟨⟨q.1,9000,Nat.le_refl _,of_decide_eq_true q.2⟩,fun _=>by rw[Du]⟩
 ·cases h
theorem YX:EM X (binaryOp .Mod) TR:=NO (o:=fun i j=>if j≠0 then some (.int (i.fmod j)) else none) K3 fun i j z h=>by
 split at h
 ·rename_i q;cases h;exact⟨q,fun _=>by rw[Du]⟩
 ·cases h
def QT:PyData→PyData→Option PyData:=fun x y=>match x,y with|.list a,.list b=>(if a.length+b.length≤F6 then some (.list (a++b)) else none)|_,_=>none
theorem X0:EM X (binaryOp .Add) QT:=by
 refine⟨_,Px,fun x y z hz G0 H0 G H σ δ ts u v Q R0 du dv k=>?_⟩;unfold QT at hz;split at hz
 ·rename_i a b;split at hz
  ·rename_i hl;cases hz;rw[Du]at du dv;obtain⟨p,xs,rfl,h1,h2⟩:=du;obtain⟨q,ys,rfl,h3,h4⟩:=dv;refine⟨p,q,xs,ys,rfl,rfl,R0.ins _ _ h1,R0.ins _ _ h3,F5 (by rw[h2.len,h4.len];exact hl),fun l hl'=>?_⟩;have R1:=R0.newObj (o:=.lst (xs++ys)) hl';refine k _ _ _ (R1.put ?_);rw[Du];have e:AG G (upd G l (.lst (xs++ys))):=fun a o h=>by
    have:=R0.ins _ _ h;rw[AE (AK this hl')];exact h
   exact⟨l,xs++ys,rfl,AI,(h2.same e).app (h4.same e)⟩
  ·cases hz
 ·cases hz
def Tn:PyData→PyData→Option PyData:=fun x y=>match x,y with|.tuple a,.tuple b=>(if a.length+b.length≤F6 then some (.tuple (a++b)) else none)|_,_=>none
theorem Xs:EM X (binaryOp .Add) Tn:=by
 refine⟨_,NX,fun x y z hz G0 H0 G H σ δ ts u v Q R0 du dv k=>?_⟩;unfold Tn at hz;split at hz
 ·rename_i a b;split at hz
  ·rename_i hl;cases hz;rw[Du]at du dv;obtain⟨p,xs,rfl,h1,h2⟩:=du;obtain⟨q,ys,rfl,h3,h4⟩:=dv;refine⟨p,q,xs,ys,rfl,rfl,R0.ins _ _ h1,R0.ins _ _ h3,F5 (by rw[h2.len,h4.len];exact hl),fun l H' e hp=>?_⟩;have R1:=R0.Y9 e hp;refine k _ _ _ (R1.put ?_);rw[Du];have e1:AG G (upd G l (.tup (xs++ys))):=fun a o h=>by
    by_cases ha:a=l
    ·subst ha;have:=e _ _ (R0.ins _ _ h);rw[hp]at this;rw[AI];exact this
    ·rw[AE ha];exact h
   exact⟨l,xs++ys,rfl,AI,(h2.same e1).app (h4.same e1)⟩
  ·cases hz
 ·cases hz
def Wl:PyData→PyData→Option PyData:=fun x y=>match x,y with|.str a,.str b=>(if a.length+b.length≤F6 then some (.str (a++b)) else none)|_,_=>none
theorem YA:EM X (binaryOp .Add) Wl:=by
 refine⟨_,TL,fun x y z hz G0 H0 G H σ δ ts u v Q R0 du dv k=>?_⟩;unfold Wl at hz;split at hz
 ·rename_i a b;split at hz
  ·rename_i hl;cases hz;rw[Du]at du dv;exact⟨a,b,du,dv,F5 hl,k _ _ _ (R0.put (by rw[Du]))⟩
  ·cases hz
 ·cases hz
def C8:PyData→PyData→Option PyData:=MO Za (MO QT (MO Tn Wl))
theorem FP:EM X (binaryOp .Add) C8:=Yb.or (X0.or (Xs.or YA))
def Tw:PyData→PyData→Option PyData:=fun x y=>match x,y with|.list a,.int k=>(if a.length*k.toNat≤F6∧-1000000≤k∧k≤1000000 then some (.list (List.replicate k.toNat a).flatten) else none)|_,_=>none
theorem An.rep{H:Hp}{ds:List PyData}{xs:List V}(h:An H ds xs):∀n,An H (List.replicate n ds).flatten (List.replicate n xs).flatten
 |0=>.nil
 |n+1=>by rw[List.replicate_succ,List.replicate_succ,List.flatten_cons,List.flatten_cons];exact h.app (h.rep n)
theorem Yo:EM X (binaryOp .Mult) Tw:=by
 refine⟨_,Zb,fun x y z hz G0 H0 G H σ δ ts u v Q R0 du dv k=>?_⟩;unfold Tw at hz;split at hz
 ·rename_i a n;split at hz
  ·rename_i hl;cases hz;rw[Du]at du;rw[Du]at dv;obtain⟨p,xs,rfl,h1,h2⟩:=du;subst dv;refine⟨p,n,xs,rfl,rfl,R0.ins _ _ h1,by lia,by lia,F5 (by rw[h2.len];exact hl.1),fun l hl'=>?_⟩;have R1:=R0.newObj (o:=.lst (List.replicate n.toNat xs).flatten) hl';refine k _ _ _ (R1.put ?_);rw[Du];have e:AG G (upd G l (.lst (List.replicate n.toNat xs).flatten)):=fun a o h=>by
    have:=R0.ins _ _ h;rw[AE (AK this hl')];exact h
   exact⟨l,_,rfl,AI,(h2.same e).rep _⟩
  ·cases hz
 ·cases hz
def Kc:PyData→PyData→Option PyData:=MO S5 Tw
theorem KW:EM X (binaryOp .Mult) Kc:=YY.or Yo
theorem OL{d:PyData}(h:SeqAt.shaped d=true):d.canLay0=true:=by unfold SeqAt.shaped at h;rw[Bool.and_eq_true]at h;exact h.1
def Jl(neg:Bool):PyData→PyData→Option PyData:=fun x y=>if SeqAt.shaped x=true∧SeqAt.shaped y=true then some (.bool (if neg then !PyData.eqv x y else PyData.eqv x y)) else none
theorem UP{m:Value→Value→Sem Value}{neg:Bool}(ho:B9 X m (XB X.K neg)):EM X m (Jl neg):=by
 refine⟨_,ho,fun x y z hz G0 H0 G H σ δ ts u v Q R0 du dv k=>?_⟩;unfold Jl at hz;split at hz
 ·rename_i hs;cases hz;exact⟨x,y,(du.same R0.ins).br (OL hs.1),(dv.same R0.ins).br (OL hs.2),hs.1,hs.2,k _ _ _ (R0.put (by rw[Du]))⟩
 ·cases hz
theorem eB(hu:X.A.units+64<cLine):EM X (compareOp .Eq) (Jl false):=UP (Zi hu)
theorem Mn(hu:X.A.units+64<cLine):EM X (compareOp .NotEq) (Jl true):=UP (QP hu)
end
section
variable{X:Cx}{a b c e:Expr}{es:List Expr}{f g h:Dv→Option PyData}{pos p:Pos}
def OC:PyData→Option Bool
 |.bool b=>some b
 |_=>none
def QR:PyData→Option Int
 |.int b=>some b
 |_=>none
theorem VX{x:PyData}{b:Bool}(h:OC x=some b):x=.bool b:=by
 unfold OC at h;split at h
 ·cases h;rfl
 ·cases h
theorem PJ{x:PyData}{b:Int}(h:QR x=some b):x=.int b:=by
 unfold QR at h;split at h
 ·cases h;rfl
 ·cases h
variable{fa fb:Dv→Option Bool}
def DW(X:Cx)(e:Expr)(f:Dv→Option Bool):Prop:=∃t,PW X e t∧∀δ b,f δ=some b→∀G0 H0 G H σ ts (Q:Bool→Hp→Prop),Rw G0 H0 G H σ δ ts→(∀G' H',Rw G0 H0 G' H' σ δ ts→Q b H')→t σ H Q
theorem DW.dt(h:DW X e fa):DT X e fa:=let⟨t,p,k⟩:=h;⟨t,p.pt,k⟩
theorem J0{op:CmpOp}{o:PyData→PyData→Option PyData}(ho:EM X (compareOp op) o)(ha:DE X a f)(hb:DE X b g)(hm:behindInMarks op b=false):DT X (.Compare a [op] [b] pos) (fun δ=>(Az o f g δ).bind OC):=by
 obtain⟨r,hr,kr⟩:=ho;obtain⟨ta,pa,ka⟩:=ha;obtain⟨tb,pb,kb⟩:=hb;refine⟨_,Au hr pa pb hm,fun δ z hz G0 H0 G H σ ts Q R0 k=>?_⟩;obtain⟨q,h0,h4⟩:=aF.mp hz;have:=VX h4;subst this;obtain⟨x,y,h1,h2,h3⟩:=two (x:=.none) (y:=.none) h0;refine ka δ x h1 G0 H0 G H σ ts _ R0 fun u G1 H1 R1=>?_;refine kb δ y h2 G0 H0 G1 H1 σ _ _ R1 fun v G2 H2 R2=>?_;refine kr x y _ h3 G0 H0 G2 H2 σ δ ts u v _ (R2.drop.drop) (R2.Bq (x,u) (.tail _ (.head _))) (R2.Bq (y,v) (.head _)) fun w G3 H3 R3=>?_;have hu:=R3.Bq _ (.head _);rw[Du]at hu;exact⟨z,hu,k _ _ R3.drop⟩
theorem QL(ha : DE X e f)(he : ∀ whole,isTrue e X.env whole = (do let v ← whole; standAt e.pos; holding [v] (truthy v)) := by intro _; rfl) : DT X e (fun δ => (f δ).bind OC) := by
  obtain ⟨ta,pa,ka⟩:=ha
  refine ⟨_,Bx pa he,fun δ z hz G0 H0 G H σ ts Q R0 k => ?_⟩
  obtain ⟨q,h0,h4⟩:=aF.mp hz
  have:=VX h4; subst this
  refine ka δ _ h0 G0 H0 G H σ ts _ R0 fun u G1 H1 R1 => ?_
  have hu:=R1.Bq _ (.head _)
  rw [Du] at hu
  exact ⟨z,hu,k _ _ R1.drop⟩
theorem Po(ha:DT X a fa):DT X (.UnaryOp .Not a pos) (fun δ=>(fa δ).map fun c=>!c):=by
 obtain⟨ta,pa,ka⟩:=ha;refine⟨_,CI pa,fun δ z hz G0 H0 G H σ ts Q R0 k=>?_⟩;obtain⟨i,h3,rfl⟩:=aH.mp hz;exact ka δ _ h3 G0 H0 G H σ ts _ R0 fun G1 H1 R1=>k _ _ R1
theorem Ue{op:BoolOp}(ha:DT X a fa):DW X (.BoolOp op [a] pos) fa:=by
 obtain⟨ta,pa,ka⟩:=ha;cases op
 ·exact⟨_,SX pa,ka⟩
 ·exact⟨_,DM pa,ka⟩
theorem TB{rest:List Expr}(ha:DT X a fa)(hb:DW X (.BoolOp .Or (b::rest) pos) fb):DW X (.BoolOp .Or (a::b::rest) pos) (fun δ=>(fa δ).bind fun c=>if c=true then some true else fb δ):=by
 obtain⟨ta,pa,ka⟩:=ha;obtain⟨tb,pb,kb⟩:=hb;refine⟨_,EI pa pb,fun δ z hz G0 H0 G H σ ts Q R0 k=>?_⟩;obtain⟨i,h3,h4⟩:=aF.mp hz;refine ka δ _ h3 G0 H0 G H σ ts _ R0 fun G1 H1 R1=>?_;split
 ·rename_i hc;rw[if_pos hc]at h4;cases h4;exact k _ _ R1
 ·rename_i hc;rw[if_neg hc]at h4;exact kb δ z h4 G0 H0 G1 H1 σ ts Q R1 k
variable{fs:Dv→Option (List PyData)}
theorem A4:DA X [] (fun _=>some []):=⟨_,AD,fun δ xs h G0 H0 G H σ ts Q R0 k=>by cases h;exact k [] G H (by simpa using R0) rfl⟩
theorem AY(ha:DE X e f)(hr:DA X es fs)(hs:starEach (e::es) X.env=(false,eval e X.env)::starEach es X.env:=by rfl):DA X (e::es) (fun δ=>(f δ).bind fun x=>(fs δ).map fun xs=>x::xs):=by
 obtain⟨ta,pa,ka⟩:=ha;obtain⟨tr,pr,kr⟩:=hr;refine⟨_,AA pa pr hs,fun δ z hz G0 H0 G H σ ts Q R0 k=>?_⟩;obtain⟨x,h1,h2⟩:=aF.mp hz;obtain⟨xs,h3,rfl⟩:=aH.mp h2;refine ka δ x h1 G0 H0 G H σ ts _ R0 fun u G1 H1 R1=>?_;refine kr δ xs h3 G0 H0 G1 H1 σ _ _ R1 fun vs G2 H2 R2 hl=>?_;refine k (u::vs) G2 H2 (R2.less fun q hq=>?_) (by simp[hl]);simp only[List.zip_cons_cons,List.cons_append,List.mem_cons,List.mem_append]at hq ⊢;rcases hq with h|h|h
 ·exact .inr (.inl h)
 ·exact .inl h
 ·exact .inr (.inr h)
theorem VI{G:Hp}:∀ {xs:List PyData} {vs:List V},vs.length=xs.length→(∀q∈xs.zip vs,Du G q.1 q.2)→An G xs vs
 |[],vs,hl,_=>by rw[List.eq_nil_of_length_eq_zero hl];exact .nil
 |x::xs,[],hl,_=>by simp at hl
 |x::xs,v::vs,hl,h=>.cons (h (x,v) (by simp)) (VI (by simpa using hl) fun q hq=>h q (by simp[hq]))
theorem Rw.args{G0 H0 G H:Hp}{σ:St}{δ:Dv}{ts:List (PyData×V)}{xs:List PyData}{vs:List V}(r:Rw G0 H0 G H σ δ (xs.zip vs++ts))(hl:vs.length=xs.length):An G xs vs∧Rw G0 H0 G H σ δ ts :=
 ⟨VI hl fun q hq=>r.Bq q (bO _ hq),r.less fun q hq=>ag _ hq⟩
theorem Rw.Zh{G0 H0 G H:Hp}{σ:St}{δ:Dv}{ts:List (PyData×V)}{xs:List PyData}{vs:List V}{p:Addr}(r:Rw G0 H0 G H σ δ ts)(d:An G xs vs)(hp:H p=none):Rw G0 H0 (upd G p (.lst vs)) (upd H p (.lst vs)) σ δ ((.list xs,.ref p)::ts):=by
 refine(r.newObj hp).put ?_;have e:AG G (upd G p (.lst vs)):=fun a o h=>by rw[AE (AK (r.ins _ _ h) hp)];exact h
 rw[Du];exact⟨p,vs,rfl,AI,d.same e⟩
theorem Rw.Z8{G0 H0 G H:Hp}{σ:St}{δ:Dv}{ts:List (PyData×V)}{xs:List PyData}{vs:List V}{p:Addr}(r:Rw G0 H0 G H σ δ ts)(d:An G xs vs)(hp:H p=none):Rw G0 H0 (upd G p (.tup vs)) (upd H p (.tup vs)) σ δ ((.tuple xs,.ref p)::ts):=by
 refine(r.newObj hp).put ?_;have e:AG G (upd G p (.tup vs)):=fun a o h=>by rw[AE (AK (r.ins _ _ h) hp)];exact h
 rw[Du];exact⟨p,vs,rfl,AI,d.same e⟩
def Jh(xs:List PyData):Option (List PyData):=if xs.length≤F6 then some xs else none
theorem Ml{xs ys:List PyData}(h:Jh xs=some ys):xs=ys∧xs.length≤F6:=by
 unfold Jh at h;split at h
 ·rename_i q;cases h;exact⟨rfl,q⟩
 ·cases h
theorem Mc{x1}(ha:DA X es fs):DE X (.Tuple es x1 pos) (fun δ=>((fs δ).bind Jh).map .tuple):=by
 obtain⟨ta,pa,ka⟩:=ha;refine⟨_,GY pa,fun δ z hz G0 H0 G H σ ts Q R0 k=>?_⟩;obtain⟨ys,h1,rfl⟩:=aH.mp hz;obtain⟨xs,h2,h3⟩:=aF.mp h1;obtain⟨rfl,hl⟩:=Ml h3;refine ka δ _ h2 G0 H0 G H σ ts _ R0 fun vs G1 H1 R1 hv=>?_;obtain⟨d,R2⟩:=R1.args hv;exact⟨F5 (by rw[hv];exact hl),fun q hq=>k _ _ _ (R2.Z8 d hq)⟩
theorem a6(ha:DA X es fs):DE X (.List es pos) (fun δ=>((fs δ).bind Jh).map .list):=by
 obtain⟨ta,pa,ka⟩:=ha;refine⟨_,Dr pa,fun δ z hz G0 H0 G H σ ts Q R0 k=>?_⟩;obtain⟨ys,h1,rfl⟩:=aH.mp hz;obtain⟨xs,h2,h3⟩:=aF.mp h1;obtain⟨rfl,hl⟩:=Ml h3;refine ka δ _ h2 G0 H0 G H σ ts _ R0 fun vs G1 H1 R1 hv=>?_;obtain⟨d,R2⟩:=R1.args hv;exact⟨F5 (by rw[hv];exact hl),fun q hq=>k _ _ _ (R2.Zh d hq)⟩
theorem An.Cy{H:Hp}{ds:List PyData}{xs:List V}{i:Int}{d:PyData}(h:An H ds xs)(e:Cy ds i=some d):∃v,Cy xs i=some v∧Du H d v:=by
 unfold L2.Cy at e ⊢;rw[h.len];obtain⟨j,h1,h2⟩:=aF.mp e;obtain⟨v,h3,h4⟩:=h.get h2;exact⟨v,by rw[h1];exact h3,h4⟩
theorem OB{G:Hp}:∀ns:List Int,An G (ns.map .int) (ns.map V.int)
 |[]=>.nil
 |n::ns=>.cons (by rw[Du]) (OB ns)
def Cn:PyData→PyData→Option PyData:=fun x y=>match x,y with
 |.list xs,.int i=>Cy xs i
 |.tuple xs,.int i=>Cy xs i
 |.dict [(.none,.list xs)],.int i=>Cy xs i
 |.str z,.int i=>if z.length≤F6 then(Cy z.cps.toList i).map fun c=>.str ⟨#[c]⟩ else none
 |_,_=>none
theorem CY(ha:DE X a f)(hb:DE X b g)(hs:Nd b):DE X (.Subscript a b pos) (Az Cn f g):=by
 obtain⟨ta,pa,ka⟩:=ha;obtain⟨tb,pb,kb⟩:=hb;refine⟨_,BG cF pa pb hs,fun δ z hz G0 H0 G H σ ts Q R0 k=>?_⟩;obtain⟨x,y,h1,h2,h3⟩:=two (x:=.none) (y:=.none) hz;refine ka δ x h1 G0 H0 G H σ ts _ R0 fun u G1 H1 R1=>?_;refine kb δ y h2 G0 H0 G1 H1 σ _ _ R1 fun v G2 H2 R2=>?_;have du:=R2.Bq (x,u) (.tail _ (.head _));have dv:=R2.Bq (y,v) (.head _);unfold Cn at h3;split at h3
 ·rw[Du]at du;rw[Du]at dv;obtain⟨p,xs,rfl,h4,h5⟩:=du;obtain⟨w,h6,h7⟩:=h5.Cy h3;exact .inl ⟨p,xs,_,w,rfl,dv,AQ.of (R2.ins _ _ h4),h6,k _ _ _ (R2.drop.drop.put h7)⟩
 ·rw[Du]at du;rw[Du]at dv;obtain⟨p,xs,rfl,h4,h5⟩:=du;obtain⟨w,h6,h7⟩:=h5.Cy h3;exact .inr (.inl ⟨p,xs,_,w,rfl,dv,Ap.of (R2.ins _ _ h4),h6,k _ _ _ (R2.drop.drop.put h7)⟩)
 ·rw[Du]at du;rw[Du]at dv;rcases du with ⟨ea,C,e1,_⟩|⟨p,ns,e1,rfl,h4⟩|z
  rotate_left 2
  ·rw[LL]at z;cases z.1
  ·simp at e1
  ·obtain rfl:_=ns.map PyData.int:=by simpa using e1
   obtain⟨w,h6,h7⟩:=(OB (G:=_) ns).Cy h3;exact .inl ⟨p,_,_,w,rfl,dv,.inl (h4.same R2.ins),h6,k _ _ _ (R2.drop.drop.put h7)⟩
 ·rw[Du]at du;rw[Du]at dv;split at h3
  ·rename_i hl;obtain⟨ch,h6,rfl⟩:=aH.mp h3;exact .inr (.inr ⟨_,_,ch,du,dv,F5 hl,h6,k _ _ _ (R2.drop.drop.put (by rw[Du]))⟩)
  ·cases h3
 ·cases h3
end
def EY(g:List PyData→Option PyData):Sp:=fun vs H Q _=>∃ds x G,g ds=some x∧An G ds vs∧AG G H∧∀v G' H',AG G G'→Nw G H G'→AG G' H'→AG H H'→Du G' x v→Q v H'
section
variable{X:Cx}{a e:Expr}{es:List Expr}{f h:Dv→Option PyData}{fs:Dv→Option (List PyData)}{pos p:Pos}
theorem Cv{k:Nat}{fA:Addr}{fd:FuncData}{ps:List Str}{m:List PyData→Option PyData}{x:Str}{st:Stmt}(T:Fn X.K X.mg x st ps fA fd)(F:AL X.prog X.w X.K X.mg X.base Ac k fA fd ps (EY m))(hr:C7 k X.A)(hg:Gl X x)(ha:DA X (e::es) fs)
 (hdb:(x==("__debug__" : Str))=false:=by decide)(he:starEach (e::es) X.env=(false,eval e X.env)::starEach es X.env:=by rfl)(hpl:(backTo pos (starEach es X.env)).any (·.1)=false:=by rfl) :
  DE X (.Call (.Name x p) (e::es) [] pos) (fun δ=>(fs δ).bind m):=by
 obtain⟨ta,pa,ka⟩:=ha;refine⟨_,Aj T F hr hg pa hdb he hpl,fun δ z hz G0 H0 G H σ ts Q R0 k=>?_⟩;obtain⟨xs,h1,h2⟩:=aF.mp hz;refine ka δ _ h1 G0 H0 G H σ ts _ R0 fun vs G1 H1 R1 hv=>?_;obtain⟨d,R2⟩:=R1.args hv;refine⟨xs,z,G1,h2,by rw[List.append_nil];exact d,R2.ins,fun v G' H' h3 h4 h5 h6 h7=>?_⟩;exact k _ _ _ ((R2.lift h3 h4 h5 h6).put h7)
def Xi(X:Cx)(v:Value)(o:List PyData→Option PyData):Prop:=∃r,EE X v r∧∀xs z,o xs=some z→∀G0 H0 G H σ δ ts us (Q:VK),Rw G0 H0 G H σ δ ts→An G xs us→(∀w G' H',Rw G0 H0 G' H' σ δ ((z,w)::ts)→Q w H')→r us H Q
theorem JS{x:Str}{id:String}{o:List PyData→Option PyData}(hc:Xi X (.builtin id) o)(hg:Gl X x)(hm:X.mg x=none)(hv:bootBuiltins x=some (.builtin id))(ha:DA X (e::es) fs)(hn:x ≠ "__name__" := by decide)(hdb:(x==("__debug__" : Str))=false:=by decide)
 (he:starEach (e::es) X.env=(false,eval e X.env)::starEach es X.env:=by rfl)(hpl:(backTo pos (starEach es X.env)).any (·.1)=false:=by rfl):DE X (.Call (.Name x p) (e::es) [] pos) (fun δ=>(fs δ).bind o):=by
 obtain⟨r,hr,kr⟩:=hc;obtain⟨ta,pa,ka⟩:=ha;refine⟨_,Ai hr hg hm hv pa hn hdb he hpl,fun δ z hz G0 H0 G H σ ts Q R0 k=>?_⟩;obtain⟨xs,h1,h2⟩:=aF.mp hz;refine ka δ _ h1 G0 H0 G H σ ts _ R0 fun vs G1 H1 R1 hv=>?_;obtain⟨d,R2⟩:=R1.args hv;exact kr xs z h2 G0 H0 G1 H1 σ δ ts vs Q R2 d k
theorem An.QE{H:Hp}{d:PyData}{xs:List V}(h:An H [d] xs):∃x,xs=[x]∧Du H d x:=by
 obtain⟨x,r,rfl,h1,h2⟩:=h.un;rw[h2.nil_eq];exact⟨x,rfl,h1⟩
theorem An.LM{H:Hp}{d e:PyData}{xs:List V}(h:An H [d,e] xs):∃x y,xs=[x,y]∧Du H d x∧Du H e y:=by
 obtain⟨x,r,rfl,h1,h2⟩:=h.un;obtain⟨y,rfl,h3⟩:=h2.QE;exact⟨x,y,rfl,h1,h3⟩
def Ic:List PyData→Option PyData
 |[.list xs]=>some (.int xs.length)
 |[.tuple xs]=>some (.int xs.length)
 |[.dict [(.none,.list xs)]]=>some (.int xs.length)
 |_=>none
theorem Mq:Xi X (.builtin "len") Ic:=by
 refine⟨_,BW,fun xs z hz G0 H0 G H σ δ ts us Q R0 d k=>?_⟩;unfold Ic at hz;split at hz
 ·cases hz;obtain⟨u,rfl,du⟩:=d.QE;rw[Du]at du;obtain⟨p,ys,rfl,h4,h5⟩:=du;refine⟨p,ys,rfl,.inl (AQ.of (R0.ins _ _ h4)),?_⟩;rw[h5.len];exact k _ _ _ (R0.put (by rw[Du]))
 ·cases hz;obtain⟨u,rfl,du⟩:=d.QE;rw[Du]at du;obtain⟨p,ys,rfl,h4,h5⟩:=du;refine⟨p,ys,rfl,.inr (Ap.of (R0.ins _ _ h4)),?_⟩;rw[h5.len];exact k _ _ _ (R0.put (by rw[Du]))
 ·cases hz;obtain⟨u,rfl,du⟩:=d.QE;rw[Du]at du;rcases du with ⟨ea,C,e1,_⟩|⟨p,ns,e1,rfl,h4⟩|z
  rotate_left 2
  ·rw[LL]at z;cases z.1
  ·simp at e1
  ·obtain rfl:_=ns.map PyData.int:=by simpa using e1
   refine⟨p,_,rfl,.inl (.inl (h4.same R0.ins)),?_⟩;rw[List.length_map]at k ⊢;exact k _ _ _ (R0.put (by rw[Du]))
 ·cases hz
theorem Du.ty{K:PySem.W.Frag}{H:Hp}:∀ {d:PyData} {v:V},(∀kv,d≠.dict kv)→Du H d v→FG K H v (.type (Lj d))∧∀kv,d≠.dict kv
 |.none,_,_,h=>by rw[Du]at h;subst h;exact⟨.BA,by simp⟩
 |.bool _,_,_,h=>by rw[Du]at h;subst h;exact⟨.bl _,by simp⟩
 |.int _,_,_,h=>by rw[Du]at h;subst h;exact⟨.int _,by simp⟩
 |.str _,_,_,h=>by rw[Du]at h;subst h;exact⟨.str _,by simp⟩
 |.tuple _,_,_,h=>by rw[Du]at h;obtain⟨a,xs,rfl,h1,_⟩:=h;exact⟨.tup h1,by simp⟩
 |.list _,_,_,h=>by rw[Du]at h;obtain⟨a,xs,rfl,h1,_⟩:=h;exact⟨.lst h1,by simp⟩
 |.dict _,_,n,h=>absurd rfl (n _)
def TK(q:PyData→Bool):PyData→Option PyData
 |.dict _=>none
 |x=>some (.bool (q x))
theorem YO{q:PyData→Bool}{x z:PyData}(h:TK q x=some z):(∀kv,x≠.dict kv)∧z=.bool (q x):=by
 unfold TK at h;split at h
 ·cases h
 ·rename_i n;cases h;exact⟨fun kv e=>n kv e,rfl⟩
theorem Uc{T:String}{q:PyData→Bool}{xT:Str}{p1 p2:Pos}(hk:∀d:PyData,(∀kv,d≠.dict kv)→PySem.W.kitOne X.K (.type (Lj d)) (.type T)=some (q d))(hg:Gl X "isinstance")(hm:X.mg "isinstance" = none)(hgT:Gl X xT)(hmT:X.mg xT=none)(hvT:bootBuiltins xT=some (.type T))(ha:DE X a f)
 (hnT:xT ≠ "__name__" := by decide)(hdT:(xT==("__debug__" : Str))=false:=by decide)(hs1:starEach [a,.Name xT p2] X.env=(false,eval a X.env)::starEach [.Name xT p2] X.env:=by rfl)(hpl:(backTo pos (starEach [.Name xT p2] X.env)).any (·.1)=false:=by rfl) :
  DE X (.Call (.Name "isinstance" p1) [a,.Name xT p2] [] pos) (fun δ=>(f δ).bind (TK q)):=by
 obtain⟨ta,pa,ka⟩:=ha;have pT:PE X (.Name xT p2) (tC (.ty T)):=Bm hgT hmT hvT rfl hnT hdT;refine⟨_,Ai BU hg hm aM (AA pa (AA pT AD) hs1) (by decide) (by decide) hs1 hpl,fun δ z hz G0 H0 G H σ ts Q R0 k=>?_⟩;obtain⟨x,h1,h2⟩:=aF.mp hz;obtain⟨n1,rfl⟩:=YO h2;refine ka δ _ h1 G0 H0 G H σ ts _ R0 fun u G1 H1 R1=>?_;have du:=R1.Bq _ (.head _);obtain⟨t1,t2⟩:=(du.same R1.ins).ty (K:=X.K) n1;exact⟨u,.ty T,_,q x,rfl,by simp[NT],t1,hk x t2,k _ _ _ (R1.drop.put (by rw[Du]))⟩
end
inductive Ou where
 |nx (δ:Dv)|rt (x:PyData)|bk (δ:Dv)|ct (δ:Dv)|rn (xs:List PyData)
def Fin(G0 H0:Hp)(D:Ends):Ou→Prop
 |.nx δ=>∀σ G H,Rw G0 H0 G H σ δ []→D.nx σ H
 |.rt x=>∀v G H,AG G0 G→Nw G0 H0 G→AG G H→AG H0 H→Du G x v→D.rt v H
 |.bk δ=>∀σ G H,Rw G0 H0 G H σ δ []→D.bk σ H
 |.ct δ=>∀σ G H,Rw G0 H0 G H σ δ []→D.ct σ H
 |.rn xs=>∀a ys G H,AG G0 G→Nw G0 H0 G→AG G H→AG H0 H→H0 a=none→G a=none→H a=some (.lst ys)→An G xs ys→D.rt (.ref a) H
abbrev DF:=Dv→Option Ou
def DS(X:Cx)(st:Stmt)(F:DF):Prop:=∃t,PS X st t∧∀δ r,F δ=some r→∀G0 H0 G H σ D,Rw G0 H0 G H σ δ []→Fin G0 H0 D r→t D σ H
def LO(X:Cx)(st:List Stmt)(F:DF):Prop:=∃t,HQ X st t∧∀δ r,F δ=some r→∀G0 H0 G H σ D,Rw G0 H0 G H σ δ []→Fin G0 H0 D r→t D σ H
def Dp(F1 F2:DF)(δ:Dv):Option Ou:=match F1 δ with
 |some (.nx δ')=>F2 δ'
 |o=>o
section
variable{X:Cx}{c e:Expr}{f h:Dv→Option PyData}{fa:Dv→Option Bool}{pos p:Pos}{st:Stmt}{sts sts':List Stmt}{F1 F2:DF}
theorem Iq:LO X [] (fun δ=>some (.nx δ)):=⟨_,Ax,fun δ r h G0 H0 G H σ D R k=>by cases h;exact k _ _ _ R⟩
theorem B8(h1:DS X st F1)(h2:LO X sts F2):LO X (st::sts) (Dp F1 F2):=by
 obtain⟨t1,p1,k1⟩:=h1;obtain⟨t2,p2,k2⟩:=h2;refine⟨_,AB p1 p2,fun δ r h G0 H0 G H σ D R k=>?_⟩;unfold Dp at h;split at h
 ·rename_i δ' e1;exact k1 δ _ e1 G0 H0 G H σ _ R fun σ' G' H' R'=>k2 δ' r h G0 H0 G' H' σ' D R' k
 ·rename_i hne;refine k1 δ r h G0 H0 G H σ _ R ?_;cases r with
  |nx δ'=>exact absurd h (hne δ')
  |rt x=>exact k
  |bk δ'=>exact k
  |ct δ'=>exact k
  |rn xs=>exact k
theorem BX(h1:DS X st F1):LO X [st] F1:=by
 obtain⟨t1,p1,k1⟩:=h1;exact⟨_,AF p1,k1⟩
theorem Eo(he:DE X e f):DS X (.Return (some e) pos) (fun δ=>(f δ).map .rt):=by
 obtain⟨t,p,k⟩:=he;refine⟨_,Af p,fun δ r h G0 H0 G H σ D R q=>?_⟩;obtain⟨x,h1,rfl⟩:=aH.mp h;exact k δ x h1 G0 H0 G H σ [] _ R fun v G' H' R'=>q v G' H' R'.ext R'.new R'.ins R'.keep (R'.Bq _ (.head _))
theorem MV(hc:DT X c fa)(h1:LO X sts F1)(h2:LO X sts' F2):DS X (.If c sts sts' pos) (fun δ=>(fa δ).bind fun c=>if c=true then F1 δ else F2 δ):=by
 obtain⟨tc,pc,kc⟩:=hc;obtain⟨t1,p1,k1⟩:=h1;obtain⟨t2,p2,k2⟩:=h2;refine⟨_,BK pc p1 p2,fun δ r h G0 H0 G H σ D R q=>?_⟩;obtain⟨i,h3,h4⟩:=aF.mp h;refine kc δ i h3 G0 H0 G H σ [] _ R fun G' H' R'=>?_;split
 ·rename_i hc;rw[if_pos hc]at h4;exact k1 δ r h4 G0 H0 G' H' σ D R' q
 ·rename_i hc;rw[if_neg hc]at h4;exact k2 δ r h4 G0 H0 G' H' σ D R' q
end
section
variable{G0 H0 G H:Hp}{σ:St}{δ:Dv}{ts:List (PyData×V)}
theorem Rw.JU{i:Nat}{x:PyData}{v:V}(r:Rw G0 H0 G H σ δ ((x,v)::ts)):Rw G0 H0 G H (σ.set i (some v)) (δ.set i (.d x)) ts:=by
 have hl:=r.len;refine⟨r.ext,r.new,r.ins,r.keep,by simp[hl],fun j y h=>?_,fun j ys h=>?_,fun j l ys zs hjl h1 h2=>?_,fun q hq=>r.Bq q (.tail _ hq)⟩
 ·by_cases hj:i=j
  ·subst hj;by_cases hi:i<δ.length
   ·rw[List.getElem?_set_self hi]at h;cases h;exact⟨v,by rw[List.getElem?_set_self (by lia)],r.Bq _ (.head _)⟩
   ·rw[List.getElem?_eq_none (by simp;lia)]at h;cases h
  ·rw[List.getElem?_set_ne hj]at h;obtain⟨w,k1,k2⟩:=r.dat j y h;exact⟨w,by rw[List.getElem?_set_ne hj];exact k1,k2⟩
 ·by_cases hj:i=j
  ·subst hj;by_cases hi:i<δ.length
   ·rw[List.getElem?_set_self hi]at h;cases h
   ·rw[List.getElem?_eq_none (by simp;lia)]at h;cases h
  ·rw[List.getElem?_set_ne hj]at h;obtain⟨w,k1,k2,k3⟩:=r.own j ys h;exact⟨w,k1,by rw[List.getElem?_set_ne hj];exact k2,k3⟩
 ·have nj:i≠j:=fun z=>by
   subst z;by_cases hi:i<δ.length
   ·rw[List.getElem?_set_self hi]at h1;cases h1
   ·rw[List.getElem?_eq_none (by simp;lia)]at h1;cases h1
  have nl:i≠l:=fun z=>by
   subst z;by_cases hi:i<δ.length
   ·rw[List.getElem?_set_self hi]at h2;cases h2
   ·rw[List.getElem?_eq_none (by simp;lia)]at h2;cases h2
  rw[List.getElem?_set_ne nj]at h1 ⊢;rw[List.getElem?_set_ne nl]at h2 ⊢;exact r.apart j l ys zs hjl h1 h2
end
section
variable{X:Cx}{e:Expr}{f:Dv→Option PyData}{pos p:Pos}
theorem Mb{i:Nat}{x:Str}{pos':Pos}(hN:X.N.Nodup)(hi:X.N[i]? = some x)(hx:Loc X.env.scope x)(he:DE X e f)(hs:swapsWith e (some (.Name x pos')) pos.line X.env=pure false:=by rfl)(hf:X.fn x=true∨X.env.scope.names.lookup x=some .local:=by first|exact .inl rfl|exact .inr rfl|assumption) :
  DS X (.Assign [.Name x pos'] e pos) (fun δ=>(f δ).map fun y=>.nx (δ.set i (.d y))):=by
 obtain⟨t,p,k⟩:=he;refine⟨_,AW hN hi hx p hs hf,fun δ r h G0 H0 G H σ D R q=>?_⟩;obtain⟨y,h1,rfl⟩:=aH.mp h;exact k δ y h1 G0 H0 G H σ [] _ R fun v G' H' R'=>q _ _ _ R'.JU
end
section
variable{G0 H0 G H:Hp}{σ:St}{δ:Dv}{ts:List (PyData×V)}
theorem Rw.base(r:Rw G0 H0 G H σ δ ts):Rw G H0 G H σ δ ts:={r with ext:=AG.refl G,new:=fun _ _ h=>.inl h}
theorem Nw.trans{G1 G2:Hp}(a:Nw G0 H0 G1)(b:Nw G1 H0 G2):Nw G0 H0 G2:=fun c o h=>by
 rcases b c o h with z|z|z
 ·exact a c o z
 ·exact .inr (.inl z)
 ·exact .inr (.inr z)
theorem Rw.Pn{G' H':Hp}{σ':St}{δ':Dv}{ts':List (PyData×V)}(r:Rw G0 H0 G H σ δ ts)(q:Rw G H0 G' H' σ' δ' ts'):Rw G0 H0 G' H' σ' δ' ts':={q with ext:=r.ext.trans q.ext,new:=r.new.trans q.new}
theorem Rw.eE{i:Nat}{xs xs':Oc}{ys:HO}{a:Addr}(r:Rw G0 H0 G H σ δ ts)(hi:δ[i]? = some (.own xs))(ha:σ[i]? = some (some (.ref a)))(d:Kj G a xs' ys):Rw G0 H0 G (upd H a ys) σ (δ.set i (.own xs')) ts:=by
 obtain⟨a',ys0,k1,k2,k3,k4,k5⟩:=r.own i xs hi;rw[ha]at k1;cases k1;have hlt:i<δ.length:=(aC.mp hi).1;have hl:=r.len;refine⟨r.ext,r.new,fun b o h=>?_,fun b o h=>?_,by simp[hl],fun j y h=>?_,fun j zs h=>?_,fun j l us ws hjl h1 h2=>?_,r.Bq⟩
 ·rw[AE (fun z=>by subst z;rw[k2]at h;cases h)];exact r.ins _ _ h
 ·rw[AE (fun z=>by subst z;rw[k3]at h;cases h)];exact r.keep _ _ h
 ·by_cases hj:i=j
  ·subst hj;rw[List.getElem?_set_self hlt]at h;cases h
  ·rw[List.getElem?_set_ne hj]at h;exact r.dat j y h
 ·by_cases hj:i=j
  ·subst hj;rw[List.getElem?_set_self hlt]at h;cases h;exact⟨a,ys,ha,k2,k3,AI,d⟩
  ·rw[List.getElem?_set_ne hj]at h;obtain⟨b,us,m1,m2,m3,m4,m5⟩:=r.own j zs h;have nb:b≠a:=fun z=>by subst z;exact r.apart i j xs zs hj hi h (by rw[ha,m1])
   exact⟨b,us,m1,m2,m3,by rw[AE nb];exact m4,m5⟩
 ·have f:∀(j:Nat) (us:Oc),(δ.set i (.own xs'))[j]? = some (L.own us)→∃us',δ[j]? = some (L.own us'):=fun j us h=>by
   by_cases hj:i=j
   ·subst hj;exact⟨xs,hi⟩
   ·rw[List.getElem?_set_ne hj]at h;exact⟨us,h⟩
  obtain⟨us',h1⟩:=f j us h1;obtain⟨ws',h2⟩:=f l ws h2;exact r.apart j l us' ws' hjl h1 h2
end
section
variable{X:Cx}{a b e:Expr}{g h:Dv→Option PyData}{pos:Pos}   
def ow(i:Nat)(δ:Dv):Option (List PyData):=match δ[i]? with
 |some (.own (.lst xs))=>some xs
 |_=>none
theorem O1{i:Nat}{δ:Dv}{xs:List PyData}(h:ow i δ=some xs):δ[i]? = some (.own (.lst xs)):=by
 unfold ow at h;split at h
 ·rename_i y e;cases h;exact e
 ·cases h
theorem WZ{i:Nat}{x:Str}{np:Pos}(hv:PE X (.Name x np) (NI i))(hb:DE X b g)(hs:Nd b):DE X (.Subscript (.Name x np) b pos) (fun δ=>(g δ).bind fun y=>(ow i δ).bind fun xs=>(QR y).bind fun k=>Cy xs k):=by
 obtain⟨tb,pb,kb⟩:=hb;refine⟨_,BG D6 hv pb hs,fun δ z hz G0 H0 G H σ ts Q R0 k=>?_⟩;obtain⟨y,h1,h2⟩:=aF.mp hz;obtain⟨xs,h3,h4⟩:=aF.mp h2;obtain⟨j,h5,h6⟩:=aF.mp h4;have:=PJ h5;subst this;obtain⟨a,_,k1,k2,k3,k4,⟨ys,rfl,k5⟩⟩:=R0.own i _ (O1 h3);refine⟨.ref a,k1,?_⟩;refine kb δ _ h1 G0 H0 G H σ ts _ R0 fun v G1 H1 R1=>?_;have dv:=R1.Bq _ (.head _);rw[Du]at dv;obtain⟨a',_,m1,m2,m3,m4,⟨us,rfl,m5⟩⟩:=R1.own i _ (O1 h3);rw[k1]at m1;cases m1;obtain⟨w,h7,h8⟩:=m5.Cy h6;exact⟨a,us,j,w,rfl,dv,AQ.of m4,h7,k _ _ _ (R1.drop.put h8)⟩
end
structure HS(J:It)(xs:List PyData)(G:Hp):Prop where
 stop:∀H,AG G H→J.stop xs.length H
 go:∀(i:Nat) (d:PyData) H,xs[i]? = some d→AG G H→J.go i H
 Df:∀(i:Nat) (d:PyData) H x H',xs[i]? = some d→AG G H→J.Df i H x H'→∀Gc,AG G Gc→AG Gc H→∃Gc',AG Gc Gc'∧Nw Gc H Gc'∧AG Gc' H'∧AG H H'∧Du Gc' d x
theorem Nw.refl{G H:Hp}:Nw G H G:=fun _ _ h=>.inl h
theorem X1{K:PySem.W.Frag}{G:Hp}{a:Addr}{ys:List V}{xs:List PyData}(ha:G a=some (.lst ys))(d:An G xs ys):HS (Ru K a) xs G where
 stop:=fun H e=>⟨ys,AQ.of (e _ _ ha),by rw[d.len];exact aG _⟩
 go:=fun i x H hx e=>by
  obtain⟨v,h1,_⟩:=d.get hx;exact⟨ys,v,AQ.of (e _ _ ha),h1⟩
 Df:=fun i x H v H' hx e y Gc e1 e2=>by
  obtain⟨rfl,y⟩:=y;have h1:=y ys (AQ.of (e _ _ ha));obtain⟨x',h2,h3⟩:=d.back h1;rw[hx]at h2;cases h2;exact⟨Gc,AG.refl _,Nw.refl,e2,AG.refl _,h3.same e1⟩
theorem cM{K:PySem.W.Frag}{G:Hp}{a:Addr}{ys:List V}{xs:List PyData}(ha:G a=some (.tup ys))(d:An G xs ys):HS (Sa K a) xs G where
 stop:=fun H e=>⟨ys,Ap.of (e _ _ ha),by rw[d.len];exact aG _⟩
 go:=fun i x H hx e=>by
  obtain⟨v,h1,_⟩:=d.get hx;exact⟨ys,v,Ap.of (e _ _ ha),h1⟩
 Df:=fun i x H v H' hx e y Gc e1 e2=>by
  obtain⟨rfl,y⟩:=y;have h1:=y ys (Ap.of (e _ _ ha));obtain⟨x',h2,h3⟩:=d.back h1;rw[hx]at h2;cases h2;exact⟨Gc,AG.refl _,Nw.refl,e2,AG.refl _,h3.same e1⟩
def Cs(lo:Int)(n:Nat):List PyData:=(List.range n).map fun k=>.int (lo+(k:Nat))
theorem Vp{G:Hp}{lo:Int}{n:Nat}:HS (OD lo n) (Cs lo n) G where
 stop:=fun H e=>by show n≤_;simp[Cs]
 go:=fun i x H hx e=>by
  have:=(aC.mp hx).1;show i<n
  simpa[Cs]using this
 Df:=fun i x H v H' hx e y Gc e1 e2=>by
  obtain⟨rfl,rfl⟩:=y;unfold Cs at hx;rw[List.getElem?_map]at hx;obtain⟨k,h1,rfl⟩:=aH.mp hx;have hk:k=i:=by
   have:=(aC.mp h1).1;rw[List.getElem?_range (by simpa using this)]at h1;cases h1;rfl
  subst hk;exact⟨Gc,AG.refl _,Nw.refl,e2,AG.refl _,by rw[Du]⟩
theorem Lx{Gc H:Hp}{p:Addr}{d1 d2:PyData}{v1 v2:V}(e2:AG Gc H)(hp:H p=none)(h1:Du Gc d1 v1)(h2:Du Gc d2 v2) :
  ∃Gc',AG Gc Gc'∧Nw Gc H Gc'∧AG Gc' (upd H p (.tup [v1,v2]))∧AG H (upd H p (.tup [v1,v2]))∧Du Gc' (.tuple [d1,d2]) (.ref p):=by
 have hG:Gc p=none:=by
  cases q:Gc p with
  |none=>rfl
  |some u=>rw[e2 _ _ q]at hp;cases hp
 have e:AG Gc (upd Gc p (.tup [v1,v2])):=AN hG _;refine⟨upd Gc p (.tup [v1,v2]),e,fun a o h=>?_,fun a o h=>?_,AN hp _,?_⟩
 ·by_cases ha:a=p
  ·subst ha;exact .inr (.inl hp)
  ·rw[AE ha]at h;exact .inl h
 ·by_cases ha:a=p
  ·subst ha;rw[AI]at h ⊢;exact h
  ·rw[AE ha]at h ⊢;exact e2 _ _ h
 ·rw[Du];exact⟨p,[v1,v2],rfl,AI,.cons (h1.same e) (.cons (h2.same e) .nil)⟩
def Ff(xs:List PyData):List PyData:=xs.zipIdx.map fun q=>.tuple [.int (q.2:Nat),q.1]
theorem GV{xs:List PyData}{i:Nat}{d:PyData}(h:(Ff xs)[i]? = some d):∃x,xs[i]? = some x∧d=.tuple [.int (i:Nat),x]:=by
 unfold Ff at h;rw[List.getElem?_map]at h;obtain⟨q,h1,rfl⟩:=aH.mp h;rw[List.getElem?_zipIdx]at h1;obtain⟨x,h2,rfl⟩:=aH.mp h1;exact⟨x,h2,by simp⟩
theorem WR{K:PySem.W.Frag}{G:Hp}{a:Addr}{ys:List V}{xs:List PyData}(ha:G a=some (.tup ys))(d:An G xs ys):HS (cD K a) (Ff xs) G where
 stop:=fun H e=>⟨ys,Ap.of (e _ _ ha),by rw[d.len];simp[Ff]⟩
 go:=fun i x H hx e=>by
  obtain⟨x',h0,rfl⟩:=GV hx;obtain⟨v,h1,_⟩:=d.get h0;exact⟨ys,v,Ap.of (e _ _ ha),h1⟩
 Df:=fun i x H v H' hx e y Gc e1 e2=>by
  obtain⟨x',h0,rfl⟩:=GV hx;obtain⟨p,u,rfl,hp,rfl,y⟩:=y;have h1:=y ys (Ap.of (e _ _ ha));obtain⟨x2,h2,h3⟩:=d.back h1;rw[h0]at h2;cases h2;exact Lx e2 hp (by rw[Du]) (h3.same e1)
theorem WD{K:PySem.W.Frag}{G:Hp}{a:Addr}{ys:List V}{xs:List PyData}(ha:G a=some (.lst ys))(d:An G xs ys):HS (Rl K a) (Ff xs) G where
 stop:=fun H e=>⟨ys,AQ.of (e _ _ ha),by rw[d.len];simp[Ff]⟩
 go:=fun i x H hx e=>by
  obtain⟨x',h0,rfl⟩:=GV hx;obtain⟨v,h1,_⟩:=d.get h0;exact⟨ys,v,AQ.of (e _ _ ha),h1⟩
 Df:=fun i x H v H' hx e y Gc e1 e2=>by
  obtain⟨x',h0,rfl⟩:=GV hx;obtain⟨p,u,rfl,hp,rfl,y⟩:=y;have h1:=y ys (AQ.of (e _ _ ha));obtain⟨x2,h2,h3⟩:=d.back h1;rw[h0]at h2;cases h2;exact Lx e2 hp (by rw[Du]) (h3.same e1)
def Gk(xs ys:List PyData):List PyData:=(xs.zip ys).map fun q=>.tuple [q.1,q.2]
theorem Hz{xs ys:List PyData}{i:Nat}{d:PyData}(h:(Gk xs ys)[i]? = some d):∃x y,xs[i]? = some x∧ys[i]? = some y∧d=.tuple [x,y]:=by
 unfold Gk at h;rw[List.getElem?_map]at h;obtain⟨q,h1,rfl⟩:=aH.mp h;obtain⟨k1,k2⟩:=List.getElem?_zip_eq_some.mp h1;exact⟨q.1,q.2,k1,k2,rfl⟩
theorem Y3{G:Hp}{b1 b2:Bool}{a1 a2:Addr}{us vs:List V}{xs ys:List PyData}(h1:G a1=some (if b1 then .tup us else .lst us))(h2:G a2=some (if b2 then .tup vs else .lst vs))(d1:An G xs us)(d2:An G ys vs):HS (ZR b1 b2 a1 a2) (Gk xs ys) G where
 stop:=fun H e=>by
  have k1:=e _ _ h1;have k2:=e _ _ h2;refine⟨us,vs,?_,?_,?_⟩
  ·cases b1<;>simpa[EV]using k1
  ·cases b2<;>simpa[EV]using k2
  ·rw[d1.len,d2.len];simp[Gk];lia
 go:=fun i x H hx e=>by
  obtain⟨x1,x2,k1,k2,rfl⟩:=Hz hx;obtain⟨v1,k3,_⟩:=d1.get k1;obtain⟨v2,k4,_⟩:=d2.get k2;have m1:=e _ _ h1;have m2:=e _ _ h2;refine⟨us,v1,vs,v2,?_,?_,k3,k4⟩
  ·cases b1<;>simpa[EV]using m1
  ·cases b2<;>simpa[EV]using m2
 Df:=fun i x H v H' hx e y Gc e1 e2=>by
  obtain⟨x1,x2,k1,k2,rfl⟩:=Hz hx;obtain⟨p,v1,v2,rfl,hp,rfl,y1,y2⟩:=y;have m1:=e _ _ h1;have m2:=e _ _ h2;have z1:=y1 us (by cases b1<;>simpa[EV]using m1);have z2:=y2 vs (by cases b2<;>simpa[EV]using m2);obtain⟨w1,n1,n2⟩:=d1.back z1;obtain⟨w2,n3,n4⟩:=d2.back z2;rw[k1]at n1;cases n1;rw[k2]at n3;cases n3;exact Lx e2 hp (n2.same e1) (n4.same e1)
def DI(X:Cx)(tg iter:Expr)(f:Dv→Option (List PyData)):Prop:=∃wi,PI X tg iter wi∧∀δ xs,f δ=some xs→∀G0 H0 G H σ ts (R:It→Hp→Prop),Rw G0 H0 G H σ δ ts→(∀J G' H',Rw G0 H0 G' H' σ δ ts→HS J xs G'→R J H')→wi σ H R
section
variable{X:Cx}{tg a b e:Expr}{f g h:Dv→Option PyData}{fs:Dv→Option (List PyData)}{pos p:Pos}{sts:List Stmt}{F:DF}
theorem PI.or{wi wi':TI}(h:PI X tg e wi)(h':PI X tg e wi'):PI X tg e (fun σ H R=>wi σ H R∨wi' σ H R):=fun pins s σ H R I q=>by
 rcases q with q|q
 ·exact h pins s σ H R I q
 ·exact h' pins s σ H R I q
def JT:PyData→Option (List PyData)
 |.list xs=>some xs
 |.tuple xs=>some xs
 |_=>none
theorem MN(he:DE X e f):DI X tg e (fun δ=>(f δ).bind JT):=by
 obtain⟨t,p,k⟩:=he;refine⟨_,(BB p).or (Ub p),fun δ xs h G0 H0 G H σ ts R R0 q=>?_⟩;obtain⟨x,h1,h2⟩:=aF.mp h;unfold JT at h2;split at h2
 ·cases h2
  left
  refine k δ _ h1 G0 H0 G H σ ts _ R0 fun v G' H' R'=>?_;have du:=R'.Bq _ (.head _);rw[Du]at du;obtain⟨a,ys,rfl,n1,n2⟩:=du;exact⟨a,rfl,⟨ys,AQ.of (R'.ins _ _ n1)⟩,q _ _ _ R'.drop (X1 n1 n2)⟩
 ·cases h2
  right
  refine k δ _ h1 G0 H0 G H σ ts _ R0 fun v G' H' R'=>?_;have du:=R'.Bq _ (.head _);rw[Du]at du;obtain⟨a,ys,rfl,n1,n2⟩:=du;exact⟨a,rfl,⟨ys,Ap.of (R'.ins _ _ n1)⟩,q _ _ _ R'.drop (cM n1 n2)⟩
 ·cases h2
def Fj:List PyData→Option (List PyData)
 |[.int j]=>if -1000000≤j∧j≤1000000 then some (Cs 0 j.toNat) else none
 |_=>none
def Mw:List PyData→Option (List PyData)
 |[.int i,.int j]=>if -1000000≤i∧i≤1000000∧-1000000≤j∧j≤1000000 then some (Cs i (j-i).toNat) else none
 |_=>none
theorem IJ(hg:Gl X "range")(hm:X.mg "range" = none)(ha:DA X [a] fs)(hs:starEach [a] X.env=[(false,eval a X.env)]:=by rfl):DI X tg (.Call (.Name "range" p) [a] [] pos) (fun δ=>(fs δ).bind Fj):=by
 obtain⟨t,p,k⟩:=ha;refine⟨_,Dd hg hm p hs,fun δ xs h G0 H0 G H σ ts R R0 q=>?_⟩;obtain⟨x,h1,h2⟩:=aF.mp h;refine k δ _ h1 G0 H0 G H σ ts _ R0 fun vs G' H' R' hv=>?_;obtain⟨d,R2⟩:=R'.args hv;unfold Fj at h2;split at h2
 ·split at h2
  ·cases h2;obtain⟨u,rfl,du⟩:=d.QE;rw[Du]at du;subst du;exact⟨_,rfl,by lia,by lia,q _ _ _ R2 Vp⟩
  ·cases h2
 ·cases h2
theorem UX(hg:Gl X "range")(hm:X.mg "range" = none)(ha:DA X [a,b] fs)(hs:starEach [a,b] X.env=[(false,eval a X.env),(false,eval b X.env)]:=by rfl)(hs2:starEach [b] X.env=[(false,eval b X.env)]:=by rfl):DI X tg (.Call (.Name "range" p) [a,b] [] pos) (fun δ=>(fs δ).bind Mw):=by
 obtain⟨t,p,k⟩:=ha;refine⟨_,OV hg hm p hs hs2,fun δ xs h G0 H0 G H σ ts R R0 q=>?_⟩;obtain⟨x,h1,h2⟩:=aF.mp h;refine k δ _ h1 G0 H0 G H σ ts _ R0 fun vs G' H' R' hv=>?_;obtain⟨d,R2⟩:=R'.args hv;unfold Mw at h2;split at h2
 ·split at h2
  ·cases h2;obtain⟨u,v,rfl,du,dv⟩:=d.LM;rw[Du]at du dv;subst du dv;exact⟨_,_,rfl,⟨by lia,by lia,by lia,by lia⟩,q _ _ _ R2 Vp⟩
  ·cases h2
 ·cases h2
def TY:List PyData→Option (List PyData)
 |[.list xs]=>some (Ff xs)
 |[.tuple xs]=>some (Ff xs)
 |_=>none
theorem YM{elts:List Expr}{x1}{tpos:Pos}(hg:Gl X "enumerate")(hm:X.mg "enumerate" = none)(ha:DA X [a] fs)(hs:starEach [a] X.env=[(false,eval a X.env)]:=by rfl):DI X (.Tuple elts x1 tpos) (.Call (.Name "enumerate" p) [a] [] pos) (fun δ=>(fs δ).bind TY):=by
 obtain⟨t,p,k⟩:=ha;refine⟨_,(RA hg hm p hs).or (YB hg hm p hs),fun δ xs h G0 H0 G H σ ts R R0 q=>?_⟩;obtain⟨x,h1,h2⟩:=aF.mp h;unfold TY at h2;split at h2
 ·cases h2
  left
  refine k δ _ h1 G0 H0 G H σ ts _ R0 fun vs G' H' R' hv=>?_;obtain⟨d,R2⟩:=R'.args hv;obtain⟨u,rfl,du⟩:=d.QE;rw[Du]at du;obtain⟨a,ys,rfl,n1,n2⟩:=du;exact⟨a,rfl,⟨ys,AQ.of (R2.ins _ _ n1)⟩,q _ _ _ R2 (WD n1 n2)⟩
 ·cases h2
  right
  refine k δ _ h1 G0 H0 G H σ ts _ R0 fun vs G' H' R' hv=>?_;obtain⟨d,R2⟩:=R'.args hv;obtain⟨u,rfl,du⟩:=d.QE;rw[Du]at du;obtain⟨a,ys,rfl,n1,n2⟩:=du;exact⟨a,rfl,⟨ys,Ap.of (R2.ins _ _ n1)⟩,q _ _ _ R2 (WR n1 n2)⟩
 ·cases h2
def zip2:List PyData→Option (List PyData)
 |[x,y]=>(JT x).bind fun xs=>(JT y).map fun ys=>Gk xs ys
 |_=>none
theorem I0{G:Hp}{x:PyData}{v:V}{xs:List PyData}(h:Du G x v)(e:JT x=some xs):∃(b:Bool) (a:Addr) (ys:List V),v=.ref a∧G a=some (if b then .tup ys else .lst ys)∧An G xs ys:=by
 unfold JT at e;split at e
 ·cases e;rw[Du]at h;obtain⟨a,ys,rfl,n1,n2⟩:=h;exact⟨false,a,ys,rfl,n1,n2⟩
 ·cases e;rw[Du]at h;obtain⟨a,ys,rfl,n1,n2⟩:=h;exact⟨true,a,ys,rfl,n1,n2⟩
 ·cases e
theorem MM{elts:List Expr}{x1}{tpos:Pos}(hg:Gl X "zip")(hm:X.mg "zip" = none)(ha:DA X [a,b] fs)(hs:starEach [a,b] X.env=[(false,eval a X.env),(false,eval b X.env)]:=by rfl)(hs2:starEach [b] X.env=[(false,eval b X.env)]:=by rfl) :
  DI X (.Tuple elts x1 tpos) (.Call (.Name "zip" p) [a,b] [] pos) (fun δ=>(fs δ).bind zip2):=by
 obtain⟨t,p,k⟩:=ha;refine⟨_,P7 hg hm p hs hs2,fun δ xs h G0 H0 G H σ ts R R0 q=>?_⟩;obtain⟨x,h1,h2⟩:=aF.mp h;refine k δ _ h1 G0 H0 G H σ ts _ R0 fun vs G' H' R' hv=>?_;obtain⟨d,R2⟩:=R'.args hv;unfold zip2 at h2;split at h2
 ·obtain⟨xs1,h3,h4⟩:=aF.mp h2;obtain⟨ys1,h5,rfl⟩:=aH.mp h4;obtain⟨u,v,rfl,du,dv⟩:=d.LM;obtain⟨b1,a1,us,rfl,n1,n2⟩:=I0 du h3;obtain⟨b2,a2,ws,rfl,m1,m2⟩:=I0 dv h5;have s1:=R2.ins _ _ n1;have s2:=R2.ins _ _ m1;exact⟨b1,b2,a1,a2,rfl,⟨us,by cases b1<;>simpa[EV]using s1⟩,⟨ws,by cases b2<;>simpa[EV]using s2⟩,q _ _ _ R2 (Y3 n1 m1 n2 m2)⟩
 ·cases h2
def DG(X:Cx)(tg:Expr)(set:PyData→Dv→Option Dv):Prop:=∃g,PG X tg g∧∀δ x δ',set x δ=some δ'→∀G0 H0 G H σ v (Q:St→Hp→Prop),Rw G0 H0 G H σ δ [(x,v)]→(∀σ' G' H',Rw G0 H0 G' H' σ' δ' []→Q σ' H')→g v σ H Q
theorem Nc{i:Nat}{x:Str}(h:PG X (.Name x pos) (CM i)):DG X (.Name x pos) (fun y δ=>some (δ.set i (.d y))) :=
 ⟨_,h,fun δ y δ' e G0 H0 G H σ v Q R k=>by cases e;exact k _ _ _ R.JU⟩
def DP(i j:Nat)(y:PyData)(δ:Dv):Option Dv:=match y with
 |.tuple [u,v]=>some ((δ.set i (.d u)).set j (.d v))
 |_=>none
theorem Ki{x y:Str}{i j:Nat}{px py:Pos}{k1}(h:PG X (.Tuple [.Name x px,.Name y py] k1 pos) (WL X.K 2 (Mo (CM i) (Mo (CM j) Ww)))):DG X (.Tuple [.Name x px,.Name y py] k1 pos) (DP i j):=by
 refine⟨_,h,fun δ z δ' e G0 H0 G H σ v Q R k=>?_⟩;unfold DP at e;split at e
 ·cases e;have du:=R.Bq _ (.head _);rw[Du]at du;obtain⟨a,ys,rfl,n1,n2⟩:=du;obtain⟨w1,w2,rfl,m1,m2⟩:=n2.LM;refine⟨a,[w1,w2],rfl,Ap.of (R.ins _ _ n1),rfl,w1,[w2],rfl,w2,[],rfl,rfl,?_⟩;exact k _ _ _ (((R.drop.put m2).put m1).JU.JU)
 ·cases e
def Ih(set:PyData→Dv→Option Dv)(body:DF):List PyData→Dv→Option Ou
 |[],δ=>some (.nx δ)
 |x::xs,δ=>match (set x δ).bind body with
  |some (.nx δ')=>Ih set body xs δ'
  |some (.ct δ')=>Ih set body xs δ'
  |some (.bk δ')=>some (.nx δ')
  |some (.rt v)=>some (.rt v)
  |some (.rn v)=>some (.rn v)
  |none=>none
theorem Gf{set:PyData→Dv→Option Dv}(hp:PassesOwn (model X.prog X.w) X.A X.env X.xe)(hc:X.calm=true)(hi:DI X tg e fs)(hg:DG X tg set)(hb:LO X sts F)(hs:∀x,foldedSetIterable e X.env x=pure x:=by intro _;rfl) :
  DS X (.For tg e sts [] pos) (fun δ=>(fs δ).bind fun xs=>Ih set F xs δ):=by
 obtain⟨wi,pi,ki⟩:=hi;obtain⟨g,pg,kg⟩:=hg;obtain⟨tb,pb,kb⟩:=hb;refine⟨_,Bf hp hc pi pg pb hs,fun δ r h G0 H0 G H σ D R q=>?_⟩;obtain⟨xs,h1,h2⟩:=aF.mp h;refine ki δ xs h1 G0 H0 G H σ [] _ R fun J Ga Ha Ra it=>?_;refine⟨fun i m σ' H'=>m=xs.length-i∧i≤xs.length∧∃δ' G',Ih set F (xs.drop i) δ'=some r∧Rw G0 H0 G' H' σ' δ' []∧AG Ga G',⟨xs.length,by simp,Nat.zero_le _,δ,Ga,by simpa using h2,Ra,AG.refl _⟩,?_⟩;rintro i m σ1 H1 ⟨rfl,hi,δ1,G1,f1,R1,s1⟩;have sH:AG Ga H1:=s1.trans R1.ins;by_cases hlt:i<xs.length
 ·right
  have hx:xs[i]? = some xs[i]:=by simp[hlt]
  refine⟨it.go i _ H1 hx sH,fun σ' H'=>i+1≤xs.length∧∃δ' G',Ih set F (xs.drop (i+1)) δ'=some r∧Rw G0 H0 G' H' σ' δ' []∧AG Ga G',fun σ' H' n=>⟨xs.length-(i+1),by lia,rfl,n⟩,fun x H' y=>?_⟩;obtain⟨G2,e1,e2,e3,e4,e5⟩:=it.Df i _ H1 x H' hx sH y G1 s1 R1.ins;have R2:=(R1.lift e1 e2 e3 e4).put e5;have s2:=s1.trans e1;rw[List.drop_eq_getElem_cons hlt]at f1;unfold Ih at f1;cases hb2:(set xs[i] δ1).bind F with
  |none=>rw[hb2]at f1;cases f1
  |some o =>
   obtain⟨δ2,k1,k2⟩:=aF.mp hb2;rw[hb2]at f1;have R2b:=R2.base;refine kg δ1 _ δ2 k1 G2 H0 G2 H' σ1 x _ R2b fun σ3 G3 H3 R3=>?_;refine kb δ2 o k2 G2 H0 G3 H3 σ3 _ R3 ?_;cases o with
   |nx δ3=>exact fun σ4 G4 H4 R4=>⟨hlt,δ3,G4,f1,R2.drop.Pn R4,s2.trans R4.ext⟩
   |ct δ3=>exact fun σ4 G4 H4 R4=>⟨hlt,δ3,G4,f1,R2.drop.Pn R4,s2.trans R4.ext⟩
   |bk δ3=>cases f1;exact fun σ4 G4 H4 R4=>q σ4 G4 H4 (R2.drop.Pn R4)
   |rt v=>cases f1;exact fun w G4 H4 h1 h2 h3 h4 h5=>q w G4 H4 (R2.ext.trans h1) (R2.new.trans h2) h3 h4 h5
   |rn v=>cases f1;exact fun w ys G4 H4 h1 h2=>q w ys G4 H4 (R2.ext.trans h1) (R2.new.trans h2)
 ·left
  have e:i=xs.length:=by lia
  subst e;refine⟨it.stop H1 sH,?_⟩;rw[List.drop_length]at f1;unfold Ih at f1;cases f1;exact q _ _ _ R1
end
def tD(f:Dv→Option PyData):TE:=fun σ H Q=>∃δ x G0 H0 G ts,f δ=some x∧Rw G0 H0 G H σ δ ts∧∀v G' H',Rw G0 H0 G' H' σ δ ((x,v)::ts)→Q v H'
def VG(f:Dv→Option Bool):TT:=fun σ H Q=>∃δ x G0 H0 G ts,f δ=some x∧Rw G0 H0 G H σ δ ts∧∀G' H',Rw G0 H0 G' H' σ δ ts→Q x H'
theorem DE.pe{X:Cx}{e:Expr}{f:Dv→Option PyData}(h:DE X e f):PE X e (tD f):=by
 obtain⟨t,p,k⟩:=h;intro pins s σ H Q I q;obtain⟨δ,x,G0,H0,G,ts,h1,h2,h3⟩:=q;exact p pins s σ H Q I (k δ x h1 G0 H0 G H σ ts Q h2 h3)
def UU(X:Cx)(ifs:List Expr)(f:Dv→Option Bool):Prop:=JA X ifs (VG f)
theorem HM{X:Cx}:UU X [] (fun _=>some true):=by
 intro pins s σ H Q I q;obtain⟨δ,x,G0,H0,G,ts,h1,h2,h3⟩:=q;cases h1;exact Bl pins s σ H Q I (h3 _ _ h2)
def Bv(fr:List (Option Nat))(δ:Dv):Dv:=fr.map fun o=>match o with
 |some j=>(match δ[j]? with|some (.d x)=>.d x|_=>.no)
 |none=>.no
theorem Rw.inner{G0 H0 G H:Hp}{σ:St}{δ:Dv}{ts:List (PyData×V)}(fr:List (Option Nat))(r:Rw G0 H0 G H σ δ ts):Rw G H G H (carry fr σ) (Bv fr δ) ts:=by
 have key:∀(i:Nat) (l:L),(Bv fr δ)[i]? = some l→∃o,fr[i]? = some o∧l=(match o with|some j=>(match δ[j]? with|some (.d x)=>.d x|_=>.no)|none=>.no):=fun i l h=>by
  unfold Bv at h;rw[List.getElem?_map]at h;obtain⟨o,h1,rfl⟩:=aH.mp h;exact⟨o,h1,rfl⟩
 have noown:∀(i:Nat) (xs:Oc),(Bv fr δ)[i]?≠some (L.own xs):=fun i xs h=>by
  obtain⟨o,_,h2⟩:=key i _ h;split at h2
  ·split at h2<;>cases h2
  ·cases h2
 refine⟨AG.refl _,Nw.refl,r.ins,AG.refl _,by simp[carry,Bv],fun i x h=>?_,fun i xs h=>absurd h (noown i xs),fun i j xs ys _ h=>absurd h (noown i xs),r.Bq⟩;obtain⟨o,h1,h2⟩:=key i _ h;split at h2
 ·rename_i j;split at h2
  ·rename_i y hy;cases h2;obtain⟨v,k1,k2⟩:=r.dat j _ hy;refine⟨v,?_,k2⟩;unfold carry;rw[List.getElem?_map,h1];simp[k1]
  ·cases h2
 ·cases h2
theorem Rw.other{G0 H0 G H:Hp}{σ:St}{δ:Dv}{ts:List (PyData×V)}{D:Addr}{o:HO}(r:Rw G0 H0 G H σ δ ts)(hG:G D=none)(h0:H0 D=none)(ho:∀(i:Nat) (xs:Oc),δ[i]? = some (L.own xs)→σ[i]?≠some (some (V.ref D))):Rw G0 H0 G (upd H D o) σ δ ts:=by
 refine⟨r.ext,r.new,fun a u h=>?_,fun a u h=>?_,r.len,r.dat,fun i xs h=>?_,r.apart,r.Bq⟩
 ·rw[AE (fun z=>by subst z;rw[hG]at h;cases h)];exact r.ins _ _ h
 ·rw[AE (fun z=>by subst z;rw[h0]at h;cases h)];exact r.keep _ _ h
 ·obtain⟨a,ys,k1,k2,k3,k4,k5⟩:=r.own i xs h;exact⟨a,ys,k1,k2,k3,by rw[AE (fun z=>by subst z;exact ho i xs h k1)];exact k4,k5⟩
theorem Rw.adopt{G0 H0 G H:Hp}{σ:St}{δ:Dv}{ts:List (PyData×V)}{D:Addr}{ys:List V}(r:Rw G0 H0 G H σ δ ts)(hD:H D=some (.lst ys))(hG:G D=none)(h0:H0 D=none)(ho:∀(i:Nat) (xs:Oc),δ[i]? = some (L.own xs)→σ[i]?≠some (some (V.ref D))):Rw G0 H0 (upd G D (.lst ys)) H σ δ ts:=by
 have e:AG G (upd G D (.lst ys)):=AN hG _;refine⟨r.ext.trans e,fun a u h=>?_,fun a u h=>?_,r.keep,r.len,fun i x h=>?_,fun i xs h=>?_,r.apart,fun q hq=>(r.Bq q hq).same e⟩
 ·by_cases ha:a=D
  ·subst ha;exact .inr (.inl h0)
  ·rw[AE ha]at h;exact r.new _ _ h
 ·by_cases ha:a=D
  ·subst ha;rw[AI]at h;rw[hD];exact h
  ·rw[AE ha]at h;exact r.ins _ _ h
 ·obtain⟨v,k1,k2⟩:=r.dat i x h;exact⟨v,k1,k2.same e⟩
 ·obtain⟨a,zs,k1,k2,k3,k4,k5⟩:=r.own i xs h;have ha:a≠D:=fun z=>by subst z;exact ho i xs h k1
  exact⟨a,zs,k1,by rw[AE ha];exact k2,k3,k4,k5.same e⟩
def Gw(set:PyData→Dv→Option Dv)(tif:Dv→Option Bool)(f:Dv→Option PyData)(δ:Dv)(x:PyData):Option (Option PyData) :=
 (set x δ).bind fun δ1=>(tif δ1).bind fun b=>if b=true then(f δ1).map some else some none
def collect(one:PyData→Option (Option PyData)):List PyData→Option (List PyData)
 |[]=>some []
 |x::xs=>(one x).bind fun o=>(collect one xs).map fun r=>o.toList++r
def DD(set:PyData→Dv→Option Dv)(tif:Dv→Option Bool)(f:Dv→Option PyData)(fr:List (Option Nat))(fs:Dv→Option (List PyData))(δ:Dv):Option (List PyData) :=
 (fs δ).bind fun xs=>(collect (Gw set tif f (Bv fr δ)) xs).bind Jh
def B5(set:PyData→Dv→Option Dv)(tif:Dv→Option Bool)(f:Dv→Option PyData)(fr:List (Option Nat))(fs:Dv→Option (List PyData))(δ:Dv):Option PyData :=
 (DD set tif f fr fs δ).map .list
structure SW(G0 H0 Ga:Hp)(σ:St)(δ:Dv)(ts:List (PyData×V))(one:PyData→Option (Option PyData))(xs full:List PyData)(D:Addr)(i:Nat)(ys:List V)(H:Hp):Prop where
 ex:∃G done rest,Rw G0 H0 G H σ δ ts∧AG Ga G∧G D=none∧collect one (xs.drop i)=some rest∧done++rest=full∧An G done ys
 h0:H0 D=none
 ap:∀(j:Nat) (us:Oc),δ[j]? = some (L.own us)→σ[j]?≠some (some (V.ref D))
theorem M4{G0 H0 G H:Hp}{D:Addr}{ys:List V}(hG:G0 D=none)(hD:H0 D=some (.lst ys))(n:Nw G0 H0 G)(e:AG G H)(k:AG H0 H):G D=none:=by
 cases q:G D with
 |none=>rfl
 |some o =>
  rcases n _ _ q with z|z|⟨us,z⟩
  ·rw[hG]at z;cases z
  ·rw[hD]at z;cases z
  ·have:=e _ _ q;rw[k _ _ hD,z]at this;cases this
section
variable{X:Cx}{elt iter:Expr}{x y:Str}{px pos:Pos}{ifs:List Expr}{scope:Scope}{fs:Dv→Option (List PyData)}{tif:Dv→Option Bool}{f:Dv→Option PyData}
def Ca(i:Nat)(y:PyData)(δ:Dv):Option Dv:=some (δ.set i (.d y))
theorem MK{wi:TI}{ix:Nat}{fr:List (Option Nat)}(ki:∀(δ:Dv) (xs:List PyData),fs δ=some xs→∀(G0 H0 G H:Hp) (σ:St) (ts:List (PyData×V)) (R:It→Hp→Prop),Rw G0 H0 G H σ δ ts→(∀J G' H',Rw G0 H0 G' H' σ δ ts→HS J xs G'→R J H')→wi σ H R){δ:Dv}{zs:List PyData}(hz:DD (Ca ix) tif f fr fs δ=some zs){G0 H0 G H:Hp}{σ:St}{ts:List (PyData×V)}{Q:VK}(R0:Rw G0 H0 G H σ δ ts)(k:∀D ys G' H',Rw G0 H0 G' H' σ δ ts→H' D=some (.lst ys)→G' D=none→H0 D=none→(∀(j:Nat) (us:Oc),δ[j]? = some (L.own us)→σ[j]?≠some (some (V.ref D)))→An G' zs ys→Q (.ref D) H') :
  K1 wi fr ix (VG tif) (tD f) σ H Q:=by
 unfold DD at hz;obtain⟨xs,m2,m3⟩:=aF.mp hz;obtain⟨full,m4,m5⟩:=aF.mp m3;obtain⟨rfl,hfew⟩:=Ml m5;refine ki δ xs m2 G0 H0 G H σ ts _ R0 fun J Ga Ha Ra it D hD=>?_;have hGD:Ga D=none:=by
  cases q:Ga D with
  |none=>rfl
  |some u=>rw[Ra.ins _ _ q]at hD;cases hD
 have hHD:H0 D=none:=by
  cases q:H0 D with
  |none=>rfl
  |some u=>rw[Ra.keep _ _ q]at hD;cases hD
 have hap:∀(j:Nat) (us:Oc),δ[j]? = some (L.own us)→σ[j]?≠some (some (V.ref D)):=fun j us h z=>by
  obtain⟨a,ys,k1,k2,k3,k4,k5⟩:=Ra.own j us h;rw[z]at k1;cases k1;rw[k4]at hD;cases hD
 refine Ce (n:=xs.length) (SW G0 H0 Ga σ δ ts (Gw (Ca ix) tif f (Bv fr δ)) xs full D) ⟨⟨Ga,[],full,Ra.other hGD hHD hap,AG.refl _,hGD,by simpa using m4,rfl,.nil⟩,hHD,hap⟩ ?_ ?_
 ·rintro i ys H1 hlt ⟨⟨G1,done,rest,R1,s1,g1,c1,e1,d1⟩,_,_⟩ hD1;have hx:xs[i]? = some xs[i]:=by simp[hlt]
  have sH:=s1.trans R1.ins;have hyl:ys.length<sizeLine:=So (by
   rw[d1.len];have:done.length≤full.length:=by rw[←e1];simp
   lia)
  refine⟨it.go i _ H1 hx sH,hyl,fun v H' y=>?_⟩;obtain⟨G2,n1,n2,n3,n4,n5⟩:=it.Df i _ H1 v H' hx sH y G1 s1 R1.ins;have R2:=R1.lift n1 n2 n3 n4;have hD2:=n4 _ _ hD1;have g2:G2 D=none:=M4 g1 hD1 n2 n3 n4;rw[List.drop_eq_getElem_cons hlt]at c1;unfold collect at c1;obtain⟨o,c2,c3⟩:=aF.mp c1;obtain⟨rest',c4,rfl⟩:=aH.mp c3;unfold Gw Ca at c2;simp only[Option.bind_some]at c2;obtain⟨b,c5,c6⟩:=aF.mp c2;have Ri:=((R2.inner fr).put n5).JU (i:=ix);have Ri0:Rw G2 H' G2 H' ((carry fr σ).set ix (some v)) ((Bv fr δ).set ix (.d xs[i])) []:=Ri.less fun q hq=>by cases hq
  refine⟨_,b,G2,H',G2,[],c5,Ri0,fun G3 H3 R3=>?_⟩;have R3o:=R2.lift R3.ext R3.new R3.ins R3.keep;have hD3:=R3.keep _ _ hD2;have g3:G3 D=none:=M4 g2 hD2 R3.new R3.ins R3.keep;dsimp only;split
  ·rename_i hb;rw[if_pos hb]at c6;obtain⟨w,c7,rfl⟩:=aH.mp c6;refine⟨_,w,G2,H',G3,[],c7,R3,fun u G4 H4 R4=>?_⟩;have R4o:=R2.lift R4.ext R4.new R4.ins R4.keep;have hD4:=R4.keep _ _ hD2;have g4:G4 D=none:=M4 g2 hD2 R4.new R4.ins R4.keep;refine⟨hD4,BZ hlt ⟨⟨G4,done++[w],rest',R4o.other g4 hHD hap,s1.trans (n1.trans R4.ext),g4,c4,by simpa using e1,(d1.same (n1.trans R4.ext)).app (.cons (R4.Bq _ (.head _)) .nil)⟩,hHD,hap⟩⟩
  ·rename_i hb;rw[if_neg hb]at c6;cases c6;exact SN hlt hD3 ⟨⟨G3,done,rest',R3o,s1.trans (n1.trans R3.ext),g3,c4,by simpa using e1,d1.same (n1.trans R3.ext)⟩,hHD,hap⟩
 ·rintro ys H1 ⟨⟨G1,done,rest,R1,s1,g1,c1,e1,d1⟩,_,_⟩ hD1;refine⟨it.stop H1 (s1.trans R1.ins),?_⟩;rw[List.drop_length]at c1;cases c1;rw[List.append_nil]at e1;subst e1;exact k _ _ _ _ R1 hD1 g1 hHD hap d1
theorem N0{wi:TI}{ix:Nat}{fr:List (Option Nat)}(ki:∀(δ:Dv) (xs:List PyData),fs δ=some xs→∀(G0 H0 G H:Hp) (σ:St) (ts:List (PyData×V)) (R:It→Hp→Prop),Rw G0 H0 G H σ δ ts→(∀J G' H',Rw G0 H0 G' H' σ δ ts→HS J xs G'→R J H')→wi σ H R){δ:Dv}{z:PyData}(hz:B5 (Ca ix) tif f fr fs δ=some z){G0 H0 G H:Hp}{σ:St}{ts:List (PyData×V)}{Q:VK}(R0:Rw G0 H0 G H σ δ ts)(k:∀v G' H',Rw G0 H0 G' H' σ δ ((z,v)::ts)→Q v H') :
  K1 wi fr ix (VG tif) (tD f) σ H Q:=by
 unfold B5 at hz;obtain⟨full,m1,rfl⟩:=aH.mp hz;refine MK ki m1 R0 fun D ys G1 H1 R1 hD1 g1 hHD hap d1=>?_;have e:AG G1 (upd G1 D (.lst ys)):=AN g1 _;have R2:=R1.adopt hD1 g1 hHD hap;refine k _ _ _ (R2.put ?_);rw[Du];exact⟨D,ys,rfl,AI,d1.same e⟩
theorem ND(N:List Str)(ix:Nat)(fr:List (Option Nat))(hi:DI X (.Name x px) iter fs)(hif:∀cl C s₀ H₀ fp,UU (Ak X scope cl N C s₀ H₀ fp) ifs tif)(he:∀cl C s₀ H₀ fp,DE (Ak X scope cl N C s₀ H₀ fp) elt f)
 (h1:BO scope N x ix=true:=by decide +kernel)(h2:X.calm=true:=by rfl)(h3:DZ N X.N scope X.env.scope fr 0=true:=by rfl)(h4:fr.length=N.length:=by rfl)(h5:freeOk X.env.scope scope.names=true:=by rfl)
 (hs:∀x,foldedSetIterable iter X.env x=pure x:=by intro _;rfl):DE X (.ListComp elt [⟨.Name x px,iter,ifs,0⟩] scope pos) (B5 (Ca ix) tif f fr fs):=by
 obtain⟨wi,pi,ki⟩:=hi;exact⟨_,DC N ix fr pi hif (fun cl C s₀ H₀ fp=>(he cl C s₀ H₀ fp).pe) h1 h2 h3 h4 h5 hs,fun δ z hz G0 H0 G H σ ts Q R0 k=>N0 ki hz R0 k⟩
theorem S6{i:Nat}{z:Str}{pz spos:Pos}(N:List Str)(ix:Nat)(fr:List (Option Nat))(hN:X.N.Nodup)(hy:X.N[i]? = some z)(hly:X.env.scope.names.lookup z=some .local)(hi:DI X (.Name x px) iter fs)(hif:∀cl C s₀ H₀ fp,UU (Ak X scope cl N C s₀ H₀ fp) ifs tif)(he:∀cl C s₀ H₀ fp,DE (Ak X scope cl N C s₀ H₀ fp) elt f)
 (h1:BO scope N x ix=true:=by decide +kernel)(h2:X.calm=true:=by rfl)(h3:DZ N X.N scope X.env.scope fr 0=true:=by rfl)(h4:fr.length=N.length:=by rfl)(h5:freeOk X.env.scope scope.names=true:=by rfl)
 (hsw:swapsWith (.ListComp elt [⟨.Name x px,iter,ifs,0⟩] scope pos) (some (.Name z pz)) spos.line X.env=pure true:=by rfl)
 (hs:∀x,foldedSetIterable iter X.env x=pure x:=by intro _;rfl):DS X (.Assign [.Name z pz] (.ListComp elt [⟨.Name x px,iter,ifs,0⟩] scope pos) spos) (fun δ=>(B5 (Ca ix) tif f fr fs δ).map fun y=>.nx (δ.set i (.d y))):=by
 obtain⟨wi,pi,ki⟩:=hi;refine⟨_,Em N ix fr hN hy hly pi hif (fun cl C s₀ H₀ fp=>(he cl C s₀ H₀ fp).pe) h1 h2 h3 h4 h5 hsw hs,fun δ r h G0 H0 G H σ D R q=>?_⟩;obtain⟨y,h1,rfl⟩:=aH.mp h;exact N0 ki h1 R fun v G' H' R'=>q _ _ _ R'.JU
end
section
variable{X:Cx}{elt iter:Expr}{x y:Str}{px py tp pos:Pos}{tk:Nat}{ifs:List Expr}{scope:Scope}{fs:Dv→Option (List PyData)}{tif:Dv→Option Bool}{f:Dv→Option PyData}
theorem RT{wi:TI}{ix iy:Nat}{fr:List (Option Nat)}(ki:∀(δ:Dv) (xs:List PyData),fs δ=some xs→∀(G0 H0 G H:Hp) (σ:St) (ts:List (PyData×V)) (R:It→Hp→Prop),Rw G0 H0 G H σ δ ts→(∀J G' H',Rw G0 H0 G' H' σ δ ts→HS J xs G'→R J H')→wi σ H R){δ:Dv}{zs:List PyData}(hz:DD (DP ix iy) tif f fr fs δ=some zs){G0 H0 G H:Hp}{σ:St}{ts:List (PyData×V)}{Q:VK}(R0:Rw G0 H0 G H σ δ ts)(k:∀D ys G' H',Rw G0 H0 G' H' σ δ ts→H' D=some (.lst ys)→G' D=none→H0 D=none→(∀(j:Nat) (us:Oc),δ[j]? = some (L.own us)→σ[j]?≠some (some (V.ref D)))→An G' zs ys→Q (.ref D) H') :
  JB X.K wi fr ix iy (VG tif) (tD f) σ H Q:=by
 unfold DD at hz;obtain⟨xs,m2,m3⟩:=aF.mp hz;obtain⟨full,m4,m5⟩:=aF.mp m3;obtain⟨rfl,hfew⟩:=Ml m5;refine ki δ xs m2 G0 H0 G H σ ts _ R0 fun J Ga Ha Ra it D hD=>?_;have hGD:Ga D=none:=by
  cases q:Ga D with
  |none=>rfl
  |some u=>rw[Ra.ins _ _ q]at hD;cases hD
 have hHD:H0 D=none:=by
  cases q:H0 D with
  |none=>rfl
  |some u=>rw[Ra.keep _ _ q]at hD;cases hD
 have hap:∀(j:Nat) (us:Oc),δ[j]? = some (L.own us)→σ[j]?≠some (some (V.ref D)):=fun j us h z=>by
  obtain⟨a,ys,k1,k2,k3,k4,k5⟩:=Ra.own j us h;rw[z]at k1;cases k1;rw[k4]at hD;cases hD
 refine F3 (n:=xs.length) (SW G0 H0 Ga σ δ ts (Gw (DP ix iy) tif f (Bv fr δ)) xs full D) ⟨⟨Ga,[],full,Ra.other hGD hHD hap,AG.refl _,hGD,by simpa using m4,rfl,.nil⟩,hHD,hap⟩ ?_ ?_
 ·rintro i ys H1 hlt ⟨⟨G1,done,rest,R1,s1,g1,c1,e1,d1⟩,_,_⟩ hD1;have hx:xs[i]? = some xs[i]:=by simp[hlt]
  have sH:=s1.trans R1.ins;have hyl:ys.length<sizeLine:=So (by
   rw[d1.len];have:done.length≤full.length:=by rw[←e1];simp
   lia)
  refine⟨it.go i _ H1 hx sH,hyl,fun v H' y=>?_⟩;obtain⟨G2,n1,n2,n3,n4,n5⟩:=it.Df i _ H1 v H' hx sH y G1 s1 R1.ins;have R2:=R1.lift n1 n2 n3 n4;have hD2:=n4 _ _ hD1;have g2:G2 D=none:=M4 g1 hD1 n2 n3 n4;rw[List.drop_eq_getElem_cons hlt]at c1;unfold collect at c1;obtain⟨o,c2,c3⟩:=aF.mp c1;obtain⟨rest',c4,rfl⟩:=aH.mp c3;unfold Gw at c2;obtain⟨δ1,c8,c9⟩:=aF.mp c2;obtain⟨b,c5,c6⟩:=aF.mp c9;unfold DP at c8;split at c8
  ·rename_i u1 u2 hu;cases c8;rw[hu,Du]at n5;obtain⟨pa,ps,rfl,q1,q2⟩:=n5;obtain⟨w1,w2,rfl,q3,q4⟩:=q2.LM;have Ri:=(((R2.inner fr).put q4).put q3).JU (i:=ix) |>.JU (i:=iy)
   have Ri0:Rw G2 H' G2 H' (((carry fr σ).set ix (some w1)).set iy (some w2)) (((Bv fr δ).set ix (.d u1)).set iy (.d u2)) []:=Ri.less fun q hq=>by cases hq
   refine⟨pa,w1,w2,rfl,Ap.of (n3 _ _ q1),?_⟩;refine⟨_,b,G2,H',G2,[],c5,Ri0,fun G3 H3 R3=>?_⟩;have R3o:=R2.lift R3.ext R3.new R3.ins R3.keep;have hD3:=R3.keep _ _ hD2;have g3:G3 D=none:=M4 g2 hD2 R3.new R3.ins R3.keep;dsimp only;split
   ·rename_i hb;rw[if_pos hb]at c6;obtain⟨w,c7,rfl⟩:=aH.mp c6;refine⟨_,w,G2,H',G3,[],c7,R3,fun u G4 H4 R4=>?_⟩;have R4o:=R2.lift R4.ext R4.new R4.ins R4.keep;have hD4:=R4.keep _ _ hD2;have g4:G4 D=none:=M4 g2 hD2 R4.new R4.ins R4.keep;refine⟨hD4,BZ hlt ⟨⟨G4,done++[w],rest',R4o.other g4 hHD hap,s1.trans (n1.trans R4.ext),g4,c4,by simpa using e1,(d1.same (n1.trans R4.ext)).app (.cons (R4.Bq _ (.head _)) .nil)⟩,hHD,hap⟩⟩
   ·rename_i hb;rw[if_neg hb]at c6;cases c6;exact SN hlt hD3 ⟨⟨G3,done,rest',R3o,s1.trans (n1.trans R3.ext),g3,c4,by simpa using e1,d1.same (n1.trans R3.ext)⟩,hHD,hap⟩
  ·cases c8
 ·rintro ys H1 ⟨⟨G1,done,rest,R1,s1,g1,c1,e1,d1⟩,_,_⟩ hD1;refine⟨it.stop H1 (s1.trans R1.ins),?_⟩;rw[List.drop_length]at c1;cases c1;rw[List.append_nil]at e1;subst e1;exact k _ _ _ _ R1 hD1 g1 hHD hap d1
theorem TJ{wi:TI}{ix iy:Nat}{fr:List (Option Nat)}(ki:∀(δ:Dv) (xs:List PyData),fs δ=some xs→∀(G0 H0 G H:Hp) (σ:St) (ts:List (PyData×V)) (R:It→Hp→Prop),Rw G0 H0 G H σ δ ts→(∀J G' H',Rw G0 H0 G' H' σ δ ts→HS J xs G'→R J H')→wi σ H R){δ:Dv}{z:PyData}(hz:B5 (DP ix iy) tif f fr fs δ=some z){G0 H0 G H:Hp}{σ:St}{ts:List (PyData×V)}{Q:VK}(R0:Rw G0 H0 G H σ δ ts)(k:∀v G' H',Rw G0 H0 G' H' σ δ ((z,v)::ts)→Q v H') :
  JB X.K wi fr ix iy (VG tif) (tD f) σ H Q:=by
 unfold B5 at hz;obtain⟨full,m1,rfl⟩:=aH.mp hz;refine RT ki m1 R0 fun D ys G1 H1 R1 hD1 g1 hHD hap d1=>?_;have e:AG G1 (upd G1 D (.lst ys)):=AN g1 _;have R2:=R1.adopt hD1 g1 hHD hap;refine k _ _ _ (R2.put ?_);rw[Du];exact⟨D,ys,rfl,AI,d1.same e⟩
theorem RM{i:Nat}{z:Str}{pz spos:Pos}(N:List Str)(ix iy:Nat)(fr:List (Option Nat))(hN:X.N.Nodup)(hyi:X.N[i]? = some z)(hly:X.env.scope.names.lookup z=some .local)(hi:DI X (.Tuple [.Name x px,.Name y py] tk tp) iter fs)(hif:∀cl C s₀ H₀ fp,UU (Ak X scope cl N C s₀ H₀ fp) ifs tif)(he:∀cl C s₀ H₀ fp,DE (Ak X scope cl N C s₀ H₀ fp) elt f)
 (h1:BO scope N x ix=true:=by decide +kernel)(h1':BO scope N y iy=true:=by decide +kernel)(hxy:ix≠iy:=by decide)(h2:X.calm=true:=by rfl)(h3:DZ N X.N scope X.env.scope fr 0=true:=by rfl)(h4:fr.length=N.length:=by rfl)(h5:freeOk X.env.scope scope.names=true:=by rfl)
 (hsw:swapsWith (.ListComp elt [⟨.Tuple [.Name x px,.Name y py] tk tp,iter,ifs,0⟩] scope pos) (some (.Name z pz)) spos.line X.env=pure true:=by rfl)
 (hs:∀x,foldedSetIterable iter X.env x=pure x:=by intro _;rfl):DS X (.Assign [.Name z pz] (.ListComp elt [⟨.Tuple [.Name x px,.Name y py] tk tp,iter,ifs,0⟩] scope pos) spos) (fun δ=>(B5 (DP ix iy) tif f fr fs δ).map fun y=>.nx (δ.set i (.d y))):=by
 obtain⟨wi,pi,ki⟩:=hi;refine⟨_,Km N ix iy fr hN hyi hly pi hif (fun cl C s₀ H₀ fp=>(he cl C s₀ H₀ fp).pe) h1 h1' hxy h2 h3 h4 h5 hsw hs,fun δ r h G0 H0 G H σ D R q=>?_⟩;obtain⟨y2,m1,rfl⟩:=aH.mp h;exact TJ ki m1 R fun v G' H' R'=>q _ _ _ R'.JU
def KY(N:List Str)(ds:List PyData):Dv:=ds.map .d++List.replicate (N.length-ds.length) .no
def Gv(ps N:List Str)(F:DF)(ds:List PyData):Option PyData:=if ds.length=ps.length then(match F (KY N ds) with
 |some (.rt x)=>some x
 |some (.nx _)=>some .none
 |some (.rn xs)=>some (.list xs)
 |_=>none) else none
theorem Rw.start{N:List Str}{ds:List PyData}{vs:List V}{G H:Hp}(d:An G ds vs)(e:AG G H):Rw G H G H (start N vs) (KY N ds) []:=by
 have hl:=d.len;refine⟨AG.refl _,Nw.refl,e,AG.refl _,by simp[L2.start,KY,hl],fun i x h=>?_,fun i xs h=>?_,fun i j xs ys _ h=>?_,fun q hq=>by cases hq⟩
 ·unfold KY at h;by_cases hi:i<ds.length
  ·rw[List.getElem?_append_left (by simpa using hi),List.getElem?_map]at h;obtain⟨y,h1,h2⟩:=aH.mp h;cases h2;obtain⟨v,h3,h4⟩:=d.get h1;refine⟨v,?_,h4⟩;unfold L2.start;rw[List.getElem?_append_left (by simp;lia),List.getElem?_map,h3];rfl
  ·rw[List.getElem?_append_right (by simpa using hi),List.getElem?_replicate]at h;split at h<;>cases h
 ·unfold KY at h;by_cases hi:i<ds.length
  ·rw[List.getElem?_append_left (by simpa using hi),List.getElem?_map]at h;obtain⟨y,h1,h2⟩:=aH.mp h;cases h2
  ·rw[List.getElem?_append_right (by simpa using hi),List.getElem?_replicate]at h;split at h<;>cases h
 ·unfold KY at h;by_cases hi:i<ds.length
  ·rw[List.getElem?_append_left (by simpa using hi),List.getElem?_map]at h;obtain⟨y,h1,h2⟩:=aH.mp h;cases h2
  ·rw[List.getElem?_append_right (by simpa using hi),List.getElem?_replicate]at h;split at h<;>cases h
theorem di{G H G' H':Hp}{a:Addr}{ys:List V}{xs:List PyData}(m1:AG G G')(m2:Nw G H G')(m3:AG G' H')(m5:H a=none)(m6:G' a=none)(m7:H' a=some (.lst ys))(m8:An G' xs ys) :
  AG G (upd G' a (.lst ys))∧Nw G H (upd G' a (.lst ys))∧AG (upd G' a (.lst ys)) H'∧Du (upd G' a (.lst ys)) (.list xs) (.ref a):=by
 refine⟨m1.trans (AN m6 _),fun b o hb=>?_,fun b o hb=>?_,?_⟩
 ·by_cases z:b=a
  ·subst z;exact .inr (.inl m5)
  ·rw[AE z]at hb;exact m2 _ _ hb
 ·by_cases z:b=a
  ·subst z;rw[AI]at hb;rw[m7];exact hb
  ·rw[AE z]at hb;exact m3 _ _ hb
 ·rw[Du];exact⟨a,ys,rfl,AI,m8.same (AN m6 _)⟩
theorem VO{P:Program}{w:World}{K:PySem.W.Frag}{mg:Str→Option Value}{base:Heap}{x:Str}{st:Stmt}{fA:Addr}{fd:FuncData}{N ps:List Str}{k:Nat}{F:DF}(T:Fn K mg x st ps fA fd)(S:Ad N ps (AM st))
 (hb:∀(cdv:Value) (A:Around) (outer:List Env) (s:Shared) (H:Hp) (E:XK),C7 k (A.deeper (envOfC x (AM st) s.heap.objs.size fA cdv))→LO (KA Ac P w K mg base N x (AM st) fA cdv A outer s H E).Si (Cu st) F) :
  AL P w K mg base Ac (k+1) fA fd ps (EY (Gv ps N F)):=by
 refine T.F.ok S (fun vs H Q E h=>?_) fun cdv A outer s H vs Q E hr h=>?_
 ·obtain⟨ds,y,G,h1,h2,_⟩:=h;unfold Gv at h1;split at h1
  ·rename_i hl;rw[h2.len];exact hl
  ·cases h1
 ·obtain⟨ds,y,G,h1,h2,h3,h4⟩:=h;obtain⟨t,p,kk⟩:=hb cdv A outer s H E hr;refine⟨t,p,?_⟩;unfold Gv at h1;split at h1
  ·split at h1
   ·rename_i z e1;cases h1;exact kk _ _ e1 G H G H _ _ (Rw.start h2 h3) fun v G' H' m1 m2 m3 m4 m5=>h4 v G' H' m1 m2 m3 m4 m5
   ·rename_i δ e1;cases h1;exact kk _ _ e1 G H G H _ _ (Rw.start h2 h3) fun σ' G' H' R=>h4 .BA G' H' R.ext R.new R.ins R.keep (by rw[Du])
   ·rename_i xs e1;cases h1;exact kk _ _ e1 G H G H _ _ (Rw.start h2 h3) fun a ys G' H' m1 m2 m3 m4 m5 m6 m7 m8=>let⟨n1,n2,n3,n4⟩:=di m1 m2 m3 m5 m6 m7 m8;h4 _ _ H' n1 n2 n3 m4 n4
   ·cases h1
  ·cases h1
end
section
variable{X:Cx}{a e:Expr}{f h:Dv→Option PyData}{pos p p2:Pos}   
def DO(X:Cx)(o:Option Expr)(f:Dv→Option (Option Int)):Prop:=∃t,PO X o t∧∀δ x,f δ=some x→∀G0 H0 G H σ ts (Q:Option Int→Hp→Prop),Rw G0 H0 G H σ δ ts→(∀G' H',Rw G0 H0 G' H' σ δ ts→Q x H')→t σ H Q
variable{fo fu:Dv→Option (Option Int)}{lo hi:Option Expr}
theorem Rn:DO X none (fun _=>some none):=⟨_,Iw,fun δ x h G0 H0 G H σ ts Q r k=>by cases h;exact k _ _ r⟩
theorem SR(he:DE X e f):DO X (some e) (fun δ=>(f δ).bind fun x=>(QR x).map some):=by
 obtain⟨t,p,k⟩:=he;refine⟨_,Iy p,fun δ z h G0 H0 G H σ ts Q r q=>?_⟩;obtain⟨x,h1,h2⟩:=aF.mp h;obtain⟨i,h3,rfl⟩:=aH.mp h2;have:=PJ h3;subst this;refine k δ _ h1 G0 H0 G H σ ts _ r fun v G' H' R'=>?_;have hv:=R'.Bq _ (.head _);rw[Du]at hv;exact⟨i,hv,q _ _ R'.drop⟩
def cutD(xs:List PyData)(lo hi:Option Int):List PyData:=(xs.drop (HT.A6 xs.length 0 lo)).take (HT.A6 xs.length xs.length hi-HT.A6 xs.length 0 lo)
theorem An.cut{H:Hp}{ds:List PyData}{xs:List V}(h:An H ds xs)(lo hi:Option Int):An H (cutD ds lo hi) (Bo xs lo hi):=by
 unfold cutD Bo;rw[h.len];exact(h.drop _).take _
def T2(x:PyData)(lo hi:Option Int):Option PyData:=match x with
 |.list xs=>some (.list (cutD xs lo hi))
 |.tuple xs=>if ¬(HT.A6 xs.length 0 lo=0∧HT.A6 xs.length xs.length hi=xs.length) then some (.tuple (cutD xs lo hi)) else none
 |_=>none
theorem Qf(he:DE X e f)(hl:DO X lo fo)(hh:DO X hi fu):DE X (.Subscript e (.Slice lo hi none p2) pos) (fun δ=>(f δ).bind fun x=>(fo δ).bind fun l=>(fu δ).bind fun u=>T2 x l u):=by
 obtain⟨te,pe,ke⟩:=he;obtain⟨tl,pl,kl⟩:=hl;obtain⟨th,ph,kh⟩:=hh;refine⟨_,Hh (Nk.or Ql) pe pl ph,fun δ z hz G0 H0 G H σ ts Q R0 k=>?_⟩;obtain⟨x,h1,h2⟩:=aF.mp hz;obtain⟨l,h3,h4⟩:=aF.mp h2;obtain⟨u,h5,h6⟩:=aF.mp h4;refine ke δ x h1 G0 H0 G H σ ts _ R0 fun v G1 H1 R1=>?_;refine kl δ l h3 G0 H0 G1 H1 σ _ _ R1 fun G2 H2 R2=>?_;refine kh δ u h5 G0 H0 G2 H2 σ _ _ R2 fun G3 H3 R3=>?_;have du:=R3.Bq _ (.head _);unfold T2 at h6;split at h6
 ·cases h6;rw[Du]at du;obtain⟨a,ys,rfl,n1,n2⟩:=du;exact .inl ⟨a,ys,rfl,AQ.of (R3.ins _ _ n1),fun q hq=>k _ _ _ (R3.drop.Zh (n2.cut l u) hq)⟩
 ·split at h6
  ·rename_i hc;cases h6;rw[Du]at du;obtain⟨a,ys,rfl,n1,n2⟩:=du;exact .inr ⟨a,ys,rfl,Ap.of (R3.ins _ _ n1),by rw[n2.len];exact hc,fun q hq=>k _ _ _ (R3.drop.Z8 (n2.cut l u) hq)⟩
  ·cases h6
 ·cases h6
end
open PySem
abbrev fC(x:PyData):Dv→Option PyData:=fun _=>some x
abbrev Am:Dv→Option (List PyData):=fun _=>some []
abbrev AJ(f:Dv→Option PyData)(fs:Dv→Option (List PyData)):Dv→Option (List PyData):=fun δ=>(f δ).bind fun x=>(fs δ).map fun xs=>x::xs
abbrev Il(fs:Dv→Option (List PyData)):Dv→Option PyData:=fun δ=>((fs δ).bind Jh).map .tuple
abbrev ZM(fs:Dv→Option (List PyData)):Dv→Option PyData:=fun δ=>((fs δ).bind Jh).map .list
abbrev BF(m:List PyData→Option PyData)(fs:Dv→Option (List PyData)):Dv→Option PyData:=fun δ=>(fs δ).bind m
abbrev cJ(q:PyData→Bool)(f:Dv→Option PyData):Dv→Option PyData:=fun δ=>(f δ).bind (TK q)
abbrev VE(i:Nat)(g:Dv→Option PyData):Dv→Option PyData:=fun δ=>(g δ).bind fun y=>(ow i δ).bind fun xs=>(QR y).bind fun k=>Cy xs k
abbrev MZ:Dv→Option (Option Int):=fun _=>some none
abbrev MC(f:Dv→Option PyData):Dv→Option (Option Int):=fun δ=>(f δ).bind fun x=>(QR x).map some
abbrev QA(f:Dv→Option PyData)(fo fu:Dv→Option (Option Int)):Dv→Option PyData:=fun δ=>(f δ).bind fun x=>(fo δ).bind fun l=>(fu δ).bind fun u=>T2 x l u
abbrev PU(f:Dv→Option PyData):Dv→Option Bool:=fun δ=>(f δ).bind OC
abbrev NN(o:PyData→PyData→Option PyData)(f g:Dv→Option PyData):Dv→Option Bool:=fun δ=>(Az o f g δ).bind OC
abbrev QJ(f:Dv→Option Bool):Dv→Option Bool:=fun δ=>(f δ).map fun c=>!c
abbrev Xa(f g:Dv→Option Bool):Dv→Option Bool:=fun δ=>(f δ).bind fun c=>if c=true then some true else g δ
abbrev Ig(f:Dv→Option PyData):Dv→Option (List PyData):=fun δ=>(f δ).bind JT
abbrev Bn(m:List PyData→Option (List PyData))(fs:Dv→Option (List PyData)):Dv→Option (List PyData):=fun δ=>(fs δ).bind m
abbrev DN:Dv→Option Bool:=fun _=>some true
abbrev KU(i:Nat):PyData→Dv→Option Dv:=fun y δ=>some (δ.set i (.d y))
abbrev LA:DF:=fun δ=>some (.nx δ)
abbrev Gy(f:Dv→Option PyData):DF:=fun δ=>(f δ).map .rt
abbrev PM(c:Dv→Option Bool)(F G:DF):DF:=fun δ=>(c δ).bind fun c=>if c=true then F δ else G δ
abbrev IW(i:Nat)(f:Dv→Option PyData):DF:=fun δ=>(f δ).map fun y=>.nx (δ.set i (.d y))
abbrev Fq(fs:Dv→Option (List PyData))(set:PyData→Dv→Option Dv)(F:DF):DF:=fun δ=>(fs δ).bind fun xs=>Ih set F xs δ
theorem Na{P:Program}{w:World}{K:PySem.W.Frag}{mg:Str→Option Value}{base:Heap}{CX:Hl}{k:Nat}{f:Addr}{fd:FuncData}{ps:List Str}{sp:Sp}{m:List PyData→Option PyData}(F:AL P w K mg base CX k f fd ps sp)
 (h:∀ds x,m ds=some x→∀(G H:Hp) (vs:List V) (Q:VK) (E:XK),An G ds vs→AG G H→(∀v G' H',AG G G'→Nw G H G'→AG G' H'→AG H H'→Du G' x v→Q v H')→sp vs H Q E):AL P w K mg base CX k f fd ps (EY m) :=
 F.imp fun vs H Q E z=>by
  obtain⟨ds,x,G,h1,h2,h3,h4⟩:=z;exact h ds x h1 G H vs Q E h2 h3 h4
section
variable{X:Cx}{a e:Expr}{f g h:Dv→Option PyData}{pos:Pos}
abbrev Tz(i:Nat)(f g:Dv→Option PyData):DF:=fun δ=>(f δ).bind fun y=>(g δ).bind fun k=>(ow i δ).bind fun xs=>(QR k).bind fun n=>(Jq xs.length n).map fun j=>.nx (δ.set i (.own (.lst (xs.set j y))))
theorem An.set{H:Hp}{d:PyData}{v:V}(hd:Du H d v):∀ {ds:List PyData} {xs:List V} (j:Nat),An H ds xs→An H (ds.set j d) (xs.set j v)
 |[],_,_,h=>by rw[h.nil_eq];exact .nil
 |_::_,_,0,h=>by obtain⟨x,r,rfl,_,h2⟩:=h.un;exact .cons hd h2
 |_::_,_,j+1,h=>by obtain⟨x,r,rfl,h1,h2⟩:=h.un;exact .cons h1 (An.set hd j h2)
theorem cI{i:Nat}{x:Str}{np sp:Pos}(hv:PE X (.Name x np) (NI i))(hk:DE X a g)(he:DE X e f)
 (hP:∀ {te to ti:TE},PE X e te→PE X (.Name x np) to→PE X a ti→PS X (.Assign [.Subscript (.Name x np) a sp] e pos) (Lc te (b5 to ti XZ))):DS X (.Assign [.Subscript (.Name x np) a sp] e pos) (Tz i f g):=by
 obtain⟨te,pe,ke⟩:=he;obtain⟨tk,pk,kk⟩:=hk;refine⟨_,hP pe hv pk,fun δ r h G0 H0 G H σ D R q=>?_⟩;obtain⟨y,h1,h2⟩:=aF.mp h;obtain⟨n,h3,h4⟩:=aF.mp h2;obtain⟨xs,h5,h6⟩:=aF.mp h4;obtain⟨m,h7,h8⟩:=aF.mp h6;obtain⟨j,h9,rfl⟩:=aH.mp h8;have:=PJ h7;subst this;have hi:=O1 h5;refine ke δ y h1 G0 H0 G H σ [] _ R fun u G1 H1 R1=>?_;obtain⟨ad,_,k1,k2,k3,k4,⟨ys,rfl,k5⟩⟩:=R1.own i _ hi;refine⟨.ref ad,k1,?_⟩;refine kk δ _ h3 G0 H0 G1 H1 σ _ _ R1 fun v G2 H2 R2=>?_;have dv:=R2.Bq (.int m,v) (.head _);rw[Du]at dv;obtain⟨ad',_,m1,m2,m3,m4,⟨zs,rfl,m5⟩⟩:=R2.own i _ hi;rw[k1]at m1;cases m1;refine⟨ad,zs,m,j,rfl,dv,m4,by rw[m5.len];exact h9,?_⟩;exact q _ _ _ (R2.drop.drop.eE hi k1 ⟨_,rfl,m5.set (R2.Bq (y,u) (.tail _ (.head _))) j⟩)
end
def W2:L→L
 |.own (.lst xs)=>.d (.list xs)
 |.own (.UN kvs)=>.d (cg kvs)
 |.own _=>.no
 |l=>l
def Ht(δ:Dv):Dv:=δ.map W2
section
variable{G0 H0 G H:Hp}{σ:St}{δ:Dv}{ts:List (PyData×V)}
theorem Rw.Ht(r:Rw G0 H0 G H σ δ ts):Rw H H H H σ (L2.Ht δ) ts:=by
 refine⟨AG.refl _,fun _ _ h=>.inl h,AG.refl _,AG.refl _,by rw[L2.Ht,List.length_map];exact r.len,fun i x h=>?_,fun i xs h=>?_,fun i j xs ys _ h=>?_,fun q hq=>(r.Bq q hq).same r.ins⟩
 ·unfold L2.Ht at h;rw[List.getElem?_map]at h;obtain⟨l,h1,h2⟩:=aH.mp h;unfold W2 at h2;split at h2
  ·rename_i xs;cases h2;obtain⟨a,_,k1,k2,k3,k4,⟨ys,rfl,k5⟩⟩:=r.own i _ h1;refine⟨.ref a,k1,?_⟩;rw[Du];exact⟨a,ys,rfl,k4,k5.same r.ins⟩
  ·rename_i kvs;cases h2;obtain⟨a,_,k1,k2,k3,k4,⟨rr,rfl,k5,k6⟩⟩:=r.own i _ h1;refine⟨.ref a,k1,?_⟩;rw[Du,LL];exact .inr (.inr ⟨rfl,rfl,a,rr,rfl,k4,k5,Ji.same r.ins k6⟩)
  ·cases h2
  ·subst h2;obtain⟨v,k1,k2⟩:=r.dat i x h1;exact⟨v,k1,k2.same r.ins⟩
 all_goals
  unfold L2.Ht at h;rw[List.getElem?_map]at h;obtain⟨l,h1,h2⟩:=aH.mp h;unfold W2 at h2;split at h2
  ·cases h2
  ·cases h2
  ·cases h2
  ·rename_i n1 n3 n2;subst h2;cases xs with
   |lst zs=>exact(n1 zs rfl).elim
   |UN zs=>exact(n3 zs rfl).elim
   |IG zs=>exact(n2 (.IG zs) rfl).elim
theorem Rw.on{H':Hp}(r:Rw G0 H0 G H σ δ ts)(e:AG H H'):Rw G0 H0 G H' σ δ ts:=r.lift (AG.refl _) Nw.refl (r.ins.trans e) e
theorem Rw.YZ{i:Nat}{xs:Oc}{ys:HO}{a:Addr}(r:Rw G0 H0 G H σ δ ts)(d:Kj G a xs ys)(ha:H a=some ys)(hG:G a=none)(h0:H0 a=none)(nota:∀(j:Nat) (zs:Oc),δ[j]? = some (L.own zs)→σ[j]?≠some (some (V.ref a))):Rw G0 H0 G H (σ.set i (some (.ref a))) (δ.set i (.own xs)) ts:=by
 have hl:=r.len;have other:∀(j:Nat) (zs:Oc),i≠j→(δ.set i (.own xs))[j]? = some (L.own zs)→δ[j]? = some (L.own zs):=fun j zs hj h=>by rw[List.getElem?_set_ne hj]at h;exact h
 refine⟨r.ext,r.new,r.ins,r.keep,by simp[hl],fun j y h=>?_,fun j zs h=>?_,fun j l us ws hjl h1 h2=>?_,r.Bq⟩
 ·by_cases hj:i=j
  ·subst hj;by_cases hi:i<δ.length
   ·rw[List.getElem?_set_self hi]at h;cases h
   ·rw[List.getElem?_eq_none (by simp;lia)]at h;cases h
  ·rw[List.getElem?_set_ne hj]at h;obtain⟨w,m1,m2⟩:=r.dat j y h;exact⟨w,by rw[List.getElem?_set_ne hj];exact m1,m2⟩
 ·by_cases hj:i=j
  ·subst hj;by_cases hi:i<δ.length
   ·rw[List.getElem?_set_self hi]at h;cases h;exact⟨a,ys,by rw[List.getElem?_set_self (by lia)],hG,h0,ha,d⟩
   ·rw[List.getElem?_eq_none (by simp;lia)]at h;cases h
  ·have h:=other j zs hj h;obtain⟨b,us,m1,m2,m3,m4,m5⟩:=r.own j zs h;exact⟨b,us,by rw[List.getElem?_set_ne hj];exact m1,m2,m3,m4,m5⟩
 ·by_cases hj:i=j
  ·subst hj;have hl2:i≠l:=hjl;have h2:=other l ws hl2 h2;by_cases hi:i<δ.length
   ·rw[List.getElem?_set_self (by lia),List.getElem?_set_ne hl2];exact fun z=>nota l ws h2 z.symm
   ·rw[List.getElem?_eq_none (by simp;lia)]at h1;cases h1
  ·have h1:=other j us hj h1;by_cases hk:i=l
   ·subst hk;by_cases hi:i<δ.length
    ·rw[List.getElem?_set_self (by lia),List.getElem?_set_ne hj];exact fun z=>nota j us h1 z
    ·rw[List.getElem?_eq_none (by simp;lia)]at h2;cases h2
   ·have h2:=other l ws hk h2;rw[List.getElem?_set_ne hj,List.getElem?_set_ne hk];exact r.apart j l us ws hjl h1 h2
end
section
variable{X:Cx}{e:Expr}{f h:Dv→Option PyData}{fa:Dv→Option Bool}{p:Pos}
abbrev Sx(f:Dv→Option Bool):Dv→Option Bool:=fun δ=>f (Ht δ)
theorem Yj(h:DT X e fa):DT X e (Sx fa):=by
 obtain⟨t,p,k⟩:=h;refine⟨t,p,fun δ z hz G0 H0 G H σ ts Q R q=>?_⟩;exact k _ z hz H H H H σ ts Q R.Ht fun G' H' R'=>q _ _ (R.on R'.keep)
end
section
variable{F F1 F2:DF}{δ δ':Dv}{r:Option Ou}{c:Dv→Option Bool}{f g:Dv→Option PyData}{fs:Dv→Option (List PyData)}
theorem D8(h:F1 δ=some (.nx δ'))(k:F2 δ'=r):Dp F1 F2 δ=r:=by unfold Dp;rw[h];exact k
theorem MD(h:c δ=some false)(k:F2 δ=r):PM c F1 F2 δ=r:=by show(c δ).bind _=r;rw[h];exact k
theorem HN{i:Nat}{y:PyData}(h:f δ=some y):IW i f δ=some (.nx (δ.set i (.d y))):=by show(f δ).map _=_;rw[h];rfl
theorem Ky{y:PyData}(h:f δ=some y):Gy f δ=some (.rt y):=by show(f δ).map _=_;rw[h];rfl
theorem DR{o:PyData→PyData→Option PyData}{x y:PyData}{z:Option PyData}(h1:f δ=some x)(h2:g δ=some y)(h3:o x y=z):Az o f g δ=z:=by unfold Az;rw[h1,h2];exact h3
theorem CQ{m:List PyData→Option PyData}{xs:List PyData}{z:Option PyData}(h1:fs δ=some xs)(h2:m xs=z):BF m fs δ=z:=by show(fs δ).bind m=z;rw[h1];exact h2
theorem B7{x:PyData}{xs:List PyData}(h1:f δ=some x)(h2:fs δ=some xs):AJ f fs δ=some (x::xs):=by show(f δ).bind _=_;rw[h1];show(fs δ).map _=_;rw[h2];rfl
theorem Iu{o:PyData→PyData→Option PyData}{x y:PyData}{b:Bool}(h1:f δ=some x)(h2:g δ=some y)(h3:o x y=some (.bool b)):NN o f g δ=some b:=by show(Az o f g δ).bind OC=_;rw[DR h1 h2 h3];rfl
theorem S0{a b:Dv→Option Bool}{q:Option Bool}(h:a δ=some false)(k:b δ=q):Xa a b δ=q:=by show(a δ).bind _=q;rw[h];exact k
theorem NR{a:Dv→Option Bool}{b:Bool}(h:a δ=some b):QJ a δ=some (!b):=by show(a δ).map _=_;rw[h];rfl
theorem Nl{b:Bool}(h:f δ=some (.bool b)):PU f δ=some b:=by show(f δ).bind OC=_;rw[h];rfl
theorem Pu{set:PyData→Dv→Option Dv}(Iv:Nat→Dv→Prop):∀(xs:List PyData) (δ:Dv) (n:Nat),Iv n δ→(∀(i:Nat) (x:PyData) (δ:Dv),xs[i]? = some x→Iv (n+i) δ→∃δ1 δ2,set x δ=some δ1∧F δ1=some (.nx δ2)∧Iv (n+i+1) δ2) →
  ∃δ',Ih set F xs δ=some (.nx δ')∧Iv (n+xs.length) δ'
 |[],δ,n,h,_=>⟨δ,rfl,h⟩
 |x::xs,δ,n,h,k=>by
  obtain⟨δ1,δ2,h1,h2,h3⟩:=k 0 x δ rfl h;obtain⟨δ',h4,h5⟩:=Pu Iv xs δ2 (n+1) h3 fun i y δ hy hv=>by
   have:=k (i+1) y δ (by simpa using hy) (by rw[show n+(i+1)=n+1+i by lia];exact hv);rw[show n+(i+1)+1=n+1+i+1 by lia]at this;exact this
  refine⟨δ',?_,by rw[List.length_cons,show n+(xs.length+1)=n+1+xs.length by lia];exact h5⟩;unfold Ih;rw[h1,Option.bind_some,h2];exact h4
theorem Hk{set:PyData→Dv→Option Dv}{xs:List PyData}(Iv:Nat→Dv→Prop)(hx:fs δ=some xs)(h0:Iv 0 δ)(hs:∀(i:Nat) (x:PyData) (δ:Dv),xs[i]? = some x→Iv i δ→∃δ1 δ2,set x δ=some δ1∧F δ1=some (.nx δ2)∧Iv (i+1) δ2) :
  ∃δ',Fq fs set F δ=some (.nx δ')∧Iv xs.length δ':=by
 obtain⟨δ',h1,h2⟩:=Pu (F:=F) (set:=set) Iv xs δ 0 h0 fun i x δ hx hv=>by
  have:=hs i x δ hx (by simpa using hv)
  simpa using this
 refine⟨δ',?_,by simpa using h2⟩;show(fs δ).bind _=_;rw[hx];exact h1
theorem IZ{one:PyData→Option (Option PyData)}{g:PyData→PyData}:∀ {xs:List PyData},(∀x∈xs,one x=some (some (g x)))→collect one xs=some (xs.map g)
 |[],_=>rfl
 |x::xs,h=>by
  unfold collect;rw[h x (.head _),Option.bind_some,IZ fun y hy=>h y (.tail _ hy)]
  rfl
theorem comp_map{ix:Nat}{fr:List (Option Nat)}{xs:List PyData}{g:PyData→PyData}(hx:fs δ=some xs)(hl:xs.length≤F6)(h:∀x∈xs,f ((Bv fr δ).set ix (.d x))=some (g x)):B5 (Ca ix) DN f fr fs δ=some (.list (xs.map g)):=by
 unfold B5 DD;rw[hx,Option.bind_some,IZ (g:=g) fun x hx=>?_,Option.bind_some,Jh,if_pos (by rw[List.length_map];exact hl)]
 ·rfl
 ·unfold Gw Ca;rw[Option.bind_some];show(some true).bind _=_;rw[Option.bind_some,if_pos rfl,h x hx]
  rfl
end
theorem K7{ps N:List Str}{F:DF}{ds:List PyData}{x:PyData}(hl:ds.length=ps.length)(h:F (KY N ds)=some (.rt x)):Gv ps N F ds=some x:=by unfold Gv;rw[if_pos hl,h]
theorem Sh{lo:Int}{n i:Nat}{x:PyData}(h:(Cs lo n)[i]? = some x):x=.int (lo+(i:Nat))∧i<n:=by
 unfold Cs at h;rw[List.getElem?_map]at h;obtain⟨j,hj,rfl⟩:=aH.mp h;have hl:=(aC.mp hj).1;rw[List.getElem?_range (by simpa using hl)]at hj;cases hj;exact⟨rfl,by simpa using hl⟩
theorem PR{δ:Dv}{f:Dv→Option PyData}{j:Int}(h:f δ=some (.int j))(h0:-1000000≤j)(h1:j≤1000000):Bn Fj (AJ f Am) δ=some (Cs 0 j.toNat):=by
 show(AJ f Am δ).bind Fj=_;rw[B7 h (show Am δ=some [] from rfl)];exact if_pos ⟨h0,h1⟩
theorem O7{n:Nat}{i:Int}(h:i.natAbs<2^n):Kd n i=true:=bP h
theorem Zt{i j:Int}(h:MT i j=true):Kc (.int i) (.int j)=some (.int (i*j)):=by
 show MO S5 Tw (.int i) (.int j)=_;unfold MO;rw[show S5 (.int i) (.int j)=some (.int (i*j)) from if_pos h]
theorem mod_is{i j:Int}(h:0<j):TR (.int i) (.int j)=some (.int (i % j)):=by
 show(if j≠0 then some (PyData.int (i.fmod j)) else none)=_;rw[if_pos (by lia),Int.fmod_eq_emod_of_nonneg _ (by lia)]
abbrev XU(i:Nat):DF:=fun δ=>(ow i δ).map .rn
abbrev XR(i:Nat)(fs:Dv→Option (List PyData)):DF:=fun δ=>(fs δ).map fun ys=>.nx (δ.set i (.own (.lst ys)))
section
variable{X:Cx}{a:Expr}{h:Dv→Option PyData}{pos:Pos}
theorem Xu{i:Nat}{x:Str}{np:Pos}(hv:PE X (.Name x np) (NI i)):DS X (.Return (some (.Name x np)) pos) (XU i):=by
 refine⟨_,Af hv,fun δ r h G0 H0 G H σ D R q=>?_⟩;obtain⟨xs,h1,rfl⟩:=aH.mp h;obtain⟨a,_,k1,k2,k3,k4,⟨ys,rfl,k5⟩⟩:=R.own i _ (O1 h1);exact⟨.ref a,k1,q a ys G H R.ext R.new R.ins R.keep k3 k2 k4 k5⟩
end
section
variable{X:Cx}{elt iter:Expr}{x:Str}{px pos spos:Pos}{ifs:List Expr}{scope:Scope}{fs:Dv→Option (List PyData)}{tif:Dv→Option Bool}{f:Dv→Option PyData}
theorem YQ{i:Nat}{z:Str}{pz spos:Pos}(N:List Str)(ix:Nat)(fr:List (Option Nat))(hN:X.N.Nodup)(hy:X.N[i]? = some z)(hly:X.env.scope.names.lookup z=some .local)(hi:DI X (.Name x px) iter fs)(hif:∀cl C s₀ H₀ fp,UU (Ak X scope cl N C s₀ H₀ fp) ifs tif)(he:∀cl C s₀ H₀ fp,DE (Ak X scope cl N C s₀ H₀ fp) elt f)
 (h1:BO scope N x ix=true:=by decide +kernel)(h2:X.calm=true:=by rfl)(h3:DZ N X.N scope X.env.scope fr 0=true:=by rfl)(h4:fr.length=N.length:=by rfl)(h5:freeOk X.env.scope scope.names=true:=by rfl)
 (hsw:swapsWith (.ListComp elt [⟨.Name x px,iter,ifs,0⟩] scope pos) (some (.Name z pz)) spos.line X.env=pure true:=by rfl)
 (hs:∀x,foldedSetIterable iter X.env x=pure x:=by intro _;rfl):DS X (.Assign [.Name z pz] (.ListComp elt [⟨.Name x px,iter,ifs,0⟩] scope pos) spos) (XR i (DD (Ca ix) tif f fr fs)):=by
 obtain⟨wi,pi,ki⟩:=hi;refine⟨_,Em N ix fr hN hy hly pi hif (fun cl C s₀ H₀ fp=>(he cl C s₀ H₀ fp).pe) h1 h2 h3 h4 h5 hsw hs,fun δ r h G0 H0 G H σ D R q=>?_⟩;obtain⟨zs,m1,rfl⟩:=aH.mp h;exact MK ki m1 R fun D' ys G' H' R' n1 n2 n3 n4 n5=>q _ _ _ (R'.YZ ⟨_,rfl,n5⟩ n1 n2 n3 n4)
end
section
variable{N ps:List Str} 
theorem Ym{F:DF}{ds xs:List PyData}(hl:ds.length=ps.length)(h:F (KY N ds)=some (.rn xs)):Gv ps N F ds=some (.list xs):=by unfold Gv;rw[if_pos hl,h]
end
section
variable{F F2:DF}{δ δ':Dv}{fs:Dv→Option (List PyData)}{xs:List PyData}{set:PyData→Dv→Option Dv}{r:Option Ou}
theorem cG(Iv:Nat→Dv→Prop)(hx:fs δ=some xs)(h0:Iv 0 δ)(hs:∀(i:Nat) (x:PyData) (δ:Dv),xs[i]? = some x→Iv i δ→∃δ1,set x δ=some δ1∧∃δ2,F δ1=some (.nx δ2)∧Iv (i+1) δ2) :
  ∃δ',Fq fs set F δ=some (.nx δ')∧Iv xs.length δ':=Hk Iv hx h0 fun i x δ a b=>let⟨δ1,c,δ2,e,g⟩:=hs i x δ a b;⟨δ1,δ2,c,e,g⟩
theorem JY(Iv:Nat→Dv→Prop)(hx:fs δ=some xs)(h0:Iv 0 δ)(hs:∀(i:Nat) (x:PyData) (δ:Dv),xs[i]? = some x→Iv i δ→∃δ1,set x δ=some δ1∧∃δ2,F δ1=some (.nx δ2)∧Iv (i+1) δ2)
 (k:∀δ',Iv xs.length δ'→F2 δ'=r):Dp (Fq fs set F) F2 δ=r:=by
 obtain⟨δ',h1,h2⟩:=cG Iv hx h0 hs;exact D8 h1 (k δ' h2)
end
end L2
set_option maxHeartbeats 2000000
set_option maxHeartbeats 1000000
set_option maxHeartbeats 4000000
set_option maxHeartbeats 1000000
set_option maxHeartbeats 4000000
set_option maxHeartbeats 1000000
set_option maxHeartbeats 4000000
set_option maxHeartbeats 1000000
set_option maxHeartbeats 4000000
set_option maxHeartbeats 1000000
set_option maxHeartbeats 4000000
set_option maxHeartbeats 1000000
set_option maxHeartbeats 2000000
set_option maxHeartbeats 4000000
set_option maxHeartbeats 1000000
set_option maxHeartbeats 4000000
set_option maxHeartbeats 1000000
set_option maxHeartbeats 4000000
set_option maxHeartbeats 1000000
set_option maxHeartbeats 4000000
namespace TH
open PySem PyProof.Rows PySem.SeqAt
abbrev J7(d:Addr)(ep n i:Nat):Obj:={ cls:=.type "dict_keyiterator",data:=.fields #[.ref d,.int (i:Int) 0,.int (n:Int) 0,.int (ep:Int) 0]}
section
variable{prog:Program}{w:World}{A:Around}{E:Value→Shared→Prop}{s:Shared}{d I:Addr}{o:Obj}{es:Array DictEntry}{ep i:Nat}
theorem WU{Q:Option Value→Shared→Prop}{e:DictEntry}(ho:s.heap.get? d=some o)(hd:o.data=.dict es ep)(hI:s.heap.get? I=some (J7 d ep es.size i))(hx:es[i]? = some e)
 (h:∀h',h'.get? I=some (J7 d ep es.size (i+1))→Heap.SameBut I s.heap h'→Q (some e.key) {s with heap:=h'}):wpAny (model prog w) A (pyNext (.ref I)) Q E s:=by
 have hT:s.TypeIs (.ref I) "dict_keyiterator" := ⟨_,hI,rfl⟩;unfold pyNext;refine aA (wpAny_attempt (ai (name:=Str.ofString "__next__") hT F.slot_dict_keyiterator_next (ao F.slot_dict_keyiterator_next hT F.entry_dict_keyiterator_next ?_ (F.args_dict_keyiterator_next_1 _))));refine aA (aB (aA (aA (aA (wpAny_typeNameOfWhole_keyiter hT (aB ?_))))));refine aA (bf hI rfl ?_);have q0:Builtin.Dict_items.ownsTuple "dict_keyiterator" = false:=by decide
 simp only[q0,Bool.false_eq_true,if_false];have q1:¬(Value.ref d==Value.none)=true:=aJ;show wpAny _ _ (if(Value.ref d==Value.none)=true then _ else _) _ _ s;rw[if_neg q1];refine aA (aB (aA (ba ho hd ?_)));rw[if_neg (by simp)];refine aA (aB (aA (wpAny_dictEpoch ho hd ?_)));rw[if_neg (by simp)];refine aB ?_;have q2:¬((i:Int)<0):=by lia
 simp only[q2,if_false,Int.toNat_natCast,hx];refine aA (aA (wpAny_typeNameOfWhole_keyiter hT (aB ?_)));refine aA (wpAny_isOneOf_keyiter hT ?_);show wpAny _ _ (setField (.ref I) 1 (rawInt ((i:Int)+1))>>=_) _ _ s;refine aA (wpAny_setField hI rfl (by simp) ?_);have g1:(s.heap.update I (Obj.mapFields (·.setIfInBounds 1 (rawInt ((i:Int)+1))))).get? I=some (J7 d ep es.size (i+1)):=Heap.get?_update_self _ hI rfl;refine aA (bK (aA (wpAny_isOneOf_keyiter ⟨_,g1,rfl⟩ ?_)));show wpAny _ _ (pure e.key) _ _ _;exact aB (aB ⟨_,rfl,wpAny_pure (h _ g1 (bC ..))⟩)
theorem W5{Q:Option Value→Shared→Prop}(hh:A.handled=none)(ho:s.heap.get? d=some o)(hd:o.data=.dict es ep)(hI:s.heap.get? I=some (J7 d ep es.size es.size))
 (h:∀h',Heap.ExtBut I s.heap h'→Q none {s with heap:=h'}):wpAny (model prog w) A (pyNext (.ref I)) Q E s:=by
 have hT:s.TypeIs (.ref I) "dict_keyiterator" := ⟨_,hI,rfl⟩;unfold pyNext;refine aA (wpAny_attempt (ai (name:=Str.ofString "__next__") hT F.slot_dict_keyiterator_next (ao F.slot_dict_keyiterator_next hT F.entry_dict_keyiterator_next ?_ (F.args_dict_keyiterator_next_1 _))));refine aA (aB (aA (aA (aA (wpAny_typeNameOfWhole_keyiter hT (aB ?_))))));refine aA (bf hI rfl ?_);have q0:Builtin.Dict_items.ownsTuple "dict_keyiterator" = false:=by decide
 simp only[q0,Bool.false_eq_true,if_false];have q1:¬(Value.ref d==Value.none)=true:=aJ;show wpAny _ _ (if(Value.ref d==Value.none)=true then _ else _) _ _ s;rw[if_neg q1];refine aA (aB (aA (ba ho hd ?_)));rw[if_neg (by simp)];refine aA (aB (aA (wpAny_dictEpoch ho hd ?_)));rw[if_neg (by simp)];refine aB ?_;have q2:¬((es.size:Int)<0):=by lia
 have q3:es[es.size]? = none:=Array.getElem?_eq_none (aG _);simp only[q2,if_false,Int.toNat_natCast,q3];refine aA (aA (wpAny_typeNameOfWhole_keyiter hT (aB ?_)));show wpAny _ _ (setField (.ref I) 0 .none>>=_) _ _ s;refine aA (wpAny_setField hI rfl (by simp) ?_);refine aA ?_;simp only[newExc,newTuple];refine aA (aX ?_ (by size_fits));refine aA (m:=firstArgMember _ _) (wpAny_of_eq (a:=Value.none) (by first|rfl|(simp only[firstArgMember];rfl)) (aX ?_ (by size_fits)));simp only[raiseNew];refine aA (wpAny_handled ?_);have hh1:A.in1.handled=none:=hh;rw[hh1];refine aA (aB (wpAny_throw ?_));refine aA (wpAny_isInstance (b:=true) (T := "StopIteration") ⟨_,Heap.get?_push_size _ rfl,rfl⟩ isSubtype_stop ?_);exact aB (h _ (((bC ..).extBut.push _).push _))
theorem Wr{Q:Value→Shared→Prop}(hI:s.heap.get? I=some (J7 d ep es.size i))(h:Q (.ref I) s):wpAny (model prog w) A (pyIter (.ref I)) Q E s:=by
 have hT:s.TypeIs (.ref I) "dict_keyiterator" := ⟨_,hI,rfl⟩;refine wpAny_pyIter_slot hT F.slot_dict_keyiterator_iter (ao F.slot_dict_keyiterator_iter hT F.entry_dict_keyiterator_iter ?_ (F.args_dict_keyiterator_iter_1 _));show wpAny _ _ (ret (.ref I)) _ _ s;exact aB ⟨_,rfl, "dict_keyiterator",_,hT,F.slot_dict_keyiterator_next.lookup,h⟩
theorem We{Q:Value→Shared→Prop}(hs:(d==sysModules)=false)(ho:s.heap.get? d=some o)(hc:o.cls=.type "dict")(hd:o.data=.dict es ep)(h:Q (.ref s.heap.objs.size) {s with heap:=s.heap.push (J7 d ep es.size 0)}) :
  wpAny (model prog w) A (pyIter (.ref d)) Q E s:=by
 have hT:s.TypeIs (.ref d) "dict" := ⟨o,ho,hc⟩;refine wpAny_pyIter_slot hT F.slot_dict_iter (ao F.slot_dict_iter hT F.entry_dict_iter ?_ (F.args_dict_iter_1 _));unfold Builtin.«dict.__iter__»;refine aA ?_;unfold Builtin.Dict.dictSlotNone;refine aA (wpAny_notOrdered_dict hT (show wpAny _ _ (pure (Value.ref d)) _ _ s from aB ?_));have hn:¬(d==sysModules)=true:=by rw[hs];exact aJ
 show wpAny _ _ (Builtin.Dict.showsAll d>>=_) _ _ s;unfold Builtin.Dict.showsAll;rw[if_neg hn];refine aA (aB (aA (ba ho hd (aA (wpAny_dictEpoch ho hd ?_)))));exact aA (aX (aB ⟨_,rfl, "dict_keyiterator",_,⟨_,Heap.get?_push_size _ rfl,rfl⟩,F.slot_dict_keyiterator_next.lookup,h⟩))
theorem Tc(hh:A.handled=none)(hne:d≠I)(hd:o.data=.dict es ep) :
  Walks prog w A I [I,d] [I] es.size (fun i v=>∃e,es[i]? = some e∧v=e.key) (fun i h=>h.get? I=some (J7 d ep es.size i)∧h.get? d=some o) where
 sub:=fun b hb=>by simp at hb;simp[hb]
 frame:=fun _ _ _ x k=>⟨k I (by simp) _ x.1,k d (by simp) _ x.2⟩
 item:=fun i s Q E hi x hQ=>by
  have hx:es[i]? = some es[i]:=Array.getElem?_eq_getElem hi;refine WU x.2 hd x.1 hx fun h' g sb=>hQ _ h' s.toks ⟨_,hx,rfl⟩ ⟨g,(sb.2 d hne).trans x.2⟩ fun b u hb e=>?_;rw[sb.2 b fun q=>hb (by simp[q])];exact e
 done:=fun s Q E x hQ=>W5 hh x.2 hd x.1 fun h' eb=>hQ h' s.toks fun b u hb e=>eb b u (fun q=>hb (by simp[q])) e
 self:=fun _ _ _ _ x hQ=>Wr x.1 hQ
theorem Wc(hs:(d==sysModules)=false)(hc:o.cls=.type "dict")(hd:o.data=.dict es ep):PySem.W.KdlSrc prog w "dict" d d es.size (fun i v=>∃e,es[i]? = some e∧v=e.key) (fun h=>h.get? d=some o) where
 type:=fun _ ho=>⟨o,ho,hc⟩
 there:=fun _ ho=>⟨aE ho,Heap.lt_size ho⟩
 keep:=fun _ _ ho k=>k d (.inl rfl) _ ho
 notList:=by decide
 notTuple:=by decide
 hint:=fun _ _ s _ ho h=>PySem.W.kdl_hint_dict ⟨o,ho,hc⟩ h
 iter:=fun A s hh ho=>⟨J7 d ep es.size 0,_,(fun E Q h=>We hs ho hc hd h),Tc hh (aN (aE ho)) hd,⟨aT _ rfl,Heap.get?_push_of_some _ ho⟩⟩
end
end TH
namespace SK
open PySem PySem.W PyProof.Rows PySem.SeqAt TH
abbrev Ext(h0 h:Heap):Prop:=∀c o,h0.get? c=some o→h.get? c=some o
section
variable{prog:Program}{w:World}{A:Around}{E:Value→Shared→Prop}{s:Shared}{a:Addr}{vs:List Value}{kz:List Int}{P:PySem.Fin→Shared→Prop}
def Told(prog:Program)(w:World)(A:Around)(s:Shared)(h0:Heap)(f:Value)(vs:List Value)(kz:List Int):Prop :=
 ∀(i:Nat) (v:Value) (k:Int),vs[i]? = some v→kz[i]? = some k→∀(h:Heap) (tk:Nat),Ext h0 h →
  wpAny (model prog w) A (call f [v]) (fun r s'=>∃h' tk' t',s'={s with heap:=h',toks:=tk'}∧r=.int k t'∧Ext h h') (fun _ _=>False) {s with heap:=h,toks:=tk}
theorem UE{st:SortSt}{kS:Addr}{keys:Array Value}{e e1:Nat}(nk:s.heap.get? kS=some (seqObj "list" keys e))(na:s.heap.get? a=some (seqObj "list" #[] e1))(hka:kS≠a)
 (hk:IntsAre keys.toList kz)(hlen:kz.length=vs.length)(h64:vs.length<64)(hp:(arrOf st).Perm (keys.zip vs.toArray))(hs:SortedTo (arrOf st) (arrOf st).size)(hfl:failedOf st=none)
 (h:∀h' out c,(∀b o,b≠kS→b≠a→s.heap.get? b=some o→h'.get? b=some o)→h'.get? a=some (seqObj "list" out c)→KskOut false kz vs out.toList→P (.done (.ret .none)) {s with heap:=h'}) :
  wpAny (model prog w) A (ksk_tail a false e1 (.ref kS) st) P E s:=by
 have hsz:keys.size=vs.length:=by
  have h1:=hk.length;rw[Array.length_toList]at h1
  lia
 have hsz2:(arrOf st).size=vs.length:=by rw[hp.size_eq,Array.size_zip,hsz,List.size_toArray,Nat.min_self]
 have s1:=bC s.heap kS (Obj.mapSeq fun _=>(#[]:Array Value));have na1:(s.heap.update kS (Obj.mapSeq fun _=>(#[]:Array Value))).get? a=some (seqObj "list" #[] e1):=(s1.2 a hka.symm).trans na;have s2:=bC (s.heap.update kS (Obj.mapSeq fun _=>(#[]:Array Value))) a (Obj.mapSeq fun _=>if false=true then((arrOf st).map (·.2)).reverse else(arrOf st).map (·.2));obtain⟨c2,hc2⟩:∃c2,((s.heap.update kS (Obj.mapSeq fun _=>(#[]:Array Value))).update a (Obj.mapSeq fun _=>if false=true then((arrOf st).map (·.2)).reverse else(arrOf st).map (·.2))).get? a=some (seqObj "list" (if false=true then((arrOf st).map (·.2)).reverse else(arrOf st).map (·.2)) c2) :=
  ⟨_,get?_update_seq na1 fun _=>if false=true then((arrOf st).map (·.2)).reverse else(arrOf st).map (·.2)⟩
 unfold ksk_tail
 try dsimp only
 refine aA (listUpdate_at nk rfl ?_ (by rw[hsz,sizeLine_eq];lia) (ak _));refine aA (wpAny_letGo ?_);refine aA (seqEpoch_at na1 rfl ?_);refine aA (listUpdate_at na1 rfl ?_ (ak _) (by
  show(if false=true then((arrOf st).map (·.2)).reverse else(arrOf st).map (·.2)).size≤_;rw[if_neg (by decide),Array.size_map,hsz2,sizeLine_eq];lia))
 rw[hfl];simp only[bne_self_eq_false,Bool.false_eq_true,if_false];exact aB (h _ _ c2 (fun b o h1 h2 q=>(s2.2 b h2).trans ((s1.2 b h1).trans q)) hc2 (ksk_out (b:=false) hk hp hs))
theorem cw{kS:Addr}{keys:Array Value}{e e1:Nat}(nk:s.heap.get? kS=some (seqObj "list" keys e))(na:s.heap.get? a=some (seqObj "list" #[] e1))(hka:kS≠a)
 (hk:IntsAre keys.toList kz)(hlen:kz.length=vs.length)(h64:vs.length<64)
 (h:∀h' out c,(∀b o,b≠kS→b≠a→s.heap.get? b=some o→h'.get? b=some o)→h'.get? a=some (seqObj "list" out c)→KskOut false kz vs out.toList→P (.done (.ret .none)) {s with heap:=h'}) :
  wpAny (model prog w) A (ksk_end a false vs.toArray e1 (.ref kS) keys) P E s:=by
 have hsz:keys.size=vs.length:=by
  have h1:=hk.length;rw[Array.length_toList]at h1
  lia
 have hzs:(keys.zip vs.toArray).size=vs.length:=by rw[Array.size_zip,hsz,List.size_toArray,Nat.min_self]
 unfold ksk_end
 try dsimp only
 simp only[Bool.false_eq_true,if_false];by_cases h2:vs.toArray.size<2
 ·rw[if_pos h2,if_pos h2];refine aA (aB ?_);rw[StateT.run_pure];refine aA (aB ?_)
  try dsimp only
  refine UE (st:=SortSt.mk' general' (keys.zip vs.toArray) #[] 7 none) nk na hka hk hlen h64 (Array.Perm.refl _) ?_ rfl h;intro i j hij hj;have hj2:j<(keys.zip vs.toArray).size:=hj;rw[hzs]at hj2;rw[List.size_toArray]at h2;have:i=j:=by lia
  subst this;exact Int.le_refl _
 ·rw[if_neg h2,if_neg h2];rw[List.size_toArray]at h2;rw[ksk_kind hk (by rw[hsz];lia)];refine aA (aB ?_);refine aA (ab (wpS_sortRuns (a₀:=keys.zip vs.toArray) (st:=SortSt.mk' oneType' (keys.zip vs.toArray) #[] 7 none)
   (Q:=fun _ st'=>(arrOf st').Perm (keys.zip vs.toArray)∧failedOf st'=none∧SortedTo (arrOf st') (keys.zip vs.toArray).size)
   (ksk_intKeys hk) ⟨Array.Perm.refl _,rfl,rfl,rfl⟩ (by rw[hzs];lia) (by rw[hzs];exact h64) fun st' a1 a2 a3=>⟨a1,a2,a3⟩) ?_ fun _ _ e=>e)
  rintro⟨⟨⟩,st'⟩ s' ⟨rfl,hp,hf,hs⟩
  try dsimp only
  exact UE nk na hka hk hlen h64 hp (by rw[hp.size_eq];exact hs) hf h
theorem cQ{f:Value}{n:Nat}{h0:Heap}(ho:s.heap.get? a=some (seqObj "list" vs.toArray n))(hx:∀b o,h0.get? b=some o→b≠a∧s.heap.get? b=some o)(hlen:kz.length=vs.length)(h64:vs.length<64)(turn:Told prog w A s h0 f vs kz)
 (h:∀h' tk out c,(∀b o,b≠a→s.heap.get? b=some o→h'.get? b=some o)→h'.get? a=some (seqObj "list" out c)→KskOut false kz vs out.toList→P (.done (.ret .none)) {s with heap:=h',toks:=tk}) :
  wpAny (model prog w) A (ksk_tree a f false) P E s:=by
 have ha:a<s.heap.objs.size:=aE ho;have s1:=bC s.heap a (Obj.mapSeq fun _=>(#[]:Array Value));obtain⟨e1,ho1⟩:∃e1,(s.heap.update a (Obj.mapSeq fun _=>(#[]:Array Value))).get? a=some (seqObj "list" #[] e1):=⟨_,get?_update_seq ho fun _=>#[]⟩;have hkS:((s.heap.update a (Obj.mapSeq fun _=>(#[]:Array Value))).push (seqObj "tuple" vs.toArray 0)).objs.size=s.heap.objs.size+1:=by rw[size_push',Heap.size_update]
 unfold ksk_tree;refine aA (listItems_at ho rfl ?_);refine aA (listUpdate_at ho rfl ?_ (by rw[List.size_toArray,sizeLine_eq];lia) (ak _));refine aA (seqEpoch_at ho1 rfl ?_);refine aA (wpAny_newTuple ?_ (by show vs.length≤_;rw[sizeLine_eq];lia));refine aA (wpAny_newList ?_ (ak _));refine bK ?_;show wpAny (model prog w) A (ksk_rest a f false vs.toArray e1 (.ref ((s.heap.update a (Obj.mapSeq fun _=>(#[]:Array Value))).push (seqObj "tuple" vs.toArray 0)).objs.size)) P E {s with heap:=((s.heap.update a (Obj.mapSeq fun _=>(#[]:Array Value))).push (seqObj "tuple" vs.toArray 0)).push (seqObj "list" #[] 0)};have gk:(((s.heap.update a (Obj.mapSeq fun _=>(#[]:Array Value))).push (seqObj "tuple" vs.toArray 0)).push (seqObj "list" #[] 0)).get? ((s.heap.update a (Obj.mapSeq fun _=>(#[]:Array Value))).push (seqObj "tuple" vs.toArray 0)).objs.size=some (seqObj "list" #[] 0):=aT _ rfl;rw[hkS]at gk ⊢;have ga:(((s.heap.update a (Obj.mapSeq fun _=>(#[]:Array Value))).push (seqObj "tuple" vs.toArray 0)).push (seqObj "list" #[] 0)).get? a=some (seqObj "list" #[] e1):=aD _ (aD _ ho1);have gb:∀b o,b≠a→s.heap.get? b=some o→(((s.heap.update a (Obj.mapSeq fun _=>(#[]:Array Value))).push (seqObj "tuple" vs.toArray 0)).push (seqObj "list" #[] 0)).get? b=some o:=fun b o h1 q=>aD _ (aD _ ((s1.2 b h1).trans q));generalize ((s.heap.update a (Obj.mapSeq fun _=>(#[]:Array Value))).push (seqObj "tuple" vs.toArray 0)).push (seqObj "list" #[] 0)=h6 at gk ga gb;generalize hK:s.heap.objs.size+1=kS at gk;have hka:kS≠a:=by rw[←hK];exact aq (bQ ha)
 have hkb:∀b o,s.heap.get? b=some o→b≠kS:=fun b o q=>by rw[←hK];exact aN (bQ (aE q))
 unfold ksk_rest;refine aA (wpAny_rule ?_)
 first
  |rw[List.forIn_toArray]
  |(rw[←Array.forIn_toList];simp only[List.toList_toArray])
  |rw[←Array.forIn_toList]
 refine aA (ksk_fold (fun i s'=>∃h' tk kA e,s'={s with heap:=h',toks:=tk}∧h'.get? kS=some (seqObj "list" kA e)∧h'.get? a=some (seqObj "list" #[] e1)∧(∀b o,b≠a→s.heap.get? b=some o→h'.get? b=some o)∧IntsAre kA.toList (kz.take i)) vs 0 {s with heap:=h6}
  ⟨h6,s.toks,#[],0,rfl,gk,ga,gb,by simpa using IntsAre.nil⟩ ?step ?done)
 case step =>
  rintro j x s' hxj ⟨h',tk,kA,e,rfl,nk,na,nb,hk⟩;simp only[Nat.zero_add]at hk ⊢;have hj:j<vs.length:=(aC.mp hxj).1;obtain⟨k,hkj⟩:∃k,kz[j]? = some k:=⟨_,List.getElem?_eq_getElem (by lia)⟩;have hz:kA.size≤vs.length:=by
   have h1:=hk.length;rw[Array.length_toList,List.length_take]at h1
   lia
  refine aA (wpAny_attempt (ab (turn j x k hxj hkj h' tk fun b o q=>nb b o (hx b o q).1 (hx b o q).2) (fun v s'' he=>?_) fun _ _ hF=>hF.elim));obtain⟨g,tk2,t2,rfl,rfl,x2⟩:=he
  try dsimp only
  have s2:=bC g kS (Obj.mapSeq (·.push (.int k t2)));obtain⟨c2,hc2⟩:∃c2,(g.update kS (Obj.mapSeq (·.push (.int k t2)))).get? kS=some (seqObj "list" (kA.push (.int k t2)) c2):=⟨_,get?_update_seq (x2 _ _ nk) (·.push (.int k t2))⟩;have ek:kz.take (j+1)=kz.take j++[k]:=by rw[List.take_add_one,hkj];simp
  have ea:(kA.push (Value.int k t2)).toList=kA.toList++[Value.int k t2]:=by simp
  refine aA (listUpdate_at (x2 _ _ nk) rfl ?_ (by rw[sizeLine_eq];lia) (aR (Nat.le_of_eq (Array.size_push ..)) (by rw[sizeLine_eq];lia)));exact aB ⟨rfl,_,_,kA.push (.int k t2),c2,rfl,hc2,(s2.2 a hka.symm).trans (x2 _ _ na),fun b o h1 q=>(s2.2 b (hkb b o q)).trans (x2 _ _ (nb b o h1 q)),by rw[ea,ek];exact ksk_snoc hk⟩
 case done =>
  rintro s' ⟨h',tk,kA,e,rfl,nk,na,nb,hk⟩;have hk':IntsAre kA.toList kz:=by
   have e3:kz.take (0+vs.length)=kz:=List.take_of_length_le (by lia);rw[e3]at hk;exact hk
  try dsimp only
  refine aA (listItems_at nk rfl ?_);exact cw (s:={s with heap:=h',toks:=tk}) nk na hka hk' hlen h64 fun h3 out c g1 g2 g3=>h h3 tk out c (fun b o h1 q=>g1 b o (hkb b o q) h1 (nb b o h1 q)) g2 g3
theorem WC{d:Addr}{o:Obj}{es:Array DictEntry}{ep:Nat}{i:String}{Q:Value→Shared→Prop}(hs:(d==sysModules)=false)(ho:s.heap.get? d=some o)(hc:o.cls=.type "dict")(hdt:o.data=.dict es ep)(hA:A.handled=none)
 (hv:es.toList.map (·.key)=vs)(hlen:kz.length=vs.length)(h64:vs.length<64)(turn:Told prog w A.in1.in1 s s.heap (.builtin i) vs kz)
 (h:∀(h':Heap) (D tk c:Nat) (out:Array Value),s.heap.objs.size≤D→Ext s.heap h'→h'.get? D=some (seqObj "list" out c)→KskOut false kz vs out.toList→Q (.ref D) {s with heap:=h',toks:=tk}) :
  wpAny (model prog w) A (call (.builtin "sorted") [.ref d] [(Str.ofString "key",.builtin i)]) Q E s:=by
 refine call_function_entry_kw kind_sorted plain_sorted entry_sorted (ksk_s1 _ _) ?_;unfold Builtin.«sorted»;refine aA (m:=checkCount "sorted" 1 1 _) (aB ?_);have hes:es.size=vs.length:=by rw[←hv,List.length_map,Array.length_toList]
 refine aA (gather (A:=A.in1) (Wc hs hc hdt) hA ho (MR (by lia)) fun h1 tk acc z1 k1 hacc=>?_);have hal:acc.toList=vs:=by
  rw[←hv];apply List.ext_getElem?;intro j;rw[List.getElem?_map];by_cases hj:j<acc.size
  ·have e1:acc[j]? = some acc[j]:=Array.getElem?_eq_getElem hj;obtain⟨e,e2,e3⟩:=hacc.2 j _ e1;rw[Array.getElem?_toList,e1,Array.getElem?_toList,e2,e3]
   rfl
  ·have hj2:¬j<es.size:=by rw[←hacc.1];exact hj
   rw[List.getElem?_eq_none (by simpa using hj),List.getElem?_eq_none (by simpa using hj2)]
   rfl
 rw[hal];refine aA (wpAny_newList ?_ (MR (by lia)));have g1:(h1.push (seqObj "list" vs.toArray 0)).get? h1.objs.size=some (seqObj "list" vs.toArray 0):=aT _ rfl;have k2:∀b u,s.heap.get? b=some u→b≠h1.objs.size∧(h1.push (seqObj "list" vs.toArray 0)).get? b=some u:=fun b u e=>⟨aN (aE (k1 b u e)),Heap.get?_push_of_some _ (k1 b u e)⟩;refine aA (bK (wpAny_call_entry_kw slot_list_sort ⟨_,g1,rfl⟩ entry_list_sort ?_ (ksk_l1 _ _)));show wpAny (model prog w) A.in1.in1 (Builtin.«list.sort» ⟨[.ref h1.objs.size],[(Str.ofString "key",.builtin i)]⟩) _ _ _;rw[ksk_t4];refine cQ (s:={s with heap:=h1.push (seqObj "list" vs.toArray 0),toks:=tk}) (h0:=s.heap) g1 k2 hlen h64 turn fun h' tk' out c x1 x2 x3=>⟨_,rfl,?_⟩;exact aB ⟨_,rfl,h h' h1.objs.size tk' c out (bV z1) (fun b u e=>x1 b u (k2 b u e).1 (k2 b u e).2) x2 x3⟩
end
end SK
namespace L2
open PySem PySem.Spec PyProof.Rows
theorem perm_back{α β:Type}(f:α→β){l1 l2:List β}(h:l1.Perm l2):∀L:List α,l2=L.map f→∃L':List α,L'.Perm L∧l1=L'.map f:=by
 induction h with
 |nil=>intro L e;exact⟨[],by cases L with|nil=>exact .nil|cons a L=>simp at e,rfl⟩
 |cons x _ ih =>
  intro L e;cases L with
  |nil=>simp at e
  |cons a L =>
   simp at e;obtain⟨L',h1,h2⟩:=ih L e.2;exact⟨a::L',h1.cons a,by rw[h2,e.1];rfl⟩
 |swap x y l =>
  intro L e
  match L,e with
  |a::b::L,e =>
   simp at e;exact⟨b::a::L,List.Perm.swap ..,by simp[e.1,e.2.1,e.2.2]⟩
 |trans _ _ i1 i2 =>
  intro L e;obtain⟨L2,h1,h2⟩:=i2 L e;obtain⟨L1,h3,h4⟩:=i1 L2 h2;exact⟨L1,h3.trans h1,h4⟩
theorem XA{prog:Program}{w:World}{A:Around}{s:Shared}{E:Value→Shared→Prop}(hA:A.handled=none){p:Addr}{ns:List Int}{its:List Value}(rv:Vals (ns.map V.int) its)(pl:s.heap.IsTuple p its.toArray) :
  wpAny (model prog w) A (call (.builtin "sum") [.ref p]) (fun r s'=>∃h' tk' t',s'={s with heap:=h',toks:=tk'}∧r=.int ns.sum t'∧SK.Ext s.heap h') E s:=by
 have hi:=intsAre_of rv;obtain⟨xs,hx⟩:=hi.allInts.items;have hl':s.heap.IsTuple p (intItems xs):=hx ▸ pl
 have hlt:p<s.heap.objs.size:=by obtain⟨_,e,_⟩:=hl';exact aE e
 have e1:ns=xs.toList.map (·.1):=by
  rw[←nums_intItems,←hx];exact(show numsOf its.toArray.toList=ns from hi.numsOf).symm
 have e2:preSum (numAt xs) xs.size=ns.sum:=by
  rw[preSum_eq,List.take_of_length_le (by simp),e1]
 refine call_sum_walkG (wpAny_pyIter_tuple hl' ?_);refine⟨_,[_,p],[_],_,_,_,numAt xs,rfl,Walks.tuple (A:=A.in1) hA _ p (aN hlt) (intItems xs),
  ⟨⟨_,Heap.get?_push_size _ rfl,rfl,rfl⟩,hl'.push _⟩,fun c hcc=>?_,(fun _ _=>intItems_at),fun h' tk t' hk=>?_⟩
 ·show c<(s.heap.push _).objs.size;rw[Heap.size_push];rcases aS.mp hcc with rfl|hcc
  ·exact Nat.lt_succ_self _
  ·rw[List.mem_singleton.mp hcc];exact bQ hlt
 ·have e3:preSum (numAt xs) (intItems xs).size=ns.sum:=by
   rw[←e2];simp[intItems]
  rw[e3];exact⟨h',tk,t',rfl,rfl,PyProof.Rows.LSm.kept_iter hk⟩
def XQ(H:Hp)(x:V)(Q:VK):Prop:=∃(a:Addr) (kvs:List (List Key×V)) (ps:List (List Int)),x=.ref a∧H a=some (.dT kvs)∧kvs.length<64∧kvs.map (·.1)=ps.map (·.map Sum.inl) ∧
 ∀(D:Addr) (H':Hp) (L:List (List Int×Addr)),(∀b o,H b=some o→H' b=some o)→(∀b,b≠D→H' b=H b)→H D=none→H' D=some (.lst (L.map fun l=>V.ref l.2))→(L.map (·.1)).Perm ps→L.Pairwise (fun p q=>p.1.sum≤q.1.sum) →
  (∀l∈L,H l.2=some (.tup (l.1.map V.int)))→Q (.ref D) H'
theorem Vk{X:Cx}{pins:List (Addr×Obj)}{σ:St}{H:Hp}{s:Shared}{Q:VK}(I:Inv X pins σ H s){x:V}{v:Value}(rx:RelV x v)(hc:X.calm=true)(q:XQ H x Q) :
  wpAny (model X.prog X.w) X.A (call (.builtin "sorted") [v] [(Str.ofString "key",.builtin "sum")]) (EP X pins σ Q) X.xe s:=by
 obtain⟨a,kvs,ps,rfl,ha,h64,hps,q⟩:=q;cases rx;obtain⟨hz,nd,xs,kt,o,es,ep,r1,r2,r3,r4,r5,r6⟩:=Tp I.Ah ha;have hlen:es.size=kvs.length:=by rw[size_of_entries r4];exact(Paired.length kt).symm
 have hpl:ps.length=kvs.length:=by
  have:=bD List.length hps
  simpa using this.symm
 have hxl:xs.length=kvs.length:=(Paired.length kt).symm
 let L0:List (List Int×Addr):=ps.zip (xs.map (·.2.1))
 have hL:L0.length=kvs.length:=by simp[L0,hpl,hxl]
 have l1:L0.map (·.1)=ps:=by
  show(ps.zip _).map Prod.fst=ps;exact List.map_fst_zip (by simp[hpl,hxl])
 have l2:L0.map (·.2)=xs.map (·.2.1):=by
  show(ps.zip _).map Prod.snd=_;exact List.map_snd_zip (by simp[hpl,hxl])
 have hkey:es.toList.map (·.key)=L0.map fun l=>Value.ref l.2:=by
  have:(L0.map fun l=>Value.ref l.2)=(L0.map (·.2)).map Value.ref:=by simp
  rw[this,l2];apply List.ext_getElem?;intro j;rw[List.getElem?_map,Array.getElem?_toList,entry_at r4 j,List.map_map,List.getElem?_map];cases xs[j]? <;> rfl
 have hin:∀l∈L0,H l.2=some (.tup (l.1.map V.int)):=fun l hl=>by
  obtain⟨j,hj⟩:=bJ hl;have h1:(L0.map (·.1))[j]? = some l.1:=by rw[List.getElem?_map,hj];rfl
  have h2:(L0.map (·.2))[j]? = some l.2:=by rw[List.getElem?_map,hj];rfl
  rw[l1]at h1;rw[l2,List.getElem?_map]at h2;obtain⟨y,hy,e⟩:=aH.mp h2;have hjk:j<kvs.length:=by rw[←hxl];exact(aC.mp hy).1
  obtain⟨kv,hkv⟩:∃kv,kvs[j]? = some kv:=⟨kvs[j],by simp[hjk]⟩;have p1:=KS kt hkv hy;have h3:kv.1=l.1.map Sum.inl:=by
   have:=bD (·[j]?) hps;simp only[List.getElem?_map,hkv,h1]at this;exact aW this
  have h4:H y.2.1=some (.tup (kv.1.map kV)):=p1.1 ▸ p1.2.1
  rw[e,h3,Qd]at h4;exact h4
 refine SK.WC (vs:=L0.map fun l=>Value.ref l.2) (kz:=L0.map fun l=>l.1.sum) nd r1 r2.1 r3 (I.ok.hd hc) hkey (by simp) (by rw[List.length_map,hL];exact h64) ?_ fun h' D tk c out hD k1 hd ko=>?_
 ·intro i v k hv hk h tk hx;rw[List.getElem?_map]at hv hk;obtain⟨l,e1,rfl⟩:=aH.mp hv;rw[e1]at hk;cases hk;obtain⟨its,v1,p1,_⟩:=I.tuple (Ap.of (K:=X.K) (hin l (aL e1)));refine XA (A:=X.A.in1.in1) (s:={s with heap:=h,toks:=tk}) (show X.A.in1.in1.handled=none from I.ok.hd hc) v1 ?_;obtain⟨o,e,r⟩:=p1;exact⟨o,hx _ _ e,r⟩
 ·obtain⟨pz,w1,w2,w3⟩:=ko;have ez:(L0.map fun l=>l.1.sum).zip (L0.map fun l=>Value.ref l.2)=L0.map fun l=>(l.1.sum,Value.ref l.2):=by
   rw[List.zip_map']
  rw[ez]at w1;obtain⟨L,hp,rfl⟩:=perm_back (fun l:List Int×Addr=>(l.1.sum,Value.ref l.2)) w1 L0 rfl;rw[List.map_map]at w2
  let H':Hp:=fun y=>if y=D then some (.lst (L.map fun l=>V.ref l.2)) else H y
  have hHD:H' D=some (.lst (L.map fun l=>V.ref l.2)):=if_pos rfl;have hfr:H D=none:=I.Ah.fresh hD;have hHo:∀y,y≠D→H' y=H y:=fun y hy=>if_neg hy;have up:∀b o,H b=some o→H' b=some o:=fun b o e=>by
   rw[hHo b fun z=>by rw[z,hfr]at e;cases e];exact e
  have Ah:CN X.prog X.w H' h':=fun y u e=>by
   by_cases hyD:y=D
   ·subst hyD;rw[hHD]at e;cases e;refine⟨?_,out.toList,c,?_,?_⟩
    ·show(L.map _).length≤sizeLine;rw[List.length_map,hp.length_eq,hL];exact hz
    ·have e2:out.toList=(L.map (·.2)).map Value.ref:=by rw[w2,List.map_map];rfl
     have e3:(L.map fun l=>V.ref l.2)=(L.map (·.2)).map V.ref:=by rw[List.map_map];rfl
     rw[e2,e3];exact Ks _
    ·exact hd
   ·have e':H y=some u:=by rw[hHo y hyD]at e;exact e
    exact(I.Ah y u e').Gq (fun b o _ z=>k1 b o z) (fun b z=>up _ _ z) fun b xs z=>up _ _ z
  have I3:Inv X pins σ H' {s with heap:=h',toks:=tk}:=I.many k1 (fun b hb=>hHo b (aN (aO hb hD))) Ah;refine⟨.ref D,H',I3,rfl,q D H' L up hHo hfr hHD (by rw[←l1];exact hp.map _) ?_ fun l hl=>hin l (hp.mem_iff.mp hl)⟩;rw[List.pairwise_map]at w3;exact w3.imp fun h=>by simpa using h
def Zm(to:TE):TE:=fun σ H Q=>to σ H fun x H1=>XQ H1 x Q
theorem V2{X:Cx}{o:Expr}{to:TE}{p pos kp kp2:Pos}(hc:X.calm=true)(hg:Gl X "sorted")(hm:X.mg "sorted" = none)(hg2:Gl X "sum")(hm2:X.mg "sum" = none)(ho:PE X o to)
 (he:backTo pos (starEach [o] X.env)=(false,eval o X.env)::backTo pos (starEach [] X.env):=by rfl)(hplain:(backTo pos (starEach [o] X.env)).any (·.1)=false:=by rfl) :
  PE X (.Call (.Name "sorted" p) [o] [⟨some "key",.Name "sum" kp2,kp⟩] pos) (Zm to):=by
 intro pins s σ H Q I h;refine wpAny_Call_Name_kw (EX I hg hm boot_sorted ?_ (by decide) (by decide));refine callWith_kw ?_ he hplain;rw[he];refine Calls.spliced_cons (Av (ho pins s σ H _ I h) fun v s1 ⟨x,H1,I1,r1,q1⟩=>?_);exact Calls.spliced_nil (kws_cons (EX I1 hg2 hm2 boot_sum (kws_nil (Vk I1 r1 hc q1)) (by decide) (by decide)))
end L2
namespace Q24
open PySem L2
abbrev Gz:Stmt:=top 7
abbrev Er:Stmt:=top 8
abbrev Fh:Stmt:=top 9
abbrev G7:Stmt:=top 10
abbrev CF:Stmt:=top 11
abbrev EF:Stmt:=top 12
abbrev HD:Stmt:=top 13
abbrev Ka:Stmt:=top 15
abbrev KI:Stmt:=top 16
abbrev HV:Stmt:=top 17
abbrev Eh:Stmt:=top 18
abbrev HE:Stmt:=top 20
abbrev Ft:Stmt:=top 22
abbrev JQ:Stmt:=top 24
abbrev KN:Stmt:=top 25
abbrev Gx:Stmt:=top 26
abbrev Ie:Stmt:=top 27
abbrev F9:Stmt:=top 28
abbrev Hu:Stmt:=top 29
abbrev EA:Stmt:=top 30
abbrev Dh:Stmt:=top 31
abbrev IX:Stmt:=top 33
abbrev EL:Stmt:=top 34
abbrev Es:Stmt:=top 37
abbrev Ef:Stmt:=top 38
abbrev EN:Stmt:=top 39
abbrev Hs:Stmt:=top 40
abbrev Fl:Stmt:=top 41
abbrev EG:Stmt:=top 42
abbrev HR:Stmt:=top 43
abbrev JR:Stmt:=top 44
abbrev GK:Stmt:=top 46
abbrev GD:Stmt:=top 47
abbrev G5:Stmt:=top 48
abbrev Dz:Stmt:=top 49
abbrev GL:Stmt:=top 50
abbrev IC:Stmt:=top 51
abbrev GO:Stmt:=top 52
abbrev Ij:Stmt:=top 53
abbrev Gi:Stmt:=top 54
abbrev HW:Stmt:=top 55
abbrev EO:Stmt:=top 56
abbrev Gm:Stmt:=top 57
abbrev Ia:Stmt:=top 58
abbrev IY:Stmt:=top 59
abbrev Me:Stmt:=top 60
theorem ES{n:String}:NT (.ty n)≠.none:=fun z=>nomatch z
theorem mulC{i j:Int}(h1:-18446744073709551616<j)(h2:j<18446744073709551616):Ng i j∨K6 i j:=.inl (.inr ⟨h1,h2⟩)
theorem mulL{i j:Int}(h1:-18446744073709551616<i)(h2:i<18446744073709551616):Ng i j∨K6 i j:=.inl (.inl ⟨h1,h2⟩)
def NK:Sp:=fun vs H Q _=>∃a b,vs=[.int a,.int b]∧Q (.int (FM.gi a b)) H
def Pp:Sp:=fun vs H Q _=>∃t b m,vs=[.int t,.int b]∧b≠0∧m≤9000∧b.natAbs<2^m∧∀l H',AG H H'→H' l=some (.tup (KG (Rat.divInt t b)))→Q (.ref l) H'
section
variable{P:Program}{w:World}{K:PySem.W.Frag}{mg:Str→Option Value}{base:Heap}{f g:Addr}{fd gd:FuncData}
theorem Jw:Ad ["one", "other", "greater", "lesser", "rest"] ["one", "other"] (AM CF):=⟨rfl,rfl,rfl,by decide +kernel,rfl,by decide +kernel,by decide +kernel⟩
def gU(σ:St):Nat:=match σ[3]? with|some (some (V.int l))=>l.natAbs|_=>0
theorem Jx(F:Fn K mg "greatest_divisor" CF ["one", "other"] f fd)(Jd:mg "abs" = none):AL P w K mg base Ac 1 f fd ["one", "other"] NK:=by
 have sc:=Jw;refine F.F.ok (k:=0) sc (fun vs H Q E h=>?_) (fun cdv A outer s H vs Q E hr h=>?_)
 ·obtain⟨a,b,rfl,_⟩:=h
  rfl
 obtain⟨a,b,rfl,q⟩:=h;refine⟨_,(AB (AW (i:=2) sc.nd rfl (Or.inl rfl) (Ai Ll rfl Jd PyProof.Rows.boot_abs (AA (pv 0) AD)))
 (AB (AW (i:=3) sc.nd rfl (Or.inl rfl) (Ai Ll rfl Jd PyProof.Rows.boot_abs (AA (pv 1) AD)))
 (AB (Ho aK (Au GH (pv 3) AH (Ao _))
  (AB (AW (i:=4) sc.nd rfl (Or.inl rfl) (Ab K3 (pv 2) (pv 3)))
  (AB (AW (i:=2) sc.nd rfl (Or.inl rfl) (pv 3))
  (AF (AW (i:=3) sc.nd rfl (Or.inl rfl) (pv 4))))))
 (AF (Af (pv 2)))))),?_⟩
 refine⟨_,rfl,_,rfl,_,rfl,_,rfl,?_⟩;refine Hy (fun σ H'=>∃g l r,σ=[some (.int a),some (.int b),some (.int g),some (.int l),r]∧H=H'∧Int.gcd g l=Int.gcd a b∧0≤g∧0≤l) (fun σ _=>gU σ) ?_ ?_ ?_
 ·exact⟨_,_,_,rfl,rfl,FM.YN a b,FM.abs_nonneg a,FM.abs_nonneg b⟩
 ·rintro σ H' ⟨g,l,r,rfl,rfl,hg,h0,h1⟩;refine⟨_,rfl,rfl,_,rfl,BQ (fun c=>?_) (fun c=>?_)⟩
  ·have hl:l≠0:=fun z=>by subst z;simp at c
   refine⟨_,rfl,_,rfl,_,_,rfl,rfl,hl,_,rfl,_,rfl,⟨_,_,_,rfl,rfl,?_,h1,FM.fmod_nonneg hl h1⟩,?_⟩
   ·rw[FM.PY];exact hg
   ·exact FM.Nv g l hl
  ·have hl:l=0:=by simpa using c
   subst hl;refine⟨_,rfl,?_⟩;rw[FM.Y4 hg h0];exact q
 ·exact fun σ H Q Q' hq ⟨v,e,s,k,e2,q⟩=>⟨v,e,s,k,e2,hq _ _ q⟩
theorem Nh:Ad ["top", "bottom", "shared"] ["top", "bottom"] (AM Gz):=⟨rfl,rfl,rfl,by decide +kernel,rfl,by decide +kernel,by decide +kernel⟩
theorem Ni(F:Fn K mg "fraction_of" Gz ["top", "bottom"] f fd)(A1:Fn K mg "greatest_divisor" CF ["one", "other"] g gd)
 (CJ:AL P w K mg base Ac 1 g gd ["one", "other"] NK):AL P w K mg base Ac 2 f fd ["top", "bottom"] Pp:=by
 have sc:=Nh;refine F.F.ok (k:=1) sc (fun vs H Q E h=>?_) (fun cdv A outer s H vs Q E hr h=>?_)
 ·obtain⟨t,b,m,rfl,_⟩:=h
  rfl
 obtain⟨t,b,m,rfl,hb,hm,hs,q⟩:=h;refine⟨_,(AB (BK (Au Fi (pv 1) AH (Ao _))
  (AF Ls)
  Ax)
 (AB (AW (i:=2) sc.nd rfl (Or.inl rfl) (Aj A1 CJ hr rfl (AA (pv 0) (AA (pv 1) AD))))
 (AB (BK (Au Ma (pv 1) AH (Ao _))
  (AF (AW (i:=2) sc.nd rfl (Or.inl rfl) (XT Vs (pv 2))))
  Ax)
 (AF (Af (GY (AA (Ab C9 (pv 0) (pv 2)) (AA (Ab C9 (pv 1) (pv 2)) AD)))))))),?_⟩
 refine⟨_,rfl,rfl,_,rfl,BQ (fun c=>absurd c (by simpa using hb)) (fun _=>?_)⟩;refine⟨_,rfl,_,rfl,t,b,rfl,?_⟩
 try dsimp only[CM]
 refine Ez (fun σ' H'=>σ'=[some (.int t),some (.int b),some (.int (FM.gs t b))]∧H=H') (fun nx hn=>?_) ?_
 ·refine⟨_,rfl,_,_,rfl,rfl,_,rfl,BQ (fun c=>?_) (fun c=>?_)⟩
  ·have c':b<0:=aj c;refine⟨_,rfl,_,rfl,hn _ _ ⟨?_,rfl⟩⟩;unfold FM.gs;rw[if_pos c']
   rfl
  ·have c':¬b<0:=bN (ar.mpr c);refine hn _ _ ⟨?_,rfl⟩;unfold FM.gs;rw[if_neg c']
   rfl
 ·rintro σ' H' ⟨rfl,rfl⟩;have h0:FM.gs t b≠0:=FM.Xn hb;have h1:(FM.gs t b).natAbs<2^m:=aP (FM.Xq hb) hs;refine⟨_,rfl,_,rfl,_,_,rfl,rfl,⟨h0,m,hm,h1⟩,_,rfl,_,rfl,_,_,rfl,rfl,⟨h0,m,hm,h1⟩,Sg,fun p hp=>?_⟩;refine q p _ (AN hp _) ?_;rw[AI];show some (HO.tup [V.int (t.fdiv (FM.gs t b)),V.int (b.fdiv (FM.gs t b))])=_;rw[FM.Qk hb,FM.QM hb]
  rfl
end
def Qm:Sp:=fun vs H Q _=>∃(l:Addr) (x n:Int),vs=[.ref l,.int n]∧H l=some (.lst [.int x])∧0<n∧n<2^64∧∀r y:Int,0≤r→r<n→Q (.int r) (upd H l (.lst [.int y]))
def NQ(K:PySem.W.Frag):Sp:=fun vs H Q _=>∃(a:Addr) (ns:List Int) (k:Int),vs=[.ref a,.int k]∧AQ K H a (ns.map V.int)∧0≤k∧k<1000∧∀x:Int,Q (.int x) H
def NF:Sp:=fun vs H Q _=>∃(l:Addr) (x:Int),vs=[.ref l]∧H l=some (.lst [.int x])∧∀(p:Addr) (r:Rat) (y:Int) (H':Hp),AG (upd H l (.lst [.int y])) H'→H' p=some (.tup (KG r))→r.num.natAbs≤6→r.den≤6→Q (.ref p) H'
theorem Ur:∀i,i<13→∀j,j<6→(Rat.divInt ((i:Nat)-6:Int) (1+(j:Nat):Int)).num.natAbs≤6∧(Rat.divInt ((i:Nat)-6:Int) (1+(j:Nat):Int)).den≤6:=by decide +kernel
theorem RP{i j:Int}(h1:0≤i)(h2:i<13)(h3:0≤j)(h4:j<6):(Rat.divInt (i-6) (1+j)).num.natAbs≤6∧(Rat.divInt (i-6) (1+j)).den≤6:=by
 have:=Ur i.toNat (by lia) j.toNat (by lia)
 rwa [Int.toNat_of_nonneg h1,Int.toNat_of_nonneg h3]at this
section
variable{P:Program}{w:World}{K:PySem.W.Frag}{mg:Str→Option Value}{base:Heap}{f g g1 g2:Addr}{fd gd gd1 gd2:FuncData}
theorem PL:Ad ["_law_pile", "_law_size", "_law_digit"] ["_law_pile", "_law_size"] (AM GD):=⟨rfl,rfl,rfl,by decide +kernel,rfl,by decide +kernel,by decide +kernel⟩
theorem QB(F:Fn K mg "_law_take" GD ["_law_pile", "_law_size"] f fd):AL P w K mg base Ac 1 f fd ["_law_pile", "_law_size"] Qm:=by
 have sc:=PL;refine F.F.ok (k:=0) sc (fun vs H Q E h=>?_) (fun cdv A outer s H vs Q E hr h=>?_)
 ·obtain⟨l,x,n,rfl,_⟩:=h
  rfl
 obtain⟨l,x,n,rfl,hl,h0,h1,q⟩:=h;refine⟨_,(AB (AW (i:=2) sc.nd rfl (Or.inl rfl) (Ab K3 (BG D6 (pv 0) AH (fun _ _=>rfl)) (pv 1)))
 (AB (U4 (Ab C9 (BG D6 (pv 0) AH (fun _ _=>rfl)) (pv 1)) (VT (pv 0) AH set_list))
 (AF (Af (pv 2))))),?_⟩
 refine⟨_,rfl,_,_,_,_,rfl,rfl,AQ.of hl,rfl,_,rfl,_,_,rfl,rfl,(by show n≠0;lia),?_⟩;refine⟨_,rfl,_,_,_,_,rfl,rfl,AQ.of hl,rfl,_,rfl,_,_,rfl,rfl,⟨by lia,64,by decide,by lia⟩,_,rfl,l,_,_,0,rfl,rfl,hl,rfl,_,rfl,?_⟩;exact q _ _ (Int.fmod_nonneg_of_pos x h0) (Int.fmod_lt_of_pos x h0)
theorem NM:Ad ["_law_one", "_law_other"] ["_law_one", "_law_other"] (AM G5):=⟨rfl,rfl,rfl,by decide +kernel,rfl,by decide +kernel,by decide +kernel⟩
def gf(σ:St):Nat:=match σ[1]? with|some (some (V.int l))=>l.natAbs|_=>0
theorem NB(F:Fn K mg "_law_shared" G5 ["_law_one", "_law_other"] f fd)(Jd:mg "abs" = none):AL P w K mg base Ac 1 f fd ["_law_one", "_law_other"] NK:=by
 have sc:=NM;refine F.F.ok (k:=0) sc (fun vs H Q E h=>?_) (fun cdv A outer s H vs Q E hr h=>?_)
 ·obtain⟨a,b,rfl,_⟩:=h
  rfl
 obtain⟨a,b,rfl,q⟩:=h;refine⟨_,(AB (Ho aK (Au GH (pv 1) AH (Ao _))
  (AF (Y8 (i:=0) (j:=1) rfl sc.nd rfl rfl (by decide) rfl rfl (AA (pv 1) (AA (Ab K3 (pv 0) (pv 1)) AD)) rfl)))
 (AF (Af (Ai Ll rfl Jd PyProof.Rows.boot_abs (AA (pv 0) AD))))),?_⟩
 refine Hy (fun σ H'=>∃g l,σ=[some (.int g),some (.int l)]∧H=H'∧Int.gcd g l=Int.gcd a b) (fun σ _=>gf σ) ⟨_,_,rfl,rfl,rfl⟩ ?_ ?_
 ·rintro σ H' ⟨g,l,rfl,rfl,hg⟩;refine⟨_,rfl,rfl,_,rfl,BQ (fun c=>?_) (fun c=>?_)⟩
  ·have hl:l≠0:=fun z=>by subst z;simp at c
   refine⟨_,rfl,_,rfl,_,rfl,_,_,rfl,rfl,hl,_,_,rfl,⟨_,_,rfl,rfl,?_⟩,?_⟩
   ·rw[FM.PY];exact hg
   ·exact FM.Nv g l hl
  ·have hl:l=0:=by simpa using c
   subst hl;refine⟨_,rfl,_,rfl,?_⟩;rw[FM.Yd hg];exact q
 ·exact fun σ H Q Q' hq ⟨v,e,s,k,e2,q⟩=>⟨v,e,s,k,e2,hq _ _ q⟩
theorem Qn:Ad ["_law_top", "_law_bottom", "_law_by_here"] ["_law_top", "_law_bottom"] (AM Dz):=⟨rfl,rfl,rfl,by decide +kernel,rfl,by decide +kernel,by decide +kernel⟩
theorem O9(F:Fn K mg "_law_frac" Dz ["_law_top", "_law_bottom"] f fd)(Et:Fn K mg "_law_shared" G5 ["_law_one", "_law_other"] g gd)
 (Ow:AL P w K mg base Ac 1 g gd ["_law_one", "_law_other"] NK):AL P w K mg base Ac 2 f fd ["_law_top", "_law_bottom"] Pp:=by
 have sc:=Qn;refine F.F.ok (k:=1) sc (fun vs H Q E h=>?_) (fun cdv A outer s H vs Q E hr h=>?_)
 ·obtain⟨t,b,m,rfl,_⟩:=h
  rfl
 obtain⟨t,b,m,rfl,hb,hm,hs,q⟩:=h;refine⟨_,(AB (AW (i:=2) sc.nd rfl (Or.inl rfl) (Aj Et Ow hr rfl (AA (pv 0) (AA (pv 1) AD))))
 (AB (BK (Au Ma (pv 1) AH (Ao _))
  (AF (AW (i:=2) sc.nd rfl (Or.inl rfl) (Ab EW AH (pv 2))))
  Ax)
 (AF (Af (GY (AA (Ab C9 (pv 0) (pv 2)) (AA (Ab C9 (pv 1) (pv 2)) AD))))))),?_⟩
 refine⟨_,rfl,_,rfl,t,b,rfl,?_⟩
 try dsimp only[CM]
 refine Ez (fun σ' H'=>σ'=[some (.int t),some (.int b),some (.int (FM.gs t b))]∧H=H') (fun nx hn=>?_) ?_
 ·refine⟨_,rfl,_,_,rfl,rfl,_,rfl,BQ (fun c=>?_) (fun c=>?_)⟩
  ·have c':b<0:=aj c;refine⟨_,rfl,_,_,rfl,rfl,hn _ _ ⟨?_,rfl⟩⟩;show [some (V.int t),some (V.int b),some (V.int (0-FM.gi t b))]=_;unfold FM.gs;rw[if_pos c',Int.zero_sub]
  ·have c':¬b<0:=bN (ar.mpr c);refine hn _ _ ⟨?_,rfl⟩;unfold FM.gs;rw[if_neg c']
   rfl
 ·rintro σ' H' ⟨rfl,rfl⟩;have h0:FM.gs t b≠0:=FM.Xn hb;have h1:(FM.gs t b).natAbs<2^m:=aP (FM.Xq hb) hs;refine⟨_,rfl,_,rfl,_,_,rfl,rfl,⟨h0,m,hm,h1⟩,_,rfl,_,rfl,_,_,rfl,rfl,⟨h0,m,hm,h1⟩,Sg,fun p hp=>?_⟩;refine q p _ (AN hp _) ?_;rw[AI];show some (HO.tup [V.int (t.fdiv (FM.gs t b)),V.int (b.fdiv (FM.gs t b))])=_;rw[FM.Qk hb,FM.QM hb]
  rfl
theorem P4:Ad ["_law_script", "_law_k", "_law_cell_here", "_law_number", "_law_found", "_law_turn"] ["_law_script", "_law_k"] (AM GK):=⟨rfl,rfl,rfl,by decide +kernel,rfl,by decide +kernel,by decide +kernel⟩
theorem Qb(F:Fn K mg "_law_cell" GK ["_law_script", "_law_k"] f fd)(BD:mg "len" = none)(Ar:mg "range" = none):AL P w K mg base Ac 1 f fd ["_law_script", "_law_k"] (NQ K):=by
 have sc:=P4;refine F.F.ok (k:=0) sc (fun vs H Q E h=>?_) (fun cdv A outer s H vs Q E hr h=>?_)
 ·obtain⟨a,ns,k,rfl,_⟩:=h
  rfl
 obtain⟨a,ns,k,rfl,hS,h0,hk,q⟩:=h;refine⟨_,(AB (AW (i:=2) sc.nd rfl (Or.inl rfl) AH)
 (AB (BK (Au Ma (pv 1) (Ai BW rfl BD av (AA (pv 0) AD)) (Ao _))
  (AF (AW (i:=2) sc.nd rfl (Or.inl rfl) (BG D6 (pv 0) (pv 1) (fun _ _=>rfl))))
  Ax)
 (AB (BK (Au Xc (pv 2) (Ab Q8 AH AH) (Ao _))
  (AF (Af (Ab Ge (Ab EW (pv 2) (Ab Q8 AH AH)) (Ab Q8 AH AH))))
  Ax)
 (AB (AW (i:=3) sc.nd rfl (Or.inl rfl) (Ab Ge (Ab CU (Ab CU (Ab BS (pv 2) AH) (Ab BS (pv 1) AH)) AH) AH))
 (AB (AW (i:=4) sc.nd rfl (Or.inl rfl) AH)
 (AB (Bf aK rfl (Dd rfl Ar (AA AH AD)) (Al (i:=5) sc.nd rfl (Or.inl rfl))
  (AB (AW (i:=3) sc.nd rfl (Or.inl rfl) (Ab Ge (Ab CU (Ab CU (Ab BS (pv 3) (pv 3)) (Ab BS AH (pv 5))) AH) AH))
  (AF (AW (i:=4) sc.nd rfl (Or.inl rfl) (Ab CU (Ab BS (pv 4) AH) (Ab Ge (Ab BS (pv 3) (pv 3)) AH))))))
 (AF (Af (pv 4))))))))),?_⟩
 try dsimp only[CM]
 refine Ez (fun σ' H'=>∃c:Int,σ'=[some (.ref a),some (.int k),some (.int c),none,none,none]∧H=H') (fun nx hn=>?_) ?_
 ·exact hn _ _ ⟨0,rfl,rfl⟩
 rintro _ _ ⟨_,rfl,rfl⟩
 try dsimp only[CM]
 refine Ez (fun σ' H'=>∃c:Int,σ'=[some (.ref a),some (.int k),some (.int c),none,none,none]∧H=H') (fun nx hn=>?_) ?_
 ·refine⟨_,rfl,_,rfl,a,_,rfl,.inl hS,_,_,rfl,rfl,_,rfl,BQ (fun c=>?_) (fun c=>?_)⟩
  ·have c':k<(((ns.map V.int).length:Nat):Int):=aj c;rw[List.length_map]at c';have hk:k.toNat<ns.length:=by lia
   have hat:Cy (ns.map V.int) k=some (.int ns[k.toNat]):=by
    have z:=HI (xs:=ns.map V.int) (j:=k.toNat) (v:=.int ns[k.toNat]) (by rw[List.getElem?_map,List.getElem?_eq_getElem hk];rfl)
    rwa [show((k.toNat:Nat):Int)=k by lia]at z
   exact⟨_,rfl,_,rfl,a,_,_,_,rfl,rfl,hS,hat,hn _ _ ⟨_,rfl,rfl⟩⟩
  ·exact hn _ _ ⟨_,rfl,rfl⟩
 rintro _ _ ⟨c,rfl,rfl⟩;refine⟨_,rfl,_,_,rfl,rfl,⟨by decide,by decide,by decide⟩,_,_,rfl,rfl,_,rfl,BQ (fun _=>?_) (fun _=>?_)⟩
 ·exact⟨_,rfl,_,_,rfl,rfl,⟨by decide,by decide,by decide⟩,_,_,rfl,rfl,_,_,rfl,rfl,⟨by decide,by decide,by decide⟩,_,_,rfl,rfl,(by show(0:Int)<10^60;decide),q _⟩
 ·refine⟨_,rfl,_,_,rfl,rfl,mulC (by decide) (by decide),_,rfl,_,_,rfl,rfl,mulC (by decide) (by decide),_,_,rfl,rfl,_,_,rfl,rfl,_,_,rfl,rfl,(by show(0:Int)<2147483629;decide),?_⟩;have z0:0≤(c*48271+k*69621+11) % 2147483629:=Int.emod_nonneg _ (by decide);have z1:(c*48271+k*69621+11) % 2147483629<2147483629:=Int.emod_lt_of_pos _ (by decide);refine⟨8,rfl,by decide,by decide,GW (n:=8) (fun _ σ H'=>∃(m fo:Int) (jj:Option V),σ=[some (.ref a),some (.int k),some (.int c),some (.int m),some (.int fo),jj]∧0≤m∧m<2147483629∧H=H') ⟨(c*48271+k*69621+11) % 2147483629,0,none,rfl,z0,z1,rfl⟩ ?_ ?_⟩
  ·rintro i σ H' hi ⟨m,fo,jj,rfl,m0,m1,rfl⟩;refine⟨_,rfl,_,rfl,_,_,rfl,rfl,mulC (by lia) (by lia),_,rfl,_,_,rfl,rfl,mulL (by decide) (by decide),_,_,rfl,rfl,_,_,rfl,rfl,_,_,rfl,rfl,(by show(0:Int)<2147483587;decide),?_⟩;have y0:0≤(m*m+69621*(0+(i:Nat))+7) % 2147483587:=Int.emod_nonneg _ (by decide);have y1:(m*m+69621*(0+(i:Nat))+7) % 2147483587<2147483587:=Int.emod_lt_of_pos _ (by decide);exact⟨_,rfl,_,_,rfl,rfl,mulC (by decide) (by decide),_,rfl,_,rfl,((m*m+69621*(0+(i:Nat))+7) % 2147483587:Int),((m*m+69621*(0+(i:Nat))+7) % 2147483587:Int),rfl,rfl,mulC (by lia) (by lia),_,_,rfl,rfl,(by show(0:Int)<2147483563;decide),_,_,rfl,rfl,_,_,_,rfl,y0,by lia,rfl⟩
  ·rintro σ H' ⟨m,fo,jj,rfl,m0,m1,rfl⟩;exact⟨_,rfl,q _⟩
theorem RE:Ad ["_law_pile", "_law_top"] ["_law_pile"] (AM GO):=⟨rfl,rfl,rfl,by decide +kernel,rfl,by decide +kernel,by decide +kernel⟩
theorem QU(F:Fn K mg "_law_part" GO ["_law_pile"] f fd)(Be:Fn K mg "_law_take" GD ["_law_pile", "_law_size"] g1 gd1)(BN:Fn K mg "_law_frac" Dz ["_law_top", "_law_bottom"] g2 gd2)
 (DB:AL P w K mg base Ac 2 g1 gd1 ["_law_pile", "_law_size"] Qm)(Bg:AL P w K mg base Ac 2 g2 gd2 ["_law_top", "_law_bottom"] Pp):AL P w K mg base Ac 3 f fd ["_law_pile"] NF:=by
 have sc:=RE;refine F.F.ok (k:=2) sc (fun vs H Q E h=>?_) (fun cdv A outer s H vs Q E hr h=>?_)
 ·obtain⟨l,x,rfl,_⟩:=h
  rfl
 obtain⟨l,x,rfl,hl,q⟩:=h;refine⟨_,(AB (AW (i:=1) sc.nd rfl (Or.inl rfl) (Ab EW (Aj Be DB hr rfl (AA (pv 0) (AA AH AD))) AH))
 (AF (Af (Aj BN Bg hr rfl (AA (pv 1) (AA (Ab CU AH (Aj Be DB hr rfl (AA (pv 0) (AA AH AD)))) AD)))))),?_⟩
 refine⟨_,rfl,l,x,13,rfl,hl,by decide,by decide,fun i y i0 i1=>⟨_,_,rfl,rfl,?_⟩⟩;refine⟨_,rfl,_,rfl,l,y,6,rfl,AI,by decide,by decide,fun j z j0 j1=>⟨_,_,rfl,rfl,?_⟩⟩;have hd:=RP i0 i1 j0 j1;refine⟨i-6,1+j,8,rfl,by lia,by decide,by lia,fun p H' e hp=>?_⟩;refine q p _ z H' (fun b o hb=>e _ _ ?_) hp hd.1 hd.2;by_cases hbl:b=l
 ·subst hbl;rw[AI]at hb ⊢;exact hb
 ·rw[AE hbl]at hb;rw[AE hbl,AE hbl];exact hb
end
theorem QC{c b:Int}(hc:1≤c)(hb:1≤b):1≤c.fdiv (FM.gi c b)*b∧c ∣ c.fdiv (FM.gi c b)*b∧b ∣ c.fdiv (FM.gi c b)*b∧(c.fdiv (FM.gi c b)).natAbs≤c.natAbs:=by
 have hg:0<FM.gi c b:=FM.J2 (by lia);obtain⟨q,hq⟩:=FM.LV c b;obtain⟨r,hr⟩:=FM.KD c b;have e:=FM.Ed (Int.ne_of_gt hg) hq;refine⟨?_,?_,Int.dvd_mul_left _ _,FM.BI _ _⟩
 ·rw[e];have hq0:0<q:=by
   rcases Int.lt_or_le 0 q with h|h
   ·exact h
   ·have:=Int.mul_nonpos_of_nonneg_of_nonpos (Int.le_of_lt hg) h
    lia
  exact Int.mul_pos hq0 (by lia)
 ·rw[e];refine⟨r,?_⟩;rw[hr]
  conv=>rhs;rw[hq]
  rw[←hr,Int.mul_comm (FM.gi c b) q,Int.mul_assoc,Int.mul_comm (FM.gi c b) r]
  conv=>lhs;rw[hr]
  rw[Int.mul_comm (FM.gi c b) r]
def S3:Sp:=fun vs H Q _=>∃(b:Int) (p k:Nat),vs=[.int b,.int p]∧b.natAbs<2^k∧k*p≤4000∧Q (.int (b^p)) H
theorem Dy{b:Int}{k e p:Nat}(hb:b.natAbs<2^k)(he:e≤p):(b^e).natAbs<2^(k*p+1):=by
 rw[Int.natAbs_pow];have h1:b.natAbs^e≤(2^k)^e:=Nat.pow_le_pow_left (bV hb) e;rw[←Nat.pow_mul]at h1;exact aP h1 (Nat.pow_lt_pow_right (by decide) (Nat.lt_succ_of_le (aY k he)))
def gX(σ:St):Nat:=match σ[4]? with|some (some (V.int l))=>l.natAbs|_=>0
section
variable{P:Program}{w:World}{K:PySem.W.Frag}{mg:Str→Option Value}{base:Heap}{f:Addr}{fd:FuncData}
theorem Ln:Ad ["bottoms", "common", "bottom"] ["bottoms"] (AM EF):=⟨rfl,rfl,rfl,by decide +kernel,rfl,by decide +kernel,by decide +kernel⟩
theorem Rk:Ad ["base", "power", "product", "square", "left"] ["base", "power"] (AM HD):=⟨rfl,rfl,rfl,by decide +kernel,rfl,by decide +kernel,by decide +kernel⟩
theorem RQ(F:Fn K mg "power_of" HD ["base", "power"] f fd):AL P w K mg base Ac 1 f fd ["base", "power"] S3:=by
 have sc:=Rk;refine F.F.ok (k:=0) sc (fun vs H Q E h=>?_) (fun cdv A outer s H vs Q E hr h=>?_)
 ·obtain⟨b,p,k,rfl,_⟩:=h
  rfl
 obtain⟨b,p,k,rfl,hb,hk,q⟩:=h;refine⟨_,(AB (AW (i:=2) sc.nd rfl (Or.inl rfl) AH)
 (AB (AW (i:=3) sc.nd rfl (Or.inl rfl) (pv 0))
 (AB (AW (i:=4) sc.nd rfl (Or.inl rfl) (pv 1))
 (AB (Ho aK (Au MP (pv 4) AH (Ao _))
  (AB (BK (Au Fi (Ab Ge (pv 4) AH) AH (Ao _))
   (AF (AW (i:=2) sc.nd rfl (Or.inl rfl) (Ab BS (pv 2) (pv 3))))
   Ax)
  (AB (AW (i:=4) sc.nd rfl (Or.inl rfl) (Ab Ss (pv 4) AH))
  (AF (BK (Au MP (pv 4) AH (Ao _))
   (AF (AW (i:=3) sc.nd rfl (Or.inl rfl) (Ab BS (pv 3) (pv 3))))
   Ax)))))
 (AF (Af (pv 2))))))),?_⟩
 refine⟨_,rfl,_,rfl,?_⟩;refine Hy (fun σ H'=>∃e f l:Nat,σ=[some (.int b),some (.int p),some (.int (b^e)),some (.int (b^f)),some (.int l)]∧H=H'∧e+f*l=p) (fun σ _=>gX σ) ?_ ?_ ?_
 ·refine⟨0,1,p,?_,rfl,by lia⟩;rw[Int.pow_zero,Int.pow_succ,Int.pow_zero,Int.one_mul]
  rfl
 ·rintro σ H' ⟨e,f,l,rfl,rfl,he⟩;refine⟨_,rfl,_,_,rfl,rfl,_,rfl,BQ (fun c=>?_) (fun c=>?_)⟩
  ·have hl:0<l:=by have:=aj c;lia
   have hfp:f≤p:=by
    have:f*1≤f*l:=aY f hl
    lia
   try dsimp only[CM]
   refine Ez (fun σ' H'=>∃e':Nat,σ'=[some (.int b),some (.int p),some (.int (b^e')),some (.int (b^f)),some (.int l)]∧H=H'∧e'+f*(2*(l / 2))=p) (fun nx hnx=>?_) ?_
   ·refine⟨_,rfl,_,_,rfl,rfl,(by show(0:Int)<2;decide),rfl,_,rfl,BQ (fun c=>?_) (fun c=>?_)⟩
    ·have hodd:l % 2=1:=by
      have:((l:Int) % 2)=1:=by simpa using c
      lia
     refine⟨_,rfl,_,rfl,_,_,rfl,rfl,F8 (Dy hb (show e≤p by lia)) (Dy hb hfp) (by lia),hnx _ _ ⟨e+f,?_,rfl,?_⟩⟩
     ·show [some (V.int b),some (V.int p),some (V.int (b^e*b^f)),some (V.int (b^f)),some (V.int l)]=_;rw[←Int.pow_add]
     ·have:l=2*(l / 2)+1:=by lia
      rw[←he]
      conv=>rhs;rw[this,Nat.mul_add,Nat.mul_one]
      lia
    ·have hev:l % 2=0:=by
      have:¬((l:Int) % 2)=1:=by simpa using c
      lia
     refine hnx _ _ ⟨e,rfl,rfl,?_⟩;rw[show 2*(l / 2)=l by lia];exact he
   ·rintro σ' _ ⟨e',rfl,rfl,he'⟩;refine⟨_,rfl,_,_,rfl,rfl,⟨by decide,by decide⟩,?_⟩;have el:((l:Int) / 2)=((l / 2:Nat):Int):=by lia
    refine⟨_,rfl,_,_,rfl,rfl,_,rfl,BQ (fun c=>?_) (fun c=>?_)⟩
    ·refine⟨_,rfl,_,rfl,_,_,rfl,rfl,F8 (Dy hb hfp) (Dy hb hfp) (by lia),⟨e',f+f,l / 2,?_,rfl,?_⟩,?_⟩
     ·show [some (V.int b),some (V.int p),some (V.int (b^e')),some (V.int (b^f*b^f)),some (V.int ((l:Int) / 2))]=_;rw[el,←Int.pow_add]
     ·rw[←he',←Nat.two_mul,Nat.mul_assoc,Nat.mul_left_comm]
     ·show((l:Int) / 2).natAbs<((l:Nat):Int).natAbs
      lia
    ·refine⟨⟨e',f,l / 2,?_,rfl,?_⟩,?_⟩
     ·show [some (V.int b),some (V.int p),some (V.int (b^e')),some (V.int (b^f)),some (V.int ((l:Int) / 2))]=_;rw[el]
     ·have:l / 2=0:=by have:=bN (ar.mpr c);lia
      rw[this]at he' ⊢
      simpa using he'
     ·show((l:Int) / 2).natAbs<((l:Nat):Int).natAbs
      lia
  ·have hl:l=0:=by have:=bN (ar.mpr c);lia
   subst hl;rw[Nat.mul_zero,Nat.add_zero]at he;subst he;exact⟨_,rfl,q⟩
 ·exact fun σ H Q Q' hq ⟨v,e,s,k,e2,e3,e4,q1,q2⟩=>⟨v,e,s,k,e2,e3,e4,q1,hq _ _ q2⟩
end
mutual
theorem WX{l p:Addr}{H:Hp}(hp:H p=none):∀ {d:PyData} {v:V},Dt l H d v→Dt p H d v
 |.none,_,h=>by rw[Dt]at h ⊢;exact h
 |.bool _,_,h=>by rw[Dt]at h ⊢;exact h
 |.int _,_,h=>by rw[Dt]at h ⊢;exact h
 |.str _,_,h=>by rw[Dt]at h ⊢;exact h
 |.tuple _,_,h=>by
  rw[Dt]at h ⊢;obtain⟨a,xs,e1,n,h1,h2⟩:=h;exact⟨a,xs,e1,AK h1 hp,h1,GN hp h2⟩
 |.list _,_,h=>by
  rw[Dt]at h ⊢;obtain⟨a,xs,e1,n,h1,h2⟩:=h;exact⟨a,xs,e1,AK h1 hp,h1,GN hp h2⟩
 |.dict _,_,h=>by rw[Dt]at h;exact h.elim
theorem GN{l p:Addr}{H:Hp}(hp:H p=none):∀ {ds:List PyData} {xs:List V},AO l H ds xs→AO p H ds xs
 |[],_,h=>by rw[AO]at h ⊢;exact h
 |_::_,_,h=>by
  rw[AO]at h ⊢;obtain⟨x,r,e1,h1,h2⟩:=h;exact⟨x,r,e1,WX hp h1,GN hp h2⟩
end
def DU(H:Hp)(d:PyData)(v:V):Prop:=∃N:Nat,∀l,N≤l→Dt l H d v
def Ay(H:Hp)(ds:List PyData)(xs:List V):Prop:=∃N:Nat,∀l,N≤l→AO l H ds xs
theorem DU.same{H H':Hp}{d:PyData}{v:V}(h:DU H d v)(e:AG H H'):DU H' d v:=let⟨N,k⟩:=h;⟨N,fun l hl=>(k l hl).same e⟩
theorem Ay.same{H H':Hp}{d:List PyData}{v:List V}(h:Ay H d v)(e:AG H H'):Ay H' d v:=let⟨N,k⟩:=h;⟨N,fun l hl=>(k l hl).same e⟩
theorem DU.int{H:Hp}{i:Int}:DU H (.int i) (.int i):=⟨0,fun _ _=>.int⟩
theorem DU.bool{H:Hp}{i:Bool}:DU H (.bool i) (.bl i):=⟨0,fun _ _=>.bool⟩
theorem DU.BA{H:Hp}:DU H .none .BA:=⟨0,fun _ _=>.BA⟩
theorem DU.str{H:Hp}{x:Str}:DU H (.str x) (.str x):=⟨0,fun _ _=>.str⟩
theorem Ay.nil{H:Hp}:Ay H [] []:=⟨0,fun _ _=>.nil⟩
theorem Ay.cons{H:Hp}{d:PyData}{ds:List PyData}{x:V}{xs:List V}(h:DU H d x)(k:Ay H ds xs):Ay H (d::ds) (x::xs) :=
 let⟨N,a⟩:=h;let⟨M,b⟩:=k;⟨max N M,fun l hl=>.cons (a l (by lia)) (b l (by lia))⟩
theorem Ay.app{H:Hp}{ds es:List PyData}{xs ys:List V}(h:Ay H ds xs)(k:Ay H es ys):Ay H (ds++es) (xs++ys) :=
 let⟨N,a⟩:=h;let⟨M,b⟩:=k;⟨max N M,fun l hl=>(a l (by lia)).app (b l (by lia))⟩
theorem Ay.len{H:Hp}{ds:List PyData}{xs:List V}(h:Ay H ds xs):xs.length=ds.length:=let⟨N,a⟩:=h;(a N (aG _)).len
theorem Ay.get{H:Hp}{ds:List PyData}{xs:List V}{i:Nat}{d:PyData}(h:Ay H ds xs)(e:ds[i]? = some d):∃v,xs[i]? = some v∧DU H d v:=by
 have hl:=h.len;have hi:i<xs.length:=by rw[hl];exact(aC.mp e).1
 have hx:xs[i]? = some xs[i]:=by simp[hi]
 obtain⟨N,a⟩:=h;refine⟨xs[i],hx,N,fun l hl=>?_⟩;obtain⟨d',h1,h2⟩:=(a l hl).get hx;rw[e]at h1;cases h1;exact h2
theorem DU.lst{H:Hp}{a:Addr}{ds:List PyData}{xs:List V}(h:H a=some (.lst xs))(k:Ay H ds xs):DU H (.list ds) (.ref a) :=
 let⟨N,b⟩:=k;⟨max N (a+1),fun l hl=>.lst (aN (show a<l from aO (Nat.lt_succ_self a) (aR (Nat.le_max_right _ _) hl))) h (b l (by lia))⟩
theorem DU.tup{H:Hp}{a:Addr}{ds:List PyData}{xs:List V}(h:H a=some (.tup xs))(k:Ay H ds xs):DU H (.tuple ds) (.ref a) :=
 let⟨N,b⟩:=k;⟨max N (a+1),fun l hl=>.tup (aN (show a<l from aO (Nat.lt_succ_self a) (aR (Nat.le_max_right _ _) hl))) h (b l (by lia))⟩
theorem DU.Mm{H:Hp}{ds:List PyData}{v:V}(h:DU H (.list ds) v):∃a xs,v=.ref a∧H a=some (.lst xs)∧Ay H ds xs:=by
 obtain⟨N,b⟩:=h;have h0:=b N (aG _);rw[Dt]at h0;obtain⟨a,xs,rfl,_,ha,_⟩:=h0;refine⟨a,xs,rfl,ha,N,fun l hl=>?_⟩;have h1:=b l hl;rw[Dt]at h1;obtain⟨a',xs',e,_,ha',hx'⟩:=h1;cases e;rw[ha]at ha';cases ha';exact hx'
theorem DU.Ui{H:Hp}{ds:List PyData}{v:V}(h:DU H (.tuple ds) v):∃a xs,v=.ref a∧H a=some (.tup xs)∧Ay H ds xs:=by
 obtain⟨N,b⟩:=h;have h0:=b N (aG _);rw[Dt]at h0;obtain⟨a,xs,rfl,_,ha,_⟩:=h0;refine⟨a,xs,rfl,ha,N,fun l hl=>?_⟩;have h1:=b l hl;rw[Dt]at h1;obtain⟨a',xs',e,_,ha',hx'⟩:=h1;cases e;rw[ha]at ha';cases ha';exact hx'
theorem Ay.LM{H:Hp}{d e:PyData}{xs:List V}(h:Ay H [d,e] xs):∃x y,xs=[x,y]∧DU H d x∧DU H e y:=by
 obtain⟨x,h1,h2⟩:=h.get (i:=0) rfl;obtain⟨y,h3,h4⟩:=h.get (i:=1) rfl;have:=h.len
 match xs,this with
 |[a,b],_ =>
  simp at h1 h3;subst h1 h3;exact⟨a,b,rfl,h2,h4⟩
mutual
theorem dI{c:Addr}{H:Hp}:∀ {d:PyData} {v:V},Dt c H d v→DU H d v
 |.none,_,h=>by rw[Dt]at h;subst h;exact .BA
 |.bool _,_,h=>by rw[Dt]at h;subst h;exact .bool
 |.int _,_,h=>by rw[Dt]at h;subst h;exact .int
 |.str _,_,h=>by rw[Dt]at h;subst h;exact .str
 |.tuple _,_,h=>by
  rw[Dt]at h;obtain⟨a,xs,rfl,n,h1,h2⟩:=h;exact .tup h1 (CO h2)
 |.list _,_,h=>by
  rw[Dt]at h;obtain⟨a,xs,rfl,n,h1,h2⟩:=h;exact .lst h1 (CO h2)
 |.dict _,_,h=>by rw[Dt]at h;exact h.elim
theorem CO{c:Addr}{H:Hp}:∀ {ds:List PyData} {xs:List V},AO c H ds xs→Ay H ds xs
 |[],_,h=>by rw[AO]at h;subst h;exact .nil
 |_::_,_,h=>by
  rw[AO]at h;obtain⟨x,r,rfl,h1,h2⟩:=h;exact .cons (dI h1) (CO h2)
end
theorem DU.br{K:PySem.W.Frag}{H:Hp}{d:PyData}{v:V}(h:DU H d v):Br K H d v:=let⟨N,b⟩:=h;(b N (aG _)).br
theorem DU.ints{H:Hp}{ps:List Int}{v:V}(h:DU H (.tuple (ps.map .int)) v):∃a,v=.ref a∧H a=some (.tup (ps.map V.int)):=by
 obtain⟨a,xs,rfl,ha,hx⟩:=h.Ui;refine⟨a,rfl,?_⟩;rw[ha]
 congr 2
 obtain⟨N,b⟩:=hx;have:=b N (aG _);clear b ha h
 induction ps generalizing xs with
 |nil=>rw[List.map_nil,AO]at this;exact this
 |cons p ps ih =>
  rw[List.map_cons,AO]at this;obtain⟨x,r,rfl,h1,h2⟩:=this;rw[Dt]at h1;subst h1;rw[List.map_cons,ih r h2]
def C2:PyData→Bool
 |.tuple [.int a,.int b]=>decide (1≤b)&&(FM.gi a b==1)
 |_=>false
theorem Ld{ds:List PyData}(h:ds.length≠2∨∃d0 d1,ds=[d0,d1]∧((Gg d0 && !FJ d0)=false∨(Gg d1 && !FJ d1)=false)):C2 (.tuple ds)=false:=by
 rcases h with h|⟨d0,d1,rfl,h⟩
 ·match ds,h with
  |[],_=>rfl
  |[a],_=>cases a<;>rfl
  |[_,_],h=>exact absurd rfl h
  |a::b::_::_,_=>cases a<;>first|rfl|(cases b<;>rfl)
 ·cases d0<;>first|rfl|(cases d1<;>first|rfl|(exfalso;rcases h with h|h<;>exact absurd h (by simp[Gg,FJ])))
def O6:Sp:=fun vs H Q _=>∃l d v,vs=[v]∧Dt l H d v∧Q (.bl (Gg d && !FJ d)) H
def Q6:Sp:=fun vs H Q _=>∃l d v,vs=[v]∧Dt l H d v∧Q (.bl (C2 d)) H
theorem Kg{d:PyData}(h:(Gg d && !FJ d)=true):∃i,d=.int i:=by
 cases d<;>first|exact⟨_,rfl⟩|(exact absurd h (by simp[Gg,FJ]))|(rename_i b;cases b<;>exact absurd h (by decide))
section
variable{P:Program}{w:World}{K:PySem.W.Frag}{mg:Str→Option Value}{base:Heap}{f g1 g2:Addr}{fd gd1 gd2:FuncData}
theorem RF:Ad ["thing"] ["thing"] (AM G7):=⟨rfl,rfl,rfl,by decide +kernel,rfl,by decide +kernel,by decide +kernel⟩
theorem RG(F:Fn K mg "is_whole" G7 ["thing"] f fd)(AR:mg "isinstance" = none)(GC:mg "int" = none)(Hx:mg "bool" = none):AL P w K mg base Ac 1 f fd ["thing"] O6:=by
 have sc:=RF;refine F.F.ok (k:=0) sc (fun vs H Q E h=>?_) (fun cdv A outer s H vs Q E hr h=>?_)
 ·obtain⟨l,d,v,rfl,_⟩:=h
  rfl
 obtain⟨l,d,v,rfl,hd,q⟩:=h;refine⟨_,(AF (Af (Kv (Ai BU rfl AR aM (AA (pv 0) (AA (Bm (v:=.ty "int") rfl GC PyProof.Rows.boot_int rfl) AD))) (Mr (Ud (Ai BU rfl AR aM (AA (pv 0) (AA (Bm (v:=.ty "bool") rfl Hx PyProof.Rows.boot_bool rfl) AD)))))))),?_⟩;refine⟨_,rfl,_,_,_,_,rfl,ES,hd.ty,Qj K d hd.nodict,_,rfl,BQ (fun c=>⟨_,rfl,_,_,_,_,rfl,ES,hd.ty,OY K d hd.nodict,_,rfl,?_⟩) (fun c=>?_)⟩
 ·rw[c,Bool.true_and]at q;exact q
 ·rw[Bool.eq_false_iff.mpr c,Bool.false_and]at q;exact q
theorem M8:Ad ["thing"] ["thing"] (AM Er):=⟨rfl,rfl,rfl,by decide +kernel,rfl,by decide +kernel,by decide +kernel⟩
theorem NA(F:Fn K mg "is_fraction" Er ["thing"] f fd)(Cw:Fn K mg "is_whole" G7 ["thing"] g1 gd1)(A1:Fn K mg "greatest_divisor" CF ["one", "other"] g2 gd2)
 (G6:AL P w K mg base Ac 1 g1 gd1 ["thing"] O6)(CJ:AL P w K mg base Ac 1 g2 gd2 ["one", "other"] NK)(AR:mg "isinstance" = none)(Bd:mg "tuple" = none)(BD:mg "len" = none):AL P w K mg base Ac 2 f fd ["thing"] Q6:=by
 have sc:=M8;refine F.F.ok (k:=1) sc (fun vs H Q E h=>?_) (fun cdv A outer s H vs Q E hr h=>?_)
 ·obtain⟨l,d,v,rfl,_⟩:=h
  rfl
 obtain⟨l,d,v,rfl,hd,q⟩:=h;refine⟨_,(AB (BK (PW.pt (EI (CI (Bx (Ai BU rfl AR aM (AA (pv 0) (AA (Bm (v:=.ty "tuple") rfl Bd bG rfl) AD))))) (DM (Au GH (Ai BW rfl BD av (AA (pv 0) AD)) AH (Ao _)))))
  (AF (Af CL))
  Ax)
 (AB (BK (PW.pt (EI (CI (Bx (Aj Cw G6 hr rfl (AA (BG CH (pv 0) AH (fun _ _=>rfl)) AD)))) (DM (CI (Bx (Aj Cw G6 hr rfl (AA (BG CH (pv 0) AH (fun _ _=>rfl)) AD)))))))
  (AF (Af CL))
  Ax)
 (AF (Af (Kv (F4 Xc (BG CH (pv 0) AH (fun _ _=>rfl)) AH (Ao _)) (Mr (F4 Fi (Aj A1 CJ hr rfl (AA (BG CH (pv 0) AH (fun _ _=>rfl)) (AA (BG CH (pv 0) AH (fun _ _=>rfl)) AD))) AH (Ao _)))))))),?_⟩
 refine⟨_,rfl,_,_,_,_,rfl,ES,hd.ty,Dl K d hd.nodict,_,rfl,?_⟩;have no:Cm d=false→C2 d=false:=fun z=>by cases d<;>first|rfl|exact absurd z (by simp[Cm])
 by_cases ht:Cm d=true
 ·rw[ht];obtain⟨ds,rfl⟩:∃ds,d=.tuple ds:=by cases d<;>first|exact⟨_,rfl⟩|exact absurd ht (by simp[Cm])
  rw[Dt]at hd;obtain⟨a,xs,rfl,na,ha,hx⟩:=hd;have hlen:=hx.len;have s1:Ap K H a xs:=Ap.of ha;refine Cr ⟨_,rfl,a,xs,rfl,.inr s1,rfl,_,rfl,BQ (fun c=>?_) (fun c=>?_)⟩
  ·have:ds.length≠2:=by
    rw[←hlen];intro z;rw[z]at c;exact absurd c (by decide)
   rw[Ld (.inl this)]at q;exact q
  ·have h2:xs.length=2:=by
    by_cases z:xs.length=2
    ·exact z
    ·exfalso
     refine c ?_;have:¬(V.int (xs.length:Nat)=V.int 2):=by simp;lia
     rw[decide_eq_false this];rfl
   obtain⟨d0,d1,rfl⟩:∃d0 d1,ds=[d0,d1]:=by
    match ds,(show ds.length=2 by lia) with
    |[x,y],_=>exact⟨x,y,rfl⟩
   rw[AO]at hx;obtain⟨x0,r,rfl,hx0,hx⟩:=hx;rw[AO]at hx;obtain⟨x1,r,rfl,hx1,hx⟩:=hx;rw[AO]at hx;subst hx;refine⟨_,rfl,_,_,_,_,rfl,rfl,s1,rfl,l,d0,x0,rfl,hx0,_,rfl,BQ (fun c0=>?_) (fun c0=>?_)⟩
   ·rw[Ld (.inr ⟨d0,d1,rfl,.inl (by simp at c0;rcases c0 with c|c<;>simp[c])⟩)]at q;exact q
   refine⟨_,rfl,_,_,_,_,rfl,rfl,s1,rfl,l,d1,x1,rfl,hx1,_,rfl,BQ (fun c1=>?_) (fun c1=>?_)⟩
   ·rw[Ld (.inr ⟨d0,d1,rfl,.inr (by simp at c1;rcases c1 with c|c<;>simp[c])⟩)]at q;exact q
   obtain⟨i,rfl⟩:=Kg (d:=d0) (by simpa using c0);obtain⟨j,rfl⟩:=Kg (d:=d1) (by simpa using c1);rw[Dt]at hx0 hx1;subst hx0 hx1;refine⟨_,rfl,_,_,_,_,rfl,rfl,s1,rfl,_,_,rfl,rfl,_,rfl,BQ (fun c=>?_) (fun c=>?_)⟩
   ·refine⟨_,rfl,_,_,_,_,rfl,rfl,s1,rfl,_,rfl,_,_,_,_,rfl,rfl,s1,rfl,i,j,rfl,rfl,?_⟩;have hj:1≤j:=by have:=aj c;lia
    have e:C2 (.tuple [.int i,.int j])=decide (V.int (FM.gi i j)=V.int 1):=by
     rw[C2,decide_eq_true hj,Bool.true_and,Bool.eq_iff_iff];simp
    rw[e]at q;exact q
   ·have hj:¬1≤j:=fun z=>c (bP (by lia));have e:C2 (.tuple [.int i,.int j])=false:=by rw[C2,decide_eq_false hj,Bool.false_and]
    rw[e]at q;exact q
 ·rw[Bool.eq_false_iff.mpr ht];rw[no (ar.mpr ht)]at q;exact BV (BV q)
end
def GR:PyData→Bool
 |.list ds=>ds.all C2
 |_=>false
theorem Vw{d:PyData}(h:CG d=false):GR d=false:=by cases d<;>first|rfl|exact absurd h (by simp[CG])
theorem Lk{d:PyData}(h:CG d=true):∃ds,d=.list ds:=by cases d<;>first|exact⟨_,rfl⟩|exact absurd h (by simp[CG])
theorem QY{d:PyData}(h:Cm d=true):∃ds,d=.tuple ds:=by cases d<;>first|exact⟨_,rfl⟩|exact absurd h (by simp[Cm])
def Sw:Sp:=fun vs H Q _=>∃l d v,vs=[v]∧Dt l H d v∧Q (.bl (GR d)) H
section
variable{P:Program}{w:World}{K:PySem.W.Frag}{mg:Str→Option Value}{base:Heap}{f g1:Addr}{fd gd1:FuncData}
theorem L3:Ad ["thing", "part"] ["thing"] (AM Fh):=⟨rfl,rfl,rfl,by decide +kernel,rfl,by decide +kernel,by decide +kernel⟩
theorem Lf(F:Fn K mg "are_fractions" Fh ["thing"] f fd)(CP:Fn K mg "is_fraction" Er ["thing"] g1 gd1)
 (Gu:AL P w K mg base Ac 2 g1 gd1 ["thing"] Q6)(AR:mg "isinstance" = none)(BR:mg "list" = none):AL P w K mg base Ac 3 f fd ["thing"] Sw:=by
 have sc:=L3;refine F.F.ok (k:=2) sc (fun vs H Q E h=>?_) (fun cdv A outer s H vs Q E hr h=>?_)
 ·obtain⟨l,d,v,rfl,_⟩:=h
  rfl
 obtain⟨l,d,v,rfl,hd,q⟩:=h;refine⟨_,(AB (BK (CI (Bx (Ai BU rfl AR aM (AA (pv 0) (AA (Bm (v:=.ty "list") rfl BR ae rfl) AD)))))
  (AF (Af CL))
  Ax)
 (AB (Bf aK rfl (BB (pv 0)) (Al (i:=1) sc.nd rfl (Or.inl rfl))
  (AF (BK (CI (Bx (Aj CP Gu hr rfl (AA (pv 1) AD))))
   (AF (Af CL))
   Ax)))
 (AF (Af CL)))),?_⟩
 refine⟨_,rfl,_,_,_,_,rfl,ES,hd.ty,CT K d hd.nodict,_,rfl,?_⟩;by_cases hL:CG d=false
 ·rw[hL];rw[Vw hL]at q;exact BV q
 have hL:CG d=true:=by simpa using hL
 rw[hL];refine Cr ?_;obtain⟨ds,rfl⟩:=Lk hL;rw[Dt]at hd;obtain⟨a,xs,rfl,na,ha,ht⟩:=hd;have hlen:=ht.len;refine⟨_,rfl,a,rfl,⟨_,AQ.of ha⟩,B6 (xs:=xs) (fun i σ H'=>∃r1,σ=[some (.ref a),r1]∧H=H'∧∀j c,j<i→ds[j]? = some c→C2 c=true) ?_ ?_ ?_ ?_⟩
 ·exact⟨_,rfl,rfl,fun j c h=>absurd h (Nat.not_lt_zero _)⟩
 ·rintro i σ H' _ ⟨r1,rfl,rfl,_⟩;exact AQ.of ha
 ·rintro i x σ H' hx ⟨r1,rfl,rfl,hf⟩;obtain⟨c,hc,tc⟩:=ht.get hx;refine⟨_,rfl,l,c,x,rfl,tc,_,rfl,BQ (fun b=>?_) (fun b=>?_)⟩
  ·have hb:C2 c=false:=by simpa using b
   have e:GR (.list ds)=false:=ar.mpr fun z=>by
    rw[GR,List.all_eq_true]at z;rw[z c (aL hc)]at hb;cases hb
   rw[e]at q;exact q
  ·have hb:C2 c=true:=by simpa using b
   refine⟨_,rfl,rfl,fun j e hj he=>?_⟩;by_cases z:j=i
   ·subst z;rw[hc]at he;cases he;exact hb
   ·exact hf j e (by lia) he
 ·rintro σ H' ⟨r1,rfl,rfl,hf⟩;have e:GR (.list ds)=true:=by
   rw[GR,List.all_eq_true];intro c hc;obtain⟨j,hj⟩:=bJ hc;exact hf j c (by rw[hlen];exact(aC.mp hj).1) hj
  rw[e]at q;exact q
end
theorem ZQ{p:Addr}{H H':Hp}{xs:List V}{ds:List PyData}(hH:upd H p (.tup xs)=H')(hp:H p=none)(k:Ay H ds xs):AG H H'∧DU H' (.tuple ds) (.ref p)∧H' p=some (.tup xs):=by
 subst hH;have es:=AN hp (.tup xs);exact⟨es,.tup AI (k.same es),AI⟩
theorem WH{p:Addr}{H H':Hp}{xs:List V}{ds:List PyData}(hH:upd H p (.lst xs)=H')(hp:H p=none)(k:Ay H ds xs):AG H H'∧DU H' (.list ds) (.ref p)∧H' p=some (.lst xs):=by
 subst hH;have es:=AN hp (.lst xs);exact⟨es,.lst AI (k.same es),AI⟩
theorem VJ(r:Rat):C2 (AV r)=true:=by
 have h:=r.den_nz;have k:=r.reduced;rw[AV,C2,decide_eq_true (show(1:Int)≤(r.den:Int) by lia),Bool.true_and];rw[beq_iff_eq];unfold FM.gi;unfold Nat.Coprime at k;rw[show r.num.gcd (r.den:Int)=1 from k]
 rfl
theorem Cj{i n:Nat}(h:i<n)(hn:n≤60):i<sizeLine:=aO (show i<60 by lia) (by rw[sizeLine_eq];decide)
theorem CC{n:Nat}(hn:n≤60):n≤sizeLine:=aR hn (by rw[sizeLine_eq];decide)
def AZ(r:List Rat):List PyData:=r.map AV
def Aq(r:List Rat):PyData:=.list (AZ r)
def BE(rs:List (List Rat)):List PyData:=rs.map Aq
theorem WN(r:List Rat):∀e∈AZ r,C2 e=true:=fun e he=>by
 obtain⟨q,_,rfl⟩:=aQ.mp he;exact VJ q
theorem Kl(r:List Rat):(AZ r).length=r.length:=List.length_map _
mutual
theorem Yk{l c:Addr}{H H':Hp}(e:SameBut c H H'):∀ {d:PyData} {v:V},Dt l H d v→Dt c H d v→Dt l H' d v
 |.none,_,h,_=>by rw[Dt]at h ⊢;exact h
 |.bool _,_,h,_=>by rw[Dt]at h ⊢;exact h
 |.int _,_,h,_=>by rw[Dt]at h ⊢;exact h
 |.str _,_,h,_=>by rw[Dt]at h ⊢;exact h
 |.tuple _,_,h,k=>by
  rw[Dt]at h k ⊢;obtain⟨a,xs,e1,n,h1,h2⟩:=h;obtain⟨a',xs',e1',n',h1',h2'⟩:=k;subst e1;cases e1';rw[h1]at h1';cases h1';exact⟨a,xs,rfl,n,e _ _ n' h1,HF e h2 h2'⟩
 |.list _,_,h,k=>by
  rw[Dt]at h k ⊢;obtain⟨a,xs,e1,n,h1,h2⟩:=h;obtain⟨a',xs',e1',n',h1',h2'⟩:=k;subst e1;cases e1';rw[h1]at h1';cases h1';exact⟨a,xs,rfl,n,e _ _ n' h1,HF e h2 h2'⟩
 |.dict _,_,h,_=>by rw[Dt]at h;exact h.elim
theorem HF{l c:Addr}{H H':Hp}(e:SameBut c H H'):∀ {ds:List PyData} {xs:List V},AO l H ds xs→AO c H ds xs→AO l H' ds xs
 |[],_,h,_=>by rw[AO]at h ⊢;exact h
 |_::_,_,h,k=>by
  rw[AO]at h k ⊢;obtain⟨x,r,e1,h1,h2⟩:=h;obtain⟨x',r',e1',h1',h2'⟩:=k;subst e1;cases e1';exact⟨x,r,rfl,Yk e h1 h1',HF e h2 h2'⟩
end
theorem Ay.R7{H:Hp}{d:PyData}{ds:List PyData}{xs:List V}(h:Ay H (d::ds) xs):∃x r,xs=x::r∧DU H d x∧Ay H ds r:=by
 obtain⟨N,b⟩:=h;have h0:=b N (aG _);rw[AO]at h0;obtain⟨x,r,rfl,_,_⟩:=h0;refine⟨x,r,rfl,⟨N,fun l hl=>?_⟩,⟨N,fun l hl=>?_⟩⟩
 ·have:=b l hl;rw[AO]at this;obtain⟨_,_,e,h1,_⟩:=this;cases e;exact h1
 ·have:=b l hl;rw[AO]at this;obtain⟨_,_,e,_,h1⟩:=this;cases e;exact h1
theorem DU.rat{H:Hp}{q:Rat}{v:V}(h:DU H (AV q) v):∃p,v=.ref p∧H p=some (.tup (KG q)):=h.ints (ps:=[q.num,(q.den:Int)])
theorem UY{H:Hp}{q:Rat}{p:Addr}(h:H p=some (.tup (KG q))):DU H (AV q) (.ref p):=.tup h (.cons .int (.cons .int .nil))
theorem Hf{c:Addr}{zs:List V}{H:Hp}(hc:H c=some (.lst zs)):∀ {qs:List Rat} {xs:List V},Ay H (AZ qs) xs→AO c H (AZ qs) xs
 |[],xs,h=>by
  have:=h.len;rw[show AZ []=[] from rfl,List.length_nil]at this;rw[List.eq_nil_of_length_eq_zero this];exact .nil
 |q::qs,xs,h=>by
  obtain⟨x,r,rfl,h1,h2⟩:=Ay.R7 h;obtain⟨p,rfl,hp⟩:=h1.rat;exact .cons (.tup (fun z=>by subst z;rw[hp]at hc;cases hc) hp (.cons .int (.cons .int .nil))) (Hf hc h2)
theorem OE{c:Addr}{zs:List V}{H H':Hp}(hc:H c=some (.lst zs))(e:SameBut c H H'){qs:List Rat}{xs:List V}(h:Ay H (AZ qs) xs):Ay H' (AZ qs) xs:=CO (.but e (Hf hc h))
theorem UR(a b:List Rat):AZ (a++b)=AZ a++AZ b:=List.map_append
def FN(c b:Int):Int:=c.fdiv (FM.gi c b)*b
def FD(bs:List Int):Int:=bs.foldl FN 1
theorem Q3{k:Nat}:∀(bs:List Int) (c:Int) (n:Nat),1≤c→c.natAbs<2^n→(∀b∈bs,1≤b∧b.natAbs<2^k) →
  1≤bs.foldl FN c∧(bs.foldl FN c).natAbs<2^(n+k*bs.length)∧c ∣ bs.foldl FN c∧∀b∈bs,b ∣ bs.foldl FN c
 |[],c,n,h1,h2,_=>⟨h1,by simpa using h2,Int.dvd_refl _,fun _ z=>(bS z).elim⟩
 |b::bs,c,n,h1,h2,h=>by
  obtain⟨b1,b2⟩:=h b aa;obtain⟨s1,s2,s3,s4⟩:=QC h1 b1;have n1:(FN c b).natAbs<2^(n+k):=FM.DL (aP s4 h2) b2;obtain⟨r1,r2,r3,r4⟩:=Q3 bs (FN c b) (n+k) s1 n1 fun y hy=>h y (aV _ hy);refine⟨r1,?_,Int.dvd_trans s2 r3,fun y hy=>?_⟩
  ·rw[List.length_cons,Nat.mul_succ,show n+(k*bs.length+k)=n+k+k*bs.length by lia];exact r2
  ·rcases aS.mp hy with rfl|hy
   ·exact Int.dvd_trans s3 r3
   ·exact r4 y hy
theorem NJ{k:Nat}{bs:List Int}(h:∀b∈bs,1≤b∧b.natAbs<2^k):1≤FD bs∧(FD bs).natAbs<2^(1+k*bs.length)∧∀b∈bs,b ∣ FD bs:=by
 obtain⟨a,b,_,d⟩:=Q3 bs 1 1 (by decide) (by decide) h;exact⟨a,b,d⟩
theorem U6(bs:List Int)(b:Int):FD (bs++[b])=FN (FD bs) b:=by
 unfold FD;rw[List.foldl_append]
 rfl
def QZ:Sp:=fun vs H Q _=>∃(a:Addr) (bs:List Int) (k:Nat),vs=[.ref a]∧H a=some (.lst (bs.map V.int))∧(∀b∈bs,1≤b∧b.natAbs<2^k)∧k*bs.length≤4000∧Q (.int (FD bs)) H
def Ba(rs:List Rat)(B:Int):List Int:=rs.map fun r=>r.num*B.fdiv (r.den:Int)
def U5:Sp:=fun vs H Q _=>∃(a:Addr) (xs:List V) (rs:List Rat) (B:Int) (n m:Nat),vs=[.ref a,.int B]∧H a=some (.lst xs)∧Ay H (AZ rs) xs∧rs.length≤50∧(∀r∈rs,FM.Fits r n)∧B.natAbs<2^m∧n+m≤4000 ∧
 ∀D H',AG H H'→H D=none→H' D=some (.lst ((Ba rs B).map V.int))→Q (.ref D) H'
def Ag(rs:List Rat):Int:=FD (rs.map fun r=>(r.den:Int))
def SH:Sp:=fun vs H Q _=>∃(a:Addr) (xs:List V) (rs:List Rat) (n:Nat),vs=[.ref a]∧H a=some (.lst xs)∧Ay H (AZ rs) xs∧rs.length≤50∧(∀r∈rs,FM.Fits r n)∧n*rs.length≤4000∧∀H',AG H H'→Q (.int (Ag rs)) H'
theorem JE{H:Hp}{qs:List Rat}{xs:List V}{i:Nat}{q:Rat}(h:Ay H (AZ qs) xs)(hq:qs[i]? = some q):∃p,xs[i]? = some (.ref p)∧H p=some (.tup (KG q)):=by
 obtain⟨v,h1,h2⟩:=h.get (i:=i) (d:=AV q) (by rw[AZ,List.getElem?_map,hq];rfl);obtain⟨p,rfl,hp⟩:=h2.rat;exact⟨p,h1,hp⟩
theorem Sr{rs:List Rat}{n:Nat}(h:∀r∈rs,FM.Fits r n):∀b∈rs.map (fun r=>(r.den:Int)),1≤b∧b.natAbs<2^n:=fun b hb=>by
 obtain⟨r,hr,rfl⟩:=aQ.mp hb;have:=r.den_nz;exact⟨by lia,(h r hr).d⟩
section
variable{P:Program}{w:World}{K:PySem.W.Frag}{mg:Str→Option Value}{base:Heap}{f g g1:Addr}{fd gd gd1:FuncData}
theorem LF(F:Fn K mg "common_bottom" EF ["bottoms"] f fd)(A1:Fn K mg "greatest_divisor" CF ["one", "other"] g gd)
 (CJ:AL P w K mg base Ac 1 g gd ["one", "other"] NK):AL P w K mg base Ac 2 f fd ["bottoms"] QZ:=by
 have sc:=Ln;refine F.F.ok (k:=1) sc (fun vs H Q E h=>?_) (fun cdv A outer s H vs Q E hr h=>?_)
 ·obtain⟨a,bs,k,rfl,_⟩:=h
  rfl
 obtain⟨a,bs,k,rfl,ha,hb,hk,q⟩:=h;refine⟨_,(AB (AW (i:=1) sc.nd rfl (Or.inl rfl) AH)
 (AB (Bf aK rfl (BB (pv 0)) (Al (i:=2) sc.nd rfl (Or.inl rfl))
  (AF (AW (i:=1) sc.nd rfl (Or.inl rfl) (Ab BS (Ab C9 (pv 1) (Aj A1 CJ hr rfl (AA (pv 1) (AA (pv 2) AD)))) (pv 2)))))
 (AF (Af (pv 1))))),?_⟩
 refine⟨_,rfl,a,rfl,⟨_,AQ.of ha⟩,B6 (xs:=bs.map V.int) (fun i σ H'=>∃(r:Option V),σ=[some (.ref a),some (.int (FD (bs.take i))),r]∧H=H') ?_ ?_ ?_ ?_⟩
 ·exact⟨_,rfl,rfl⟩
 ·rintro i σ H' _ ⟨r,rfl,rfl⟩;exact AQ.of ha
 ·rintro i x σ H' hx ⟨r,rfl,rfl⟩;have hi:i<bs.length:=by have:=(aC.mp hx).1;simpa using this
  rw[List.getElem?_map,List.getElem?_eq_getElem hi]at hx;cases hx;obtain⟨b1,b2⟩:=hb _ (ax hi);obtain⟨c1,c2,_⟩:=NJ (k:=k) (bs:=bs.take i) fun y hy=>hb y (List.mem_of_mem_take hy);rw[List.length_take,Nat.min_eq_left (by lia)]at c2;obtain⟨s1,s2,s3,s4⟩:=QC c1 b1;have hg:FM.gi (FD (bs.take i)) bs[i]≠0:=Int.ne_of_gt (FM.J2 (by lia));have hki:k*i+k≤4000:=by
   have:k*(i+1)≤k*bs.length:=aY k hi;rw[Nat.mul_succ]at this
   lia
  have n1:((FD (bs.take i)).fdiv (FM.gi (FD (bs.take i)) bs[i])).natAbs<2^(1+k*i):=aP s4 c2;refine⟨_,rfl,_,rfl,_,rfl,FD (bs.take i),bs[i],rfl,_,_,rfl,rfl,⟨hg,k,by have:k*1≤k*bs.length:=aY k (by lia);lia,Nat.lt_of_le_of_lt (FM.XM (by lia)) b2⟩,_,rfl,_,_,rfl,rfl,F8 n1 b2 (by lia),some (.int bs[i]),?_,rfl⟩;rw[List.take_add_one,List.getElem?_eq_getElem hi];show _=[some (V.ref a),some (V.int (FD (bs.take i++[bs[i]]))),some (V.int bs[i])];rw[U6]
  rfl
 ·rintro σ H' ⟨r,rfl,rfl⟩;rw[List.length_map,List.take_length];exact⟨_,rfl,q⟩
theorem Q7:Ad ["some", "bottom"] ["some", "bottom"] (AM Ie):=⟨rfl,rfl,rfl,by decide +kernel,rfl,by decide +kernel,by decide +kernel⟩
theorem Pq(F:Fn K mg "tops_over" Ie ["some", "bottom"] f fd):AL P w K mg base Ac 1 f fd ["some", "bottom"] U5:=by
 have sc:=Q7;refine F.F.ok (k:=0) sc (fun vs H Q E h=>?_) (fun cdv A outer s H vs Q E hr h=>?_)
 ·obtain⟨a,xs,rs,B,n,m,rfl,_⟩:=h
  rfl
 obtain⟨a,xs,rs,B,n,m,rfl,ha,dx,hl,hf,hB,hnm,q⟩:=h;have hxl:xs.length=rs.length:=by rw[dx.len,Kl]
 refine⟨_,(AF (Af (DC [".0", "part", "bottom"] 1 [none,none,some 1] (BB (pv 0)) (fun _ _ _ _ _=>Bl) (fun _ _ _ _ _=>(Ab BS (BG HK (pv 1) AH (fun _ _=>rfl)) (Ab C9 (pv 2) (BG HK (pv 1) AH (fun _ _=>rfl)))))))),?_⟩;refine⟨_,rfl,a,rfl,⟨_,AQ.of ha⟩,fun D hD=>Ce (n:=xs.length) (fun i ys H'=>AG H H'∧ys=(Ba (rs.take i) B).map V.int) ⟨AN hD _,rfl⟩ ?_ ?_⟩
 ·rintro i ys H1 hi ⟨e1,rfl⟩ hD1;have hr:rs[i]? = some (rs[i]'(by lia)):=aI _;obtain⟨p,hp1,hp2⟩:=JE dx hr;have ft:=hf _ (aL hr);generalize rs[i]'(by lia)=r at hr hp2 ft;have hd:=r.den_nz;refine⟨⟨xs,.ref p,AQ.of (e1 _ _ ha),hp1⟩,Cj (n:=60) (by unfold Ba;simp;lia) (by decide),fun x H' y=>?_⟩;obtain⟨rfl,y⟩:=y;have hx:=y xs (AQ.of (e1 _ _ ha));rw[hp1]at hx;cases hx;unfold Cq;have n2:(B.fdiv (r.den:Int)).natAbs<2^m:=aP (FM.BI _ _) hB;refine BV ⟨_,rfl,_,_,_,_,rfl,rfl,Ap.of (e1 _ _ hp2),rfl,_,rfl,_,rfl,_,_,_,_,rfl,rfl,Ap.of (e1 _ _ hp2),rfl,_,_,rfl,rfl,⟨by lia,n,by lia,ft.d⟩,_,_,rfl,rfl,F8 ft.1 n2 (by lia),hD1,BZ hi ⟨fun b o z=>?_,?_⟩⟩
  ·rw[AE (AK z hD)];exact e1 _ _ z
  ·rw[List.take_add_one,hr,Ba,Ba,List.map_append,List.map_append]
   rfl
 ·rintro ys H1 ⟨e1,rfl⟩ hD1;rw[hxl,List.take_length]at hD1;exact⟨⟨xs,AQ.of (e1 _ _ ha),Nat.le_refl _⟩,q D H1 e1 hD hD1⟩
theorem RL:Ad ["start"] ["start"] (AM JQ):=⟨rfl,rfl,rfl,by decide +kernel,rfl,by decide +kernel,by decide +kernel⟩
theorem RH(F:Fn K mg "grain_of" JQ ["start"] f fd)(Bw:Fn K mg "common_bottom" EF ["bottoms"] g1 gd1)
 (FQ:AL P w K mg base Ac 2 g1 gd1 ["bottoms"] QZ):AL P w K mg base Ac 3 f fd ["start"] SH:=by
 have sc:=RL;refine F.F.ok (k:=2) sc (fun vs H Q E h=>?_) (fun cdv A outer s H vs Q E hr h=>?_)
 ·obtain⟨a,xs,rs,n,rfl,_⟩:=h
  rfl
 obtain⟨a,xs,rs,n,rfl,ha,dx,hl,hf,hn,q⟩:=h;have hxl:xs.length=rs.length:=by rw[dx.len,Kl]
 refine⟨_,(AF (Af (Aj Bw FQ hr rfl (AA (DC [".0", "place"] 1 [none,none] (BB (pv 0)) (fun _ _ _ _ _=>Bl) (fun _ _ _ _ _=>(BG HK (pv 1) AH (fun _ _=>rfl)))) AD)))),?_⟩;refine⟨_,rfl,a,rfl,⟨_,AQ.of ha⟩,fun D hD=>Ce (n:=xs.length) (fun i ys H'=>AG H H'∧ys=((rs.take i).map fun r=>(r.den:Int)).map V.int) ⟨AN hD _,rfl⟩ ?_ ?_⟩
 ·rintro i ys H1 hi ⟨e1,rfl⟩ hD1;have hr:rs[i]? = some (rs[i]'(by lia)):=aI _;obtain⟨p,hp1,hp2⟩:=JE dx hr;generalize rs[i]'(by lia)=r at hr hp2;refine⟨⟨xs,.ref p,AQ.of (e1 _ _ ha),hp1⟩,Cj (n:=60) (by simp;lia) (by decide),fun x H' y=>?_⟩;obtain⟨rfl,y⟩:=y;have hx:=y xs (AQ.of (e1 _ _ ha));rw[hp1]at hx;cases hx;unfold Cq;refine BV ⟨_,rfl,_,_,_,_,rfl,rfl,Ap.of (e1 _ _ hp2),rfl,hD1,BZ hi ⟨fun b o z=>?_,?_⟩⟩
  ·rw[AE (AK z hD)];exact e1 _ _ z
  ·rw[List.take_add_one,hr,List.map_append,List.map_append]
   rfl
 ·rintro ys H1 ⟨e1,rfl⟩ hD1;rw[hxl,List.take_length]at hD1;exact⟨⟨xs,AQ.of (e1 _ _ ha),Nat.le_refl _⟩,D,_,n,rfl,hD1,Sr hf,by rw[List.length_map];exact hn,q H1 e1⟩
end
abbrev Aa:=List Int×Rat
def CZ(m:Aa):PyData:=.tuple [.tuple (m.1.map .int),AV m.2]
def BJ(us:List Aa):PyData:=.list (us.map CZ)
theorem DU.mono{H:Hp}{m:Aa}{v:V}(h:DU H (CZ m) v):∃c P F,v=.ref c∧H c=some (.tup [.ref P,.ref F])∧H P=some (.tup (m.1.map V.int))∧H F=some (.tup (KG m.2)):=by
 obtain⟨c,xs,rfl,hc,h1⟩:=h.Ui;obtain⟨x,y,rfl,h2,h3⟩:=h1.LM;obtain⟨P,rfl,hP⟩:=h2.ints;obtain⟨F,rfl,hF⟩:=h3.rat;exact⟨c,P,F,rfl,hc,hP,hF⟩
theorem HZ{H:Hp}{us:List Aa}{xs:List V}{i:Nat}{m:Aa}(d:Ay H (us.map CZ) xs)(h:us[i]? = some m):∃c P F,xs[i]? = some (.ref c)∧H c=some (.tup [.ref P,.ref F])∧H P=some (.tup (m.1.map V.int))∧H F=some (.tup (KG m.2)):=by
 obtain⟨v,h1,h2⟩:=d.get (i:=i) (d:=CZ m) (by rw[List.getElem?_map,h];rfl);obtain⟨c,P,F,rfl,a,b,e⟩:=h2.mono;exact⟨c,P,F,h1,a,b,e⟩
theorem HP{H:Hp}{uss:List (List Aa)}{cs:List V}{i:Nat}{us:List Aa}(d:Ay H (uss.map BJ) cs)(h:uss[i]? = some us):∃a xs,cs[i]? = some (.ref a)∧H a=some (.lst xs)∧Ay H (us.map CZ) xs:=by
 obtain⟨v,h1,h2⟩:=d.get (i:=i) (d:=BJ us) (by rw[List.getElem?_map,h];rfl);obtain⟨a,xs,rfl,ha,hx⟩:=h2.Mm;exact⟨a,xs,h1,ha,hx⟩
def HB(us:List Aa):List Int:=us.map fun m=>(m.2.den:Int)
def EZ(uss:List (List Aa)):List Int:=(uss.map HB).flatten
def BL(uss:List (List Aa)):Int:=FD (EZ uss)
def BM(m:Aa):Int:=m.1.sum
def F0(g:Int)(us:List Aa):Int:=us.foldl (fun g m=>if BM m > g then BM m else g) g
def DQ(uss:List (List Aa)):Int:=uss.foldl F0 1
structure LU(H:Hp)(C:Addr)(cs:List V)(uss:List (List Aa))(n:Nat):Prop where
 at_:H C=some (.lst cs)
 du:Ay H (uss.map BJ) cs
 len:uss.length≤4
 Jz:∀us∈uss,us.length≤12∧∀m∈us,FM.Fits m.2 n
theorem LU.same{H H':Hp}{C:Addr}{cs:List V}{uss:List (List Aa)}{n:Nat}(c:LU H C cs uss n)(e:AG H H'):LU H' C cs uss n:=⟨e _ _ c.at_,c.du.same e,c.len,c.Jz⟩
theorem LU.cl{H:Hp}{C:Addr}{cs:List V}{uss:List (List Aa)}{n:Nat}(c:LU H C cs uss n):cs.length=uss.length:=by rw[c.du.len,List.length_map]
theorem L6{uss:List (List Aa)}:∀(h:∀us∈uss,us.length≤12),(EZ uss).length≤12*uss.length:=by
 induction uss with
 |nil=>intro _;simp[EZ]
 |cons us uss ih =>
  intro h;have h1:=h us aa;have h2:=ih fun y hy=>h y (aV _ hy);unfold EZ at h2 ⊢;rw[List.map_cons,List.flatten_cons,List.length_append,List.length_cons,Nat.mul_succ];have:(HB us).length=us.length:=List.length_map _
  lia
theorem UO{uss:List (List Aa)}{us:List Aa}{i:Nat}(h:uss[i]? = some us):EZ (uss.take (i+1))=EZ (uss.take i)++HB us:=by
 unfold EZ;rw[List.take_add_one,h,List.map_append,List.flatten_append];simp
theorem QK{uss:List (List Aa)}{n:Nat}(h:∀us∈uss,us.length≤12∧∀m∈us,FM.Fits m.2 n):∀b∈EZ uss,1≤b∧b.natAbs<2^n:=fun b hb=>by
 unfold EZ at hb;obtain⟨l,hl,hb⟩:=List.mem_flatten.mp hb;obtain⟨us,hus,rfl⟩:=aQ.mp hl;obtain⟨m,hm,rfl⟩:=aQ.mp hb;have:=m.2.den_nz;exact⟨by lia,((h us hus).2 m hm).d⟩
def XE:Sp:=fun vs H Q _=>∃(C:Addr) (cs:List V) (uss:List (List Aa)) (n:Nat),vs=[.ref C]∧LU H C cs uss n∧n≤80∧∀H',AG H H'→Q (.int (BL uss)) H'
def Wq:Sp:=fun vs H Q _=>∃(C:Addr) (cs:List V) (uss:List (List Aa)) (n:Nat),vs=[.ref C]∧LU H C cs uss n∧Q (.int (DQ uss)) H
section
variable{P:Program}{w:World}{K:PySem.W.Frag}{mg:Str→Option Value}{base:Heap}{f g1:Addr}{fd gd1:FuncData}
theorem L9:Ad ["change", "bottoms", "some"] ["change"] (AM EA):=⟨rfl,rfl,rfl,by decide +kernel,rfl,by decide +kernel,by decide +kernel⟩
theorem Lr(F:Fn K mg "speeds_bottom" EA ["change"] f fd)(Bw:Fn K mg "common_bottom" EF ["bottoms"] g1 gd1)
 (FQ:AL P w K mg base Ac 2 g1 gd1 ["bottoms"] QZ):AL P w K mg base Ac 3 f fd ["change"] XE:=by
 have sc:=L9;refine F.F.ok (k:=2) sc (fun vs H Q E h=>?_) (fun cdv A outer s H vs Q E hr h=>?_)
 ·obtain⟨C,cs,uss,n,rfl,_⟩:=h
  rfl
 obtain⟨C,cs,uss,n,rfl,ch,hn,q⟩:=h;have hcl:=ch.cl;have hl4:=ch.len;refine⟨_,(AB (AW (i:=1) sc.nd rfl (Or.inl rfl) (Dr AD))
 (AB (Bf aK rfl (BB (pv 0)) (Al (i:=2) sc.nd rfl (Or.inl rfl))
  (AF (DY (K0 bH PySem.F.slot_list_extend PySem.F.type_list_extend Uj (pv 1) (AA (Ko [".0", "powers", "part"] 1 2 [none,none,none] (BB (pv 2)) (fun _ _ _ _ _=>Bl) (fun _ _ _ _ _=>(BG HK (pv 2) AH (fun _ _=>rfl)))) AD)))))
 (AF (Af (Aj Bw FQ hr rfl (AA (pv 1) AD)))))),?_⟩
 refine⟨CC (show 0≤60 by decide),fun Z hZ=>?_⟩;have e1:=AN hZ (.lst []);have hZ1:upd H Z (.lst []) Z=some (.lst []):=AI;generalize upd H Z (.lst [])=H1 at e1 hZ1;refine⟨_,rfl,C,rfl,⟨_,AQ.of (e1 _ _ ch.at_)⟩,B6 (xs:=cs) (fun i σ H'=>∃r2,σ=[some (.ref C),some (.ref Z),r2]∧AG H H'∧H' Z=some (.lst ((EZ (uss.take i)).map V.int))) ?_ ?_ ?_ ?_⟩
 ·exact⟨_,rfl,e1,hZ1⟩
 ·rintro i σ H' _ ⟨r2,rfl,e,_⟩;exact AQ.of (e _ _ ch.at_)
 ·rintro i x σ H2 hx ⟨r2,rfl,e2,hZ2⟩;have hi:i<uss.length:=by rw[←hcl];exact(aC.mp hx).1
  have hu:uss[i]? = some uss[i]:=by simp[hi]
  obtain⟨a,xs,ha1,ha2,dx⟩:=HP ch.du hu;obtain⟨u12,_⟩:=ch.Jz _ (aL hu);generalize uss[i]=us at hu dx u12;rw[hx]at ha1;cases ha1;have hxl:xs.length=us.length:=by rw[dx.len,List.length_map]
  refine⟨_,rfl,.inl ⟨rfl,_,AQ.of hZ2⟩,_,rfl,a,rfl,⟨_,AQ.of (e2 _ _ ha2)⟩,fun D hD=>F3 (n:=xs.length) (fun j ys H'=>AG H2 H'∧ys=(HB (us.take j)).map V.int) ⟨AN hD _,rfl⟩ ?_ ?_⟩
  ·rintro j ys H3 hj ⟨e3,rfl⟩ hD3;have E3:=e2.trans e3;have hm:us[j]? = some (us[j]'(by lia)):=aI _;obtain⟨c,Pw,Fr,k1,k2,k3,k4⟩:=HZ dx hm;generalize us[j]'(by lia)=m at hm k3 k4;refine⟨⟨xs,.ref c,AQ.of (E3 _ _ ha2),k1⟩,Cj (n:=60) (by unfold HB;simp;lia) (by decide),fun x H' y=>?_⟩;obtain⟨rfl,y⟩:=y;have hx:=y xs (AQ.of (E3 _ _ ha2));rw[k1]at hx;cases hx;refine⟨c,_,_,rfl,Ap.of (E3 _ _ k2),?_⟩;unfold Cq;refine BV ⟨_,rfl,_,_,_,_,rfl,rfl,Ap.of (E3 _ _ k4),rfl,hD3,BZ hj ⟨fun b o z=>?_,?_⟩⟩
   ·rw[AE (AK z hD)];exact e3 _ _ z
   ·rw[List.take_add_one,hm,HB,HB,List.map_append,List.map_append]
    rfl
  ·rintro ys H3 ⟨e3,rfl⟩ hD3;have E3:=e2.trans e3;rw[hxl,List.take_length]at hD3;refine⟨⟨xs,AQ.of (E3 _ _ ha2),Nat.le_refl _⟩,Z,D,_,_,rfl,rfl,e3 _ _ hZ2,hD3,?_,_,rfl,fun b o z=>?_,?_⟩
   ·have:=L6 (uss:=uss.take i) fun y hy=>(ch.Jz y (List.mem_of_mem_take hy)).1;rw[List.length_take,Nat.min_eq_left (by lia)]at this;refine CC ?_;rw[List.length_map,List.length_map,show(HB us).length=us.length from List.length_map _]
    lia
   ·rw[AE (AK z hZ)];exact e3 _ _ (e2 _ _ z)
   ·rw[AI,UO hu,List.map_append]
 ·rintro σ H2 ⟨r2,rfl,e2,hZ2⟩;rw[hcl,List.take_length]at hZ2;refine⟨_,rfl,Z,_,n,rfl,hZ2,QK ch.Jz,?_,q H2 e2⟩;have h1:=L6 (uss:=uss) fun y hy=>(ch.Jz y hy).1;have h2:(EZ uss).length≤48:=by lia
  exact aR (Nat.mul_le_mul hn h2) (by decide)
theorem LD:Ad ["change", "greatest", "some", "powers", "part"] ["change"] (AM Dh):=⟨rfl,rfl,rfl,by decide +kernel,rfl,by decide +kernel,by decide +kernel⟩
theorem LH(F:Fn K mg "greatest_power" Dh ["change"] f fd)(UB:mg "max" = none)(C1:mg "sum" = none):AL P w K mg base Ac 1 f fd ["change"] Wq:=by
 have sc:=LD;refine F.F.ok (k:=0) sc (fun vs H Q E h=>?_) (fun cdv A outer s H vs Q E hr h=>?_)
 ·obtain⟨C,cs,uss,n,rfl,_⟩:=h
  rfl
 obtain⟨C,cs,uss,n,rfl,ch,q⟩:=h;have hcl:=ch.cl;refine⟨_,(AB (AW (i:=1) sc.nd rfl (Or.inl rfl) AH)
 (AB (Bf aK rfl (BB (pv 0)) (Al (i:=2) sc.nd rfl (Or.inl rfl))
  (AF (Bf aK rfl (BB (pv 2)) (En rfl (BH (Al (i:=3) sc.nd rfl (Or.inl rfl)) (BH (Al (i:=4) sc.nd rfl (Or.inl rfl)) D7)))
   (AF (AW (i:=1) sc.nd rfl (Or.inl rfl) (Ai (U9 rfl) rfl UB PyProof.Rows.boot_max (AA (pv 1) (AA (Ai (IP rfl) rfl C1 bT (AA (pv 3) AD)) AD))))))))
 (AF (Af (pv 1))))),?_⟩
 refine⟨_,rfl,C,rfl,⟨_,AQ.of ch.at_⟩,B6 (xs:=cs) (fun i σ H'=>∃(r2 r3 r4:Option V),σ=[some (.ref C),some (.int (DQ (uss.take i))),r2,r3,r4]∧H=H') ?_ ?_ ?_ ?_⟩
 ·exact⟨_,_,_,rfl,rfl⟩
 ·rintro i σ H' _ ⟨r2,r3,r4,rfl,rfl⟩;exact AQ.of ch.at_
 ·rintro i x σ H2 hx ⟨r2,r3,r4,rfl,rfl⟩;have hi:i<uss.length:=by rw[←hcl];exact(aC.mp hx).1
  have hu:uss[i]? = some uss[i]:=by simp[hi]
  obtain⟨a,xs,ha1,ha2,dx⟩:=HP ch.du hu;generalize uss[i]=us at hu dx;rw[hx]at ha1;cases ha1;have hxl:xs.length=us.length:=by rw[dx.len,List.length_map]
  refine⟨_,rfl,a,rfl,⟨_,AQ.of ha2⟩,B6 (xs:=xs) (fun j σ H'=>∃(r3 r4:Option V),σ=[some (.ref C),some (.int (F0 (DQ (uss.take i)) (us.take j))),some (.ref a),r3,r4]∧H=H') ?_ ?_ ?_ ?_⟩
  ·exact⟨_,_,rfl,rfl⟩
  ·rintro j σ H' _ ⟨r3,r4,rfl,rfl⟩;exact AQ.of ha2
  ·rintro j y σ H' hy ⟨r3,r4,rfl,rfl⟩;have hj:j<us.length:=by rw[←hxl];exact(aC.mp hy).1
   have hm:us[j]? = some us[j]:=by simp[hj]
   obtain⟨c,Pw,Fr,k1,k2,k3,k4⟩:=HZ dx hm;generalize us[j]=m at hm k3 k4;rw[hy]at k1;cases k1;refine⟨c,_,rfl,Ap.of k2,rfl,_,_,rfl,_,_,rfl,rfl,?_⟩;refine⟨_,rfl,_,rfl,Pw,m.1,rfl,Ap.of k3,_,_,rfl,some (.ref Pw),some (.ref Fr),?_,rfl⟩;rw[List.take_add_one,hm];show _=[some (V.ref C),some (V.int (F0 (DQ (uss.take i)) (us.take j++[m]))),some (V.ref a),some (V.ref Pw),some (V.ref Fr)];unfold F0;rw[List.foldl_append]
   rfl
  ·rintro σ H' ⟨r3,r4,rfl,rfl⟩;refine⟨some (.ref a),r3,r4,?_,rfl⟩;rw[hxl,List.take_length,List.take_add_one,hu];show _=[some (V.ref C),some (V.int (DQ (uss.take i++[us]))),some (V.ref a),r3,r4];unfold DQ;rw[List.foldl_append]
   rfl
 ·rintro σ H' ⟨r2,r3,r4,rfl,rfl⟩;rw[hcl,List.take_length];exact⟨_,rfl,q⟩
end
theorem JM{c:Addr}{ws:List V}{H:Hp}(hc:H c=some (.lst ws)):∀ {us:List Aa} {zs:List V},Ay H (us.map CZ) zs→AO c H (us.map CZ) zs
 |[],zs,h=>by
  have:=h.len;rw[List.map_nil,List.length_nil]at this;rw[List.eq_nil_of_length_eq_zero this];exact .nil
 |m::us,zs,h=>by
  obtain⟨x,t,rfl,h1,h2⟩:=Ay.R7 h;obtain⟨a,P,F,rfl,k1,k2,k3⟩:=DU.mono h1;have ne:∀ {p:Addr} {xs:List V},H p=some (.tup xs)→p≠c:=fun hp z=>by subst z;rw[hp]at hc;cases hc
  have dints:∀ps:List Int,AO c H (ps.map .int) (ps.map V.int):=fun ps=>by
   induction ps with
   |nil=>exact .nil
   |cons p ps ih=>exact .cons .int ih
  exact .cons (.tup (ne k1) k1 (.cons (.tup (ne k2) k2 (dints _)) (.cons (.tup (ne k3) k3 (.cons .int (.cons .int .nil))) .nil))) (JM hc h2)
theorem Yh{H:Hp}{P:Addr}{ps:List Int}(h:H P=some (.tup (ps.map V.int))):DU H (.tuple (ps.map .int)) (.ref P):=by
 refine .tup h ?_;clear h
 induction ps with
 |nil=>exact .nil
 |cons p ps ih=>exact .cons .int ih
def Hj(B G:Int)(gr:Nat)(m:Aa):Aa:=(m.1,((m.2.num*B.fdiv (m.2.den:Int)*G^(gr-(BM m).toNat):Int):Rat))
def Dc(B G:Int)(gr:Nat)(us:List Aa):List Aa:=us.map (Hj B G gr)
def cP:Sp:=fun vs H Q _=>∃(a:Addr) (xs:List V) (us:List Aa) (B G:Int) (gr n b k:Nat),vs=[.ref a,.int B,.int G,.int (gr:Nat)]∧H a=some (.lst xs)∧Ay H (us.map CZ) xs∧us.length≤12∧gr≤3∧(∀m∈us,FM.Fits m.2 n∧0≤BM m∧BM m≤gr) ∧
 B.natAbs<2^b∧G.natAbs<2^k∧n+b+3*k≤3900∧∀Z H' zs,AG H H'→H Z=none→H' Z=some (.lst zs)→Ay H' ((Dc B G gr us).map CZ) zs→Q (.ref Z) H'
section
variable{P:Program}{w:World}{K:PySem.W.Frag}{mg:Str→Option Value}{base:Heap}{f g1:Addr}{fd gd1:FuncData}
theorem Ol:Ad ["some", "bottom", "grain", "greatest", "terms", "powers", "part", "top"] ["some", "bottom", "grain", "greatest"] (AM Hu):=⟨rfl,rfl,rfl,by decide +kernel,rfl,by decide +kernel,by decide +kernel⟩
theorem Oq(F:Fn K mg "whole_poly" Hu ["some", "bottom", "grain", "greatest"] f fd)(Di:Fn K mg "power_of" HD ["base", "power"] g1 gd1)
 (JF:AL P w K mg base Ac 1 g1 gd1 ["base", "power"] S3)(C1:mg "sum" = none):AL P w K mg base Ac 2 f fd ["some", "bottom", "grain", "greatest"] cP:=by
 have sc:=Ol;refine F.F.ok (k:=1) sc (fun vs H Q E h=>?_) (fun cdv A outer s H vs Q E hr h=>?_)
 ·obtain⟨a,xs,us,B,G,gr,n,b,k,rfl,_⟩:=h
  rfl
 obtain⟨a,xs,us,B,G,gr,n,b,k,rfl,ha,dx,h12,hgr,hus,hB,hG,hsz,q⟩:=h;have hxl:xs.length=us.length:=by rw[dx.len,List.length_map]
 refine⟨_,(AB (AW (i:=4) sc.nd rfl (Or.inl rfl) (Dr AD))
 (AB (Bf aK rfl (BB (pv 0)) (En rfl (BH (Al (i:=5) sc.nd rfl (Or.inl rfl)) (BH (Al (i:=6) sc.nd rfl (Or.inl rfl)) D7)))
  (AB (AW (i:=7) sc.nd rfl (Or.inl rfl) (Ab BS (Ab BS (BG CH (pv 6) AH (fun _ _=>rfl)) (Ab C9 (pv 1) (BG CH (pv 6) AH (fun _ _=>rfl)))) (Aj Di JF hr rfl (AA (pv 2) (AA (Ab EW (pv 3) (Ai (IP rfl) rfl C1 bT (AA (pv 5) AD))) AD)))))
  (AF (DY (K0 bH bX bY FK (pv 4) (AA (GY (AA (pv 5) (AA (GY (AA (pv 7) (AA AH AD))) AD))) AD))))))
 (AF (Af (pv 4))))),?_⟩
 refine⟨CC (show 0≤60 by decide),fun Z hZ=>?_⟩;have e1:=AN hZ (.lst []);have hZ1:upd H Z (.lst []) Z=some (.lst []):=AI;generalize upd H Z (.lst [])=H1 at e1 hZ1;refine⟨_,rfl,a,rfl,⟨_,AQ.of (e1 _ _ ha)⟩,B6 (xs:=xs) (fun i σ H'=>∃(r5 r6 r7:Option V) (zs:List V),σ=[some (.ref a),some (.int B),some (.int G),some (.int (gr:Nat)),some (.ref Z),r5,r6,r7]∧AG H H'∧H' Z=some (.lst zs)∧Ay H' ((Dc B G gr (us.take i)).map CZ) zs) ?_ ?_ ?_ ?_⟩
 ·exact⟨_,_,_,[],rfl,e1,hZ1,.nil⟩
 ·rintro i σ H' _ ⟨r5,r6,r7,zs,rfl,e,_⟩;exact AQ.of (e _ _ ha)
 ·rintro i x σ H2 hx ⟨r5,r6,r7,zs,rfl,e2,hZ2,dz⟩;have hi:i<us.length:=by rw[←hxl];exact(aC.mp hx).1
  have hm:us[i]? = some us[i]:=by simp[hi]
  obtain⟨c,Pw,Fr,k1,k2,k3,k4⟩:=HZ dx hm;obtain⟨fm,s0,s1⟩:=hus _ (aL hm);generalize us[i]=m at hm k3 k4 fm s0 s1;rw[hx]at k1;cases k1;have hd:=m.2.den_nz;have hzl:zs.length=i:=by rw[dz.len,List.length_map,Dc,List.length_map,List.length_take];lia
  have n2:(B.fdiv (m.2.den:Int)).natAbs<2^b:=aP (FM.BI _ _) hB;have n3:=FM.DL fm.1 n2;have n4:(G^(gr-(BM m).toNat)).natAbs<2^(k*3+1):=Dy (p:=3) hG (by lia);refine⟨c,_,rfl,Ap.of (e2 _ _ k2),rfl,_,_,rfl,_,_,rfl,rfl,?_⟩;refine⟨_,rfl,_,_,_,_,rfl,rfl,Ap.of (e2 _ _ k4),rfl,_,rfl,_,rfl,_,_,_,_,rfl,rfl,Ap.of (e2 _ _ k4),rfl,_,_,rfl,rfl,⟨by lia,n,by lia,fm.d⟩,_,_,rfl,rfl,F8 fm.1 n2 (by lia),_,rfl,_,rfl,_,rfl,Pw,m.1,rfl,Ap.of (e2 _ _ k3),_,_,rfl,rfl,G,gr-(BM m).toNat,k,?_,hG,?_,_,_,rfl,rfl,F8 n3 n4 (by lia),?_⟩
  ·show [V.int G,V.int ((gr:Int)-m.1.sum)]=[V.int G,V.int ((gr-(BM m).toNat:Nat):Int)]
   congr 3
   unfold BM at s0 s1 ⊢
   lia
  ·have:k*(gr-(BM m).toNat)≤k*3:=aY k (by lia)
   lia
  refine⟨_,rfl,.inl ⟨rfl,_,AQ.of hZ2⟩,_,rfl,_,rfl,CC (show 2≤60 by decide),fun t1 ht1=>?_⟩;generalize hH:upd _ t1 _=H3;obtain⟨e3,d3,_⟩:=ZQ (ds:=[.int (m.2.num*B.fdiv (m.2.den:Int)*G^(gr-(BM m).toNat)),.int 1]) hH ht1 (.cons .int (.cons .int .nil));clear hH;refine⟨CC (show 2≤60 by decide),fun t2 ht2=>?_⟩;generalize hH:upd _ t2 _=H4;obtain⟨e4,d4,_⟩:=ZQ hH ht2 (.cons ((Yh (e2 _ _ k3)).same e3) (.cons d3 .nil));clear hH;have e24:=e3.trans e4;have hZ4:=e24 _ _ hZ2;have d4:DU H4 (CZ (Hj B G gr m)) (.ref t2):=d4;refine⟨Z,zs,_,rfl,rfl,hZ4,Cj (n:=60) (by lia) (by decide),?_⟩;refine⟨_,_,_,zs++[.ref t2],rfl,fun b o zz=>?_,AI,?_⟩
  ·rw[AE (AK zz hZ)];exact e24 _ _ (e2 _ _ zz)
  ·rw[List.take_add_one,hm];have dn:Ay H4 ((Dc B G gr (us.take i++[m])).map CZ) (zs++[.ref t2]):=by
    unfold Dc;rw[List.map_append,List.map_append];exact(dz.same e24).app (.cons d4 .nil)
   exact CO (.but .upd (JM hZ4 dn))
 ·rintro σ H2 ⟨r5,r6,r7,zs,rfl,e2,hZ2,dz⟩;rw[hxl,List.take_length]at dz;exact⟨_,rfl,q Z H2 zs e2 hZ hZ2 dz⟩
end
theorem Fd{H H':Hp}{a:Addr}(e:AG H H')(h:H' a=none):H a=none:=by
 cases hx:H a with
 |none=>rfl
 |some o=>have:=e _ _ hx;rw[h]at this;cases this
theorem SO:∀(us:List Aa) (g:Int),g≤F0 g us∧(∀m∈us,BM m≤F0 g us)∧∀c,g≤c→(∀m∈us,BM m≤c)→F0 g us≤c
 |[],g=>⟨Int.le_refl _,fun _ z=>(bS z).elim,fun _ h _=>h⟩
 |m::us,g=>by
  obtain⟨h1,h2,h3⟩:=SO us (if BM m > g then BM m else g);have e:F0 g (m::us)=F0 (if BM m > g then BM m else g) us:=rfl;rw[e];have s1:g≤(if BM m > g then BM m else g):=by split<;>lia
  have s2:BM m≤(if BM m > g then BM m else g):=by split<;>lia
  refine⟨Int.le_trans s1 h1,fun y hy=>?_,fun c hc hm=>?_⟩
  ·rcases aS.mp hy with rfl|hy
   ·exact Int.le_trans s2 h1
   ·exact h2 y hy
  ·refine h3 c ?_ fun y hy=>hm y (aV _ hy);have:=hm m aa;split<;>lia
theorem Np:∀(uss:List (List Aa)) (g:Int),g≤uss.foldl F0 g∧(∀us∈uss,∀m∈us,BM m≤uss.foldl F0 g)∧∀c,g≤c→(∀us∈uss,∀m∈us,BM m≤c)→uss.foldl F0 g≤c
 |[],g=>⟨Int.le_refl _,fun _ z=>(bS z).elim,fun _ h _=>h⟩
 |us::uss,g=>by
  obtain⟨a1,a2,a3⟩:=SO us g;obtain⟨h1,h2,h3⟩:=Np uss (F0 g us);rw[List.foldl_cons];refine⟨Int.le_trans a1 h1,fun y hy m hm=>?_,fun c hc hm=>?_⟩
  ·rcases aS.mp hy with rfl|hy
   ·exact Int.le_trans (a2 m hm) h1
   ·exact h2 y hy m hm
  ·exact h3 c (a3 c hc (hm us aa)) fun y hy=>hm y (aV _ hy)
theorem Hn{uss:List (List Aa)}{c:Int}(hc:1≤c)(h:∀us∈uss,∀m∈us,BM m≤c):1≤DQ uss∧DQ uss≤c∧∀us∈uss,∀m∈us,BM m≤DQ uss:=by
 obtain⟨h1,h2,h3⟩:=Np uss 1;exact⟨h1,h3 c hc h,h2⟩
def A8(uss:List (List Aa)):Nat:=(DQ uss).toNat
def Ek(G:Int)(uss:List (List Aa)):List (List Aa):=uss.map (Dc (BL uss) G (A8 uss))
def K4(uss:List (List Aa))(G:Int):Int:=BL uss*G^(A8 uss-1)
theorem Dm{uss:List (List Aa)}{n:Nat}(hl:uss.length≤4)(h:∀us∈uss,us.length≤12∧∀m∈us,FM.Fits m.2 n):1≤BL uss∧(BL uss).natAbs<2^(1+n*48)∧∀us∈uss,∀m∈us,(m.2.den:Int) ∣ BL uss:=by
 obtain⟨a,b,c⟩:=NJ (QK h);have h1:=L6 (uss:=uss) fun y hy=>(h y hy).1;refine⟨a,FM.Ci b ?_,fun us hus m hm=>c _ ?_⟩
 ·have:=aY n (show(EZ uss).length≤48 by lia)
  lia
 ·unfold EZ;exact List.mem_flatten.mpr ⟨HB us,List.mem_map.mpr ⟨us,hus,rfl⟩,List.mem_map.mpr ⟨m,hm,rfl⟩⟩
def Zp:Sp:=fun vs H Q _=>∃(C:Addr) (cs:List V) (uss:List (List Aa)) (G:Int) (k:Nat),vs=[.ref C,.int G]∧LU H C cs uss 4∧(∀us∈uss,∀m∈us,0≤BM m∧BM m≤3)∧G.natAbs<2^k∧k≤1200 ∧
 ∀D H' zs,AG H H'→H D=none→H' D=some (.lst zs)→Ay H' ((Ek G uss).map BJ) zs→Q (.ref D) H'
def VC:Sp:=fun vs H Q _=>∃(C:Addr) (cs:List V) (uss:List (List Aa)) (G:Int) (k:Nat),vs=[.ref C,.int G]∧LU H C cs uss 4∧(∀us∈uss,∀m∈us,0≤BM m∧BM m≤3)∧G.natAbs<2^k∧k≤1200∧∀H',AG H H'→Q (.int (K4 uss G)) H'
section
variable{P:Program}{w:World}{K:PySem.W.Frag}{mg:Str→Option Value}{base:Heap}{f g1 g2 g3:Addr}{fd gd1 gd2 gd3:FuncData}
theorem Mi:Ad ["change", "grain", "bottom", "greatest"] ["change", "grain"] (AM F9):=⟨rfl,rfl,rfl,by decide +kernel,rfl,by decide +kernel,by decide +kernel⟩
theorem Mf(F:Fn K mg "whole_change" F9 ["change", "grain"] f fd)(Bt:Fn K mg "speeds_bottom" EA ["change"] g1 gd1)(Bj:Fn K mg "greatest_power" Dh ["change"] g2 gd2)(FR:Fn K mg "whole_poly" Hu ["some", "bottom", "grain", "greatest"] g3 gd3)
 (Fg:AL P w K mg base Ac 3 g1 gd1 ["change"] XE)(E8:AL P w K mg base Ac 3 g2 gd2 ["change"] Wq)(Qs:AL P w K mg base Ac 3 g3 gd3 ["some", "bottom", "grain", "greatest"] cP):AL P w K mg base Ac 4 f fd ["change", "grain"] Zp:=by
 have sc:=Mi;refine F.F.ok (k:=3) sc (fun vs H Q E h=>?_) (fun cdv A outer s H vs Q E hr h=>?_)
 ·obtain⟨C,cs,uss,G,k,rfl,_⟩:=h
  rfl
 obtain⟨C,cs,uss,G,k,rfl,ch,hs,hG,hk,q⟩:=h;obtain⟨g1',g3',g2'⟩:=Hn (c:=3) (by decide) fun us hus m hm=>(hs us hus m hm).2;obtain⟨b1,b2,_⟩:=Dm ch.len ch.Jz;have hgr:DQ uss=(A8 uss:Int):=by unfold A8;lia
 have hl4:=ch.len;refine⟨_,(AB (AW (i:=2) sc.nd rfl (Or.inr rfl) (Aj Bt Fg hr rfl (AA (pv 0) AD)))
 (AB (AW (i:=3) sc.nd rfl (Or.inr rfl) (Aj Bj E8 hr rfl (AA (pv 0) AD)))
 (AF (Af (DC [".0", "some", "bottom", "grain", "greatest"] 1 [none,none,some 2,some 1,some 3] (BB (pv 0)) (fun _ _ _ _ _=>Bl) (fun _ _ _ _ _=>(Aj FR Qs hr rfl (AA (pv 1) (AA (pv 2) (AA (pv 3) (AA (pv 4) AD))))))))))),?_⟩
 refine⟨_,rfl,C,cs,uss,4,rfl,ch,by decide,fun H1 e1=>?_⟩;refine⟨_,rfl,C,cs,uss,4,rfl,ch.same e1,?_⟩;rw[hgr];have ch:=ch.same e1;have hcl:=ch.cl;refine⟨_,rfl,C,rfl,⟨_,AQ.of ch.at_⟩,fun D hD=>Ce (n:=cs.length) (fun i ys H'=>AG H1 H'∧ys.length=i∧AO D H' (((uss.take i).map (Dc (BL uss) G (A8 uss))).map BJ) ys) ⟨AN hD _,rfl,.nil⟩ ?_ ?_⟩
 ·rintro i ys H2 hi ⟨e2,hyl,dy⟩ hD2;have hu:uss[i]? = some (uss[i]'(by lia)):=aI _;obtain⟨a,xs,k1,k2,k3⟩:=HP ch.du hu;have hmem:=aL hu;generalize uss[i]'(by lia)=us at hu k3 hmem;obtain⟨u12,uf⟩:=ch.Jz us hmem;refine⟨⟨cs,.ref a,AQ.of (e2 _ _ ch.at_),k1⟩,Cj (n:=60) (by lia) (by decide),fun x H' y=>?_⟩;obtain⟨rfl,y⟩:=y;have hx:=y cs (AQ.of (e2 _ _ ch.at_));rw[k1]at hx;cases hx;unfold Cq;refine BV ⟨_,rfl,_,rfl,_,rfl,_,rfl,a,xs,us,BL uss,G,A8 uss,4,1+4*48,k,rfl,e2 _ _ k2,k3.same e2,u12,by lia,fun m hm=>⟨uf m hm,(hs us hmem m hm).1,by rw[←hgr];exact g2' us hmem m hm⟩,b2,hG,by lia,fun Z H3 zs e3 hZ hZ3 dz=>?_⟩;have hD3:=e3 _ _ hD2;have nZ:Z≠D:=fun z=>by subst z;rw[hD2]at hZ;cases hZ
  refine⟨hD3,BZ hi ⟨fun b o z=>?_,by simp[hyl],?_⟩⟩
  ·rw[AE (AK z hD)];exact e3 _ _ (e2 _ _ z)
  ·rw[List.take_add_one,hu,List.map_append,List.map_append];exact .but .upd ((dy.same e3).app (.cons (.lst nZ hZ3 (JM hD3 dz)) .nil))
 ·rintro ys H2 ⟨e2,hyl,dy⟩ hD2;rw[hcl,List.take_length]at dy;exact⟨⟨cs,AQ.of (e2 _ _ ch.at_),Nat.le_refl _⟩,q D H2 ys (e1.trans e2) (Fd e1 hD) hD2 (CO dy)⟩
theorem Sy:Ad ["change", "grain"] ["change", "grain"] (AM KN):=⟨rfl,rfl,rfl,by decide +kernel,rfl,by decide +kernel,by decide +kernel⟩
theorem TC(F:Fn K mg "pace_of" KN ["change", "grain"] f fd)(Bt:Fn K mg "speeds_bottom" EA ["change"] g1 gd1)(Bj:Fn K mg "greatest_power" Dh ["change"] g2 gd2)(Di:Fn K mg "power_of" HD ["base", "power"] g3 gd3)
 (Fg:AL P w K mg base Ac 3 g1 gd1 ["change"] XE)(E8:AL P w K mg base Ac 3 g2 gd2 ["change"] Wq)(JF:AL P w K mg base Ac 3 g3 gd3 ["base", "power"] S3):AL P w K mg base Ac 4 f fd ["change", "grain"] VC:=by
 have sc:=Sy;refine F.F.ok (k:=3) sc (fun vs H Q E h=>?_) (fun cdv A outer s H vs Q E hr h=>?_)
 ·obtain⟨C,cs,uss,G,k,rfl,_⟩:=h
  rfl
 obtain⟨C,cs,uss,G,k,rfl,ch,hs,hG,hk,q⟩:=h;obtain⟨g1',g3',g2'⟩:=Hn (c:=3) (by decide) fun us hus m hm=>(hs us hus m hm).2;obtain⟨b1,b2,_⟩:=Dm ch.len ch.Jz;have hgr:DQ uss=(A8 uss:Int):=by unfold A8;lia
 have n4:(G^(A8 uss-1)).natAbs<2^(k*3+1):=Dy (p:=3) hG (by lia);refine⟨_,(AF (Af (Ab BS (Aj Bt Fg hr rfl (AA (pv 0) AD)) (Aj Di JF hr rfl (AA (pv 1) (AA (Ab EW (Aj Bj E8 hr rfl (AA (pv 0) AD)) AH) AD)))))),?_⟩;refine⟨_,rfl,C,cs,uss,4,rfl,ch,by decide,fun H1 e1=>?_⟩;refine⟨_,rfl,_,rfl,C,cs,uss,4,rfl,ch.same e1,_,_,rfl,rfl,G,A8 uss-1,k,?_,hG,?_,_,_,rfl,rfl,F8 b2 n4 (by lia),?_⟩
 ·show [V.int G,V.int (DQ uss-1)]=[V.int G,V.int ((A8 uss-1:Nat):Int)]
  congr 3
  lia
 ·have:k*(A8 uss-1)≤k*3:=aY k (by lia)
  lia
 ·exact q H1 e1
end
def A9(ps:List Int)(k:Nat):List Int:=ps.take k++[ps.getD k 0-1]++ps.drop (k+1)
def Pt:Sp:=fun vs H Q _=>∃(P:Addr) (ps:List Int) (k:Nat),vs=[.ref P,.int k]∧H P=some (.tup (ps.map V.int))∧k<ps.length∧ps.length≤4∧∀(c:Addr) H',AG H H'→H' c=some (.tup ((A9 ps k).map V.int))→Q (.ref c) H'
theorem Yn{ps:List Int}{k:Nat}(h:k<ps.length):Bo (ps.map V.int) none (some (k:Int))++[V.int (ps.getD k 0-1)]++Bo (ps.map V.int) (some ((k:Int)+1)) none=(A9 ps k).map V.int:=by
 unfold Bo A9;rw[show((k:Int)+1)=((k+1:Nat):Int) by lia];simp only[HT.JX,HT.HJ,List.length_map,List.drop_zero,Nat.sub_zero,List.map_append,List.map_take,List.map_drop,List.map_cons,List.map_nil];rw[Nat.min_eq_left (by lia),Nat.min_eq_left (by lia)]
 congr 1
 rw[List.take_of_length_le (by rw[List.length_drop,List.length_map];exact aG _)]
theorem eA{n:Nat}{e:Int}(h0:0≤e)(h1:e<(n:Int)):¬(HT.A6 n 0 none=0∧HT.A6 n n (some e)=n):=by
 rintro⟨_,h⟩;rw[show e=((e.toNat:Nat):Int) by lia,HT.HJ]at h
 lia
theorem de{n:Nat}{e:Int}{hi:Option Int}(h0:0≤e)(h1:1≤n):¬(HT.A6 n 0 (some (e+1))=0∧HT.A6 n n hi=n):=by
 rintro⟨h,_⟩;rw[show e+1=(((e+1).toNat:Nat):Int) by lia,HT.HJ]at h
 lia
theorem int_at{ps:List Int}{k:Nat}(h:k<ps.length):Cy (ps.map V.int) (k:Int)=some (.int (ps.getD k 0)):=by
 have:=HI (xs:=ps.map V.int) (j:=k) (v:=.int (ps.getD k 0)) (by rw[List.getElem?_map,List.getElem?_eq_getElem h,List.getD_eq_getElem?_getD,List.getElem?_eq_getElem h];rfl);exact this
def fu:List Int→Nat
 |[]=>0
 |p::ps=>if p=0 then fu ps+1 else 0
theorem FZ:∀ {ps:List Int},ps.sum≠0→fu ps<ps.length∧ps.getD (fu ps) 0≠0
 |[],h=>absurd rfl h
 |p::ps,h=>by
  unfold fu;by_cases z:p=0
  ·subst z;obtain⟨h1,h2⟩:=FZ (ps:=ps) (by simpa using h);rw[if_pos rfl];exact⟨by rw[List.length_cons];lia,by simpa using h2⟩
  ·rw[if_neg z];exact⟨by simp,by simpa using z⟩
theorem P6:∀ {ps:List Int} {k:Nat},k<fu ps→ps.getD k 0=0
 |[],k,h=>by simp[fu]at h
 |p::ps,k,h=>by
  unfold fu at h;by_cases z:p=0
  ·rw[if_pos z]at h;cases k with
   |zero=>simpa using z
   |succ k=>simpa using P6 (ps:=ps) (k:=k) (by lia)
  ·rw[if_neg z]at h;lia
theorem sum_set:∀(ps:List Int) (k:Nat),k<ps.length→(A9 ps k).sum=ps.sum-1
 |[],k,h=>by simp at h
 |p::ps,0,_=>by simp[A9];lia
 |p::ps,k+1,h=>by
  have:=sum_set ps k (by simpa using h);unfold A9 at this ⊢;simp at this ⊢
  lia
theorem WG{ps:List Int}{k:Nat}(h:k<ps.length):(A9 ps k).length=ps.length:=by unfold A9;simp;lia
structure B0(nn:Nat)(ps:List Int):Prop where
 len:ps.length=nn
 nn:∀p∈ps,0≤p
 s3:ps.sum≤3
theorem Bi:∀ {ps:List Int},(∀p∈ps,0≤p)→0≤ps.sum
 |[],_=>by simp
 |p::ps,h=>by
  have:=Bi (ps:=ps) fun q hq=>h q (.tail _ hq);have:=h p (.head _);simp;lia
theorem B0.low{nn:Nat}{ps:List Int}(h:B0 nn ps)(hs:ps.sum≠0):B0 nn (A9 ps (fu ps)):=by
 obtain⟨h1,h2⟩:=FZ hs;refine⟨(WG h1).trans h.len,fun p hp=>?_,by rw[sum_set _ _ h1];have:=h.s3;lia⟩;unfold A9 at hp;rcases aZ.mp hp with hp|hp
 ·rcases aZ.mp hp with hp|hp
  ·exact h.nn p (List.mem_of_mem_take hp)
  ·rw[List.mem_singleton.mp hp];have:=h.nn (ps.getD (fu ps) 0) (by rw[List.getD_eq_getElem?_getD,List.getElem?_eq_getElem h1];exact ax h1)
   lia
 ·exact h.nn p (List.mem_of_mem_drop hp)
def Qa:Nat→Nat→List (List Int)
 |0,_=>[[]]
 |n+1,s=>(List.range (s+1)).flatMap fun p=>(Qa n (s-p)).map fun r=>((p:Nat):Int)::r
theorem Pa:∀ {n s:Nat} {ps:List Int},ps.length=n→(∀p∈ps,0≤p)→ps.sum≤(s:Int)→ps∈Qa n s
 |0,s,ps,h,_,_=>by rw[List.eq_nil_of_length_eq_zero h];exact .head _
 |n+1,s,[],h,_,_=>by simp at h
 |n+1,s,p::ps,h,h0,h1=>by
  have a:=h0 p (.head _);have b:=Bi fun q hq=>h0 q (.tail _ hq);rw[List.sum_cons]at h1;unfold Qa;refine List.mem_flatMap.mpr ⟨p.toNat,List.mem_range.mpr (by lia),List.mem_map.mpr ⟨ps,Pa (by simpa using h) (fun q hq=>h0 q (.tail _ hq)) (by lia),?_⟩⟩;rw[Int.toNat_of_nonneg a]
theorem Ut{α:Type}[DecidableEq α]:∀ {ks l:List α},ks.Nodup→(∀p∈ks,p∈l)→ks.length≤l.length
 |[],_,_,_=>ak _
 |k::ks,l,nd,h=>by
  obtain⟨n1,n2⟩:=bg.mp nd;have hk:=h k (.head _);have:=Ut (l:=l.erase k) n2 fun p hp=>(List.mem_erase_of_ne (fun z=>by subst z;exact n1 hp)).mpr (h p (.tail _ hp));rw[List.length_erase_of_mem hk]at this;have:=List.length_pos_of_mem hk;rw[List.length_cons];lia
theorem Q9{nn:Nat}(hn:nn≤4){ks:List (List Int)}(nd:ks.Nodup)(h:∀p∈ks,B0 nn p):ks.length≤35:=by
 have h1:ks.length≤(Qa nn 3).length:=Ut nd fun p hp=>Pa (h p hp).len (h p hp).nn (h p hp).s3;have h2:(Qa nn 3).length≤35:=by
  match nn,hn with
  |0,_=>decide
  |1,_=>decide
  |2,_=>decide
  |3,_=>decide
  |4,_=>decide
 lia
structure Ord(uss:List (List Aa))(nn:Nat)(os:List (List Int)):Prop where
 nd:os.Nodup
 ok:∀p∈os,B0 nn p
 has:∀us∈uss,∀m∈us,m.1∈os
 low:∀p∈os,p.sum≠0→A9 p (fu p)∈os
 asc:os.Pairwise fun p q=>p.sum≤q.sum
def WV:Sp:=fun vs H Q _=>∃(P:Addr) (ps:List Int),vs=[.ref P]∧H P=some (.tup (ps.map V.int))∧ps.sum≠0∧Q (.int (fu ps)) H
def Yy:Sp:=fun vs H Q _=>∃(C:Addr) (cs:List V) (uss:List (List Aa)) (nn:Nat),vs=[.ref C]∧H C=some (.lst cs)∧Ay H (uss.map BJ) cs∧(∀us∈uss,∀m∈us,B0 nn m.1)∧nn≤4 ∧
 ∀(D:Addr) H' (L:List (List Int×Addr)),AG H H'→H D=none→H' D=some (.lst (L.map fun l=>V.ref l.2))→Ord uss nn (L.map (·.1))→(∀l∈L,H' l.2=some (.tup (l.1.map V.int)))→Q (.ref D) H'
theorem ZF{a b:List Int}(h:a.map (Sum.inl (β:=Str))=b.map Sum.inl):a=b:=(List.map_inj_right (fun x y e=>by injection e)).mp h
theorem HH(ps:List Int):(ps.map (Sum.inl (β:=Str))).map kV=ps.map V.int:=by rw[List.map_map];rfl
section
variable{P:Program}{w:World}{K:PySem.W.Frag}{mg:Str→Option Value}{base:Heap}{f:Addr}{fd:FuncData}
theorem Rg:Ad ["powers", "k"] ["powers", "k"] (AM HE):=⟨rfl,rfl,rfl,by decide +kernel,rfl,by decide +kernel,by decide +kernel⟩
theorem Rf(F:Fn K mg "one_less" HE ["powers", "k"] f fd):AL P w K mg base Ac 1 f fd ["powers", "k"] Pt:=by
 have sc:=Rg;refine F.F.ok (k:=0) sc (fun vs H Q E h=>?_) (fun cdv A outer s H vs Q E hr h=>?_)
 ·obtain⟨P,ps,k,rfl,_⟩:=h
  rfl
 obtain⟨P,ps,k,rfl,hP,hk,h4,q⟩:=h;have hl:(ps.map V.int).length=ps.length:=List.length_map _;refine⟨_,(AF (Af (Ab NX (Ab NX (Hh Ql (pv 0) Iw (Iy (pv 1))) (GY (AA (Ab EW (BG CH (pv 0) (pv 1) (fun _ _=>rfl)) AH) AD))) (Hh Ql (pv 0) (Iy (Ab CU (pv 1) AH)) Iw)))),?_⟩;refine⟨_,rfl,_,rfl,_,rfl,P,_,rfl,Ap.of hP,eA (by lia) (by lia),fun p1 hp=>?_⟩;have e1:=AN hp (.tup (Bo (ps.map V.int) none (some (k:Int))));have h1:upd H p1 (.tup (Bo (ps.map V.int) none (some (k:Int)))) p1=some (.tup (Bo (ps.map V.int) none (some (k:Int)))):=AI;generalize upd H p1 (.tup (Bo (ps.map V.int) none (some (k:Int))))=H1 at e1 h1;refine⟨_,rfl,_,rfl,_,_,_,_,rfl,rfl,Ap.of (e1 _ _ hP),int_at hk,_,_,rfl,rfl,CC (show 1≤60 by decide),fun p2 hp=>?_⟩;have e2:=AN hp (.tup [V.int (ps.getD k 0-1)]);have h2:upd H1 p2 (.tup [V.int (ps.getD k 0-1)]) p2=some (.tup [V.int (ps.getD k 0-1)]):=AI;generalize upd H1 p2 (.tup [V.int (ps.getD k 0-1)])=H2 at e2 h2;have c1:=D5 (ps.map V.int) none (some (k:Int));have c2:=D5 (ps.map V.int) (some ((k:Int)+1)) none;refine⟨p1,p2,_,_,rfl,rfl,e2 _ _ h1,h2,CC (by rw[List.length_singleton];lia),fun p3 H3 e3 h3=>?_⟩;have E3:=e1.trans (e2.trans e3);refine⟨_,rfl,_,rfl,_,_,rfl,rfl,_,rfl,P,_,rfl,Ap.of (E3 _ _ hP),de (by lia) (by lia),fun p4 hp=>?_⟩;have e4:=AN hp (.tup (Bo (ps.map V.int) (some ((k:Int)+1)) none));have h4':upd H3 p4 (.tup (Bo (ps.map V.int) (some ((k:Int)+1)) none)) p4=some (.tup (Bo (ps.map V.int) (some ((k:Int)+1)) none)):=AI;generalize upd H3 p4 (.tup (Bo (ps.map V.int) (some ((k:Int)+1)) none))=H4 at e4 h4';refine⟨p3,p4,_,_,rfl,rfl,e4 _ _ h3,h4',CC (by rw[List.length_append,List.length_singleton];lia),fun p5 H5 e5 h5=>?_⟩;exact q p5 H5 (E3.trans (e4.trans e5)) (by rw[h5,Yn hk])
theorem Lg:Ad ["powers", "k"] ["powers"] (AM EG):=⟨rfl,rfl,rfl,by decide +kernel,rfl,by decide +kernel,by decide +kernel⟩
def gN(n:Nat)(σ:St):Nat:=match σ[1]? with|some (some (V.int l))=>n-l.toNat|_=>0
theorem Lv(F:Fn K mg "first_unknown" EG ["powers"] f fd):AL P w K mg base Ac 1 f fd ["powers"] WV:=by
 have sc:=Lg;refine F.F.ok (k:=0) sc (fun vs H Q E h=>?_) (fun cdv A outer s H vs Q E hr h=>?_)
 ·obtain⟨P,ps,rfl,_⟩:=h
  rfl
 obtain⟨P,ps,rfl,hP,hs,q⟩:=h;obtain⟨f1,f2⟩:=FZ hs;refine⟨_,(AB (AW (i:=1) sc.nd rfl (Or.inl rfl) AH)
 (AB (Ho aK (Au Fi (BG CH (pv 0) (pv 1) (fun _ _=>rfl)) AH (Ao _))
  (AF (AW (i:=1) sc.nd rfl (Or.inl rfl) (Ab CU (pv 1) AH))))
 (AF (Af (pv 1))))),?_⟩
 refine Hy (fun σ H'=>∃k:Nat,σ=[some (.ref P),some (.int (k:Nat))]∧H=H'∧k≤fu ps) (fun σ _=>gN (fu ps) σ) ⟨0,rfl,rfl,Nat.zero_le _⟩ ?_ ?_
 ·rintro σ H' ⟨k,rfl,rfl,hk⟩;refine⟨_,rfl,_,rfl,_,_,_,_,rfl,rfl,Ap.of hP,int_at (by lia),rfl,_,rfl,BQ (fun c=>?_) (fun c=>?_)⟩
  ·have c:ps.getD k 0=0:=by simpa using c
   have hlt:k<fu ps:=by
    rcases Nat.lt_or_eq_of_le hk with h|h
    ·exact h
    ·subst h;exact absurd c f2
   refine⟨_,rfl,_,_,rfl,rfl,⟨k+1,rfl,rfl,hlt⟩,?_⟩;show fu ps-((k:Int)+1).toNat<fu ps-(k:Int).toNat
   lia
  ·have c:ps.getD k 0≠0:=by simpa using c
   have:k=fu ps:=by
    rcases Nat.lt_or_eq_of_le hk with h|h
    ·exact absurd (P6 h) c
    ·exact h
   subst this;exact⟨_,rfl,q⟩
 ·rintro σ H' Q1 Q2 hq ⟨v,e,w1,e1,a,b,c,d,h1,h2,h3,h4,x,h5,h6,h7⟩;exact⟨v,e,w1,e1,a,b,c,d,h1,h2,h3,h4,x,h5,h6,hq _ _ h7⟩
end
def VA(H:Hp)(d:Addr)(ks:List (List Int)):Prop:=∃kvs,H d=some (.dT kvs)∧kvs.map (·.1)=ks.map (·.map (Sum.inl (β:=Str)))
theorem NS{κ:Type}[DecidableEq κ]{kvs:List (κ×V)}{k:κ}:(Bu kvs k).isSome=true ↔ k∈kvs.map (·.1):=by
 rw[←F7,List.any_eq_true];constructor
 ·rintro⟨x,h1,h2⟩;exact aQ.mpr ⟨x,h1,of_decide_eq_true h2⟩
 ·intro h;obtain⟨x,h1,h2⟩:=aQ.mp h;exact⟨x,h1,decide_eq_true h2⟩
theorem M3{ks:List (List Int)}{p:List Int}:p.map (Sum.inl (β:=Str))∈ks.map (·.map (Sum.inl (β:=Str))) ↔ p∈ks:=by
 constructor
 ·intro h;obtain⟨q,h1,h2⟩:=aQ.mp h;rw[←ZF h2];exact h1
 ·intro h;exact aQ.mpr ⟨p,h,rfl⟩
def PD(d:Addr)(H:Hp):Nat:=match H d with|some (.dT kvs)=>64-kvs.length|_=>0
structure TQ(nn:Nat)(ks:List (List Int)):Prop where
 nd:ks.Nodup
 ok:∀p∈ks,B0 nn p
structure SG(ks:List (List Int))(uss:List (List Aa)):Prop where
 has:∀us∈uss,∀m∈us,m.1∈ks
 low:∀p∈ks,p.sum≠0→A9 p (fu p)∈ks
section
variable{P:Program}{w:World}{K:PySem.W.Frag}{mg:Str→Option Value}{base:Heap}{f g1 g2:Addr}{fd gd1 gd2:FuncData}
theorem Lb:Ad ["change", "needed", "some", "powers", "part", "lower"] ["change"] (AM Fl):=⟨rfl,rfl,rfl,by decide +kernel,rfl,by decide +kernel,by decide +kernel⟩
theorem Le(F:Fn K mg "powers_needed" Fl ["change"] f fd)(Bs:Fn K mg "first_unknown" EG ["powers"] g1 gd1)(Dj:Fn K mg "one_less" HE ["powers", "k"] g2 gd2)
 (FY:AL P w K mg base Ac 1 g1 gd1 ["powers"] WV)(JP:AL P w K mg base Ac 1 g2 gd2 ["powers", "k"] Pt)(C1:mg "sum" = none)(Fx:mg "sorted" = none):AL P w K mg base Ac 2 f fd ["change"] Yy:=by
 have sc:=Lb;refine F.F.ok (k:=1) sc (fun vs H Q E h=>?_) (fun cdv A outer s H vs Q E hr h=>?_)
 ·obtain⟨C,cs,uss,nn,rfl,_⟩:=h
  rfl
 obtain⟨C,cs,uss,nn,rfl,hC,dc,hp,hn4,q⟩:=h;have hcl:cs.length=uss.length:=by rw[dc.len,List.length_map]
 have HU:∀ {X:Cx},X.A.units+64<cLine→X.A.units+1<cLine:=fun h=>by lia
 refine⟨_,(AB (AW (i:=1) sc.nd rfl (Or.inl rfl) Lq)
 (AB (Bf aK rfl (BB (pv 0)) (Al (i:=2) sc.nd rfl (Or.inl rfl))
  (AF (Bf aK rfl (BB (pv 2)) (En rfl (BH (Al (i:=3) sc.nd rfl (Or.inl rfl)) (BH (Al (i:=4) sc.nd rfl (Or.inl rfl)) D7)))
   (AB (AW (i:=5) sc.nd rfl (Or.inl rfl) (pv 3))
   (AF (Ho aK (Zs (Vh (by have:=hr.units;exact aP (bR (show 1≤64 by decide) _) this) (pv 5) (pv 1)))
    (AB (NC (by have:=hr.units;exact aP (bR (show 1≤64 by decide) _) this) (pv 1) (pv 5) CL rfl)
    (AF (BK (Au MP (Ai (IP rfl) rfl C1 bT (AA (pv 5) AD)) AH (Ao _))
     (AF (AW (i:=5) sc.nd rfl (Or.inl rfl) (Aj Dj JP hr rfl (AA (pv 5) (AA (Aj Bs FY hr rfl (AA (pv 5) AD)) AD)))))
     Ax)))))))))
 (AF (Af (V2 rfl rfl Fx rfl C1 (pv 1)))))),?_⟩
 refine fun d hd=>?_;have e1:=AN hd (.dT []);have k1:VA (upd H d (.dT [])) d []:=⟨[],AI,rfl⟩;generalize upd H d (.dT [])=H1 at e1 k1;refine⟨_,rfl,C,rfl,⟨_,AQ.of (e1 _ _ hC)⟩,B6 (xs:=cs) (fun i σ H'=>∃(r2 r3 r4 r5:Option V) (ks:List (List Int)),σ=[some (.ref C),some (.ref d),r2,r3,r4,r5]∧AG H H'∧VA H' d ks∧TQ nn ks∧SG ks (uss.take i)) ?_ ?_ ?_ ?_⟩
 ·exact⟨_,_,_,_,[],rfl,e1,k1,⟨.nil,(fun _ z=>by cases z)⟩,⟨(fun _ z=>by cases z),(fun _ z=>by cases z)⟩⟩
 ·rintro i σ H' _ ⟨r2,r3,r4,r5,ks,rfl,e,_⟩;exact AQ.of (e _ _ hC)
 ·rintro i x σ H2 hx ⟨r2,r3,r4,r5,ks,rfl,e2,k2,g2,c2⟩;have hi:i<uss.length:=by rw[←hcl];exact(aC.mp hx).1
  have hu:uss[i]? = some uss[i]:=by simp[hi]
  obtain⟨a,xs,ha1,ha2,dx⟩:=HP dc hu;have hup:=hp _ (aL hu);generalize uss[i]=us at hu dx hup;rw[hx]at ha1;cases ha1;have hxl:xs.length=us.length:=by rw[dx.len,List.length_map]
  refine⟨_,rfl,a,rfl,⟨_,AQ.of (e2 _ _ ha2)⟩,B6 (xs:=xs) (fun j σ H'=>∃(r3 r4 r5:Option V) (ks:List (List Int)),σ=[some (.ref C),some (.ref d),some (.ref a),r3,r4,r5]∧AG H H'∧VA H' d ks∧TQ nn ks∧SG ks (uss.take i)∧∀m∈us.take j,m.1∈ks) ?_ ?_ ?_ ?_⟩
  ·exact⟨_,_,_,ks,rfl,e2,k2,g2,c2,fun _ z=>by cases z⟩
  ·rintro j σ H' _ ⟨r3,r4,r5,ks,rfl,e,_⟩;exact AQ.of (e _ _ ha2)
  ·rintro j y σ H3 hy ⟨r3,r4,r5,ks,rfl,e3,k3,g3,c3,m3⟩;have hj:j<us.length:=by rw[←hxl];exact(aC.mp hy).1
   have hm:us[j]? = some us[j]:=by simp[hj]
   obtain⟨c,Pw,Fr,q1,q2,q3,q4⟩:=HZ dx hm;have hpw:=hup _ (aL hm);generalize us[j]=m at hm q3 q4 hpw;rw[hy]at q1;cases q1;refine⟨c,_,rfl,Ap.of (e3 _ _ q2),rfl,_,_,rfl,_,_,rfl,rfl,?_⟩;refine⟨_,rfl,?_⟩;refine Hy (fun σ H'=>∃(lo:Addr) (lw:List Int) (ks:List (List Int)),σ=[some (.ref C),some (.ref d),some (.ref a),some (.ref Pw),some (.ref Fr),some (.ref lo)]∧AG H H'∧H' lo=some (.tup (lw.map V.int))∧B0 nn lw∧VA H' d ks∧TQ nn ks∧(∀us∈uss.take i,∀m∈us,m.1∈ks)∧(∀m∈us.take j,m.1∈ks)∧(m.1∈ks∨lw=m.1)∧∀p∈ks,p.sum≠0→A9 p (fu p)∈ks∨A9 p (fu p)=lw) (fun _ H'=>PD d H') ?_ ?_ ?_
   ·exact⟨Pw,m.1,ks,rfl,e3,e3 _ _ q3,hpw,k3,g3,c3.has,m3,.inr rfl,fun p hp h0=>.inl (c3.low p hp h0)⟩
   ·rintro σ H4 ⟨lo,lw,ks,rfl,e4,l4,o4,⟨kvs,hd4,hk4⟩,g4,u4,m4,v4,w4⟩;have hlen:kvs.length=ks.length:=by have:=bD List.length hk4;simpa using this
    have h35:=Q9 hn4 g4.nd g4.ok;refine⟨_,rfl,_,rfl,d,_,rfl,FX.t (k:=lw.map Sum.inl) hd4 (by rw[HH];exact l4),_,rfl,BQ (fun cc=>?_) (fun cc=>?_)⟩
    ·have hno:Bu kvs (lw.map Sum.inl)=none:=by
      cases hv:Bu kvs (lw.map Sum.inl) with
      |none=>rfl
      |some z=>rw[hv]at cc;cases cc
     have hnk:lw ∉ ks:=fun z=>by
      have:=NS.mpr (by rw[hk4];exact M3.mpr z:lw.map Sum.inl∈kvs.map (·.1));rw[hno]at this;cases this
     refine⟨_,rfl,_,rfl,d,_,rfl,Lp.t (k:=lw.map Sum.inl) hd4 (by rw[HH];exact l4) (Cj (n:=60) (by lia) (by decide)),?_⟩;rw[Li _ hno];have k5:VA (upd H4 d (.dT (kvs++[(lw.map Sum.inl,V.bl true)]))) d (ks++[lw]):=⟨_,AI,by rw[List.map_append,List.map_append,hk4];rfl⟩;have e5:AG H (upd H4 d (.dT (kvs++[(lw.map Sum.inl,V.bl true)]))):=fun b o z=>by rw[AE (AK z hd)];exact e4 _ _ z
     have l5:upd H4 d (.dT (kvs++[(lw.map Sum.inl,V.bl true)])) lo=some (.tup (lw.map V.int)):=by
      rw[AE (fun z=>by subst z;rw[l4]at hd4;cases hd4)];exact l4
     have mu5:PD d (upd H4 d (.dT (kvs++[(lw.map Sum.inl,V.bl true)])))<PD d H4:=by
      unfold PD;rw[AI,hd4];simp only[List.length_append,List.length_singleton]
      lia
     generalize upd H4 d (.dT (kvs++[(lw.map Sum.inl,V.bl true)]))=H5 at k5 e5 l5 mu5;have g5:TQ nn (ks++[lw]):=⟨by rw[List.nodup_append];exact⟨g4.nd,by simp,fun a ha b hb=>by rw[List.mem_singleton.mp hb];exact fun z=>hnk (z ▸ ha)⟩,fun p hp=>by
      rcases aZ.mp hp with h|h
      ·exact g4.ok p h
      ·rw[List.mem_singleton.mp h];exact o4⟩
     have u5:∀us∈uss.take i,∀m∈us,m.1∈ks++[lw]:=fun us hus m hm=>bO _ (u4 us hus m hm);have m5:∀m∈us.take j,m.1∈ks++[lw]:=fun m hm=>bO _ (m4 m hm);have v5:m.1∈ks++[lw]:=by
      rcases v4 with h|h
      ·exact bO _ h
      ·rw[h];simp
     have w5:∀p∈ks,p.sum≠0→A9 p (fu p)∈ks++[lw]:=fun p hp h0=>by
      rcases w4 p hp h0 with h|h
      ·exact bO _ h
      ·rw[h];simp
     refine⟨_,rfl,lo,lw,rfl,Ap.of l5,_,_,rfl,rfl,_,rfl,BQ (fun c6=>?_) (fun c6=>?_)⟩
     ·have c6:0<lw.sum:=by simpa using c6
      have c0:lw.sum≠0:=by lia
      obtain⟨f1,_⟩:=FZ c0;refine⟨_,rfl,_,rfl,lo,lw,rfl,l5,c0,lo,lw,fu lw,rfl,l5,f1,by rw[o4.len];exact hn4,fun c7 H7 e7 h7=>?_⟩;obtain⟨kv7,hd7,hk7⟩:=k5;refine⟨⟨c7,_,ks++[lw],rfl,e5.trans e7,h7,o4.low c0,⟨kv7,e7 _ _ hd7,hk7⟩,g5,u5,m5,.inl v5,fun p hp h0=>?_⟩,?_⟩
      ·rcases aZ.mp hp with h|h
       ·exact .inl (w5 p h h0)
       ·rw[List.mem_singleton.mp h];exact .inr rfl
      ·have:PD d H7=PD d H5:=by unfold PD;rw[e7 _ _ hd7,hd7]
       rw[this];exact mu5
     ·have c6:¬0<lw.sum:=by simpa using c6
      have c0:lw.sum=0:=by have:=Bi o4.nn;lia
      refine⟨⟨lo,lw,ks++[lw],rfl,e5,l5,o4,k5,g5,u5,m5,.inl v5,fun p hp h0=>?_⟩,mu5⟩;rcases aZ.mp hp with h|h
      ·exact .inl (w5 p h h0)
      ·rw[List.mem_singleton.mp h]at h0;exact absurd c0 h0
    ·have hlk:lw∈ks:=by
      have:(Bu kvs (lw.map Sum.inl)).isSome=true:=by
       cases hv:Bu kvs (lw.map Sum.inl) with
       |none=>rw[hv]at cc;exact absurd rfl cc
       |some z=>rfl
      have:=NS.mp this;rw[hk4]at this;exact M3.mp this
     refine⟨some (.ref Pw),some (.ref Fr),some (.ref lo),ks,rfl,e4,⟨kvs,hd4,hk4⟩,g4,⟨u4,fun p hp h0=>?_⟩,fun y hy=>?_⟩
     ·rcases w4 p hp h0 with h|h
      ·exact h
      ·rw[h];exact hlk
     ·rw[List.take_add_one,hm]at hy;rcases aZ.mp hy with h|h
      ·exact m4 y h
      ·have:y=m:=by simpa using h
       subst this;rcases v4 with h|h
       ·exact h
       ·rw[←h];exact hlk
   ·rintro σ H' Q1 Q2 hq ⟨v,e,w1,e1,a,o,h1,h2,c,h3,h4⟩;exact⟨v,e,w1,e1,a,o,h1,h2,c,h3,hq _ _ h4⟩
  ·rintro σ H3 ⟨r3,r4,r5,ks,rfl,e3,k3,g3,c3,m3⟩;rw[hxl,List.take_length]at m3;refine⟨_,_,_,_,ks,rfl,e3,k3,g3,⟨fun vs hvs m hm=>?_,c3.low⟩⟩;rw[List.take_add_one,hu]at hvs;rcases aZ.mp hvs with h|h
   ·exact c3.has vs h m hm
   ·have:vs=us:=by simpa using h
    subst this;exact m3 m hm
 ·rintro σ H2 ⟨r2,r3,r4,r5,ks,rfl,e2,⟨kvs,hd2,hk2⟩,g2,c2⟩;rw[hcl,List.take_length]at c2;have hlen:kvs.length=ks.length:=by have:=bD List.length hk2;simpa using this
  have h35:=Q9 hn4 g2.nd g2.ok;refine⟨_,rfl,d,kvs,ks,rfl,hd2,by lia,hk2,fun D H' L e3 _ hD hD' pm pw hL=>?_⟩;refine q D H' L (e2.trans e3) (Fd e2 hD) hD' ⟨pm.nodup_iff.mpr g2.nd,fun p hp=>g2.ok p (pm.mem_iff.mp hp),fun us hus m hm=>pm.mem_iff.mpr (c2.has us hus m hm),fun p hp h0=>pm.mem_iff.mpr (c2.low p (pm.mem_iff.mp hp) h0),by rw[List.pairwise_map];exact pw⟩ fun l hl=>e3 _ _ (hL l hl)
end
def Bp(f:Nat→Int)(n:Nat):List Int:=(List.range n).map f
def conv(f g:Nat→Int)(k:Nat):Int:=(Bp (fun j=>f j*g (k-j)) (k+1)).sum
def Tf(X:Nat→Nat→Int):Nat→List Int→Nat→Int
 |0,_=>fun k=>if k=0 then 1 else 0
 |n+1,ps=>conv (Tf X n (A9 ps (fu ps))) (X (fu ps))
def DX(X:Nat→Nat→Int)(ps:List Int):Nat→Int:=Tf X ps.sum.toNat ps
theorem Lh{X:Nat→Nat→Int}{ps:List Int}(h:ps.sum=0)(k:Nat):DX X ps k=if k=0 then 1 else 0:=by unfold DX;rw[h];rfl
theorem Ly{nn:Nat}{X:Nat→Nat→Int}{ps:List Int}(o:B0 nn ps)(h:ps.sum≠0):DX X ps=conv (DX X (A9 ps (fu ps))) (X (fu ps)):=by
 obtain⟨f1,_⟩:=FZ h;have h0:=Bi o.nn;obtain⟨n,hn⟩:∃n:Nat,ps.sum=(n:Int)+1:=⟨(ps.sum-1).toNat,by lia⟩;have h1:ps.sum.toNat=n+1:=by lia
 have h2:(A9 ps (fu ps)).sum.toNat=n:=by rw[sum_set _ _ f1];lia
 unfold DX;rw[h1,h2];rfl
theorem Uv{f g:Nat→Int}{n:Nat}(h:∀j,j<n→f j=g j):Bp f n=Bp g n:=aU fun j hj=>h j (au.mp hj)
theorem Jf(f:Nat→Int)(n:Nat):Bp f (n+1)=Bp f n++[f n]:=by unfold Bp;rw[List.range_succ,List.map_append];rfl
theorem HL(f:Nat→Int)(n:Nat):(Bp f n).length=n:=by unfold Bp;simp
theorem I0{f:Nat→Int}{n j:Nat}(h:j<n):Cy ((Bp f n).map V.int) (j:Int)=some (.int (f j)) :=
 HI (xs:=(Bp f n).map V.int) (j:=j) (v:=.int (f j)) (by unfold Bp;simp[h])
theorem TM{f g f' g':Nat→Int}{k:Nat}(h1:∀j,j≤k→f j=f' j)(h2:∀j,j≤k→g j=g' j):conv f g k=conv f' g' k:=by
 unfold conv
 rw[Uv fun j hj=>by rw[h1 j (by lia),h2 (k-j) (by lia)]]
theorem MH{X Y:Nat→Nat→Int}{k:Nat}(h:∀u j,j≤k→X u j=Y u j):∀(n:Nat) (ps:List Int) (j:Nat),j≤k→Tf X n ps j=Tf Y n ps j
 |0,_,_,_=>rfl
 |n+1,ps,j,hj=>TM (fun i hi=>MH h n _ i (by lia)) fun i hi=>h _ i (by lia)
theorem Va{X Y:Nat→Nat→Int}{k:Nat}(h:∀u j,j≤k→X u j=Y u j)(ps:List Int):DX X ps k=DX Y ps k:=MH h _ _ _ (aG _)
def FU(X:Nat→Nat→Int)(us:List Aa)(k:Nat):Int:=(us.map fun m=>m.2.num*DX X m.1 k).sum
theorem U2{X Y:Nat→Nat→Int}{k:Nat}(h:∀u j,j≤k→X u j=Y u j)(us:List Aa):FU X us k=FU Y us k:=by
 unfold FU
 congr 1
 exact aU fun m _=>by rw[Va h]
abbrev Jn(ps:List Int):List Key:=ps.map (Sum.inl (β:=Str))
def ZH:Sp:=fun vs H Q _=>∃(d R P:Addr) (k n nl nn m:Nat) (X:Nat→Nat→Int) (ps:List Int) (kvs:List (List Key×V)) (rvs:List V),vs=[.ref d,.ref R,.ref P,.int (k:Nat)]∧H R=some (.lst rvs) ∧
 (∀u,u<nn→∃a,rvs[u]? = some (.ref a)∧H a=some (.lst ((Bp (X u) n).map V.int)))∧k<n∧H P=some (.tup (ps.map V.int))∧B0 nn ps∧nn≤4∧H d=some (.dT kvs) ∧
 (ps.sum≠0→∃l,Bu kvs (Jn (A9 ps (fu ps)))=some (.ref l)∧H l=some (.lst ((Bp (DX X (A9 ps (fu ps))) nl).map V.int))∧k<nl)∧k≤20 ∧
 (∀u j,u<nn→j≤k→(X u j).natAbs<2^m)∧(ps.sum≠0→∀j,j≤k→(DX X (A9 ps (fu ps)) j).natAbs<2^m)∧m≤400000∧∀H',AG H H'→Q (.int (DX X ps k)) H'
def Zz:Sp:=fun vs H Q _=>∃(a d:Addr) (xs:List V) (us:List Aa) (kvs:List (List Key×V)) (X:Nat→Nat→Int) (k nl m:Nat),vs=[.ref a,.ref d,.int (k:Nat)]∧H a=some (.lst xs)∧Ay H (us.map CZ) xs∧us.length≤50∧H d=some (.dT kvs) ∧
 (∀z∈us,(∃l,Bu kvs (Jn z.1)=some (.ref l)∧H l=some (.lst ((Bp (DX X z.1) nl).map V.int)))∧z.2.num.natAbs<2^m∧(DX X z.1 k).natAbs<2^m)∧k<nl∧m≤400000∧∀H',AG H H'→Q (.int (FU X us k)) H'
section
variable{P:Program}{w:World}{K:PySem.W.Frag}{mg:Str→Option Value}{base:Heap}{f g1 g2:Addr}{fd gd1 gd2:FuncData}
theorem Oe:Ad ["products", "rows", "powers", "k", "unknown", "lower"] ["products", "rows", "powers", "k"] (AM HR):=⟨rfl,rfl,rfl,by decide +kernel,rfl,by decide +kernel,by decide +kernel⟩
theorem Ob(F:Fn K mg "product_at" HR ["products", "rows", "powers", "k"] f fd)(Bs:Fn K mg "first_unknown" EG ["powers"] g1 gd1)(Dj:Fn K mg "one_less" HE ["powers", "k"] g2 gd2)
 (FY:AL P w K mg base Ac 1 g1 gd1 ["powers"] WV)(JP:AL P w K mg base Ac 1 g2 gd2 ["powers", "k"] Pt)(C1:mg "sum" = none)(Ar:mg "range" = none):AL P w K mg base Ac 2 f fd ["products", "rows", "powers", "k"] ZH:=by
 have sc:=Oe;refine F.F.ok (k:=1) sc (fun vs H Q E h=>?_) (fun cdv A outer s H vs Q E hr h=>?_)
 ·obtain⟨d,R,P,k,n,nl,nn,m,X,ps,kvs,rvs,rfl,_⟩:=h
  rfl
 obtain⟨d,R,P,k,n,nl,nn,m,X,ps,kvs,rvs,rfl,hR,hrow,hkn,hP,ho,hn4,hd,hl,hk20,hX,hS,hm,q⟩:=h;refine⟨_,(AB (BK (Au Fi (Ai (IP rfl) rfl C1 bT (AA (pv 2) AD)) AH (Ao _))
  (AF (Af (Wz (Au Fi (pv 3) AH (Ao _)) AH AH)))
  Ax)
 (AB (AW (i:=4) sc.nd rfl (Or.inr rfl) (Aj Bs FY hr rfl (AA (pv 2) AD)))
 (AB (AW (i:=5) sc.nd rfl (Or.inr rfl) (NU (by have:=hr.units;exact aP (bR (show 1≤64 by decide) _) this) (pv 0) (Aj Dj JP hr rfl (AA (pv 2) (AA (pv 4) AD))) (fun _ _=>rfl)))
 (AF (Af (Ai (Pe rfl) rfl C1 bT (AA (DC [".0", "j", "lower", "rows", "unknown", "k"] 1 [none,none,some 5,some 1,some 4,some 3] (Dd rfl Ar (AA (Ab CU (pv 3) AH) AD)) (fun _ _ _ _ _=>Bl) (fun _ _ _ _ _=>(Ab BS (BG Ja (pv 2) (pv 1) (fun _ _=>rfl)) (BG Ja (BG Ja (pv 3) (pv 4) (fun _ _=>rfl)) (Ab EW (pv 5) (pv 1)) (fun _ _=>rfl))))) AD))))))),?_⟩
 refine⟨_,rfl,P,ps,rfl,Ap.of hP,rfl,_,rfl,BQ (fun c=>?_) (fun c=>?_)⟩
 ·have c:ps.sum=0:=by simpa using c
  have:=q H (fun _ _ h=>h);rw[Lh c]at this;refine⟨_,rfl,rfl,_,rfl,BQ (fun c2=>?_) (fun c2=>?_)⟩
  ·have c2:(k:Int)=0:=by simpa using c2
   rw[if_pos (by lia)]at this;exact this
  ·have c2:¬(k:Int)=0:=by simpa using c2
   rw[if_neg (by lia)]at this;exact this
 ·have c:ps.sum≠0:=by simpa using c
  obtain⟨f1,_⟩:=FZ c;obtain⟨l,v1,v2,v3⟩:=hl c;refine⟨_,rfl,P,ps,rfl,hP,c,?_⟩;refine⟨_,rfl,_,rfl,_,rfl,P,ps,fu ps,rfl,hP,f1,by rw[ho.len];exact hn4,fun c1 H1 e1 h1=>?_⟩;have hg:FX H1 d (.ref c1) (some (.ref l)):=by
   have:=FX.t (k:=Jn (A9 ps (fu ps))) (e1 _ _ hd) (by rw[HH];exact h1);rw[v1]at this;exact this
  refine⟨d,.ref l,rfl,hg,?_⟩;obtain⟨ra,w1,w2⟩:=hrow (fu ps) (by rw[←ho.len];exact f1);refine⟨_,rfl,_,_,rfl,rfl,(k:Int)+1,rfl,by lia,by lia,fun D hD=>Ce (n:=((k:Int)+1).toNat) (fun i ys H'=>AG H1 H'∧ys=(Bp (fun j=>DX X (A9 ps (fu ps)) j*X (fu ps) (k-j)) i).map V.int) ⟨AN hD _,rfl⟩ ?_ ?_⟩
  ·rintro i ys H2 hi ⟨e2,rfl⟩ hD2;have E2:=e1.trans e2;have hik:i≤k:=by lia
   refine⟨hi,Cj (n:=60) (by rw[List.length_map,HL];lia) (by decide),fun x H' y=>?_⟩;obtain⟨rfl,rfl⟩:=y;unfold Cq;have hix:(0:Int)+(i:Nat)=(i:Nat):=by lia
   have hki:(k:Int)-((0:Int)+(i:Nat))=((k-i:Nat):Int):=by lia
   refine BV ⟨_,rfl,_,rfl,_,_,_,_,rfl,rfl,AQ.of (E2 _ _ v2),(by rw[hix];exact I0 (by lia)),_,rfl,_,rfl,_,_,_,_,rfl,rfl,AQ.of (E2 _ _ hR),HI w1,_,rfl,_,rfl,_,_,rfl,rfl,_,_,_,_,rfl,rfl,AQ.of (E2 _ _ w2),(by rw[hki];exact I0 (by lia)),_,_,rfl,rfl,F8 (hS c i hik) (hX _ _ (by rw[←ho.len];exact f1) (by lia)) (by lia),hD2,BZ hi ⟨fun b o z=>?_,?_⟩⟩
   ·rw[AE (AK z hD)];exact e2 _ _ z
   ·rw[Jf,List.map_append];rfl
  ·rintro ys H2 ⟨e2,rfl⟩ hD2;refine⟨aG _,D,_,rfl,AQ.of hD2,?_⟩;have:=q H2 (e1.trans e2);rw[Ly ho c]at this;exact this
theorem RO:Ad ["some", "products", "k"] ["some", "products", "k"] (AM JR):=⟨rfl,rfl,rfl,by decide +kernel,rfl,by decide +kernel,by decide +kernel⟩
theorem Rb(F:Fn K mg "speed_at" JR ["some", "products", "k"] f fd)(C1:mg "sum" = none):AL P w K mg base Ac 2 f fd ["some", "products", "k"] Zz:=by
 have sc:=RO;refine F.F.ok (k:=1) sc (fun vs H Q E h=>?_) (fun cdv A outer s H vs Q E hr h=>?_)
 ·obtain⟨a,d,xs,us,kvs,X,k,nl,m,rfl,_⟩:=h
  rfl
 obtain⟨a,d,xs,us,kvs,X,k,nl,m,rfl,ha,dx,h50,hd,hz,hkl,hm,q⟩:=h;have hxl:xs.length=us.length:=by rw[dx.len,List.length_map]
 refine⟨_,(AF (Af (Ai (Pe rfl) rfl C1 bT (AA (Ko [".0", "powers", "part", "k", "products"] 1 2 [none,none,none,some 2,some 1] (BB (pv 0)) (fun _ _ _ _ _=>Bl) (fun _ _ _ _ _=>(Ab BS (BG HK (pv 2) AH (fun _ _=>rfl)) (BG Ja (NU (by have:=hr.units;exact aP (bR (show 1≤64 by decide) _) this) (pv 4) (pv 1) (fun _ _=>rfl)) (pv 3) (fun _ _=>rfl))))) AD)))),?_⟩;refine⟨_,rfl,a,rfl,⟨_,AQ.of ha⟩,fun D hD=>F3 (n:=xs.length) (fun i ys H'=>AG H H'∧ys=((us.take i).map fun z=>z.2.num*DX X z.1 k).map V.int) ⟨AN hD _,rfl⟩ ?_ ?_⟩
 ·rintro i ys H2 hi ⟨e2,rfl⟩ hD2;have hu:us[i]? = some (us[i]'(by lia)):=aI _;obtain⟨c,Pw,Fr,k1,k2,k3,k4⟩:=HZ dx hu;obtain⟨⟨l,v1,v2⟩,n1,n2⟩:=hz _ (aL hu);generalize us[i]'(by lia)=z at hu k3 k4 v1 v2 n1 n2;refine⟨⟨xs,.ref c,AQ.of (e2 _ _ ha),k1⟩,Cj (n:=60) (by rw[List.length_map,List.length_map,List.length_take];lia) (by decide),fun x H' y=>?_⟩;obtain⟨rfl,y⟩:=y;have hx:=y xs (AQ.of (e2 _ _ ha));rw[k1]at hx;cases hx;refine⟨c,_,_,rfl,Ap.of (e2 _ _ k2),?_⟩;unfold Cq;have hg:FX H' d (.ref Pw) (some (.ref l)):=by
   have:=FX.t (k:=Jn z.1) (e2 _ _ hd) (by rw[HH];exact e2 _ _ k3);rw[v1]at this;exact this
  refine BV ⟨_,rfl,_,_,_,_,rfl,rfl,Ap.of (e2 _ _ k4),rfl,_,rfl,_,rfl,d,_,rfl,hg,_,rfl,_,_,_,_,rfl,rfl,AQ.of (e2 _ _ v2),I0 hkl,_,_,rfl,rfl,F8 n1 n2 (by lia),hD2,BZ hi ⟨fun b o zz=>?_,?_⟩⟩
  ·rw[AE (AK zz hD)];exact e2 _ _ zz
  ·rw[List.take_add_one,hu,List.map_append,List.map_append];rfl
 ·rintro ys H2 ⟨e2,rfl⟩ hD2;rw[hxl,List.take_length]at hD2;exact⟨⟨xs,AQ.of (e2 _ _ ha),Nat.le_refl _⟩,D,_,rfl,AQ.of hD2,q H2 e2⟩
end
def O3(x0:Nat→Int)(uss:List (List Aa))(F:Int):Nat→Nat→Nat→Int
 |0=>fun u _=>x0 u
 |k+1=>fun u j=>if j≤k then O3 x0 uss F k u j else FU (O3 x0 uss F k) (uss.getD u []) k*F.fdiv ((k:Int)+1)
def grow(x0:Nat→Int)(uss:List (List Aa))(F:Int)(u j:Nat):Int:=O3 x0 uss F j u j
theorem SD{x0:Nat→Int}{uss:List (List Aa)}{F:Int}:∀ {k j:Nat} (u:Nat),j≤k→O3 x0 uss F k u j=grow x0 uss F u j
 |0,j,u,h=>by rw[Nat.le_zero.mp h];rfl
 |k+1,j,u,h=>by
  by_cases hk:j≤k
  ·show(if j≤k then _ else _)=_;rw[if_pos hk];exact SD u hk
  ·rw[show j=k+1 by lia];rfl
theorem J6{x0:Nat→Int}{uss:List (List Aa)}{F:Int}(u k:Nat):grow x0 uss F u (k+1)=FU (grow x0 uss F) (uss.getD u []) k*F.fdiv ((k:Int)+1):=by
 show(if k+1≤k then _ else _)=_;rw[if_neg (by lia),U2 fun u j hj=>SD u hj]
def QN(H0 H:Hp)(no:Addr→Prop)(Ra:Addr)(nn n:Nat)(X:Nat→Nat→Int):Prop:=∃rvs:List V,H Ra=some (.lst rvs)∧rvs.length=nn∧∀u,u<nn→∃a,rvs[u]? = some (.ref a)∧H a=some (.lst ((Bp (X u) n).map V.int))∧H0 a=none∧¬no a
def S9(H0 H2:Hp)(no:Addr→Prop)(D:Addr)(n:Nat)(X:Nat→Nat→Int)(i:Nat)(ys:List V)(H':Hp):Prop:=AG H2 H'∧ys.length=i∧∀u,u<i→∃a,ys[u]? = some (.ref a)∧H' a=some (.lst ((Bp (X u) n).map V.int))∧H0 a=none∧¬no a∧a≠D
theorem OO{H0 H2 H3:Hp}{no:Addr→Prop}{D p:Addr}{n i:Nat}{X:Nat→Nat→Int}{ys:List V}(hD:H2 D=none)(e3:AG H2 H3)(hD3:H3 D=some (.lst ys))(hl:ys.length=i)(h:∀u,u<i→∃a,ys[u]? = some (.ref a)∧H3 a=some (.lst ((Bp (X u) n).map V.int))∧H0 a=none∧¬no a∧a≠D)
 (hp:H3 p=some (.lst ((Bp (X i) n).map V.int)))(h0:H0 p=none)(hn:¬no p)(hpD:p≠D):S9 H0 H2 no D n X (i+1) (ys++[.ref p]) (upd H3 D (.lst (ys++[.ref p]))):=by
 refine⟨fun b o z=>?_,by simp[hl],fun u hu=>?_⟩
 ·rw[AE (AK z hD)];exact e3 _ _ z
 ·rcases Nat.lt_or_eq_of_le (Nat.le_of_lt_succ hu) with h1|h1
  ·obtain⟨a,k1,k2,k3,k4,k5⟩:=h u h1;exact⟨a,by rw[List.getElem?_append_left (by lia)];exact k1,by rw[AE k5];exact k2,k3,k4,k5⟩
  ·subst h1;exact⟨p,by rw[List.getElem?_append_right (by lia)];simp[hl],by rw[AE hpD];exact hp,h0,hn,hpD⟩
theorem PV{H0 H2 H':Hp}{no:Addr→Prop}{D:Addr}{n nn:Nat}{X:Nat→Nat→Int}{ys:List V}(h:S9 H0 H2 no D n X nn ys H')(hD:H' D=some (.lst ys)):QN H0 H' no D nn n X :=
 ⟨ys,hD,h.2.1,fun u hu=>let⟨a,k1,k2,k3,k4,_⟩:=h.2.2 u hu;⟨a,k1,k2,k3,k4⟩⟩
def Xk(x:Int):PyData:=.tuple [.int x,.int 1]
structure V6(uss:List (List Aa))(x0:List Int)(F:Int)(most nn m:Nat):Prop where
 n4:nn≤4
 len:uss.length=nn
 Ib:x0.length=nn
 Jp:most≤19
 Jh:∀us∈uss,us.length≤50
 pw:∀us∈uss,∀z∈us,B0 nn z.1
 num:∀us∈uss,∀z∈us,z.2.num.natAbs<2^m
 xs:∀u k,u<nn→k≤most→(grow (x0.getD · 0) uss F u k).natAbs<2^m
 gm:∀ps,B0 nn ps→∀k,k<most→(DX (grow (x0.getD · 0) uss F) ps k).natAbs<2^m
 gj:∀us∈uss,∀k,k<most→(FU (grow (x0.getD · 0) uss F) us k).natAbs<2^m
 fin:F.natAbs<2^m
 m4:m≤4000
def cR:Sp:=fun vs H Q _=>∃(C S:Addr) (cs ss:List V) (uss:List (List Aa)) (x0:List Int) (F:Int) (most nn m:Nat),vs=[.ref C,.ref S,.int (most:Nat),.int F]∧H C=some (.lst cs)∧Ay H (uss.map BJ) cs∧H S=some (.lst ss)∧Ay H (x0.map Xk) ss∧V6 uss x0 F most nn m ∧
 ∀(D:Addr) H',AG H H'→H D=none→QN H H' (fun _=>False) D nn (most+1) (grow (x0.getD · 0) uss F)→Q (.ref D) H'
structure fH(H1 H:Hp)(d:Addr)(kvs:List (List Key×V))(os:List (List Int))(ls:List Int→Addr):Prop where
 at_:H d=some (.dT kvs)
 key:kvs.map (·.1)=os.map Jn
 val:∀p∈os,Bu kvs (Jn p)=some (.ref (ls p))
 new:∀p∈os,H1 (ls p)=none∧ls p≠d
 inj:∀p∈os,∀q∈os,ls p=ls q→p=q
theorem Ye{uss:List (List Aa)}{nn:Nat}{os:List (List Int)}(o:Ord uss nn os){i:Nat}{p:List Int}(hi:os[i]? = some p)(h:p.sum≠0):A9 p (fu p)∈os.take i:=by
 have hm:=o.low p (aL hi) h;obtain⟨j,hj⟩:=bJ hm;obtain⟨f1,_⟩:=FZ h;have hs:=sum_set p (fu p) f1;have hjl:=(aC.mp hj).1;have hil:=(aC.mp hi).1;have hlt:j<i:=by
  rcases Nat.lt_trichotomy j i with h1|h1|h1
  ·exact h1
  ·subst h1;rw[hi]at hj;have hj:=aW hj;rw[←hj]at hs;lia
  ·have:=(List.pairwise_iff_getElem.mp o.asc) i j hil hjl h1;rw[(aC.mp hi).2,(aC.mp hj).2]at this
   lia
 exact aL (i:=j) (by rw[List.getElem?_take,if_pos hlt];exact hj)
theorem B4{os:List (List Int)}{i:Nat}{p q:List Int}(h:os[i]? = some p):q∈os.take (i+1) ↔ q∈os.take i∨q=p:=by
 rw[List.take_add_one,h,List.mem_append];simp
theorem Rz{os:List (List Int)}{i:Nat}{p:List Int}(nd:os.Nodup)(h:os[i]? = some p):p ∉ os.take i:=fun z=>by
 obtain⟨j,hj⟩:=bJ z;rw[List.getElem?_take]at hj;split at hj
 ·rename_i hlt;have h1:=(aC.mp h);have h2:=(aC.mp hj);have:=(List.pairwise_iff_getElem.mp nd) j i h2.1 h1.1 hlt;rw[h1.2,h2.2]at this;exact this rfl
 ·cases hj
section
variable{P:Program}{w:World}{K:PySem.W.Frag}{mg:Str→Option Value}{base:Heap}{f g1 g2 g3:Addr}{fd gd1 gd2 gd3:FuncData}
theorem Oi:Ad ["change", "start", "most", "finer", "rows", "order", "products", "powers", "k", "speeds"] ["change", "start", "most", "finer"] (AM Hs):=⟨rfl,rfl,rfl,by decide +kernel,rfl,by decide +kernel,by decide +kernel⟩
theorem Oy(F:Fn K mg "whole_rows" Hs ["change", "start", "most", "finer"] f fd)(EH:Fn K mg "powers_needed" Fl ["change"] g1 gd1)(FT:Fn K mg "product_at" HR ["products", "rows", "powers", "k"] g2 gd2)(HG:Fn K mg "speed_at" JR ["some", "products", "k"] g3 gd3)
 (Mv:AL P w K mg base Ac 2 g1 gd1 ["change"] Yy)(Qi:AL P w K mg base Ac 2 g2 gd2 ["products", "rows", "powers", "k"] ZH)(Tt:AL P w K mg base Ac 2 g3 gd3 ["some", "products", "k"] Zz)(Ar:mg "range" = none)(Dg:mg "zip" = none):AL P w K mg base Ac 3 f fd ["change", "start", "most", "finer"] cR:=by
 have sc:=Oi;refine F.F.ok (k:=2) sc (fun vs H Q E h=>?_) (fun cdv A outer s H vs Q E hr h=>?_)
 ·obtain⟨C,S,cs,ss,uss,x0,F,most,nn,m,rfl,_⟩:=h
  rfl
 obtain⟨C,S,cs,ss,uss,x0,F,most,nn,m,rfl,hC,dc,hS,ds,ok,q⟩:=h;obtain⟨nn4,hul,hxl,hmost,hfew,hpw,hnum,hxs,hser,hspd,hF,m4⟩:=ok;have hcl:cs.length=uss.length:=by rw[dc.len,List.length_map]
 have hsl:ss.length=x0.length:=by rw[ds.len,List.length_map]
 generalize hX:grow (x0.getD · 0) uss F=X at hxs hser hspd q;refine⟨_,(AB (Em (i:=4) [".0", "place"] 1 [none,none] sc.nd rfl rfl (BB (pv 1)) (fun _ _ _ _ _=>Bl) (fun _ _ _ _ _=>(Dr (AA (BG HK (pv 1) AH (fun _ _=>rfl)) AD))))
 (AB (AW (i:=5) sc.nd rfl (Or.inl rfl) (Aj EH Mv hr rfl (AA (pv 0) AD)))
 (AB (AW (i:=6) sc.nd rfl (Or.inr rfl) Lq)
 (AB (Bf aK rfl (BB (pv 5)) (Al (i:=7) sc.nd rfl (Or.inl rfl))
  (AF (NC (by have:=hr.units;exact aP (bR (show 1≤64 by decide) _) this) (pv 6) (pv 7) (Dr AD) rfl)))
 (AB (Bf aK rfl (Dd rfl Ar (AA (pv 2) AD)) (Al (i:=8) sc.nd rfl (Or.inr rfl))
  (AB (Bf aK rfl (BB (pv 5)) (Al (i:=7) sc.nd rfl (Or.inl rfl))
   (AF (DY (K0 bH bX bY FK (NU (by have:=hr.units;exact aP (bR (show 1≤64 by decide) _) this) (pv 6) (pv 7) (fun _ _=>rfl)) (AA (Aj FT Qi hr rfl (AA (pv 6) (AA (pv 4) (AA (pv 7) (AA (pv 8) AD))))) AD)))))
  (AB (Em (i:=9) [".0", "some", "products", "k"] 1 [none,none,some 6,some 8] sc.nd rfl rfl (BB (pv 0)) (fun _ _ _ _ _=>Bl) (fun _ _ _ _ _=>(Aj HG Tt hr rfl (AA (pv 1) (AA (pv 2) (AA (pv 3) AD))))))
  (AF (Km (i:=4) [".0", "row", "speed", "finer", "k"] 1 2 [none,none,none,some 3,some 8] sc.nd rfl rfl (P7 rfl Dg (AA (pv 4) (AA (pv 9) AD))) (fun _ _ _ _ _=>Bl) (fun _ _ _ _ _=>(Ab Px (pv 1) (Dr (AA (Ab BS (pv 2) (Ab C9 (pv 3) (Ab CU (pv 4) AH))) AD)))))))))
 (AF (Af (pv 4)))))))),?_⟩
 refine⟨_,rfl,S,rfl,⟨_,AQ.of hS⟩,fun D0 hD0=>Ce (n:=ss.length) (S9 H H (fun _=>False) D0 1 X) ⟨AN hD0 _,rfl,fun u hu=>absurd hu (by lia)⟩ ?_ ?_⟩
 ·rintro i ys H1 hi ⟨e1,hyl,hy⟩ hD1;have hx:x0[i]? = some (x0[i]'(by lia)):=aI _;obtain⟨v,k1,k2⟩:=ds.get (i:=i) (d:=Xk (x0[i]'(by lia))) (by rw[List.getElem?_map,hx];rfl);obtain⟨t,xs,rfl,k3,k4⟩:=k2.Ui;obtain⟨y1,y2,rfl,k5,k6⟩:=k4.LM;obtain⟨N5,k5⟩:=k5;have k5:=k5 N5 (aG _);rw[Dt]at k5;subst k5;refine⟨⟨ss,.ref t,AQ.of (e1 _ _ hS),k1⟩,Cj (n:=60) (by lia) (by decide),fun x H' y=>?_⟩;obtain⟨rfl,y⟩:=y;have hx':=y ss (AQ.of (e1 _ _ hS));rw[k1]at hx';cases hx';unfold Cq;refine BV ⟨_,rfl,_,_,_,_,rfl,rfl,Ap.of (e1 _ _ k3),rfl,CC (show 1≤60 by decide),fun p hp=>?_⟩;have ep:=AN hp (.lst [V.int (x0[i]'(by lia))]);have npD:p≠D0:=fun z=>by subst z;rw[hD1]at hp;cases hp
  have hX0:X i 0=x0[i]'(by lia):=by
   rw[←hX];show x0.getD i 0=_;rw[List.getD_eq_getElem?_getD,hx];rfl
  refine⟨ep _ _ hD1,BZ hi (OO hD0 (e1.trans ep) (ep _ _ hD1) hyl (fun u hu=>?_) ?_ (Fd e1 hp) (fun z=>z) npD)⟩
  ·obtain⟨a,j1,j2,j3⟩:=hy u hu;exact⟨a,j1,ep _ _ j2,j3⟩
  ·rw[AI,Jf,hX0];rfl
 rintro ys0 H1 mk0 hD1;have e1:=mk0.1;refine⟨⟨ss,AQ.of (e1 _ _ hS),Nat.le_refl _⟩,?_⟩;rw[hsl,hxl]at mk0;have r1:=PV mk0 hD1;clear mk0 hD1;refine⟨_,rfl,C,cs,uss,nn,rfl,e1 _ _ hC,dc.same e1,hpw,nn4,fun O H2 L e2 hO hO2 ord hL=>?_⟩;have E2:=e1.trans e2;generalize hos:L.map (·.1)=os at ord;have hLo:∀(i:Nat) (p:List Int),os[i]? = some p→∃a:Addr,(L.map fun l=>V.ref l.2)[i]? = some (V.ref a)∧H2 a=some (.tup (p.map V.int)):=fun i p hp=>by
  rw[←hos,List.getElem?_map]at hp;obtain⟨l,h1,h2⟩:=aH.mp hp;subst h2;exact⟨l.2,by rw[List.getElem?_map,h1];rfl,hL l (aL h1)⟩
 have hLl:(L.map fun l=>V.ref l.2).length=os.length:=by rw[←hos];simp
 have h35:=Q9 nn4 ord.nd ord.ok;generalize (L.map fun l=>V.ref l.2)=ov at hO2 hLo hLl;clear hL hos;refine fun d hd=>?_;have e3:=AN hd (.dT []);have hd3:upd H2 d (.dT []) d=some (.dT []):=AI;have hd2:=hd;generalize upd H2 d (.dT [])=H3 at e3 hd3;refine⟨_,rfl,O,rfl,⟨_,AQ.of (e3 _ _ hO2)⟩,B6 (xs:=ov) (fun i σ H'=>∃(r7 r8 r9:Option V) (kvs:List (List Key×V)) (ls:List Int→Addr),σ=[some (.ref C),some (.ref S),some (.int (most:Nat)),some (.int F),some (.ref D0),some (.ref O),some (.ref d),r7,r8,r9]∧AG H2 H'∧fH H2 H' d kvs (os.take i) ls∧∀p∈os.take i,H' (ls p)=some (.lst [])) ?_ ?_ ?_ ?_⟩
 ·exact⟨_,_,_,[],fun _=>0,rfl,e3,⟨hd3,rfl,(fun _ z=>by cases z),(fun _ z=>by cases z),(fun _ z=>by cases z)⟩,(fun _ z=>by cases z)⟩
 ·rintro i σ H' _ ⟨r7,r8,r9,kvs,ls,rfl,e,_⟩;exact AQ.of (e _ _ hO2)
 ·rintro i x σ H4 hx ⟨r7,r8,r9,kvs,ls,rfl,e4,pr,hem⟩;have hi:i<os.length:=by rw[←hLl];exact(aC.mp hx).1
  have hp:os[i]? = some os[i]:=by simp[hi]
  obtain⟨a,k1,k2⟩:=hLo i _ hp;have hnt:=Rz ord.nd hp;generalize os[i]=p at hp k2 hnt;rw[hx]at k1;cases k1;have hno:Bu kvs (Jn p)=none:=by
   cases hv:Bu kvs (Jn p) with
   |none=>rfl
   |some z =>
    have:=NS.mp (show(Bu kvs (Jn p)).isSome=true by rw[hv];rfl);rw[pr.key]at this;exact absurd (M3.mp this) hnt
  have hkl:kvs.length=i:=by have:=bD List.length pr.key;simp at this;lia
  refine⟨CC (show 0≤60 by decide),fun l hl=>?_⟩;have el:=AN hl (.lst []);have hdl:l≠d:=fun z=>by subst z;rw[pr.at_]at hl;cases hl
  refine⟨_,rfl,_,rfl,d,_,rfl,Lp.t (k:=Jn p) (el _ _ pr.at_) (by rw[HH];exact el _ _ (e4 _ _ k2)) (Cj (n:=60) (by lia) (by decide)),?_⟩;rw[Li _ hno];have hls:∀z∈os.take i,ls z≠l:=fun z hz y=>by rw[←y,hem z hz]at hl;cases hl
  refine⟨_,_,_,kvs++[(Jn p,.ref l)],fun z=>if z=p then l else ls z,rfl,fun b o z=>?_,⟨AI,?_,fun z hz=>?_,fun z hz=>?_,fun y hy z hz=>?_⟩,fun z hz=>?_⟩
  ·rw[AE (AK z hd2)];exact el _ _ (e4 _ _ z)
  ·rw[List.map_append,pr.key,List.take_add_one,hp,List.map_append];rfl
  ·rw[Nr _ _ _ _ hno];by_cases y:z=p
   ·rw[if_pos (by rw[y]),if_pos y]
   ·rw[if_neg fun w=>y (ZF w),if_neg y];rcases(B4 hp).mp hz with h|h
    ·exact pr.val z h
    ·exact absurd h y
  ·by_cases y:z=p
   ·rw[if_pos y];exact⟨Fd e4 hl,hdl⟩
   ·rw[if_neg y];rcases(B4 hp).mp hz with h|h
    ·exact pr.new z h
    ·exact absurd h y
  ·rcases(B4 hp).mp hy with h1|h1<;>rcases(B4 hp).mp hz with h2|h2
   ·have n1:y≠p:=fun w=>hnt (w ▸ h1);have n2:z≠p:=fun w=>hnt (w ▸ h2);rw[if_neg n1,if_neg n2];exact pr.inj y h1 z h2
   ·have n1:y≠p:=fun w=>hnt (w ▸ h1);rw[if_neg n1,if_pos h2];exact fun w=>absurd w (hls y h1)
   ·have n2:z≠p:=fun w=>hnt (w ▸ h2);rw[if_pos h1,if_neg n2];exact fun w=>absurd w.symm (hls z h2)
   ·exact fun _=>h1.trans h2.symm
  ·show upd _ d _ (if z=p then l else ls z)=_;by_cases y:z=p
   ·rw[if_pos y,AE hdl,AI]
   ·rw[if_neg y];rcases(B4 hp).mp hz with h|h
    ·rw[AE (pr.new z h).2];exact el _ _ (hem z h)
    ·exact absurd h y
 rintro σ H4 ⟨r7,r8,r9,kvs,ls,rfl,e4,pr,hem⟩;rw[hLl,List.take_length]at pr hem;have nlsD:∀p∈os,H2 (ls p)=none:=fun p hp=>(pr.new p hp).1;have r4:QN H H4 (fun a=>∃p∈os,a=ls p) D0 nn 1 X:=by
  obtain⟨rvs,k1,k2,k3⟩:=r1;refine⟨rvs,e4 _ _ (e2 _ _ k1),k2,fun u hu=>?_⟩;obtain⟨a,j1,j2,j3,_⟩:=k3 u hu;refine⟨a,j1,e4 _ _ (e2 _ _ j2),j3,?_⟩;rintro⟨p,hp,rfl⟩;have:=e2 _ _ j2;rw[nlsD p hp]at this;cases this
 have nD0:∀p∈os,ls p≠D0:=fun p hp z=>by
  obtain⟨rvs,k1,_⟩:=r1;have:=e2 _ _ k1;rw[←z,nlsD p hp]at this;cases this
 have hem4:∀p∈os,H4 (ls p)=some (.lst ((Bp (DX X p) 0).map V.int)):=hem;clear hem;refine⟨_,rfl,(most:Int),rfl,by lia,by lia,GW (n:=(most:Int).toNat) (fun k σ H'=>∃(Ra:Addr) (r7 r8 r9:Option V),σ=[some (.ref C),some (.ref S),some (.int (most:Nat)),some (.int F),some (.ref Ra),some (.ref O),some (.ref d),r7,r8,r9]∧AG H2 H'∧H' d=some (.dT kvs)∧QN H H' (fun a=>∃p∈os,a=ls p) Ra nn (k+1) X∧H Ra=none∧(∀p∈os,ls p≠Ra)∧∀p∈os,H' (ls p)=some (.lst ((Bp (DX X p) k).map V.int))) ?_ ?_ ?_⟩
 ·exact⟨D0,_,_,_,rfl,e4,pr.at_,r4,hD0,nD0,hem4⟩
 ·rintro k σ H5 hk ⟨Ra,r7,r8,r9,rfl,e5,hd5,r5,hRa,nRa,pl5⟩;have hkm:k<most:=by lia
  have hk0:(0:Int)+(k:Nat)=(k:Nat):=by lia
  rw[hk0];refine⟨_,rfl,O,rfl,⟨_,AQ.of (e5 _ _ hO2)⟩,B6 (xs:=ov) (fun i σ H'=>∃(r7 r9:Option V),σ=[some (.ref C),some (.ref S),some (.int (most:Nat)),some (.int F),some (.ref Ra),some (.ref O),some (.ref d),r7,some (.int (k:Nat)),r9]∧AG H2 H'∧H' d=some (.dT kvs)∧QN H H' (fun a=>∃p∈os,a=ls p) Ra nn (k+1) X∧∀p∈os,H' (ls p)=some (.lst ((Bp (DX X p) (if p∈os.take i then k+1 else k)).map V.int))) ?_ ?_ ?_ ?_⟩
  ·exact⟨_,_,rfl,e5,hd5,r5,fun p hp=>by rw[if_neg (by simp)];exact pl5 p hp⟩
  ·rintro i σ H' _ ⟨r7,r9,rfl,e,_⟩;exact AQ.of (e _ _ hO2)
  ·rintro i x σ H6 hx ⟨r7,r9,rfl,e6,hd6,r6,pl6⟩;have hi:i<os.length:=by rw[←hLl];exact(aC.mp hx).1
   have hp:os[i]? = some os[i]:=by simp[hi]
   obtain⟨a,k1,k2⟩:=hLo i _ hp;have hnt:=Rz ord.nd hp;have hpm:=aL hp;generalize os[i]=p at hp k2 hnt hpm;rw[hx]at k1;cases k1;have hpo:=ord.ok p hpm;have l6:=pl6 p hpm;rw[if_neg hnt]at l6;have hg:FX H6 d (.ref a) (some (.ref (ls p))):=by
    have:=FX.t (k:=Jn p) hd6 (by rw[HH];exact e6 _ _ k2);rw[pr.val p hpm]at this;exact this
   obtain⟨rvs,q1,q2,q3⟩:=r6;refine⟨_,rfl,_,rfl,d,.ref (ls p),rfl,hg,.inl ⟨rfl,_,AQ.of l6⟩,_,rfl,_,rfl,_,rfl,_,rfl,d,Ra,a,k,k+1,k+1,nn,m,X,p,kvs,rvs,rfl,q1,fun u hu=>?_,by lia,e6 _ _ k2,hpo,nn4,hd6,fun h0=>?_,by lia,fun u j hu hj=>hxs u j hu (by lia),fun h0 j hj=>hser _ (hpo.low h0) j (by lia),by lia,fun H7 e7=>?_⟩
   ·obtain⟨a,j1,j2,_⟩:=q3 u hu;exact⟨a,j1,j2⟩
   ·have hlo:=Ye ord hp h0;have hlm:=ord.low p hpm h0;refine⟨ls (A9 p (fu p)),pr.val _ hlm,?_,by lia⟩;have:=pl6 _ hlm;rw[if_pos hlo]at this;exact this
   refine⟨ls p,_,_,rfl,rfl,e7 _ _ l6,Cj (n:=60) (by rw[List.length_map,HL];lia) (by decide),?_⟩;refine⟨_,_,rfl,fun b o z=>?_,?_,⟨rvs,?_,q2,fun u hu=>?_⟩,fun z hz=>?_⟩
   ·rw[AE (AK z (nlsD p hpm))];exact e7 _ _ (e6 _ _ z)
   ·rw[AE (Ne.symm (pr.new p hpm).2)];exact e7 _ _ hd6
   ·rw[AE (Ne.symm (nRa p hpm))];exact e7 _ _ q1
   ·obtain⟨b,j1,j2,j3,j4⟩:=q3 u hu;exact⟨b,j1,by rw[AE (fun z=>j4 ⟨p,hpm,z⟩)];exact e7 _ _ j2,j3,j4⟩
   ·by_cases y:z=p
    ·subst y;rw[AI,if_pos ((B4 hp).mpr (.inr rfl)),Jf,List.map_append];rfl
    ·have h9:=e7 _ _ (pl6 z hz);rw[AE (fun w=>y (pr.inj z hz p hpm w))];by_cases h:z∈os.take i
     ·rw[if_pos h]at h9;rw[if_pos ((B4 hp).mpr (.inl h))];exact h9
     ·rw[if_neg h]at h9;rw[if_neg fun h'=>h (((B4 hp).mp h').resolve_right y)];exact h9
  rintro σ H6 ⟨r7,r9,rfl,e6,hd6,r6,pl6⟩;rw[hLl,List.take_length]at pl6;have pl6:∀p∈os,H6 (ls p)=some (.lst ((Bp (DX X p) (k+1)).map V.int)):=fun p hp=>by
   have:=pl6 p hp;rw[if_pos hp]at this;exact this
  refine⟨_,rfl,C,rfl,⟨_,AQ.of (e6 _ _ (E2 _ _ hC))⟩,fun D1 hD1=>Ce (n:=cs.length) (fun i ys H'=>AG H6 H'∧ys=((uss.take i).map fun us=>FU X us k).map V.int) ⟨AN hD1 _,rfl⟩ ?_ ?_⟩
  ·rintro i ys H7 hi ⟨e7,rfl⟩ hD7;have E7:=e6.trans e7;have hu:uss[i]? = some (uss[i]'(by lia)):=aI _;obtain⟨a,xs,k1,k2,k3⟩:=HP dc hu;have hmem:=aL hu;generalize uss[i]'(by lia)=us at hu k3 hmem;refine⟨⟨cs,.ref a,AQ.of (E7 _ _ (E2 _ _ hC)),k1⟩,Cj (n:=60) (by rw[List.length_map,List.length_map,List.length_take];lia) (by decide),fun x H' y=>?_⟩;obtain⟨rfl,y⟩:=y;have hx:=y cs (AQ.of (E7 _ _ (E2 _ _ hC)));rw[k1]at hx;cases hx;unfold Cq;refine BV ⟨_,rfl,_,rfl,_,rfl,a,d,xs,us,kvs,X,k,k+1,m,rfl,E7 _ _ (E2 _ _ k2),k3.same (E2.trans E7),hfew us hmem,e7 _ _ hd6,fun z hz=>⟨⟨ls z.1,pr.val _ (ord.has us hmem z hz),e7 _ _ (pl6 _ (ord.has us hmem z hz))⟩,hnum us hmem z hz,hser _ (hpw us hmem z hz) k hkm⟩,by lia,by lia,fun H8 e8=>?_⟩;refine⟨e8 _ _ hD7,BZ hi ⟨fun b o z=>?_,?_⟩⟩
   ·rw[AE (AK z hD1)];exact e8 _ _ (e7 _ _ z)
   ·rw[List.take_add_one,hu,List.map_append,List.map_append];rfl
  rintro ys H7 ⟨e7,rfl⟩ hD7;rw[hcl,List.take_length]at hD7;have E7:=e6.trans e7;refine⟨⟨cs,AQ.of (E7 _ _ (E2 _ _ hC)),Nat.le_refl _⟩,?_⟩;obtain⟨rvs,q1,q2,q3⟩:=r6;refine⟨_,rfl,_,rfl,false,false,Ra,D1,rfl,⟨_,e7 _ _ q1⟩,⟨_,hD7⟩,fun D2 hD2=>F3 (n:=nn) (S9 H H7 (fun a=>∃p∈os,a=ls p) D2 (k+2) X) ⟨AN hD2 _,rfl,fun u hu=>absurd hu (by lia)⟩ ?_ ?_⟩
  ·rintro i ys H8 hi ⟨e8,hyl,hy⟩ hD8;obtain⟨ra,j1,j2,j3,j4⟩:=q3 i hi;have hu:uss[i]? = some (uss[i]'(by lia)):=aI _;have hsp:((uss.map fun us=>FU X us k).map V.int)[i]? = some (.int (FU X (uss[i]'(by lia)) k)):=by rw[List.getElem?_map,List.getElem?_map,hu];rfl
   have hmem:=aL hu;have hgs:X i (k+1)=FU X (uss[i]'(by lia)) k*F.fdiv ((k:Int)+1):=by
    rw[←hX,J6,List.getD_eq_getElem?_getD,hu];rfl
   generalize uss[i]'(by lia)=us at hu hsp hmem hgs;refine⟨⟨_,_,_,_,e8 _ _ (e7 _ _ q1),e8 _ _ hD7,j1,hsp⟩,Cj (n:=60) (by lia) (by decide),fun v H' y=>?_⟩;obtain⟨p,x,z,rfl,np,rfl,k1,k2⟩:=y;have hx':=k1 _ (e8 _ _ (e7 _ _ q1));have hy':=k2 _ (e8 _ _ hD7);rw[j1]at hx';rw[hsp]at hy';cases hx';cases hy';have ep:=AN np (.tup [.ref ra,.int (FU X us k)]);refine⟨p,_,_,rfl,Ap.of AI,?_⟩;unfold Cq;have hdv:(F.fdiv ((k:Int)+1)).natAbs<2^m:=aP (FM.BI _ _) hF;refine BV ⟨_,rfl,_,rfl,_,rfl,_,rfl,_,_,rfl,rfl,_,_,rfl,rfl,⟨by lia,5,by decide,by show((k:Int)+1).natAbs<32;lia⟩,_,_,rfl,rfl,F8 (hspd us hmem k hkm) hdv (by lia),CC (show 1≤60 by decide),fun t ht=>?_⟩;generalize hH:upd (upd H8 p _) t _=H9;have e9:AG H8 H9:=by rw[←hH];exact ep.trans (AN ht _)
   have ht9:H9 t=some (.lst [V.int (FU X us k*F.fdiv ((k:Int)+1))]):=by rw[←hH];exact AI
   clear hH;refine⟨ra,t,_,_,rfl,rfl,e9 _ _ (e8 _ _ (e7 _ _ j2)),ht9,CC (by rw[List.length_map,HL,List.length_singleton];lia),fun b hb=>?_⟩;have eb:=AN hb (.lst ((Bp (X i) (k+1)).map V.int++[V.int (FU X us k*F.fdiv ((k:Int)+1))]));have hD9:=e9 _ _ hD8;have nbD:b≠D2:=fun z=>by subst z;rw[hD9]at hb;cases hb
   have nb7:H7 b=none:=Fd (e8.trans e9) hb;refine⟨eb _ _ hD9,BZ hi (OO hD2 (e8.trans (e9.trans eb)) (eb _ _ hD9) hyl (fun u hu=>?_) ?_ (Fd (E2.trans E7) nb7) ?_ nbD)⟩
   ·obtain⟨a,w1,w2,w3⟩:=hy u hu;exact⟨a,w1,eb _ _ (e9 _ _ w2),w3⟩
   ·rw[AI,Jf (X i) (k+1),hgs,List.map_append];rfl
   ·rintro⟨p,hp,rfl⟩;rw[e7 _ _ (pl6 p hp)]at nb7;cases nb7
  rintro ys H8 mk hD8;have e8:=mk.1;have hq2:rvs.length=nn:=q2;refine⟨⟨_,_,e8 _ _ (e7 _ _ q1),e8 _ _ hD7,.inl hq2.symm⟩,D2,_,_,_,rfl,E7.trans e8,e8 _ _ (e7 _ _ hd6),PV mk hD8,Fd (E2.trans E7) hD2,fun p hp z=>?_,fun p hp=>e8 _ _ (e7 _ _ (pl6 p hp))⟩;rw[←z,e7 _ _ (pl6 p hp)]at hD2;cases hD2
 ·rintro σ H5 ⟨Ra,r7,r8,r9,rfl,e5,hd5,r5,hRa,nRa,pl5⟩;refine⟨_,rfl,q Ra H5 (E2.trans e5) hRa ?_⟩;obtain⟨rvs,k1,k2,k3⟩:=r5;rw[show(most:Int).toNat=most by lia]at k3;exact⟨rvs,k1,k2,fun u hu=>let⟨a,j1,j2,j3,_⟩:=k3 u hu;⟨a,j1,j2,j3,fun z=>z⟩⟩
end
mutual
theorem MW{H:Hp}:∀ {d:PyData} {v:V},d.canLay0=true→Du H d v→DU H d v
 |.none,_,_,h=>by rw[Du]at h;subst h;exact .BA
 |.bool _,_,_,h=>by rw[Du]at h;subst h;exact .bool
 |.int _,_,_,h=>by rw[Du]at h;subst h;exact .int
 |.str _,_,_,h=>by rw[Du]at h;subst h;exact .str
 |.tuple _,_,c,h=>by
  rw[Du]at h;obtain⟨a,xs,rfl,h1,h2⟩:=h;exact .tup h1 (NW (by simpa only[PyData.canLay0]using c) h2)
 |.list _,_,c,h=>by
  rw[Du]at h;obtain⟨a,xs,rfl,h1,h2⟩:=h;exact .lst h1 (NW (by simpa only[PyData.canLay0]using c) h2)
 |.dict _,_,c,h=>by simp[PyData.canLay0]at c
theorem NW{H:Hp}:∀ {ds:List PyData} {xs:List V},PyData.canLayAll0 ds=true→An H ds xs→Ay H ds xs
 |[],_,_,h=>by rw[h.nil_eq];exact .nil
 |_::_,_,c,h=>by
  obtain⟨x,r,rfl,h1,h2⟩:=h.un;simp only[PyData.canLayAll0,Bool.and_eq_true]at c;exact .cons (MW c.1 h1) (NW c.2 h2)
end
mutual
theorem XW{l:Addr}{H:Hp}:∀ {d:PyData} {v:V},Dt l H d v→Du H d v
 |.none,_,h=>by rw[Dt]at h;rw[Du];exact h
 |.bool _,_,h=>by rw[Dt]at h;rw[Du];exact h
 |.int _,_,h=>by rw[Dt]at h;rw[Du];exact h
 |.str _,_,h=>by rw[Dt]at h;rw[Du];exact h
 |.tuple _,_,h=>by
  rw[Dt]at h;rw[Du];obtain⟨a,xs,rfl,n,h1,h2⟩:=h;exact⟨a,xs,rfl,h1,M7 h2⟩
 |.list _,_,h=>by
  rw[Dt]at h;rw[Du];obtain⟨a,xs,rfl,n,h1,h2⟩:=h;exact⟨a,xs,rfl,h1,M7 h2⟩
 |.dict _,_,h=>by rw[Dt]at h;exact h.elim
theorem M7{l:Addr}{H:Hp}:∀ {ds:List PyData} {xs:List V},AO l H ds xs→An H ds xs
 |[],_,h=>by rw[AO]at h;subst h;exact .nil
 |_::_,_,h=>by
  rw[AO]at h;obtain⟨x,r,rfl,h1,h2⟩:=h;exact .cons (XW h1) (M7 h2)
end
theorem DU.du{H:Hp}{d:PyData}{v:V}(h:DU H d v):Du H d v:=let⟨N,k⟩:=h;XW (k N (aG _))
theorem dU{G H H':Hp}{l:Addr}{vs:List V}{ds:List PyData}(e0:AG G H)(e:AG H H')(hl:H' l=some (.tup vs))(d:An G ds vs):∃G',AG G G'∧Nw G H G'∧AG G' H'∧Du G' (.tuple ds) (.ref l):=by
 have e1:AG G (upd G l (.tup vs)):=fun a o h=>by
  by_cases ha:a=l
  ·subst ha;have:=e _ _ (e0 _ _ h);rw[hl]at this;rw[AI];exact this
  ·rw[AE ha];exact h
 refine⟨upd G l (.tup vs),e1,fun a u h=>?_,fun a u h=>?_,?_⟩
 ·by_cases ha:a=l
  ·subst ha;rw[AI]at h;cases h;exact .inr (.inr ⟨_,rfl⟩)
  ·rw[AE ha]at h;exact .inl h
 ·by_cases ha:a=l
  ·subst ha;rw[AI]at h;rw[hl];exact h
  ·rw[AE ha]at h;exact e _ _ (e0 _ _ h)
 ·rw[Du];exact⟨l,vs,rfl,AI,d.same e1⟩
theorem Lu{G:Hp}:∀ps:List Int,An G (ps.map .int) (ps.map V.int)
 |[]=>.nil
 |p::ps=>.cons (by rw[Du]) (Lu ps)
theorem Pl:∀ps:List Int,PyData.canLayAll0 (ps.map .int)=true
 |[]=>by simp[PyData.canLayAll0]
 |p::ps=>by rw[List.map_cons];simp only[PyData.canLayAll0,PyData.canLay0];rw[Pl ps];rfl
theorem Kf{ds:List PyData}(h:∀d∈ds,d.canLay0=true):PyData.canLayAll0 ds=true:=by
 induction ds with
 |nil=>simp[PyData.canLayAll0]
 |cons d ds ih=>simp only[PyData.canLayAll0];rw[h d (.head _),ih fun e he=>h e (.tail _ he)];rfl
theorem Tj{ds:List PyData}(h:∀d∈ds,d.canLay0=true):(PyData.list ds).canLay0=true:=by simp only[PyData.canLay0];exact Kf h
theorem Tg{ds:List PyData}(h:∀d∈ds,d.canLay0=true):(PyData.tuple ds).canLay0=true:=by simp only[PyData.canLay0];exact Kf h
def Gr(G H H':Hp):Hp:=fun b=>match H' b with
 |some (.tup xs)=>some (.tup xs)
 |some o=>if H b=none then some o else G b
 |none=>none
theorem Z4{G H H':Hp}{a:Addr}{xs:List V}(h:H' a=some (.tup xs)):Gr G H H' a=some (.tup xs):=by unfold Gr;rw[h]
theorem VD{G H H':Hp}{a:Addr}{xs:List V}(h:H' a=some (.lst xs))(h0:H a=none):Gr G H H' a=some (.lst xs):=by unfold Gr;rw[h];exact if_pos h0
theorem YW{G H H':Hp}(e0:AG G H)(e:AG H H'):AG G (Gr G H H')∧Nw G H (Gr G H H')∧AG (Gr G H H') H':=by
 refine⟨fun a o h=>?_,fun a o h=>?_,fun a o h=>?_⟩
 ·have h1:=e0 _ _ h;have h2:=e _ _ h1;unfold Gr;rw[h2];cases o with
  |tup xs=>rfl
  |_=>simp only[h1];exact h
 ·unfold Gr at h;split at h
  ·cases h;exact .inr (.inr ⟨_,rfl⟩)
  ·split at h
   ·rename_i z;exact .inr (.inl z)
   ·exact .inl h
  ·cases h
 ·unfold Gr at h;cases z:H' a with
  |none=>rw[z]at h;cases h
  |some u =>
   rw[z]at h;cases u with
   |tup xs=>exact h
   |_ =>
    simp only at h;split at h
    ·exact h
    ·rw[←z];exact e _ _ (e0 _ _ h)
theorem MY{G H H':Hp}:∀ {qs:List Rat} {xs:List V},Ay H' (AZ qs) xs→An (Gr G H H') (AZ qs) xs
 |[],xs,h=>by
  have:=h.len;have e:xs=[]:=bb (by simpa[AZ]using this);rw[e];exact .nil
 |q::qs,xs,h=>by
  obtain⟨x,r,rfl,h1,h2⟩:=Ay.R7 (d:=AV q) (ds:=AZ qs) h;obtain⟨p,rfl,hp⟩:=h1.rat;refine .cons ?_ (MY h2);unfold AV;rw[Du];exact⟨p,_,rfl,Z4 hp,Lu [q.num,(q.den:Int)]⟩
def B2:Nat→Int
 |0=>1
 |n+1=>B2 n*((n:Int)+1)
def Ae(f:Nat→Rat)(n:Nat):List Rat:=(List.range n).map f
theorem OS(f:Nat→Rat)(n:Nat):Ae f (n+1)=Ae f n++[f n]:=by unfold Ae;rw[List.range_succ,List.map_append];rfl
theorem JV(f:Nat→Rat)(n:Nat):(Ae f n).length=n:=by unfold Ae;simp
def Xf:Sp:=fun vs H Q _=>∃(n:Nat),vs=[.int (n:Nat)]∧n≤20∧Q (.int (B2 n)) H
theorem Kq:∀n,n≤20→1≤B2 n∧(B2 n).natAbs<2^100:=by decide +kernel
def ZJ:Sp:=fun vs H Q _=>∃(a:Addr) (xs:List V) (rs:List Rat) (B:Int) (n m:Nat),vs=[.ref a,.int B]∧H a=some (.lst xs)∧Ay H (AZ rs) xs∧rs.length≤50∧(∀r∈rs,FM.Fits r n)∧B.natAbs<2^m∧n+m≤4000 ∧
 ∀D H' zs,AG H H'→H D=none→H' D=some (.lst zs)→Ay H' ((Ba rs B).map Xk) zs→Q (.ref D) H'
def NH(f:Nat→Int)(CS g:Int)(k:Nat):Rat:=Rat.divInt (f k) (g*CS^k)
def XH:Sp:=fun vs H Q _=>∃(a:Addr) (f:Nat→Int) (n:Nat) (CS g:Int) (b:Nat),vs=[.ref a,.int CS,.int g]∧H a=some (.lst ((Bp f n).map V.int))∧n≤20∧CS≠0∧g≠0∧g.natAbs<2^b∧CS.natAbs<2^b∧b≤400 ∧
 ∀D H' zs,AG H H'→H D=none→H' D=some (.lst zs)→Ay H' (AZ (Ae (NH f CS g) n)) zs→Q (.ref D) H'
def Xb:Sp:=fun vs H Q _=>∃n:Nat,vs=[.int (n:Nat)]∧n≤7∧Q .BA H
theorem US{b:Int}(h:b≠0)(n:Nat):b^n≠0:=by
 induction n with
 |zero=>simp
 |succ n ih=>rw[Int.pow_succ];exact Int.mul_ne_zero ih h
theorem Zy{g CS:Int}{b k n:Nat}(h1:g.natAbs<2^b)(h2:CS.natAbs<2^b)(hk:k≤n):(g*CS^k).natAbs<2^(b+(b*n+1)):=FM.DL h1 (Dy h2 hk)
section
variable{P:Program}{w:World}{K:PySem.W.Frag}{mg:Str→Option Value}{base:Heap}{f g:Addr}{fd gd:FuncData}
theorem Lz:Ad ["many", "product", "factor"] ["many"] (AM Ft):=⟨rfl,rfl,rfl,by decide +kernel,rfl,by decide +kernel,by decide +kernel⟩
theorem MB(F:Fn K mg "product_up_to" Ft ["many"] f fd)(Ar:mg "range" = none):AL P w K mg base Ac 1 f fd ["many"] Xf:=by
 have sc:=Lz;refine F.F.ok (k:=0) sc (fun vs H Q E h=>?_) (fun cdv A outer s H vs Q E hr h=>?_)
 ·obtain⟨n,rfl,_⟩:=h
  rfl
 obtain⟨n,rfl,hn,q⟩:=h;refine⟨_,(AB (AW (i:=1) sc.nd rfl (Or.inl rfl) AH)
 (AB (Bf aK rfl (OV rfl Ar (AA AH (AA (Ab CU (pv 0) AH) AD))) (Al (i:=2) sc.nd rfl (Or.inl rfl))
  (AF (AW (i:=1) sc.nd rfl (Or.inl rfl) (Ab BS (pv 1) (pv 2)))))
 (AF (Af (pv 1))))),?_⟩
 refine⟨_,rfl,_,_,rfl,rfl,2,(n:Int)+1,rfl,⟨by decide,by decide,by lia,by lia⟩,GW (lo:=2) (n:=((n:Int)+1-2).toNat) (fun i σ H'=>∃(r2:Option V),σ=[some (.int (n:Nat)),some (.int (B2 (i+1))),r2]∧H=H') ⟨_,rfl,rfl⟩ ?_ ?_⟩
 ·rintro i σ H' hi ⟨r2,rfl,rfl⟩;have h5:((2:Int)+(i:Nat)).natAbs<2^100:=aP (show((2:Int)+(i:Nat)).natAbs≤32 by lia) (by decide);refine⟨_,rfl,_,rfl,_,_,rfl,rfl,F8 (Kq (i+1) (by lia)).2 h5 (by decide),some (.int (2+(i:Nat))),?_,rfl⟩;show [_,some (V.int (B2 (i+1)*(2+(i:Nat)))),_]=[_,some (V.int (B2 (i+1)*(((i+1:Nat):Int)+1))),_];rw[show(2:Int)+(i:Nat)=((i+1:Nat):Int)+1 by lia]
 ·rintro σ H' ⟨r2,rfl,rfl⟩;refine⟨_,rfl,?_⟩;show Q (V.int (B2 _)) _;cases n with
  |zero=>exact q
  |succ n =>
   rw[show(((n+1:Nat):Int)+1-2).toNat=n by lia];exact q
theorem NZ:Ad ["start", "grain"] ["start", "grain"] (AM Gx):=⟨rfl,rfl,rfl,by decide +kernel,rfl,by decide +kernel,by decide +kernel⟩
theorem Nm(F:Fn K mg "whole_start" Gx ["start", "grain"] f fd)(GJ:Fn K mg "tops_over" Ie ["some", "bottom"] g gd)(RY:AL P w K mg base Ac 1 g gd ["some", "bottom"] U5):AL P w K mg base Ac 2 f fd ["start", "grain"] ZJ:=by
 have sc:=NZ;refine F.F.ok (k:=1) sc (fun vs H Q E h=>?_) (fun cdv A outer s H vs Q E hr h=>?_)
 ·obtain⟨a,xs,rs,B,n,m,rfl,_⟩:=h
  rfl
 obtain⟨a,xs,rs,B,n,m,rfl,ha,dx,h50,hf,hB,hm,q⟩:=h;refine⟨_,(AF (Af (DC [".0", "top"] 1 [none,none] (BB (Aj GJ RY hr rfl (AA (pv 0) (AA (pv 1) AD)))) (fun _ _ _ _ _=>Bl) (fun _ _ _ _ _=>(GY (AA (pv 1) (AA AH AD))))))),?_⟩;refine⟨_,rfl,_,rfl,a,xs,rs,B,n,m,rfl,ha,dx,h50,hf,hB,hm,fun T H1 e1 hT hT1=>?_⟩;have htl:(Ba rs B).length=rs.length:=by unfold Ba;simp
 refine⟨T,rfl,⟨_,AQ.of hT1⟩,fun D hD=>Ce (n:=(Ba rs B).length) (fun i ys H'=>AG H1 H'∧ys.length=i∧AO D H' (((Ba rs B).take i).map Xk) ys) ⟨AN hD _,rfl,.nil⟩ ?_ ?_⟩
 ·rintro i ys H2 hi ⟨e2,hyl,dy⟩ hD2;have hx:(Ba rs B)[i]? = some ((Ba rs B)[i]' hi):=aI _;have hv:((Ba rs B).map V.int)[i]? = some (.int ((Ba rs B)[i]' hi)):=by rw[List.getElem?_map,hx];rfl
  generalize (Ba rs B)[i]' hi=t at hx hv;refine⟨⟨_,_,AQ.of (e2 _ _ hT1),hv⟩,Cj (n:=60) (by lia) (by decide),fun x H' y=>?_⟩;obtain⟨rfl,y⟩:=y;have hx':=y _ (AQ.of (e2 _ _ hT1));rw[hv]at hx';cases hx';unfold Cq;refine BV ⟨_,rfl,CC (show 2≤60 by decide),fun p hp=>?_⟩;have ep:=AN hp (.tup [V.int t,V.int 1]);have npD:p≠D:=fun z=>by subst z;rw[hD2]at hp;cases hp
  refine⟨ep _ _ hD2,BZ hi ⟨fun b o z=>?_,by simp[hyl],?_⟩⟩
  ·rw[AE (AK z hD)];exact ep _ _ (e2 _ _ z)
  ·rw[List.take_add_one,hx,List.map_append];exact .but .upd ((dy.same ep).app (.cons (.tup npD AI (.cons .int (.cons .int .nil))) .nil))
 ·rintro ys H2 ⟨e2,hyl,dy⟩ hD2;rw[List.take_length]at dy;exact⟨⟨_,AQ.of (e2 _ _ hT1),by rw[List.length_map];exact aG _⟩,q D H2 ys (e1.trans e2) (Fd e1 hD) hD2 (CO dy)⟩
theorem Jt:Ad ["row", "pace", "grain", "fractions", "bottom", "number"] ["row", "pace", "grain"] (AM EN):=⟨rfl,rfl,rfl,by decide +kernel,rfl,by decide +kernel,by decide +kernel⟩
theorem Js(F:Fn K mg "row_of_fractions" EN ["row", "pace", "grain"] f fd)(Ex:Fn K mg "fraction_of" Gz ["top", "bottom"] g gd)(Oo:AL P w K mg base Ac 2 g gd ["top", "bottom"] Pp):AL P w K mg base Ac 3 f fd ["row", "pace", "grain"] XH:=by
 have sc:=Jt;refine F.F.ok (k:=2) sc (fun vs H Q E h=>?_) (fun cdv A outer s H vs Q E hr h=>?_)
 ·obtain⟨a,f,n,CS,g,b,rfl,_⟩:=h
  rfl
 obtain⟨a,f,n,CS,g,b,rfl,ha,hn,hp0,hg0,hgb,hpb,hb,q⟩:=h;refine⟨_,(AB (AW (i:=3) sc.nd rfl (Or.inl rfl) (Dr AD))
 (AB (AW (i:=4) sc.nd rfl (Or.inl rfl) (pv 2))
 (AB (Bf aK rfl (BB (pv 0)) (Al (i:=5) sc.nd rfl (Or.inl rfl))
  (AB (DY (K0 bH bX bY FK (pv 3) (AA (Aj Ex Oo hr rfl (AA (pv 5) (AA (pv 4) AD))) AD)))
  (AF (AW (i:=4) sc.nd rfl (Or.inl rfl) (Ab BS (pv 4) (pv 1))))))
 (AF (Af (pv 3)))))),?_⟩
 refine⟨CC (show 0≤60 by decide),fun D hD=>?_⟩;have e1:=AN hD (.lst []);have hD1:upd H D (.lst []) D=some (.lst []):=AI;generalize upd H D (.lst [])=H1 at e1 hD1;have hbn:b*20≤8000:=by lia
 refine⟨_,rfl,_,rfl,a,rfl,⟨_,AQ.of (e1 _ _ ha)⟩,B6 (xs:=(Bp f n).map V.int) (fun i σ H'=>∃(r5:Option V) (zs:List V),σ=[some (.ref a),some (.int CS),some (.int g),some (.ref D),some (.int (g*CS^i)),r5]∧AG H H'∧H' D=some (.lst zs)∧Ay H' (AZ (Ae (NH f CS g) i)) zs) ?_ ?_ ?_ ?_⟩
 ·exact⟨_,[],by simp;rfl,e1,hD1,.nil⟩
 ·rintro i σ H' _ ⟨r5,zs,rfl,e,_⟩;exact AQ.of (e _ _ ha)
 ·rintro i x σ H2 hx ⟨r5,zs,rfl,e2,hD2,dz⟩;have hi:i<n:=by have:=(aC.mp hx).1;rw[List.length_map,HL]at this;exact this
  have hxi:x=.int (f i):=by
   unfold Bp at hx;simp[hi]at hx;exact hx.symm
  subst hxi;have hzl:zs.length=i:=by rw[dz.len];unfold AZ;rw[List.length_map,JV]
  have nb:(g*CS^i).natAbs<2^(b+(b*20+1)):=Zy hgb hpb (by lia);refine⟨_,rfl,.inl ⟨rfl,_,AQ.of hD2⟩,_,rfl,_,rfl,f i,g*CS^i,b+(b*20+1),rfl,Int.mul_ne_zero hg0 (US hp0 i),by lia,nb,fun l H3 e3 hl=>?_⟩;have hD3:=e3 _ _ hD2;refine⟨D,zs,_,rfl,rfl,hD3,Cj (n:=60) (by lia) (by decide),?_⟩;refine⟨_,rfl,_,rfl,_,_,rfl,rfl,F8 nb hpb (by lia),some (.int (f i)),zs++[.ref l],?_,fun b o z=>?_,AI,?_⟩
  ·show [_,_,_,_,some (V.int (g*CS^i*CS)),_]=[_,_,_,_,some (V.int (g*CS^(i+1))),_];rw[Int.pow_succ,Int.mul_assoc]
  ·rw[AE (AK z hD)];exact e3 _ _ (e2 _ _ z)
  ·have dn:Ay H3 (AZ (Ae (NH f CS g) (i+1))) (zs++[.ref l]):=by
    rw[OS];unfold AZ;rw[List.map_append];exact(dz.same e3).app (.cons (.tup hl (.cons .int (.cons .int .nil))) .nil)
   exact CO (.but .upd (Hf hD3 dn))
 ·rintro σ H2 ⟨r5,zs,rfl,e2,hD2,dz⟩;rw[List.length_map,HL]at dz;exact⟨_,rfl,q D H2 zs e2 hD hD2 dz⟩
theorem KO:Ad ["most"] ["most"] (AM Ef):=⟨rfl,rfl,rfl,by decide +kernel,rfl,by decide +kernel,by decide +kernel⟩
theorem Ku{tk:Tok}(F:Fn K mg "refuse_too_many" Ef ["most"] f fd)(He:mg "MOST_POWER" = some (.int 7 tk)):AL P w K mg base Ac 1 f fd ["most"] Xb:=by
 have sc:=KO;refine F.F.ok (k:=0) sc (fun vs H Q E h=>?_) (fun cdv A outer s H vs Q E hr h=>?_)
 ·obtain⟨n,rfl,_⟩:=h
  rfl
 obtain⟨n,rfl,hn,q⟩:=h;refine⟨_,(AF (BK (PW.pt (EI (Au Ma (pv 0) AH (Ao _)) (DM (Au MP (pv 0) (YL (v:=.int 7) rfl He ⟨_,rfl⟩) (Ao _)))))
  (AF Ls)
  Ax)),?_⟩
 refine⟨_,rfl,_,_,rfl,rfl,_,rfl,BQ (fun c=>?_) (fun _=>⟨_,rfl,_,_,rfl,rfl,_,rfl,BQ (fun c=>?_) (fun _=>q)⟩)⟩
 ·have:=aj c
  lia
 ·have:=aj c
  lia
end
theorem QV{M:Nat}:∀ {l:List Int},(∀x∈l,x.natAbs≤M)→l.sum.natAbs≤l.length*M
 |[],_=>by simp
 |x::l,h=>by
  have h1:=h x (.head _);have h2:=QV (l:=l) fun y hy=>h y (.tail _ hy);rw[List.sum_cons,List.length_cons,Nat.succ_mul];have:=Int.natAbs_add_le x l.sum
  lia
theorem YJ{f g:Nat→Int}{k A B b:Nat}(hk:k≤7)(hf:∀j,j≤k→(f j).natAbs≤2^(A+b*j))(hg:∀j,j≤k→(g j).natAbs≤2^(B+b*j)):(conv f g k).natAbs≤2^(A+B+3+b*k):=by
 unfold conv
 have h1:∀x∈Bp (fun j=>f j*g (k-j)) (k+1),x.natAbs≤2^(A+B+b*k):=fun x hx=>by
  unfold Bp at hx;obtain⟨j,hj,rfl⟩:=aQ.mp hx;have hj:j<k+1:=au.mp hj;rw[Int.natAbs_mul];refine aR (Nat.mul_le_mul (hf j (by lia)) (hg (k-j) (by lia))) ?_;rw[←Nat.pow_add];refine bI (by decide) ?_;have:b*k=b*j+b*(k-j):=by rw[←Nat.mul_add];congr 1;lia
  lia
 have h2:=QV h1;rw[HL]at h2;refine aR h2 ?_;rw[show A+B+3+b*k=3+(A+B+b*k) by lia,Nat.pow_add 2 3];exact Nat.mul_le_mul_right _ (by lia)
theorem UK{X:Nat→Nat→Int}{nn k a b:Nat}(hk:k≤7)(h:∀u j,u<nn→j≤k→(X u j).natAbs≤2^(a+b*j)):∀(n:Nat) (ps:List Int),B0 nn ps→ps.sum=(n:Int)→∀j,j≤k→(DX X ps j).natAbs≤2^((a+3)*n+b*j)
 |0,ps,o,hs,j,hj=>by
  rw[Lh (by lia)];split
  ·exact Nat.one_le_two_pow
  ·exact ak _
 |n+1,ps,o,hs,j,hj=>by
  have h0:ps.sum≠0:=by lia
  obtain⟨f1,_⟩:=FZ h0;rw[Ly o h0];have:=YJ (A:=(a+3)*n) (B:=a) (b:=b) (k:=j) (by lia) (fun i hi=>UK hk h n _ (o.low h0) (by rw[sum_set _ _ f1];lia) i (by lia)) (fun i hi=>h (fu ps) i (by rw[←o.len];exact f1) (by lia));rw[show(a+3)*(n+1)+b*j=(a+3)*n+a+3+b*j by rw[Nat.mul_succ];lia];exact this
theorem R9{X:Nat→Nat→Int}{nn k a b:Nat}(hk:k≤7)(h:∀u j,u<nn→j≤k→(X u j).natAbs≤2^(a+b*j)){ps:List Int}(o:B0 nn ps):(DX X ps k).natAbs≤2^(3*(a+3)+b*k):=by
 have h0:=Bi o.nn;have h3:=o.s3;refine aR (UK hk h ps.sum.toNat ps o (by lia) k (aG _)) (bI (by decide) ?_);have:(a+3)*ps.sum.toNat≤(a+3)*3:=aY _ (by lia)
 lia
theorem UZ{X:Nat→Nat→Int}{nn k a b c:Nat}(hk:k≤7)(h:∀u j,u<nn→j≤k→(X u j).natAbs≤2^(a+b*j)){us:List Aa}(hl:us.length≤16)(hu:∀z∈us,B0 nn z.1∧z.2.num.natAbs≤2^c):(FU X us k).natAbs≤2^(13+c+3*a+b*k):=by
 unfold FU;have h1:∀x∈us.map fun m=>m.2.num*DX X m.1 k,x.natAbs≤2^(c+(3*(a+3)+b*k)):=fun x hx=>by
  obtain⟨z,hz,rfl⟩:=aQ.mp hx;obtain⟨o,hc⟩:=hu z hz;rw[Int.natAbs_mul,Nat.pow_add];exact Nat.mul_le_mul hc (R9 hk h o)
 have h2:=QV h1;rw[List.length_map]at h2;refine aR h2 ?_;rw[show 13+c+3*a+b*k=4+(c+(3*(a+3)+b*k)) by lia,Nat.pow_add 2 4];exact Nat.mul_le_mul_right _ hl
theorem K2{x0:Nat→Int}{uss:List (List Aa)}{F:Int}{nn a b c f:Nat}(hl:uss.length=nn)(hx:∀u,u<nn→(x0 u).natAbs≤2^a)(hus:∀us∈uss,us.length≤16∧∀z∈us,B0 nn z.1∧z.2.num.natAbs≤2^c)
 (hF:F.natAbs≤2^f)(hb:13+c+f+2*a≤b):∀k,k≤8→∀u j,u<nn→j≤k→(grow x0 uss F u j).natAbs≤2^(a+b*j)
 |0,_,u,j,hu,hj=>by
  rw[Nat.le_zero.mp hj];exact hx u hu
 |k+1,hk,u,j,hu,hj=>by
  rcases Nat.lt_or_eq_of_le hj with h|h
  ·exact K2 hl hx hus hF hb k (by lia) u j hu (by lia)
  ·subst h;have hum:uss.getD u []∈uss:=by rw[List.getD_eq_getElem?_getD,List.getElem?_eq_getElem (show u<uss.length by lia)];exact ax _
   obtain⟨l16,hz⟩:=hus _ hum;have h1:=UZ (X:=grow x0 uss F) (k:=k) (by lia) (fun u j hu hj=>K2 hl hx hus hF hb k (by lia) u j hu hj) l16 hz;rw[J6,Int.natAbs_mul];refine aR (Nat.mul_le_mul h1 (aR (FM.BI _ _) hF)) ?_;rw[←Nat.pow_add];refine bI (by decide) ?_;rw[Nat.mul_succ]
   lia
theorem FI{x m n:Nat}(h:x≤2^m)(hm:m<n):x<2^n:=aP h (Nat.pow_lt_pow_right (by decide) hm)
theorem dB{uss:List (List Aa)}{x0:List Int}{F:Int}{most nn a c f:Nat}(n4:nn≤4)(hl:uss.length=nn)(hxl:x0.length=nn)(hm:most≤7)(hx:∀x∈x0,x.natAbs≤2^a)(hus:∀us∈uss,us.length≤12∧∀z∈us,B0 nn z.1∧z.2.num.natAbs≤2^c)
 (hF:F.natAbs≤2^f)(hsz:14+c+3*a+8*(13+c+f+2*a)+f≤4000):V6 uss x0 F most nn (14+c+3*a+8*(13+c+f+2*a)+f):=by
 have hg:=K2 (x0:=(x0.getD · 0)) (b:=13+c+f+2*a) hl (fun u hu=>by
  show(x0.getD u 0).natAbs≤_;rw[List.getD_eq_getElem?_getD,List.getElem?_eq_getElem (show u<x0.length by lia)];exact hx _ (ax _)) (fun us hu=>⟨by have:=(hus us hu).1;lia,(hus us hu).2⟩) hF (aG _) 8 (aG _)
 have hb7:∀k,k≤7→(13+c+f+2*a)*k≤7*(13+c+f+2*a):=fun k hk=>by rw[Nat.mul_comm];exact Nat.mul_le_mul_right _ hk
 have h7:∀k,k≤7→∀u j,u<nn→j≤k→(grow (x0.getD · 0) uss F u j).natAbs≤2^(a+(13+c+f+2*a)*j):=fun k hk u j hu hj=>hg u j hu (by lia);refine⟨n4,hl,hxl,by lia,fun us hu=>by have:=(hus us hu).1;lia,fun us hu z hz=>((hus us hu).2 z hz).1,fun us hu z hz=>FI ((hus us hu).2 z hz).2 (by lia),fun u k hu hk=>FI (hg u k hu (by lia)) ?_,fun ps o k hk=>FI (R9 (k:=k) (by lia) (h7 k (by lia)) o) ?_,fun us hu k hk=>FI (UZ (k:=k) (by lia) (h7 k (by lia)) (by have:=(hus us hu).1;lia) (hus us hu).2) ?_,FI hF (by lia),hsz⟩
 ·have:=hb7 k (by lia);lia
 ·have:=hb7 k (by lia);lia
 ·have:=hb7 k (by lia);lia
def FC:PyData→Bool
 |.int i=>decide (0≤i)
 |_=>false
def Eg(n:Int):PyData→Bool
 |.tuple ds=>decide ((ds.length:Int)=n)&&ds.all FC
 |_=>false
def Yr:PyData→Int
 |.tuple (.int a::_)=>a
 |_=>0
def Eb(n:Int):PyData→Bool
 |.tuple [p,f]=>Eg n p&&(C2 f && !decide (Yr f=0))
 |_=>false
def intD:PyData→Int
 |.int i=>i
 |_=>0
def O0:PyData→List Int
 |.tuple ds=>ds.map intD
 |_=>[]
def P0:PyData→List Int
 |.tuple (p::_)=>O0 p
 |_=>[]
def Fc(n:Int)(ds:List PyData)(k:Nat):Bool:=match ds[k]? with
 |some d=>Eb n d&&(decide (k=0)||(match ds[k-1]? with
  |some e=>IT.lt (P0 d) (P0 e)
  |none=>true))
 |none=>true
def EB(n:Int):PyData→Bool
 |.list ds=>(List.range ds.length).all (Fc n ds)
 |_=>false
def KJ:PyData→Bool
 |.list ds=>!decide (ds.length=0)&&ds.all (EB ds.length)
 |_=>false
theorem X6{n:Int}{d:PyData}(h:Cm d=false):Eg n d=false:=by cases d<;>first|rfl|exact absurd h (by simp[Cm])
theorem V9{n:Int}{d:PyData}(h:Cm d=false):Eb n d=false:=by cases d<;>first|rfl|exact absurd h (by simp[Cm])
theorem Wk{n:Int}{d:PyData}(h:CG d=false):EB n d=false:=by cases d<;>first|rfl|exact absurd h (by simp[CG])
theorem YT{d:PyData}(h:CG d=false):KJ d=false:=by cases d<;>first|rfl|exact absurd h (by simp[CG])
theorem VZ{n:Int}{ds:List PyData}(h:ds.length≠2):Eb n (.tuple ds)=false:=by
 match ds,h with
 |[],_=>rfl
 |[_],_=>rfl
 |[_,_],h=>exact absurd rfl h
 |_::_::_::_,_=>rfl
def a9:Sp:=fun vs H Q _=>∃l d v n,vs=[v,.int n]∧Dt l H d v∧Q (.bl (Eg n d)) H
def Yz:Sp:=fun vs H Q _=>∃l d v n,vs=[v,.int n]∧Dt l H d v∧Q (.bl (Eb n d)) H
def Y0:Sp:=fun vs H Q _=>∃l d v n,vs=[v,.int n]∧Dt l H d v∧∀H',AG H H'→Q (.bl (EB n d)) H'
def Xm:Sp:=fun vs H Q _=>∃l d v,vs=[v]∧Dt l H d v∧∀H',AG H H'→Q (.bl (KJ d)) H'
section
variable{P:Program}{w:World}{K:PySem.W.Frag}{mg:Str→Option Value}{base:Heap}{f g1 g2:Addr}{fd gd1 gd2:FuncData}
theorem Oh:Ad ["thing", "unknowns", "power"] ["thing", "unknowns"] (AM HV):=⟨rfl,rfl,rfl,by decide +kernel,rfl,by decide +kernel,by decide +kernel⟩
theorem Ox(F:Fn K mg "are_powers" HV ["thing", "unknowns"] f fd)(Cw:Fn K mg "is_whole" G7 ["thing"] g1 gd1)
 (G6:AL P w K mg base Ac 1 g1 gd1 ["thing"] O6)(AR:mg "isinstance" = none)(Bd:mg "tuple" = none)(BD:mg "len" = none):AL P w K mg base Ac 2 f fd ["thing", "unknowns"] a9:=by
 have sc:=Oh;refine F.F.ok (k:=1) sc (fun vs H Q E h=>?_) (fun cdv A outer s H vs Q E hr h=>?_)
 ·obtain⟨l,d,v,n,rfl,_⟩:=h
  rfl
 obtain⟨l,d,v,n,rfl,hd,q⟩:=h;refine⟨_,(AB (BK (PW.pt (EI (CI (Bx (Ai BU rfl AR aM (AA (pv 0) (AA (Bm (v:=.ty "tuple") rfl Bd bG rfl) AD))))) (DM (Au GH (Ai BW rfl BD av (AA (pv 0) AD)) (pv 1) (Ao _)))))
  (AF (Af CL))
  Ax)
 (AB (Bf aK rfl (Ub (pv 0)) (Al (i:=2) sc.nd rfl (Or.inl rfl))
  (AF (BK (PW.pt (EI (CI (Bx (Aj Cw G6 hr rfl (AA (pv 2) AD)))) (DM (Au Ma (pv 2) AH (Ao _)))))
   (AF (Af CL))
   Ax)))
 (AF (Af CL)))),?_⟩
 refine⟨_,rfl,_,_,_,_,rfl,ES,hd.ty,Dl K d hd.nodict,_,rfl,?_⟩;by_cases hL:Cm d=false
 ·rw[hL];rw[X6 hL]at q;exact BV (BV q)
 have hL:Cm d=true:=by simpa using hL
 rw[hL];refine Cr ?_;obtain⟨ds,rfl⟩:=QY hL;rw[Dt]at hd;obtain⟨a,xs,rfl,na,ha,ht⟩:=hd;have hlen:=ht.len;refine⟨_,rfl,a,xs,rfl,.inr (Ap.of ha),_,rfl,rfl,_,rfl,BQ (fun c=>?_) (fun c=>?_)⟩
 ·have hne:¬(ds.length:Int)=n:=by
   rw[←hlen];intro z;rw[z]at c;simp at c
  rw[Eg,decide_eq_false hne,Bool.false_and]at q;exact q
 have hn:(ds.length:Int)=n:=by
  rw[←hlen];by_cases z:(xs.length:Int)=n
  ·exact z
  ·exact absurd (by simp[z]) c
 rw[Eg,decide_eq_true hn,Bool.true_and]at q;refine⟨_,rfl,a,rfl,⟨_,Ap.of ha⟩,YS (xs:=xs) (fun i σ H'=>∃r1,σ=[some (.ref a),some (.int n),r1]∧H=H'∧∀j c,j<i→ds[j]? = some c→FC c=true) ?_ ?_ ?_ ?_⟩
 ·exact⟨_,rfl,rfl,fun j c h=>absurd h (Nat.not_lt_zero _)⟩
 ·rintro i σ H' _ ⟨r1,rfl,rfl,_⟩;exact Ap.of ha
 ·rintro i x σ H' hx ⟨r1,rfl,rfl,hf⟩;obtain⟨c,hc,tc⟩:=ht.get hx;have no:FC c=false→ds.all FC=false:=fun z=>ar.mpr fun y=>by
   rw[List.all_eq_true]at y;rw[y c (aL hc)]at z;cases z
  have next:FC c=true→∃r1,[some (V.ref a),some (V.int n),some x]=[some (.ref a),some (.int n),r1]∧H=H∧∀j c,j<i+1→ds[j]? = some c→FC c=true:=fun hb=>by
   refine⟨_,rfl,rfl,fun j e hj he=>?_⟩;by_cases z:j=i
   ·subst z;rw[hc]at he;cases he;exact hb
   ·exact hf j e (by lia) he
  refine⟨_,rfl,l,c,x,rfl,tc,_,rfl,BQ (fun b=>?_) (fun b=>?_)⟩
  ·have:FC c=false:=by cases c<;>first|rfl|(simp[Gg,FJ]at b)
   rw[no this]at q;exact BV q
  ·obtain⟨i',rfl⟩:=Kg (d:=c) (by simpa using b);rw[Dt]at tc;subst tc;refine⟨_,rfl,_,_,rfl,rfl,_,rfl,BQ (fun b=>?_) (fun b=>?_)⟩
   ·have:FC (.int i')=false:=by
     have:=aj b;rw[FC];exact bL (by lia)
    rw[no this]at q;exact q
   ·have:FC (.int i')=true:=by
     have:=bN (ar.mpr b);rw[FC];exact bP (by lia)
    exact next this
 ·rintro σ H' ⟨r1,rfl,rfl,hf⟩;have e:ds.all FC=true:=by
   rw[List.all_eq_true];intro c hc;obtain⟨j,hj⟩:=bJ hc;exact hf j c (by rw[hlen];exact(aC.mp hj).1) hj
  rw[e]at q;exact q
theorem Ti:Ad ["thing", "unknowns"] ["thing", "unknowns"] (AM KI):=⟨rfl,rfl,rfl,by decide +kernel,rfl,by decide +kernel,by decide +kernel⟩
theorem T1(F:Fn K mg "is_term" KI ["thing", "unknowns"] f fd)(Fs:Fn K mg "are_powers" HV ["thing", "unknowns"] g1 gd1)(CP:Fn K mg "is_fraction" Er ["thing"] g2 gd2)
 (Qt:AL P w K mg base Ac 2 g1 gd1 ["thing", "unknowns"] a9)(Gu:AL P w K mg base Ac 2 g2 gd2 ["thing"] Q6)(AR:mg "isinstance" = none)(Bd:mg "tuple" = none)(BD:mg "len" = none):AL P w K mg base Ac 3 f fd ["thing", "unknowns"] Yz:=by
 have sc:=Ti;refine F.F.ok (k:=2) sc (fun vs H Q E h=>?_) (fun cdv A outer s H vs Q E hr h=>?_)
 ·obtain⟨l,d,v,n,rfl,_⟩:=h
  rfl
 obtain⟨l,d,v,n,rfl,hd,q⟩:=h;refine⟨_,(AB (BK (PW.pt (EI (CI (Bx (Ai BU rfl AR aM (AA (pv 0) (AA (Bm (v:=.ty "tuple") rfl Bd bG rfl) AD))))) (EI (Au GH (Ai BW rfl BD av (AA (pv 0) AD)) AH (Ao _)) (DM (CI (Bx (Aj Fs Qt hr rfl (AA (BG CH (pv 0) AH (fun _ _=>rfl)) (AA (pv 1) AD)))))))))
  (AF (Af CL))
  Ax)
 (AF (Af (Kv (Aj CP Gu hr rfl (AA (BG CH (pv 0) AH (fun _ _=>rfl)) AD)) (Mr (F4 GH (BG CH (BG CH (pv 0) AH (fun _ _=>rfl)) AH (fun _ _=>rfl)) AH (Ao _))))))),?_⟩
 refine⟨_,rfl,_,_,_,_,rfl,ES,hd.ty,Dl K d hd.nodict,_,rfl,?_⟩;by_cases hL:Cm d=false
 ·rw[hL];rw[V9 hL]at q;exact BV (BV q)
 have hL:Cm d=true:=by simpa using hL
 rw[hL];refine Cr ?_;obtain⟨ds,rfl⟩:=QY hL;rw[Dt]at hd;obtain⟨a,xs,rfl,na,ha,hx⟩:=hd;have hlen:=hx.len;have s1:Ap K H a xs:=Ap.of ha;refine⟨_,rfl,a,xs,rfl,.inr s1,rfl,_,rfl,BQ (fun c=>?_) (fun c=>?_)⟩
 ·have:ds.length≠2:=by
   rw[←hlen];intro z;rw[z]at c;exact absurd c (by decide)
  rw[VZ this]at q;exact BV q
 have h2:xs.length=2:=by
  by_cases z:xs.length=2
  ·exact z
  ·exfalso
   refine c ?_;have:¬(V.int (xs.length:Nat)=V.int 2):=by simp;lia
   rw[decide_eq_false this];rfl
 obtain⟨d0,d1,rfl⟩:∃d0 d1,ds=[d0,d1]:=by
  match ds,(show ds.length=2 by lia) with
  |[x,y],_=>exact⟨x,y,rfl⟩
 rw[AO]at hx;obtain⟨x0,r,rfl,hx0,hx⟩:=hx;rw[AO]at hx;obtain⟨x1,r,rfl,hx1,hx⟩:=hx;rw[AO]at hx;subst hx;rw[Eb]at q;refine⟨_,rfl,_,_,_,_,rfl,rfl,s1,rfl,_,rfl,l,d0,x0,n,rfl,hx0,_,rfl,BQ (fun c0=>?_) (fun c0=>?_)⟩
 ·have:Eg n d0=false:=by simpa using c0
  rw[this,Bool.false_and]at q;exact q
 have hp:Eg n d0=true:=by simpa using c0
 rw[hp,Bool.true_and]at q;refine⟨_,rfl,_,_,_,_,rfl,rfl,s1,rfl,l,d1,x1,rfl,hx1,_,rfl,BQ (fun c1=>?_) (fun c1=>?_)⟩
 ·rw[c1,Bool.true_and]at q;obtain⟨i,j,rfl⟩:∃i j,d1=.tuple [.int i,.int j]:=by
   unfold C2 at c1;split at c1
   ·exact⟨_,_,rfl⟩
   ·cases c1
  rw[Dt]at hx1;obtain⟨b,ys,rfl,nb,hb,hy⟩:=hx1;rw[AO]at hy;obtain⟨y0,r,rfl,hy0,hy⟩:=hy;rw[AO]at hy;obtain⟨y1,r,rfl,hy1,hy⟩:=hy;rw[AO]at hy;subst hy;rw[Dt]at hy0;subst hy0;refine⟨_,rfl,_,_,_,_,rfl,rfl,s1,rfl,_,_,_,_,rfl,rfl,Ap.of hb,rfl,rfl,?_⟩;rw[Yr]at q;have e:decide (V.int i=V.int 0)=decide (i=0):=by rw[Bool.eq_iff_iff];simp
  show Q (.bl (!decide (V.int i=V.int 0))) H;rw[e];exact q
 ·rw[Bool.eq_false_iff.mpr c1,Bool.false_and]at q;exact q
theorem TN:Ad ["thing", "unknowns", "k", "term"] ["thing", "unknowns"] (AM Ka):=⟨rfl,rfl,rfl,by decide +kernel,rfl,by decide +kernel,by decide +kernel⟩
theorem Vc{l:Addr}{H:Hp}{n:Int}{d:PyData}{v:V}(h:Dt l H d v)(k:Eg n d=true):∃a,v=.ref a∧H a=some (.tup ((O0 d).map V.int)):=by
 cases d with
 |tuple ds =>
  rw[Eg,Bool.and_eq_true]at k;rw[Dt]at h;obtain⟨a,xs,rfl,na,ha,hx⟩:=h;refine⟨a,rfl,?_⟩;rw[ha]
  congr 2
  rw[O0];clear ha
  replace k:=k.2
  induction ds generalizing xs with
  |nil=>rw[AO]at hx;subst hx;rfl
  |cons d ds ih =>
   rw[AO]at hx;obtain⟨x,r,rfl,h1,h2⟩:=hx;rw[List.all_cons,Bool.and_eq_true]at k;rw[List.map_cons,List.map_cons,←ih r h2 k.2]
   congr 1
   cases d<;>first|(rw[Dt]at h1;subst h1;rfl)|(have:=k.1;simp[FC]at this)
 |none=>simp[Eg]at k
 |bool _=>simp[Eg]at k
 |int _=>simp[Eg]at k
 |str _=>simp[Eg]at k
 |list _=>simp[Eg]at k
 |dict _=>simp[Eg]at k
theorem Pc{l:Addr}{H:Hp}{n:Int}{d:PyData}{v:V}(h:Dt l H d v)(k:Eb n d=true):∃a b c,v=.ref a∧H a=some (.tup [.ref b,c])∧H b=some (.tup ((P0 d).map V.int)):=by
 unfold Eb at k;split at k
 ·rename_i p f;rw[Bool.and_eq_true]at k;rw[Dt]at h;obtain⟨a,xs,rfl,na,ha,hx⟩:=h;rw[AO]at hx;obtain⟨x0,r,rfl,hx0,hx⟩:=hx;rw[AO]at hx;obtain⟨x1,r,rfl,hx1,hx⟩:=hx;rw[AO]at hx;subst hx;obtain⟨b,rfl,hb⟩:=Vc hx0 k.1;exact⟨a,b,x1,rfl,ha,hb⟩
 ·cases k
theorem Th(F:Fn K mg "is_poly" Ka ["thing", "unknowns"] f fd)(IE:Fn K mg "is_term" KI ["thing", "unknowns"] g1 gd1)
 (Uk:AL P w K mg base Ac 3 g1 gd1 ["thing", "unknowns"] Yz)(AR:mg "isinstance" = none)(BR:mg "list" = none)(D3:mg "enumerate" = none):AL P w K mg base Ac 4 f fd ["thing", "unknowns"] Y0:=by
 have sc:=TN;refine F.F.ok (k:=3) sc (fun vs H Q E h=>?_) (fun cdv A outer s H vs Q E hr h=>?_)
 ·obtain⟨l,d,v,n,rfl,_⟩:=h
  rfl
 obtain⟨l,d,v,n,rfl,hd,q⟩:=h;refine⟨_,(AB (BK (CI (Bx (Ai BU rfl AR aM (AA (pv 0) (AA (Bm (v:=.ty "list") rfl BR ae rfl) AD)))))
  (AF (Af CL))
  Ax)
 (AB (Bf aK rfl (RA rfl D3 (AA (pv 0) AD)) (En rfl (BH (Al (i:=2) sc.nd rfl (Or.inl rfl)) (BH (Al (i:=3) sc.nd rfl (Or.inl rfl)) D7)))
  (AF (BK (PW.pt (EI (CI (Bx (Aj IE Uk hr rfl (AA (pv 3) (AA (pv 1) AD))))) (DM (PW.pt (Zv (Au MP (pv 2) AH (Ao _)) (SX (Au (b4 (by have:=hr.units;exact this)) (BG CH (pv 3) AH (fun _ _=>rfl)) (BG CH (BG D6 (pv 0) (Ab EW (pv 2) AH) (fun _ _=>rfl)) AH (fun _ _=>rfl)) (Ao _))))))))
   (AF (Af CL))
   Ax)))
 (AF (Af CL)))),?_⟩
 refine⟨_,rfl,_,_,_,_,rfl,ES,hd.ty,CT K d hd.nodict,_,rfl,?_⟩;by_cases hL:CG d=false
 ·rw[hL];have:=q H (.refl H);rw[Wk hL]at this;exact BV this
 have hL:CG d=true:=by simpa using hL
 rw[hL];refine Cr ?_;obtain⟨ds,rfl⟩:=Lk hL;rw[Dt]at hd;obtain⟨a,xs,rfl,na,ha,ht⟩:=hd;have hlen:=ht.len;refine⟨_,rfl,a,rfl,⟨_,AQ.of ha⟩,Vd (xs:=xs) (fun i σ H'=>∃r1 r2,σ=[some (.ref a),some (.int n),r1,r2]∧AG H H'∧∀j,j<i→Fc n ds j=true) ?_ ?_ ?_ ?_⟩
 ·exact⟨_,_,rfl,.refl _,fun j h=>absurd h (Nat.not_lt_zero _)⟩
 ·rintro i σ H' _ ⟨r1,r2,rfl,e,_⟩;exact AQ.of (e _ _ ha)
 ·rintro i x σ H0 hx ⟨r1,r2,rfl,e0,hf⟩ p hp;obtain⟨c,hc,tc⟩:=ht.get hx;have hi:i<ds.length:=(aC.mp hc).1;have s1:=AN hp (.tup [.int (i:Nat),x]);have e1:=e0.trans s1;have hp':(upd H0 p (.tup [.int (i:Nat),x])) p=some (.tup [.int (i:Nat),x]):=AI;generalize upd H0 p (.tup [.int (i:Nat),x])=H1 at s1 e1 hp';have tc:=tc.same e1;have no:Fc n ds i=false→Q (.bl false) H1:=fun z=>by
   have:=q H1 e1;have e:EB n (.list ds)=false:=ar.mpr fun y=>by
    rw[EB,List.all_eq_true]at y;rw[y i (au.mpr hi)]at z;cases z
   rw[e]at this;exact this
  have next:Fc n ds i=true→∃r1 r2,[some (V.ref a),some (V.int n),some (V.int (i:Nat)),some x]=[some (.ref a),some (.int n),r1,r2]∧AG H H1∧∀j,j<i+1→Fc n ds j=true:=fun z=>by
   refine⟨_,_,rfl,e1,fun j hj=>?_⟩;by_cases zz:j=i
   ·subst zz;exact z
   ·exact hf j (by lia)
  have tA:Fc n ds i=(Eb n c&&(decide (i=0)||(match ds[i-1]? with
    |some e=>IT.lt (P0 c) (P0 e)
    |none=>true))):=by unfold Fc;rw[hc];all_goals rfl
  refine⟨p,_,rfl,Ap.of hp',rfl,_,_,rfl,_,_,rfl,rfl,?_⟩;refine⟨_,rfl,_,rfl,l,c,x,n,rfl,tc,_,rfl,BQ (fun b=>?_) (fun b=>?_)⟩
  ·have hb:Eb n c=false:=by simpa using b
   exact BV (no (by rw[tA,hb,Bool.false_and]))
  have hb:Eb n c=true:=by simpa using b
  rw[hb,Bool.true_and]at tA;refine⟨_,rfl,_,_,rfl,rfl,_,rfl,BQ (fun b=>?_) (fun b=>?_)⟩
  ·have hi0:0<i:=by have:=aj b;lia
   rw[decide_eq_false (show ¬i=0 by lia),Bool.false_or]at tA;have hx':xs[i-1]? = some (xs[i-1]'(by lia)):=by simp[show i-1<xs.length by lia]
   obtain⟨e,he,te⟩:=ht.get hx';have hpe:Eb n e=true:=by
    have:=hf (i-1) (by lia);unfold Fc at this;rw[he]at this;rw[Bool.and_eq_true]at this;exact this.1
   generalize xs[i-1]'(by lia)=v1 at hx' te;obtain⟨a1,b1,c1,rfl,ha1,hb1⟩:=Pc (te.same e1) hpe;obtain⟨a2,b2,c2,rfl,ha2,hb2⟩:=Pc tc hb;have hat:Cy xs ((i:Int)-1)=some (.ref a1):=by
    have:=HI (xs:=xs) (j:=i-1) hx'
    rwa [show((i-1:Nat):Int)=(i:Int)-1 by lia]at this
   rw[he]at tA;refine⟨_,rfl,_,_,_,_,rfl,rfl,Ap.of ha2,rfl,_,rfl,_,rfl,_,_,rfl,rfl,_,_,_,_,rfl,rfl,AQ.of (e1 _ _ ha),hat,_,_,_,_,rfl,rfl,Ap.of ha1,rfl,b2,b1,_,_,rfl,rfl,hb2,hb1,_,rfl,BQ (fun z=>?_) (fun z=>?_)⟩
   ·exact no (by rw[tA];simpa using z)
   ·exact next (by rw[tA];simpa using z)
  ·have hi0:i=0:=by have:=bN (ar.mpr b);lia
   exact Cr (next (by rw[tA,decide_eq_true hi0,Bool.true_or]))
 ·rintro σ H' ⟨r1,r2,rfl,e1,hf⟩;have:=q H' e1;have e:EB n (.list ds)=true:=by
   rw[EB,List.all_eq_true];intro j hj;exact hf j (by rw[hlen];exact au.mp hj)
  rw[e]at this;exact this
theorem PH:Ad ["thing", "some"] ["thing"] (AM IX):=⟨rfl,rfl,rfl,by decide +kernel,rfl,by decide +kernel,by decide +kernel⟩
theorem Pg(F:Fn K mg "is_change" IX ["thing"] f fd)(IK:Fn K mg "is_poly" Ka ["thing", "unknowns"] g1 gd1)
 (UJ:AL P w K mg base Ac 4 g1 gd1 ["thing", "unknowns"] Y0)(AR:mg "isinstance" = none)(BR:mg "list" = none)(BD:mg "len" = none):AL P w K mg base Ac 5 f fd ["thing"] Xm:=by
 have sc:=PH;refine F.F.ok (k:=4) sc (fun vs H Q E h=>?_) (fun cdv A outer s H vs Q E hr h=>?_)
 ·obtain⟨l,d,v,rfl,_⟩:=h
  rfl
 obtain⟨l,d,v,rfl,hd,q⟩:=h;refine⟨_,(AB (BK (PW.pt (EI (CI (Bx (Ai BU rfl AR aM (AA (pv 0) (AA (Bm (v:=.ty "list") rfl BR ae rfl) AD))))) (DM (Au Fi (Ai BW rfl BD av (AA (pv 0) AD)) AH (Ao _)))))
  (AF (Af CL))
  Ax)
 (AB (Bf aK rfl (BB (pv 0)) (Al (i:=1) sc.nd rfl (Or.inl rfl))
  (AF (BK (CI (Bx (Aj IK UJ hr rfl (AA (pv 1) (AA (Ai BW rfl BD av (AA (pv 0) AD)) AD)))))
   (AF (Af CL))
   Ax)))
 (AF (Af CL)))),?_⟩
 refine⟨_,rfl,_,_,_,_,rfl,ES,hd.ty,CT K d hd.nodict,_,rfl,?_⟩;by_cases hL:CG d=false
 ·rw[hL];have:=q H (.refl H);rw[YT hL]at this;exact BV (BV this)
 have hL:CG d=true:=by simpa using hL
 rw[hL];refine Cr ?_;obtain⟨ds,rfl⟩:=Lk hL;rw[Dt]at hd;obtain⟨a,xs,rfl,na,ha,ht⟩:=hd;have hlen:=ht.len;refine⟨_,rfl,a,xs,rfl,.inl (AQ.of ha),rfl,_,rfl,BQ (fun c=>?_) (fun c=>?_)⟩
 ·have:ds.length=0:=by rw[←hlen];have:=aj c;simpa using this
  have q:=q H (.refl H);rw[KJ,decide_eq_true this,Bool.not_true,Bool.false_and]at q;exact q
 have h0:¬ds.length=0:=by
  rw[←hlen];intro z;exact c (by simp[z])
 rw[KJ,decide_eq_false h0,Bool.not_false,Bool.true_and]at q;refine⟨_,rfl,a,rfl,⟨_,AQ.of ha⟩,B6 (xs:=xs) (fun i σ H'=>∃r1,σ=[some (.ref a),r1]∧AG H H'∧∀j c,j<i→ds[j]? = some c→EB ds.length c=true) ?_ ?_ ?_ ?_⟩
 ·exact⟨_,rfl,.refl _,fun j c h=>absurd h (Nat.not_lt_zero _)⟩
 ·rintro i σ H' _ ⟨r1,rfl,e,_⟩;exact AQ.of (e _ _ ha)
 ·rintro i x σ H1 hx ⟨r1,rfl,e1,hf⟩;obtain⟨c,hc,tc⟩:=ht.get hx;refine⟨_,rfl,_,rfl,a,xs,rfl,.inl (AQ.of (e1 _ _ ha)),l,c,x,_,rfl,tc.same e1,fun H2 e2=>⟨_,rfl,BQ (fun b=>?_) (fun b=>?_)⟩⟩
  ·have hb:EB ds.length c=false:=by rw[←hlen];simpa using b
   have:=q H2 (e1.trans e2);have e:ds.all (EB ds.length)=false:=ar.mpr fun y=>by
    rw[List.all_eq_true]at y;rw[y c (aL hc)]at hb;cases hb
   rw[e]at this;exact this
  ·have hb:EB ds.length c=true:=by rw[←hlen];simpa using b
   refine⟨_,rfl,e1.trans e2,fun j e hj he=>?_⟩;by_cases z:j=i
   ·subst z;rw[hc]at he;cases he;exact hb
   ·exact hf j e (by lia) he
 ·rintro σ H' ⟨r1,rfl,e1,hf⟩;have e:ds.all (EB ds.length)=true:=by
   rw[List.all_eq_true];intro c hc;obtain⟨j,hj⟩:=bJ hc;exact hf j c (by rw[hlen];exact(aC.mp hj).1) hj
  have:=q H' e1;rw[e]at this;exact this
end
def RC:Sp:=fun vs H Q _=>∃(v:V) (d:PyData),vs=[v]∧DU H d v∧KJ d=true∧∀H',AG H H'→Q .BA H'
def MX:Sp:=fun vs H Q _=>∃(S:Addr) (xs:List V) (rs:List Rat),vs=[.ref S,.int (rs.length:Nat)]∧H S=some (.lst xs)∧Ay H (AZ rs) xs∧Q .BA H
theorem cb{X:Cx}{e:Expr}:PE X e (fun _ _ _=>False):=fun _ _ _ _ _ _ z=>z.elim
section
variable{P:Program}{w:World}{K:PySem.W.Frag}{mg:Str→Option Value}{base:Heap}{f g1:Addr}{fd gd1:FuncData}
theorem Jv:Ad ["thing"] ["thing"] (AM EL):=⟨rfl,rfl,rfl,by decide +kernel,rfl,by decide +kernel,by decide +kernel⟩
theorem Ju(F:Fn K mg "refuse_no_change" EL ["thing"] f fd)(GI:Fn K mg "is_change" IX ["thing"] g1 gd1)
 (Rj:AL P w K mg base Ac 6 g1 gd1 ["thing"] Xm):AL P w K mg base Ac 7 f fd ["thing"] RC:=by
 have sc:=Jv;refine F.F.ok (k:=6) sc (fun vs H Q E h=>?_) (fun cdv A outer s H vs Q E hr h=>?_)
 ·obtain⟨v,d,rfl,_⟩:=h
  rfl
 obtain⟨v,d,rfl,⟨N,b⟩,hd,q⟩:=h;refine⟨_,(AF (BK (CI (Bx (Aj GI Rj hr rfl (AA (pv 0) AD))))
  (AF Ls)
  Ax)),?_⟩
 refine⟨_,rfl,N,d,v,rfl,b N (aG _),fun H' e=>?_⟩;rw[hd];exact⟨_,rfl,Cr (q H' e)⟩
theorem KQ:Ad ["thing", "unknowns"] ["thing", "unknowns"] (AM Eh):=⟨rfl,rfl,rfl,by decide +kernel,rfl,by decide +kernel,by decide +kernel⟩
theorem Kn(F:Fn K mg "refuse_no_start" Eh ["thing", "unknowns"] f fd)(EC:Fn K mg "are_fractions" Fh ["thing"] g1 gd1)
 (MJ:AL P w K mg base Ac 4 g1 gd1 ["thing"] Sw)(BD:mg "len" = none):AL P w K mg base Ac 5 f fd ["thing", "unknowns"] MX:=by
 have sc:=KQ;refine F.F.ok (k:=4) sc (fun vs H Q E h=>?_) (fun cdv A outer s H vs Q E hr h=>?_)
 ·obtain⟨S,xs,rs,rfl,_⟩:=h
  rfl
 obtain⟨S,xs,rs,rfl,hS,dx,q⟩:=h;have hxl:xs.length=rs.length:=by rw[dx.len,Kl]
 refine⟨_,(AF (BK (PW.pt (EI (CI (Bx (Aj EC MJ hr rfl (AA (pv 0) AD)))) (DM (Au GH (Ai BW rfl BD av (AA (pv 0) AD)) (pv 1) (Ao _)))))
  (AF (DY cb))
  Ax)),?_⟩
 obtain⟨N,b⟩:=DU.lst hS dx;have ha:GR (.list (AZ rs))=true:=by rw[GR,List.all_eq_true];exact WN rs
 refine⟨_,rfl,N,.list (AZ rs),.ref S,rfl,b N (aG _),?_⟩;rw[ha];refine⟨_,rfl,Cr ⟨_,rfl,S,xs,rfl,.inl (AQ.of hS),_,rfl,rfl,_,rfl,?_⟩⟩;rw[hxl,show(!decide (V.int (rs.length:Nat)=V.int (rs.length:Nat)))=false by simp];exact Cr q
end
abbrev Dk(uss:List (List Aa))(rs:List Rat)(most:Nat):Int:=K4 uss (Ag rs)*B2 most
def FW(uss:List (List Aa))(rs:List Rat)(most:Nat):Nat→Nat→Int:=grow ((Ba rs (Ag rs)).getD · 0) (Ek (Ag rs) uss) (B2 most)
def MF(uss:List (List Aa))(rs:List Rat)(most:Nat):List (List Rat):=(List.range uss.length).map fun u=>Ae (NH (FW uss rs most u) (Dk uss rs most) (Ag rs)) (most+1)
structure Bk(uss:List (List Aa))(rs:List Rat)(most nn:Nat):Prop where
 n4:nn≤4
 len:uss.length=nn
 Ib:rs.length=nn
 Jp:most≤7
 fit:∀us∈uss,us.length≤12∧∀m∈us,FM.Fits m.2 4
 pw:∀us∈uss,∀m∈us,B0 nn m.1
 PZ:∀r∈rs,FM.Fits r 4
 good:KJ (.list (uss.map BJ))=true
theorem Bk.sum{uss:List (List Aa)}{rs:List Rat}{most nn:Nat}(o:Bk uss rs most nn):∀us∈uss,∀m∈us,0≤BM m∧BM m≤3:=fun us hu m hm=>⟨Bi (o.pw us hu m hm).nn,(o.pw us hu m hm).s3⟩
theorem Bk.JW{uss:List (List Aa)}{rs:List Rat}{most nn:Nat}(o:Bk uss rs most nn):1≤Ag rs∧(Ag rs).natAbs<2^17∧∀r∈rs,(r.den:Int) ∣ Ag rs:=by
 obtain⟨a,b,c⟩:=NJ (Sr o.PZ);refine⟨a,FM.Ci b ?_,fun r hr=>c _ (aQ.mpr ⟨r,hr,rfl⟩)⟩;rw[List.length_map,o.Ib];have:=o.n4
 lia
theorem II{x:Int}{n:Nat}(h:x.natAbs<2^n):x.natAbs≤2^n:=bV h
theorem Bk.eU{uss:List (List Aa)}{rs:List Rat}{most nn:Nat}(o:Bk uss rs most nn):(∀x∈Ba rs (Ag rs),x.natAbs≤2^21)∧(∀us∈Ek (Ag rs) uss,us.length≤12∧∀z∈us,B0 nn z.1∧z.2.num.natAbs≤2^250)∧(B2 most).natAbs≤2^13:=by
 obtain⟨g1,g2,_⟩:=o.JW;obtain⟨b1,b2,_⟩:=Dm (by rw[o.len];exact o.n4) o.fit;refine⟨fun x hx=>?_,fun us hu=>?_,?_⟩
 ·unfold Ba at hx;obtain⟨r,hr,rfl⟩:=aQ.mp hx;have h1:=(o.PZ r hr).1;have h2:((Ag rs).fdiv (r.den:Int)).natAbs<2^17:=aP (FM.BI _ _) g2;exact II (FM.DL h1 h2)
 ·unfold Ek at hu;obtain⟨vs,hv,rfl⟩:=aQ.mp hu;refine⟨by unfold Dc;rw[List.length_map];exact(o.fit vs hv).1,fun z hz=>?_⟩;unfold Dc at hz;obtain⟨m,hm,rfl⟩:=aQ.mp hz;refine⟨o.pw vs hv m hm,?_⟩;have h1:=((o.fit vs hv).2 m hm).1;have h2:((BL uss).fdiv (m.2.den:Int)).natAbs<2^193:=aP (FM.BI _ _) b2;obtain⟨_,g3,_⟩:=Hn (uss:=uss) (c:=3) (by decide) fun us hus m hm=>(o.sum us hus m hm).2;have h3:((Ag rs)^(A8 uss-(BM m).toNat)).natAbs<2^(17*3+1):=Dy (p:=3) g2 (by unfold A8;lia);have h4:=FM.DL (FM.DL h1 h2) h3;show((Hj (BL uss) (Ag rs) (A8 uss) m).2.num).natAbs≤_;unfold Hj;rw[show((m.2.num*(BL uss).fdiv (m.2.den:Int)*Ag rs^(A8 uss-(BM m).toNat):Int):Rat).num=m.2.num*(BL uss).fdiv (m.2.den:Int)*Ag rs^(A8 uss-(BM m).toNat) from rfl];exact II (FM.Ci h4 (by decide))
 ·have:∀n,n≤7→(B2 n).natAbs≤2^13:=by decide
  exact this most o.Jp
theorem Bk.wl{uss:List (List Aa)}{rs:List Rat}{most nn:Nat}(o:Bk uss rs most nn):(Ek (Ag rs) uss).length=nn∧(Ba rs (Ag rs)).length=nn:=⟨by unfold Ek;rw[List.length_map];exact o.len,by unfold Ba;rw[List.length_map];exact o.Ib⟩
theorem Bk.wr{uss:List (List Aa)}{rs:List Rat}{most nn:Nat}(o:Bk uss rs most nn):∃m,V6 (Ek (Ag rs) uss) (Ba rs (Ag rs)) (B2 most) most nn m:=by
 obtain⟨h1,h2,h3⟩:=o.eU;exact⟨_,dB (a:=21) (c:=250) (f:=13) o.n4 o.wl.1 o.wl.2 o.Jp h1 h2 h3 (by decide)⟩
theorem Bk.xb{uss:List (List Aa)}{rs:List Rat}{most nn:Nat}(o:Bk uss rs most nn):∀u j,u<nn→j≤7→(FW uss rs most u j).natAbs≤2^(21+318*j):=fun u j hu hj=>by
 obtain⟨h1,h2,h3⟩:=o.eU;refine K2 (x0:=((Ba rs (Ag rs)).getD · 0)) (c:=250) (f:=13) o.wl.1 (fun u hu=>?_) (fun us hu=>⟨by have:=(h2 us hu).1;lia,(h2 us hu).2⟩) h3 (by decide) 7 (by decide) u j hu hj;show((Ba rs (Ag rs)).getD u 0).natAbs≤_;rw[List.getD_eq_getElem?_getD,List.getElem?_eq_getElem (show u<(Ba rs (Ag rs)).length by rw[o.wl.2];exact hu)];exact h1 _ (ax _)
theorem FV{g:Int}(h:1≤g):∀n:Nat,1≤g^n
 |0=>by simp
 |n+1=>by rw[Int.pow_succ];exact Int.mul_pos (show 0<g^n from FV h n) (show 0<g from h)
theorem Bk.CS{uss:List (List Aa)}{rs:List Rat}{most nn:Nat}(o:Bk uss rs most nn):1≤K4 uss (Ag rs)∧(K4 uss (Ag rs)).natAbs<2^300∧(Dk uss rs most).natAbs<2^400∧1≤Dk uss rs most:=by
 obtain⟨g1,g2,_⟩:=o.JW;obtain⟨b1,b2,_⟩:=Dm (by rw[o.len];exact o.n4) o.fit;obtain⟨_,g3,_⟩:=Hn (uss:=uss) (c:=3) (by decide) fun us hus m hm=>(o.sum us hus m hm).2;have h3:((Ag rs)^(A8 uss-1)).natAbs<2^(17*3+1):=Dy (p:=3) g2 (by unfold A8;lia);have h1:(K4 uss (Ag rs)).natAbs<2^300:=FM.Ci (FM.DL b2 h3) (by decide);have hp:=Kq most (by have:=o.Jp;lia);have gr0:1≤Ag rs:=g1;have h0:1≤(Ag rs)^(A8 uss-1):=FV gr0 _;have h5:1≤K4 uss (Ag rs):=Int.mul_pos (show 0<_ by lia) (show 0<_ by lia);exact⟨h5,h1,FM.DL h1 hp.2,Int.mul_pos (show 0<_ by lia) (show 0<_ by lia)⟩
def V8:Sp:=fun vs H Q _=>∃(C S:Addr) (cs ss:List V) (uss:List (List Aa)) (rs:List Rat) (most nn:Nat),vs=[.ref C,.ref S,.int (most:Nat)]∧H C=some (.lst cs)∧Ay H (uss.map BJ) cs∧H S=some (.lst ss)∧Ay H (AZ rs) ss∧Bk uss rs most nn ∧
 ∀D H' zs,AG H H'→H D=none→H' D=some (.lst zs)→Ay H' (BE (MF uss rs most)) zs→(∀z∈zs,∃a,z=.ref a∧H a=none)→Q (.ref D) H'
section
variable{P:Program}{w:World}{K:PySem.W.Frag}{mg:Str→Option Value}{base:Heap}{f g1 g2 g3 g4 g5 g6 g7 g8 g9 g10:Addr}{fd gd1 gd2 gd3 gd4 gd5 gd6 gd7 gd8 gd9 gd10:FuncData}
theorem NY:Ad ["change", "start", "most", "grain", "finer", "rows", "pace"] ["change", "start", "most"] (AM Es):=⟨rfl,rfl,rfl,by decide +kernel,rfl,by decide +kernel,by decide +kernel⟩
theorem M1(F:Fn K mg "growth_rows" Es ["change", "start", "most"] f fd)(C3:Fn K mg "refuse_no_change" EL ["thing"] g1 gd1)(DJ:Fn K mg "refuse_no_start" Eh ["thing", "unknowns"] g2 gd2)(DK:Fn K mg "refuse_too_many" Ef ["most"] g3 gd3)(HA:Fn K mg "grain_of" JQ ["start"] g4 gd4)(ED:Fn K mg "product_up_to" Ft ["many"] g5 gd5)
 (Ea:Fn K mg "whole_change" F9 ["change", "grain"] g6 gd6)(Ew:Fn K mg "whole_start" Gx ["start", "grain"] g7 gd7)(Fe:Fn K mg "whole_rows" Hs ["change", "start", "most", "finer"] g8 gd8)(IH:Fn K mg "pace_of" KN ["change", "grain"] g9 gd9)(C4:Fn K mg "row_of_fractions" EN ["row", "pace", "grain"] g10 gd10)
 (Kr:AL P w K mg base Ac 7 g1 gd1 ["thing"] RC)(LC:AL P w K mg base Ac 7 g2 gd2 ["thing", "unknowns"] MX)(LG:AL P w K mg base Ac 7 g3 gd3 ["most"] Xb)(T3:AL P w K mg base Ac 7 g4 gd4 ["start"] SH)(Mt:AL P w K mg base Ac 7 g5 gd5 ["many"] Xf)
 (M9:AL P w K mg base Ac 7 g6 gd6 ["change", "grain"] Zp)(Oj:AL P w K mg base Ac 7 g7 gd7 ["start", "grain"] ZJ)(QX:AL P w K mg base Ac 7 g8 gd8 ["change", "start", "most", "finer"] cR)(Ve:AL P w K mg base Ac 7 g9 gd9 ["change", "grain"] VC)(J5:AL P w K mg base Ac 7 g10 gd10 ["row", "pace", "grain"] XH)(BD:mg "len" = none):AL P w K mg base Ac 8 f fd ["change", "start", "most"] V8:=by
 have sc:=NY;refine F.F.ok (k:=7) sc (fun vs H Q E h=>?_) (fun cdv A outer s H vs Q E hr h=>?_)
 ·obtain⟨C,S,cs,ss,uss,rs,most,nn,rfl,_⟩:=h
  rfl
 obtain⟨C,S,cs,ss,uss,rs,most,nn,rfl,hC,dc,hS,ds,ok,q⟩:=h;have hcl:cs.length=nn:=by rw[dc.len,List.length_map];exact ok.len
 obtain⟨gr1,gr2,_⟩:=ok.JW;obtain⟨pc1,pc2,pc3,pc4⟩:=ok.CS;have hpt:=Kq most (by have:=ok.Jp;lia);have chg:∀H',AG H H'→LU H' C cs uss 4:=fun H' e=>⟨e _ _ hC,dc.same e,by rw[ok.len];exact ok.n4,ok.fit⟩;refine⟨_,(AB (DY (Aj C3 Kr hr rfl (AA (pv 0) AD)))
 (AB (DY (Aj DJ LC hr rfl (AA (pv 1) (AA (Ai BW rfl BD av (AA (pv 0) AD)) AD))))
 (AB (DY (Aj DK LG hr rfl (AA (pv 2) AD)))
 (AB (AW (i:=3) sc.nd rfl (Or.inr rfl) (Aj HA T3 hr rfl (AA (pv 1) AD)))
 (AB (AW (i:=4) sc.nd rfl (Or.inl rfl) (Aj ED Mt hr rfl (AA (pv 2) AD)))
 (AB (AW (i:=5) sc.nd rfl (Or.inl rfl) (Aj Fe QX hr rfl (AA (Aj Ea M9 hr rfl (AA (pv 0) (AA (pv 3) AD))) (AA (Aj Ew Oj hr rfl (AA (pv 1) (AA (pv 3) AD))) (AA (pv 2) (AA (pv 4) AD))))))
 (AB (AW (i:=6) sc.nd rfl (Or.inr rfl) (Ab BS (Aj IH Ve hr rfl (AA (pv 0) (AA (pv 3) AD))) (pv 4)))
 (AF (Af (DC [".0", "row", "pace", "grain"] 1 [none,none,some 6,some 3] (BB (pv 5)) (fun _ _ _ _ _=>Bl) (fun _ _ _ _ _=>(Aj C4 J5 hr rfl (AA (pv 1) (AA (pv 2) (AA (pv 3) AD))))))))))))))),?_⟩
 refine⟨_,rfl,.ref C,_,rfl,DU.lst hC dc,ok.good,fun H1 e1=>?_⟩;refine⟨_,rfl,_,rfl,C,cs,rfl,.inl (AQ.of (e1 _ _ hC)),S,ss,rs,by rw[hcl,ok.Ib];rfl,e1 _ _ hS,ds.same e1,?_⟩;refine⟨_,rfl,most,rfl,ok.Jp,?_⟩;refine⟨_,rfl,S,ss,rs,4,rfl,e1 _ _ hS,ds.same e1,by have:=ok.Ib;have:=ok.n4;lia,ok.PZ,by have:=ok.Ib;have:=ok.n4;lia,fun H2 e2=>?_⟩;have E2:=e1.trans e2;refine⟨_,rfl,most,rfl,by have:=ok.Jp;lia,?_⟩;refine⟨_,rfl,_,rfl,C,cs,uss,Ag rs,17,rfl,chg H2 E2,ok.sum,gr2,by decide,fun W H3 ws e3 hW hW3 dW=>?_⟩;have E3:=E2.trans e3;refine⟨_,rfl,_,rfl,S,ss,rs,Ag rs,4,17,rfl,E3 _ _ hS,ds.same E3,by have:=ok.Ib;have:=ok.n4;lia,ok.PZ,gr2,by decide,fun T H4 ts e4 hT hT4 dT=>?_⟩;have E4:=E3.trans e4;obtain⟨m,wr⟩:=ok.wr;refine⟨_,rfl,_,rfl,W,T,ws,ts,Ek (Ag rs) uss,Ba rs (Ag rs),B2 most,most,nn,m,rfl,e4 _ _ hW3,dW.same e4,hT4,dT,wr,fun R H5 e5 hR rw5=>?_⟩;have E5:=E4.trans e5;refine⟨_,rfl,_,rfl,C,cs,uss,Ag rs,17,rfl,chg H5 E5,ok.sum,gr2,by decide,fun H6 e6=>?_⟩;have E6:=E5.trans e6;refine⟨_,rfl,_,_,rfl,rfl,F8 pc2 hpt.2 (by decide),?_⟩;obtain⟨rvs,k1,k2,k3⟩:=rw5;have hk1:=e6 _ _ k1;have n4:=ok.n4;refine⟨_,rfl,R,rfl,⟨_,AQ.of hk1⟩,fun D hD=>Ce (n:=rvs.length) (fun i ys H'=>AG H6 H'∧ys.length=i∧AO D H' (BE ((List.range i).map fun u=>Ae (NH (FW uss rs most u) (Dk uss rs most) (Ag rs)) (most+1))) ys∧∀z∈ys,∃a,z=.ref a∧H a=none) ⟨AN hD _,rfl,.nil,(fun _ z=>by cases z)⟩ ?_ ?_⟩
 ·rintro i ys H7 hi ⟨e7,hyl,dy,ny⟩ hD7;obtain⟨a,j1,j2,j3,_⟩:=k3 i (by lia);refine⟨⟨rvs,.ref a,AQ.of (e7 _ _ hk1),j1⟩,Cj (n:=60) (by lia) (by decide),fun x H' y=>?_⟩;obtain⟨rfl,y⟩:=y;have hx:=y rvs (AQ.of (e7 _ _ hk1));rw[j1]at hx;cases hx;unfold Cq;refine BV ⟨_,rfl,_,rfl,_,rfl,a,FW uss rs most i,most+1,Dk uss rs most,Ag rs,400,rfl,e7 _ _ (e6 _ _ j2),by have:=ok.Jp;lia,by lia,by lia,FM.Ci gr2 (show 17≤400 by decide),pc3,by decide,fun Z H8 zs e8 hZ hZ8 dz=>?_⟩;have hD8:=e8 _ _ hD7;have nZ:Z≠D:=fun z=>by subst z;rw[hD7]at hZ;cases hZ
  refine⟨hD8,BZ hi ⟨fun b o z=>?_,by simp[hyl],?_,fun z hz=>?_⟩⟩
  ·rw[AE (AK z hD)];exact e8 _ _ (e7 _ _ z)
  ·rw[List.range_succ,List.map_append];unfold BE at dy ⊢;rw[List.map_append];exact .but .upd ((dy.same e8).app (.cons (.lst nZ hZ8 (Hf hD8 dz)) .nil))
  ·rcases aZ.mp hz with h|h
   ·exact ny z h
   ·exact⟨Z,List.mem_singleton.mp h,Fd (E6.trans e7) hZ⟩
 ·rintro ys H7 ⟨e7,hyl,dy,ny⟩ hD7;rw[k2]at dy;refine⟨⟨rvs,AQ.of (e7 _ _ hk1),Nat.le_refl _⟩,q D H7 ys (E6.trans e7) (Fd E6 hD) hD7 ?_ ny⟩;unfold MF;rw[ok.len];exact CO dy
end
def A3(f g:Nat→Rat)(k:Nat):Rat:=(Ae (fun j=>f j*g (k-j)) (k+1)).sum
def G9(X:Nat→Nat→Rat):Nat→List Int→Nat→Rat
 |0,_=>fun k=>if k=0 then 1 else 0
 |n+1,ps=>A3 (G9 X n (A9 ps (fu ps))) (X (fu ps))
def E1(X:Nat→Nat→Rat)(ps:List Int):Nat→Rat:=G9 X ps.sum.toNat ps
def Dq(X:Nat→Nat→Rat)(us:List Aa)(k:Nat):Rat:=(us.map fun m=>m.2*E1 X m.1 k).sum
theorem JO{f g:Nat→Rat}{n:Nat}(h:∀j,j<n→f j=g j):Ae f n=Ae g n:=aU fun j hj=>h j (au.mp hj)
theorem Rh{f g f' g':Nat→Rat}{k:Nat}(h1:∀j,j≤k→f j=f' j)(h2:∀j,j≤k→g j=g' j):A3 f g k=A3 f' g' k:=by
 unfold A3;rw[JO fun j hj=>by rw[h1 j (by lia),h2 (k-j) (by lia)]]
theorem LP{X Y:Nat→Nat→Rat}{nn k:Nat}(h:∀u j,u<nn→j≤k→X u j=Y u j):∀(n:Nat) (ps:List Int),B0 nn ps→ps.sum=(n:Int)→∀(j:Nat),j≤k→G9 X n ps j=G9 Y n ps j
 |0,_,_,_,_,_=>rfl
 |n+1,ps,o,hs,j,hj=>by
  have h0:ps.sum≠0:=by lia
  obtain⟨f1,_⟩:=FZ h0;exact Rh (fun i hi=>LP h n _ (o.low h0) (by rw[sum_set _ _ f1];lia) i (by lia)) fun i hi=>h _ i (by rw[←o.len];exact f1) (by lia)
theorem T5{X Y:Nat→Nat→Rat}{nn k:Nat}(h:∀u j,u<nn→j≤k→X u j=Y u j){ps:List Int}(o:B0 nn ps):E1 X ps k=E1 Y ps k:=LP h _ _ o (by have:=Bi o.nn;lia) _ (aG _)
theorem TF{X Y:Nat→Nat→Rat}{nn k:Nat}(h:∀u j,u<nn→j≤k→X u j=Y u j){us:List Aa}(o:∀z∈us,B0 nn z.1):Dq X us k=Dq Y us k:=by
 unfold Dq
 congr 1
 exact aU fun m hm=>by rw[T5 h (o m hm)]
theorem QS{B:Int}(hB:B≠0)(t:Int):(t:Rat)=(B:Rat)*Rat.divInt t B:=by
 have h:(B:Rat)≠0:=by simpa using hB
 rw[Rat.divInt_eq_div]
 grind
theorem JL{S:Int}{r:Rat}(h:(r.den:Int) ∣ S):((r.num*S.fdiv (r.den:Int):Int):Rat)=(S:Rat)*r:=by
 obtain⟨c,rfl⟩:=h;have hd:(r.den:Int)≠0:=by have:=r.den_nz;lia
 rw[FM.Ed hd rfl,Rat.intCast_mul,Rat.intCast_mul];have e:(r.num:Rat)=((r.den:Int):Rat)*r:=by
  have:=QS hd r.num;rw[FM.Cd]at this;exact this
 rw[e]
 grind
theorem GA(b:Int):∀n:Nat,((b^n:Int):Rat)=(b:Rat)^n
 |0=>by simp
 |n+1=>by rw[Int.pow_succ,Rat.intCast_mul,GA b n,Rat.pow_succ]
theorem L7:∀l:List Int,((l.sum:Int):Rat)=(l.map fun x:Int=>(x:Rat)).sum
 |[]=>by simp
 |x::l=>by rw[List.sum_cons,Rat.intCast_add,L7 l,List.map_cons,List.sum_cons]
theorem NP{α:Type}(c:Rat)(f:α→Rat):∀l:List α,(l.map fun x=>c*f x).sum=c*(l.map f).sum
 |[]=>by simp
 |x::l=>by rw[List.map_cons,List.sum_cons,NP c f l,List.map_cons,List.sum_cons,Rat.mul_add]
theorem Ke(x:Rat)(m:Nat):∀n,x^(m+n)=x^m*x^n
 |0=>by simp
 |n+1=>by rw[←Nat.add_assoc,Rat.pow_succ,Rat.pow_succ,Ke x m n,Rat.mul_assoc]
theorem N6{X:Nat→Nat→Int}{x:Nat→Nat→Rat}{g P:Rat}{nn k:Nat}(h:∀u j,u<nn→j≤k→((X u j:Int):Rat)=g*P^j*x u j):∀(n:Nat) (ps:List Int),B0 nn ps→ps.sum=(n:Int)→∀j,j≤k→((DX X ps j:Int):Rat)=g^n*P^j*G9 x n ps j
 |0,ps,o,hs,j,hj=>by
  rw[Lh (by lia)];show _=g^0*P^j*(if j=0 then 1 else 0);by_cases z:j=0
  ·subst z;simp
  ·rw[if_neg z,if_neg z];simp
 |n+1,ps,o,hs,j,hj=>by
  have h0:ps.sum≠0:=by lia
  obtain⟨f1,_⟩:=FZ h0;rw[Ly o h0];show _=g^(n+1)*P^j*A3 (G9 x n (A9 ps (fu ps))) (x (fu ps)) j;unfold conv A3 Ae
  rw[L7,←NP];unfold Bp;rw[List.map_map]
  congr 1
  refine aU fun i hi=>?_;have hi:i<j+1:=au.mp hi;show((DX X (A9 ps (fu ps)) i*X (fu ps) (j-i):Int):Rat)=_;rw[Rat.intCast_mul,N6 h n _ (o.low h0) (by rw[sum_set _ _ f1];lia) i (by lia),h (fu ps) (j-i) (by rw[←o.len];exact f1) (by lia),Rat.pow_succ];have e:P^j=P^i*P^(j-i):=by rw[←Ke];congr 1;lia
  rw[e]
  grind
theorem Ug{X:Nat→Nat→Int}{x:Nat→Nat→Rat}{g:Int}{P:Rat}{nn k gr:Nat}{B:Int}(h:∀u j,u<nn→j≤k→((X u j:Int):Rat)=(g:Rat)*P^j*x u j){us:List Aa}(hu:∀m∈us,B0 nn m.1∧BM m≤gr∧(m.2.den:Int) ∣ B) :
  ((FU X (Dc B g gr us) k:Int):Rat)=(B:Rat)*(g:Rat)^gr*P^k*Dq x us k:=by
 unfold FU Dc Dq;rw[L7,←NP,List.map_map,List.map_map]
 congr 1
 refine aU fun m hm=>?_;obtain⟨o,hs,hd⟩:=hu m hm;have s0:=Bi o.nn;show(((Hj B g gr m).2.num*DX X (Hj B g gr m).1 k:Int):Rat)=_;unfold Hj;show(((m.2.num*B.fdiv (m.2.den:Int)*g^(gr-(BM m).toNat))*DX X m.1 k:Int):Rat)=_;rw[Rat.intCast_mul,Rat.intCast_mul,JL hd,GA,N6 h m.1.sum.toNat m.1 o (by lia) k (aG _)];have e:(g:Rat)^gr=(g:Rat)^(gr-(BM m).toNat)*(g:Rat)^m.1.sum.toNat:=by
  rw[←Ke]
  congr 1
  unfold BM at hs ⊢
  lia
 rw[e];show _=_*(m.2*G9 x m.1.sum.toNat m.1 k)
 grind
def Mp(rs:List Rat)(uss:List (List Aa)):Nat→Nat→Nat→Rat
 |0=>fun u _=>rs.getD u 0
 |k+1=>fun u j=>if j≤k then Mp rs uss k u j else Dq (Mp rs uss k) (uss.getD u []) k / ((k+1:Nat):Rat)
def AX(rs:List Rat)(uss:List (List Aa))(u j:Nat):Rat:=Mp rs uss j u j
theorem PQ{rs:List Rat}{uss:List (List Aa)}:∀ {k j:Nat} (u:Nat),j≤k→Mp rs uss k u j=AX rs uss u j
 |0,j,u,h=>by rw[Nat.le_zero.mp h];rfl
 |k+1,j,u,h=>by
  by_cases hk:j≤k
  ·show(if j≤k then _ else _)=_;rw[if_pos hk];exact PQ u hk
  ·rw[show j=k+1 by lia];rfl
theorem ML{rs:List Rat}{uss:List (List Aa)}{nn:Nat}(hp:∀us∈uss,∀z∈us,B0 nn z.1)(u k:Nat):AX rs uss u (k+1)=Dq (AX rs uss) (uss.getD u []) k / ((k+1:Nat):Rat):=by
 show(if k+1≤k then _ else _)=_;rw[if_neg (by lia),TF (nn:=nn) fun u j _ hj=>PQ u hj];intro z hz;rw[List.getD_eq_getElem?_getD]at hz;cases h:uss[u]? with
 |none=>rw[h]at hz;cases hz
 |some us=>rw[h]at hz;exact hp us (aL h) z hz
theorem T9:∀n k:Nat,n≤7→k<n→((k:Int)+1) ∣ B2 n:=by
 have:∀n,n≤7→∀k,k<n→(B2 n) % ((k:Int)+1)=0:=by decide
 exact fun n k h1 h2=>Int.dvd_of_emod_eq_zero (this n h1 k h2)
theorem Vg{uss:List (List Aa)}{G:Int}{u:Nat}:(Ek G uss).getD u []=Dc (BL uss) G (A8 uss) (uss.getD u []):=by
 unfold Ek;rw[List.getD_eq_getElem?_getD,List.getElem?_map,List.getD_eq_getElem?_getD];cases uss[u]? <;> rfl
theorem K9{uss:List (List Aa)}{rs:List Rat}{most nn:Nat}(o:Bk uss rs most nn):∀k,k≤most→∀u j,u<nn→j≤k→((FW uss rs most u j:Int):Rat)=((Ag rs:Int):Rat)*((Dk uss rs most:Int):Rat)^j*AX rs uss u j
 |0,_,u,j,hu,hj=>by
  rw[Nat.le_zero.mp hj];obtain⟨_,_,g3⟩:=o.JW;have hl:=o.Ib;have hr:rs[u]? = some (rs[u]'(by lia)):=aI _;show(((Ba rs (Ag rs)).getD u 0:Int):Rat)=_*_^0*rs.getD u 0;unfold Ba;rw[List.getD_eq_getElem?_getD,List.getElem?_map,hr,List.getD_eq_getElem?_getD,hr];show((_*_:Int):Rat)=_*_*rs[u];rw[JL (g3 _ (ax _))];simp
 |k+1,hk,u,j,hu,hj=>by
  rcases Nat.lt_or_eq_of_le hj with h|h
  ·exact K9 o k (by lia) u j hu (by lia)
  ·subst h;have hm7:=o.Jp;obtain⟨g1,_,_⟩:=o.JW;obtain⟨b1,_,b3⟩:=Dm (by rw[o.len];exact o.n4) o.fit;obtain⟨p1,_,_,p4⟩:=o.CS;obtain⟨gr1,_,gr2⟩:=Hn (uss:=uss) (c:=3) (by decide) fun us hus m hm=>(o.sum us hus m hm).2;have hum:uss.getD u []∈uss:=by rw[List.getD_eq_getElem?_getD,List.getElem?_eq_getElem (show u<uss.length by rw[o.len];exact hu)];exact ax _
   have h1:=Ug (X:=FW uss rs most) (x:=AX rs uss) (g:=Ag rs) (P:=((Dk uss rs most:Int):Rat)) (gr:=A8 uss) (B:=BL uss) (fun u j hu hj=>K9 o k (by lia) u j hu hj) (us:=uss.getD u []) fun m hm=>⟨o.pw _ hum m hm,by unfold A8;have:=gr2 _ hum m hm;lia,b3 _ hum m hm⟩;have e:FW uss rs most u (k+1)=FU (FW uss rs most) (Dc (BL uss) (Ag rs) (A8 uss) (uss.getD u [])) k*(B2 most).fdiv ((k:Int)+1):=by
    unfold FW;rw[J6,Vg]
   obtain⟨c,hc⟩:=T9 most k hm7 (by lia);have hf:(B2 most).fdiv ((k:Int)+1)=c:=by rw[hc];exact Int.mul_fdiv_cancel_left _ (by lia)
   rw[e,hf,Rat.intCast_mul,h1,ML o.pw];have hP:((Dk uss rs most:Int):Rat)=(BL uss:Rat)*((Ag rs:Int):Rat)^(A8 uss-1)*((k+1:Nat):Rat)*(c:Rat):=by
    show((BL uss*Ag rs^(A8 uss-1)*B2 most:Int):Rat)=_;rw[Rat.intCast_mul,Rat.intCast_mul,GA,hc,Rat.intCast_mul,show(((k:Int)+1:Int):Rat)=((k+1:Nat):Rat) by rw[←Rat.intCast_natCast];rfl]
    grind
   have hG:((Ag rs:Int):Rat)^A8 uss=((Ag rs:Int):Rat)^(A8 uss-1)*((Ag rs:Int):Rat):=by
    rw[←Rat.pow_succ]
    congr 1
    unfold A8
    lia
   have hk0:((k+1:Nat):Rat)≠0:=by
    rw[←Rat.intCast_natCast];exact fun z=>by have:=Rat.intCast_inj.mp (z.trans Rat.intCast_zero.symm);lia
   rw[hG,Rat.pow_succ];generalize ((Dk uss rs most:Int):Rat)^k=Pk;generalize ((Ag rs:Int):Rat)^(A8 uss-1)=G at hP;rw[hP];generalize ((k+1:Nat):Rat)=kk at hk0
   grind
theorem Qr{uss:List (List Aa)}{rs:List Rat}{most nn:Nat}(o:Bk uss rs most nn):MF uss rs most=(List.range nn).map fun u=>Ae (AX rs uss u) (most+1):=by
 obtain⟨g1,_,_⟩:=o.JW;obtain⟨_,_,_,p4⟩:=o.CS;unfold MF;rw[o.len];refine aU fun u hu=>JO fun j hj=>?_;have hu:u<nn:=au.mp hu;unfold NH;have h:=K9 o most (aG _) u j hu (by lia);have hb:Ag rs*Dk uss rs most^j≠0:=Int.mul_ne_zero (by lia) (US (by lia) _);have h2:=QS hb (FW uss rs most u j);rw[h,Rat.intCast_mul (Ag rs),GA]at h2;have n1:((Ag rs:Int):Rat)*((Dk uss rs most:Int):Rat)^j≠0:=by
  rw[←GA,←Rat.intCast_mul];exact fun z=>hb (Rat.intCast_inj.mp (z.trans Rat.intCast_zero.symm))
 generalize ((Ag rs:Int):Rat)*((Dk uss rs most:Int):Rat)^j=z at h2 n1;generalize Rat.divInt _ _=q at h2 ⊢;generalize AX rs uss u j=p at h2 ⊢
 grind
def IL:PyData→Rat
 |.tuple [.int a,.int b]=>Rat.divInt a b
 |_=>0
theorem Pr(r:Rat):IL (AV r)=r:=FM.Cd r
theorem SJ(r:Rat):(AV r).canLay0=true:=by unfold AV;simp only[PyData.canLay0];exact Pl [r.num,(r.den:Int)]
theorem RB{n:Nat}{ds:List PyData}(h:∀d∈ds,Ok n d):Eu n ds:=by
 induction ds with
 |nil=>exact⟨by simp[PyData.canLayAll0],by simp[PyData.depthAll]⟩
 |cons d ds ih =>
  obtain⟨a,b⟩:=h d (.head _);obtain⟨a',b'⟩:=ih fun e he=>h e (.tail _ he);exact⟨by simp only[PyData.canLayAll0];rw[a,a'];rfl,by simp only[PyData.depthAll];lia⟩
theorem L4{n:Nat}{ds:List PyData}(h:∀d∈ds,Ok n d):Ok (n+1) (.list ds):=.lst (RB h)
theorem WW{n:Nat}{ds:List PyData}(h:∀d∈ds,Ok n d):Ok (n+1) (.tuple ds):=.tup (RB h)
theorem Kw(r:Rat):Ok 1 (AV r):=WW (n:=0) fun d hd=>by
 rcases aS.mp hd with rfl|hd
 ·exact .int
 ·rw[List.mem_singleton.mp hd];exact .int
theorem ne_self{x:PyData}{n:Nat}(h:Ok n x)(hn:n≤64):Jl true x x=some (.bool false):=by
 refine(if_pos ⟨h.shaped hn,h.shaped hn⟩).trans ?_;rw[Jg x h.1];rfl
theorem W0{x:PyData}{n:Nat}(h:Ok n x)(hn:n≤64):Jl false x x=some (.bool true):=by
 refine(if_pos ⟨h.shaped hn,h.shaped hn⟩).trans ?_;rw[Jg x h.1];rfl
theorem Z2{i:Nat}{f g:Dv→Option PyData}{δ:Dv}{y:PyData}{p:Nat}{xs:List PyData}(h:f δ=some y)(k:g δ=some (.int (p:Nat)))(o:ow i δ=some xs)(hp:p<xs.length):Tz i f g δ=some (.nx (δ.set i (.own (.lst (xs.set p y))))):=by
 show(f δ).bind _=_;rw[h];show(g δ).bind _=_;rw[k];show(ow i δ).bind _=_;rw[o];show(Jq xs.length (p:Int)).map _=_;have:Jq xs.length (p:Int)=some p:=by
  unfold Jq;rw[if_pos (by lia)]
  first|rfl|(rw[if_pos (by lia)];simp)|simp[hp]
 rw[this];rfl
theorem PF{i j:Int}{n:Nat}(h1:i.natAbs<2^n)(h2:j.natAbs<2^n)(hn:n≤9000):Kc (.int i) (.int j)=some (.int (i*j)):=Zt (by
 unfold MT;rw[O7 (n:=9000) (aO h1 (bI (by decide) hn)),O7 (n:=9000) (aO h2 (bI (by decide) hn))];simp)
theorem div_is{i j:Int}(h:0<j)(h2:j.natAbs<2^64):Tx (.int i) (.int j)=some (.int (i / j)):=by
 refine(if_pos ⟨by lia,O7 (aO h2 (bI (by decide) (by decide)))⟩).trans ?_;rw[Int.fdiv_eq_ediv_of_nonneg _ (by lia)]
def HX:Nat→PyData→Prop
 |0,d=>∃i,d=.int i
 |n+1,d=>(∃i,d=.int i)∨∃ds,(d=.tuple ds∨d=.list ds)∧ds.length≤60∧∀e∈ds,HX n e
theorem Wx{n:Nat}{ds:List PyData}(h:HX (n+1) (.list ds)):ds.length≤60∧∀e∈ds,HX n e:=by
 rcases h with ⟨i,z⟩|⟨cs,h1,h2,h3⟩
 ·cases z
 ·rcases h1 with h1|h1
  ·cases h1
  ·cases h1;exact⟨h2,h3⟩
theorem Wa{n:Nat}{ds:List PyData}(h:HX (n+1) (.tuple ds)):ds.length≤60∧∀e∈ds,HX n e:=by
 rcases h with ⟨i,z⟩|⟨cs,h1,h2,h3⟩
 ·cases z
 ·rcases h1 with h1|h1
  ·cases h1;exact⟨h2,h3⟩
  ·cases h1
def VB(n:Nat):Sp:=fun vs H Q _=>∃d v1 v2 m,vs=[v1,v2]∧n=m+1∧HX m d∧DU H d v1∧DU H d v2∧∀H',AG H H'→Q (.bl true) H'
section
variable{P:Program}{w:World}{K:PySem.W.Frag}{mg:Str→Option Value}{base:Heap}{f:Addr}{fd:FuncData}
theorem QW:Ad ["_law_found", "_law_due"] ["_law_found", "_law_due"] (AM Ia):=⟨rfl,rfl,rfl,by decide +kernel,rfl,by decide +kernel,by decide +kernel⟩
theorem J9(Cc:Fn K mg "_law_same" Ia ["_law_found", "_law_due"] f fd)(AR:mg "isinstance" = none)(BR:mg "list" = none)(Bd:mg "tuple" = none)(GC:mg "int" = none)(Hx:mg "bool" = none)(BD:mg "len" = none)(O5:mg "all" = none)(Dg:mg "zip" = none) :
  ∀n,AL P w K mg base Ac n f fd ["_law_found", "_law_due"] (VB n)
 |0=>⟨fun _ _ _ _ ⟨_,_,_,_,_,h,_⟩=>absurd h (Nat.succ_ne_zero _).symm,fun _ _ _ _ _ _ _ _ _ _ _ _ _ ⟨_,_,_,_,_,h,_⟩=>absurd h (Nat.succ_ne_zero _).symm⟩
 |n+1=>by
  have sc:=QW;have Ei:=J9 Cc AR BR Bd GC Hx BD O5 Dg n;refine Cc.F.ok (k:=n) sc (fun vs H Q E h=>?_) (fun cdv A outer s H vs Q E hr h=>?_)
  ·obtain⟨d,v1,v2,m,rfl,_⟩:=h
   rfl
  obtain⟨d,v1,v2,m,rfl,hm,hn,d1,d2,q⟩:=h;have hm:n=m:=by lia
  subst hm;refine⟨_,(AB (BK (PW.pt (EI (Bx (Ai BU rfl AR aM (AA (pv 1) (AA (Bm (v:=.ty "list") rfl BR ae rfl) AD)))) (DM (Bx (Ai BU rfl AR aM (AA (pv 1) (AA (Bm (v:=.ty "tuple") rfl Bd bG rfl) AD)))))))
  (AB (BK (PW.pt (EI (Au GH (Ai BU rfl AR aM (AA (pv 0) (AA (Bm (v:=.ty "list") rfl BR ae rfl) AD))) (Ai BU rfl AR aM (AA (pv 1) (AA (Bm (v:=.ty "list") rfl BR ae rfl) AD))) (Ao _)) (DM (Au GH (Ai BU rfl AR aM (AA (pv 0) (AA (Bm (v:=.ty "tuple") rfl Bd bG rfl) AD))) (Ai BU rfl AR aM (AA (pv 1) (AA (Bm (v:=.ty "tuple") rfl Bd bG rfl) AD))) (Ao _)))))
   (AF (Af CL))
   Ax)
  (AB (BK (Au GH (Ai BW rfl BD av (AA (pv 0) AD)) (Ai BW rfl BD av (AA (pv 1) AD)) (Ao _))
   (AF (Af CL))
   Ax)
  (AF (Af (Ai (Wd rfl) rfl O5 PyProof.Rows.boot_all (AA (Ko [".0", "_law_one", "_law_other"] 1 2 [none,none,none] (P7 rfl Dg (AA (pv 0) (AA (pv 1) AD))) (fun _ _ _ _ _=>Bl) (fun _ _ _ _ _=>(Aj Cc Ei hr rfl (AA (pv 1) (AA (pv 2) AD))))) AD))))))
  Ax)
 (AB (BK (Au UH (pv 1) Ua (Ao _))
  (AF (Af (F4 UH (pv 0) Ua (Ao _))))
  Ax)
 (AF (Af (Kv (Ai BU rfl AR aM (AA (pv 0) (AA (Bm (v:=.ty "int") rfl GC PyProof.Rows.boot_int rfl) AD))) (Kv (Ud (Ai BU rfl AR aM (AA (pv 0) (AA (Bm (v:=.ty "bool") rfl Hx PyProof.Rows.boot_bool rfl) AD)))) (Mr (F4 Fi (pv 0) (pv 1) (Ao _))))))))),?_⟩
  have kind:(∃i,d=.int i)∨(∃ds,d=.list ds)∨∃ds,d=.tuple ds:=by
   cases n with
   |zero=>exact .inl hn
   |succ n =>
    rcases hn with h|⟨ds,h|h,_⟩
    ·exact .inl h
    ·exact .inr (.inr ⟨ds,h⟩)
    ·exact .inr (.inl ⟨ds,h⟩)
  rcases kind with ⟨i,rfl⟩|⟨ds,rfl⟩|⟨ds,rfl⟩
  ·obtain⟨N1,h1⟩:=d1;obtain⟨N2,h2⟩:=d2
   replace h1:=h1 N1 (aG _)
   replace h2:=h2 N2 (aG _)
   have e1:=h1;have e2:=h2;rw[Dt]at e1 e2;subst e1 e2;refine⟨_,rfl,_,_,_,_,rfl,ES,h2.ty,CT K _ h2.nodict,_,rfl,Cr ⟨_,rfl,_,_,_,_,rfl,ES,h2.ty,Dl K _ h2.nodict,_,rfl,Cr ?_⟩⟩;refine⟨_,rfl,rfl,_,rfl,Cr ?_⟩;refine⟨_,rfl,_,_,_,_,rfl,ES,h1.ty,Qj K _ h1.nodict,_,rfl,BV ⟨_,rfl,_,_,_,_,rfl,ES,h1.ty,OY K _ h1.nodict,_,rfl,_,rfl,BV ⟨_,rfl,_,rfl,rfl,?_⟩⟩⟩;have:=q H (.refl H);have ed:decide (V.int i=V.int i)=true:=bP rfl;rw[←ed]at this;exact this
  ·
   obtain⟨m',rfl⟩:∃m',n=m'+1:=by
    cases n with
    |zero=>obtain⟨_,z⟩:=hn;cases z
    |succ m'=>exact⟨m',rfl⟩
   obtain⟨hlen60,hall⟩:=Wx hn;obtain⟨N1,h1⟩:=d1;obtain⟨N2,h2⟩:=d2;have d1:DU H (.list ds) v1:=⟨N1,h1⟩;have d2:DU H (.list ds) v2:=⟨N2,h2⟩
   replace h1:=h1 N1 (aG _)
   replace h2:=h2 N2 (aG _)
   refine⟨_,rfl,_,_,_,_,rfl,ES,h2.ty,CT K _ h2.nodict,_,rfl,BV (BV ?_)⟩;refine⟨_,rfl,_,_,_,_,rfl,ES,h1.ty,CT K _ h1.nodict,_,rfl,_,_,_,_,rfl,ES,h2.ty,CT K _ h2.nodict,rfl,_,rfl,Cr ⟨_,rfl,_,_,_,_,rfl,ES,h1.ty,Dl K _ h1.nodict,_,rfl,_,_,_,_,rfl,ES,h2.ty,Dl K _ h2.nodict,rfl,_,rfl,Cr ?_⟩⟩;obtain⟨a1,xs,rfl,ha1,k1⟩:=d1.Mm;obtain⟨a2,ys,rfl,ha2,k2⟩:=d2.Mm;have l1:=k1.len;have l2:=k2.len;refine⟨_,rfl,a1,xs,rfl,.inl (AQ.of ha1),_,rfl,a2,ys,rfl,.inl (AQ.of ha2),rfl,_,rfl,?_⟩;have el:(!decide (V.int (xs.length:Nat)=V.int (ys.length:Nat)))=false:=by rw[l1,l2];simp
   rw[el];refine Cr ⟨_,rfl,_,rfl,false,false,a1,a2,rfl,⟨_,ha1⟩,⟨_,ha2⟩,fun D hD=>F3 (n:=xs.length) (fun i zs H'=>AG H H'∧zs=(List.replicate i true).map V.bl) ?_ ?_ ?_⟩
   ·exact⟨AN hD _,rfl⟩
   ·rintro i zs H1 hi ⟨e1,rfl⟩ hD1;have e1a:=e1 _ _ ha1;have e1b:=e1 _ _ ha2;have hx:=aI hi;have hy:=aI (l:=ys) (i:=i) (by lia);refine⟨⟨_,_,_,_,e1a,e1b,hx,hy⟩,Nat.lt_of_lt_of_le (show((List.replicate i true).map V.bl).length<60 by rw[List.length_map,List.length_replicate];lia) (by rw[sizeLine_eq];decide),fun v H' y=>?_⟩;obtain⟨p,x,z,rfl,np,rfl,q1,q2⟩:=y;have hx':=q1 _ e1a;have hy':=q2 _ e1b;rw[hx]at hx';rw[hy]at hy';cases hx';cases hy';obtain⟨e,he⟩:∃e,ds[i]? = some e:=⟨ds[i]'(by lia),by simp[show i<ds.length by lia]⟩;obtain⟨u1,w1,w2⟩:=k1.get he;obtain⟨u2,w3,w4⟩:=k2.get he;rw[hx]at w1;rw[hy]at w3;cases w1;cases w3;have sp:=AN np (.tup [xs[i],ys[i]'(by lia)]);refine⟨p,_,_,rfl,Ap.of AI,?_⟩;have E:=e1.trans sp;unfold Cq;refine BV ⟨_,rfl,_,rfl,e,_,_,m',rfl,rfl,hall e (aL he),w2.same E,w4.same E,fun H2 e2=>⟨e2 _ _ (sp _ _ hD1),BZ hi ⟨fun c o zz=>?_,?_⟩⟩⟩
    ·rw[AE (AK zz hD)];exact e2 _ _ (E _ _ zz)
    ·rw[List.replicate_succ',List.map_append];rfl
   ·rintro zs H1 ⟨e1,rfl⟩ hD1;refine⟨⟨_,_,e1 _ _ ha1,e1 _ _ ha2,.inl rfl⟩,D,_,rfl,AQ.of hD1,?_⟩;have:=q H1 e1;have ea:(List.replicate xs.length true).all id=true:=by simp
    rw[←ea]at this;exact this
  ·
   obtain⟨m',rfl⟩:∃m',n=m'+1:=by
    cases n with
    |zero=>obtain⟨_,z⟩:=hn;cases z
    |succ m'=>exact⟨m',rfl⟩
   obtain⟨hlen60,hall⟩:=Wa hn;obtain⟨N1,h1⟩:=d1;obtain⟨N2,h2⟩:=d2;have d1:DU H (.tuple ds) v1:=⟨N1,h1⟩;have d2:DU H (.tuple ds) v2:=⟨N2,h2⟩
   replace h1:=h1 N1 (aG _)
   replace h2:=h2 N2 (aG _)
   refine⟨_,rfl,_,_,_,_,rfl,ES,h2.ty,CT K _ h2.nodict,_,rfl,Cr ⟨_,rfl,_,_,_,_,rfl,ES,h2.ty,Dl K _ h2.nodict,_,rfl,BV ?_⟩⟩;refine⟨_,rfl,_,_,_,_,rfl,ES,h1.ty,CT K _ h1.nodict,_,rfl,_,_,_,_,rfl,ES,h2.ty,CT K _ h2.nodict,rfl,_,rfl,Cr ⟨_,rfl,_,_,_,_,rfl,ES,h1.ty,Dl K _ h1.nodict,_,rfl,_,_,_,_,rfl,ES,h2.ty,Dl K _ h2.nodict,rfl,_,rfl,Cr ?_⟩⟩;obtain⟨a1,xs,rfl,ha1,k1⟩:=d1.Ui;obtain⟨a2,ys,rfl,ha2,k2⟩:=d2.Ui;have l1:=k1.len;have l2:=k2.len;refine⟨_,rfl,a1,xs,rfl,.inr (Ap.of ha1),_,rfl,a2,ys,rfl,.inr (Ap.of ha2),rfl,_,rfl,?_⟩;have el:(!decide (V.int (xs.length:Nat)=V.int (ys.length:Nat)))=false:=by rw[l1,l2];simp
   rw[el];refine Cr ⟨_,rfl,_,rfl,true,true,a1,a2,rfl,⟨_,ha1⟩,⟨_,ha2⟩,fun D hD=>F3 (n:=xs.length) (fun i zs H'=>AG H H'∧zs=(List.replicate i true).map V.bl) ?_ ?_ ?_⟩
   ·exact⟨AN hD _,rfl⟩
   ·rintro i zs H1 hi ⟨e1,rfl⟩ hD1;have e1a:=e1 _ _ ha1;have e1b:=e1 _ _ ha2;have hx:=aI hi;have hy:=aI (l:=ys) (i:=i) (by lia);refine⟨⟨_,_,_,_,e1a,e1b,hx,hy⟩,Nat.lt_of_lt_of_le (show((List.replicate i true).map V.bl).length<60 by rw[List.length_map,List.length_replicate];lia) (by rw[sizeLine_eq];decide),fun v H' y=>?_⟩;obtain⟨p,x,z,rfl,np,rfl,q1,q2⟩:=y;have hx':=q1 _ e1a;have hy':=q2 _ e1b;rw[hx]at hx';rw[hy]at hy';cases hx';cases hy';obtain⟨e,he⟩:∃e,ds[i]? = some e:=⟨ds[i]'(by lia),by simp[show i<ds.length by lia]⟩;obtain⟨u1,w1,w2⟩:=k1.get he;obtain⟨u2,w3,w4⟩:=k2.get he;rw[hx]at w1;rw[hy]at w3;cases w1;cases w3;have sp:=AN np (.tup [xs[i],ys[i]'(by lia)]);refine⟨p,_,_,rfl,Ap.of AI,?_⟩;have E:=e1.trans sp;unfold Cq;refine BV ⟨_,rfl,_,rfl,e,_,_,m',rfl,rfl,hall e (aL he),w2.same E,w4.same E,fun H2 e2=>⟨e2 _ _ (sp _ _ hD1),BZ hi ⟨fun c o zz=>?_,?_⟩⟩⟩
    ·rw[AE (AK zz hD)];exact e2 _ _ (E _ _ zz)
    ·rw[List.replicate_succ',List.map_append];rfl
   ·rintro zs H1 ⟨e1,rfl⟩ hD1;refine⟨⟨_,_,e1 _ _ ha1,e1 _ _ ha2,.inl rfl⟩,D,_,rfl,AQ.of hD1,?_⟩;have:=q H1 e1;have ea:(List.replicate xs.length true).all id=true:=by simp
    rw[←ea]at this;exact this
end
abbrev ER(uss:List (List Aa)):PyData:=.list (uss.map BJ)
def intOf:PyData→Int
 |.int i=>i
 |_=>0
def Uy:PyData→Aa
 |.tuple [.tuple ps,r]=>(ps.map intOf,IL r)
 |_=>([],0)
def VQ:PyData→List Aa
 |.list ts=>ts.map Uy
 |_=>[]
def Ir:PyData→List (List Aa)
 |.list xs=>xs.map VQ
 |_=>[]
theorem N4:∀ps:List Int,(ps.map PyData.int).map intOf=ps
 |[]=>rfl
 |p::ps=>by rw[List.map_cons,List.map_cons,N4 ps];rfl
theorem Um(m:Aa):Uy (CZ m)=m:=by
 show((m.1.map PyData.int).map intOf,IL (AV m.2))=m;rw[N4,Pr]
theorem Je{α β:Type}{f:α→β}{g:β→α}(h:∀a,g (f a)=a):∀l:List α,(l.map f).map g=l
 |[]=>rfl
 |a::l=>by rw[List.map_cons,List.map_cons,Je h l,h]
theorem Uz(us:List Aa):VQ (BJ us)=us:=Je Um us
theorem T4(uss:List (List Aa)):Ir (ER uss)=uss:=Je Uz uss
theorem Wj(m:Aa):(CZ m).canLay0=true:=Tg fun d hd=>by
 rcases aS.mp hd with rfl|hd
 ·exact Tg fun d hd=>by obtain⟨p,_,rfl⟩:=aQ.mp hd;simp[PyData.canLay0]
 ·rw[List.mem_singleton.mp hd];exact SJ _
theorem WM(us:List Aa):(BJ us).canLay0=true:=Tj fun d hd=>by obtain⟨p,_,rfl⟩:=aQ.mp hd;exact Wj p
theorem VF(rs:List Rat):PyData.canLayAll0 (AZ rs)=true:=Kf fun d hd=>by
 unfold AZ at hd;obtain⟨p,_,rfl⟩:=aQ.mp hd;exact SJ p
open Classical in
noncomputable def Qw(ds:List PyData):Option PyData:=match ds with
 |[x,.list ys,.int n]=>if x=ER (Ir x)∧ys=AZ (ys.map IL)∧0≤n∧∃nn,Bk (Ir x) (ys.map IL) n.toNat nn then some (.list (BE (MF (Ir x) (ys.map IL) n.toNat))) else none
 |_=>none
theorem VU{uss:List (List Aa)}{rs:List Rat}{most nn:Nat}(o:Bk uss rs most nn):Qw [ER uss,.list (AZ rs),.int (most:Nat)]=some (.list (BE ((List.range nn).map fun u=>Ae (AX rs uss u) (most+1)))):=by
 rw[←Qr o];have e1:(AZ rs).map IL=rs:=Je Pr rs;have e2:=T4 uss;unfold Qw;refine(if_pos ⟨by rw[e2],by rw[e1],Int.natCast_nonneg _,nn,by rw[e2,e1];exact o⟩).trans ?_;rw[e2,e1]
 rfl
theorem OP{G H H':Hp}:∀ {rs:List (List Rat)} {xs:List V},Ay H' (BE rs) xs→(∀z∈xs,∃a,z=.ref a∧H a=none)→An (Gr G H H') (BE rs) xs
 |[],xs,h,_=>by
  have:=h.len;have e:xs=[]:=bb (by simpa[BE]using this);rw[e];exact .nil
 |q::qs,xs,h,hn=>by
  obtain⟨x,r,rfl,h1,h2⟩:=Ay.R7 (d:=Aq q) (ds:=BE qs) h;obtain⟨a,ys,e,ha,dy⟩:=h1.Mm;obtain⟨b,e2,hb⟩:=hn x (.head _);rw[e]at e2;cases e2;subst e;refine .cons ?_ (OP h2 fun z hz=>hn z (.tail _ hz));show Du _ (.list (AZ q)) _;rw[Du];exact⟨a,ys,rfl,VD ha hb,MY dy⟩
theorem Kz:∀ {n:Nat} {d:PyData},HX n d→d.canLay0=true
 |0,d,⟨i,h⟩=>by rw[h];simp[PyData.canLay0]
 |n+1,d,h=>by
  rcases h with ⟨i,h⟩|⟨ds,h,_,h2⟩
  ·rw[h];simp[PyData.canLay0]
  ·rcases h with h|h
   ·rw[h];exact Tg fun e he=>Kz (h2 e he)
   ·rw[h];exact Tj fun e he=>Kz (h2 e he)
open Classical in
noncomputable def Md(n:Nat)(ds:List PyData):Option PyData:=match ds with
 |[d,e]=>if d=e∧HX n d then some (.bool true) else none
 |_=>none
theorem XF{n:Nat}{d e:PyData}(h:d=e)(hn:HX n d):Md n [d,e]=some (.bool true):=if_pos ⟨h,hn⟩
section
variable{P:Program}{w:World}{K:PySem.W.Frag}{mg:Str→Option Value}{base:Heap}{CX:Hl}{k:Nat}{f:Addr}{fd:FuncData}{ps:List Str}
theorem ef(F:AL P w K mg base CX k f fd ps V8):AL P w K mg base CX k f fd ps (EY Qw) :=
 Na F fun ds x hm G H vs Q E d e kk=>by
  unfold Qw at hm;split at hm
  ·rename_i x ys n;split at hm
   ·rename_i hh;obtain⟨h1,h2,h3,nn,h4⟩:=hh;cases hm;generalize Ir x=uss at h1 h4 kk;generalize ys.map IL=rs at h2 h4 kk;subst h1 h2;obtain⟨v1,r,rfl,d1,d⟩:=d.un;obtain⟨v2,v3,rfl,d2,d3⟩:=d.LM;rw[Du]at d3;subst d3;have d1:=MW (Tj fun d hd=>by obtain⟨p,_,rfl⟩:=aQ.mp hd;exact WM p) (d1.same e);have d2:=MW (by simp only[PyData.canLay0];exact VF _) (d2.same e);obtain⟨C,cs,rfl,hC,dc⟩:=d1.Mm;obtain⟨S,ss,rfl,hS,dS⟩:=d2.Mm;refine⟨C,S,cs,ss,uss,rs,n.toNat,nn,by rw[Int.toNat_of_nonneg h3],hC,dc,hS,dS,h4,fun D H' zs e' hD hD' dz nz=>?_⟩;obtain⟨n1,n2,n3⟩:=YW e e';refine kk (.ref D) _ H' n1 n2 n3 e' ?_;rw[Du];exact⟨D,zs,rfl,VD hD' hD,OP dz nz⟩
   ·cases hm
  ·cases hm
theorem Y6{n:Nat}(F:AL P w K mg base CX k f fd ps (VB (n+1))):AL P w K mg base CX k f fd ps (EY (Md n)) :=
 Na F fun ds x hm G H vs Q E d e kk=>by
  unfold Md at hm;split at hm
  ·split at hm
   ·rename_i hh;obtain⟨h1,h2⟩:=hh;cases hm;subst h1;obtain⟨v1,v2,rfl,d1,d2⟩:=d.LM;refine⟨_,v1,v2,n,rfl,rfl,h2,MW (Kz h2) (d1.same e),MW (Kz h2) (d2.same e),fun H' e'=>?_⟩;exact kk (.bl true) G H' (.refl _) Nw.refl (e.trans e') e' (by rw[Du])
   ·cases hm
  ·cases hm
end
def NV(many:Nat)(t:IT.Tm):Prop:=(t.1.length=many∧t.1.sum≤3)∧(∀p∈t.1,(0:Int)≤p∧p≤3)∧∃r:Rat,t.2=[r.num,(r.den:Int)]∧r≠0∧r.num.natAbs≤6∧r.den≤6
def LR(t:IT.Tm):PyData:=.tuple [.tuple (t.1.map .int),.tuple (t.2.map .int)]
def Gb(many:Nat)(us:List IT.Tm):Prop:=us.length≤12∧(∀t∈us,NV many t)∧us.Pairwise (fun x y=>IT.lt y.1 x.1=true)
theorem W4{κ:Type}[DecidableEq κ]{kvs:List (κ×V)}{k:κ}{v:V}{x:κ×V}(h:x∈putK kvs k v):x∈kvs∨x=(k,v):=by
 unfold putK at h;split at h
 ·obtain⟨y,hy,e⟩:=aQ.mp h;split at e
  ·rename_i z
   right;rw[←e,←z]
  ·left;rw[←e];exact hy
 ·rcases aZ.mp h with h|h
  ·exact .inl h
  ·exact .inr (List.mem_singleton.mp h)
theorem UC{κ:Type}[DecidableEq κ]{kvs:List (κ×V)}{k:κ}(v:V)(h:(kvs.map (·.1)).Nodup):((putK kvs k v).map (·.1)).Nodup:=by
 cases e:Bu kvs k with
 |none=>exact X3 v h e
 |some y =>
  unfold putK;rw[F7,e,if_pos (show(some y).isSome=true from rfl),List.map_map];have:(kvs.map ((fun x:κ×V=>x.1) ∘ fun kv=>if kv.1=k then(kv.1,v) else kv))=kvs.map (·.1):=by
   apply aU;intro x _;simp only[Function.comp];split<;>rfl
  rw[this];exact h
def Gp(many:Nat)(H:Hp)(kv:List Key×V):Prop:=∃t:IT.Tm,kv.1=t.1.map Sum.inl∧(∃c,kv.2=.ref c∧H c=some (.tup (t.2.map V.int)))∧NV many t
theorem Gp.step{many:Nat}{H H':Hp}{kv:List Key×V}(e:∀c ys,H c=some (.tup ys)→H' c=some (.tup ys))(h:Gp many H kv):Gp many H' kv:=by
 obtain⟨t,h1,⟨c,h2,h3⟩,h4⟩:=h;exact⟨t,h1,⟨c,h2,e _ _ h3⟩,h4⟩
theorem Nt{many:Nat}{H:Hp}:∀ {kvs:List (List Key×V)},(∀kv∈kvs,Gp many H kv)→∃ts:List IT.Tm,ts.length=kvs.length∧(∀t∈ts,NV many t)∧kvs.map (·.1)=ts.map (fun t=>t.1.map Sum.inl) ∧
  ∀(j:Nat) k v t,kvs[j]? = some (k,v)→ts[j]? = some t→k=t.1.map Sum.inl∧∃c,v=.ref c∧H c=some (.tup (t.2.map V.int))
 |[],_=>⟨[],rfl,fun _ z=>(bS z).elim,rfl,fun j k v t h=>by simp at h⟩
 |kv::kvs,h=>by
  obtain⟨ts,h1,h2,h3,h4⟩:=Nt (kvs:=kvs) fun x hx=>h x (aV _ hx);obtain⟨t,k1,k2,k3⟩:=h kv aa;refine⟨t::ts,by simp[h1],fun x hx=>?_,by rw[List.map_cons,List.map_cons,h3,k1],fun j k v t' e1 e2=>?_⟩
  ·rcases aS.mp hx with rfl|hx
   ·exact k3
   ·exact h2 x hx
  ·cases j with
   |zero =>
    simp at e1 e2;subst e1 e2;exact⟨k1,k2⟩
   |succ j=>exact h4 j k v t' (by simpa using e1) (by simpa using e2)
theorem Od{us ts:List IT.Tm}(hp:us.Perm ts)(hn:(ts.map fun t=>t.1.map (Sum.inl:Int→Key)).Nodup)(hs:us.Pairwise (fun x y=>IT.Hw.kle y x)):us.Pairwise (fun x y=>IT.lt y.1 x.1=true):=by
 have hn':(us.map fun t=>t.1.map (Sum.inl:Int→Key)).Nodup:=(hp.map _).nodup_iff.mpr hn;rw[List.Nodup,List.pairwise_map]at hn';refine(hs.and hn').imp fun {x y} h=>?_;obtain⟨h1,h2⟩:=h;have hne:x.1≠y.1:=fun z=>h2 (by rw[z]);have h3:IT.FL x y=false:=h1;unfold IT.FL at h3;rw[if_neg hne]at h3;cases h4:IT.lt y.1 x.1 with
 |true=>rfl
 |false=>exact absurd (IT.Jb _ _ h3 h4) hne
theorem Nf{c:Addr}{H:Hp}:∀(ps:List Int),AO c H (ps.map .int) (ps.map V.int)
 |[]=>.nil
 |p::ps=>.cons .int (Nf ps)
theorem QQ{c:Addr}{zc:List V}{H1 H':Hp}(e:AG H1 H')(hc:H1 c=some (.lst zc)):∀ {us:List IT.Tm} {zs:List V},zs.length=us.length →
  (∀(j:Nat) z t,zs[j]? = some z→us[j]? = some t→∃p b d,z=.ref p∧H1 p=none∧H' p=some (.tup [.ref b,.ref d])∧H1 b=some (.tup (t.1.map V.int))∧H1 d=some (.tup (t.2.map V.int)))→AO c H' (us.map LR) zs
 |[],[],_,_=>.nil
 |[],_::_,h,_=>by simp at h
 |_::_,[],h,_=>by simp at h
 |t::us,z::zs,hl,h=>by
  obtain⟨p,b,d,rfl,h1,h2,h3,h4⟩:=h 0 z t rfl rfl;have nt:∀ {x:Addr} {ys:List V},H1 x=some (.tup ys)→x≠c:=fun hx zz=>by rw[zz,hc]at hx;cases hx
  exact .cons (.tup (fun zz=>by rw[zz,hc]at h1;cases h1) h2 (.cons (.tup (nt h3) (e _ _ h3) (Nf _)) (.cons (.tup (nt h4) (e _ _ h4) (Nf _)) .nil)))
   (QQ e hc (by simpa using hl) fun j z' t' hz ht=>h (j+1) z' t' (by simpa using hz) (by simpa using ht))
def U3:Sp:=fun vs H Q _=>∃(l:Addr) (x:Int) (many mo:Nat),vs=[.ref l,.int many,.int mo]∧mo≤3∧H l=some (.lst [.int x])∧1≤many∧many≤4 ∧
 ∀v H' us,SameBut l H H'→Gb many us→(∀c zs,H c=some (.lst zs)→Dt c H' (.list (us.map LR)) v)→Q v H'
theorem X2{ps:List Int}{r:Int}(h0:0≤r)(h1:r≤(ps.length:Nat)):Bo (ps.map V.int) (some r) none++Bo (ps.map V.int) none (some r)=(ps.drop r.toNat++ps.take r.toNat).map V.int:=by
 have e:(some r)=some ((r.toNat:Nat):Int):=by rw[show((r.toNat:Nat):Int)=r by lia]
 unfold Bo;rw[e,HT.JX,HT.JX,HT.HJ,HT.HJ,List.length_map,Nat.min_eq_left (by lia),List.drop_zero,Nat.sub_zero,List.map_append,List.map_drop,List.map_take]
 congr 1
 rw[List.take_of_length_le (by rw[List.length_drop,List.length_map];lia)]
section
variable{P:Program}{w:World}{K:PySem.W.Frag}{mg:Str→Option Value}{base:Heap}{f g g1 g2 g4 g5:Addr}{fd gd gd1 gd2:FuncData}
theorem PB:Ad ["_law_pile", "_law_many", "_law_most", "_law_counts", "_law_count", "_law_k", "_law_powers", "_law_left", "_law_j", "_law_turn", "_law_part_here"] ["_law_pile", "_law_many", "_law_most"] (AM Ij):=⟨rfl,rfl,rfl,by decide +kernel,rfl,by decide +kernel,by decide +kernel⟩
structure Fy(H:Hp)(l C:Addr)(kvs:List (List Key×V))(many n:Nat)(H':Hp):Prop where
 tr:SameBut l H H'
 Fu:∃y,H' l=some (.lst [.int y])
 IG:H' C=some (.dT kvs)
 len:kvs.length≤n
 nd:(kvs.map (·.1)).Nodup
 ok:∀kv∈kvs,Gp many H' kv
theorem Fy.same{H:Hp}{l C:Addr}{kvs:List (List Key×V)}{many n:Nat}{H1 H2:Hp}(g:Fy H l C kvs many n H1)(e:AG H1 H2):Fy H l C kvs many n H2 :=
 ⟨g.tr.trans (.of e),let⟨y,h⟩:=g.Fu;⟨y,e _ _ h⟩,e _ _ g.IG,g.len,g.nd,fun kv h=>(g.ok kv h).step fun c ys=>e c _⟩
theorem Fy.take{H:Hp}{l C:Addr}{kvs:List (List Key×V)}{many n:Nat}{H1:Hp}(g:Fy H l C kvs many n H1)(nC:C≠l)(y:Int):Fy H l C kvs many n (upd H1 l (.lst [.int y])) :=
 let⟨_,hl⟩:=g.Fu
 ⟨g.tr.trans .upd,⟨y,AI⟩,by rw[AE nC];exact g.IG,g.len,g.nd,fun kv h=>(g.ok kv h).step fun c ys hc=>by rw[AE (fun z=>by rw[z,hl]at hc;cases hc)];exact hc⟩
theorem Fy.list{H:Hp}{l C p:Addr}{kvs:List (List Key×V)}{many n:Nat}{H1:Hp}{ys zs:List V}(g:Fy H l C kvs many n H1)(hp:H p=none)(np:p≠l)(nC:p≠C)(h:H1 p=some (.lst ys)):Fy H l C kvs many n (upd H1 p (.lst zs)) :=
 ⟨fun b o nb z=>by rw[AE (AK z hp)];exact g.tr _ _ nb z,let⟨y,hy⟩:=g.Fu;⟨y,by rw[AE np.symm];exact hy⟩,by rw[AE nC.symm];exact g.IG,g.len,g.nd,fun kv hk=>(g.ok kv hk).step fun c ws hc=>by rw[AE (fun z=>by rw[z,h]at hc;cases hc)];exact hc⟩
theorem PX(F:Fn K mg "_law_poly" Ij ["_law_pile", "_law_many", "_law_most"] f fd)(Be:Fn K mg "_law_take" GD ["_law_pile", "_law_size"] g1 gd1)(C5:Fn K mg "_law_part" GO ["_law_pile"] g2 gd2)
 (DB:AL P w K mg base Ac 3 g1 gd1 ["_law_pile", "_law_size"] Qm)(Ik:AL P w K mg base Ac 3 g2 gd2 ["_law_pile"] NF)(Ar:mg "range" = none)(Fx:mg "sorted" = none)(Bd:mg "tuple" = none):AL P w K mg base Ac 4 f fd ["_law_pile", "_law_many", "_law_most"] U3:=by
 have sc:=PB;refine F.F.ok (k:=3) sc (fun vs H Q E h=>?_) (fun cdv A outer s H vs Q E hr h=>?_)
 ·obtain⟨l,x,many,mo,rfl,_⟩:=h
  rfl
 obtain⟨l,x,many,mo,rfl,hmo,hl,hm1,hm4,q⟩:=h;refine⟨_,(AB (AW (i:=3) sc.nd rfl (Or.inl rfl) Lq)
 (AB (AW (i:=4) sc.nd rfl (Or.inl rfl) (Aj Be DB hr rfl (AA (pv 0) (AA AH AD))))
 (AB (BK (Au Fi (pv 4) AH (Ao _))
  (AF (AW (i:=4) sc.nd rfl (Or.inl rfl) (Ab CU (pv 4) (Aj Be DB hr rfl (AA (pv 0) (AA AH AD))))))
  Ax)
 (AB (Bf aK rfl (Dd rfl Ar (AA (pv 4) AD)) (Al (i:=5) sc.nd rfl (Or.inl rfl))
  (AB (AW (i:=6) sc.nd rfl (Or.inl rfl) (Dr AD))
  (AB (AW (i:=7) sc.nd rfl (Or.inl rfl) (pv 2))
  (AB (Bf aK rfl (Dd rfl Ar (AA (pv 1) AD)) (Al (i:=8) sc.nd rfl (Or.inl rfl))
   (AB (DY (K0 bH bX bY FK (pv 6) (AA (Aj Be DB hr rfl (AA (pv 0) (AA (Ab CU (pv 7) AH) AD))) AD)))
   (AF (AW (i:=7) sc.nd rfl (Or.inl rfl) (Ab EW (pv 7) (BG D6 (pv 6) (XT Vs AH) (fun _ _=>rfl)))))))
  (AB (AW (i:=9) sc.nd rfl (Or.inl rfl) (Aj Be DB hr rfl (AA (pv 0) (AA (pv 1) AD))))
  (AB (AW (i:=10) sc.nd rfl (Or.inl rfl) (Aj C5 Ik hr rfl (AA (pv 0) AD)))
  (AF (BK (Au (QP (by have:=hr.units;exact this)) (pv 10) (GY (AA AH (AA AH AD))) (Ao _))
   (AF (NC (by have:=hr.units;exact aP (bR (show 1≤64 by decide) _) this) (pv 3) (GP Ot rfl Bd bG (AA (Ab Px (Hh Nk (pv 6) (Iy (pv 9)) Iw) (Hh Nk (pv 6) Iw (Iy (pv 9)))) AD)) (pv 10) rfl))
   Ax))))))))
 (AF (Af (WA rfl (by have:=hr.units;exact this) rfl Fx (pv 3)))))))),?_⟩
 refine fun C hC=>?_;have nC:C≠l:=(AK hl hC).symm;have g0:Fy H l C [] many 0 (upd H C (.dT [])):=⟨.of (AN hC _),⟨x,AN hC _ _ _ hl⟩,AI,Nat.le_refl _,List.nodup_nil,fun _ z=>(bS z).elim⟩;generalize upd H C (.dT [])=H1 at g0;obtain⟨x1,hl1⟩:=g0.Fu;refine⟨_,rfl,l,x1,5,rfl,hl1,by decide,by decide,fun cnt y0 c0 c1=>?_⟩;have g0:=g0.take nC y0;generalize upd H1 l (.lst [.int y0])=H2 at g0
 try dsimp only[CM]
 refine Ez (fun σ' H'=>∃n:Nat,n≤12∧σ'=[some (.ref l),some (.int many),some (.int mo),some (.ref C),some (.int n),none,none,none,none,none,none]∧Fy H l C [] many 0 H') (fun nx hnx=>?_) ?_
 ·refine⟨_,rfl,rfl,_,rfl,BQ (fun c=>?_) (fun c=>?_)⟩
  ·obtain⟨x2,hl2⟩:=g0.Fu;have e4:cnt=4:=by simpa using c
   refine⟨_,rfl,_,rfl,l,x2,9,rfl,hl2,by decide,by decide,fun r y1 r0 r1=>⟨_,_,rfl,rfl,hnx _ _ ⟨(cnt+r).toNat,by lia,?_,g0.take nC y1⟩⟩⟩;show [some (V.ref l),some (V.int many),some (V.int mo),some (V.ref C),some (V.int (cnt+r)),none,none,none,none,none,none]=_;rw[show(((cnt+r).toNat:Nat):Int)=cnt+r by lia]
  ·refine hnx _ _ ⟨cnt.toNat,by lia,?_,g0⟩;show [some (V.ref l),some (V.int many),some (V.int mo),some (V.ref C),some (V.int cnt),none,none,none,none,none,none]=_;rw[show((cnt.toNat:Nat):Int)=cnt by lia]
 rintro σ' H3 ⟨n,hn,rfl,g0⟩;refine⟨_,rfl,(n:Int),rfl,by lia,by lia,GW (n:=(n:Int).toNat) (fun i σ H'=>∃(r5 r6 r7 r8 r9 r10:Option V) (kvs:List (List Key×V)),σ=[some (.ref l),some (.int many),some (.int mo),some (.ref C),some (.int n),r5,r6,r7,r8,r9,r10]∧Fy H l C kvs many i H') ?_ ?_ ?_⟩
 ·exact⟨_,_,_,_,_,_,[],rfl,g0⟩
 ·rintro i σ H4 hi ⟨r5,r6,r7,r8,r9,r10,kvs,rfl,g4⟩;refine⟨CC (by decide),fun p hp=>?_⟩;have hpn:H p=none:=by
   cases z:H p with
   |none=>rfl
   |some o =>
    have np:p≠l:=fun zz=>by
     obtain⟨y,hy⟩:=g4.Fu;rw[zz,hy]at hp;cases hp
    rw[g4.tr _ _ np z]at hp;cases hp
  have np:p≠l:=let⟨y,hy⟩:=g4.Fu;(AK hy hp).symm;have npC:p≠C:=(AK g4.IG hp).symm;have g5:=g4.same (AN hp (.lst []));have h5:upd H4 p (.lst []) p=some (.lst []):=AI;generalize upd H4 p (.lst [])=H5 at g5 h5;refine⟨_,rfl,?_⟩;refine⟨_,rfl,(many:Int),rfl,by lia,by lia,GW (n:=(many:Int).toNat) (fun j σ H'=>∃(r8:Option V) (left:Int) (ps:List Int),σ=[some (.ref l),some (.int many),some (.int mo),some (.ref C),some (.int n),some (.int (0+(i:Nat))),some (.ref p),some (.int left),r8,r9,r10]∧Fy H l C kvs many i H'∧H' p=some (.lst (ps.map V.int))∧ps.length=j∧(∀z∈ps,(0:Int)≤z∧z≤3)∧0≤left∧left≤3∧ps.sum+left=mo) ?_ ?_ ?_⟩
  ·exact⟨_,(mo:Int),[],rfl,g5,h5,rfl,fun _ z=>(bS z).elim,by lia,by lia,by simp⟩
  ·rintro j σ H6 hj ⟨r8,left,ps,rfl,g6,h6,hpl,hps,l0,l3,lsum⟩;obtain⟨x6,hl6⟩:=g6.Fu;refine⟨_,rfl,.inl ⟨rfl,_,AQ.of h6⟩,_,rfl,_,rfl,_,_,rfl,rfl,l,x6,left+1,rfl,hl6,by lia,by lia,fun r y r0 r1=>?_⟩;have g7:=g6.take nC y;have h7:upd H6 l (.lst [.int y]) p=some (.lst (ps.map V.int)):=by rw[AE np];exact h6
   generalize upd H6 l (.lst [.int y])=H7 at g7 h7;refine⟨p,_,_,rfl,rfl,h7,Cj (n:=60) (by rw[List.length_map];lia) (by decide),?_⟩;have g8:=g7.list hpn np npC h7 (zs:=ps.map V.int++[.int r]);have h8:upd H7 p (.lst (ps.map V.int++[.int r])) p=some (.lst ((ps++[r]).map V.int)):=by rw[AI,List.map_append];rfl
   generalize upd H7 p (.lst (ps.map V.int++[.int r]))=H8 at g8 h8;have hat:Cy ((ps++[r]).map V.int) (-1)=some (.int r):=by
    unfold Cy Jq;rw[if_neg (by decide),if_pos (by rw[List.length_map,List.length_append,List.length_singleton];lia)];rw[List.length_map,List.length_append,List.length_singleton,show((-1:Int)+((ps.length+1:Nat):Int)).toNat=ps.length by lia];simp
   refine⟨_,rfl,_,rfl,_,rfl,_,_,_,_,rfl,rfl,AQ.of h8,hat,_,_,rfl,rfl,_,left-r,ps++[r],rfl,g8,h8,by simp[hpl],fun z hz=>?_,by lia,by lia,by rw[List.sum_append,List.sum_singleton];lia⟩;rcases aZ.mp hz with hz|hz
   ·exact hps z hz
   ·rw[List.mem_singleton.mp hz];exact⟨r0,by lia⟩
  ·rintro σ H6 ⟨r8,left,ps,rfl,g6,h6,hpl,hps,l0,l3,lsum⟩;obtain⟨x6,hl6⟩:=g6.Fu;refine⟨_,rfl,_,rfl,l,x6,(many:Int),rfl,hl6,by lia,by lia,fun turn y t0 t1=>?_⟩;have g7:=g6.take nC y;have h7:upd H6 l (.lst [.int y]) p=some (.lst (ps.map V.int)):=by rw[AE np];exact h6
   generalize upd H6 l (.lst [.int y])=H7 at g7 h7;obtain⟨x7,hl7⟩:=g7.Fu;refine⟨_,rfl,l,x7,rfl,hl7,fun c fr y8 H8 e8 hc r6 d6=>?_⟩;have g8:=(g7.take nC y8).same e8;have h8:H8 p=some (.lst (ps.map V.int)):=e8 _ _ (by rw[AE np];exact h7);obtain⟨ta,hta0⟩:∃ta,ta=fr.num:=⟨_,rfl⟩;obtain⟨tb,htb0⟩:∃tb,tb=(fr.den:Int):=⟨_,rfl⟩
   replace hc:H8 c=some (.tup [.int ta,.int tb]):=by rw[hta0,htb0];exact hc
   refine⟨_,rfl,CC (show 2≤60 by decide),fun q0 hq=>?_⟩;have e9:=AN hq (.tup [.int 0,.int 1]);have hq9:upd H8 q0 (.tup [.int 0,.int 1]) q0=some (.tup [.int 0,.int 1]):=AI;generalize upd H8 q0 (.tup [.int 0,.int 1])=H9 at e9 hq9;have g9:=g8.same e9;have h9:=e9 _ _ h8;have hc9:=e9 _ _ hc;have sh:∀a b:Int,SeqAt.shaped (.tuple [.int a,.int b])=true:=fun a b=>(Sm.tup (n:=0) (ds:=[.int a,.int b]) (show 2≤60 by decide) (fun x hx=>by
    rcases aS.mp hx with rfl|hx
    ·trivial
    ·rw[List.mem_singleton.mp hx];trivial)).ok.shaped (by decide)
   obtain⟨x9,hl9⟩:=g9.Fu;have ntl:∀ {b:Addr} {ys:List V},H9 b=some (.tup ys)→b≠l:=fun hb z=>by rw[z,hl9]at hb;cases hb
   refine⟨.tuple [.int ta,.int tb],.tuple [.int 0,.int 1],(Dt.tup (ntl hc9) hc9 (.cons .int (.cons .int .nil))).br,(Dt.tup (ntl hq9) hq9 (.cons .int (.cons .int .nil))).br,sh _ _,sh _ _,_,rfl,BQ (fun b=>?_) (fun b=>?_)⟩
   ·have hfr0:fr≠0:=fun z=>by
     have e1:ta=0:=by rw[hta0,z];rfl
     have e2:tb=1:=by rw[htb0,z];rfl
     subst e1 e2;exact absurd b (by simp[PyData.eqv,PyData.eqvAll])
    refine⟨_,rfl,_,rfl,_,rfl,_,rfl,_,rfl,p,_,rfl,AQ.of h9,fun p1 hp1=>?_⟩;have ea:=AN hp1 (.lst (Bo (ps.map V.int) (some turn) none));have ha1:upd H9 p1 (.lst (Bo (ps.map V.int) (some turn) none)) p1=some (.lst (Bo (ps.map V.int) (some turn) none)):=AI;generalize upd H9 p1 (.lst (Bo (ps.map V.int) (some turn) none))=Ha at ea ha1;refine⟨_,rfl,_,rfl,_,rfl,p,_,rfl,AQ.of (ea _ _ h9),fun p2 hp2=>?_⟩;have eb:=AN hp2 (.lst (Bo (ps.map V.int) none (some turn)));have hb2:upd Ha p2 (.lst (Bo (ps.map V.int) none (some turn))) p2=some (.lst (Bo (ps.map V.int) none (some turn))):=AI;generalize upd Ha p2 (.lst (Bo (ps.map V.int) none (some turn)))=Hb at eb hb2;refine⟨p1,p2,_,_,rfl,rfl,eb _ _ ha1,hb2,?_,fun p3 hp3=>?_⟩
    ·have z1:=D5 (ps.map V.int) (some turn) none;have z2:=D5 (ps.map V.int) none (some turn);rw[List.length_map]at z1 z2;exact CC (by lia)
    rw[X2 t0 (by lia)]at *;have ec:=AN hp3 (.lst ((ps.drop turn.toNat++ps.take turn.toNat).map V.int));have hc3:upd Hb p3 (.lst ((ps.drop turn.toNat++ps.take turn.toNat).map V.int)) p3=some (.lst ((ps.drop turn.toNat++ps.take turn.toNat).map V.int)):=AI;generalize upd Hb p3 (.lst ((ps.drop turn.toNat++ps.take turn.toNat).map V.int))=Hc at ec hc3;refine⟨p3,_,rfl,.inl ⟨AQ.of hc3,fun p4 hp4=>?_⟩⟩;have ed:=AN hp4 (.tup ((ps.drop turn.toNat++ps.take turn.toNat).map V.int));have hd4:upd Hc p4 (.tup ((ps.drop turn.toNat++ps.take turn.toNat).map V.int)) p4=some (.tup ((ps.drop turn.toNat++ps.take turn.toNat).map V.int)):=AI;generalize upd Hc p4 (.tup ((ps.drop turn.toNat++ps.take turn.toNat).map V.int))=Hd at ed hd4;have E:=ea.trans (eb.trans (ec.trans ed));have gd:=g9.same E;have hcd:=E _ _ hc9;refine⟨C,_,rfl,Lp.t gd.IG (k:=(ps.drop turn.toNat++ps.take turn.toNat).map Sum.inl) (by rw[Qd];exact hd4) (Cj (n:=60) (by have:=gd.len;lia) (by decide)),?_⟩;have hCn:∀c ys,Hd c=some (.tup ys)→c≠C:=fun c ys hh z=>by rw[z,gd.IG]at hh;cases hh
    refine⟨_,_,_,_,_,_,_,rfl,⟨fun b o nb z=>by rw[AE (AK z hC)];exact gd.tr _ _ nb z,let⟨y,hy⟩:=gd.Fu;⟨y,by rw[AE nC.symm];exact hy⟩,AI,Nat.le_trans (Io _ _ _) (Nat.succ_le_succ gd.len),UC _ gd.nd,fun kv hk=>?_⟩⟩;rcases W4 hk with hk|rfl
    ·exact(gd.ok kv hk).step fun c ys hh=>by rw[AE (hCn c ys hh)];exact hh
    ·refine⟨(ps.drop turn.toNat++ps.take turn.toNat,[ta,tb]),rfl,⟨c,rfl,by rw[AE (hCn _ _ hcd)];exact hcd⟩,?_,fun z hz=>?_,fr,by rw[hta0,htb0],hfr0,r6,d6⟩
     ·refine⟨by simp only[List.length_append,List.length_drop,List.length_take];lia,?_⟩;show(ps.drop turn.toNat++ps.take turn.toNat).sum≤3;have es:(ps.take turn.toNat++ps.drop turn.toNat).sum=ps.sum:=by rw[List.take_append_drop]
      rw[List.sum_append]at es;rw[List.sum_append]
      lia
     ·rcases aZ.mp hz with hz|hz
      ·exact hps z (List.mem_of_mem_drop hz)
      ·exact hps z (List.mem_of_mem_take hz)
   ·exact⟨_,_,_,_,_,_,kvs,rfl,⟨g9.tr,g9.Fu,g9.IG,Nat.le_succ_of_le g9.len,g9.nd,g9.ok⟩⟩
 ·rintro σ H4 ⟨r5,r6,r7,r8,r9,r10,kvs,rfl,g4⟩;obtain⟨ts,k1,k2,k3,k4⟩:=Nt g4.ok;have hlen:=g4.len;refine⟨_,rfl,C,kvs,ts,rfl,g4.IG,by lia,k1,k4,fun D H' zs us e hD hD' hp hs hzl hz=>?_⟩;obtain⟨y4,hl4⟩:=g4.Fu;refine q _ H' us (g4.tr.trans (.of e)) ⟨by rw[hp.length_eq,k1];lia,fun t ht=>k2 t (hp.mem_iff.mp ht),Od hp (by rw[←k3];exact g4.nd) hs⟩ fun c zc hc=>?_;have hc4:∃zc',H4 c=some (.lst zc'):=by
   by_cases z:c=l
   ·subst z;exact⟨_,hl4⟩
   ·exact⟨_,g4.tr _ _ z hc⟩
  obtain⟨zc',hc4⟩:=hc4;exact .lst (AK hc4 hD).symm hD' (QQ e hc4 hzl hz)
end
def Gd(us:List IT.Tm):PyData:=.list (us.map LR)
def Pd(K:PySem.W.Frag):Sp:=fun vs H Q _=>∃(a:Addr) (ns:List Int) (many mo:Nat),vs=[.ref a,.int 1,.int many,.int mo]∧mo≤3∧AQ K H a (ns.map V.int)∧1≤many∧many≤4 ∧
 ∀v H' (uss:List (List IT.Tm)),AG H H'→uss.length=many→(∀us∈uss,Gb many us)→DU H' (.list (uss.map Gd)) v→Q v H'
def IB(t:IT.Tm):Aa:=(t.1,Rat.divInt (t.2.getD 0 0) (t.2.getD 1 1))
theorem Vv{many:Nat}{t:IT.Tm}(ok:NV many t):LR t=CZ (IB t)∧FM.Fits (IB t).2 3∧(IB t).2.den≤6∧(IB t).2≠0:=by
 obtain⟨_,_,r,h1,h2,h3,h4⟩:=ok;have e:(IB t).2=r:=by
  unfold IB;rw[h1];exact FM.Cd r
 refine⟨?_,?_,by rw[e];exact h4,by rw[e];exact h2⟩
 ·unfold LR CZ;rw[e,h1]
  rfl
 ·rw[e];exact⟨aP h3 (by decide),Nat.lt_of_le_of_lt h4 (by decide)⟩
theorem Rt{many:Nat}{us:List IT.Tm}(ok:Gb many us):Gd us=BJ (us.map IB):=by
 unfold Gd BJ;rw[List.map_map]
 congr 1
 exact aU fun t ht=>(Vv (ok.2.1 t ht)).1
section
variable{P:Program}{w:World}{K:PySem.W.Frag}{mg:Str→Option Value}{base:Heap}{f g1 g2:Addr}{fd gd1 gd2:FuncData}
theorem Nb:Ad ["_law_script", "_law_start_here", "_law_many", "_law_most"] ["_law_script", "_law_start_here", "_law_many", "_law_most"] (AM Gi):=⟨rfl,rfl,rfl,by decide +kernel,rfl,by decide +kernel,by decide +kernel⟩
theorem My(F:Fn K mg "_law_change" Gi ["_law_script", "_law_start_here", "_law_many", "_law_most"] f fd)(CB:Fn K mg "_law_cell" GK ["_law_script", "_law_k"] g1 gd1)(GG:Fn K mg "_law_poly" Ij ["_law_pile", "_law_many", "_law_most"] g2 gd2)
 (Ej:AL P w K mg base Ac 4 g1 gd1 ["_law_script", "_law_k"] (NQ K))(Rc:AL P w K mg base Ac 4 g2 gd2 ["_law_pile", "_law_many", "_law_most"] U3)(Ar:mg "range" = none):AL P w K mg base Ac 5 f fd ["_law_script", "_law_start_here", "_law_many", "_law_most"] (Pd K):=by
 have sc:=Nb;refine F.F.ok (k:=4) sc (fun vs H Q E h=>?_) (fun cdv A outer s H vs Q E hr h=>?_)
 ·obtain⟨a,ns,many,mo,rfl,_⟩:=h
  rfl
 obtain⟨a,ns,many,mo,rfl,hmo,hS,hm1,hm4,q⟩:=h;refine⟨_,(AF (Af (DC [".0", "_law_k", "_law_many", "_law_most", "_law_script", "_law_start_here"] 1 [none,none,some 2,some 3,some 0,some 1] (Dd rfl Ar (AA (pv 2) AD)) (fun _ _ _ _ _=>Bl) (fun _ _ _ _ _=>(Aj GG Rc hr rfl (AA (Dr (AA (Aj CB Ej hr rfl (AA (pv 4) (AA (Ab CU (pv 5) (pv 1)) AD))) AD)) (AA (pv 2) (AA (pv 3) AD)))))))),?_⟩;refine⟨_,rfl,(many:Int),rfl,by lia,by lia,fun D hD=>Ce (n:=(many:Int).toNat) (fun i ys H'=>AG H H'∧∃uss:List (List IT.Tm),uss.length=i∧(∀us∈uss,Gb many us)∧AO D H' (uss.map Gd) ys) ?_ ?_ ?_⟩
 ·exact⟨AN hD _,[],rfl,fun _ z=>(bS z).elim,.nil⟩
 ·rintro i ys H0 hi ⟨e0,uss,hul,huo,hd⟩ hD0;refine⟨hi,Cj (n:=60) (by rw[hd.len,List.length_map];lia) (by decide),fun x H' y=>?_⟩;obtain⟨rfl,rfl⟩:=y;unfold Cq;refine BV ⟨_,rfl,_,rfl,_,rfl,_,_,rfl,rfl,a,ns,_,rfl,e0.seq hS,by lia,by lia,fun cell=>?_⟩;refine⟨CC (show 1≤60 by decide),fun l hl=>?_⟩;have e1:=AN hl (.lst [.int cell]);have hl1:upd H' l (.lst [.int cell]) l=some (.lst [.int cell]):=AI;have nl:D≠l:=AK hD0 hl;have hln:∀o,H l≠some o:=fun o z=>by rw[e0 _ _ z]at hl;cases hl
  have dl:AO l (upd H' l (.lst [.int cell])) (uss.map Gd) ys:=(GN hl hd).same e1;generalize upd H' l (.lst [.int cell])=H1 at e1 hl1 dl;refine⟨_,rfl,_,rfl,l,cell,many,mo,rfl,hmo,hl1,hm1,hm4,fun v H2 us e2 ok dt=>?_⟩;have hD2:H2 D=some (.lst ys):=e2 _ _ nl (e1 _ _ hD0);have k1:AO D H2 ((uss++[us]).map Gd) (ys++[v]):=by
   rw[List.map_append];exact(HF e2 (hd.same e1) dl).app (.cons (dt D _ (e1 _ _ hD0)) .nil)
  refine⟨hD2,BZ hi ⟨fun b o z=>?_,uss++[us],by simp[hul],fun u hu=>?_,.but .upd k1⟩⟩
  ·rw[AE (AK z hD)];exact e2 _ _ (fun zz=>hln o (zz ▸ z)) (e1 _ _ (e0 _ _ z))
  ·rcases aZ.mp hu with hu|hu
   ·exact huo u hu
   ·rw[List.mem_singleton.mp hu];exact ok
 ·rintro ys H0 ⟨e0,uss,hul,huo,hd⟩ hD0;exact⟨aG _,q _ H0 uss e0 (by lia) huo (.lst hD0 (CO hd))⟩
end
def cE(r:Rat):Prop:=FM.Fits r 3∧r.den≤6
def MQ(l:Addr)(Hb:Hp)(i:Nat)(ys:List V)(H':Hp):Prop:=SameBut l Hb H'∧(∃y,H' l=some (.lst [.int y]))∧ys.length=i∧∃rs:List Rat,rs.length=i∧(∀r∈rs,cE r)∧Ay H' (AZ rs) ys
theorem Wf{l D:Addr}{Hb:Hp}{y:Int}(hl:Hb l=some (.lst [.int y]))(hD:Hb D=none):MQ l Hb 0 [] (upd Hb D (.lst [])):=⟨.of (AN hD _),⟨y,AN hD _ _ _ hl⟩,rfl,[],rfl,fun _ z=>(bS z).elim,.nil⟩
theorem RN{l D p:Addr}{Hb H1 H2:Hp}{yb y2:Int}{i:Nat}{ys:List V}{r:Rat}(hl:Hb l=some (.lst [.int yb]))(hD:Hb D=none)(d:MQ l Hb i ys H1)(hD1:H1 D=some (.lst ys))(e2:AG (upd H1 l (.lst [.int y2])) H2)(hp:H2 p=some (.tup (KG r)))(h6:r.num.natAbs≤6)(h7:r.den≤6) :
  H2 D=some (.lst ys)∧MQ l Hb (i+1) (ys++[.ref p]) (upd H2 D (.lst (ys++[.ref p]))):=by
 obtain⟨e1,⟨y1,hl1⟩,hyl,rs,hrl,hrs,dr⟩:=d;have nl:l≠D:=AK hl hD;have hl2:H2 l=some (.lst [.int y2]):=e2 _ _ AI;have e12:SameBut l H1 H2:=SameBut.upd.trans (.of e2);have hD2:=e12 _ _ nl.symm hD1;have d2:Ay H2 (AZ (rs++[r])) (ys++[.ref p]):=by
  rw[UR];exact(OE hl1 e12 dr).app (.cons (UY hp) .nil)
 refine⟨hD2,fun b o nb z=>?_,⟨y2,by rw[AE nl];exact hl2⟩,by simp[hyl],rs++[r],by simp[hrl],fun x hx=>?_,OE hD2 .upd d2⟩
 ·rw[AE (AK z hD)];exact e12 _ _ nb (e1 _ _ nb z)
 ·rcases aZ.mp hx with hx|hx
  ·exact hrs x hx
  ·rw[List.mem_singleton.mp hx];exact⟨⟨aP h6 (by decide),Nat.lt_of_le_of_lt h7 (by decide)⟩,h7⟩
def QF:Sp:=fun vs H Q _=>∃(cell:Int) (many:Nat),vs=[.int cell,.int many]∧many≤4∧∀(S:Addr) H' xs rs,AG H H'→H' S=some (.lst xs)→Ay H' (AZ rs) xs→rs.length=many→(∀r∈rs,cE r)→Q (.ref S) H'
section
variable{P:Program}{w:World}{K:PySem.W.Frag}{mg:Str→Option Value}{base:Heap}{f g:Addr}{fd gd:FuncData}
theorem Og:Ad ["_law_cell_here", "_law_many", "_law_pile"] ["_law_cell_here", "_law_many"] (AM HW):=⟨rfl,rfl,rfl,by decide +kernel,rfl,by decide +kernel,by decide +kernel⟩
theorem M6(F:Fn K mg "_law_start" HW ["_law_cell_here", "_law_many"] f fd)(C5:Fn K mg "_law_part" GO ["_law_pile"] g gd)
 (Ik:AL P w K mg base Ac 3 g gd ["_law_pile"] NF)(Ar:mg "range" = none):AL P w K mg base Ac 4 f fd ["_law_cell_here", "_law_many"] QF:=by
 have sc:=Og;refine F.F.ok (k:=3) sc (fun vs H Q E h=>?_) (fun cdv A outer s H vs Q E hr h=>?_)
 ·obtain⟨cell,many,rfl,_⟩:=h
  rfl
 obtain⟨cell,many,rfl,hm4,q⟩:=h;refine⟨_,(AB (AW (i:=2) sc.nd rfl (Or.inr rfl) (Dr (AA (pv 0) AD)))
 (AF (Af (DC [".0", "_law_k", "_law_pile"] 1 [none,none,some 2] (Dd rfl Ar (AA (pv 1) AD)) (fun _ _ _ _ _=>Bl) (fun _ _ _ _ _=>(Aj C5 Ik hr rfl (AA (pv 2) AD))))))),?_⟩
 refine⟨_,rfl,CC (show 1≤60 by decide),fun l hl=>?_⟩;have e0:=AN hl (.lst [.int cell]);have hl0:upd H l (.lst [.int cell]) l=some (.lst [.int cell]):=AI;generalize upd H l (.lst [.int cell])=H0 at e0 hl0;refine⟨_,rfl,(many:Int),rfl,by lia,by lia,fun D hD=>Ce (n:=(many:Int).toNat) (MQ l H0) (Wf hl0 hD) ?_ ?_⟩
 ·rintro i ys H1 hi d hD1;refine⟨hi,Cj (n:=60) (by rw[d.2.2.1];lia) (by decide),fun x H' y=>?_⟩;obtain⟨rfl,rfl⟩:=y;obtain⟨y1,hl1⟩:=d.2.1;unfold Cq;refine BV ⟨_,rfl,l,y1,rfl,hl1,fun p r y2 H2 e2 hp r6 r7=>?_⟩;obtain⟨k1,k2⟩:=RN hl0 hD d hD1 e2 hp r6 r7;exact⟨k1,BZ hi k2⟩
 ·rintro ys H1 ⟨e1,_,hyl,rs,hrl,hrs,dr⟩ hD1;exact⟨aG _,q D H1 ys rs (fun b o z=>e1 _ _ (AK z hl) (e0 _ _ z)) hD1 dr (by lia) hrs⟩
end
theorem Pf:∀ {ps:List Int},(∀p∈ps,(0:Int)≤p)→(ps.map PyData.int).all FC=true
 |[],_=>rfl
 |p::ps,h=>by
  rw[List.map_cons,List.all_cons,Pf (fun q hq=>h q (aV _ hq)),Bool.and_true,FC];exact bP (h p aa)
theorem NV.is{many:Nat}{t:IT.Tm}(h:NV many t):Eb many (LR t)=true:=by
 obtain⟨⟨h1,_⟩,h2,r,h3,h4,_,_⟩:=h;have hn:r.num≠0:=fun z=>h4 (Rat.num_eq_zero.mp z);rw[LR,Eb,Eg,Pf fun p hp=>(h2 p hp).1,List.length_map,decide_eq_true (by rw[h1]),h3];show(true&&true&&(C2 (AV r) && !decide (r.num=0)))=true;rw[VJ,decide_eq_false hn];rfl
theorem Qp:∀ps:List Int,(ps.map PyData.int).map intD=ps
 |[]=>rfl
 |p::ps=>by rw[List.map_cons,List.map_cons,Qp ps,intD]
theorem VV(t:IT.Tm):P0 (LR t)=t.1:=by rw[LR,P0,O0,Qp]
theorem Gb.is{many:Nat}{us:List IT.Tm}(h:Gb many us):EB many (.list (us.map LR))=true:=by
 obtain⟨_,h1,h2⟩:=h;rw[EB,List.all_eq_true];intro k hk;rw[List.mem_range,List.length_map]at hk;unfold Fc;rw[List.getElem?_map,List.getElem?_eq_getElem hk,Option.map_some];simp only;rw[(h1 _ (ax hk)).is,Bool.true_and];by_cases z:k=0
 ·rw[decide_eq_true z,Bool.true_or]
 ·rw[List.getElem?_map,List.getElem?_eq_getElem (show k-1<us.length by lia),Option.map_some];simp only;rw[VV,VV,List.pairwise_iff_getElem.mp h2 (k-1) k (by lia) hk (by lia),Bool.or_true]
theorem W8{many:Nat}{uss:List (List IT.Tm)}(hl:uss.length=many)(h1:1≤many)(h:∀us∈uss,Gb many us):KJ (.list ((uss.map fun us=>us.map IB).map BJ))=true:=by
 have e:(uss.map fun us=>us.map IB).map BJ=uss.map Gd:=by
  rw[List.map_map];exact aU fun us hu=>(Rt (h us hu)).symm
 rw[e,KJ,List.length_map,hl,decide_eq_false (by lia),Bool.not_false,Bool.true_and,List.all_eq_true];intro e he;obtain⟨us,hu,rfl⟩:=aQ.mp he;exact(h us hu).is
section
variable{P:Program}{w:World}{K:PySem.W.Frag}{mg:Str→Option Value}{base:Heap}{f:Addr}{fd:FuncData}
theorem Kt:Ad ["_law_one", "_law_other"] ["_law_one", "_law_other"] (AM GL):=⟨rfl,rfl,rfl,by decide +kernel,rfl,by decide +kernel,by decide +kernel⟩
def LX(Aw:List PyData→Option PyData):DF :=
 (Gy (BF Aw (AJ (Az C8 (Az Kc (Az Cn (nm 0) (fC (.int 0))) (Az Cn (nm 1) (fC (.int 1)))) (Az Kc (Az Cn (nm 1) (fC (.int 0))) (Az Cn (nm 0) (fC (.int 1))))) (AJ (Az Kc (Az Cn (nm 0) (fC (.int 1))) (Az Cn (nm 1) (fC (.int 1)))) Am))))
def A7(Aw:List PyData→Option PyData):List PyData→Option PyData:=Gv ["_law_one", "_law_other"] ["_law_one", "_law_other"] (LX Aw)
theorem PK{k:Nat}{Aw:List PyData→Option PyData}(F:Fn K mg "_law_plus" GL ["_law_one", "_law_other"] f fd)
 {Cb:Addr}{CD:FuncData}(BN:Fn K mg "_law_frac" Dz ["_law_top", "_law_bottom"] Cb CD)(Bg:AL P w K mg base Ac k Cb CD ["_law_top", "_law_bottom"] (EY Aw)) :
  AL P w K mg base Ac (k+1) f fd ["_law_one", "_law_other"] (EY (A7 Aw)):=VO F Kt fun cdv A outer s H E hr=>by
 have sc:=Kt;exact(BX (Eo (Cv BN Bg hr rfl (AY (Cp FP (Cp KW (CY (AU (pv 0)) A0 (fun _ _=>rfl)) (CY (AU (pv 1)) A0 (fun _ _=>rfl))) (Cp KW (CY (AU (pv 1)) A0 (fun _ _=>rfl)) (CY (AU (pv 0)) A0 (fun _ _=>rfl)))) (AY (Cp KW (CY (AU (pv 0)) A0 (fun _ _=>rfl)) (CY (AU (pv 1)) A0 (fun _ _=>rfl))) A4)))))
theorem Mu:Ad ["_law_one", "_law_other"] ["_law_one", "_law_other"] (AM IC):=⟨rfl,rfl,rfl,by decide +kernel,rfl,by decide +kernel,by decide +kernel⟩
def N7(Aw:List PyData→Option PyData):DF :=
 (Gy (BF Aw (AJ (Az Kc (Az Cn (nm 0) (fC (.int 0))) (Az Cn (nm 1) (fC (.int 0)))) (AJ (Az Kc (Az Cn (nm 0) (fC (.int 1))) (Az Cn (nm 1) (fC (.int 1)))) Am))))
def BP(Aw:List PyData→Option PyData):List PyData→Option PyData:=Gv ["_law_one", "_law_other"] ["_law_one", "_law_other"] (N7 Aw)
theorem TX{k:Nat}{Aw:List PyData→Option PyData}(F:Fn K mg "_law_by" IC ["_law_one", "_law_other"] f fd)
 {Cb:Addr}{CD:FuncData}(BN:Fn K mg "_law_frac" Dz ["_law_top", "_law_bottom"] Cb CD)(Bg:AL P w K mg base Ac k Cb CD ["_law_top", "_law_bottom"] (EY Aw)) :
  AL P w K mg base Ac (k+1) f fd ["_law_one", "_law_other"] (EY (BP Aw)):=VO F Mu fun cdv A outer s H E hr=>by
 have sc:=Mu;exact(BX (Eo (Cv BN Bg hr rfl (AY (Cp KW (CY (AU (pv 0)) A0 (fun _ _=>rfl)) (CY (AU (pv 1)) A0 (fun _ _=>rfl))) (AY (Cp KW (CY (AU (pv 0)) A0 (fun _ _=>rfl)) (CY (AU (pv 1)) A0 (fun _ _=>rfl))) A4)))))
theorem Fw:Ad ["_law_one", "_law_other", "_law_found", "_law_k", "_law_left", "_law_j"] ["_law_one", "_law_other"] (AM EO):=⟨rfl,rfl,rfl,by decide +kernel,rfl,by decide +kernel,by decide +kernel⟩
def Gh(BP:List PyData→Option PyData)(A7:List PyData→Option PyData):DF :=
 (Dp (XR 2 (DD (Ca 1) DN (Il (AJ (fC (.int 0)) (AJ (fC (.int 1)) Am))) [none,none] (Ig (nm 0))))
 (Dp (Fq (Bn TY (AJ (nm 0) Am)) (DP 3 4)
  (Fq (Bn Fj (AJ (Az P8 (BF Ic (AJ (nm 0) Am)) (nm 3)) Am)) (KU 5)
   (Tz 2 (BF A7 (AJ (VE 2 (Az C8 (nm 3) (nm 5))) (AJ (BF BP (AJ (nm 4) (AJ (Az Cn (nm 1) (nm 5)) Am))) Am))) (Az C8 (nm 3) (nm 5)))))
 (XU 2)))
def BC(BP:List PyData→Option PyData)(A7:List PyData→Option PyData):List PyData→Option PyData:=Gv ["_law_one", "_law_other"] ["_law_one", "_law_other", "_law_found", "_law_k", "_law_left", "_law_j"] (Gh BP A7)
theorem Jy{k:Nat}{BP:List PyData→Option PyData}{A7:List PyData→Option PyData}(F:Fn K mg "_law_row_product" EO ["_law_one", "_law_other"] f fd)
 {GZ:Addr}{Fm:FuncData}(EJ:Fn K mg "_law_by" IC ["_law_one", "_law_other"] GZ Fm)(FH:AL P w K mg base Ac k GZ Fm ["_law_one", "_law_other"] (EY BP))
 {El:Addr}{EK:FuncData}(C6:Fn K mg "_law_plus" GL ["_law_one", "_law_other"] El EK)(D9:AL P w K mg base Ac k El EK ["_law_one", "_law_other"] (EY A7))(D3:mg "enumerate" = none)(BD:mg "len" = none)(Ar:mg "range" = none) :
  AL P w K mg base Ac (k+1) f fd ["_law_one", "_law_other"] (EY (BC BP A7)):=VO F Fw fun cdv A outer s H E hr=>by
 have sc:=Fw;exact(B8 (YQ (i:=2) [".0", "_law_part_here"] 1 [none,none] sc.nd rfl rfl (MN (AU (pv 0))) (fun _ _ _ _ _=>HM) (fun _ _ _ _ _=>(Mc (AY A0 (AY A0 A4)))))
 (B8 (Gf aK rfl (YM rfl D3 (AY (AU (pv 0)) A4)) (Ki (En rfl (BH (Al (i:=3) sc.nd rfl (Or.inl rfl)) (BH (Al (i:=4) sc.nd rfl (Or.inl rfl)) D7))))
  (BX (Gf aK rfl (IJ rfl Ar (AY (Cp Rr (JS Mq rfl BD av (AY (AU (pv 0)) A4)) (AU (pv 3))) A4)) (Nc (Al (i:=5) sc.nd rfl (Or.inl rfl)))
   (BX (cI (pv 2) (Cp FP (AU (pv 3)) (AU (pv 5))) (Cv C6 D9 hr rfl (AY (WZ (pv 2) (Cp FP (AU (pv 3)) (AU (pv 5))) (fun _ _=>rfl)) (AY (Cv EJ FH hr rfl (AY (AU (pv 4)) (AY (CY (AU (pv 1)) (AU (pv 5)) (fun _ _=>rfl)) A4))) A4))) (fun h1 h2 h3=>U4 h1 (VT h2 h3 set_list)))))))
 (BX (Xu (pv 2)))))
theorem JC:Ad ["_law_some", "_law_rows", "_law_size", "_law_total", "_law_powers", "_law_part_here", "_law_term", "_law_power", "_law_row", "_law_step"] ["_law_some", "_law_rows", "_law_size"] (AM Gm):=⟨rfl,rfl,rfl,by decide +kernel,rfl,by decide +kernel,by decide +kernel⟩
def Jj(A7:List PyData→Option PyData)(BC:List PyData→Option PyData):DF :=
 (Dp (IW 3 (B5 (Ca 1) DN (Il (AJ (fC (.int 0)) (AJ (fC (.int 1)) Am))) [none,none] (Bn Fj (AJ (nm 2) Am))))
 (Dp (Fq (Ig (nm 0)) (DP 4 5)
  (Dp (IW 6 (Az C8 (ZM (AJ (nm 5) Am)) (B5 (Ca 1) DN (Il (AJ (fC (.int 0)) (AJ (fC (.int 1)) Am))) [none,none] (Bn Fj (AJ (Az P8 (nm 2) (fC (.int 1))) Am)))))
  (Dp (Fq (Bn zip2 (AJ (nm 4) (AJ (nm 1) Am))) (DP 7 8)
   (Fq (Bn Fj (AJ (nm 7) Am)) (KU 9)
    (IW 6 (BF BC (AJ (nm 6) (AJ (nm 8) Am))))))
  (IW 3 (B5 (DP 1 2) DN (BF A7 (AJ (nm 1) (AJ (nm 2) Am))) [none,none,none] (Bn zip2 (AJ (nm 3) (AJ (nm 6) Am))))))))
 (Gy (nm 3))))
def Bh(A7:List PyData→Option PyData)(BC:List PyData→Option PyData):List PyData→Option PyData:=Gv ["_law_some", "_law_rows", "_law_size"] ["_law_some", "_law_rows", "_law_size", "_law_total", "_law_powers", "_law_part_here", "_law_term", "_law_power", "_law_row", "_law_step"] (Jj A7 BC)
theorem NG{k:Nat}{A7:List PyData→Option PyData}{BC:List PyData→Option PyData}(F:Fn K mg "_law_row_of" Gm ["_law_some", "_law_rows", "_law_size"] f fd)
 {El:Addr}{EK:FuncData}(C6:Fn K mg "_law_plus" GL ["_law_one", "_law_other"] El EK)(D9:AL P w K mg base Ac k El EK ["_law_one", "_law_other"] (EY A7))
 {GU:Addr}{Fv:FuncData}(Cz:Fn K mg "_law_row_product" EO ["_law_one", "_law_other"] GU Fv)(EU:AL P w K mg base Ac k GU Fv ["_law_one", "_law_other"] (EY BC))(Ar:mg "range" = none)(Dg:mg "zip" = none) :
  AL P w K mg base Ac (k+1) f fd ["_law_some", "_law_rows", "_law_size"] (EY (Bh A7 BC)):=VO F JC fun cdv A outer s H E hr=>by
 have sc:=JC;exact(B8 (S6 (i:=3) [".0", "_law_k"] 1 [none,none] sc.nd rfl rfl (IJ rfl Ar (AY (AU (pv 2)) A4)) (fun _ _ _ _ _=>HM) (fun _ _ _ _ _=>(Mc (AY A0 (AY A0 A4)))))
 (B8 (Gf aK rfl (MN (AU (pv 0))) (Ki (En rfl (BH (Al (i:=4) sc.nd rfl (Or.inl rfl)) (BH (Al (i:=5) sc.nd rfl (Or.inl rfl)) D7))))
  (B8 (Mb (i:=6) sc.nd rfl (Or.inl rfl) (Cp FP (a6 (AY (AU (pv 5)) A4)) (ND [".0", "_law_k"] 1 [none,none] (IJ rfl Ar (AY (Cp Rr (AU (pv 2)) A0) A4)) (fun _ _ _ _ _=>HM) (fun _ _ _ _ _=>(Mc (AY A0 (AY A0 A4)))))))
  (B8 (Gf aK rfl (MM rfl Dg (AY (AU (pv 4)) (AY (AU (pv 1)) A4))) (Ki (En rfl (BH (Al (i:=7) sc.nd rfl (Or.inl rfl)) (BH (Al (i:=8) sc.nd rfl (Or.inl rfl)) D7))))
   (BX (Gf aK rfl (IJ rfl Ar (AY (AU (pv 7)) A4)) (Nc (Al (i:=9) sc.nd rfl (Or.inl rfl)))
    (BX (Mb (i:=6) sc.nd rfl (Or.inl rfl) (Cv Cz EU hr rfl (AY (AU (pv 6)) (AY (AU (pv 8)) A4))))))))
  (BX (RM (i:=3) [".0", "_law_one", "_law_other"] 1 2 [none,none,none] sc.nd rfl rfl (MM rfl Dg (AY (AU (pv 3)) (AY (AU (pv 6)) A4))) (fun _ _ _ _ _=>HM) (fun _ _ _ _ _=>(Cv C6 D9 hr rfl (AY (AU (pv 1)) (AY (AU (pv 2)) A4)))))))))
 (BX (Eo (AU (pv 3))))))
theorem J3:Ad ["_law_change_here", "_law_start_here", "_law_most", "_law_rows", "_law_row", "_law_worth", "_law_part_here", "_law_some", "_law_speeds"] ["_law_change_here", "_law_start_here", "_law_most", "_law_rows"] (AM IY):=⟨rfl,rfl,rfl,by decide +kernel,rfl,by decide +kernel,by decide +kernel⟩
def LW(BP:List PyData→Option PyData)(Aw:List PyData→Option PyData)(Bh:List PyData→Option PyData)(D4:List PyData→Option PyData):DF :=
 (Dp (PM (Xa (QJ (PU (cJ CG (nm 3)))) (NN (Jl true) (BF Ic (AJ (nm 3) Am)) (BF Ic (AJ (nm 0) Am))))
  (Gy (fC (.bool false)))
  LA)
 (Dp (Fq (Bn zip2 (AJ (nm 3) (AJ (nm 1) Am))) (DP 4 5)
  (Dp (PM (Xa (QJ (PU (cJ CG (nm 4)))) (Xa (NN (Jl true) (BF Ic (AJ (nm 4) Am)) (Az C8 (nm 2) (fC (.int 1)))) (NN (Jl true) (Az Cn (nm 4) (fC (.int 0))) (nm 5))))
   (Gy (fC (.bool false)))
   LA)
  (Fq (Ig (nm 4)) (KU 6)
   (PM (QJ (PU (BF D4 (AJ (nm 6) (AJ (BF Aw (AJ (Az Cn (nm 6) (fC (.int 0))) (AJ (Az Cn (nm 6) (fC (.int 1))) Am))) Am)))))
    (Gy (fC (.bool false)))
    LA))))
 (Dp (Fq (Bn zip2 (AJ (nm 0) (AJ (nm 3) Am))) (DP 7 4)
  (Dp (IW 8 (BF Bh (AJ (nm 7) (AJ (nm 3) (AJ (Az C8 (nm 2) (fC (.int 1))) Am)))))
  (PM (NN (Jl true) (B5 (Ca 1) DN (BF BP (AJ (Az Cn (nm 2) (nm 1)) (AJ (Il (AJ (nm 1) (AJ (fC (.int 1)) Am))) Am))) [none,none,some 4] (Bn Mw (AJ (fC (.int 1)) (AJ (Az C8 (nm 2) (fC (.int 1))) Am)))) (QA (nm 8) MZ (MC (nm 2))))
   (Gy (fC (.bool false)))
   LA)))
 (Gy (fC (.bool true))))))
def LN(BP:List PyData→Option PyData)(Aw:List PyData→Option PyData)(Bh:List PyData→Option PyData)(D4:List PyData→Option PyData):List PyData→Option PyData:=Gv ["_law_change_here", "_law_start_here", "_law_most", "_law_rows"] ["_law_change_here", "_law_start_here", "_law_most", "_law_rows", "_law_row", "_law_worth", "_law_part_here", "_law_some", "_law_speeds"] (LW BP Aw Bh D4)
theorem Qx{k:Nat}{BP:List PyData→Option PyData}{Aw:List PyData→Option PyData}{Bh:List PyData→Option PyData}{D4:List PyData→Option PyData}(F:Fn K mg "_law_good" IY ["_law_change_here", "_law_start_here", "_law_most", "_law_rows"] f fd)
 {GZ:Addr}{Fm:FuncData}(EJ:Fn K mg "_law_by" IC ["_law_one", "_law_other"] GZ Fm)(FH:AL P w K mg base Ac k GZ Fm ["_law_one", "_law_other"] (EY BP))
 {Cb:Addr}{CD:FuncData}(BN:Fn K mg "_law_frac" Dz ["_law_top", "_law_bottom"] Cb CD)(Bg:AL P w K mg base Ac k Cb CD ["_law_top", "_law_bottom"] (EY Aw))
 {Jo:Addr}{JD:FuncData}(Ep:Fn K mg "_law_row_of" Gm ["_law_some", "_law_rows", "_law_size"] Jo JD)(Gs:AL P w K mg base Ac k Jo JD ["_law_some", "_law_rows", "_law_size"] (EY Bh))
 {LK:Addr}{KZ:FuncData}(Cc:Fn K mg "_law_same" Ia ["_law_found", "_law_due"] LK KZ)(Ei:AL P w K mg base Ac k LK KZ ["_law_found", "_law_due"] (EY D4))(AR:mg "isinstance" = none)(BD:mg "len" = none)(BR:mg "list" = none)(Ar:mg "range" = none)(Dg:mg "zip" = none) :
  AL P w K mg base Ac (k+1) f fd ["_law_change_here", "_law_start_here", "_law_most", "_law_rows"] (EY (LN BP Aw Bh D4)):=VO F J3 fun cdv A outer s H E hr=>by
 have sc:=J3;exact(B8 (MV (DW.dt (TB (Po (QL (Uc (CT _) rfl AR rfl BR ae (AU (pv 3))))) (Ue (J0 (Mn (by have:=hr.units;exact this)) (JS Mq rfl BD av (AY (AU (pv 3)) A4)) (JS Mq rfl BD av (AY (AU (pv 0)) A4)) (Ao _)))))
  (BX (Eo Kx))
  Iq)
 (B8 (Gf aK rfl (MM rfl Dg (AY (AU (pv 3)) (AY (AU (pv 1)) A4))) (Ki (En rfl (BH (Al (i:=4) sc.nd rfl (Or.inr rfl)) (BH (Al (i:=5) sc.nd rfl (Or.inl rfl)) D7))))
  (B8 (MV (DW.dt (TB (Po (QL (Uc (CT _) rfl AR rfl BR ae (AU (pv 4))))) (TB (J0 (Mn (by have:=hr.units;exact this)) (JS Mq rfl BD av (AY (AU (pv 4)) A4)) (Cp FP (AU (pv 2)) A0) (Ao _)) (Ue (J0 (Mn (by have:=hr.units;exact this)) (CY (AU (pv 4)) A0 (fun _ _=>rfl)) (AU (pv 5)) (Ao _))))))
   (BX (Eo Kx))
   Iq)
  (BX (Gf aK rfl (MN (AU (pv 4))) (Nc (Al (i:=6) sc.nd rfl (Or.inl rfl)))
   (BX (MV (Po (QL (Cv Cc Ei hr rfl (AY (AU (pv 6)) (AY (Cv BN Bg hr rfl (AY (CY (AU (pv 6)) A0 (fun _ _=>rfl)) (AY (CY (AU (pv 6)) A0 (fun _ _=>rfl)) A4))) A4)))))
    (BX (Eo Kx))
    Iq))))))
 (B8 (Gf aK rfl (MM rfl Dg (AY (AU (pv 0)) (AY (AU (pv 3)) A4))) (Ki (En rfl (BH (Al (i:=7) sc.nd rfl (Or.inl rfl)) (BH (Al (i:=4) sc.nd rfl (Or.inr rfl)) D7))))
  (B8 (Mb (i:=8) sc.nd rfl (Or.inl rfl) (Cv Ep Gs hr rfl (AY (AU (pv 7)) (AY (AU (pv 3)) (AY (Cp FP (AU (pv 2)) A0) A4)))))
  (BX (MV (J0 (Mn (by have:=hr.units;exact this)) (ND [".0", "_law_k", "_law_row"] 1 [none,none,some 4] (UX rfl Ar (AY A0 (AY (Cp FP (AU (pv 2)) A0) A4))) (fun _ _ _ _ _=>HM) (fun _ _ _ _ _=>(Cv EJ FH hr rfl (AY (CY (AU (pv 2)) (AU (pv 1)) (fun _ _=>rfl)) (AY (Mc (AY (AU (pv 1)) (AY A0 A4))) A4))))) (Qf (AU (pv 8)) Rn (SR (AU (pv 2)))) (Ao _))
   (BX (Eo Kx))
   Iq))))
 (BX (Eo Kx)))))
theorem Vb:Ad ["_law_script", "_law_many", "_law_change_here", "_law_start_here", "_law_cell_here", "_law_most", "_law_handed", "_law_found", "_law_kept", "_law_row", "_law_less"] ["_law_script"] (AM Me):=⟨rfl,rfl,rfl,by decide +kernel,rfl,by decide +kernel,by decide +kernel⟩
def L8(Dw:List PyData→Option PyData):DF :=
 (Dp (IW 10 (Az TR (Az Tx (nm 4) (fC (.int 48))) (Az C8 (nm 5) (fC (.int 1)))))
 (Dp (PM (Sx (NN (Jl true) (BF Dw (AJ (Az Cn (nm 6) (fC (.int 0))) (AJ (Az Cn (nm 6) (fC (.int 1))) (AJ (nm 10) Am)))) (B5 (Ca 1) DN (QA (nm 1) MZ (MC (Az C8 (nm 2) (fC (.int 1))))) [none,none,some 10] (Ig (nm 8)))))
  (Gy (fC (.bool false)))
  LA)
 (Gy (Az (Jl false) (BF Dw (AJ (Az Cn (nm 6) (fC (.int 0))) (AJ (Az Cn (nm 6) (fC (.int 1))) (AJ (nm 5) Am)))) (nm 8)))))
theorem UG{k:Nat}{Dw:List PyData→Option PyData}
 {Jr:Addr}{Ip:FuncData}(B3:Fn K mg "growth_rows" Es ["change", "start", "most"] Jr Ip)(Dx:AL P w K mg base Ac k Jr Ip ["change", "start", "most"] (EY Dw))(cdv:Value)(A:Around)(outer:List Env)(s:Shared)(H:Hp)(E:XK)(hr:C7 k (A.deeper (PyProof.Rows.envOfC "law" (AM Me) s.heap.objs.size f cdv))) :
  LO (KA Ac P w K mg base ["_law_script", "_law_many", "_law_change_here", "_law_start_here", "_law_cell_here", "_law_most", "_law_handed", "_law_found", "_law_kept", "_law_row", "_law_less"] "law" (AM Me) f cdv A outer s H E).Si ((Cu Me).drop 12) (L8 Dw):=by
 have sc:=Vb;exact(B8 (Mb (i:=10) sc.nd rfl (Or.inr rfl) (Cp YX (Cp X5 (AU (pv 4)) A0) (Cp FP (AU (pv 5)) A0)))
 (B8 (MV (Yj (J0 (Mn (by have:=hr.units;exact this)) (Cv B3 Dx hr rfl (AY (CY (AU (pv 6)) A0 (fun _ _=>rfl)) (AY (CY (AU (pv 6)) A0 (fun _ _=>rfl)) (AY (AU (pv 10)) A4)))) (ND [".0", "_law_row", "_law_less"] 1 [none,none,some 10] (MN (AU (pv 8))) (fun _ _ _ _ _=>HM) (fun _ _ _ _ _=>(Qf (AU (pv 1)) Rn (SR (Cp FP (AU (pv 2)) A0))))) (Ao _)))
  (BX (Eo Kx))
  Iq)
 (BX (Eo (ZU (eB (by have:=hr.units;exact this)) (Cv B3 Dx hr rfl (AY (CY (AU (pv 6)) A0 (fun _ _=>rfl)) (AY (CY (AU (pv 6)) A0 (fun _ _=>rfl)) (AY (AU (pv 5)) A4)))) (AU (pv 8)) (Ao _))))))
end
def sh(f:Nat→Rat):Nat→Rat:=fun i=>f (i+1)
def A2:(Nat→Rat)→(Nat→Rat)→Nat→Rat
 |f,g,0=>f 0*g 0
 |f,g,k+1=>f 0*g (k+1)+A2 (sh f) g k
theorem J4(f:Nat→Rat)(n:Nat):Ae f (n+1)=f 0::Ae (sh f) n:=by
 unfold Ae;rw[List.range_succ_eq_map,List.map_cons,List.map_map];rfl
theorem SS:∀(k:Nat) (f g:Nat→Rat),A3 f g k=A2 f g k
 |0,f,g=>by
  show(Ae _ (0+1)).sum=_;rw[J4];show f 0*g (0-0)+(Ae _ 0).sum=_;simp[Ae,A2,Rat.add_zero]
 |k+1,f,g=>by
  show(Ae _ (k+1+1)).sum=_;rw[J4,List.sum_cons,A2,←SS k (sh f) g]
  congr 1
  unfold A3
  congr 1
  refine JO fun j hj=>?_;show f (j+1)*g (k+1-(j+1))=f (j+1)*g (k-j)
  congr 2
  lia
theorem LQ:∀(k:Nat) (f g:Nat→Rat),A2 f g (k+1)=A2 f (sh g) k+f (k+1)*g 0
 |0,f,g=>rfl
 |k+1,f,g=>by
  rw[A2,LQ k (sh f) g,A2];show f 0*g (k+1+1)+(A2 (sh f) (sh g) k+f (k+1+1)*g 0)=f 0*g (k+1+1)+A2 (sh f) (sh g) k+f (k+1+1)*g 0
  grind
theorem MU:∀(k:Nat) (f g:Nat→Rat),A2 f g k=A2 g f k
 |0,f,g=>Rat.mul_comm _ _
 |k+1,f,g=>by
  rw[A2,LQ k g f,MU k (sh f) g]
  grind
theorem OJ(c:Rat):∀(k:Nat) (f g h:Nat→Rat),A2 (fun i=>c*f i+g i) h k=c*A2 f h k+A2 g h k
 |0,f,g,h=>by
  show(c*f 0+g 0)*h 0=c*(f 0*h 0)+g 0*h 0
  grind
 |k+1,f,g,h=>by
  rw[A2,A2,A2];have:=OJ c k (sh f) (sh g) h;show(c*f 0+g 0)*h (k+1)+A2 (fun i=>c*sh f i+sh g i) h k=_;rw[this]
  grind
theorem LZ:∀(k:Nat) (f g h:Nat→Rat),A2 (A2 f g) h k=A2 f (A2 g h) k
 |0,f,g,h=>Rat.mul_assoc _ _ _
 |k+1,f,g,h=>by
  rw[A2,A2];have e:sh (A2 f g)=fun i=>f 0*sh g i+A2 (sh f) g i:=rfl;rw[e,OJ,LZ k (sh f) g h];show f 0*g 0*h (k+1)+(f 0*A2 (sh g) h k+A2 (sh f) (A2 g h) k)=f 0*(g 0*h (k+1)+A2 (sh g) h k)+A2 (sh f) (A2 g h) k
  grind
theorem FF(f g:Nat→Rat):A3 f g=A2 f g:=funext fun k=>SS k f g
theorem Rq(f g:Nat→Rat):A3 f g=A3 g f:=by rw[FF,FF];exact funext fun k=>MU k f g
theorem Hg(f g h:Nat→Rat):A3 (A3 f g) h=A3 f (A3 g h):=by rw[FF,FF,FF,FF];exact funext fun k=>LZ k f g h
def Co(c:Rat):Nat→Rat:=fun k=>if k=0 then c else 0
theorem Nq:∀(k:Nat) (f g:Nat→Rat),(∀i,f i=0)→A2 f g k=0
 |0,f,g,h=>by show f 0*g 0=0;rw[h];simp
 |k+1,f,g,h=>by rw[A2,h,Nq k (sh f) g fun i=>h (i+1)];simp[Rat.add_zero]
theorem UW(c:Rat)(g:Nat→Rat):A3 (Co c) g=fun k=>c*g k:=by
 rw[FF]
 funext k
 cases k with
 |zero=>rfl
 |succ k =>
  rw[A2,Nq k (sh (Co c)) g fun i=>rfl];show c*g (k+1)+0=_;rw[Rat.add_zero]
theorem L5(g:Nat→Rat):A3 g (Co 1)=g:=by
 rw[Rq,UW]
 funext k
 simp
def Gn(x:Nat→Rat):Nat→(Nat→Rat)→Nat→Rat
 |0,f=>f
 |n+1,f=>A3 (Gn x n f) x
def G8(X:Nat→Nat→Rat):List Int→Nat→Nat→Rat
 |[],_=>Co 1
 |p::ps,u=>A3 (Gn (X u) p.toNat (Co 1)) (G8 X ps (u+1))
theorem Qh(x:Nat→Rat)(f:Nat→Rat):∀n,Gn x n f=A3 f (Gn x n (Co 1))
 |0=>(L5 f).symm
 |n+1=>by
  show A3 (Gn x n f) x=A3 f (A3 (Gn x n (Co 1)) x);rw[Qh x f n,Hg]
def LB(X:Nat→Nat→Rat):List Int→Nat→(Nat→Rat)→Nat→Rat
 |[],_,f=>f
 |p::ps,u,f=>LB X ps (u+1) (Gn (X u) p.toNat f)
theorem Qc(X:Nat→Nat→Rat):∀(ps:List Int) (u:Nat) (f:Nat→Rat),LB X ps u f=A3 f (G8 X ps u)
 |[],u,f=>(L5 f).symm
 |p::ps,u,f=>by
  rw[LB,Qc X ps,Qh,Hg];rfl
theorem OH(X:Nat→Nat→Rat):∀(ps:List Int) (k u:Nat),k<ps.length→1≤ps.getD k 0→G8 X ps u=A3 (G8 X (A9 ps k) u) (X (u+k))
 |[],k,u,h,_=>by simp at h
 |p::ps,0,u,_,h=>by
  have h:1≤p:=by simpa using h
  have e:A9 (p::ps) 0=(p-1)::ps:=by simp[A9]
  rw[e];show A3 (Gn (X u) p.toNat (Co 1)) _=A3 (A3 (Gn (X u) (p-1).toNat (Co 1)) _) _;rw[show p.toNat=(p-1).toNat+1 by lia,Hg,Rq (G8 X ps (u+1)),←Hg]
  rfl
 |p::ps,k+1,u,h,h1=>by
  have e:A9 (p::ps) (k+1)=p::A9 ps k:=by simp[A9]
  rw[e];show A3 _ (G8 X ps (u+1))=A3 (A3 _ (G8 X (A9 ps k) (u+1))) _;rw[OH X ps k (u+1) (by simpa using h) (by simpa using h1),Hg,show u+1+k=u+(k+1) by lia]
theorem OI(X:Nat→Nat→Rat):∀(ps:List Int) (u:Nat),(∀p∈ps,0≤p)→ps.sum=0→G8 X ps u=Co 1
 |[],u,_,_=>rfl
 |p::ps,u,h,hs=>by
  have a:=h p (.head _);have b:=Bi fun q hq=>h q (.tail _ hq);rw[List.sum_cons]at hs;show A3 (Gn (X u) p.toNat (Co 1)) _=_;rw[show p.toNat=0 by lia,OI X ps (u+1) (fun q hq=>h q (.tail _ hq)) (by lia)];exact L5 _
theorem OZ{nn:Nat}(X:Nat→Nat→Rat):∀(n:Nat) (ps:List Int),B0 nn ps→ps.sum=(n:Int)→G9 X n ps=G8 X ps 0
 |0,ps,o,hs=>(OI X ps 0 o.nn (by lia)).symm
 |n+1,ps,o,hs=>by
  have h0:ps.sum≠0:=by lia
  obtain⟨f1,f2⟩:=FZ h0;have f3:1≤ps.getD (fu ps) 0:=by
   have:=o.nn (ps.getD (fu ps) 0) (by rw[List.getD_eq_getElem?_getD,List.getElem?_eq_getElem f1];exact ax f1)
   lia
  show A3 (G9 X n (A9 ps (fu ps))) (X (fu ps))=_;rw[OZ X n _ (o.low h0) (by rw[sum_set _ _ f1];lia),OH X ps (fu ps) 0 f1 f3,Nat.zero_add]
theorem WB{nn:Nat}(X:Nat→Nat→Rat){ps:List Int}(o:B0 nn ps)(c:Rat):LB X ps 0 (Co c)=fun k=>c*E1 X ps k:=by
 rw[Qc,UW];unfold E1;rw[OZ X _ ps o (by have:=Bi o.nn;lia)]
def N8(ds:List PyData):Option PyData:=match ds with
 |[.int t,.int b]=>if b≠0∧b.natAbs<2^8800 then some (AV (Rat.divInt t b)) else none
 |_=>none
theorem gD{P:Program}{w:World}{K:PySem.W.Frag}{mg:Str→Option Value}{base:Heap}{CX:Hl}{k:Nat}{f:Addr}{fd:FuncData}{ps:List Str}(F:AL P w K mg base CX k f fd ps Pp):AL P w K mg base CX k f fd ps (EY N8) :=
 Na F fun ds x hm G H vs Q E d e kk=>by
  unfold N8 at hm;split at hm
  ·split at hm
   ·rename_i hh;cases hm;obtain⟨v1,v2,rfl,d1,d2⟩:=d.LM;rw[Du]at d1 d2;subst d1 d2;refine⟨_,_,8800,rfl,hh.1,by decide,hh.2,fun l H' e' hl'=>?_⟩;obtain⟨G',n1,n2,n3,n4⟩:=dU e e' hl' (Lu [(Rat.divInt _ _).num,((Rat.divInt _ _).den:Int)]);exact kk _ G' H' n1 n2 n3 e' n4
   ·cases hm
  ·cases hm
theorem Qv{t b:Int}{n:Nat}(h:b≠0)(h2:b.natAbs<2^n)(hn:n≤8800):N8 [.int t,.int b]=some (AV (Rat.divInt t b)):=if_pos ⟨h,FM.Ci h2 hn⟩
abbrev Sj:List PyData→Option PyData:=BP N8
abbrev Sf:List PyData→Option PyData:=A7 N8
theorem XI{a b:Rat}{n:Nat}(ha:FM.Fits a n)(hb:FM.Fits b n)(hn:n≤4400):Sj [AV a,AV b]=some (AV (a*b)):=by
 refine K7 rfl ?_;unfold N7;refine Ky (CQ (B7 (DR (x:=.int a.num) (y:=.int b.num) rfl rfl (PF ha.1 hb.1 (by lia))) (B7 (DR (x:=.int (a.den:Int)) (y:=.int (b.den:Int)) rfl rfl (PF ha.d hb.d (by lia))) rfl)) ((Qv (FM.SU a b) (FM.dd ha hb) (by lia)).trans ?_));rw[FM.WT]
theorem Sl{a b:Rat}{n:Nat}(ha:FM.Fits a n)(hb:FM.Fits b n)(hn:n≤4400):Sf [AV a,AV b]=some (AV (a+b)):=by
 refine K7 rfl ?_;unfold LX;refine Ky (CQ (B7 (DR (x:=.int (a.num*b.den)) (y:=.int (b.num*a.den)) (DR (x:=.int a.num) (y:=.int (b.den:Int)) rfl rfl (PF ha.1 hb.d (by lia))) (DR (x:=.int b.num) (y:=.int (a.den:Int)) rfl rfl (PF hb.1 ha.d (by lia))) rfl) (B7 (DR (x:=.int (a.den:Int)) (y:=.int (b.den:Int)) rfl rfl (PF ha.d hb.d (by lia))) rfl)) ((Qv (FM.SU a b) (FM.dd ha hb) (by lia)).trans ?_));rw[FM.cL]
theorem KL:∀(l:List Rat) (x:Rat),(l++[x]).sum=l.sum+x
 |[],x=>by simp[Rat.add_zero,Rat.zero_add]
 |y::l,x=>by rw[List.cons_append,List.sum_cons,KL l x,List.sum_cons,Rat.add_assoc]
def Ck(a b:Nat→Rat)(k t:Nat):Rat:=(Ae (fun i=>a i*b (t-i)) (min k (t+1))).sum
theorem Ul(a b:Nat→Rat)(t:Nat):Ck a b 0 t=0:=by unfold Ck;rw[Nat.zero_min];rfl
theorem VR(a b:Nat→Rat)(k j:Nat):Ck a b (k+1) (k+j)=Ck a b k (k+j)+a k*b j:=by
 unfold Ck;rw[Nat.min_eq_left (by lia),Nat.min_eq_left (by lia),OS,KL,show k+j-k=j by lia]
theorem WS{a b:Nat→Rat}{k t:Nat}(h:t<k):Ck a b (k+1) t=Ck a b k t:=by
 unfold Ck;rw[Nat.min_eq_right (by lia),Nat.min_eq_right (by lia)]
theorem Wg{a b:Nat→Rat}{n t:Nat}(h:t<n):Ck a b n t=A3 a b t:=by
 unfold Ck A3;rw[Nat.min_eq_right (by lia)]
theorem Vi{α:Type}(g:Nat→α)(n p:Nat)(y:α):((List.range n).map g).set p y=(List.range n).map fun t=>if t=p then y else g t:=by
 apply List.ext_getElem?;intro i;rw[List.getElem?_set,List.getElem?_map,List.getElem?_map,List.length_map,List.length_range];by_cases hi:i<n
 ·rw[List.getElem?_range hi];by_cases z:p=i
  ·subst z;simp[hi]
  ·rw[if_neg z];simp[Ne.symm z,fun h:i=p=>z h.symm]
 ·rw[List.getElem?_eq_none (by simpa using hi)];by_cases z:p=i
  ·subst z;simp[hi]
  ·rw[if_neg z];rfl
theorem Jc{g:Nat→PyData}{n j:Nat}(h:j<n):Cy ((List.range n).map g) (j:Int)=some (g j) :=
 HI (by rw[List.getElem?_map,List.getElem?_range h];rfl)
theorem Cf(f:Nat→Rat)(n:Nat):AZ (Ae f n)=(List.range n).map fun t=>AV (f t):=by unfold AZ Ae;rw[List.map_map];rfl
abbrev Uu:List PyData→Option PyData:=BC Sj Sf
structure cH(a b:Nat→Rat)(n:Nat):Prop where
 fa:∀i,i<n→FM.Fits (a i) 4400
 fb:∀i,i<n→FM.Fits (b i) 4400
 fp:∀i j,i+j<n→FM.Fits (a i*b j) 4400
 fs:∀k t,t<n→FM.Fits (Ck a b k t) 4400
theorem cX{a b:Nat→Rat}{n:Nat}(hn:n≤20)(o:cH a b n):Uu [Aq (Ae a n),Aq (Ae b n)]=some (Aq (Ae (A3 a b) n)):=by
 have ea:Aq (Ae a n)=.list ((List.range n).map fun t=>AV (a t)):=by unfold Aq;rw[Cf]
 have eb:Aq (Ae b n)=.list ((List.range n).map fun t=>AV (b t)):=by unfold Aq;rw[Cf]
 have ec:Aq (Ae (A3 a b) n)=.list ((List.range n).map fun t=>AV (Ck a b n t)):=by
  unfold Aq;rw[Cf]
  congr 1
  exact aU fun t ht=>by rw[Wg (au.mp ht)]
 rw[ea,eb,ec];refine Ym rfl ?_;unfold Gh;generalize hA:PyData.list ((List.range n).map fun t=>AV (a t))=A;generalize hB:PyData.list ((List.range n).map fun t=>AV (b t))=B;have h0:DD (Ca 1) DN (Il (AJ (fC (.int 0)) (AJ (fC (.int 1)) Am))) [none,none] (Ig (nm 0)) [.d A,.d B,.no,.no,.no,.no]=some ((List.range n).map fun t=>AV (Ck a b 0 t)):=by
  have e:DD (Ca 1) DN (Il (AJ (fC (.int 0)) (AJ (fC (.int 1)) Am))) [none,none] (Ig (nm 0)) [.d A,.d B,.no,.no,.no,.no]=some (((List.range n).map fun t=>AV (a t)).map fun _=>AV 0):=by
   unfold DD;have hx:Ig (nm 0) [.d A,.d B,.no,.no,.no,.no]=some ((List.range n).map fun t=>AV (a t)):=by rw[←hA];rfl
   rw[hx,Option.bind_some,IZ (g:=fun _=>AV 0) fun x hx=>?_,Option.bind_some,Jh,if_pos (by simp;exact aR hn (by decide))]
   rfl
  rw[e,List.map_map];exact bD some (aU fun t _=>by show AV 0=_;rw[Ul])
 refine D8 (δ':=[.d A,.d B,.own (.lst ((List.range n).map fun t=>AV (Ck a b 0 t))),.no,.no,.no]) (by show(DD _ _ _ _ _ [.d A,.d B,.no,.no,.no,.no]).map _=_;rw[h0];rfl) ?_;refine JY (xs:=Ff ((List.range n).map fun t=>AV (a t))) (fun k δ=>∃a3 a4 a5:L,δ=[.d A,.d B,.own (.lst ((List.range n).map fun t=>AV (Ck a b k t))),a3,a4,a5]) (by rw[←hA];rfl) ⟨_,_,_,rfl⟩ ?_ ?_
 ·rintro k x δ hx ⟨a3,a4,a5,rfl⟩;obtain⟨y,hy,rfl⟩:=GV hx;have hk:k<n:=by have:=(aC.mp hy).1;simpa using this
  have hy:y=AV (a k):=by rw[List.getElem?_map,List.getElem?_range hk]at hy;exact(aW hy).symm
  subst hy;refine⟨_,rfl,?_⟩;have hr:Bn Fj (AJ (Az P8 (BF Ic (AJ (nm 0) Am)) (nm 3)) Am) [.d A,.d B,.own (.lst ((List.range n).map fun t=>AV (Ck a b k t))),.d (.int (k:Nat)),.d (AV (a k)),a5]=some (Cs 0 ((n:Int)-(k:Nat)).toNat):=by
   refine PR (j:=(n:Int)-(k:Nat)) ?_ (by lia) (by lia);refine DR (x:=.int (n:Nat)) (y:=.int (k:Nat)) ?_ rfl rfl;rw[←hA];show some (PyData.int (((List.range n).map fun t=>AV (a t)).length:Nat))=_;rw[List.length_map,List.length_range]
  obtain⟨δ',e1,a5',rfl⟩:=Hk (xs:=Cs 0 ((n:Int)-(k:Nat)).toNat) (set:=KU 5) (F:=Tz 2 (BF Sf (AJ (VE 2 (Az C8 (nm 3) (nm 5))) (AJ (BF Sj (AJ (nm 4) (AJ (Az Cn (nm 1) (nm 5)) Am))) Am))) (Az C8 (nm 3) (nm 5))) (fun j δ=>∃a5:L,δ=[.d A,.d B,.own (.lst ((List.range n).map fun t=>AV (if k≤t∧t<k+j then Ck a b (k+1) t else Ck a b k t))),.d (.int (k:Nat)),.d (AV (a k)),a5]) hr ⟨a5,by
   congr 5
   exact aU fun t _=>by rw[if_neg (by lia)]⟩ (by
   rintro j x δ hx ⟨a5,rfl⟩;obtain⟨rfl,hj⟩:=Sh hx;have hkj:k+j<n:=by lia
   rw[show(0:Int)+(j:Nat)=(j:Nat) by lia];refine⟨_,_,rfl,Z2 (p:=k+j) (xs:=(List.range n).map fun t=>AV (if k≤t∧t<k+j then Ck a b (k+1) t else Ck a b k t)) (CQ (B7 ?_ (B7 (CQ (B7 (x:=AV (a k)) rfl (B7 (x:=AV (b j)) ?_ rfl)) (XI (o.fa k hk) (o.fb j (by lia)) (by decide))) rfl)) (Sl (a:=Ck a b k (k+j)) (o.fs k (k+j) hkj) (o.fp k j hkj) (by decide))) ?_ rfl (by simpa using hkj),.d (.int (j:Nat)),?_⟩
   ·show Cy ((List.range n).map fun t=>AV (if k≤t∧t<k+j then Ck a b (k+1) t else Ck a b k t)) ((k:Int)+(j:Int))=_;rw[show(k:Int)+(j:Int)=((k+j:Nat):Int) by lia,Jc hkj,if_neg (by lia)]
   ·rw[←hB];exact Jc (show j<n by lia)
   ·show some (PyData.int ((k:Int)+(j:Int)))=_;rw[show(k:Int)+(j:Int)=((k+j:Nat):Int) by lia]
   ·rw[←VR,Vi];show [_,_,_,_,_,_]=_
    congr 5
    refine aU fun t _=>?_;by_cases z:t=k+j
    ·subst z;rw[if_pos rfl,if_pos (by lia)]
    ·rw[if_neg z]
     congr 1
     by_cases y:k≤t∧t<k+j
     ·rw[if_pos y,if_pos (by lia)]
     ·rw[if_neg y,if_neg (by lia)])
  refine⟨_,e1,.d (.int (k:Nat)),.d (AV (a k)),a5',?_⟩
  congr 5
  refine aU fun t ht=>?_;have ht:=au.mp ht
  congr 1
  simp only[Cs,List.length_map,List.length_range];by_cases y:k≤t
  ·rw[if_pos (by lia)]
  ·rw[if_neg (by lia),WS (by lia)]
 ·rintro δ' ⟨a3,a4,a5,rfl⟩;have hl:(Ff ((List.range n).map fun t=>AV (a t))).length=n:=by unfold Ff;simp
  rw[hl]
  rfl
theorem Vm{α:Type}{i j:Nat}{f:Dv→Option PyData}{fs:Dv→Option (List PyData)}{δ:Dv}{fr:List (Option Nat)}{zs:List α}{a b g:α→PyData}(hx:fs δ=some (zs.map fun z=>.tuple [a z,b z]))(hl:zs.length≤F6)
 (h:∀z∈zs,f (((Bv fr δ).set i (.d (a z))).set j (.d (b z)))=some (g z)):DD (DP i j) DN f fr fs δ=some (zs.map g):=by
 unfold DD;rw[hx,Option.bind_some];have:∀zs:List α,(∀z∈zs,f (((Bv fr δ).set i (.d (a z))).set j (.d (b z)))=some (g z))→L2.collect (Gw (DP i j) DN f (Bv fr δ)) (zs.map fun z=>.tuple [a z,b z])=some (zs.map g):=fun zs=>by
  induction zs with
  |nil=>intro _;rfl
  |cons z zs ih =>
   intro h;rw[List.map_cons,List.map_cons];unfold L2.collect;rw[ih fun y hy=>h y (.tail _ hy)];have e:Gw (DP i j) DN f (Bv fr δ) (.tuple [a z,b z])=some (some (g z)):=by
    unfold Gw DP;rw[Option.bind_some];show(some true).bind _=_;rw[Option.bind_some,if_pos rfl,h z (.head _)]
    rfl
   rw[e];rfl
 rw[this zs h,Option.bind_some,Jh,if_pos (by rw[List.length_map];exact hl)]
def Iz(D:Int)(N:Nat)(r:Rat):Prop:=∃t:Int,r*(D:Rat)=(t:Rat)∧t.natAbs≤2^N
theorem Iz.fits{D:Int}{N:Nat}{r:Rat}(h:Iz D N r)(hD:1≤D)(hD2:D.natAbs<2^4400)(hN:N<4400):FM.Fits r 4400:=by
 obtain⟨t,h1,h2⟩:=h;have h0:D≠0:=by lia
 have e:=QS h0 t;have n0:(D:Rat)≠0:=fun z=>h0 (Rat.intCast_inj.mp (z.trans Rat.intCast_zero.symm));have:r=Rat.divInt t D:=by
  generalize Rat.divInt t D=q at e
  grind
 rw[this];exact .Z7 h0 (FI h2 hN) hD2
theorem Iz.mul{D1 D2:Int}{N1 N2:Nat}{r q:Rat}(h:Iz D1 N1 r)(k:Iz D2 N2 q):Iz (D1*D2) (N1+N2) (r*q):=by
 obtain⟨t,h1,h2⟩:=h;obtain⟨u,k1,k2⟩:=k;refine⟨t*u,?_,?_⟩
 ·rw[Rat.intCast_mul,Rat.intCast_mul,←h1,←k1];grind
 ·rw[Int.natAbs_mul,Nat.pow_add];exact Nat.mul_le_mul h2 k2
theorem Iz.up{D E:Int}{N e:Nat}{r:Rat}(h:Iz D N r)(hE:E.natAbs≤2^e):Iz (D*E) (N+e) r:=by
 obtain⟨t,h1,h2⟩:=h;refine⟨t*E,?_,?_⟩
 ·rw[Rat.intCast_mul,Rat.intCast_mul,←h1];grind
 ·rw[Int.natAbs_mul,Nat.pow_add];exact Nat.mul_le_mul h2 hE
theorem Iz.zero{D:Int}{N:Nat}:Iz D N 0:=⟨0,by simp,by simp⟩
theorem Iz.mono{D:Int}{M N:Nat}{r:Rat}(h:Iz D M r)(hl:M≤N):Iz D N r:=let⟨t,h1,h2⟩:=h;⟨t,h1,Nat.le_trans h2 (bI (by decide) hl)⟩
theorem Iz.cast{D E:Int}{N:Nat}{r:Rat}(h:Iz D N r)(e:D=E):Iz E N r:=e ▸ h
theorem Iz.sum{D:Int}{N:Nat}:∀ {l:List Rat},(∀r∈l,Iz D N r)→∃t:Int,l.sum*(D:Rat)=(t:Rat)∧t.natAbs≤l.length*2^N
 |[],_=>⟨0,by simp,by simp⟩
 |r::l,h=>by
  obtain⟨t,h1,h2⟩:=h r (.head _);obtain⟨u,k1,k2⟩:=Iz.sum (l:=l) fun q hq=>h q (.tail _ hq);refine⟨t+u,?_,?_⟩
  ·rw[List.sum_cons,Rat.intCast_add,←h1,←k1];grind
  ·have:=Int.natAbs_add_le t u;rw[List.length_cons,Nat.succ_mul];lia
theorem Iz.Zf{D:Int}{N e:Nat}{l:List Rat}(h:∀r∈l,Iz D N r)(hl:l.length≤2^e):Iz D (N+e) l.sum:=by
 obtain⟨t,h1,h2⟩:=Iz.sum h;refine⟨t,h1,Nat.le_trans h2 ?_⟩;rw[Nat.add_comm,Nat.pow_add];exact Nat.mul_le_mul_right _ hl
structure N9(g P B:Int)(a b c:Nat):Prop where
 g1:1≤g
 P1:1≤P
 B1:1≤B
 gb:g.natAbs<2^17
 Pb:P.natAbs<2^400
 Bb:B.natAbs<2^193
 n:c+3*(a+3)+7*b+60<4400
 eR:14≤a
section
variable{g P B:Int}{a b c:Nat}
theorem N9.bot(z:N9 g P B a b c){s k:Nat}(hs:s≤3)(hk:k≤7):1≤B*g^s*P^k∧(B*g^s*P^k).natAbs<2^4400:=by
 refine⟨Int.mul_pos (Int.mul_pos z.B1 (FV z.g1 s)) (FV z.P1 k),FM.Ci (FM.DL (FM.DL z.Bb (Dy (p:=3) z.gb hs)) (Dy (p:=7) z.Pb hk)) (by decide)⟩
def Nj(g P:Int)(a b n:Nat)(x:Nat→Rat):Prop:=∀k,k<n→Iz (g*P^k) (a+b*k) (x k)
def LS(g P B:Int)(a b c n s:Nat)(f:Nat→Rat):Prop:=∀k,k<n→Iz (B*g^s*P^k) (c+(a+3)*s+b*k) (f k)
theorem QI(z:N9 g P B a b c){n:Nat}(hn:n≤8){x:Nat→Rat}(h:Nj g P a b n x):∀k,k<n→FM.Fits (x k) 4400:=fun k hk=>by
 have hz:=z.n;have hb:b*k≤b*7:=aY _ (by lia);refine(h k hk).fits (Int.mul_pos z.g1 (FV z.P1 k)) (FM.Ci (FM.DL z.gb (Dy (p:=7) z.Pb (by lia))) (by decide)) (by lia)
theorem R5(z:N9 g P B a b c){n s:Nat}(hn:n≤8)(hs:s≤3){f:Nat→Rat}(h:LS g P B a b c n s f):∀k,k<n→FM.Fits (f k) 4400:=fun k hk=>by
 have hz:=z.n;have hb:b*k≤b*7:=aY _ (by lia);have ha:(a+3)*s≤(a+3)*3:=aY _ hs;obtain⟨b1,b2⟩:=z.bot (s:=s) (k:=k) hs (by lia);exact(h k hk).fits b1 b2 (by lia)
theorem Ry{n s i j:Nat}{f x:Nat→Rat}(hf:LS g P B a b c n s f)(hx:Nj g P a b n x)(hij:i+j<n):Iz (B*g^(s+1)*P^(i+j)) (c+(a+3)*s+a+b*(i+j)) (f i*x j):=by
 refine(((hf i (by lia)).mul (hx j (by lia))).cast ?_).mono ?_
 ·rw[Int.pow_succ,Int.pow_add];grind
 ·rw[Nat.mul_add];lia
theorem YR(z:N9 g P B a b c){n s:Nat}(hn:n≤8)(hs:s≤2){f x:Nat→Rat}(hf:LS g P B a b c n s f)(hx:Nj g P a b n x):cH f x n∧LS g P B a b c n (s+1) (A3 f x):=by
 have hz:=z.n;have ha:(a+3)*s≤(a+3)*2:=aY _ hs;have ps:∀m t,t<n→m≤t+1→Iz (B*g^(s+1)*P^t) (c+(a+3)*s+a+b*t+3) (Ae (fun i=>f i*x (t-i)) m).sum:=fun m t ht hm=>by
  refine Iz.Zf (fun r hr=>?_) (by rw[JV];lia);unfold Ae at hr;obtain⟨i,hi,rfl⟩:=aQ.mp hr;have hi:=au.mp hi;have:=Ry (i:=i) (j:=t-i) hf hx (by lia);rw[show i+(t-i)=t by lia]at this;exact this
 refine⟨⟨R5 z hn (by lia) hf,QI z hn hx,fun i j hij=>?_,fun k t ht=>?_⟩,fun k hk=>?_⟩
 ·have hb:b*(i+j)≤b*7:=aY _ (by lia);obtain⟨b1,b2⟩:=z.bot (s:=s+1) (k:=i+j) (by lia) (by lia);exact(Ry hf hx hij).fits b1 b2 (by lia)
 ·have hb:b*t≤b*7:=aY _ (by lia);obtain⟨b1,b2⟩:=z.bot (s:=s+1) (k:=t) (by lia) (by lia);exact(ps _ t ht (Nat.min_le_right _ _)).fits b1 b2 (by lia)
 ·refine(ps (k+1) k hk (aG _)).mono ?_;rw[Nat.mul_succ];lia
end
abbrev eS:List PyData→Option PyData:=Bh Sf Uu
abbrev Bz(x:Nat→Nat→Rat)(nn n:Nat):PyData:=.list (BE ((List.range nn).map fun u=>Ae (x u) n))
theorem QG{δ:Dv}{h:Dv→Option PyData}{n:Nat}(hn:n≤20)(e:h δ=some (.int (n:Nat))):B5 (Ca 1) DN (Il (AJ (fC (.int 0)) (AJ (fC (.int 1)) Am))) [none,none] (Bn Fj (AJ h Am)) δ=some (.list ((List.range n).map fun _=>AV 0)):=by
 refine(comp_map (xs:=Cs 0 n) (g:=fun _=>AV 0) ?_ ?_ fun x _=>rfl).trans ?_
 ·have:=PR (j:=(n:Int)) e (by lia) (by lia)
  simpa using this
 ·unfold Cs;simp;exact aR hn (by decide)
 ·unfold Cs;rw[List.map_map];rfl
theorem cY{xs ys:List PyData}(h:xs.length+ys.length≤500):C8 (.list xs) (.list ys)=some (.list (xs++ys)):=by
 have e:QT (.list xs) (.list ys)=some (.list (xs++ys)):=if_pos (by unfold F6;lia);unfold C8 MO;show(match QT (.list xs) (.list ys) with|some z=>some z|none=>_)=_;rw[e]
theorem Xz{c:Rat}{n:Nat}(hn:1≤n):[AV c]++((List.range (n-1)).map fun _=>AV 0)=AZ (Ae (Co c) n):=by
 obtain⟨m,rfl⟩:∃m,n=m+1:=⟨n-1,by lia⟩;rw[J4];show AV c::_=AV (Co c 0)::AZ (Ae (sh (Co c)) m);rw[Cf];rfl
theorem Im:∀ {ps:List Int} (u:Nat),(∀p∈ps,0≤p)→(ps.take u).sum≤ps.sum∧0≤(ps.take u).sum
 |[],u,_=>by simp
 |p::ps,0,h=>by have:=Bi h;simpa using this
 |p::ps,u+1,h=>by
  obtain⟨h1,h2⟩:=Im (ps:=ps) u fun q hq=>h q (.tail _ hq);have:=h p (.head _);simp;lia
section
variable{g P B:Int}{a b c:Nat}{x:Nat→Nat→Rat}{nn n:Nat}
theorem Sv(z:N9 g P B a b c)(hn8:n≤8)(hx:∀u,u<nn→Nj g P a b n (x u)){ps:List Int}(o:B0 nn ps){part:Rat}(hp:LS g P B a b c n 0 (Co part))(d0 d1 d2 d3 d5 d7 d8 d9:L)(hd1:d1=.d (Bz x nn n)) :
  ∃e7 e8 e9:L,Fq (Bn zip2 (AJ (nm 4) (AJ (nm 1) Am))) (DP 7 8) (Fq (Bn Fj (AJ (nm 7) Am)) (KU 9) (IW 6 (BF Uu (AJ (nm 6) (AJ (nm 8) Am))))) [d0,d1,d2,d3,.d (.tuple (ps.map .int)),d5,.d (Aq (Ae (Co part) n)),d7,d8,d9]
   = some (.nx [d0,d1,d2,d3,.d (.tuple (ps.map .int)),d5,.d (Aq (Ae (fun k=>part*E1 x ps k) n)),e7,e8,e9])∧LS g P B a b c n 3 (fun k=>part*E1 x ps k):=by
 subst hd1;have hlen:(ps.map PyData.int).length=nn:=by rw[List.length_map];exact o.len
 obtain⟨δ',e1,e7,e8,e9,f,rfl,fs,fm⟩:=Hk (xs:=Gk (ps.map .int) (BE ((List.range nn).map fun u=>Ae (x u) n))) (set:=DP 7 8) (F:=Fq (Bn Fj (AJ (nm 7) Am)) (KU 9) (IW 6 (BF Uu (AJ (nm 6) (AJ (nm 8) Am))))) (fs:=Bn zip2 (AJ (nm 4) (AJ (nm 1) Am))) (δ:=[d0,.d (Bz x nn n),d2,d3,.d (.tuple (ps.map .int)),d5,.d (Aq (Ae (Co part) n)),d7,d8,d9])
  (fun u δ=>∃(e7 e8 e9:L) (f:Nat→Rat),δ=[d0,.d (Bz x nn n),d2,d3,.d (.tuple (ps.map .int)),d5,.d (Aq (Ae f n)),e7,e8,e9]∧LS g P B a b c n (ps.take u).sum.toNat f∧LB x (ps.drop u) u f=LB x ps 0 (Co part)) rfl ⟨d7,d8,d9,Co part,rfl,hp,rfl⟩ (by
  rintro u y δ hy ⟨e7,e8,e9,f,rfl,fs,fm⟩;obtain⟨p',r',hp',hr',rfl⟩:=Hz hy;have hu:u<nn:=by rw[←hlen];exact(aC.mp hp').1
  have hul:u<ps.length:=by rw[o.len];exact hu
  have hpu:ps[u]? = some ps[u]:=aI hul;rw[List.getElem?_map,hpu]at hp';cases hp';have hr':r'=Aq (Ae (x u) n):=by
   unfold BE at hr';rw[List.getElem?_map,List.getElem?_map,List.getElem?_range hu]at hr';exact(aW hr').symm
  subst hr';have p0:0≤ps[u]:=o.nn _ (ax hul);have hts:(ps.take (u+1)).sum=(ps.take u).sum+ps[u]:=by rw[List.take_add_one,hpu,Option.toList_some,List.sum_append,List.sum_singleton]
  obtain⟨t1,t2⟩:=Im (ps:=ps) (u+1) o.nn;obtain⟨_,t4⟩:=Im (ps:=ps) u o.nn;have h3:=o.s3;refine⟨[d0,.d (Bz x nn n),d2,d3,.d (.tuple (ps.map .int)),d5,.d (Aq (Ae f n)),.d (.int ps[u]),.d (Aq (Ae (x u) n)),e9],?_⟩;obtain⟨δ',q1,e9',rfl,q2⟩:=Hk (xs:=Cs 0 (ps[u]).toNat) (set:=KU 9) (F:=IW 6 (BF Uu (AJ (nm 6) (AJ (nm 8) Am)))) (fs:=Bn Fj (AJ (nm 7) Am)) (δ:=[d0,.d (Bz x nn n),d2,d3,.d (.tuple (ps.map .int)),d5,.d (Aq (Ae f n)),.d (.int ps[u]),.d (Aq (Ae (x u) n)),e9])
   (fun s δ=>∃e9:L,δ=[d0,.d (Bz x nn n),d2,d3,.d (.tuple (ps.map .int)),d5,.d (Aq (Ae (Gn (x u) s f) n)),.d (.int ps[u]),.d (Aq (Ae (x u) n)),e9]∧LS g P B a b c n ((ps.take u).sum.toNat+s) (Gn (x u) s f)) (PR (j:=ps[u]) rfl (by lia) (by lia)) ⟨e9,rfl,fs⟩ (by
   rintro s y δ hy ⟨e9,rfl,q2⟩;obtain⟨rfl,hs⟩:=Sh hy;obtain⟨rp,q3⟩:=YR z hn8 (by lia) q2 (hx u hu);exact⟨_,_,rfl,HN (CQ rfl (cX (by lia) rp)),_,rfl,q3⟩)
  have hl:(Cs 0 (ps[u]).toNat).length=(ps[u]).toNat:=by unfold Cs;simp
  rw[hl]at q1 q2;refine⟨_,rfl,q1,_,_,_,_,rfl,?_,?_⟩
  ·rw[show(ps.take (u+1)).sum.toNat=(ps.take u).sum.toNat+(ps[u]).toNat by lia];exact q2
  ·rw[←fm,List.drop_eq_getElem_cons hul];rfl)
 have hzl:(Gk (ps.map PyData.int) (BE ((List.range nn).map fun u=>Ae (x u) n))).length=nn:=by unfold Gk BE;simp[o.len]
 rw[hzl]at fs fm;rw[List.take_of_length_le (by rw[o.len];exact aG _)]at fs;rw[List.drop_eq_nil_of_le (by rw[o.len];exact aG _)]at fm;have fm:f=fun k=>part*E1 x ps k:=by rw[←WB x o];exact fm
 subst fm;refine⟨e7,e8,e9,e1,fun k hk=>?_⟩;have s0:=Bi o.nn;have h3:=o.s3;have hz:=z.n;obtain⟨e,he⟩:∃e,ps.sum.toNat+e=3:=⟨3-ps.sum.toNat,by lia⟩;have h17:(g^e).natAbs≤2^(17*e):=by
  rw[Int.natAbs_pow,Nat.pow_mul];exact Nat.pow_le_pow_left (bV z.gb) e
 have eR:=z.eR;refine(((fs k hk).up h17).cast ?_).mono ?_
 ·rw[←he,Int.pow_add];grind
 ·have:17*e≤(a+3)*e:=Nat.mul_le_mul_right _ (by lia);have e3:(a+3)*3=(a+3)*ps.sum.toNat+(a+3)*e:=by rw[←Nat.mul_add,he]
  lia
theorem of_is(z:N9 g P B a b c)(hn8:n≤8)(hn1:1≤n)(hx:∀u,u<nn→Nj g P a b n (x u)){us:List Aa}(h16:us.length≤16)(ho:∀m∈us,B0 nn m.1∧LS g P B a b c n 0 (Co m.2)) :
  eS [BJ us,Bz x nn n,.int (n:Nat)]=some (Aq (Ae (Dq x us) n)):=by
 refine K7 rfl ?_;unfold Jj
 let tot:Nat→Nat→Rat:=fun i k=>((us.take i).map fun m=>m.2*E1 x m.1 k).sum
 have hz:=z.n;have tfit:∀i k,k<n→FM.Fits (tot i k) 4400:=fun i k hk=>by
  obtain⟨b1,b2⟩:=z.bot (s:=3) (k:=k) (by lia) (by lia);have hb:b*k≤b*7:=aY _ (by lia);refine(Iz.Zf (D:=B*g^3*P^k) (N:=c+(a+3)*3+b*k) (e:=4) (fun r hr=>?_) ?_).fits b1 b2 (by lia)
  ·obtain⟨m,hm,rfl⟩:=aQ.mp hr;obtain⟨o,hp⟩:=ho m (List.mem_of_mem_take hm);obtain⟨_,_,_,_,h3⟩:=Sv z hn8 hx o hp .no _ .no .no .no .no .no .no rfl;exact h3 k hk
  ·rw[List.length_map,List.length_take];exact aR (Nat.min_le_right _ _) h16
 have hr0:AZ (Ae (tot 0) n)=(List.range n).map fun _=>AV 0:=by
  rw[Cf];rfl
 refine D8 (HN (y:=Aq (Ae (tot 0) n)) ((QG (h:=nm 2) (n:=n) (by lia) rfl).trans (by unfold Aq;rw[hr0]))) ?_;refine JY (xs:=us.map CZ) (fun i δ=>∃d4 d5 d6 d7 d8 d9:L,δ=[.d (BJ us),.d (Bz x nn n),.d (.int (n:Nat)),.d (Aq (Ae (tot i) n)),d4,d5,d6,d7,d8,d9]) rfl ⟨_,_,_,_,_,_,rfl⟩ ?_ ?_
 ·rintro i y δ hy ⟨d4,d5,d6,d7,d8,d9,rfl⟩;have hi:i<us.length:=by have:=(aC.mp hy).1;simpa using this
  have hm:us[i]? = some us[i]:=aI hi;rw[List.getElem?_map,hm]at hy;cases hy;obtain⟨o,hp⟩:=ho _ (ax hi);have htot:∀k,tot (i+1) k=tot i k+us[i].2*E1 x us[i].1 k:=fun k=>by
   show((us.take (i+1)).map _).sum=_;rw[List.take_add_one,hm,Option.toList_some,List.map_append];exact KL _ _
  generalize us[i]=m at hm o hp htot;refine⟨[.d (BJ us),.d (Bz x nn n),.d (.int (n:Nat)),.d (Aq (Ae (tot i) n)),.d (.tuple (m.1.map .int)),.d (AV m.2),d6,d7,d8,d9],rfl,?_⟩;have t1:Az C8 (ZM (AJ (nm 5) Am)) (B5 (Ca 1) DN (Il (AJ (fC (.int 0)) (AJ (fC (.int 1)) Am))) [none,none] (Bn Fj (AJ (Az P8 (nm 2) (fC (.int 1))) Am))) [.d (BJ us),.d (Bz x nn n),.d (.int (n:Nat)),.d (Aq (Ae (tot i) n)),.d (.tuple (m.1.map .int)),.d (AV m.2),d6,d7,d8,d9]=some (Aq (Ae (Co m.2) n)):=by
   refine DR (x:=.list [AV m.2]) (y:=.list ((List.range (n-1)).map fun _=>AV 0)) rfl (QG (by lia) (DR (x:=.int (n:Nat)) (y:=.int 1) (z:=some (.int ((n-1:Nat):Int))) rfl rfl (by show some (PyData.int ((n:Int)-1))=_;rw[show(n:Int)-1=((n-1:Nat):Int) by lia]))) ?_;unfold Aq;rw[←Xz hn1];exact cY (by rw[List.length_map,List.length_range,List.length_singleton];lia)
  obtain⟨e7,e8,e9,q1,q2⟩:=Sv z hn8 hx o hp (.d (BJ us)) _ (.d (.int (n:Nat))) (.d (Aq (Ae (tot i) n))) (.d (AV m.2)) d7 d8 d9 rfl;have tf:=R5 z hn8 (aG 3) q2;have t3:B5 (DP 1 2) DN (BF Sf (AJ (nm 1) (AJ (nm 2) Am))) [none,none,none] (Bn zip2 (AJ (nm 3) (AJ (nm 6) Am))) [.d (BJ us),.d (Bz x nn n),.d (.int (n:Nat)),.d (Aq (Ae (tot i) n)),.d (.tuple (m.1.map .int)),.d (AV m.2),.d (Aq (Ae (fun k=>m.2*E1 x m.1 k) n)),e7,e8,e9]=some (Aq (Ae (tot (i+1)) n)):=by
   have:=Vm (i:=1) (j:=2) (f:=BF Sf (AJ (nm 1) (AJ (nm 2) Am))) (fs:=Bn zip2 (AJ (nm 3) (AJ (nm 6) Am))) (δ:=[.d (BJ us),.d (Bz x nn n),.d (.int (n:Nat)),.d (Aq (Ae (tot i) n)),.d (.tuple (m.1.map .int)),.d (AV m.2),.d (Aq (Ae (fun k=>m.2*E1 x m.1 k) n)),e7,e8,e9]) (fr:=[none,none,none]) (zs:=List.range n) (a:=fun k=>AV (tot i k)) (b:=fun k=>AV (m.2*E1 x m.1 k)) (g:=fun k=>AV (tot (i+1) k)) (by
    show some (Gk (AZ (Ae (tot i) n)) (AZ (Ae (fun k=>m.2*E1 x m.1 k) n)))=_;rw[Cf,Cf];unfold Gk;rw[List.zip_map',List.map_map];rfl) (by simp;exact aR hn8 (by decide)) (fun k hk=>by
    have hk:=au.mp hk;refine CQ (xs:=[AV (tot i k),AV (m.2*E1 x m.1 k)]) rfl ((Sl (tfit i k hk) (tf k hk) (by decide)).trans ?_);rw[htot])
   unfold B5;rw[this];unfold Aq;rw[Cf];rfl
  exact⟨_,D8 (HN t1) (D8 q1 (HN t3)),_,_,_,_,_,_,rfl⟩
 ·rintro δ' ⟨d4,d5,d6,d7,d8,d9,rfl⟩;rw[List.length_map];refine Ky ?_;show some (Aq (Ae (tot us.length) n))=_;have:tot us.length=Dq x us:=by
   funext k
   show((us.take us.length).map _).sum=_;rw[List.take_length];rfl
  rw[this]
end
theorem Iz.of_eq{D t:Int}{N:Nat}{r:Rat}(h:r*(D:Rat)=(t:Rat))(ht:t.natAbs≤2^N):Iz D N r:=⟨t,h,ht⟩
theorem OA{α:Type}{i:Nat}{f:Dv→Option PyData}{fs:Dv→Option (List PyData)}{δ:Dv}{fr:List (Option Nat)}{zs:List α}{a g:α→PyData}(hx:fs δ=some (zs.map a))(hl:zs.length≤F6)
 (h:∀z∈zs,f ((Bv fr δ).set i (.d (a z)))=some (g z)):DD (Ca i) DN f fr fs δ=some (zs.map g):=by
 unfold DD;rw[hx,Option.bind_some];have:∀zs:List α,(∀z∈zs,f ((Bv fr δ).set i (.d (a z)))=some (g z))→L2.collect (Gw (Ca i) DN f (Bv fr δ)) (zs.map a)=some (zs.map g):=fun zs=>by
  induction zs with
  |nil=>intro _;rfl
  |cons z zs ih =>
   intro h;rw[List.map_cons,List.map_cons];unfold L2.collect;rw[ih fun y hy=>h y (.tail _ hy)];have e:Gw (Ca i) DN f (Bv fr δ) (a z)=some (some (g z)):=by
    unfold Gw Ca;rw[Option.bind_some];show(some true).bind _=_;rw[Option.bind_some,if_pos rfl,h z (.head _)]
    rfl
   rw[e];rfl
 rw[this zs h,Option.bind_some,Jh,if_pos (by rw[List.length_map];exact hl)]
section
variable{uss:List (List Aa)}{rs:List Rat}{most nn:Nat}
theorem Bk.gQ(o:Bk uss rs most nn):N9 (Ag rs) (Dk uss rs most) (BL uss) 21 318 250:=by
 obtain⟨g1,g2,_⟩:=o.JW;obtain⟨b1,b2,_⟩:=Dm (by rw[o.len];exact o.n4) o.fit;obtain⟨_,_,p3,p4⟩:=o.CS;exact⟨g1,p4,b1,g2,p3,b2,by decide,by decide⟩
theorem Bk.fN(o:Bk uss rs most nn):∀u,u<nn→Nj (Ag rs) (Dk uss rs most) 21 318 (most+1) (AX rs uss u):=fun u hu k hk=>by
 refine .of_eq (t:=FW uss rs most u k) ?_ (o.xb u k hu (by have:=o.Jp;lia));rw[K9 o most (aG _) u k hu (by lia),Rat.intCast_mul (Ag rs),GA]
 grind
theorem Bk.gO(o:Bk uss rs most nn):∀us∈uss,∀m∈us,LS (Ag rs) (Dk uss rs most) (BL uss) 21 318 250 (most+1) 0 (Co m.2):=fun us hu m hm k hk=>by
 obtain⟨b1,b2,b3⟩:=Dm (by rw[o.len];exact o.n4) o.fit;cases k with
 |succ k=>exact .zero
 |zero =>
  refine .of_eq (t:=m.2.num*(BL uss).fdiv (m.2.den:Int)) ?_ ?_
  ·rw[JL (b3 us hu m hm)];show m.2*((BL uss*Ag rs^0*_^0:Int):Rat)=_;rw[Int.pow_zero,Int.pow_zero,Int.mul_one,Int.mul_one];exact Rat.mul_comm _ _
  ·have h1:=((o.fit us hu).2 m hm).1;have h2:((BL uss).fdiv (m.2.den:Int)).natAbs<2^193:=aP (FM.BI _ _) b2;exact bV (FM.Ci (FM.DL h1 h2) (by decide))
theorem X8(r:Rat){n:Nat}(h:1≤n):HX n (AV r):=by
 obtain⟨m,rfl⟩:∃m,n=m+1:=⟨n-1,by lia⟩;have hi:∀i:Int,HX m (.int i):=fun i=>by cases m with|zero=>exact⟨i,rfl⟩|succ m=>exact .inl ⟨i,rfl⟩
 refine .inr ⟨_,.inl rfl,by simp,fun e he=>?_⟩;rcases aS.mp he with rfl|he
 ·exact hi _
 ·rw[List.mem_singleton.mp he];exact hi _
noncomputable abbrev Xd:List PyData→Option PyData:=LN Sj N8 eS (Md 3)
theorem VY{r:Rat}{n:Nat}(h:FM.Fits r n)(hn:n≤8800):N8 [.int r.num,.int (r.den:Int)]=some (AV r):=by
 rw[Qv (FM.Kb r) h.d hn,FM.Cd]
theorem V5(k:Nat)(h:k≤20):FM.Fits ((k:Nat):Rat) 4400 :=
 ⟨aP (show((k:Nat):Int).natAbs≤2^5 by lia) (Nat.pow_lt_pow_right (by decide) (by decide)),Nat.lt_of_le_of_lt (show 1≤2^0 by decide) (Nat.pow_lt_pow_right (by decide) (by decide))⟩
theorem Wu{m:List PyData→Option (List PyData)}{fs:Dv→Option (List PyData)}{δ:Dv}{xs:List PyData}(h:fs δ=some xs):Bn m fs δ=m xs:=by
 show(fs δ).bind m=_;rw[h];rfl
theorem YV{i j:Int}(h1:-1000000≤i)(h2:i≤1000000)(h3:-1000000≤j)(h4:j≤1000000):Mw [.int i,.int j]=some (Cs i (j-i).toNat):=if_pos ⟨h1,h2,h3,h4⟩
theorem Vu{xs:List PyData}{n:Nat}(h:n≤xs.length):T2 (.list xs) none (some (n:Int))=some (.list (xs.take n)):=by
 show some (PyData.list (cutD xs none (some (n:Int))))=_;unfold cutD;simp only[HT.JX,HT.HJ,List.drop_zero,Nat.sub_zero];rw[Nat.min_eq_left h]
theorem Z1(k:Nat):((k+1:Nat):Rat)≠0:=by
 rw[←Rat.intCast_natCast];exact fun z=>by have:=Rat.intCast_inj.mp (z.trans Rat.intCast_zero.symm);lia
theorem Yp(o:Bk uss rs most nn):Xd [ER uss,.list (AZ rs),.int (most:Nat),Bz (AX rs uss) nn (most+1)]=some (.bool true):=by
 have hm7:=o.Jp;have z:=o.gQ;have rz:=o.fN;have rf:∀u,u<nn→∀k,k<most+1→FM.Fits (AX rs uss u k) 4400:=fun u hu=>QI z (by lia) (rz u hu);have n4:=o.n4;refine K7 rfl ?_;unfold LW;generalize hC:ER uss=C;generalize hS:PyData.list (AZ rs)=S;generalize hR:Bz (AX rs uss) nn (most+1)=R;have lR:BF Ic (AJ (nm 3) Am) [.d C,.d S,.d (.int (most:Nat)),.d R,.no,.no,.no,.no,.no]=some (.int (nn:Nat)):=by
  rw[←hR];show some (PyData.int ((BE ((List.range nn).map fun u=>Ae (AX rs uss u) (most+1))).length:Nat))=_;unfold BE;simp
 have lC:BF Ic (AJ (nm 0) Am) [.d C,.d S,.d (.int (most:Nat)),.d R,.no,.no,.no,.no,.no]=some (.int (nn:Nat)):=by
  rw[←hC];show some (PyData.int ((uss.map BJ).length:Nat))=_;rw[List.length_map,o.len]
 refine D8 (δ':=[.d C,.d S,.d (.int (most:Nat)),.d R,.no,.no,.no,.no,.no]) (MD (S0 (NR (b:=true) (Nl (by rw[←hR];rfl))) (Iu lR lC (ne_self (n:=0) .int (by decide)))) rfl) ?_;refine JY (xs:=Gk (BE ((List.range nn).map fun u=>Ae (AX rs uss u) (most+1))) (AZ rs)) (fun u δ=>∃d4 d5 d6:L,δ=[.d C,.d S,.d (.int (most:Nat)),.d R,d4,d5,d6,.no,.no]) (by rw[←hR,←hS];rfl) ⟨_,_,_,rfl⟩ ?_ ?_
 ·rintro u y δ hy ⟨d4,d5,d6,rfl⟩;obtain⟨r',w',hr',hw',rfl⟩:=Hz hy;have hu:u<nn:=by have:=(aC.mp hr').1;unfold BE at this;simpa using this
  have hr':r'=Aq (Ae (AX rs uss u) (most+1)):=by
   unfold BE at hr';rw[List.getElem?_map,List.getElem?_map,List.getElem?_range hu]at hr';exact(aW hr').symm
  have hw':w'=AV (AX rs uss u 0):=by
   unfold AZ at hw';have hl:rs[u]? = some (rs[u]'(by rw[o.Ib];exact hu)):=aI _;rw[List.getElem?_map,hl]at hw';rw[←Option.some.inj hw'];show _=AV (rs.getD u 0);rw[List.getD_eq_getElem?_getD,hl];rfl
  subst hr' hw';refine⟨_,rfl,?_⟩;have er:Aq (Ae (AX rs uss u) (most+1))=.list ((List.range (most+1)).map fun t=>AV (AX rs uss u t)):=by unfold Aq;rw[Cf]
  rw[er];have c2:BF Ic (AJ (nm 4) Am) [.d C,.d S,.d (.int (most:Nat)),.d R,.d (.list ((List.range (most+1)).map fun t=>AV (AX rs uss u t))),.d (AV (AX rs uss u 0)),d6,.no,.no]=some (.int ((most+1:Nat):Int)):=by
   show some (PyData.int (((List.range (most+1)).map fun t=>AV (AX rs uss u t)).length:Nat))=_;simp
  have c3:Az C8 (nm 2) (fC (.int 1)) [.d C,.d S,.d (.int (most:Nat)),.d R,.d (.list ((List.range (most+1)).map fun t=>AV (AX rs uss u t))),.d (AV (AX rs uss u 0)),d6,.no,.no]=some (.int ((most+1:Nat):Int)):=rfl;have c4:Az Cn (nm 4) (fC (.int 0)) [.d C,.d S,.d (.int (most:Nat)),.d R,.d (.list ((List.range (most+1)).map fun t=>AV (AX rs uss u t))),.d (AV (AX rs uss u 0)),d6,.no,.no]=some (AV (AX rs uss u 0)):=Jc (show 0<most+1 by lia);obtain⟨δ',e1,d6',rfl⟩:=Hk (xs:=(List.range (most+1)).map fun t=>AV (AX rs uss u t)) (set:=KU 6) (fs:=Ig (nm 4)) (F:=PM (QJ (PU (BF (Md 3) (AJ (nm 6) (AJ (BF N8 (AJ (Az Cn (nm 6) (fC (.int 0))) (AJ (Az Cn (nm 6) (fC (.int 1))) Am))) Am))))) (Gy (fC (.bool false))) LA)
   (δ:=[.d C,.d S,.d (.int (most:Nat)),.d R,.d (.list ((List.range (most+1)).map fun t=>AV (AX rs uss u t))),.d (AV (AX rs uss u 0)),d6,.no,.no])
   (fun i δ=>∃d6:L,δ=[.d C,.d S,.d (.int (most:Nat)),.d R,.d (.list ((List.range (most+1)).map fun t=>AV (AX rs uss u t))),.d (AV (AX rs uss u 0)),d6,.no,.no]) rfl ⟨d6,rfl⟩ (by
   rintro i y δ hy ⟨d6,rfl⟩;have hi:i<most+1:=by have:=(aC.mp hy).1;simpa using this
   rw[List.getElem?_map,List.getElem?_range hi]at hy;cases hy;refine⟨_,_,rfl,MD (NR (b:=true) (Nl (CQ (B7 (x:=AV (AX rs uss u i)) rfl (B7 (CQ (xs:=[.int (AX rs uss u i).num,.int ((AX rs uss u i).den:Int)]) rfl (VY (rf u hu i hi) (by decide))) rfl)) (XF rfl (X8 _ (by decide)))))) rfl,_,rfl⟩)
  refine⟨_,D8 (MD (S0 (NR (b:=true) (Nl rfl)) (S0 (Iu c2 c3 (ne_self (n:=0) .int (by decide))) (Iu c4 (y:=AV (AX rs uss u 0)) rfl (ne_self (Kw _) (by decide))))) rfl) e1,_,_,_,rfl⟩
 rintro δ' ⟨d4,d5,d6,rfl⟩;refine JY (xs:=Gk (uss.map BJ) (BE ((List.range nn).map fun u=>Ae (AX rs uss u) (most+1)))) (fun u δ=>∃d4 d7 d8:L,δ=[.d C,.d S,.d (.int (most:Nat)),.d R,d4,d5,d6,d7,d8]) (by rw[←hR,←hC];rfl) ⟨_,_,_,rfl⟩ ?_ ?_
 ·rintro u y δ hy ⟨d4,d7,d8,rfl⟩;obtain⟨p',r',hp',hr',rfl⟩:=Hz hy;have hu:u<nn:=by have:=(aC.mp hr').1;unfold BE at this;simpa using this
  have hr':r'=Aq (Ae (AX rs uss u) (most+1)):=by
   unfold BE at hr';rw[List.getElem?_map,List.getElem?_map,List.getElem?_range hu]at hr';exact(aW hr').symm
  have hl:uss[u]? = some (uss[u]'(by rw[o.len];exact hu)):=aI _;have hum:=aL hl;rw[List.getElem?_map,hl]at hp';have hp':=(aW hp').symm;have hgs:∀k,AX rs uss u (k+1)=Dq (AX rs uss) (uss[u]'(by rw[o.len];exact hu)) k / ((k+1:Nat):Rat):=fun k=>by
   rw[ML o.pw,List.getD_eq_getElem?_getD,hl];rfl
  generalize uss[u]'(by rw[o.len];exact hu)=us at hl hum hp' hgs;subst hr' hp';have er:Aq (Ae (AX rs uss u) (most+1))=.list ((List.range (most+1)).map fun t=>AV (AX rs uss u t)):=by unfold Aq;rw[Cf]
  rw[er];refine⟨[.d C,.d S,.d (.int (most:Nat)),.d R,.d (.list ((List.range (most+1)).map fun t=>AV (AX rs uss u t))),d5,d6,.d (BJ us),d8],rfl,?_⟩;have t1:=of_is z (n:=most+1) (by lia) (by lia) rz (us:=us) (by have:=(o.fit us hum).1;lia) fun m hm=>⟨o.pw us hum m hm,o.gO us hum m hm⟩;rw[hR]at t1;have hk0:=Z1;have t2:B5 (Ca 1) DN (BF Sj (AJ (Az Cn (nm 2) (nm 1)) (AJ (Il (AJ (nm 1) (AJ (fC (.int 1)) Am))) Am))) [none,none,some 4] (Bn Mw (AJ (fC (.int 1)) (AJ (Az C8 (nm 2) (fC (.int 1))) Am))) [.d C,.d S,.d (.int (most:Nat)),.d R,.d (.list ((List.range (most+1)).map fun t=>AV (AX rs uss u t))),d5,d6,.d (BJ us),.d (Aq (Ae (Dq (AX rs uss) us) (most+1)))]=some (.list ((List.range most).map fun t=>AV (Dq (AX rs uss) us t))):=by
   have hx:Bn Mw (AJ (fC (.int 1)) (AJ (Az C8 (nm 2) (fC (.int 1))) Am)) [.d C,.d S,.d (.int (most:Nat)),.d R,.d (.list ((List.range (most+1)).map fun t=>AV (AX rs uss u t))),d5,d6,.d (BJ us),.d (Aq (Ae (Dq (AX rs uss) us) (most+1)))]=some (Cs 1 most):=by
    rw[Wu (xs:=[.int 1,.int ((most:Int)+1)]) rfl,YV (by lia) (by lia) (by lia) (by lia),show((most:Int)+1-1).toNat=most by lia]
   have hx':Cs 1 most=(List.range most).map fun t=>PyData.int ((t+1:Nat):Int):=by
    unfold Cs;exact aU fun t _=>by rw[show(1:Int)+(t:Nat)=((t+1:Nat):Int) by lia]
   rw[hx']at hx;have:=OA (zs:=List.range most) (a:=fun t=>PyData.int ((t+1:Nat):Int)) (g:=fun t=>AV (Dq (AX rs uss) us t)) (i:=1) (f:=BF Sj (AJ (Az Cn (nm 2) (nm 1)) (AJ (Il (AJ (nm 1) (AJ (fC (.int 1)) Am))) Am))) (fr:=[none,none,some 4]) hx (by simp;exact aR hm7 (by decide)) fun t ht=>by
    have ht:=au.mp ht;refine CQ (B7 (x:=AV (AX rs uss u (t+1))) (Jc (show t+1<most+1 by lia)) (B7 (x:=AV ((t+1:Nat):Rat)) rfl rfl)) ((XI (rf u hu (t+1) (by lia)) (V5 (t+1) (by lia)) (by decide)).trans ?_);rw[hgs];have h0:=hk0 t;generalize ((t+1:Nat):Rat)=kk at h0;refine bD (fun r=>some (AV r)) ?_
    grind
   unfold B5;rw[this];rfl
  have t3:QA (nm 8) MZ (MC (nm 2)) [.d C,.d S,.d (.int (most:Nat)),.d R,.d (.list ((List.range (most+1)).map fun t=>AV (AX rs uss u t))),d5,d6,.d (BJ us),.d (Aq (Ae (Dq (AX rs uss) us) (most+1)))]=some (.list ((List.range most).map fun t=>AV (Dq (AX rs uss) us t))):=by
   have e2:Aq (Ae (Dq (AX rs uss) us) (most+1))=.list ((List.range (most+1)).map fun t=>AV (Dq (AX rs uss) us t)):=by unfold Aq;rw[Cf]
   rw[e2];refine(Vu (xs:=(List.range (most+1)).map fun t=>AV (Dq (AX rs uss) us t)) (n:=most) (by simp)).trans ?_;rw[←List.map_take,List.take_range,Nat.min_eq_left (by lia)]
  refine⟨_,D8 (HN (CQ rfl t1)) (MD (Iu t2 t3 (ne_self (n:=2) (L4 fun d hd=>?_) (by decide))) rfl),_,_,_,rfl⟩;obtain⟨t,_,rfl⟩:=aQ.mp hd;exact Kw _
 ·rintro δ' ⟨d4,d7,d8,rfl⟩
  rfl
end
def Tu(K:PySem.W.Frag):Sp:=fun vs H Q _=>∃(a:Addr) (ns:List Int),vs=[.ref a]∧AQ K H a (ns.map V.int)∧ns.length≤63∧∀H',Q (.bl true) H'
theorem Bk.less{uss:List (List Aa)}{rs:List Rat}{most nn:Nat}(o:Bk uss rs most nn){l:Nat}(h:l≤7):Bk uss rs l nn:=⟨o.n4,o.len,o.Ib,h,o.fit,o.pw,o.PZ,o.good⟩
theorem W9{many:Nat}{tss:List (List IT.Tm)}(h1:1≤many)(h4:many≤4)(hl:tss.length=many)(Ah:∀us∈tss,Gb many us){rs:List Rat}(hrl:rs.length=many)(hrf:∀r∈rs,cE r){most:Nat}(hm:most≤7):Bk (tss.map fun us=>us.map IB) rs most many:=by
 refine⟨h4,by rw[List.length_map];exact hl,hrl,hm,fun us hu=>?_,fun us hu m hm=>?_,fun r hr=>(hrf r hr).1.mono,W8 hl h1 Ah⟩
 ·obtain⟨ts,ht,rfl⟩:=aQ.mp hu;refine⟨by rw[List.length_map];exact(Ah ts ht).1,fun m hm=>?_⟩;obtain⟨t,htm,rfl⟩:=aQ.mp hm;exact(Vv ((Ah ts ht).2.1 t htm)).2.1.mono
 ·obtain⟨ts,ht,rfl⟩:=aQ.mp hu;obtain⟨t,htm,rfl⟩:=aQ.mp hm;obtain⟨⟨l,sm⟩,ps,_⟩:=(Ah ts ht).2.1 t htm;exact⟨l,fun p hp=>(ps p hp).1,sm⟩
abbrev C0(uss:List (List Aa))(rs:List Rat):PyData:=.list [ER uss,.list (AZ rs)]
theorem YC(m:Aa):Ok 2 (CZ m):=WW fun d hd=>by
 rcases aS.mp hd with rfl|hd
 ·exact WW (n:=0) fun d hd=>by obtain⟨p,_,rfl⟩:=aQ.mp hd;exact .int
 ·rw[List.mem_singleton.mp hd];exact Kw _
theorem Xg{d:PyData}{n:Nat}(h:Ok n d):Ok (n+1) d:=⟨h.1,Nat.le_trans h.2 (Nat.le_succ _)⟩
theorem Yg(uss:List (List Aa))(rs:List Rat):Ok 5 (C0 uss rs):=L4 fun d hd=>by
 rcases aS.mp hd with rfl|hd
 ·refine L4 fun d hd=>?_;obtain⟨us,_,rfl⟩:=aQ.mp hd;refine L4 fun d hd=>?_;obtain⟨m,_,rfl⟩:=aQ.mp hd;exact YC m
 ·rw[List.mem_singleton.mp hd];refine Xg (Xg (L4 (n:=1) fun d hd=>?_));unfold AZ at hd;obtain⟨r,_,rfl⟩:=aQ.mp hd;exact Kw r
theorem SA(x:Nat→Nat→Rat)(nn n:Nat):Ok 3 (Bz x nn n):=L4 fun d hd=>by
 unfold BE at hd;obtain⟨r,_,rfl⟩:=aQ.mp hd;refine L4 (n:=1) fun d hd=>?_;unfold AZ at hd;obtain⟨q,_,rfl⟩:=aQ.mp hd;exact Kw q
theorem ZZ{uss:List (List Aa)}{rs:List Rat}{most nn:Nat}(o:Bk uss rs most nn)(c:Int):L8 Qw [.no,.no,.no,.no,.d (.int c),.d (.int (most:Nat)),.d (C0 uss rs),.no,.d (Bz (AX rs uss) nn (most+1)),.no,.no]=some (.rt (.bool true)):=by
 have hm7:=o.Jp;obtain⟨less,hle,he⟩:∃less:Nat,less≤most∧(c / 48) % ((most:Int)+1)=(less:Nat):=by
  have h1:=Int.emod_nonneg (c / 48) (show(most:Int)+1≠0 by lia);have h2:=Int.emod_lt_of_pos (c / 48) (show 0<(most:Int)+1 by lia);exact⟨((c / 48) % ((most:Int)+1)).toNat,by lia,by lia⟩
 unfold L8;have s1:Az TR (Az Tx (nm 4) (fC (.int 48))) (Az C8 (nm 5) (fC (.int 1))) [.no,.no,.no,.no,.d (.int c),.d (.int (most:Nat)),.d (C0 uss rs),.no,.d (Bz (AX rs uss) nn (most+1)),.no,.no]=some (.int (less:Nat)):=by
  refine DR (x:=.int (c / 48)) (y:=.int ((most:Int)+1)) (DR (x:=.int c) (y:=.int 48) rfl rfl (div_is (by decide) (by decide))) rfl ?_;rw[mod_is (by lia),he]
 refine D8 (HN s1) ?_;show Dp _ _ [.no,.no,.no,.no,.d (.int c),.d (.int (most:Nat)),.d (C0 uss rs),.no,.d (Bz (AX rs uss) nn (most+1)),.no,.d (.int (less:Nat))]=_;have g1:BF Qw (AJ (Az Cn (nm 6) (fC (.int 0))) (AJ (Az Cn (nm 6) (fC (.int 1))) (AJ (nm 10) Am))) [.no,.no,.no,.no,.d (.int c),.d (.int (most:Nat)),.d (C0 uss rs),.no,.d (Bz (AX rs uss) nn (most+1)),.no,.d (.int (less:Nat))]=some (Bz (AX rs uss) nn (less+1)):=CQ (xs:=[ER uss,.list (AZ rs),.int (less:Nat)]) rfl (VU (o.less (by lia)));have g2:BF Qw (AJ (Az Cn (nm 6) (fC (.int 0))) (AJ (Az Cn (nm 6) (fC (.int 1))) (AJ (nm 5) Am))) [.no,.no,.no,.no,.d (.int c),.d (.int (most:Nat)),.d (C0 uss rs),.no,.d (Bz (AX rs uss) nn (most+1)),.no,.d (.int (less:Nat))]=some (Bz (AX rs uss) nn (most+1)):=CQ (xs:=[ER uss,.list (AZ rs),.int (most:Nat)]) rfl (VU o);have g3:B5 (Ca 1) DN (QA (nm 1) MZ (MC (Az C8 (nm 2) (fC (.int 1))))) [none,none,some 10] (Ig (nm 8)) [.no,.no,.no,.no,.d (.int c),.d (.int (most:Nat)),.d (C0 uss rs),.no,.d (Bz (AX rs uss) nn (most+1)),.no,.d (.int (less:Nat))]=some (Bz (AX rs uss) nn (less+1)):=by
  have:=OA (zs:=List.range nn) (a:=fun u=>Aq (Ae (AX rs uss u) (most+1))) (g:=fun u=>Aq (Ae (AX rs uss u) (less+1))) (i:=1) (f:=QA (nm 1) MZ (MC (Az C8 (nm 2) (fC (.int 1))))) (fr:=[none,none,some 10]) (fs:=Ig (nm 8)) (δ:=[.no,.no,.no,.no,.d (.int c),.d (.int (most:Nat)),.d (C0 uss rs),.no,.d (Bz (AX rs uss) nn (most+1)),.no,.d (.int (less:Nat))]) (by
   show some (BE _)=_;unfold BE;rw[List.map_map];rfl) (by have:=o.n4;simp;exact aR this (by decide)) fun u _=>by
   have e1:Aq (Ae (AX rs uss u) (most+1))=.list ((List.range (most+1)).map fun t=>AV (AX rs uss u t)):=by unfold Aq;rw[Cf]
   have e2:Aq (Ae (AX rs uss u) (less+1))=.list ((List.range (less+1)).map fun t=>AV (AX rs uss u t)):=by unfold Aq;rw[Cf]
   rw[e1,e2];refine(Vu (xs:=(List.range (most+1)).map fun t=>AV (AX rs uss u t)) (n:=less+1) (by simp;lia)).trans ?_;rw[←List.map_take,List.take_range,Nat.min_eq_left (by lia)]
  unfold B5;rw[this];show some (PyData.list _)=some (PyData.list (BE _));unfold BE;rw[List.map_map];rfl
 refine D8 (MD (c:=Sx _) (Iu g1 g3 (ne_self (SA _ _ _) (by decide))) rfl) ?_;exact Ky (DR g2 (y:=Bz (AX rs uss) nn (most+1)) rfl (W0 (SA _ _ _) (by decide)))
structure ME(H11 H15 H16 H':Hp):Prop where
 old:AG H11 H'
 new:∀b o,H15 b=none→H16 b=some o→H' b=some o
 Fz:∀b xs,H16 b=some (.tup xs)→H' b=some (.tup xs)
theorem ME.upd{H11 H15 H16 H':Hp}(s:ME H11 H15 H16 H'){b:Addr}{ys:List V}{o:HO}(h1:H11 b=none)(h2:H15 b≠none)(h3:H' b=some (.lst ys)):ME H11 H15 H16 (upd H' b o) :=
 ⟨fun c u z=>by rw[AE (AK z h1)];exact s.old _ _ z,fun c u n z=>by rw[AE (fun y=>by subst y;exact h2 n)];exact s.new _ _ n z,fun c xs z=>by
  have z:=s.Fz _ _ z;rw[AE (fun y=>by subst y;rw[h3]at z;cases z)];exact z⟩
theorem Mg{H H':Hp}(e:∀b xs,H b=some (.tup xs)→H' b=some (.tup xs)):∀ {qs:List Rat} {xs:List V},Ay H (AZ qs) xs→Ay H' (AZ qs) xs
 |[],xs,h=>by
  have:=h.len;have e:xs=[]:=bb (by simpa[AZ]using this);rw[e];exact .nil
 |q::qs,xs,h=>by
  obtain⟨x,r,rfl,h1,h2⟩:=Ay.R7 (d:=AV q) (ds:=AZ qs) h;obtain⟨p,rfl,hp⟩:=h1.rat;exact .cons (UY (e _ _ hp)) (Mg e h2)
theorem OT{H15 H H':Hp}(n:∀b o,H15 b=none→H b=some o→H' b=some o)(e:∀b xs,H b=some (.tup xs)→H' b=some (.tup xs)):∀ {rs:List (List Rat)} {xs:List V},Ay H (BE rs) xs→(∀z∈xs,∃b,z=.ref b∧H15 b=none)→Ay H' (BE rs) xs
 |[],xs,h,_=>by
  have:=h.len;have e:xs=[]:=bb (by simpa[BE]using this);rw[e];exact .nil
 |q::qs,xs,h,hn=>by
  obtain⟨x,r,rfl,h1,h2⟩:=Ay.R7 (d:=Aq q) (ds:=BE qs) h;obtain⟨a,ys,rfl,ha,dy⟩:=h1.Mm;obtain⟨b,e2,hb⟩:=hn _ (.head _);cases e2;exact .cons (.lst (n _ _ hb ha) (Mg e dy)) (OT n e h2 fun z hz=>hn z (.tail _ hz))
theorem dQ{X:Cx}{sts:List Stmt}{F:DF}{s1:Stmt}{t1:TS}{s2:Stmt}{t2:TS}{s3:Stmt}{t3:TS}{s4:Stmt}{t4:TS}{s5:Stmt}{t5:TS}{s6:Stmt}{t6:TS}{s7:Stmt}{t7:TS}{s8:Stmt}{t8:TS}{s9:Stmt}{t9:TS}{s10:Stmt}{t10:TS}{s11:Stmt}{t11:TS}{s12:Stmt}{t12:TS}(d:LO X sts F)(p1:PS X s1 t1)(p2:PS X s2 t2)(p3:PS X s3 t3)(p4:PS X s4 t4)(p5:PS X s5 t5)(p6:PS X s6 t6)(p7:PS X s7 t7)(p8:PS X s8 t8)(p9:PS X s9 t9)(p10:PS X s10 t10)(p11:PS X s11 t11)(p12:PS X s12 t12){Pz:TS→Prop}(k:∀u:TS,(∀δ r,F δ=some r→∀G0 H0 G H σ D,Rw G0 H0 G H σ δ []→Fin G0 H0 D r→u D σ H)→Pz (Fp t1 (Fp t2 (Fp t3 (Fp t4 (Fp t5 (Fp t6 (Fp t7 (Fp t8 (Fp t9 (Fp t10 (Fp t11 (Fp t12 u))))))))))))):∃t,HQ X (s1::s2::s3::s4::s5::s6::s7::s8::s9::s10::s11::s12::sts) t∧Pz t:=by
 obtain⟨t,pt,kt⟩:=d;exact⟨_,(AB p1 (AB p2 (AB p3 (AB p4 (AB p5 (AB p6 (AB p7 (AB p8 (AB p9 (AB p10 (AB p11 (AB p12 pt)))))))))))),k t kt⟩
section
variable{P:Program}{w:World}{K:PySem.W.Frag}{mg:Str→Option Value}{base:Heap}{f g1 g2 g3 g4 g5:Addr}{fd gd1 gd2 gd3 gd4 gd5:FuncData}
theorem Z6{k:Nat}(F:Fn K mg "law" Me ["_law_script"] f fd)(CB:Fn K mg "_law_cell" GK ["_law_script", "_law_k"] g1 gd1)(Ey:Fn K mg "_law_change" Gi ["_law_script", "_law_start_here", "_law_many", "_law_most"] g2 gd2)(Fb:Fn K mg "_law_start" HW ["_law_cell_here", "_law_many"] g3 gd3)(B3:Fn K mg "growth_rows" Es ["change", "start", "most"] g4 gd4)(GB:Fn K mg "_law_good" IY ["_law_change_here", "_law_start_here", "_law_most", "_law_rows"] g5 gd5)
 (Ej:AL P w K mg base Ac k g1 gd1 ["_law_script", "_law_k"] (NQ K))(Om:AL P w K mg base Ac k g2 gd2 ["_law_script", "_law_start_here", "_law_many", "_law_most"] (Pd K))(Qz:AL P w K mg base Ac k g3 gd3 ["_law_cell_here", "_law_many"] QF)(Dx:AL P w K mg base Ac k g4 gd4 ["change", "start", "most"] V8)(IU:AL P w K mg base Ac k g5 gd5 ["_law_change_here", "_law_start_here", "_law_most", "_law_rows"] (EY Xd))
 (GC:mg "int" = none)(BR:mg "list" = none):AL P w K mg base Ac (k+1) f fd ["_law_script"] (Tu K):=by
 have sc:=Vb;refine F.F.ok (k:=k) sc (fun vs H Q E h=>?_) (fun cdv A outer s H vs Q E hr h=>?_)
 ·obtain⟨a,ns,rfl,_⟩:=h
  rfl
 obtain⟨a,ns,rfl,hSc,h63,q⟩:=h
 refine' dQ (UG B3 (ef Dx) cdv A outer s H E hr) ?p1 ?p2 ?p3 ?p4 ?p5 ?p6 ?p7 ?p8 ?p9 ?p10 ?p11 ?p12 ?kk
 case p1=>exact(AW (i:=1) sc.nd rfl (Or.inl rfl) (Ab CU AH (Ab Ge (Aj CB Ej hr rfl (AA (pv 0) (AA AH AD))) AH)))
 case p2=>exact(AW (i:=2) sc.nd rfl (Or.inl rfl) (Aj Ey Om hr rfl (AA (pv 0) (AA AH (AA (pv 1) (AA (Ab EW AH (GP VN rfl GC PyProof.Rows.boot_int (AA (F4 Fi (pv 1) AH (Ao _)) AD))) AD))))))
 case p3=>exact(AW (i:=3) sc.nd rfl (Or.inl rfl) (Aj Fb Qz hr rfl (AA (Aj CB Ej hr rfl (AA (pv 0) (AA AH AD))) (AA (pv 1) AD))))
 case p4=>exact(AW (i:=4) sc.nd rfl (Or.inl rfl) (Aj CB Ej hr rfl (AA (pv 0) (AA AH AD))))
 case p5=>exact(AW (i:=5) sc.nd rfl (Or.inl rfl) (Ab Ge (pv 4) AH))
 case p6=>exact(BK (Au Fi (Ab Ge (Ab Ss (pv 4) AH) AH) AH (Ao _)) (AF (AW (i:=5) sc.nd rfl (Or.inl rfl) AH)) Ax)
 case p7=>exact(AW (i:=6) sc.nd rfl (Or.inl rfl) (Dr (AA (DC [".0", "_law_some"] 1 [none,none] (BB (pv 2)) (fun _ _ _ _ _=>Bl) (fun _ _ _ _ _=>(GP Jm rfl BR ae (AA (pv 1) AD)))) (AA (GP J8 rfl BR ae (AA (pv 3) AD)) AD))))
 case p8=>exact(AW (i:=7) sc.nd rfl (Or.inl rfl) (Aj B3 Dx hr rfl (AA (BG D6 (pv 6) AH (fun _ _=>rfl)) (AA (BG D6 (pv 6) AH (fun _ _=>rfl)) (AA (pv 5) AD)))))
 case p9=>exact(BK (PW.pt (EI (CI (Bx (Aj GB IU hr rfl (AA (pv 2) (AA (pv 3) (AA (pv 5) (AA (pv 7) AD))))))) (DM (Au (QP (by have:=hr.units;exact this)) (pv 6) (Dr (AA (pv 2) (AA (pv 3) AD))) (Ao _))))) (AF (Af CL)) Ax)
 case p10=>exact(Em (i:=8) [".0", "_law_row"] 1 [none,none] sc.nd rfl rfl (BB (pv 7)) (fun _ _ _ _ _=>Bl) (fun _ _ _ _ _=>(GP Jm rfl BR ae (AA (pv 1) AD))))
 case p11=>exact(Bf aK rfl (BB (pv 7)) (Al (i:=9) sc.nd rfl (Or.inl rfl)) (AF (DY (K0 bH bX bY FK (pv 9) (AA AH AD)))))
 case p12=>exact(DY (ZA bH PySem.F.slot_list_clear PySem.F.type_list_clear Vz (pv 7)))
 intro u kt;refine⟨_,rfl,a,ns,0,rfl,hSc,by decide,by decide,fun x0=>⟨_,_,rfl,rfl,(by show(0:Int)<3;decide),_,_,rfl,rfl,?_⟩⟩;obtain⟨many,hm1,hm3,em⟩:∃many:Nat,1≤many∧many≤3∧1+x0 % 3=(many:Int):=⟨(1+x0 % 3).toNat,by lia,by lia,by lia⟩;rw[show((fun i j:Int=>V.int (i+j)) 1 (x0 % 3))=V.int (many:Int) from bD V.int em];have hm4:many≤4:=by lia
 obtain⟨mo,hmo,emo⟩:∃mo:Nat,mo≤3∧(3:Int)-(if decide (V.int (many:Int)=V.int 3)=true then 1 else 0)=(mo:Nat):=by
  split
  ·exact⟨2,by decide,rfl⟩
  ·exact⟨3,by decide,rfl⟩
 refine⟨_,rfl,_,rfl,_,rfl,rfl,.inr ⟨_,rfl,_,_,rfl,rfl,?_⟩⟩;rw[show((fun i j:Int=>V.int (i-j)) 3 (if decide (V.int (many:Int)=V.int 3)=true then 1 else 0))=V.int (mo:Nat) from bD V.int emo];refine⟨a,ns,many,mo,rfl,hmo,hSc,hm1,hm4,fun vC H1 tss e1 htl Ah dC=>?_⟩;refine⟨_,rfl,a,ns,5,rfl,e1.seq hSc,by decide,by decide,fun x1=>⟨_,rfl,x1,many,rfl,hm4,fun S H2 xs rs e2 hS dx hrl hrf=>?_⟩⟩;have E2:=e1.trans e2;have gro:=fun {most:Nat} (h:most≤7)=>W9 hm1 hm4 htl Ah hrl hrf h;have dC:DU H1 (ER (tss.map fun us=>us.map IB)) vC:=by
  have e:(tss.map fun us=>us.map IB).map BJ=tss.map Gd:=by
   rw[List.map_map];exact aU fun us hu=>(Rt (Ah us hu)).symm
  show DU H1 (.list ((tss.map fun us=>us.map IB).map BJ)) vC;rw[e];exact dC
 generalize tss.map (fun us=>us.map IB)=uss at gro dC;obtain⟨C,cs,rfl,hC,dcs⟩:=dC.Mm;refine⟨_,rfl,a,ns,6,rfl,E2.seq hSc,by decide,by decide,fun c=>?_⟩;refine⟨_,rfl,_,_,rfl,rfl,(by show(0:Int)<6;decide),?_⟩
 try dsimp only[CM]
 refine Ez (fun σ' H'=>∃most:Nat,most≤7∧σ'=[some (.ref a),some (.int (many:Nat)),some (.ref C),some (.ref S),some (.int c),some (.int (most:Nat)),none,none,none,none,none]∧H'=H2) (fun nx hn=>?_) ?_
 ·refine⟨_,rfl,_,_,rfl,rfl,⟨by decide,by decide⟩,_,_,rfl,rfl,(by show(0:Int)<8;decide),rfl,_,rfl,BQ (fun _=>?_) (fun _=>?_)⟩
  ·exact hn _ _ ⟨7,by decide,rfl,rfl⟩
  ·refine hn _ _ ⟨(c % 6).toNat,by lia,?_,rfl⟩;rw[Int.toNat_of_nonneg (Int.emod_nonneg _ (by decide))]
   rfl
 rintro σ' H' ⟨most,hmost,rfl,rfl⟩;have o:=gro hmost;have hC:=e2 _ _ hC;have dcs:=dcs.same e2;have hcl:cs.length=uss.length:=by rw[dcs.len,List.length_map]
 have hul:=o.len;refine⟨_,rfl,C,rfl,⟨_,AQ.of hC⟩,fun D2 hD2=>Ce (n:=cs.length) (fun j zs H9=>AG H' H9∧zs.length=j∧AO D2 H9 ((uss.take j).map BJ) zs) ⟨AN hD2 _,rfl,.nil⟩ ?_ ?_⟩
 ·rintro j zs H9 hj ⟨e9,hzl,dz⟩ hD9;have hu:uss[j]? = some (uss[j]'(by lia)):=aI _;obtain⟨b,us2,m1,m2,m3⟩:=HP dcs hu;refine⟨⟨cs,.ref b,AQ.of (e9 _ _ hC),m1⟩,Cj (n:=60) (by lia) (by decide),fun x H' y=>?_⟩;obtain⟨rfl,y⟩:=y;have hx:=y cs (AQ.of (e9 _ _ hC));rw[m1]at hx;cases hx;unfold Cq;refine BV ⟨_,rfl,b,us2,rfl,.inl (AQ.of (e9 _ _ m2)),fun l hl=>?_⟩;have nl:l≠D2:=fun z=>by subst z;rw[hD9]at hl;cases hl
  have e10:=AN hl (.lst us2);have hD10:=e10 _ _ hD9;refine⟨hD10,BZ hj ⟨fun b o z=>?_,by simp[hzl],?_⟩⟩
  ·rw[AE (AK z hD2)];exact e10 _ _ (e9 _ _ z)
  ·rw[List.take_add_one,hu,List.map_append];exact .but .upd ((dz.same e10).app (.cons (.lst nl AI (JM hD10 (m3.same (e9.trans e10)))) .nil))
 rintro zs H9 ⟨e9,hzl,dz⟩ hD9;rw[List.take_of_length_le (by lia)]at dz;have dz:=CO dz;refine⟨⟨cs,AQ.of (e9 _ _ hC),Nat.le_refl _⟩,?_⟩;refine⟨_,rfl,S,xs,rfl,.inl (AQ.of (e9 _ _ hS)),fun S2 hS2=>?_⟩;generalize hH:upd _ S2 _=H10;obtain⟨e10,dS2,hS10⟩:=WH hH hS2 (dx.same e9);clear hH hS2;refine⟨CC (show 2≤60 by decide),fun hd0 hhd=>?_⟩;generalize hH:upd _ hd0 _=H11;obtain⟨e11,dH,hH11⟩:=WH hH hhd (.cons ((DU.lst hD9 dz).same e10) (.cons dS2 .nil));clear hH hhd;have dH:DU H11 (C0 uss rs) (.ref hd0):=dH;have E11:=e9.trans (e10.trans e11);have dC11:DU H11 (ER uss) (.ref C):=(DU.lst hC dcs).same E11;have dS11:DU H11 (.list (AZ rs)) (.ref S):=(DU.lst hS dx).same E11;refine⟨_,rfl,_,_,_,_,rfl,rfl,AQ.of hH11,rfl,_,rfl,_,_,_,_,rfl,rfl,AQ.of hH11,rfl,_,rfl,D2,S2,zs,xs,uss,rs,most,many,rfl,e11 _ _ (e10 _ _ hD9),dz.same (e10.trans e11),e11 _ _ hS10,dx.same E11,o,fun Fo H12 fs e12 hFn hFo dF nF=>?_⟩;rw[Qr o]at dF;have dFo:DU H12 (Bz (AX rs uss) many (most+1)) (.ref Fo):=DU.lst hFo dF;have hfl:fs.length=many:=by rw[dF.len];unfold BE;simp
 refine⟨_,rfl,_,rfl,_,rfl,_,rfl,[ER uss,.list (AZ rs),.int (most:Nat),Bz (AX rs uss) many (most+1)],.bool true,H12,Yp o,.cons (dC11.same e12).du (.cons (dS11.same e12).du (.cons (by rw[Du]) (.cons dFo.du .nil))),.refl _,fun v G13 H13 _ _ _ e13 dv=>?_⟩;rw[Du]at dv;subst dv;refine⟨_,rfl,Cr ?_⟩;have E13:=e12.trans e13;refine⟨_,rfl,_,rfl,_,rfl,CC (show 2≤60 by decide),fun p4 hp4=>?_⟩;generalize hH:upd _ p4 _=H15;obtain⟨e15,hb,_⟩:=WH hH hp4 (.cons (dC11.same E13) (.cons (dS11.same E13) .nil));clear hH hp4;have hb:DU H15 (C0 uss rs) (.ref p4):=hb;have E15:=E13.trans e15;have okh:=Yg uss rs;have z:=Jg _ okh.1;refine⟨_,_,(dH.same E15).br,hb.br,okh.shaped (by decide),okh.shaped (by decide),_,rfl,?_⟩;have z':(if true=true then !PyData.eqv (C0 uss rs) (C0 uss rs) else PyData.eqv (C0 uss rs) (C0 uss rs))=false:=by rw[z];rfl
 rw[z'];refine Cr ?_;have E1215:=e13.trans e15;have hFo15:=E1215 _ _ hFo;have dF15:=dF.same E1215;have rf:∀i,i<many→∃b ys,fs[i]? = some (.ref b)∧H15 b=some (.lst ys)∧Ay H15 (AZ (Ae (AX rs uss i) (most+1))) ys∧H11 b=none:=fun i hi=>by
  obtain⟨v,k1,k2⟩:=dF15.get (i:=i) (d:=Aq (Ae (AX rs uss i) (most+1))) (by unfold BE;rw[List.getElem?_map,List.getElem?_map,List.getElem?_range hi];rfl);obtain⟨b,ys,rfl,k3,k4⟩:=k2.Mm;obtain⟨b',e,hn⟩:=nF _ (aL k1);cases e;exact⟨b,ys,k1,k3,k4,hn⟩
 refine⟨_,rfl,Fo,rfl,⟨_,AQ.of hFo15⟩,fun Kp hKp=>Ce (n:=fs.length) (fun j ks H9=>AG H15 H9∧ks.length=j∧AO Kp H9 (BE ((List.range j).map fun u=>Ae (AX rs uss u) (most+1))) ks∧∀z∈ks,∃b,z=.ref b∧H15 b=none) ⟨AN hKp _,rfl,.nil,(fun _ z=>by cases z)⟩ ?_ ?_⟩
 ·rintro j ks H16 hj ⟨e16,hkl,dk,nk⟩ hK16;obtain⟨b,ys,k1,k2,k3,k4⟩:=rf j (by lia);refine⟨⟨fs,.ref b,AQ.of (e16 _ _ hFo15),k1⟩,Cj (n:=60) (by lia) (by decide),fun x H' y=>?_⟩;obtain⟨rfl,y⟩:=y;have hx:=y fs (AQ.of (e16 _ _ hFo15));rw[k1]at hx;cases hx;unfold Cq;refine BV ⟨_,rfl,b,ys,rfl,.inl (AQ.of (e16 _ _ k2)),fun l hl=>?_⟩;have nl:l≠Kp:=fun z=>by subst z;rw[hK16]at hl;cases hl
  have e17:=AN hl (.lst ys);have hK17:=e17 _ _ hK16;refine⟨hK17,BZ hj ⟨fun b o z=>?_,by simp[hkl],?_,fun z hz=>?_⟩⟩
  ·rw[AE (AK z hKp)];exact e17 _ _ (e16 _ _ z)
  ·rw[List.range_succ,List.map_append];unfold BE at dk ⊢;rw[List.map_append];exact .but .upd ((dk.same e17).app (.cons (.lst nl AI (Hf hK17 (k3.same (e16.trans e17)))) .nil))
  ·rcases aZ.mp hz with h|h
   ·exact nk z h
   ·exact⟨l,List.mem_singleton.mp h,Fd e16 hl⟩
 rintro ks H16 ⟨e16,hkl,dk,nk⟩ hK16;rw[hfl]at dk;refine⟨⟨fs,AQ.of (e16 _ _ hFo15),Nat.le_refl _⟩,?_⟩;have dk:=CO dk;have nFo:∀i,i<many→fs[i]?≠some (.ref Fo):=fun i hi hz=>by
  obtain⟨b,ys,k1,k2,k3,k4⟩:=rf i hi;rw[hz]at k1;cases k1;rw[hFo15]at k2;cases k2;have hl:fs.length=most+1:=by rw[k3.len];unfold AZ;rw[List.length_map,JV]
  have hq:(Ae (AX rs uss i) (most+1))[i]? = some (AX rs uss i i):=by
   have:i<most+1:=by rw[←hl,hfl];exact hi
   unfold Ae;rw[List.getElem?_map,List.getElem?_range this];rfl
  obtain⟨p,h1,h2⟩:=JE k3 hq;rw[hz]at h1;cases h1;rw[hFo15]at h2;cases h2
 have hFo16:=e16 _ _ hFo15;have hh15:=E15 _ _ hH11;have rf':∀i,i<many→∃b ys,fs[i]? = some (.ref b)∧H16 b=some (.lst ys)∧ys.length≤20∧H11 b=none∧H15 b≠none:=fun i hi=>by
  obtain⟨b,ys,k1,k2,k3,k4⟩:=rf i hi;refine⟨b,ys,k1,e16 _ _ k2,?_,k4,by rw[k2];exact nofun⟩;rw[k3.len];unfold AZ;rw[List.length_map,JV];lia
 have hFn11:H11 Fo=none:=hFn;refine⟨_,rfl,Fo,rfl,⟨_,AQ.of hFo16⟩,B6 (xs:=fs) (fun i σ H'=>∃r9:Option V,σ=[some (.ref a),some (.int (many:Nat)),some (.ref C),some (.ref S),some (.int c),some (.int (most:Nat)),some (.ref hd0),some (.ref Fo),some (.ref Kp),r9,none]∧ME H11 H15 H16 H'∧H' Fo=some (.lst fs)∧∀j,j<many→∃b ys,fs[j]? = some (.ref b)∧H' b=some (.lst ys)∧ys.length≤20+i∧H11 b=none∧H15 b≠none) ?_ ?_ ?_ ?_⟩
 ·exact⟨_,rfl,⟨E15.trans e16,fun _ _ _ h=>h,fun _ _ h=>h⟩,hFo16,rf'⟩
 ·rintro i σ H' _ ⟨r9,rfl,_,h,_⟩;exact AQ.of h
 ·rintro i x σ H17 hx ⟨r9,rfl,st,hFo17,rr⟩;have hi:i<many:=by rw[←hfl];exact(aC.mp hx).1
  obtain⟨b,ys,k1,k2,k3,k4,k5⟩:=rr i hi;rw[hx]at k1;cases k1;have nb:b≠Fo:=fun z=>nFo i hi (by rw[hx,z]);refine⟨_,rfl,.inl ⟨rfl,_,AQ.of k2⟩,b,ys,_,rfl,rfl,k2,Cj (n:=60) (by lia) (by decide),?_⟩;refine⟨_,rfl,st.upd k4 k5 k2,by rw[AE (Ne.symm nb)];exact hFo17,fun j hj=>?_⟩;obtain⟨b',ys',j1,j2,j3,j4,j5⟩:=rr j hj;by_cases z:b'=b
  ·subst z;exact⟨b',_,j1,AI,by rw[List.length_append,List.length_singleton];lia,j4,j5⟩
  ·exact⟨b',ys',j1,by rw[AE z];exact j2,by lia,j4,j5⟩
 rintro σ H17 ⟨r9,rfl,st,hFo17,_⟩;refine⟨_,rfl,.inl ⟨rfl,_,AQ.of hFo17⟩,Fo,fs,rfl,rfl,hFo17,?_⟩;have st:=st.upd (o:=.lst []) hFn11 (by rw[hFo15];exact nofun) hFo17;generalize upd H17 Fo (.lst [])=H18 at st;obtain⟨s1,s2,s3⟩:=st;have dH18:=dH.same s1;have dK18:DU H18 (Bz (AX rs uss) many (most+1)) (.ref Kp):=.lst (s2 _ _ hKp hK16) (OT s2 s3 dk nk);refine kt _ _ (ZZ o c) H18 H18 H18 H18 _ _ ⟨.refl _,Nw.refl,.refl _,.refl _,rfl,fun i x h=>?_,fun i xs h=>?_,fun i j xs ys _ h=>?_,fun q hq=>by cases hq⟩ fun v G' H' _ _ _ _ dv=>?_
 ·rcases i with _|_|_|_|_|_|_|_|_|_|_|i
  all_goals first|(cases h;done)|(simp at h;done)|skip
  ·cases h;exact⟨_,rfl,by rw[Du]⟩
  ·cases h;exact⟨_,rfl,by rw[Du]⟩
  ·cases h;exact⟨_,rfl,dH18.du⟩
  ·cases h;exact⟨_,rfl,dK18.du⟩
 ·rcases i with _|_|_|_|_|_|_|_|_|_|_|i
  all_goals first|(cases h;done)|(simp at h)
 ·rcases i with _|_|_|_|_|_|_|_|_|_|_|i
  all_goals first|(cases h;done)|(simp at h)
 ·rw[Du]at dv;subst dv;exact q H'
end
section
open PySem.W
theorem fnX{w:World}{mg:Str→Option Value}{h:Heap}(X:(kH w.params).In h)(G:h.Ns mainGlobals mg)(n:String)(i:Nat)(m:String)(t c f:Nat)(ps:List Str)
 (ha:nsIn (kH w.params) mainGlobals (Str.ofString n)=some (some (.ref f)):=by kernel_rfl)(hl:(kH w.params).lookup f=some (fO n i m t c):=by kernel_rfl)(hc:codeIn (kH w.params) (.ref c) (Str.ofString n)=true:=by kernel_rfl)(hk:keepIn (kH w.params) (.ref f)=true:=by kernel_rfl)
 (hb:∀(kV doc pm:Value) (an:Option Addr) (cdv ct:Value) (us:List Value),us.length=ps.length→bindArgs (fnOf (Str.ofString n) (Str.ofString n) (Ee (top i)) (Cu (top i)) (AM (top i)) .none kV doc pm an cdv ct) ⟨us,[]⟩=pure (ps.zip us):=by first|(exact fun _ _ _ _ _ _ us hl=>match us,hl with|[_],_=>rfl)|(exact fun _ _ _ _ _ _ us hl=>match us,hl with|[_,_],_=>rfl)|(exact fun _ _ _ _ _ _ us hl=>match us,hl with|[_,_,_],_=>rfl)|(exact fun _ _ _ _ _ _ us hl=>match us,hl with|[_,_,_,_],_=>rfl)|(exact fun _ _ _ _ _ _ us hl=>match us,hl with|[_,_,_,_,_],_=>rfl)|(exact fun _ _ _ _ _ _ us hl=>match us,hl with|[],_=>rfl)) :
  Fn (kH w.params) mg (Str.ofString n) (top i) ps f (fnOf (Str.ofString n) (Str.ofString n) (Ee (top i)) (Cu (top i)) (AM (top i)) .none .none .none (.str (Str.ofString m) t) none (.ref c) .none) :=
 ⟨Us hl hc hk,(Us (st:=top i) hl hc hk).binds hb,mg_of X G ha⟩
set_option maxHeartbeats 4000000 in
theorem fx(w:World)(mg:Str→Option Value)(fa:Addr)(h:Heap)(X:(kH w.params).In h)(G:h.Ns mainGlobals mg)(hfa:mg "law" = some (.ref fa)) :
  ∃fd:FuncData,(∀(s:Shared) (v:Value),BindsTo s fd ⟨[v],[]⟩ [("_law_script",v)])∧∀base:Heap,(kH w.params).In base→base.Ns mainGlobals mg→AL CV.prog w (kH w.params) mg base Ac 9 fa fd ["_law_script"] (Tu (kH w.params)):=by
 have e:=hfa.symm.trans (mg_of X G (v:=.ref 372) (by kernel_rfl));cases e;have Ex:=fnX X G "fraction_of" 7 "stepgrove.fracs" 271 81 82 ["top", "bottom"];have CP:=fnX X G "is_fraction" 8 "stepgrove.fracs" 271 88 89 ["thing"];have EC:=fnX X G "are_fractions" 9 "stepgrove.fracs" 271 95 96 ["thing"];have Cw:=fnX X G "is_whole" 10 "stepgrove.fracs" 271 102 103 ["thing"];have A1:=fnX X G "greatest_divisor" 11 "stepgrove.fracs" 271 109 110 ["one", "other"];have Bw:=fnX X G "common_bottom" 12 "stepgrove.fracs" 271 116 117 ["bottoms"];have Di:=fnX X G "power_of" 13 "stepgrove.fracs" 271 123 124 ["base", "power"];have IK:=fnX X G "is_poly" 15 "stepgrove.polys" 335 130 131 ["thing", "unknowns"];have IE:=fnX X G "is_term" 16 "stepgrove.polys" 335 137 138 ["thing", "unknowns"];have Fs:=fnX X G "are_powers" 17 "stepgrove.polys" 335 144 145 ["thing", "unknowns"];have DJ:=fnX X G "refuse_no_start" 18 "stepgrove.polys" 335 151 152 ["thing", "unknowns"];have YF:=fnX X G "refuse_start" 19 "stepgrove.polys" 335 158 159 [];have Dj:=fnX X G "one_less" 20 "stepgrove.polys" 335 165 166 ["powers", "k"];have ED:=fnX X G "product_up_to" 22 "stepgrove.trees" 386 172 173 ["many"];have HA:=fnX X G "grain_of" 24 "stepgrove.wholes" 397 177 178 ["start"];have IH:=fnX X G "pace_of" 25 "stepgrove.wholes" 397 184 185 ["change", "grain"];have Ew:=fnX X G "whole_start" 26 "stepgrove.wholes" 397 189 190 ["start", "grain"];have GJ:=fnX X G "tops_over" 27 "stepgrove.wholes" 397 194 195 ["some", "bottom"];have Ea:=fnX X G "whole_change" 28 "stepgrove.wholes" 397 199 200 ["change", "grain"];have FR:=fnX X G "whole_poly" 29 "stepgrove.wholes" 397 206 207 ["some", "bottom", "grain", "greatest"];have Bt:=fnX X G "speeds_bottom" 30 "stepgrove.wholes" 397 211 212 ["change"];have Bj:=fnX X G "greatest_power" 31 "stepgrove.wholes" 397 218 219 ["change"];have GI:=fnX X G "is_change" 33 "stepgrove.changes" 462 225 226 ["thing"];have C3:=fnX X G "refuse_no_change" 34 "stepgrove.changes" 462 232 233 ["thing"];have B3:=fnX X G "growth_rows" 37 "stepgrove.growth" 479 237 238 ["change", "start", "most"];have DK:=fnX X G "refuse_too_many" 38 "stepgrove.growth" 479 244 245 ["most"];have C4:=fnX X G "row_of_fractions" 39 "stepgrove.growth" 479 251 252 ["row", "pace", "grain"];have Fe:=fnX X G "whole_rows" 40 "stepgrove.growth" 479 256 257 ["change", "start", "most", "finer"];have EH:=fnX X G "powers_needed" 41 "stepgrove.growth" 479 263 264 ["change"];have Bs:=fnX X G "first_unknown" 42 "stepgrove.growth" 479 270 271 ["powers"];have FT:=fnX X G "product_at" 43 "stepgrove.growth" 479 275 276 ["products", "rows", "powers", "k"];have HG:=fnX X G "speed_at" 44 "stepgrove.growth" 479 280 281 ["some", "products", "k"];have CB:=fnX X G "_law_cell" 46 "law_stepgrove_k24_true_growth" 546 287 288 ["_law_script", "_law_k"];have Be:=fnX X G "_law_take" 47 "law_stepgrove_k24_true_growth" 546 294 295 ["_law_pile", "_law_size"];have Et:=fnX X G "_law_shared" 48 "law_stepgrove_k24_true_growth" 546 301 302 ["_law_one", "_law_other"]
 have BN:=fnX X G "_law_frac" 49 "law_stepgrove_k24_true_growth" 546 308 309 ["_law_top", "_law_bottom"];have C6:=fnX X G "_law_plus" 50 "law_stepgrove_k24_true_growth" 546 315 316 ["_law_one", "_law_other"];have EJ:=fnX X G "_law_by" 51 "law_stepgrove_k24_true_growth" 546 322 323 ["_law_one", "_law_other"];have C5:=fnX X G "_law_part" 52 "law_stepgrove_k24_true_growth" 546 329 330 ["_law_pile"];have GG:=fnX X G "_law_poly" 53 "law_stepgrove_k24_true_growth" 546 336 337 ["_law_pile", "_law_many", "_law_most"];have Ey:=fnX X G "_law_change" 54 "law_stepgrove_k24_true_growth" 546 341 342 ["_law_script", "_law_start_here", "_law_many", "_law_most"];have Fb:=fnX X G "_law_start" 55 "law_stepgrove_k24_true_growth" 546 346 347 ["_law_cell_here", "_law_many"];have Cz:=fnX X G "_law_row_product" 56 "law_stepgrove_k24_true_growth" 546 351 352 ["_law_one", "_law_other"];have Ep:=fnX X G "_law_row_of" 57 "law_stepgrove_k24_true_growth" 546 356 357 ["_law_some", "_law_rows", "_law_size"];have Cc:=fnX X G "_law_same" 58 "law_stepgrove_k24_true_growth" 546 361 362 ["_law_found", "_law_due"];have GB:=fnX X G "_law_good" 59 "law_stepgrove_k24_true_growth" 546 366 367 ["_law_change_here", "_law_start_here", "_law_most", "_law_rows"];have cz:=fnX X G "law" 60 "law_stepgrove_k24_true_growth" 546 371 372 ["_law_script"];have BD:mg "len" = none:=mg_none_of X G (by kernel_rfl);have Ar:mg "range" = none:=mg_none_of X G (by kernel_rfl);have Jd:mg "abs" = none:=mg_none_of X G (by kernel_rfl);have AR:mg "isinstance" = none:=mg_none_of X G (by kernel_rfl);have GC:mg "int" = none:=mg_none_of X G (by kernel_rfl);have Hx:mg "bool" = none:=mg_none_of X G (by kernel_rfl);have Bd:mg "tuple" = none:=mg_none_of X G (by kernel_rfl);have BR:mg "list" = none:=mg_none_of X G (by kernel_rfl);have D3:mg "enumerate" = none:=mg_none_of X G (by kernel_rfl);have C1:mg "sum" = none:=mg_none_of X G (by kernel_rfl);have Dg:mg "zip" = none:=mg_none_of X G (by kernel_rfl);have Fx:mg "sorted" = none:=mg_none_of X G (by kernel_rfl);have O5:mg "all" = none:=mg_none_of X G (by kernel_rfl);have UB:mg "max" = none:=mg_none_of X G (by kernel_rfl);have a_MP:nsIn (kH w.params) mainGlobals "MOST_POWER" = some (some (.int 7 481)):=by kernel_rfl
 refine⟨fnOf (Str.ofString "law") (Str.ofString "law") (Ee (top 60)) (Cu (top 60)) (AM (top 60)) .none .none .none (.str (Str.ofString "law_stepgrove_k24_true_growth") 546) none (.ref 371) .none,fun s v=>.of_eq rfl,fun base _ _=>?_⟩;have He:=PySem.W.mg_of X G a_MP;have WK:=Jx (P:=CV.prog) (w:=w) (base:=base) A1 Jd;have fP:=Ni Ex A1 WK;have Yw:=RG (P:=CV.prog) (w:=w) (base:=base) Cw AR GC Hx;have Ux:=NA CP Cw A1 Yw WK AR Bd BD;have f9:=Lf EC CP Ux AR BR;have eJ:=Ox Fs Cw Yw AR Bd BD;have fj:=T1 IE Fs CP eJ Ux AR Bd BD;have fU:=Th IK IE fj AR BR D3;have eg:=Pg GI IK fU AR BR BD;have gA:=Ju C3 GI (eg.mono);have gG:=Kn DJ EC (f9.mono) BD;have cn:=Ku (P:=CV.prog) (w:=w) (base:=base) DK He;have Ys:=LF Bw A1 WK;have XJ:=RQ (P:=CV.prog) (w:=w) (base:=base) Di;have en:=Pq (P:=CV.prog) (w:=w) (base:=base) GJ;have fJ:=RH HA Bw Ys;have ZL:=Lr Bt Bw Ys;have Zl:=LH (P:=CV.prog) (w:=w) (base:=base) Bj UB C1;have gK:=Oq FR Di XJ C1;have gE:=Mf Ea Bt Bj FR ZL (Zl.mono) (gK.mono);have gJ:=TC IH Bt Bj Di ZL (Zl.mono) (XJ.mono);have ZG:=Rf (P:=CV.prog) (w:=w) (base:=base) Dj;have Zd:=Lv (P:=CV.prog) (w:=w) (base:=base) Bs;have fS:=Le EH Bs Dj Zd ZG C1 Fx;have da:=Ob FT Bs Dj Zd ZG C1 Ar;have fw:=Rb (P:=CV.prog) (w:=w) (base:=base) HG C1;have f7:=Oy Fe EH FT HG fS da fw Ar Dg;have eI:=MB (P:=CV.prog) (w:=w) (base:=base) ED Ar;have fe:=Nm Ew GJ en;have dG:=Js C4 Ex fP;have b0:=M1 B3 C3 DJ DK HA ED Ea Ew Fe IH C4 gA (gG.mono) (cn.mono) (fJ.mono) (eI.mono) (gE.mono) (fe.mono) (f7.mono) (gJ.mono) (dG.mono) BD;have Vj:=QB (P:=CV.prog) (w:=w) (base:=base) Be;have W7:=NB (P:=CV.prog) (w:=w) (base:=base) Et Jd;have UQ:=O9 BN Et W7;have Uw:=Qb (P:=CV.prog) (w:=w) (base:=base) CB BD Ar;have Uq:=QU C5 Be BN (Vj.mono) UQ;have fh:=PX GG Be C5 (Vj.mono) Uq Ar Fx Bd;have fQ:=My Ey CB GG (Uw.mono) fh Ar;have ee:=M6 Fb C5 Uq Ar;have g_same:=J9 (P:=CV.prog) (w:=w) (base:=base) Cc AR BR Bd GC Hx BD O5 Dg 4;have Bg:=gD UQ;have Ei:=Y6 (n:=3) g_same;have D9:=PK (P:=CV.prog) (w:=w) (base:=base) (k:=2) C6 BN (Bg.mono);have FH:=TX (P:=CV.prog) (w:=w) (base:=base) (k:=2) EJ BN (Bg.mono);have EU:=Jy (P:=CV.prog) (w:=w) (base:=base) (k:=3) Cz EJ (FH.mono) C6 (D9.mono) D3 BD Ar;have Gs:=NG (P:=CV.prog) (w:=w) (base:=base) (k:=4) Ep C6 (D9.mono) Cz (EU.mono) Ar Dg;have IU:=Qx (P:=CV.prog) (w:=w) (base:=base) (k:=5) GB EJ (FH.mono) BN (Bg.mono) Ep (Gs.mono) Cc (Ei.mono) AR BD BR Ar Dg;exact Z6 (k:=8) cz CB Ey Fb B3 GB (Uw.mono) (fQ.mono) (ee.mono) b0 (IU.mono) GC BR
theorem walkX:WalkO qX [] (XL qX []) hX.says CV.row.toRowW dX [] (fun f vs=>PySem.call f vs) :=
 L2.Xw (l:=CV) (n:=63) (k:=9) (x := "_law_script") (CX:=fun _=>Ac) (K:=kH) (sp:=fun w=>Tu (kH w.params)) rfl (by decide) rfl ⟨rfl,by decide,by decide⟩ (fun w mg h X G H d e=>by rw[mg_none_of X G (by kernel_rfl)]at e;cases e) (fun w h Y=>kIn_of Y) fx (fun _ _ a ns hl _ hS=>⟨a,ns,rfl,hS,hl,fun _=>rfl⟩) fun _ _ _ _ _ z=>z
end
end Q24
open PySem PySem.W PyProof.Rows
set_option maxRecDepth 100000 in
theorem PySem.Challenge.cw_stepgrove_k24_true_growth_holds : PySem.Challenge.rw_stepgrove_k24_true_growth.Holds := by
  refine Q24.openX ?hw Q24.walkX
  w_witness2
#print axioms PySem.Challenge.cw_stepgrove_k24_true_growth_holds
