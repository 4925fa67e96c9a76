import PyProof.Rows.All
import Wide.All
import OpenK.AllK
import Wide.FinOn
import Lean
import PyProof.EqAt
import PyProof.EqKinds
import PyProof.TupleCall
import PySem.Challenge.RW_stepgrove_k25_known_growth
set_option Elab.async false
set_option linter.all false
set_option maxRecDepth 100000
set_option maxHeartbeats 4000000
namespace Opn
open PySem PySem.W PyProof.Rows PySem.Calls
noncomputable def q0 : Pos:=⟨0,0,0,0⟩
noncomputable def o11 : Obj:={ cls:=.type "tuple",data:=.seq #[] }
noncomputable def o12 : Obj:={ cls:=.none,data:=.fields #[] }
noncomputable def o13 : Obj:={ cls:=.type "code",data:=.fields #[.str (Str.ofString "<module>") 182,.str (Str.ofString "<module>") 183,.str (Str.ofString "/claim/cut.py") 184,.int 1 0,.int 0 0,.int 0 0,.int 0 0,.int 0 0,.ref 11,.bool false,.int 181 0,.ref 12,.none,.none,.none,.none,.int 185 0,.int 1 0,.str (Str.ofString "/claim/cut.py") 186] }
noncomputable def o14 : Obj:={ cls:=.type "frame",slots:=#[some (.ref 13),some (.ref 3),some (.ref 3),none,some (.str (Str.ofString "__main__") 164),none,some (.ref 0)] }
noncomputable def objsB (P : Params) : List Obj:=(boot_heap P).objs.toList ++ [o11,o12,o13,o14]
noncomputable def nN (P : Params) (o : Params→Obj) (l r : BT) : BT:=.node (o P) l r
noncomputable def lN (P : Params) (o : Params→Obj) : BT:=.node (o P) .nil .nil
noncomputable def treeB (P : Params) : BT :=
  nN P boot_o_0 (nN P boot_o_1 (nN P boot_o_3 (lN P boot_o_7) (.node o11 .nil .nil)) (nN P boot_o_5 (lN P boot_o_9) (.node o13 .nil .nil)))
    (nN P boot_o_2 (nN P boot_o_4 (lN P boot_o_8) (.node o12 .nil .nil)) (nN P boot_o_6 (lN P boot_o_10) (.node o14 .nil .nil)))
noncomputable def lifeB : Life:=Life.mk [] [] [] 0 [] [] false #[] [] 0 false false false 0 [2000,10,10] false 0 true [] [] 0 false
noncomputable def sA (w : World) (os : OsState) : Shared:=⟨⟨⟨objsB w.params⟩,lifeB⟩,#[],boot_drawn,187,os⟩
noncomputable def sB (w : World) (os : OsState) : SharedT:=⟨treeB w.params,15,lifeB,#[],boot_drawn,187,os⟩
noncomputable def envB (p : Program) : Env:={ scope:=p.main.scope,locals:=mainNs,globals:=mainNs,cells:=[],code:=.ref 13,frame:=some 14 }
noncomputable def cB (p : Program) : Code:=.body (behindTheImports p) (envB p)
noncomputable abbrev annB : Option Value:=some (.ref 6)
noncomputable abbrev bB : List Frame:=[topFrame q0]
noncomputable def runB (p : Program) (M : Nat) (w : World) (os : OsState) : Option (Flow×SharedT×Code×Pos) :=
  PySem.W.Fast.tw10110043849684766642 PySem.W.Fast.tw14364793385576792824 p w 11 annB 1 M (sB w os) (piecesOf (behindTheImports p) (envB p) (cB p) q0 bB)
noncomputable def endB (p : Program) (M : Nat) (w : World) (os : OsState) : SharedT:=match runB p M w os with | some (_,s,_) => s | none => sB w os
theorem runB_eq {p : Program} {M : Nat} {w : World} {os : OsState} {r : Option (Flow×SharedT×Code×Pos)} (h : runB p M w os = r) :
    segRunT treeTable p w 11 annB 1 M (sB w os) (piecesOf (behindTheImports p) (envB p) (cB p) q0 bB) = r := by
  have e : segRunT treeTable = PySem.W.Fast.tw10110043849684766642 PySem.W.Fast.tw14364793385576792824:=congr PySem.W.Fast.te10110043849684766642 PySem.W.Fast.te14364793385576792824
  rw [e]; exact h
theorem run_of {p : Program} {M M0 : Nat} {posE : Pos} {w : World} {os : OsState}
    (pre : topGo treeTable p w 11 annB 12 ⟨boot_heap w.params,#[],boot_drawn,boot_toks,os⟩ (topStub p) = some (sA w os,⟨denote treeTable (cB p),cB p,q0,bB⟩))
    (blk : segRun treeTable p w 11 annB 1 1 (sA w os) (blockOf (behindTheImports p) (envB p) (cB p) q0 bB) = some (.next,(sB w os).abs,cB p,q0))
    (seg : runB p M w os = some (.next,endB p M w os,cB p,posE))
    (fin : ∀ s,topRun treeTable p w 11 annB 2 s (restOf [] (envB p) (cB p) posE bB) = some s) (hM : M0 = 12 + (1 + (M + 2))) :
    topRun treeTable p w 11 annB M0 ⟨boot_heap w.params,#[],boot_drawn,boot_toks,os⟩ (topStub p) = some (endB p M w os).abs := by
  subst hM
  refine go_top pre (piece_block blk ?_)
  have h:=piece_app (rest:=[]) (segRun_of (runB_eq seg)) (fin _)
  rw [List.append_nil] at h
  exact h
theorem left_of {p q : Program} {loose : List Str} {Xt : Shared→Bool} {α : Type} {Yf : Shared→α} {Ya : World→α} {N M : Nat} {S : World→OsState→Shared}
    (open_ : ∀ w : World,(fencedOpening treeTable p w N).map (fun s => (s.heap,s.gens,s.drawn,s.toks)) = some (boot_heap w.params,#[],boot_drawn,boot_toks))
    (size : ∀ w : World,((boot_heap w.params).isNs mainGlobals && (#[] : Array GenState).size == 0,(boot_heap w.params).objs.size,(boot_heap w.params).nsMap mainGlobals "__annotations__") = (true,11,annB))
    (run : ∀ w os,topRun treeTable p w 11 annB M ⟨boot_heap w.params,#[],boot_drawn,boot_toks,os⟩ (topStub p) = some (S w os)) (le : Nat.ble M N = true)
    (ok : ∀ w os,(staticsOk (importedModules p.main.body) (boot_heap w.params) (S w os).heap && namesBound p (S w os).heap && gensDone (S w os) && laidKept (boot_heap w.params) (S w os).heap) = true)
    (seen : ∀ w os,openSeen q loose (importedModules p.main.body) Xt true (S w os) = openGood q loose)
    (hY : ∀ w os,Yf (S w os) = Ya w) : LeftO p q loose Xt Yf Ya N:=fun w => by
  obtain ⟨⟨h,gs,d,k,os⟩,e,e'⟩:=Option.map_eq_some_iff.mp (open_ w)
  obtain ⟨rfl,rfl,rfl,rfl⟩ : h = boot_heap w.params∧gs = #[]∧d = boot_drawn∧k = boot_toks := by simpa using e'
  obtain ⟨z1,z2,z3⟩ : _∧_∧_ := by simpa only [Prod.mk.injEq] using size w
  have l1:=ok w os
  have r:=topRun_mono (N - M) _ _ _ _ (run w os)
  rw [show M + (N - M) = N by have:=Nat.le_of_ble_eq_true le; lia] at r
  have t : topFrom treeTable p w N ⟨boot_heap w.params,#[],boot_drawn,boot_toks,os⟩ = some (S w os) := by
    unfold topFrom
    dsimp only
    rw [z1,z2,z3,r]
    show (match staticsOk (importedModules p.main.body) (boot_heap w.params) (S w os).heap && namesBound p (S w os).heap && gensDone (S w os) && laidKept (boot_heap w.params) (S w os).heap with | true => _ | false => _) = _
    rw [l1]
  unfold openEnds
  rw [e]
  show (topFrom treeTable p w N _).map _ = _
  rw [t]
  exact congrArg some (Prod.ext (seen w os) (hY w os))
theorem sizeB (w : World) : ((boot_heap w.params).isNs mainGlobals && (#[] : Array GenState).size == 0,(boot_heap w.params).objs.size,(boot_heap w.params).nsMap mainGlobals "__annotations__") = (true,11,annB) := by kernel_rfl
end Opn
namespace Q25
open PySem
def top (i : Nat) : Stmt:=PySem.Challenge.pw_stepgrove_k25_known_growth.main.body.getD i (.Pass ⟨0,0,0,0⟩)
end Q25
namespace L2
open PySem
def defArgs (s : Stmt) : Arguments:=match s with
  | .FunctionDef _ a _ _ _ _ _ _ _ _ => a
  | _ => { posonlyargs:=[],args:=[],vararg:=none,kwonlyargs:=[],kw_defaults:=[],kwarg:=none,defaults:=[] }
def defBody (s : Stmt) : List Stmt:=match s with
  | .FunctionDef _ _ b _ _ _ _ _ _ _ => b
  | _ => []
def defScope (s : Stmt) : Scope:=match s with
  | .FunctionDef _ _ _ _ _ _ sc _ _ _ => sc
  | _ => { kind:=.function,names:=[],isGenerator:=false,isCoroutine:=false }
end L2
namespace Q25
open PySem L2
section
open PySem.W PyProof.Rows PySem.Calls
abbrev pwX : Program:=PySem.Challenge.pw_stepgrove_k25_known_growth
abbrev rwX : OpenLaw:=PySem.Challenge.rw_stepgrove_k25_known_growth
noncomputable abbrev dE (P : Params) (x : String) (t : Nat) (v : Value) : DictEntry:=⟨PyData.keyHash P (Str.ofString x),.str (Str.ofString x) t,v⟩
noncomputable abbrev sV (x : String) (t : Nat) : Value:=.str (Str.ofString x) t
noncomputable abbrev fO (n : String) (i : Nat) (m : String) (t c : Nat) : Obj:=⟨.type "function",none,.func (fnOf n n (defArgs (top i)) (defBody (top i)) (defScope (top i)) .none .none .none (.str (Str.ofString m) t) none (.ref c) .none),#[]⟩
noncomputable abbrev cO (n : String) (t l a k r : Nat) (b : Bool) (r2 : Nat) (v1 v2 v3 v4 : Value) (t2 : Nat) : Obj:=⟨.type "code",none,.fields #[sV n t,sV n (t + 1),sV "/claim/cut.py" (t + 2),.int l 0,.int a 0,.int 0 0,.int 0 0,.int k 0,.ref r,.bool b,.int 181 0,.ref r2,v1,v2,v3,v4,.int t2 0,.int l 0,sV "/claim/cut.py" (t2 + 1)],#[]⟩
noncomputable def kH : Params→Frag:=fun P =>
  (nat_lit 2,⟨.none,none,(.dict #[] 0),#[]⟩) ::
  (nat_lit 3,⟨(.type "dict"),none,(.dict #[dE P "__name__" 165 (sV "law_stepgrove_k25_known_growth" 546),dE P "__doc__" 166 .none,dE P "__package__" 167 .none,dE P "__loader__" 168 (.builtin "__main__.__loader__#opaque"),dE P "__spec__" 169 .none,dE P "__annotations__" 170 (.ref 6),dE P "__builtins__" 171 (.ref 4),dE P "__file__" 173 (sV "/claim/cut.py" 172),dE P "__cached__" 174 .none,dE P "GroveError" 206 (.ref 24),dE P "NoBottom" 222 (.ref 37),dE P "NoChange" 238 (.ref 49),dE P "NoStart" 254 (.ref 61),dE P "TooMany" 270 (.ref 73),dE P "fraction_of" 281 (.ref 82),dE P "is_fraction" 288 (.ref 89),dE P "are_fractions" 296 (.ref 96),dE P "is_whole" 303 (.ref 103),dE P "greatest_divisor" 314 (.ref 110),dE P "common_bottom" 323 (.ref 117),dE P "power_of" 334 (.ref 124),dE P "is_poly" 346 (.ref 131),dE P "is_term" 354 (.ref 138),dE P "are_powers" 363 (.ref 145),dE P "refuse_no_start" 371 (.ref 152),dE P "refuse_start" 377 (.ref 159),dE P "one_less" 385 (.ref 166),dE P "product_up_to" 396 (.ref 173),dE P "grain_of" 404 (.ref 178),dE P "pace_of" 412 (.ref 185),dE P "whole_start" 418 (.ref 190),dE P "tops_over" 424 (.ref 195),dE P "whole_change" 430 (.ref 200),dE P "whole_poly" 444 (.ref 207),dE P "speeds_bottom" 450 (.ref 212),dE P "greatest_power" 461 (.ref 219),dE P "is_change" 471 (.ref 226),dE P "refuse_no_change" 478 (.ref 233),dE P "MOST_POWER" 482 (.int 7 481),dE P "growth_rows" 488 (.ref 238),dE P "refuse_too_many" 495 (.ref 245),dE P "row_of_fractions" 507 (.ref 252),dE P "whole_rows" 513 (.ref 257),dE P "powers_needed" 525 (.ref 264),dE P "first_unknown" 533 (.ref 271),dE P "product_at" 539 (.ref 276),dE P "speed_at" 545 (.ref 281),dE P "_law_cell" 559 (.ref 288),dE P "_law_take" 568 (.ref 295),dE P "_law_shared" 576 (.ref 302),dE P "_law_frac" 585 (.ref 309),dE P "_law_plus" 593 (.ref 316),dE P "_law_by" 601 (.ref 323),dE P "_law_part" 609 (.ref 330),dE P "_law_same" 615 (.ref 335),dE P "_law_power" 625 (.ref 342),dE P "_law_through" 634 (.ref 349),dE P "law" 640 (.ref 354)] 58),#[]⟩) ::
  (nat_lit 15,⟨(.type "tuple"),none,(.seq #[(.type "ValueError")] 0),#[]⟩) ::
  (nat_lit 22,⟨(.type "tuple"),none,(.seq #[] 0),#[]⟩) ::
  (nat_lit 23,⟨(.type "dict"),none,(.dict #[dE P "__module__" 196 (sV "stepgrove.errors" 187),dE P "__firstlineno__" 200 (.int 2 199),dE P "__static_attributes__" 201 (.ref 22),dE P "__weakref__" 203 (.ref 25),dE P "__doc__" 204 .none] 3),#[]⟩) ::
  (nat_lit 24,⟨(.type "type"),none,(.cls ⟨Str.ofString "GroveError",[(.type "ValueError")],[(.ref 24),(.type "ValueError"),(.type "Exception"),(.type "BaseException"),(.type "object")],23,Str.ofString "GroveError",true,[],[(.ref 37),(.ref 49),(.ref 61),(.ref 73)],false,none,false⟩),#[some (.ref 15),none,some (sV "GroveError" 189),some (sV "GroveError" 197),some (.builtin "ValueError.__new__"),some (.bool true)]⟩) ::
  (nat_lit 25,⟨(.type "getset_descriptor"),none,(.fields #[(sV "__weakref__" 202),(.ref 24),(.builtin "ExceptionGroup.__weakref__"),.none]),#[]⟩) ::
  (nat_lit 28,⟨(.type "tuple"),none,(.seq #[(.ref 24)] 0),#[]⟩) ::
  (nat_lit 35,⟨(.type "tuple"),none,(.seq #[] 0),#[]⟩) ::
  (nat_lit 36,⟨(.type "dict"),none,(.dict #[dE P "__module__" 214 (sV "stepgrove.errors" 187),dE P "__firstlineno__" 218 (.int 4 217),dE P "__static_attributes__" 219 (.ref 35),dE P "__doc__" 220 .none] 2),#[]⟩) ::
  (nat_lit 37,⟨(.type "type"),none,(.cls ⟨Str.ofString "NoBottom",[(.ref 24)],[(.ref 37),(.ref 24),(.type "ValueError"),(.type "Exception"),(.type "BaseException"),(.type "object")],36,Str.ofString "NoBottom",true,[],[],false,none,false⟩),#[some (.ref 28),none,some (sV "NoBottom" 207),some (sV "NoBottom" 215),some (.builtin "ValueError.__new__"),some (.bool true)]⟩) ::
  (nat_lit 40,⟨(.type "tuple"),none,(.seq #[(.ref 24)] 0),#[]⟩) ::
  (nat_lit 47,⟨(.type "tuple"),none,(.seq #[] 0),#[]⟩) ::
  (nat_lit 48,⟨(.type "dict"),none,(.dict #[dE P "__module__" 230 (sV "stepgrove.errors" 187),dE P "__firstlineno__" 234 (.int 6 233),dE P "__static_attributes__" 235 (.ref 47),dE P "__doc__" 236 .none] 2),#[]⟩) ::
  (nat_lit 49,⟨(.type "type"),none,(.cls ⟨Str.ofString "NoChange",[(.ref 24)],[(.ref 49),(.ref 24),(.type "ValueError"),(.type "Exception"),(.type "BaseException"),(.type "object")],48,Str.ofString "NoChange",true,[],[],false,none,false⟩),#[some (.ref 40),none,some (sV "NoChange" 223),some (sV "NoChange" 231),some (.builtin "ValueError.__new__"),some (.bool true)]⟩) ::
  (nat_lit 52,⟨(.type "tuple"),none,(.seq #[(.ref 24)] 0),#[]⟩) ::
  (nat_lit 59,⟨(.type "tuple"),none,(.seq #[] 0),#[]⟩) ::
  (nat_lit 60,⟨(.type "dict"),none,(.dict #[dE P "__module__" 246 (sV "stepgrove.errors" 187),dE P "__firstlineno__" 250 (.int 8 249),dE P "__static_attributes__" 251 (.ref 59),dE P "__doc__" 252 .none] 2),#[]⟩) ::
  (nat_lit 61,⟨(.type "type"),none,(.cls ⟨Str.ofString "NoStart",[(.ref 24)],[(.ref 61),(.ref 24),(.type "ValueError"),(.type "Exception"),(.type "BaseException"),(.type "object")],60,Str.ofString "NoStart",true,[],[],false,none,false⟩),#[some (.ref 52),none,some (sV "NoStart" 239),some (sV "NoStart" 247),some (.builtin "ValueError.__new__"),some (.bool true)]⟩) ::
  (nat_lit 64,⟨(.type "tuple"),none,(.seq #[(.ref 24)] 0),#[]⟩) ::
  (nat_lit 71,⟨(.type "tuple"),none,(.seq #[] 0),#[]⟩) ::
  (nat_lit 72,⟨(.type "dict"),none,(.dict #[dE P "__module__" 262 (sV "stepgrove.errors" 187),dE P "__firstlineno__" 266 (.int 10 265),dE P "__static_attributes__" 267 (.ref 71),dE P "__doc__" 268 .none] 2),#[]⟩) ::
  (nat_lit 73,⟨(.type "type"),none,(.cls ⟨Str.ofString "TooMany",[(.ref 24)],[(.ref 73),(.ref 24),(.type "ValueError"),(.type "Exception"),(.type "BaseException"),(.type "object")],72,Str.ofString "TooMany",true,[],[],false,none,false⟩),#[some (.ref 64),none,some (sV "TooMany" 255),some (sV "TooMany" 263),some (.builtin "ValueError.__new__"),some (.bool true)]⟩) ::
  (nat_lit 81,cO "fraction_of" 273 13 2 3 76 true 77 .none (.ref 78) (.ref 79) (.ref 80) 279) ::
  (nat_lit 82,fO "fraction_of" 7 "stepgrove.fracs" 271 81) ::
  (nat_lit 88,cO "is_fraction" 282 20 1 3 83 true 84 .none (.ref 85) (.ref 86) (.ref 87) 286) ::
  (nat_lit 89,fO "is_fraction" 8 "stepgrove.fracs" 271 88) ::
  (nat_lit 95,cO "are_fractions" 289 26 1 3 90 true 91 .none (.ref 92) (.ref 93) (.ref 94) 294) ::
  (nat_lit 96,fO "are_fractions" 9 "stepgrove.fracs" 271 95) ::
  (nat_lit 102,cO "is_whole" 297 33 1 3 97 true 98 .none (.ref 99) (.ref 100) (.ref 101) 301) ::
  (nat_lit 103,fO "is_whole" 10 "stepgrove.fracs" 271 102) ::
  (nat_lit 109,cO "greatest_divisor" 304 35 2 3 104 true 105 .none (.ref 106) (.ref 107) (.ref 108) 312) ::
  (nat_lit 110,fO "greatest_divisor" 11 "stepgrove.fracs" 271 109) ::
  (nat_lit 116,cO "common_bottom" 315 43 1 3 111 true 112 .none (.ref 113) (.ref 114) (.ref 115) 321) ::
  (nat_lit 117,fO "common_bottom" 12 "stepgrove.fracs" 271 116) ::
  (nat_lit 123,cO "power_of" 324 48 2 3 118 true 119 .none (.ref 120) (.ref 121) (.ref 122) 332) ::
  (nat_lit 124,fO "power_of" 13 "stepgrove.fracs" 271 123) ::
  (nat_lit 130,cO "is_poly" 337 60 2 3 125 true 126 .none (.ref 127) (.ref 128) (.ref 129) 344) ::
  (nat_lit 131,fO "is_poly" 15 "stepgrove.polys" 335 130) ::
  (nat_lit 137,cO "is_term" 347 67 2 3 132 true 133 .none (.ref 134) (.ref 135) (.ref 136) 352) ::
  (nat_lit 138,fO "is_term" 16 "stepgrove.polys" 335 137) ::
  (nat_lit 144,cO "are_powers" 355 71 2 3 139 true 140 .none (.ref 141) (.ref 142) (.ref 143) 361) ::
  (nat_lit 145,fO "are_powers" 17 "stepgrove.polys" 335 144) ::
  (nat_lit 151,cO "refuse_no_start" 364 78 2 3 146 true 147 .none (.ref 148) (.ref 149) (.ref 150) 369) ::
  (nat_lit 152,fO "refuse_no_start" 18 "stepgrove.polys" 335 151) ::
  (nat_lit 158,cO "refuse_start" 372 81 0 3 153 true 154 .none (.ref 155) (.ref 156) (.ref 157) 375) ::
  (nat_lit 159,fO "refuse_start" 19 "stepgrove.polys" 335 158) ::
  (nat_lit 165,cO "one_less" 378 83 2 3 160 true 161 .none (.ref 162) (.ref 163) (.ref 164) 383) ::
  (nat_lit 166,fO "one_less" 20 "stepgrove.polys" 335 165) ::
  (nat_lit 172,cO "product_up_to" 388 86 1 3 167 true 168 .none (.ref 169) (.ref 170) (.ref 171) 394) ::
  (nat_lit 173,fO "product_up_to" 22 "stepgrove.trees" 386 172) ::
  (nat_lit 177,cO "grain_of" 399 92 1 3 174 true 175 .none .none .none (.ref 176) 402) ::
  (nat_lit 178,fO "grain_of" 24 "stepgrove.wholes" 397 177) ::
  (nat_lit 184,cO "pace_of" 405 94 2 3 179 true 180 .none (.ref 181) (.ref 182) (.ref 183) 410) ::
  (nat_lit 185,fO "pace_of" 25 "stepgrove.wholes" 397 184) ::
  (nat_lit 189,cO "whole_start" 413 96 2 3 186 true 187 .none .none .none (.ref 188) 416) ::
  (nat_lit 190,fO "whole_start" 26 "stepgrove.wholes" 397 189) ::
  (nat_lit 194,cO "tops_over" 419 98 2 3 191 true 192 .none .none .none (.ref 193) 422) ::
  (nat_lit 195,fO "tops_over" 27 "stepgrove.wholes" 397 194) ::
  (nat_lit 199,cO "whole_change" 425 100 2 3 196 true 197 .none .none .none (.ref 198) 428) ::
  (nat_lit 200,fO "whole_change" 28 "stepgrove.wholes" 397 199) ::
  (nat_lit 206,cO "whole_poly" 431 104 4 3 201 true 202 .none (.ref 203) (.ref 204) (.ref 205) 442) ::
  (nat_lit 207,fO "whole_poly" 29 "stepgrove.wholes" 397 206) ::
  (nat_lit 211,cO "speeds_bottom" 445 110 1 3 208 true 209 .none .none .none (.ref 210) 448) ::
  (nat_lit 212,fO "speeds_bottom" 30 "stepgrove.wholes" 397 211) ::
  (nat_lit 218,cO "greatest_power" 451 115 1 3 213 true 214 .none (.ref 215) (.ref 216) (.ref 217) 459) ::
  (nat_lit 219,fO "greatest_power" 31 "stepgrove.wholes" 397 218) ::
  (nat_lit 225,cO "is_change" 464 122 1 3 220 true 221 .none (.ref 222) (.ref 223) (.ref 224) 469) ::
  (nat_lit 226,fO "is_change" 33 "stepgrove.changes" 462 225) ::
  (nat_lit 232,cO "refuse_no_change" 472 129 1 3 227 true 228 .none (.ref 229) (.ref 230) (.ref 231) 476) ::
  (nat_lit 233,fO "refuse_no_change" 34 "stepgrove.changes" 462 232) ::
  (nat_lit 237,cO "growth_rows" 483 134 3 3 234 true 235 .none .none .none (.ref 236) 486) ::
  (nat_lit 238,fO "growth_rows" 37 "stepgrove.growth" 479 237) ::
  (nat_lit 244,cO "refuse_too_many" 489 143 1 3 239 true 240 .none (.ref 241) (.ref 242) (.ref 243) 493) ::
  (nat_lit 245,fO "refuse_too_many" 38 "stepgrove.growth" 479 244) ::
  (nat_lit 251,cO "row_of_fractions" 496 146 3 3 246 true 247 .none (.ref 248) (.ref 249) (.ref 250) 505) ::
  (nat_lit 252,fO "row_of_fractions" 39 "stepgrove.growth" 479 251) ::
  (nat_lit 256,cO "whole_rows" 508 153 4 3 253 true 254 .none .none .none (.ref 255) 511) ::
  (nat_lit 257,fO "whole_rows" 40 "stepgrove.growth" 479 256) ::
  (nat_lit 263,cO "powers_needed" 514 165 1 3 258 true 259 .none (.ref 260) (.ref 261) (.ref 262) 523) ::
  (nat_lit 264,fO "powers_needed" 41 "stepgrove.growth" 479 263) ::
  (nat_lit 270,cO "first_unknown" 526 175 1 3 265 true 266 .none (.ref 267) (.ref 268) (.ref 269) 531) ::
  (nat_lit 271,fO "first_unknown" 42 "stepgrove.growth" 479 270) ::
  (nat_lit 275,cO "product_at" 534 180 4 3 272 true 273 .none .none .none (.ref 274) 537) ::
  (nat_lit 276,fO "product_at" 43 "stepgrove.growth" 479 275) ::
  (nat_lit 280,cO "speed_at" 540 186 3 3 277 true 278 .none .none .none (.ref 279) 543) ::
  (nat_lit 281,fO "speed_at" 44 "stepgrove.growth" 479 280) ::
  (nat_lit 287,cO "_law_cell" 548 189 2 3 282 true 283 .none (.ref 284) (.ref 285) (.ref 286) 557) ::
  (nat_lit 288,fO "_law_cell" 46 "law_stepgrove_k25_known_growth" 546 287) ::
  (nat_lit 294,cO "_law_take" 560 201 2 3 289 true 290 .none (.ref 291) (.ref 292) (.ref 293) 566) ::
  (nat_lit 295,fO "_law_take" 47 "law_stepgrove_k25_known_growth" 546 294) ::
  (nat_lit 301,cO "_law_shared" 569 205 2 3 296 true 297 .none (.ref 298) (.ref 299) (.ref 300) 574) ::
  (nat_lit 302,fO "_law_shared" 48 "law_stepgrove_k25_known_growth" 546 301) ::
  (nat_lit 308,cO "_law_frac" 577 209 2 3 303 true 304 .none (.ref 305) (.ref 306) (.ref 307) 583) ::
  (nat_lit 309,fO "_law_frac" 49 "law_stepgrove_k25_known_growth" 546 308) ::
  (nat_lit 322,cO "_law_by" 594 216 2 3 317 true 318 .none (.ref 319) (.ref 320) (.ref 321) 599) ::
  (nat_lit 323,fO "_law_by" 51 "law_stepgrove_k25_known_growth" 546 322) ::
  (nat_lit 329,cO "_law_part" 602 218 1 3 324 true 325 .none (.ref 326) (.ref 327) (.ref 328) 607) ::
  (nat_lit 330,fO "_law_part" 52 "law_stepgrove_k25_known_growth" 546 329) ::
  (nat_lit 334,cO "_law_same" 610 221 2 3 331 true 332 .none .none .none (.ref 333) 613) ::
  (nat_lit 335,fO "_law_same" 53 "law_stepgrove_k25_known_growth" 546 334) ::
  (nat_lit 341,cO "_law_power" 616 231 2 3 336 true 337 .none (.ref 338) (.ref 339) (.ref 340) 623) ::
  (nat_lit 342,fO "_law_power" 54 "law_stepgrove_k25_known_growth" 546 341) ::
  (nat_lit 348,cO "_law_through" 626 236 1 3 343 true 344 .none (.ref 345) (.ref 346) (.ref 347) 632) ::
  (nat_lit 349,fO "_law_through" 55 "law_stepgrove_k25_known_growth" 546 348) ::
  (nat_lit 353,cO "law" 635 241 1 3 350 true 351 .none .none .none (.ref 352) 638) ::
  (nat_lit 354,fO "law" 56 "law_stepgrove_k25_known_growth" 546 353) :: []
abbrev qX : Program:=view pwX [1,2,3,4,5,7,8,9,10,11,12,13,15,16,17,18,19,20,22,24,25,26,27,28,29,30,31,33,34,36,37,38,39,40,41,42,43,44,46,47,48,49,50,51,52,53,54,55,56]
noncomputable abbrev hX : Hook:=kHook kH [nat_lit 2,nat_lit 3,nat_lit 15,nat_lit 22,nat_lit 23,nat_lit 24,nat_lit 25,nat_lit 28,nat_lit 35,nat_lit 36,nat_lit 37,nat_lit 40,nat_lit 47,nat_lit 48,nat_lit 49,nat_lit 52,nat_lit 59,nat_lit 60,nat_lit 61,nat_lit 64,nat_lit 71,nat_lit 72,nat_lit 73,nat_lit 81,nat_lit 82,nat_lit 88,nat_lit 89,nat_lit 95,nat_lit 96,nat_lit 102,nat_lit 103,nat_lit 109,nat_lit 110,nat_lit 116,nat_lit 117,nat_lit 123,nat_lit 124,nat_lit 130,nat_lit 131,nat_lit 137,nat_lit 138,nat_lit 144,nat_lit 145,nat_lit 151,nat_lit 152,nat_lit 158,nat_lit 159,nat_lit 165,nat_lit 166,nat_lit 172,nat_lit 173,nat_lit 177,nat_lit 178,nat_lit 184,nat_lit 185,nat_lit 189,nat_lit 190,nat_lit 194,nat_lit 195,nat_lit 199,nat_lit 200,nat_lit 206,nat_lit 207,nat_lit 211,nat_lit 212,nat_lit 218,nat_lit 219,nat_lit 225,nat_lit 226,nat_lit 232,nat_lit 233,nat_lit 237,nat_lit 238,nat_lit 244,nat_lit 245,nat_lit 251,nat_lit 252,nat_lit 256,nat_lit 257,nat_lit 263,nat_lit 264,nat_lit 270,nat_lit 271,nat_lit 275,nat_lit 276,nat_lit 280,nat_lit 281,nat_lit 287,nat_lit 288,nat_lit 294,nat_lit 295,nat_lit 301,nat_lit 302,nat_lit 308,nat_lit 309,nat_lit 322,nat_lit 323,nat_lit 329,nat_lit 330,nat_lit 334,nat_lit 335,nat_lit 341,nat_lit 342,nat_lit 348,nat_lit 349,nat_lit 353,nat_lit 354] (fun _ => by kernel_rfl)
noncomputable def dX : DefRec:=⟨Str.ofString "law",defArgs (top 56),defBody (top 56),defScope (top 56),⟨241,0,270,117⟩⟩
theorem saidX : rwX.wellSaid = true:=(congrFun PySem.W.Fast.te9446332074065402090 _).trans (by kernel_rfl)
theorem preX (w : World) (os : OsState) : topGo treeTable pwX w 11 Opn.annB 12 ⟨boot_heap w.params,#[],boot_drawn,boot_toks,os⟩ (topStub pwX) = some (Opn.sA w os,⟨denote treeTable (Opn.cB pwX),Opn.cB pwX,Opn.q0,Opn.bB⟩) := by kernel_rfl
theorem blkX (w : World) (os : OsState) : segRun treeTable pwX w 11 Opn.annB 1 1 (Opn.sA w os) (blockOf (behindTheImports pwX) (Opn.envB pwX) (Opn.cB pwX) Opn.q0 Opn.bB) = some (.next,(Opn.sB w os).abs,Opn.cB pwX,Opn.q0) := by kernel_rfl
theorem finX (w : World) (s : Shared) : topRun treeTable pwX w 11 Opn.annB 2 s (restOf [] (Opn.envB pwX) (Opn.cB pwX) ⟨241,0,270,117⟩ Opn.bB) = some s := by kernel_rfl
theorem segX (w : World) (os : OsState) : Opn.runB pwX 2398 w os = some (.next,Opn.endB pwX 2398 w os,Opn.cB pwX,⟨241,0,270,117⟩) := by kernel_rfl
noncomputable abbrev sX (w : World) (os : OsState) : Shared:=(Opn.endB pwX 2398 w os).abs
theorem okOp (w : World) (os : OsState) : (staticsOk (importedModules pwX.main.body) (boot_heap w.params) (sX w os).heap && namesBound pwX (sX w os).heap && gensDone (sX w os) && laidKept (boot_heap w.params) (sX w os).heap) = true := by kernel_rfl
theorem hookX (w : World) (os : OsState) : hX.obs (sX w os) = hX.val w := by kernel_rfl
noncomputable abbrev xtX : Shared→Bool:=fun s => xlAt qX [] s && recOk (RowW.records rwX.row.toRowW) s
theorem seenX (w : World) (os : OsState) : openSeen qX [] (importedModules pwX.main.body) xtX true (sX w os) = openGood qX [] := by kernel_rfl
theorem bootX (w : World) : (fencedOpening treeTable pwX w 4920).map (fun s => (s.heap,s.gens,s.drawn,s.toks)) = some (boot_heap w.params,#[],boot_drawn,boot_toks) := boot_open (p:=pwX) (N:=4920) (by kernel_rfl) (by kernel_rfl) (fun _ => by kernel_rfl) w
theorem leftX : LeftO pwX qX [] xtX hX.obs hX.val 4920:=Opn.left_of (M:=2413) (S:=sX) bootX Opn.sizeB (fun w os => Opn.run_of (preX w os) (blkX w os) (segX w os) (finX w) (by kernel_rfl)) (by kernel_rfl) okOp seenX hookX
theorem defX : defOf qX rwX.row.name = some (dX,[]) := by kernel_rfl
theorem theX : pwX.theDef rwX.row.name = some (dX.params,dX.body,dX.scope) := by kernel_rfl
theorem kwX : kwWritten? dX.params.kwonlyargs dX.params.kw_defaults = some [] := by kernel_rfl
theorem chnX : (chainsOk qX && opensWell rwX.row.prog && (frees rwX.row.toRowW && rwX.row.within.isEmpty)) = true := by kernel_rfl
theorem bareX : pwX.bare:=⟨rfl,rfl,rfl,rfl,rfl,by decide +kernel⟩
theorem openX (hw : rwX.row.toRowW.promised) (hc : WalkO qX [] (XL qX []) hX.says rwX.row.toRowW dX [] (fun f vs => PySem.call f vs)) : rwX.Holds :=
  holds_law saidX fun said => holds_open (r:=rwX.row) (q:=qX) (loose:=[]) (Xt:=xtX) (XP:=XL qX []) (Yf:=hX.obs) (Ya:=hX.val) (YP:=hX.says) (d:=dX) (kwd:=[]) (N:=4920) leftX hX.of hX.keeps (fun s e => xl_of s (Bool.and_eq_true_iff.mp e).1) XL.keeps defX theX kwX (fun s e => recFacts_of (Bool.and_eq_true_iff.mp e).2) rfl said chnX bareX hw hc
end
end Q25
namespace L2
open PySem PySem.Spec PyProof.Rows
abbrev Key:=Sum Int Str
def keyIs : Key→Value→Bool
  | .inl k,v => Value.isInt k v
  | .inr x,v => Value.isStrOf x v
def keyH (w : World) : Key→Int
  | .inl k => hashInt k
  | .inr x => hashStr w x
theorem keyIs_shape : ∀ {k : Key} {v : Value},keyIs k v = true→(∃ i t,k = Sum.inl i∧v = Value.int i t)∨(∃ x t,k = Sum.inr x∧v = Value.str x t)
  | .inl i,v,h => by
    obtain ⟨t,e⟩:=Value.isInt_shape (k:=i) (v:=v) h
    exact .inl ⟨i,t,rfl,e⟩
  | .inr x,v,h => by
    obtain ⟨t,e⟩:=Value.isStrOf_shape (x:=x) (v:=v) h
    exact .inr ⟨x,t,rfl,e⟩
theorem keyIs_int (i : Int) (t : Tok) : keyIs (.inl i) (.int i t) = true := by simp [keyIs,Value.isInt]
theorem keyIs_str (x : Str) (t : Tok) : keyIs (.inr x) (.str x t) = true := by simp [keyIs,Value.isStrOf]
theorem key_ll (a b : Int) : decide ((Sum.inl a : Key) = Sum.inl b) = (a == b) := by
  by_cases e : a = b
  · subst e; simp
  · have h : ¬ (Sum.inl a : Key) = Sum.inl b:=fun q => e (Sum.inl.inj q)
    rw [decide_eq_false h]
    exact (beq_eq_false_iff_ne.mpr e).symm
theorem key_rr (a b : Str) : decide ((Sum.inr a : Key) = Sum.inr b) = decide (a = b) := by
  by_cases e : a = b
  · subst e; simp
  · have h : ¬ (Sum.inr a : Key) = Sum.inr b:=fun q => e (Sum.inr.inj q)
    rw [decide_eq_false h,decide_eq_false e]
theorem key_lr (a : Int) (b : Str) : decide ((Sum.inl a : Key) = Sum.inr b) = false:=decide_eq_false (fun q => nomatch q)
theorem key_rl (a : Str) (b : Int) : decide ((Sum.inr a : Key) = Sum.inl b) = false:=decide_eq_false (fun q => nomatch q)
def mixKind (prog : Program) (w : World) : PySem.KeyKind prog w Key where
  is:=keyIs
  hash:=keyH w
  inj:=fun v a b ha hb => by
    rcases keyIs_shape ha with ⟨i,t,rfl,rfl⟩ | ⟨x,t,rfl,rfl⟩
    · rcases keyIs_shape hb with ⟨j,u,rfl,e⟩ | ⟨y,u,rfl,e⟩
      · injection e with e1 _; rw [e1]
      · exact nomatch e
    · rcases keyIs_shape hb with ⟨j,u,rfl,e⟩ | ⟨y,u,rfl,e⟩
      · exact nomatch e
      · injection e with e1 _; rw [e1]
  byValue:=fun k v h => by
    rcases keyIs_shape h with ⟨i,t,rfl,rfl⟩ | ⟨x,t,rfl,rfl⟩ <;> rfl
  pyHash:=fun hv h => by
    rcases keyIs_shape hv with ⟨i,t,rfl,rfl⟩ | ⟨x,t,rfl,rfl⟩
    · exact wpAny_pyHash_int h
    · exact wpAny_pyHash_str h
  eqBool:=fun hu hv h => by
    rcases keyIs_shape hu with ⟨i,t,rfl,rfl⟩ | ⟨x,t,rfl,rfl⟩
    · rcases keyIs_shape hv with ⟨j,u,rfl,rfl⟩ | ⟨y,u,rfl,rfl⟩
      · rw [key_ll] at h; exact wpAny_eqBool_int h
      · rw [key_lr] at h; exact SeqAt.EqAt.int_str i t y u _ _ _ _ h
    · rcases keyIs_shape hv with ⟨j,u,rfl,rfl⟩ | ⟨y,u,rfl,rfl⟩
      · rw [key_rl] at h; exact SeqAt.EqAt.str_int x t j u _ _ _ _ h
      · rw [key_rr] at h; exact wpAny_eqBool_str h
  «strs»:=fun k x t v h => by
    rcases keyIs_shape h with ⟨i,u,rfl,e⟩ | ⟨y,u,rfl,e⟩
    · exact nomatch e
    · injection e with e1 _
      subst e1
      cases v <;> rfl
theorem mixKind_int (prog : Program) (w : World) (i : Int) (t : Tok) : (mixKind prog w).is (.inl i) (.int i t) = true:=keyIs_int i t
theorem mixKind_str (prog : Program) (w : World) (x : Str) (t : Tok) : (mixKind prog w).is (.inr x) (.str x t) = true:=keyIs_str x t
inductive V where
  | non | bl (b : Bool) | int (i : Int) | str (x : Str) | byt (b : Array UInt8) | flt (b : UInt64) | ref (a : Addr) | ty (n : String)
  deriving DecidableEq
def RelV : V→Value→Prop
  | .non,u => u = Value.none
  | .bl b,u => u = Value.bool b
  | .int i,u => ∃ t,u = Value.int i t
  | .str x,u => ∃ t,u = Value.str x t
  | .byt b,u => ∃ t,u = Value.bytes b t
  | .flt b,u => ∃ t,u = Value.float b t
  | .ref a,u => u = Value.ref a
  | .ty n,u => u = Value.type n
abbrev Vals : List V→List Value→Prop:=Paired RelV
theorem Vals.length {xs : List V} {us : List Value} (r : Vals xs us) : xs.length = us.length:=Paired.length r
theorem Vals.get : ∀ {xs : List V} {us : List Value} {i : Nat} {x : V},Vals xs us→xs[i]? = some x→∃ u,us[i]? = some u∧RelV x u
  | _,_,_,_,.nil,e => by simp at e
  | _,_,0,_,.cons r _,e => by simp at e; subst e; exact ⟨_,rfl,r⟩
  | _,_,i + 1,x,.cons _ t,e => by
    obtain ⟨u,h1,h2⟩:=Vals.get (i:=i) (x:=x) t (by simpa using e)
    exact ⟨u,by simpa using h1,h2⟩
theorem Vals.set {x : V} {u : Value} (r : RelV x u) : ∀ {xs : List V} {us : List Value} (i : Nat),Vals xs us→Vals (xs.set i x) (us.set i u)
  | _,_,_,.nil => .nil
  | _,_,0,.cons _ t => .cons r t
  | _,_,i + 1,.cons q t => .cons q (Vals.set r i t)
theorem Vals.append : ∀ {xs ys : List V} {us ws : List Value},Vals xs us→Vals ys ws→Vals (xs ++ ys) (us ++ ws)
  | _,_,_,_,.nil,s => s
  | _,_,_,_,.cons r t,s => .cons r (Vals.append t s)
theorem Vals.take : ∀ {xs : List V} {us : List Value} (n : Nat),Vals xs us→Vals (xs.take n) (us.take n)
  | _,_,0,_ => .nil
  | _,_,_ + 1,.nil => .nil
  | _,_,n + 1,.cons r t => .cons r (Vals.take n t)
theorem Vals.drop : ∀ {xs : List V} {us : List Value} (n : Nat),Vals xs us→Vals (xs.drop n) (us.drop n)
  | _,_,0,r => r
  | _,_,_ + 1,.nil => .nil
  | _,_,n + 1,.cons _ t => Vals.drop n t
def RelO : Option V→Option Value→Prop
  | some v,some u => RelV v u
  | none,none => True
  | _,_ => False
def KV {κ : Type} : List (κ×V)→List (κ×Value)→Prop:=Paired fun (p : κ×V) (q : κ×Value) => p.1 = q.1∧RelV p.2 q.2
def kV : Key→V
  | .inl i => .int i
  | .inr x => .str x
inductive HO where
  | lst (xs : List V)
  | tup (xs : List V)
  | dK (kvs : List (Key×V)) | dT (kvs : List (List Key×V))
  | set (S : Int→Bool) (n : Nat)
  | ins (C dx : Addr) (fs : List (Str×V))
  | own (x : Addr)
  | xd (fs : List (Str×V))
  | met (f x : Addr)
  | rng (lo hi : Int)
  | frz (o : Obj) (u : HO)
  | tbl (ps : Array Value)
  | ext (φ : Heap→Prop)
abbrev Hp:=Addr→Option HO
def upd (H : Hp) (a : Addr) (o : HO) : Hp:=fun b => if b = a then some o else H b
theorem upd_same {H : Hp} {a : Addr} {o : HO} : upd H a o a = some o := by unfold upd; rw [if_pos rfl]
theorem upd_ne {H : Hp} {a b : Addr} {o : HO} (h : b≠a) : upd H a o b = H b := by unfold upd; rw [if_neg h]
theorem ne_of {H : Hp} {a b : Addr} {o u : HO} (h : H a = some o) (h' : H b = some u) (d : o≠u) : a≠b := by
  intro e; subst e; rw [h] at h'; exact d (Option.some.inj h')
theorem ne_of_none {H : Hp} {a b : Addr} {o : HO} (h : H a = some o) (h' : H b = none) : a≠b := by
  intro e; subst e; rw [h] at h'; cases h'
section
variable (P : Program) (w : World)
def ObjOk (H : Hp) (h : Heap) (a : Addr) : HO→Prop
  | .lst xs => xs.length≤sizeLine∧∃ (its : List Value) (n : Nat),Vals xs its∧h.get? a = some { cls:=.type "list",data:=.seq its.toArray n }
  | .tup xs => xs.length≤sizeLine∧∃ its : List Value,Vals xs its∧IsTup h a its.toArray
  | .dK kvs => kvs.length≤sizeLine∧(a == sysModules) = false∧∃ vs,KV kvs vs∧h.DictOf (mixKind P w) a vs
  | .dT kvs => kvs.length≤sizeLine∧(a == sysModules) = false∧∃ xs : List (List Key×Addr×Value),
      Paired (fun (p : List Key×V) (q : List Key×Addr×Value) => p.1 = q.1∧H q.2.1 = some (.tup (p.1.map kV))∧RelV p.2 q.2.2) kvs xs ∧
      ∃ o es ep,h.get? a = some o∧o.ExactDict∧o.data = .dict es ep∧es.toList = xs.map (entryOfKey (tupleKind (mixKind P w)))∧(xs.map (·.1)).Nodup
  | .set S n => h.SetOf (intKind P w) a S n
  | .ins C dx fs => H dx = some (.own a)∧fs.length≤1000∧dx≠a∧h.get? a = some (PySem.W.instObj C dx) ∧
      ∃ mA,h.Ns1 dx mA∧(∀ f,RelO (fs.lookup f) (mA f))∧PySem.Within mA (fs.map (·.1))
  | .own _ => ∃ o,h.get? a = some o
  | .xd fs => ∃ mA,h.Ns1 a mA∧∀ f,RelO (fs.lookup f) (mA f)
  | .rng lo hi => ∃ t u v,h.get? a = some { cls:=.type "range",data:=.fields #[.int lo t,.int hi u,.int 1 v] }
  | .frz o u => h.get? a = some o∧ObjOk H h a u
  | .tbl ps => h.get? a = some { cls:=.none,data:=.fields ps }
  | .met f x => h.get? a = some (PySem.W.methodObj (.ref f) (.ref x))
  | .ext φ => φ h∧(∃ o,h.get? a = some o)∧∀ h1 h2 : Heap,φ h1→(∀ o,h1.get? a = some o→h2.get? a = some o)→φ h2
def HOk (H : Hp) (h : Heap) : Prop:=∀ a o,H a = some o→ObjOk P w H h a o
end
section
variable {P : Program} {w : World} {H H' : Hp} {h h' : Heap} {a : Addr} {o : HO}
theorem ObjOk.lt (x : ObjOk P w H h a o) : a < h.objs.size := by
  cases o with
  | lst xs => obtain ⟨_,_,_,_,e⟩:=x; exact Heap.lt_size e
  | tup xs => obtain ⟨_,_,_,p⟩:=x; exact p.lt
  | dK kvs => obtain ⟨_,_,_,_,o,_,_,e,_⟩:=x; exact Heap.lt_size e
  | dT kvs => obtain ⟨_,_,_,_,o,_,_,e,_⟩:=x; exact Heap.lt_size e
  | set S n => obtain ⟨o,_,_,_,e,_⟩:=x; exact Heap.lt_size e
  | ins C dx fs => obtain ⟨_,_,_,e,_⟩:=x; exact Heap.lt_size e
  | own y => obtain ⟨_,e⟩:=x; exact Heap.lt_size e
  | xd fs => obtain ⟨_,⟨_,_,_,e,_⟩,_⟩:=x; exact Heap.lt_size e
  | rng lo hi => obtain ⟨_,_,_,e⟩:=x; exact Heap.lt_size e
  | frz ob u => obtain ⟨e,_⟩:=x; exact Heap.lt_size e
  | tbl ps => exact Heap.lt_size (show h.get? a = some _ from x)
  | met f y => exact Heap.lt_size (show h.get? a = some _ from x)
  | ext φ => obtain ⟨_,⟨_,e⟩,_⟩:=x; exact Heap.lt_size e
theorem Paired.mapP {α β : Type} {F G : α→β→Prop} : ∀ {l₁ : List α} {l₂ : List β},Paired F l₁ l₂→(∀ a b,F a b→G a b)→Paired G l₁ l₂
  | _,_,.nil,_ => .nil
  | _,_,.cons r t,f => .cons (f _ _ r) (Paired.mapP t f)
theorem ObjOk.stay (x : ObjOk P w H h a o) (k : ∀ b u,(b = a∨H b = some (.own a))→h.get? b = some u→h'.get? b = some u)
    (ho : ∀ b,H b = some (.own a)→H' b = some (.own a)) (ht : ∀ b xs,H b = some (.tup xs)→H' b = some (.tup xs)) : ObjOk P w H' h' a o := by
  induction o with
  | lst xs => obtain ⟨z,its,n,r,e⟩:=x; exact ⟨z,its,n,r,k _ _ (.inl rfl) e⟩
  | tup xs => obtain ⟨z,its,r,ob,e,c⟩:=x; exact ⟨z,its,r,ob,k _ _ (.inl rfl) e,c⟩
  | dK kvs => obtain ⟨z,y,vs,r,ob,es,ep,e,c⟩:=x; exact ⟨z,y,vs,r,ob,es,ep,k _ _ (.inl rfl) e,c⟩
  | dT kvs =>
    obtain ⟨z,y,xs,r,ob,es,ep,e,c⟩:=x
    exact ⟨z,y,xs,Paired.mapP r fun p q z => ⟨z.1,ht _ _ z.2.1,z.2.2⟩,ob,es,ep,k _ _ (.inl rfl) e,c⟩
  | set S n => obtain ⟨ob,es,ep,t,e,c⟩:=x; exact ⟨ob,es,ep,t,k _ _ (.inl rfl) e,c⟩
  | ins C dx fs =>
    obtain ⟨d,z,ne,e,mA,⟨od,es,ep,e2,c⟩,r⟩:=x
    exact ⟨ho _ d,z,ne,k _ _ (.inl rfl) e,mA,⟨od,es,ep,k _ _ (.inr d) e2,c⟩,r⟩
  | own y => obtain ⟨ob,e⟩:=x; exact ⟨ob,k _ _ (.inl rfl) e⟩
  | xd fs => obtain ⟨mA,⟨od,es,ep,e,c⟩,r⟩:=x; exact ⟨mA,⟨od,es,ep,k _ _ (.inl rfl) e,c⟩,r⟩
  | rng lo hi => obtain ⟨t,u,v,e⟩:=x; exact ⟨t,u,v,k _ _ (.inl rfl) e⟩
  | frz ob u ih => obtain ⟨e,q⟩:=x; exact ⟨k _ _ (.inl rfl) e,ih q⟩
  | tbl ps =>
    have e : h.get? a = some { cls:=.none,data:=.fields ps }:=x
    show h'.get? a = some { cls:=.none,data:=.fields ps }
    exact k a _ (.inl rfl) e
  | met f y =>
    have e : h.get? a = some (PySem.W.methodObj (.ref f) (.ref y)):=x
    show h'.get? a = some (PySem.W.methodObj (.ref f) (.ref y))
    exact k a _ (.inl rfl) e
  | ext φ => obtain ⟨p,⟨o,e⟩,st⟩:=x; exact ⟨st _ _ p fun o q => k _ _ (.inl rfl) q,⟨o,k _ _ (.inl rfl) e⟩,st⟩
theorem HOk.lt (x : HOk P w H h) (e : H a = some o) : a < h.objs.size:=(x a o e).lt
theorem HOk.fresh (x : HOk P w H h) (e : h.objs.size≤a) : H a = none := by
  cases q : H a with
  | none => rfl
  | some u => exact absurd (Nat.lt_of_lt_of_le (x.lt q) e) (Nat.lt_irrefl _)
theorem HOk.kept (x : HOk P w H h) (k : ∀ b u,h.get? b = some u→h'.get? b = some u) : HOk P w H h':=fun a o e =>
  (x a o e).stay (fun b u _ q => k b u q) (fun _ q => q) fun _ _ q => q
theorem HOk.laid (x : HOk P w H h) (k : ∀ b u,h.get? b = some u→h'.get? b = some u) (hp : h.objs.size≤a) (new : ObjOk P w (upd H a o) h' a o) : HOk P w (upd H a o) h':=fun b u e => by
  have hn:=x.fresh hp
  by_cases hb : b = a
  · subst hb; rw [upd_same] at e; cases e; exact new
  · rw [upd_ne hb] at e
    exact (x b u e).stay (fun c v _ q => k c v q) (fun c q => by rw [upd_ne (ne_of_none q hn)]; exact q) fun c xs q => by rw [upd_ne (ne_of_none q hn)]; exact q
end
def Rd (H : Hp) (a : Addr) (u : HO) : Prop:=H a = some u∨∃ o,H a = some (.frz o u)
theorem Rd.ok {P : Program} {w : World} {H : Hp} {h : Heap} {a : Addr} {u : HO} (r : Rd H a u) (x : HOk P w H h) : ObjOk P w H h a u := by
  rcases r with r | ⟨o,r⟩
  · exact x a u r
  · obtain ⟨_,q⟩:=x a _ r
    exact q
def Mut : Option HO→Prop
  | some (.lst _) => True
  | some (.dK _) => True
  | some (.dT _) => True
  | some (.set _ _) => True
  | some (.ins _ _ _) => True
  | some (.ext _) => True
  | _ => False
section
variable {P : Program} {w : World} {H : Hp} {h h' : Heap} {x e : Addr} {o' : HO}
theorem HOk.write (ok : HOk P w H h) (mu : Mut (H x)) (he : e = x∨H e = some (.own x)) (k : ∀ b u,b≠e→h.get? b = some u→h'.get? b = some u) (heo : ∃ u,h'.get? e = some u)
    (new : ObjOk P w (upd H x o') h' x o') : HOk P w (upd H x o') h':=fun b u q => by
  have nown : ∀ c y,H c = some (.own y)→c≠x:=fun c y r z => by subst z; rw [r] at mu; exact mu
  have ntup : ∀ c xs,H c = some (.tup xs)→c≠x:=fun c xs r z => by subst z; rw [r] at mu; exact mu
  by_cases hb : b = x
  · subst hb; rw [upd_same] at q; cases q; exact new
  · rw [upd_ne hb] at q
    by_cases hbe : b = e
    · have q' : H b = some (.own x) := by
        rcases he with z | z
        · exact absurd (hbe.trans z) hb
        · rw [hbe]; exact z
      rw [q] at q'; cases q'
      obtain ⟨v,hv⟩:=heo
      exact ⟨v,by rw [hbe]; exact hv⟩
    · refine (ok b u q).stay (fun c v hc r => k c v ?_ r) (fun c r => by rw [upd_ne (nown c b r)]; exact r) fun c xs r => by rw [upd_ne (ntup c xs r)]; exact r
      rcases hc with rfl | hc
      · exact hbe
      · rintro rfl
        rcases he with z | z
        · exact nown c b hc z
        · rw [hc] at z; cases z; exact hb rfl
end
structure Un (fs ex : List Addr) (H H' : Hp) (h h' : Heap) : Prop where
  keep : ∀ b o,h.get? b = some o→H b = none→b ∉ fs→b ∉ ex→h'.get? b = some o
  slot : ∀ b o,h.get? b = some o→H b = none→b∈fs→b ∉ ex→∃ sl,h'.get? b = some { o with slots:=sl }
  free : ∀ b o,h.get? b = some o→H b = none→b ∉ ex→H' b = none
  there : ∀ b o,h.get? b = some o→b ∉ ex→∃ o',h'.get? b = some o'
  tups : ∀ b xs,H b = some (.tup xs)→H' b = some (.tup xs)
  frzs : ∀ b o u,H b = some (.frz o u)→H' b = some (.frz o u)
  tbls : ∀ b ps,H b = some (.tbl ps)→∃ more,H' b = some (.tbl (ps ++ more))
  tupo : ∀ b xs o,H b = some (.tup xs)→h.get? b = some o→b ∉ ex→h'.get? b = some o
section
variable {fs ex : List Addr} {H H1 : Hp} {h h1 h' : Heap} {a x e : Addr} {o : HO}
theorem Un.any (u : Un fs ex H H1 h h1) {b : Addr} {ob : Obj} (q : h.get? b = some ob) (n : H b = none) (hx : b ∉ ex) : ∃ sl,h1.get? b = some { ob with slots:=sl } := by
  by_cases hb : b∈fs
  · exact u.slot b ob q n hb hx
  · exact ⟨ob.slots,u.keep b ob q n hb hx⟩
theorem Un.kept (k : ∀ b u,h.get? b = some u→h'.get? b = some u) : Un fs ex H H h h' :=
  ⟨fun b ob q _ _ _ => k b ob q,fun b ob q _ _ _ => ⟨ob.slots,k b ob q⟩,fun _ _ _ n _ => n,fun b ob q _ => ⟨ob,k b ob q⟩,fun _ _ q => q,fun _ _ _ q => q,fun _ ps q => ⟨#[],by rw [q]; simp⟩,fun _ _ ob _ e _ => k _ ob e⟩
theorem Un.refl : Un fs ex H H h h:=Un.kept fun _ _ q => q
theorem Un.laid (k : ∀ b u,h.get? b = some u→h'.get? b = some u) (hp : h.objs.size≤a) (hn : H a = none) : Un fs ex H (upd H a o) h h' where
  keep:=fun b u q _ _ _ => k b u q
  slot:=fun b u q _ _ _ => ⟨u.slots,k b u q⟩
  free:=fun b u q n _ => by rw [upd_ne (Nat.ne_of_lt (Nat.lt_of_lt_of_le (Heap.lt_size q) hp))]; exact n
  there:=fun b u q _ => ⟨u,k b u q⟩
  tups:=fun b xs q => by rw [upd_ne (ne_of_none q hn)]; exact q
  frzs:=fun b u xs q => by rw [upd_ne (ne_of_none q hn)]; exact q
  tbls:=fun b ps q => ⟨#[],by rw [upd_ne (ne_of_none q hn),q]; simp⟩
  tupo:=fun b _ u _ e _ => k b u e
theorem Un.write (mu : Mut (H x)) (he : e = x∨H e = some (.own x)) (k : ∀ b u,b≠e→h.get? b = some u→h'.get? b = some u) (heo : ∃ u,h'.get? e = some u) : Un fs ex H (upd H x o) h h' := by
  have hx : ∀ b,H b = none→b≠x:=fun b n z => by subst z; rw [n] at mu; exact mu
  have hb : ∀ b,H b = none→b≠e:=fun b n z => by
    subst z
    rcases he with r | r
    · exact hx b n r
    · rw [n] at r; cases r
  have hm : ∀ b u,H b = some u→¬ Mut (some u)→b≠x:=fun b u q nm z => by subst z; rw [q] at mu; exact nm mu
  refine ⟨fun b u q n _ _ => k b u (hb b n) q,fun b u q n _ _ => ⟨u.slots,k b u (hb b n) q⟩,fun b u q n _ => by rw [upd_ne (hx b n)]; exact n,fun b u q _ => ?_,
    fun b xs q => by rw [upd_ne (hm b _ q fun z => z)]; exact q,fun b u xs q => by rw [upd_ne (hm b _ q fun z => z)]; exact q,fun b ps q => ⟨#[],by rw [upd_ne (hm b _ q fun z => z),q]; simp⟩,fun b xs u q e _ => k b u (fun z => by
      rcases he with r | r
      · exact hm b _ q (fun z => z) (z.trans r)
      · rw [← z,q] at r; cases r) e⟩
  by_cases hbe : b = e
  · subst hbe; exact heo
  · exact ⟨u,k b u hbe q⟩
end
def trk (h : Heap) (H : Hp) : List Addr:=(List.range h.objs.size).filter fun a => (H a).isSome
def hidT (h : Heap) (H : Hp) : Heap:=PySem.W.hideAll h (trk h H)
theorem hidT_size (h : Heap) (H : Hp) : (hidT h H).objs.size = h.objs.size:=PySem.W.hideAll_size _ _
theorem hidT_get {h : Heap} {H : Hp} {b : Addr} {o : Obj} (e : h.get? b = some o) (n : H b = none) : (hidT h H).get? b = some o :=
  PySem.W.hideAll_get _ e fun hm => by
    have q : (H b).isSome = true:=(List.mem_filter.mp hm).2
    rw [n] at q; simp at q
theorem of_hidT {h : Heap} {H : Hp} {b : Addr} {o : Obj} (e : (hidT h H).get? b = some o) : h.get? b = some o∧H b = none := by
  have e' : h.get? b = some o:=PySem.W.of_hideAll (trk h H) e
  refine ⟨e',?_⟩
  cases q : H b with
  | none => rfl
  | some x =>
    have hm : b∈trk h H:=List.mem_filter.mpr ⟨List.mem_range.mpr (Heap.lt_size e'),by simp [q]⟩
    have z : (hidT h H).get? b = none:=PySem.W.hideAll_none (trk h H) hm
    rw [z] at e; cases e
structure Mod (K : PySem.W.Frag) (mg : Str→Option Value) (base : Heap) : Prop where
  kin : K.In base
  glob : base.Ns mainGlobals mg
  blt : ∃ mb,base.Ns builtinsNs mb∧∀ x : Str,x ≠ "__name__" → mb x = bootBuiltins x
  nolimit : base.NoLimit
def tbT (d : Nat) : List (List V):=[[],[.ref (d + 1)],[.int 1,.int 1],[.ref (d + 3)],[.ref (d + 2),.ref (d + 4)],[],[.int 1,.int 2],[.ref (d + 7)],[.ref (d + 6),.ref (d + 8)],[.int 0,.int 1],[.int 1,.int 1],[.ref (d + 10),.ref (d + 11)],[.ref (d + 9),.ref (d + 12)],[],[.int 1,.int 1],[.ref (d + 15)],[.ref (d + 14),.ref (d + 16)],[.int 1,.int 2],[.int 1,.int 2],[.ref (d + 18),.ref (d + 19)],[.ref (d + 17),.ref (d + 20)],[],[.int 1,.int 3],[.ref (d + 23)],[.int 0,.int 1],[.int 2,.int 3],[.ref (d + 25),.ref (d + 26)],[.ref (d + 22),.ref (d + 24),.ref (d + 27)],[.int 1,.int 4],[.int 0,.int 1],[.int 3,.int 4],[.ref (d + 29),.ref (d + 30),.ref (d + 31)],[.ref (d + 28),.ref (d + 32)],[],[.int 1,.int 2],[.ref (d + 35)],[.int 0,.int 1],[.int 1,.int 2],[.ref (d + 37),.ref (d + 38)],[.int 0,.int 1],[.int 0,.int 1],[.int 1,.int 1],[.ref (d + 40),.ref (d + 41),.ref (d + 42)],[.ref (d + 34),.ref (d + 36),.ref (d + 39),.ref (d + 43)],[.int 1,.int 6],[.int 1,.int 3],[.int 1,.int 3],[.int 1,.int 6],[.ref (d + 45),.ref (d + 46),.ref (d + 47),.ref (d + 48)],[.ref (d + 44),.ref (d + 49)]]
def tbK (d : Nat) : List (Key×V):=[(.inr "plain",.ref (d + 5)),(.inr "middle",.ref (d + 13)),(.inr "heel",.ref (d + 21)),(.inr "third",.ref (d + 33)),(.inr "fourth",.ref (d + 50))]
def KTb (mg : Str→Option Value) (H : Hp) : Prop:=∀ d : Addr,mg "NAMED_TABLES" = some (.ref d)→(∃ o,H d = some (.frz o (.dK (tbK d))))∧∀ j xs,(tbT d)[j]? = some xs→H (d + 1 + j) = some (.tup xs)
theorem KTb.un {mg : Str→Option Value} {fs ex : List Addr} {H H' : Hp} {h h' : Heap} (k : KTb mg H) (u : Un fs ex H H' h h') : KTb mg H':=fun d e => by
  obtain ⟨⟨o,h1⟩,h2⟩:=k d e
  exact ⟨⟨o,u.frzs _ _ _ h1⟩,fun j xs q => u.tups _ _ (h2 j xs q)⟩
structure Cx where
  prog : Program
  w : World
  K : PySem.W.Frag
  mg : Str→Option Value
  base : Heap
  A : Around
  N : List Str
  s₀ : Shared
  H₀ : Hp
  env : Env
  outer : List Env
  stack : List Env
  ex : List Addr
  fn : Str→Bool
  calm : Bool
  pn : List (Addr×Obj)
  xe : Value→Shared→Prop
def frs (l : List Env) : List Addr:=l.filterMap (·.frame)
abbrev Cx.fs (X : Cx) : List Addr:=frs X.outer
def Vis (sc : Scope) (x : Str) : Prop:=sc.names.lookup x = some .local∨sc.names.lookup x = some .cell∨sc.names.lookup x = some .free
def Loc (sc : Scope) (x : Str) : Prop:=sc.names.lookup x = some .local∨sc.names.lookup x = some .cell
def Look (env : Env) (h : Heap) (m : Str→Option Value) (x : Str) (u : Value) : Prop :=
  (env.kindOf x = some .local∧m x = some u)∨((env.kindOf x = some .cell∨env.kindOf x = some .free)∧∃ c,env.cells.lookup x = some c∧h.IsCell c (some u))
structure Cx.Ok (X : Cx) : Prop where
  mod : Mod X.K X.mg X.base
  kind : X.env.scope.kind = .function
  glob : X.env.globals = mainGlobals
  blt : X.env.builtins = builtinsNs
  above : X.s₀.heap.objs.size≤X.env.locals
  inj : ∀ x y c,X.env.cells.lookup x = some c→X.env.cells.lookup y = some c→x = y
  has : ∀ x,(X.env.kindOf x = some .cell∨X.env.kindOf x = some .free)→∃ c,X.env.cells.lookup x = some c
  cab : ∀ x c,X.fn x = true→X.env.cells.lookup x = some c→X.s₀.heap.objs.size≤c
  hd : X.calm = true→X.A.handled = none
  frames : X.A.frames = some X.stack
  stk : X.stack = X.outer∨(X.stack = X.env :: X.outer∧X.env.frame = some X.env.locals)
  exf : ∀ b∈X.ex,b≠X.env.locals∧∀ x c,X.env.cells.lookup x = some c→c≠b
  bs : ∀ b o,X.base.get? b = some o→X.s₀.heap.get? b = some o∧X.H₀ b = none
  bsz : X.base.objs.size≤X.s₀.heap.objs.size
  noex : ∀ b o,X.base.get? b = some o→b ∉ X.ex
  exfs : ∀ b∈X.ex,b ∉ X.fs
  funs : X.s₀.heap.FunFrames X.base X.outer
  frf : ∀ b∈X.fs,X.H₀ b = none
  kt : KTb X.mg X.H₀
structure Inv (X : Cx) (pins : List (Addr×Obj)) (σ : List (Option V)) (H : Hp) (s : Shared) : Prop where
  ok : X.Ok
  os : s.os = X.s₀.os
  bare : AllBare s.gens
  base : Un X.fs X.ex X.H₀ H X.s₀.heap s.heap
  loc : ∃ m,s.heap.Ns X.env.locals m∧∀ (i : Nat) (x : Str) (v : V),X.N[i]? = some x→σ[i]? = some (some v)→Vis X.env.scope x→∃ u,RelV v u∧Look X.env s.heap m x u
  cell : ∀ x c,X.env.cells.lookup x = some c→∃ v,s.heap.IsCell c v
  free : H X.env.locals = none
  freeC : ∀ x c,X.env.cells.lookup x = some c→H c = none
  pin : ∀ p∈X.pn ++ pins,s.heap.get? p.1 = some p.2∧H p.1 = none∧p.1≠X.env.locals∧p.1 ∉ X.fs∧∀ v,p.2.data≠.cell v
  hok : HOk X.prog X.w H s.heap
  len : σ.length = X.N.length
theorem Inv.kt {X : Cx} {pins : List (Addr×Obj)} {σ : List (Option V)} {H : Hp} {s : Shared} (I : Inv X pins σ H s) : KTb X.mg H:=I.ok.kt.un I.base
section
variable {X : Cx} {pins : List (Addr×Obj)} {σ : List (Option V)} {H H' : Hp} {s : Shared} {h' : Heap}
theorem Cx.Ok.nofr (ok : X.Ok) {b : Addr} {o : Obj} (e : X.base.get? b = some o) : b ∉ X.fs:=fun hb => by
  have:=(ok.funs.mem hb).1
  rw [e] at this; cases this
theorem Inv.bs (I : Inv X pins σ H s) : ∀ b o,X.base.get? b = some o→s.heap.get? b = some o∧H b = none:=fun b o e =>
  ⟨I.base.keep b o (I.ok.bs b o e).1 (I.ok.bs b o e).2 (I.ok.nofr e) (I.ok.noex b o e),I.base.free b o (I.ok.bs b o e).1 (I.ok.bs b o e).2 (I.ok.noex b o e)⟩
theorem Inv.bk (I : Inv X pins σ H s) : ∀ b o,X.base.get? b = some o→s.heap.get? b = some o:=fun b o e => (I.bs b o e).1
theorem Inv.mod (I : Inv X pins σ H s) : Mod X.K X.mg X.base:=I.ok.mod
theorem Inv.kIn (I : Inv X pins σ H s) : X.K.In s.heap:=I.ok.mod.kin.keeps I.bk
theorem Inv.lt (I : Inv X pins σ H s) : X.env.locals < s.heap.objs.size:=let ⟨_,hn,_⟩:=I.loc; hn.lt
theorem Inv.sz (I : Inv X pins σ H s) : X.s₀.heap.objs.size≤s.heap.objs.size:=Nat.le_trans I.ok.above (Nat.le_of_lt I.lt)
theorem Inv.nofs (I : Inv X pins σ H s) {a : Addr} (h : s.heap.objs.size≤a) : a ∉ X.fs:=fun hb => by
  obtain ⟨_,o,ho,_⟩:=I.ok.funs.mem hb
  exact absurd (Nat.lt_of_lt_of_le (Heap.lt_size ho) (Nat.le_trans I.sz h)) (Nat.lt_irrefl _)
theorem Inv.cne (I : Inv X pins σ H s) : ∀ x c,X.env.cells.lookup x = some c→c≠X.env.locals:=fun x c e z => by
  obtain ⟨v,o,ho,hd⟩:=I.cell x c e
  obtain ⟨m,⟨o',es,ep,ho',hd',_⟩,_⟩:=I.loc
  rw [z,ho'] at ho; cases ho; rw [hd'] at hd; cases hd
theorem Inv.funs (I : Inv X pins σ H s) : s.heap.FunFrames X.base X.outer := by
  have all : ∀ (l : List Env),(∀ b∈frs l,b∈X.fs)→X.s₀.heap.FunFrames X.base l→s.heap.FunFrames X.base l := by
    intro l
    induction l with
    | nil => intro _ _; trivial
    | cons env r ih =>
      intro hs hl
      obtain ⟨hk,⟨L,o,hf,hn,ho,hd⟩,hr⟩:=hl
      have hL : L∈X.fs:=hs L (by unfold frs; rw [List.filterMap_cons,hf]; exact List.mem_cons_self)
      obtain ⟨sl,e⟩:=I.base.slot L o ho (I.ok.frf L hL) hL fun z => I.ok.exfs L z hL
      exact ⟨hk,⟨L,_,hf,hn,e,hd⟩,ih (fun b hb => hs b (by unfold frs; rw [List.filterMap_cons,hf]; exact List.mem_cons_of_mem _ hb)) hr⟩
  exact all X.outer (fun _ hb => hb) I.ok.funs
theorem Inv.stack (I : Inv X pins σ H s) : s.heap.FunFrames X.base X.stack := by
  rcases I.ok.stk with e | ⟨e,hf⟩
  · rw [e]; exact I.funs
  · rw [e]
    obtain ⟨m,hn,_⟩:=I.loc
    refine .cons (by rw [I.ok.kind]; decide) hf hn ?_ I.funs
    exact Heap.get?_none_of_le (Nat.le_trans I.ok.bsz I.ok.above)
theorem Inv.stkSub (I : Inv X pins σ H s) : ∀ b∈frs X.stack,b∈X.env.locals :: X.fs:=fun b hb => by
  rcases I.ok.stk with e | ⟨e,hf⟩
  · rw [e] at hb; exact List.mem_cons_of_mem _ hb
  · rw [e] at hb
    unfold frs at hb
    rw [List.filterMap_cons,hf] at hb
    exact hb
theorem Inv.stkFree (I : Inv X pins σ H s) : ∀ b∈frs X.stack,H b = none:=fun b hb => by
  rcases List.mem_cons.mp (I.stkSub b hb) with e | hb
  · rw [e]; exact I.free
  · obtain ⟨_,o,ho,_⟩:=I.ok.funs.mem hb
    exact I.base.free b o ho (I.ok.frf b hb) fun z => I.ok.exfs b z hb
theorem Inv.step {g' : Array GenState} {t' : Nat} {d' : Drawn} {ch : List Addr} (I : Inv X pins σ H s)
    (hch : ∀ b∈ch,(b∈X.ex∨X.s₀.heap.objs.size≤b)∧b≠X.env.locals∧(∀ x c,X.env.cells.lookup x = some c→c≠b)∧∀ p∈X.pn ++ pins,p.1≠b)
    (keep : ∀ b o,b≠X.env.locals→b ∉ X.fs→b ∉ ch→s.heap.get? b = some o→H b = none→h'.get? b = some o)
    (slot : ∀ b o,b≠X.env.locals→b∈X.fs→b ∉ ch→s.heap.get? b = some o→H b = none→∃ sl,h'.get? b = some { o with slots:=sl }) (free : ∀ b o,b ∉ ch→s.heap.get? b = some o→H b = none→H' b = none)
    (there : ∀ b o,b ∉ ch→s.heap.get? b = some o→∃ o',h'.get? b = some o')
    (tups : ∀ b xs,H b = some (.tup xs)→H' b = some (.tup xs)) (frzs : ∀ b o u,H b = some (.frz o u)→H' b = some (.frz o u)) (tbls : ∀ b ps,H b = some (.tbl ps)→∃ more,H' b = some (.tbl (ps ++ more)))
    (tupo : ∀ b xs o,b ∉ ch→H b = some (.tup xs)→s.heap.get? b = some o→h'.get? b = some o)
    (ns : ∀ m,s.heap.Ns X.env.locals m→h'.Ns X.env.locals m) (hok : HOk X.prog X.w H' h') (hg : AllBare g') :
    Inv X pins σ H' { s with heap:=h',gens:=g',drawn:=d',toks:=t' } := by
  have neL : ∀ b o,X.s₀.heap.get? b = some o→b≠X.env.locals:=fun b o e => Nat.ne_of_lt (Nat.lt_of_lt_of_le (Heap.lt_size e) I.ok.above)
  have neC : ∀ b o,X.s₀.heap.get? b = some o→b ∉ X.ex→b ∉ ch:=fun b o e hx hb => by
    rcases (hch b hb).1 with z | z
    · exact hx z
    · exact absurd (Nat.lt_of_lt_of_le (Heap.lt_size e) z) (Nat.lt_irrefl _)
  have cellK : ∀ x c,X.env.cells.lookup x = some c→∀ v,s.heap.IsCell c v→h'.IsCell c v:=fun x c e v ⟨o,ho,hd⟩ => by
    have nch : c ∉ ch:=fun z => (hch c z).2.2.1 x c e rfl
    by_cases hc : c∈X.fs
    · obtain ⟨sl,q⟩:=slot c o (I.cne x c e) hc nch ho (I.freeC x c e)
      exact ⟨_,q,hd⟩
    · exact ⟨o,keep c o (I.cne x c e) hc nch ho (I.freeC x c e),hd⟩
  refine ⟨I.ok,I.os,hg,⟨fun b o e n hb hx => ?_,fun b o e n hb hx => ?_,fun b o e n hx => ?_,fun b o e hx => ?_,fun b xs e => tups b xs (I.base.tups b xs e),fun b o xs e => frzs b o xs (I.base.frzs b o xs e),fun b ps e => ?_,fun b xs o q e hx => tupo b xs o (neC b o e hx) (I.base.tups b xs q) (I.base.tupo b xs o q e hx)⟩,?_,fun x c e => ?_,?_,fun x c e => ?_,fun p hp => ?_,hok,I.len⟩
  · exact keep b o (neL b o e) hb (neC b o e hx) (I.base.keep b o e n hb hx) (I.base.free b o e n hx)
  · obtain ⟨sl,e1⟩:=I.base.slot b o e n hb hx
    obtain ⟨sl',e2⟩:=slot b _ (neL b o e) hb (neC b o e hx) e1 (I.base.free b o e n hx)
    exact ⟨sl',e2⟩
  · obtain ⟨o',e1⟩:=I.base.there b o e hx
    exact free b o' (neC b o e hx) e1 (I.base.free b o e n hx)
  · obtain ⟨o',e1⟩:=I.base.there b o e hx
    exact there b o' (neC b o e hx) e1
  · obtain ⟨m1,e1⟩:=I.base.tbls b ps e
    obtain ⟨m2,e2⟩:=tbls b _ e1
    exact ⟨m1 ++ m2,by rw [e2,Array.append_assoc]⟩
  · obtain ⟨m,hn,hl⟩:=I.loc
    refine ⟨m,ns m hn,fun i x v e1 e2 e3 => ?_⟩
    obtain ⟨u,r,l⟩:=hl i x v e1 e2 e3
    refine ⟨u,r,?_⟩
    rcases l with l | ⟨k,c,e,z⟩
    · exact .inl l
    · exact .inr ⟨k,c,e,cellK x c e _ z⟩
  · obtain ⟨v,z⟩:=I.cell x c e
    exact ⟨v,cellK x c e v z⟩
  · obtain ⟨m,⟨o,_,_,ho,_⟩,_⟩:=I.loc
    exact free _ o (fun z => (hch _ z).2.1 rfl) ho I.free
  · obtain ⟨v,o,ho,hd⟩:=I.cell x c e
    exact free c o (fun z => (hch c z).2.2.1 x c e rfl) ho (I.freeC x c e)
  · obtain ⟨e,n,ne,nf,d⟩:=I.pin p hp
    have nch : p.1 ∉ ch:=fun z => (hch p.1 z).2.2.2 p hp rfl
    exact ⟨keep p.1 p.2 ne nf nch e n,free p.1 p.2 nch e n,ne,nf,d⟩
theorem Inv.un {t' : Nat} (I : Inv X pins σ H s) (u : Un X.fs [] H H' s.heap h') (hok : HOk X.prog X.w H' h') : Inv X pins σ H' { s with heap:=h',toks:=t' } := by
  obtain ⟨m,⟨o,es,ep,ho,r⟩,_⟩:=id I.loc
  obtain ⟨sl,hL⟩:=u.any ho I.free (by simp)
  exact I.step (g':=s.gens) (d':=s.drawn) (ch:=[]) (fun _ z => nomatch z) (fun b o _ hb _ e n => u.keep b o e n hb (by simp)) (fun b o _ hb _ e n => u.slot b o e n hb (by simp)) (fun b o _ e n => u.free b o e n (by simp)) (fun b o _ e => u.there b o e (by simp)) u.tups u.frzs u.tbls (fun b xs o _ q e => u.tupo b xs o q e (by simp)) (fun m' hm => by
    obtain ⟨o',es',ep',ho',r'⟩:=hm
    rw [ho] at ho'; cases ho'
    exact ⟨_,es',ep',hL,r'⟩) hok I.bare
theorem Inv.call {g' : Array GenState} {t' : Nat} {d' : Drawn} {ch : List Addr} (I : Inv X pins σ H s) (u : Un (frs X.stack) ch H H' s.heap h') (hok : HOk X.prog X.w H' h') (hg : AllBare g')
    (hch : ∀ b∈ch,(b∈X.ex∨X.s₀.heap.objs.size≤b)∧b≠X.env.locals∧(∀ x c,X.env.cells.lookup x = some c→c≠b)∧∀ p∈X.pn ++ pins,p.1≠b) :
    Inv X pins σ H' { s with heap:=h',gens:=g',drawn:=d',toks:=t' } := by
  obtain ⟨m,⟨o,es,ep,ho,r⟩,_⟩:=id I.loc
  obtain ⟨sl,hL⟩:=u.any ho I.free fun z => (hch _ z).2.1 rfl
  exact I.step (ch:=ch) hch (fun b o hL hb hc e n => u.keep b o e n (fun z => (List.mem_cons.mp (I.stkSub b z)).elim hL hb) hc) (fun b o _ _ hc e n => u.any e n hc) (fun b o hc e n => u.free b o e n hc) (fun b o hc e => u.there b o e hc) u.tups u.frzs u.tbls (fun b xs o hc q e => u.tupo b xs o q e hc) (fun m' hm => by
    obtain ⟨o',es',ep',ho',r'⟩:=hm
    rw [ho] at ho'; cases ho'
    exact ⟨_,es',ep',hL,r'⟩) hok hg
theorem Inv.turned {t' : Nat} {it : Addr} (I : Inv X pins σ H s) (k : ∀ b o,b≠it→s.heap.get? b = some o→h'.get? b = some o) (hn : H it = none) (hL : it≠X.env.locals)
    (h1 : it∈X.ex∨X.s₀.heap.objs.size≤it) (h2 : ∀ x c,X.env.cells.lookup x = some c→c≠it) (h3 : ∀ p∈X.pn ++ pins,p.1≠it) : Inv X pins σ H { s with heap:=h',toks:=t' } := by
  have nit : ∀ b u,H b = some u→b≠it:=fun b u e z => by rw [z,hn] at e; cases e
  refine I.step (g':=s.gens) (d':=s.drawn) (ch:=[it]) (fun b hb => ?_) (fun b o _ _ hc e _ => k b o (fun z => hc (by simp [z])) e) (fun b o _ _ hc e _ => ⟨o.slots,k b o (fun z => hc (by simp [z])) e⟩) (fun _ _ _ _ n => n)
    (fun b o hc e => ⟨o,k b o (fun z => hc (by simp [z])) e⟩) (fun _ _ e => e) (fun _ _ _ e => e) (fun b ps e => ⟨#[],by rw [e]; simp⟩) (fun b xs o hc _ e => k b o (fun z => hc (by simp [z])) e) (fun m hm => ?_) (fun b u e => ?_) I.bare
  · have e : b = it := by simpa using hb
    subst e
    exact ⟨h1,hL,h2,h3⟩
  · obtain ⟨o,es,ep,ho,r⟩:=hm
    exact ⟨o,es,ep,k _ o (Ne.symm hL) ho,r⟩
  · refine (I.hok b u e).stay (fun c v hc q => k c v ?_ q) (fun _ q => q) fun _ _ q => q
    rcases hc with z | z
    · rw [z]; exact nit b u e
    · exact nit c _ z
theorem Inv.tok (I : Inv X pins σ H s) (t : Nat) : Inv X pins σ H { s with toks:=t }:=I.un (h':=s.heap) (t':=t) Un.refl I.hok
theorem Inv.kept {t' : Nat} (I : Inv X pins σ H s) (k : ∀ b u,s.heap.get? b = some u→h'.get? b = some u) : Inv X pins σ H { s with heap:=h',toks:=t' }:=I.un (Un.kept k) (I.hok.kept k)
theorem Inv.laid {a : Addr} {o : HO} {t' : Nat} (I : Inv X pins σ H s) (k : ∀ b u,s.heap.get? b = some u→h'.get? b = some u) (hp : s.heap.objs.size≤a) (new : ObjOk X.prog X.w (upd H a o) h' a o) :
    Inv X pins σ (upd H a o) { s with heap:=h',toks:=t' }:=I.un (Un.laid k hp (I.hok.fresh hp)) (I.hok.laid k hp new)
theorem Inv.write {x e : Addr} {o : HO} {t' : Nat} (I : Inv X pins σ H s) (mu : Mut (H x)) (he : e = x∨H e = some (.own x)) (k : ∀ b u,b≠e→s.heap.get? b = some u→h'.get? b = some u) (heo : ∃ u,h'.get? e = some u)
    (new : ObjOk X.prog X.w (upd H x o) h' x o) : Inv X pins σ (upd H x o) { s with heap:=h',toks:=t' }:=I.un (Un.write mu he k heo) (I.hok.write mu he k heo new)
theorem Inv.pins_of {pins' : List (Addr×Obj)} (I : Inv X pins σ H s) (h : ∀ p∈pins',s.heap.get? p.1 = some p.2∧H p.1 = none∧p.1≠X.env.locals∧p.1 ∉ X.fs∧∀ v,p.2.data≠.cell v) : Inv X pins' σ H s :=
  ⟨I.ok,I.os,I.bare,I.base,I.loc,I.cell,I.free,I.freeC,fun p hp => (List.mem_append.mp hp).elim (fun z => I.pin p (List.mem_append_left _ z)) (h p),I.hok,I.len⟩
theorem nodup_ix {N : List Str} (hN : N.Nodup) {i j : Nat} {x : Str} (a : N[i]? = some x) (b : N[j]? = some x) : i = j := by
  obtain ⟨h1,e1⟩:=List.getElem?_eq_some_iff.mp a
  obtain ⟨h2,e2⟩:=List.getElem?_eq_some_iff.mp b
  exact (List.getElem_inj hN).mp (e1.trans e2.symm)
theorem store_ok2 {M : Model} {A : Around} {E : Value→Shared→Prop} {i : Nat} {x : Str} {v : V} {u : Value} {Q : Unit→Shared→Prop} (I : Inv X pins σ H s) (hN : X.N.Nodup) (hi : X.N[i]? = some x) (hx : Loc X.env.scope x) (r : RelV v u)
    (h : ∀ s',Inv X pins (σ.set i (some v)) H s'→(∃ a,Heap.SameBut a s.heap s'.heap∧(a = X.env.locals∨X.env.cells.lookup x = some a))→Q () s') (hf : X.fn x = true∨X.env.scope.names.lookup x = some .local := by first | exact .inl rfl | exact .inr rfl | assumption) : wpAny M A (storeName X.env x u) Q E s := by
  obtain ⟨m,hn,hl⟩:=id I.loc
  have hcls : (X.env.scope.kind == .class || (X.env.scope.kind == .module && X.env.locals != X.env.globals)) = false := by rw [I.ok.kind]; rfl
  have hiσ : i < σ.length := by rw [I.len]; exact (List.getElem?_eq_some_iff.mp hi).1
  have cne:=I.cne
  have tracked : ∀ {a : Addr} {h' : Heap},(∃ o,s.heap.get? a = some o∧H a = none)→Heap.SameBut a s.heap h'→HOk X.prog X.w H h':=fun {a h'} ha hs b ob e => by
    obtain ⟨_,_,hfree⟩:=ha
    refine (I.hok b ob e).stay (fun c w' hc q => (hs.2 c ?_).trans q) (fun _ q => q) fun _ _ q => q
    rintro rfl
    rcases hc with rfl | hc
    · rw [hfree] at e; cases e
    · rw [hfree] at hc; cases hc
  rcases hx with hk | hk
  · refine wpAny_storeName_local hk hn (fun h' hn' hs => ?_) hcls
    obtain ⟨oL,_,_,hoL,_⟩:=id hn
    refine h _ ⟨I.ok,I.os,I.bare,⟨fun b o e n hb hx => ?_,fun b o e n hb hx => ?_,I.base.free,fun b o e hx => ?_,I.base.tups,I.base.frzs,I.base.tbls,fun b xs o q e hx => (hs.2 b (Nat.ne_of_lt (Nat.lt_of_lt_of_le (Heap.lt_size e) I.ok.above))).trans (I.base.tupo b xs o q e hx)⟩,⟨_,hn',fun j y v' e1 e2 e3 => ?_⟩,fun y c e => ?_,I.free,I.freeC,fun p hp => ?_,tracked ⟨oL,hoL,I.free⟩ hs,by simpa using I.len⟩ ⟨_,hs,.inl rfl⟩
    · exact (hs.2 b (Nat.ne_of_lt (Nat.lt_of_lt_of_le (Heap.lt_size e) I.ok.above))).trans (I.base.keep b o e n hb hx)
    · obtain ⟨sl,e1⟩:=I.base.slot b o e n hb hx
      exact ⟨sl,(hs.2 b (Nat.ne_of_lt (Nat.lt_of_lt_of_le (Heap.lt_size e) I.ok.above))).trans e1⟩
    · obtain ⟨o',e1⟩:=I.base.there b o e hx
      exact ⟨o',(hs.2 b (Nat.ne_of_lt (Nat.lt_of_lt_of_le (Heap.lt_size e) I.ok.above))).trans e1⟩
    · by_cases hj : j = i
      · subst hj
        rw [hi] at e1; cases e1
        rw [List.getElem?_set_self hiσ] at e2
        cases e2
        exact ⟨u,r,.inl ⟨hk,by simp⟩⟩
      · rw [List.getElem?_set_ne (Ne.symm hj)] at e2
        obtain ⟨u',r',q⟩:=hl j y v' e1 e2 e3
        refine ⟨u',r',?_⟩
        rcases q with ⟨k,e⟩ | ⟨k,c,e,z⟩
        · refine .inl ⟨k,?_⟩
          have : y≠x:=fun e => hj (nodup_ix hN e1 (e ▸ hi))
          simp [this,e]
        · exact .inr ⟨k,c,e,z.sameBut hs (cne y c e)⟩
    · obtain ⟨w',z⟩:=I.cell y c e
      exact ⟨w',z.sameBut hs (cne y c e)⟩
    · obtain ⟨e,n,ne,nf,d⟩:=I.pin p hp
      exact ⟨(hs.2 p.1 ne).trans e,n,ne,nf,d⟩
  · have hfn : X.fn x = true := by
      rcases hf with z | z
      · exact z
      · rw [z] at hk; cases hk
    obtain ⟨c,hc⟩:=I.ok.has x (.inl hk)
    obtain ⟨w',z⟩:=I.cell x c hc
    refine wpAny_storeName_cell I.ok.kind hk hc z (fun h' hc' hs => ?_)
    obtain ⟨oc,hoc,hocd⟩:=id z
    refine h { s with heap:=h' } ⟨I.ok,I.os,I.bare,⟨fun b o e n hb hx => ?_,fun b o e n hb hx => ?_,I.base.free,fun b o e hx => ?_,I.base.tups,I.base.frzs,I.base.tbls,fun b xs o q e hx => (hs.2 b (Nat.ne_of_lt (Nat.lt_of_lt_of_le (Heap.lt_size e) (I.ok.cab x c hfn hc)))).trans (I.base.tupo b xs o q e hx)⟩,⟨m,hn.sameBut hs (Ne.symm (cne x c hc)),fun j y v' e1 e2 e3 => ?_⟩,fun y c' e => ?_,I.free,I.freeC,fun p hp => ?_,tracked ⟨oc,hoc,I.freeC x c hc⟩ hs,by simpa using I.len⟩ ⟨c,hs,.inr hc⟩
    · exact (hs.2 b (Nat.ne_of_lt (Nat.lt_of_lt_of_le (Heap.lt_size e) (I.ok.cab x c hfn hc)))).trans (I.base.keep b o e n hb hx)
    · obtain ⟨sl,e1⟩:=I.base.slot b o e n hb hx
      exact ⟨sl,(hs.2 b (Nat.ne_of_lt (Nat.lt_of_lt_of_le (Heap.lt_size e) (I.ok.cab x c hfn hc)))).trans e1⟩
    · obtain ⟨o',e1⟩:=I.base.there b o e hx
      exact ⟨o',(hs.2 b (Nat.ne_of_lt (Nat.lt_of_lt_of_le (Heap.lt_size e) (I.ok.cab x c hfn hc)))).trans e1⟩
    · by_cases hj : j = i
      · subst hj
        rw [hi] at e1; cases e1
        rw [List.getElem?_set_self hiσ] at e2
        cases e2
        exact ⟨u,r,.inr ⟨.inl hk,c,hc,hc'⟩⟩
      · rw [List.getElem?_set_ne (Ne.symm hj)] at e2
        obtain ⟨u',r',q⟩:=hl j y v' e1 e2 e3
        refine ⟨u',r',?_⟩
        rcases q with q | ⟨k,c',e,z'⟩
        · exact .inl q
        · refine .inr ⟨k,c',e,z'.sameBut hs ?_⟩
          rintro rfl
          exact hj (nodup_ix hN e1 (I.ok.inj _ _ _ e hc ▸ hi))
    · by_cases hcc : c' = c
      · subst hcc; exact ⟨_,hc'⟩
      · obtain ⟨w2,z2⟩:=I.cell y c' e
        exact ⟨w2,z2.sameBut hs hcc⟩
    · obtain ⟨e,n,ne,nf,d⟩:=I.pin p hp
      refine ⟨(hs.2 p.1 ?_).trans e,n,ne,nf,d⟩
      intro q
      rw [q,hoc] at e
      have q' : oc = p.2:=Option.some.inj e
      exact d w' (by rw [← q']; exact hocd)
theorem store_ok {M : Model} {A : Around} {E : Value→Shared→Prop} {i : Nat} {x : Str} {v : V} {u : Value} {Q : Unit→Shared→Prop} (I : Inv X pins σ H s) (hN : X.N.Nodup) (hi : X.N[i]? = some x) (hx : Loc X.env.scope x) (r : RelV v u)
    (h : ∀ s',Inv X pins (σ.set i (some v)) H s'→Q () s') (hf : X.fn x = true∨X.env.scope.names.lookup x = some .local := by first | exact .inl rfl | exact .inr rfl | assumption) : wpAny M A (storeName X.env x u) Q E s :=
  store_ok2 I hN hi hx r (fun s' I' _ => h s' I') hf
theorem Inv.call' {s' : Shared} {ch : List Addr} (I : Inv X pins σ H s) (ho : s'.os = s.os) (u : Un (frs X.stack) ch H H' s.heap s'.heap) (hok : HOk X.prog X.w H' s'.heap) (hg : AllBare s'.gens)
    (hch : ∀ b∈ch,(b∈X.ex∨X.s₀.heap.objs.size≤b)∧b≠X.env.locals∧(∀ x c,X.env.cells.lookup x = some c→c≠b)∧∀ p∈X.pn ++ pins,p.1≠b) : Inv X pins σ H' s' := by
  obtain ⟨h',g',d',t',o'⟩:=s'
  have e : o' = s.os:=ho
  subst e
  exact I.call (g':=g') (t':=t') (d':=d') u hok hg hch
end
abbrev XK:=Value→Option Addr→Hp→Prop
abbrev St:=List (Option V)
abbrev VK:=V→Hp→Prop
abbrev TE:=St→Hp→VK→Prop
abbrev TT:=St→Hp→(Bool→Hp→Prop)→Prop
abbrev TA:=St→Hp→(List V→Hp→Prop)→Prop
structure Ends where
  nx : St→Hp→Prop
  rt : VK
  bk : St→Hp→Prop:=fun _ _ => False
  ct : St→Hp→Prop:=fun _ _ => False
abbrev TS:=Ends→St→Hp→Prop
def EP (X : Cx) (pins : List (Addr×Obj)) (σ : St) (Q : VK) (u : Value) (s' : Shared) : Prop:=∃ v H',Inv X pins σ H' s'∧RelV v u∧Q v H'
def TP (X : Cx) (pins : List (Addr×Obj)) (σ : St) (Q : Bool→Hp→Prop) (b : Bool) (s' : Shared) : Prop:=∃ H',Inv X pins σ H' s'∧Q b H'
def AP (X : Cx) (pins : List (Addr×Obj)) (σ : St) (Q : List V→Hp→Prop) (us : List Value) (s' : Shared) : Prop:=∃ vs H',Inv X pins σ H' s'∧Vals vs us∧Q vs H'
def SP (X : Cx) (pins : List (Addr×Obj)) (D : Ends) (f : Flow) (s' : Shared) : Prop :=
  match f with
  | .next => ∃ σ' H',Inv X pins σ' H' s'∧D.nx σ' H'
  | .brk => ∃ σ' H',Inv X pins σ' H' s'∧D.bk σ' H'
  | .cont => ∃ σ' H',Inv X pins σ' H' s'∧D.ct σ' H'
  | .ret u => ∃ v σ' H',Inv X pins σ' H' s'∧RelV v u∧D.rt v H'
def PE (X : Cx) (e : Expr) (t : TE) : Prop :=
  ∀ (pins : List (Addr×Obj)) (s : Shared) (σ : St) (H : Hp) (Q : VK),Inv X pins σ H s→t σ H Q→wpAny (model X.prog X.w) X.A (eval e X.env) (EP X pins σ Q) X.xe s
def PT (X : Cx) (e : Expr) (t : TT) : Prop :=
  ∀ (pins : List (Addr×Obj)) (s : Shared) (σ : St) (H : Hp) (Q : Bool→Hp→Prop),Inv X pins σ H s→t σ H Q→wpAny (model X.prog X.w) X.A (isTrue e X.env (eval e X.env)) (TP X pins σ Q) X.xe s
def PW (X : Cx) (e : Expr) (t : TT) : Prop :=
  ∀ (whole : Sem Value) (pins : List (Addr×Obj)) (s : Shared) (σ : St) (H : Hp) (Q : Bool→Hp→Prop),Inv X pins σ H s→t σ H Q→wpAny (model X.prog X.w) X.A (isTrue e X.env whole) (TP X pins σ Q) X.xe s
theorem PW.pt {X : Cx} {e : Expr} {t : TT} (h : PW X e t) : PT X e t:=h _
def PA (X : Cx) (es : List Expr) (t : TA) : Prop :=
  ∀ (pos : Pos) (pins : List (Addr×Obj)) (s : Shared) (σ : St) (H : Hp) (Q : List V→Hp→Prop),Inv X pins σ H s→t σ H Q→wpAny (model X.prog X.w) X.A (spliced (backTo pos (starEach es X.env))) (AP X pins σ Q) X.xe s
def PS (X : Cx) (st : Stmt) (t : TS) : Prop :=
  ∀ (pins : List (Addr×Obj)) (s : Shared) (σ : St) (H : Hp) (D : Ends),Inv X pins σ H s→t D σ H→wpAny (model X.prog X.w) X.A (exec st X.env) (SP X pins D) X.xe s
def PSs (X : Cx) (st : List Stmt) (t : TS) : Prop :=
  ∀ (pins : List (Addr×Obj)) (s : Shared) (σ : St) (H : Hp) (D : Ends),Inv X pins σ H s→t D σ H→wpAny (model X.prog X.w) X.A (execs st X.env) (SP X pins D) X.xe s
theorem thn {α : Type} {t : Sem α} {Q Q' : α→Shared→Prop} {M : Model} {A : Around} {E : Value→Shared→Prop} {s : Shared} (h : wpAny M A t Q E s) (hQ : ∀ a s,Q a s→Q' a s) : wpAny M A t Q' E s:=wpAny_mono h hQ fun _ _ x => x
section
variable {X : Cx}
def tVar (i : Nat) : TE:=fun σ H Q => ∃ v,σ[i]? = some (some v)∧Q v H
def tC (v : V) : TE:=fun _ H Q => Q v H
theorem pe_var {i : Nat} {x : Str} {pos : Pos} (hN : X.N[i]? = some x) (hv : Vis X.env.scope x) (hd : (x == ("__debug__" : Str)) = false := by decide) (hcd : (x == ("__classdict__" : Str)) = false := by decide) : PE X (.Name x pos) (tVar i) := by
  intro pins s σ H Q I h
  obtain ⟨v,e,h⟩:=h
  obtain ⟨m,hn,hl⟩:=I.loc
  obtain ⟨u,r,l⟩:=hl i x v hN e hv
  have fin : EP X pins σ Q u s:=⟨v,H,I,r,h⟩
  rcases l with ⟨hk,hm⟩ | ⟨hk,c,hc,hcell⟩
  · exact wpAny_Name (wpAny_loadName_local I.ok.kind hk hn hm fin) hd
  · rcases hk with hk | hk
    · exact wpAny_Name (wpAny_loadName_cell I.ok.kind hk hc hcell fin) hd
    · exact wpAny_Name (wpAny_loadName_free I.ok.kind hk hc hcell fin hcd) hd
theorem pe_int {i j pos} : PE X (.Constant (.int i) j pos) (tC (.int i)):=fun _ _ _ H _ I h => wpAny_Constant_int ⟨.int i,H,I.tok _,⟨_,rfl⟩,h⟩
theorem pe_bl {b j pos} : PE X (.Constant (.bool b) j pos) (tC (.bl b)):=fun _ _ _ H _ I h => Constant_bool ⟨.bl b,H,I,rfl,h⟩
theorem pe_non {j pos} : PE X (.Constant .none j pos) (tC .non):=fun _ _ _ H _ I h => Constant_none ⟨.non,H,I,rfl,h⟩
def Gl (X : Cx) (x : Str) : Prop:=X.env.kindOf x = some .globalImplicit
theorem ld_glob {E : Value→Shared→Prop} {pins : List (Addr×Obj)} {s : Shared} {σ : St} {H : Hp} {x : Str} {u : Value} {pos : Pos} {Q : Value→Shared→Prop} (I : Inv X pins σ H s) (hg : Gl X x) (hm : X.mg x = some u) (h : Q u s)
    (hd : (x == ("__debug__" : Str)) = false := by decide) : wpAny (model X.prog X.w) X.A (eval (.Name x pos) X.env) Q E s :=
  Calls.Name_function_global I.ok.kind hg (Calls.loadGlobal_global (by rw [I.ok.glob]; exact I.mod.glob.keeps I.bk) hm h) hd
theorem ld_blt {E : Value→Shared→Prop} {pins : List (Addr×Obj)} {s : Shared} {σ : St} {H : Hp} {x : Str} {u : Value} {pos : Pos} {Q : Value→Shared→Prop} (I : Inv X pins σ H s) (hg : Gl X x) (hm : X.mg x = none) (hv : bootBuiltins x = some u) (h : Q u s)
    (hn : x ≠ "__name__" := by decide) (hd : (x == ("__debug__" : Str)) = false := by decide) : wpAny (model X.prog X.w) X.A (eval (.Name x pos) X.env) Q E s := by
  obtain ⟨mb,h1,h2⟩:=I.mod.blt
  exact Calls.Name_function_global I.ok.kind hg (Calls.loadGlobal_builtin (by rw [I.ok.glob]; exact I.mod.glob.keeps I.bk) hm (by rw [I.ok.blt]; exact h1.keeps I.bk) ((h2 x hn).trans hv) h) hd
theorem pe_glob {x : Str} {v : V} {u : Value} {pos : Pos} (hg : Gl X x) (hm : X.mg x = some u) (r : RelV v u) (hd : (x == ("__debug__" : Str)) = false := by decide) : PE X (.Name x pos) (tC v) :=
  fun _ _ _ H _ I h => ld_glob I hg hm ⟨v,H,I,r,h⟩ hd
theorem pe_bltn {x : Str} {v : V} {u : Value} {pos : Pos} (hg : Gl X x) (hm : X.mg x = none) (hv : bootBuiltins x = some u) (r : RelV v u) (hn : x ≠ "__name__" := by decide) (hd : (x == ("__debug__" : Str)) = false := by decide) : PE X (.Name x pos) (tC v) :=
  fun _ _ _ H _ I h => ld_blt I hg hm hv ⟨v,H,I,r,h⟩ hn hd
variable {a b : Expr} {ta tb : TE} {pos : Pos}
def PC (X : Cx) (op : CmpOp) (a b : Expr) (t : TE) : Prop :=
  ∀ (pins : List (Addr×Obj)) (s : Shared) (σ : St) (H : Hp) (Q : VK),Inv X pins σ H s→t σ H Q →
    wpAny (model X.prog X.w) X.A (eval a X.env) (fun v s₁ => wpAny (model X.prog X.w) X.A (eval b X.env) (fun u s₂ => wpAny (model X.prog X.w) X.A (compareOp op v u) (EP X pins σ Q) X.xe s₂) X.xe s₁) X.xe s
def tB (t : TE) : TT:=fun σ H Q => t σ H fun x H1 => ∃ c,x = .bl c∧Q c H1
theorem pt_cmp {op : CmpOp} {t : TE} (h : PC X op a b t) (h1 : behindInMarks op b = false := by first | exact nobehind _ (by decide) (by decide) | rfl) : PT X (.Compare a [op] [b] pos) (tB t) := by
  intro pins s σ H Q I hw
  refine wpAny_isTrue_Compare1 (thn (h pins s σ H _ I hw) fun v s1 h1 => thn h1 fun u s2 h2 => thn h2 fun c s3 ⟨x,H1,I1,r1,q1⟩ => ?_) h1
  obtain ⟨d,rfl,q⟩:=q1
  cases r1
  exact wpAny_truthy_bool ⟨H1,I1,q⟩
theorem pt_val {e : Expr} {t : TE} (h : PE X e t) (he : ∀ whole,isTrue e X.env whole = (do let v ← whole; standAt e.pos; holding [v] (truthy v)) := by intro _; rfl) : PT X e (tB t) := by
  intro pins s σ H Q I hw
  refine isTrue_plain (thn (h pins s σ H _ I hw) fun v s1 ⟨x,H1,I1,r1,q1⟩ => ?_) (he _)
  obtain ⟨d,rfl,q⟩:=q1
  cases r1
  exact wpAny_truthy_bool ⟨H1,I1,q⟩
variable {tA tB' : TT} {rest : List Expr}
def tAnd (t u : TT) : TT:=fun σ H Q => t σ H fun c H1 => if c = true then u σ H1 Q else Q false H1
def tOr (t u : TT) : TT:=fun σ H Q => t σ H fun c H1 => if c = true then Q true H1 else u σ H1 Q
def tNot (t : TT) : TT:=fun σ H Q => t σ H fun c H1 => Q (!c) H1
theorem pw_and1 (ha : PT X a tA) : PW X (.BoolOp .And [a] pos) tA := by
  intro wh pins s σ H Q I h
  refine isTrue_and (thn (ha pins s σ H Q I h) fun c s1 e => ?_)
  cases c with
  | true => exact isTrue_and_nil e
  | false => exact e
theorem pw_or1 (ha : PT X a tA) : PW X (.BoolOp .Or [a] pos) tA := by
  intro wh pins s σ H Q I h
  refine isTrue_or (thn (ha pins s σ H Q I h) fun c s1 e => ?_)
  cases c with
  | false => exact isTrue_or_nil e
  | true => exact e
theorem pw_and (ha : PT X a tA) (hb : PW X (.BoolOp .And (b :: rest) pos) tB') : PW X (.BoolOp .And (a :: b :: rest) pos) (tAnd tA tB') := by
  intro wh pins s σ H Q I h
  refine isTrue_and (thn (ha pins s σ H _ I h) fun c s1 ⟨H1,I1,q1⟩ => ?_)
  cases c with
  | true => exact hb wh pins s1 σ H1 Q I1 q1
  | false => exact ⟨H1,I1,q1⟩
theorem pw_or (ha : PT X a tA) (hb : PW X (.BoolOp .Or (b :: rest) pos) tB') : PW X (.BoolOp .Or (a :: b :: rest) pos) (tOr tA tB') := by
  intro wh pins s σ H Q I h
  refine isTrue_or (thn (ha pins s σ H _ I h) fun c s1 ⟨H1,I1,q1⟩ => ?_)
  cases c with
  | true => exact ⟨H1,I1,q1⟩
  | false => exact hb wh pins s1 σ H1 Q I1 q1
theorem pt_not (ha : PT X a tA) : PT X (.UnaryOp .Not a pos) (tNot tA) := by
  intro pins s σ H Q I h
  exact isTrue_not (ha pins s σ H (fun c H1 => Q (!c) H1) I h)
def tAndV (ta tb : TE) : TE:=fun σ H Q => ta σ H fun x H1 => ∃ c,x = .bl c∧if c = true then tb σ H1 Q else Q (.bl false) H1
def tNotV (ta : TE) : TE:=fun σ H Q => ta σ H fun x H1 => ∃ c,x = .bl c∧Q (.bl (!c)) H1
theorem pe_one {op} {t : TE} (h : PE X a t) : PE X (.BoolOp op [a] pos) t:=fun pins s σ H Q I hw => BoolOp_one (h pins s σ H Q I hw)
theorem pe_and (ha : PE X a ta) (hb : PE X (.BoolOp .And (b :: rest) pos) tb) : PE X (.BoolOp .And (a :: b :: rest) pos) (tAndV ta tb) := by
  intro pins s σ H Q I h
  refine BoolOp_and (thn (ha pins s σ H _ I h) fun v s1 ⟨x,H1,I1,r1,q1⟩ => ?_)
  obtain ⟨c,rfl,q1⟩:=q1
  cases r1
  refine wpAny_truthy_bool ?_
  cases c with
  | true => exact hb pins s1 σ H1 Q I1 q1
  | false => exact ⟨.bl false,H1,I1,rfl,q1⟩
theorem pe_not (ha : PE X a ta) : PE X (.UnaryOp .Not a pos) (tNotV ta) := by
  intro pins s σ H Q I h
  refine UnaryOp_ (thn (ha pins s σ H _ I h) fun v s1 ⟨x,H1,I1,r1,q1⟩ => ?_)
  obtain ⟨c,rfl,q1⟩:=q1
  cases r1
  exact not_of (wpAny_truthy_bool ⟨.bl (!c),H1,I1,rfl,q1⟩)
def tIf (t : TT) (ta tb : TE) : TE:=fun σ H Q => t σ H fun c H1 => if c = true then ta σ H1 Q else tb σ H1 Q
theorem pe_ifExp {c : Expr} (hc : PT X c tA) (ha : PE X a ta) (hb : PE X b tb) : PE X (.IfExp c a b pos) (tIf tA ta tb) := by
  intro pins s σ H Q I h
  refine wpAny_IfExp (thn (hc pins s σ H _ I h) fun d s1 ⟨H1,I1,q1⟩ => ?_)
  cases d with
  | true => exact ha pins s1 σ H1 Q I1 q1
  | false => exact hb pins s1 σ H1 Q I1 q1
end
def SqL (K : PySem.W.Frag) (H : Hp) (a : Addr) (xs : List V) : Prop :=
  Rd H a (.lst xs) ∨
    ∃ (o : Obj) (its : Array Value) (n : Nat),K.lookup a = some o∧o.cls = .type "list" ∧ o.dict = none∧o.data = .seq its n∧its.size≤sizeLine∧Vals xs its.toList
def SqT (K : PySem.W.Frag) (H : Hp) (a : Addr) (xs : List V) : Prop :=
  Rd H a (.tup xs) ∨
    ∃ (o : Obj) (its : Array Value) (n : Nat),K.lookup a = some o∧o.cls = .type "tuple" ∧ o.data = .seq its n∧its.size≤sizeLine∧Vals xs its.toList
def absV : Value→Option V
  | .none => some .non
  | .bool b => some (.bl b)
  | .int i _ => some (.int i)
  | .str x _ => some (.str x)
  | .bytes b _ => some (.byt b)
  | .float b _ => some (.flt b)
  | .ref a => some (.ref a)
  | .type n => some (.ty n)
  | _ => none
theorem RelV.abs {x : V} {u : Value} (r : RelV x u) : absV u = some x := by
  cases x with
  | non => cases r; rfl
  | bl _ => cases r; rfl
  | int _ => obtain ⟨t,rfl⟩:=r; rfl
  | str _ => obtain ⟨t,rfl⟩:=r; rfl
  | byt _ => obtain ⟨t,rfl⟩:=r; rfl
  | flt _ => obtain ⟨t,rfl⟩:=r; rfl
  | ref _ => cases r; rfl
  | ty _ => cases r; rfl
theorem RelV.inj {x y : V} {u : Value} (r : RelV x u) (q : RelV y u) : x = y:=Option.some.inj (r.abs.symm.trans q.abs)
theorem Vals.inj : ∀ {xs ys : List V} {us : List Value},Vals xs us→Vals ys us→xs = ys
  | _,_,_,.nil,.nil => rfl
  | _,_,_,.cons r t,.cons r' t' => by rw [r.inj r',Vals.inj t t']
section
variable {X : Cx} {pins : List (Addr×Obj)} {σ : St} {H : Hp} {s : Shared} {a : Addr} {xs ys : List V}
theorem SqL.of {K : PySem.W.Frag} (h : H a = some (.lst xs)) : SqL K H a xs:=.inl (.inl h)
theorem SqT.of {K : PySem.W.Frag} (h : H a = some (.tup xs)) : SqT K H a xs:=.inl (.inl h)
theorem Inv.list (I : Inv X pins σ H s) (h : SqL X.K H a xs) : ∃ its : List Value,Vals xs its∧PlainL s.heap a its.toArray∧xs.length≤sizeLine := by
  rcases h with h | ⟨o,its,n,hk,hc,hd,hs,hz,r⟩
  · obtain ⟨z,its,n,r,e⟩:=h.ok I.hok
    exact ⟨its,r,⟨_,n,e,rfl,rfl,rfl⟩,z⟩
  · refine ⟨its.toList,r,⟨o,n,I.kIn a o hk,hc,hd,by simpa using hs⟩,?_⟩
    have e:=r.length
    simp only [Array.length_toList] at e
    lia
theorem Inv.tuple (I : Inv X pins σ H s) (h : SqT X.K H a xs) : ∃ its : List Value,Vals xs its∧IsTup s.heap a its.toArray∧xs.length≤sizeLine := by
  rcases h with h | ⟨o,its,n,hk,hc,hs,hz,r⟩
  · obtain ⟨z,its,r,p⟩:=h.ok I.hok
    exact ⟨its,r,p,z⟩
  · refine ⟨its.toList,r,⟨o,I.kIn a o hk,hc,n,by simpa using hs⟩,?_⟩
    have e:=r.length
    simp only [Array.length_toList] at e
    lia
theorem Inv.list_inj (I : Inv X pins σ H s) (h : SqL X.K H a xs) (h' : SqL X.K H a ys) : xs = ys := by
  obtain ⟨its,r,⟨o,n,e,_,_,d⟩,_⟩:=I.list h
  obtain ⟨its',r',⟨o',n',e',_,_,d'⟩,_⟩:=I.list h'
  rw [e] at e'; cases e'
  rw [d] at d'
  injection d' with d1 _
  have : its = its' := by simpa using congrArg Array.toList d1
  subst this
  exact r.inj r'
theorem Inv.tuple_inj (I : Inv X pins σ H s) (h : SqT X.K H a xs) (h' : SqT X.K H a ys) : xs = ys := by
  obtain ⟨its,r,⟨o,e,_,n,d⟩,_⟩:=I.tuple h
  obtain ⟨its',r',⟨o',e',_,n',d'⟩,_⟩:=I.tuple h'
  rw [e] at e'; cases e'
  rw [d] at d'
  injection d' with d1 _
  have : its = its' := by simpa using congrArg Array.toList d1
  subst this
  exact r.inj r'
end
abbrev Cx.wish (X : Cx) (E : Value→Shared→Prop) : Cx:={ X with xe:=E }
abbrev Cx.nox (X : Cx) : Cx:=X.wish fun _ _ => False
theorem Cx.Ok.wish {X : Cx} (ok : X.Ok) (E : Value→Shared→Prop) : (X.wish E).Ok :=
  ⟨ok.mod,ok.kind,ok.glob,ok.blt,ok.above,ok.inj,ok.has,ok.cab,ok.hd,ok.frames,ok.stk,ok.exf,ok.bs,ok.bsz,ok.noex,ok.exfs,ok.funs,ok.frf,ok.kt⟩
theorem Cx.Ok.unwish {X : Cx} {E : Value→Shared→Prop} (ok : (X.wish E).Ok) : X.Ok :=
  ⟨ok.mod,ok.kind,ok.glob,ok.blt,ok.above,ok.inj,ok.has,ok.cab,ok.hd,ok.frames,ok.stk,ok.exf,ok.bs,ok.bsz,ok.noex,ok.exfs,ok.funs,ok.frf,ok.kt⟩
section
variable {X : Cx} {pins : List (Addr×Obj)} {σ : St} {H : Hp} {s : Shared} {E : Value→Shared→Prop}
theorem Inv.wish (I : Inv X pins σ H s) (E : Value→Shared→Prop) : Inv (X.wish E) pins σ H s:=⟨I.ok.wish E,I.os,I.bare,I.base,I.loc,I.cell,I.free,I.freeC,I.pin,I.hok,I.len⟩
theorem Inv.unwish (I : Inv (X.wish E) pins σ H s) : Inv X pins σ H s:=⟨I.ok.unwish,I.os,I.bare,I.base,I.loc,I.cell,I.free,I.freeC,I.pin,I.hok,I.len⟩
theorem SP.unwish {D : Ends} {f : Flow} {s' : Shared} (h : SP (X.wish E) pins D f s') : SP X pins D f s' := by
  cases f with
  | next => obtain ⟨σ',H',I,q⟩:=h; exact ⟨σ',H',I.unwish,q⟩
  | brk => obtain ⟨σ',H',I,q⟩:=h; exact ⟨σ',H',I.unwish,q⟩
  | cont => obtain ⟨σ',H',I,q⟩:=h; exact ⟨σ',H',I.unwish,q⟩
  | ret u => obtain ⟨v,σ',H',I,r,q⟩:=h; exact ⟨v,σ',H',I.unwish,r,q⟩
theorem PSs.nox {st : List Stmt} {t : TS} (h : PSs X.nox st t) : PSs X st t:=fun pins s σ H D I hw =>
  wpAny_mono (h pins s σ H D (I.wish _) hw) (fun _ _ q => q.unwish) fun _ _ z => False.elim z
end
section
variable {X : Cx} {st : Stmt} {rest : List Stmt} {t u : TS} {e : Expr} {te : TE} {pos : Pos}
def tNext : TS:=fun D σ H => D.nx σ H
def tSeq (t u : TS) : TS:=fun D σ H => t { D with nx:=u D } σ H
theorem pss_nil : PSs X [] tNext:=fun _ _ σ H _ I h => wpAny_execs_nil ⟨σ,H,I,h⟩
theorem pss_cons (h1 : PS X st t) (h2 : PSs X rest u) : PSs X (st :: rest) (tSeq t u) := by
  intro pins s σ H D I h
  refine wpAny_execs_cons (thn (h1 pins s σ H { D with nx:=u D } I h) fun f s1 q => ?_)
  cases f with
  | next =>
    obtain ⟨σ',H',I',q⟩:=q
    exact h2 pins s1 σ' H' D I' q
  | ret v => exact q
  | brk => exact q
  | cont => exact q
theorem pss_one (h1 : PS X st t) : PSs X [st] t := by
  intro pins s σ H D I h
  refine wpAny_execs_cons (thn (h1 pins s σ H D I h) fun f s1 q => ?_)
  cases f with
  | next => exact wpAny_execs_nil q
  | ret v => exact q
  | brk => exact q
  | cont => exact q
theorem Inv.quiet {pins : List (Addr×Obj)} {σ : St} {H : Hp} {s : Shared} (I : Inv X pins σ H s) : interactive X.env = false := by simp [interactive,I.ok.kind]
def tDrop (te : TE) : TS:=fun D σ H => te σ H fun _ H1 => D.nx σ H1
theorem ps_expr (he : PE X e te) (hs : swapsWith e none pos.line X.env = pure false := by rfl) : PS X (.Expr e pos) (tDrop te) := by
  intro pins s σ H D I h
  exact wpAny_Expr_any (thn (he pins s σ H _ I h) fun v s1 ⟨x,H1,I1,r1,q1⟩ => ⟨σ,H1,I1,q1⟩) I.quiet hs
def tRet (te : TE) : TS:=fun D σ H => te σ H D.rt
theorem ps_ret (he : PE X e te) : PS X (.Return (some e) pos) (tRet te) := by
  intro pins s σ H D I h
  exact wpAny_Return_some (thn (he pins s σ H _ I h) fun v s1 ⟨x,H1,I1,r1,q1⟩ => ⟨x,σ,H1,I1,r1,q1⟩)
def tIfS (c : TT) (t u : TS) : TS:=fun D σ H => c σ H fun b H1 => if b = true then t D σ H1 else u D σ H1
theorem ps_if {c : Expr} {a b : List Stmt} {tc : TT} (hc : PT X c tc) (ha : PSs X a t) (hb : PSs X b u) : PS X (.If c a b pos) (tIfS tc t u) := by
  intro pins s σ H D I h
  refine wpAny_If (thn (hc pins s σ H _ I h) fun d s1 ⟨H1,I1,q1⟩ => ?_)
  cases d with
  | true => exact ha pins s1 σ H1 D I1 q1
  | false => exact hb pins s1 σ H1 D I1 q1
def tNever : TS:=fun _ _ _ => False
theorem ps_never : PS X st tNever:=fun _ _ _ _ _ _ h => h.elim
end
abbrev TG:=V→St→Hp→(St→Hp→Prop)→Prop
abbrev TGs:=List V→St→Hp→(St→Hp→Prop)→Prop
def PG (X : Cx) (target : Expr) (t : TG) : Prop :=
  ∀ (pins : List (Addr×Obj)) (s : Shared) (σ : St) (H : Hp) (v : V) (u : Value) (Q : St→Hp→Prop),Inv X pins σ H s→RelV v u→t v σ H Q →
    wpAny (model X.prog X.w) X.A (assign target X.env u) (fun _ s' => ∃ σ' H',Inv X pins σ' H' s'∧Q σ' H') X.xe s
def PGs (X : Cx) (ts : List Expr) (t : TGs) : Prop :=
  ∀ (pins : List (Addr×Obj)) (s : Shared) (σ : St) (H : Hp) (vs : List V) (us : List Value) (Q : St→Hp→Prop),Inv X pins σ H s→Vals vs us→t vs σ H Q →
    wpAny (model X.prog X.w) X.A (assignInOrder ((assignEach ts X.env).map (·.2)) us) (fun _ s' => ∃ σ' H',Inv X pins σ' H' s'∧Q σ' H') X.xe s
abbrev TSet:=V→V→V→Hp→(Hp→Prop)→Prop
def PSet (X : Cx) (t : TSet) : Prop :=
  ∀ (pins : List (Addr×Obj)) (s : Shared) (σ : St) (H : Hp) (o i v : V) (ov iv u : Value) (Q : Hp→Prop),Inv X pins σ H s→RelV o ov→RelV i iv→RelV v u→t o i v H Q →
    wpAny (model X.prog X.w) X.A (setItem ov iv u) (fun _ s' => ∃ H',Inv X pins σ H' s'∧Q H') X.xe s
section
variable {X : Cx} {pos : Pos}
def gName (i : Nat) : TG:=fun v σ H Q => Q (σ.set i (some v)) H
theorem pg_name {i : Nat} {x : Str} (hN : X.N.Nodup) (hi : X.N[i]? = some x) (hx : Loc X.env.scope x) (hf : X.fn x = true∨X.env.scope.names.lookup x = some .local := by first | exact .inl rfl | exact .inr rfl | assumption) : PG X (.Name x pos) (gName i) := by
  intro pins s σ H v u Q I r h
  exact wpAny_assign_Name (store_ok I hN hi hx r (fun s' I' => ⟨_,H,I',h⟩) hf)
def gNil : TGs:=fun vs σ H Q => vs = []∧Q σ H
def gCons (t : TG) (u : TGs) : TGs:=fun vs σ H Q => ∃ v r,vs = v :: r∧t v σ H fun σ' H' => u r σ' H' Q
theorem pgs_nil : PGs X [] gNil := by
  intro pins s σ H vs us Q I r h
  obtain ⟨e,h⟩:=h
  subst e
  cases r
  exact assignInOrder_nil ⟨σ,H,I,h⟩
theorem pgs_cons {e : Expr} {es : List Expr} {t : TG} {u : TGs} (h1 : PG X e t) (h2 : PGs X es u)
    (hs : (assignEach (e :: es) X.env).map (·.2) = assign e X.env :: (assignEach es X.env).map (·.2) := by rfl) : PGs X (e :: es) (gCons t u) := by
  intro pins s σ H vs us Q I r h
  obtain ⟨v,vr,e1,h⟩:=h
  subst e1
  cases r with
  | cons r rr =>
    rw [hs]
    refine assignInOrder_cons (thn (h1 pins s σ H _ _ _ I r h) fun _ s1 ⟨σ1,H1,I1,q1⟩ => ?_)
    exact h2 pins s1 σ1 H1 _ _ Q I1 rr q1
def gTup (K : PySem.W.Frag) (n : Nat) (t : TGs) : TG:=fun v σ H Q => ∃ a xs,v = .ref a∧SqT K H a xs∧xs.length = n∧t xs σ H Q
theorem pg_tup {es : List Expr} {k : Nat} {t : TGs} {n : Nat} (hc : X.calm = true) (h : PGs X es t)
    (hn : (assignEach es X.env).length = n := by rfl) (hst : (assignEach es X.env).findIdx? (·.1) = none := by rfl) : PG X (.Tuple es k pos) (gTup X.K n t) := by
  intro pins s σ H v u Q I r hw
  obtain ⟨a,xs,e1,hq,hl,hw⟩:=hw
  subst e1
  cases r
  obtain ⟨its,rv,ht,hz⟩:=I.tuple hq
  refine assign_Tuple_tuple (I.ok.hd hc) ht (by simp [hn,← hl,rv.length]) hst fun h' hx => ?_
  have I1 : Inv X pins σ H { s with heap:=h' }:=I.kept (t':=s.toks) fun b o e => hx b o (Nat.ne_of_lt (Heap.lt_size e)) e
  exact h pins _ σ H xs _ Q I1 (by simpa using rv) hw
def gSub (to ti : TE) (t : TSet) : TG:=fun v σ H Q => to σ H fun o H1 => ti σ H1 fun i H2 => t o i v H2 fun H3 => Q σ H3
theorem pg_sub {o i : Expr} {to ti : TE} {t : TSet} (ho : PE X o to) (hi : PE X i ti) (hs : PSet X t)
    (ha : ∀ v,assign (.Subscript o i pos) X.env v = (do
      let ov ← holding [v] (eval o X.env)
      let iv ← holding [v,ov] (eval i X.env)
      standAt pos
      holding [v,ov,iv] (setItem ov iv v)
      release [v,ov,iv] []) := by intro _; rfl) : PG X (.Subscript o i pos) (gSub to ti t) := by
  intro pins s σ H v u Q I r h
  rw [ha]
  refine wpAny_bind (wpAny_holding (thn (ho pins s σ H _ I h) fun ov s1 ⟨x,H1,I1,r1,q1⟩ => ?_))
  refine wpAny_bind (wpAny_holding (thn (hi pins s1 σ H1 _ I1 q1) fun iv s2 ⟨y,H2,I2,r2,q2⟩ => ?_))
  refine wpAny_bind (wpAny_standAt (wpAny_bind (wpAny_holding (thn (hs pins s2 σ H2 x y v ov iv u _ I2 r1 r2 r q2) fun _ s3 ⟨H3,I3,q3⟩ => ?_))))
  exact wpAny_release ⟨σ,H3,I3,q3⟩
def tAsg (te : TE) (g : TG) : TS:=fun D σ H => te σ H fun x H1 => g x σ H1 D.nx
theorem ps_asg {tg e : Expr} {te : TE} {g : TG} (he : PE X e te) (hg : PG X tg g) (hs : swapsWithSole [tg] e pos.line X.env = pure false := by rfl) (hw : swappedStores [tg] e X.env = pure none := by rfl)
    (h1 : (assignEach [tg] X.env).map (·.2) = [assign tg X.env] := by rfl) : PS X (.Assign [tg] e pos) (tAsg te g) := by
  intro pins s σ H D I h
  refine wpAny_Assign_stores (thn (he pins s σ H _ I h) fun v s1 ⟨x,H1,I1,r1,q1⟩ => ?_) hs hw
  rw [h1]
  exact thn (hg pins s1 σ H1 x v _ I1 r1 q1) fun _ s2 q => q
theorem ps_set {i : Nat} {x : Str} {e : Expr} {te : TE} {pos' : Pos} (hN : X.N.Nodup) (hi : X.N[i]? = some x) (hx : Loc X.env.scope x) (he : PE X e te) (hs : swapsWith e (some (.Name x pos')) pos.line X.env = pure false := by rfl) (hf : X.fn x = true∨X.env.scope.names.lookup x = some .local := by first | exact .inl rfl | exact .inr rfl | assumption) :
    PS X (.Assign [.Name x pos'] e pos) (tAsg te (gName i)) := by
  intro pins s σ H D I h
  refine wpAny_Assign_Name (thn (he pins s σ H _ I h) fun v s1 ⟨y,H1,I1,r1,q1⟩ => ?_) hs
  exact store_ok I1 hN hi hx r1 (fun s2 I2 => ⟨_,H1,I2,q1⟩) hf
def tPar (i j : Nat) (ta : TA) : TS:=fun D σ H => ta σ H fun vs H1 => ∃ v w,vs = [v,w]∧D.nx ((σ.set i (some v)).set j (some w)) H1
theorem ps_par {i j : Nat} {x y : Str} {a b : Expr} {ta : TA} {px py pt : Pos} {kt k2 pt2} (hc : X.calm = true) (hN : X.N.Nodup) (hi : X.N[i]? = some x) (hj : X.N[j]? = some y) (hij : i≠j)
    (hx : X.env.scope.names.lookup x = some .local) (hy : X.env.scope.names.lookup y = some .local) (ha : PA X [a,b] ta)
    (hw : swappedStores [.Tuple [.Name x px,.Name y py] kt pt] (.Tuple [a,b] k2 pt2) X.env = pure (some [x,y]))
    (hs : swapsWithSole [.Tuple [.Name x px,.Name y py] kt pt] (.Tuple [a,b] k2 pt2) pos.line X.env = pure false := by rfl) :
    PS X (.Assign [.Tuple [.Name x px,.Name y py] kt pt] (.Tuple [a,b] k2 pt2) pos) (tPar i j ta) := by
  intro pins s σ H D I h
  rw [exec_Assign_arm]
  refine wpAny_bind (wpAny_standAt ?_)
  rw [hs]
  refine wpAny_bind (wpAny_pure ?_)
  rw [if_neg (by decide)]
  refine wpAny_bind (Tuple_ (thn (ha _ pins s σ H _ I h) fun us s1 ⟨vs,H1,I1,r1,q1⟩ => ?_))
  obtain ⟨v,w,e1,q1⟩:=q1
  subst e1
  obtain ⟨u1,u2,rfl,rv,rw'⟩ : ∃ u1 u2,us = [u1,u2]∧RelV v u1∧RelV w u2 := by
    cases r1 with
    | cons p q =>
      cases q with
      | cons p' q' =>
        cases q'
        exact ⟨_,_,rfl,p,p'⟩
  refine wpAny_newObj_type ?_ (by show 2≤sizeLine; decide)
  have I2 : Inv X pins σ H1 { s1 with heap:=s1.heap.push { cls:=.type "tuple",data:=.seq [u1,u2].toArray } }:=I1.kept (t':=s1.toks) fun b o e => Heap.get?_push_of_some _ e
  rw [hw]
  refine wpAny_bind (wpAny_pure ?_)
  show wpAny (model X.prog X.w) X.A (do rule "assign.swapped-stores"; let items ← unpackItems (.ref s1.heap.objs.size) 2 none; assignInOrder [fun v => bindName X.env y v,fun v => bindName X.env x v] items.reverse; pure Flow.next) _ _ _
  refine wpAny_bind (wpAny_rule (wpAny_bind (unpackItems_tuple (items:=#[u1,u2]) (I.ok.hd hc) (IsTup.new s1.heap _) fun h' hx' => ?_)))
  have I3:=I2.kept (h':=h') (t':=s1.toks) fun b o e => hx' b o (Nat.ne_of_lt (Heap.lt_size e)) e
  show wpAny _ _ (assignInOrder [fun v => bindName X.env y v,fun v => bindName X.env x v] [u2,u1] >>= fun _ => pure Flow.next) _ _ _
  refine wpAny_bind (assignInOrder_cons (wpAny_bindName (store_ok I3 hN hj (.inl hy) rw' (fun s2 I4 => ?_) (.inr hy))))
  refine assignInOrder_cons (wpAny_bindName (store_ok I4 hN hi (.inl hx) rv (fun s3 I5 => assignInOrder_nil (wpAny_pure ?_)) (.inr hx)))
  rw [List.set_comm _ _ (Ne.symm hij)] at I5
  exact ⟨_,H1,I5,q1⟩
end
section
variable {X : Cx} {pos : Pos}
def tWhile (c : TT) (tb : TS) : TS:=fun D σ H => ∃ W : Nat→St→Hp→Prop,(∃ m,W m σ H)∧∀ m σ H,W m σ H →
  c σ H fun b H1 => if b = true then ∃ N : St→Hp→Prop,(∀ σ' H',N σ' H'→∃ m',m' < m∧W m' σ' H')∧tb { D with nx:=N,ct:=N,bk:=D.nx } σ H1 else D.nx σ H1
theorem ps_while {c : Expr} {body : List Stmt} {tc : TT} {tb : TS} (hp : PassesOwn (model X.prog X.w) X.A X.env X.xe) (hc : PT X c tc) (hb : PSs X body tb) : PS X (.While c body [] pos) (tWhile tc tb) := by
  intro pins s σ H D I h
  obtain ⟨W,⟨m0,w0⟩,turn⟩:=h
  refine wpAny_While (codeAny_whileLoop (fun n s' => ∃ σ' H',Inv X pins σ' H' s'∧W n σ' H') ?_ m0 ⟨σ,H,I,w0⟩)
  rintro n s1 ⟨σ1,H1,I1,w1⟩
  refine wpAny_passesOwn hp (thn (hc pins s1 σ1 H1 _ I1 (turn n σ1 H1 w1)) fun b s2 ⟨H2,I2,q2⟩ => ?_)
  cases b with
  | true =>
    obtain ⟨N,hN,q2⟩:=q2
    rw [if_pos rfl]
    refine wpAny_passesOwn hp (thn (hb pins s2 σ1 H2 _ I2 q2) fun f s3 q3 => ?_)
    cases f with
    | next =>
      obtain ⟨σ3,H3,I3,n3⟩:=q3
      obtain ⟨m',hm,w3⟩:=hN σ3 H3 n3
      exact ⟨m',hm,σ3,H3,I3,w3⟩
    | cont =>
      obtain ⟨σ3,H3,I3,n3⟩:=q3
      obtain ⟨m',hm,w3⟩:=hN σ3 H3 n3
      exact ⟨m',hm,σ3,H3,I3,w3⟩
    | brk => exact q3
    | ret v => exact q3
  | false =>
    rw [if_neg Bool.false_ne_true]
    exact wpAny_execs_nil ⟨σ1,H2,I2,q2⟩
end
structure It where
  go : Nat→Hp→Prop
  yld : Nat→Hp→V→Hp→Prop
  stop : Nat→Hp→Prop
def FpOk (X : Cx) (pins : List (Addr×Obj)) (H : Hp) (b : Addr) : Prop :=
  H b = none∧b≠X.env.locals∧b ∉ X.fs∧(b∈X.ex∨X.s₀.heap.objs.size≤b)∧(∀ x c,X.env.cells.lookup x = some c→c≠b)∧∀ p∈X.pn ++ pins,p.1≠b
theorem Inv.fpOk {X : Cx} {pins : List (Addr×Obj)} {σ : St} {H H' : Hp} {s : Shared} {b : Addr} (I : Inv X pins σ H s) (hb : s.heap.objs.size≤b) (hn : H' b = none) : FpOk X pins H' b := by
  refine ⟨hn,Nat.ne_of_gt (Nat.lt_of_lt_of_le I.lt hb),I.nofs hb,.inr (Nat.le_trans I.sz hb),fun x c e z => ?_,fun p hp z => ?_⟩
  · obtain ⟨v,q⟩:=I.cell x c e
    exact absurd (Nat.lt_of_lt_of_le q.lt (by rw [z]; exact hb)) (Nat.lt_irrefl _)
  · exact absurd (Nat.lt_of_lt_of_le (Heap.lt_size (I.pin p hp).1) (by rw [z]; exact hb)) (Nat.lt_irrefl _)
structure Turn (P : Program) (w : World) (K : PySem.W.Frag) (tg : Expr) (J : It) (fp : List Addr) (it : Addr) (tn : Nat→Heap→Prop) : Prop where
  mem : it∈fp
  obj : ∀ i h,tn i h→∀ b∈fp,∃ o,h.get? b = some o∧∀ v,o.data≠.cell v
  keep : ∀ i h h',tn i h→(∀ b∈fp,∀ o,h.get? b = some o→h'.get? b = some o)→tn i h'
  item : ∀ (X : Cx),X.prog = P→X.w = w→X.K = K→X.calm = true→∀ (i : Nat) (pins : List (Addr×Obj)) (s : Shared) (σ : St) (H : Hp) (E : Value→Shared→Prop),Inv X pins σ H s→(∀ b∈fp,FpOk X pins H b)→tn i s.heap→J.go i H →
    wpAny (model P w) X.A (pyNext (.ref it)) (fun r s1 => ∃ u,r = some u ∧
      wpAny (model P w) X.A (letOwnedTupleGo tg (.ref it) u) (fun _ s2 => ∃ x H',Inv X pins σ H' s2∧RelV x u∧J.yld i H x H'∧tn (i + 1) s2.heap∧∀ b∈fp,H' b = none) E s1) E s
  done : ∀ (X : Cx),X.prog = P→X.w = w→X.K = K→X.calm = true→∀ (i : Nat) (pins : List (Addr×Obj)) (s : Shared) (σ : St) (H : Hp) (E : Value→Shared→Prop),Inv X pins σ H s→(∀ b∈fp,FpOk X pins H b)→tn i s.heap→J.stop i H →
    wpAny (model P w) X.A (pyNext (.ref it)) (fun r s1 => r = none∧Inv X pins σ H s1) E s
  self : ∀ (A : Around) (i : Nat) (s : Shared) (Q : Value→Shared→Prop) (E : Value→Shared→Prop),tn i s.heap→Q (.ref it) s→wpAny (model P w) A (pyIter (.ref it)) Q E s
abbrev TI:=St→Hp→(It→Hp→Prop)→Prop
def PIE (X : Cx) (pins : List (Addr×Obj)) (σ : St) (tg : Expr) (R : It→Hp→Prop) (itv : Value) (s2 : Shared) : Prop :=
  ∃ (it : Addr) (fp : List Addr) (tn : Nat→Heap→Prop) (J : It) (H' : Hp),itv = .ref it∧Inv X pins σ H' s2∧Turn X.prog X.w X.K tg J fp it tn∧tn 0 s2.heap∧(∀ b∈fp,FpOk X pins H' b)∧R J H'
def PI (X : Cx) (tg iter : Expr) (wi : TI) : Prop :=
  ∀ (pins : List (Addr×Obj)) (s : Shared) (σ : St) (H : Hp) (R : It→Hp→Prop),Inv X pins σ H s→wi σ H R →
    wpAny (model X.prog X.w) X.A (eval iter X.env) (fun v s1 => wpAny (model X.prog X.w) X.A (pyIter v) (PIE X pins σ tg R) X.xe s1) X.xe s
theorem go_of {M : Model} {A : Around} {E : Value→Shared→Prop} {s : Shared} {tg : Expr} {it : Addr} {u : Value} {o : Obj} {n : String} {vs : Array Value} {Q : Unit→Shared→Prop} (ho : s.heap.get? it = some o) (hc : o.cls = .type n) (hd : o.data = .fields vs)
    (hn : ["enumerate", "zip", "dict_itemiterator", "dict_reverseitemiterator", "odict_iterator", "itertools.zip_longest", "itertools.pairwise"].contains n = false) (hQ : Q () s) : wpAny M A (letOwnedTupleGo tg (.ref it) u) Q E s := by
  unfold letOwnedTupleGo
  cases tg <;> first
    | exact wpAny_pure hQ
    | (cases u <;> first
        | exact wpAny_pure hQ
        | (refine wpAny_bind (wpAny_load ho ?_)
           rw [hc,hd]
           show wpAny M A (if (["enumerate", "zip", "dict_itemiterator", "dict_reverseitemiterator", "odict_iterator", "itertools.zip_longest", "itertools.pairwise"].contains n && vs[0]? == some (rawInt _)) = true then _ else _) Q E s
           rw [if_neg (by intro h; rw [hn,Bool.false_and] at h; cases h)]
           exact wpAny_pure hQ))
def Itl (K : PySem.W.Frag) (a : Addr) : It :=
  ⟨fun i H => ∃ xs x,SqL K H a xs∧xs[i]? = some x,fun i H x H' => H' = H∧∀ xs,SqL K H a xs→xs[i]? = some x,fun i H => ∃ xs,SqL K H a xs∧xs.length≤i⟩
def Itt (K : PySem.W.Frag) (a : Addr) : It :=
  ⟨fun i H => ∃ xs x,SqT K H a xs∧xs[i]? = some x,fun i H x H' => H' = H∧∀ xs,SqT K H a xs→xs[i]? = some x,fun i H => ∃ xs,SqT K H a xs∧xs.length≤i⟩
def Itr (lo : Int) (n : Nat) : It:=⟨fun i _ => i < n,fun i H x H' => H' = H∧x = .int (lo + i),fun i _ => n≤i⟩
theorem turn_list {P : Program} {w : World} {K : PySem.W.Frag} {tg : Expr} (a it : Addr) : Turn P w K tg (Itl K a) [it] it (fun i h => h.IsListIter it a i) where
  mem := by simp
  obj:=fun i h st b hb => by
    have e : b = it := by simpa using hb
    subst e
    obtain ⟨o,e,c,d⟩:=st
    exact ⟨o,e,fun v z => by rw [d] at z; cases z⟩
  keep:=fun i h h' st k => st.at fun o e => k it (by simp) o e
  item := by
    intro X hP hw hK hc i pins s σ H E I hf st hg
    subst hP hw hK
    obtain ⟨xs,x,hq,hx⟩:=hg
    obtain ⟨its,rv,p,hz⟩:=I.list hq
    obtain ⟨u,hu,ru⟩:=rv.get hx
    obtain ⟨f0,f1,f2,f3,f4,f5⟩:=hf it (by simp)
    refine wpAny_pyNext_list_item st p.isList (x:=u) (by simpa using hu) fun h' st' sb => ?_
    have I1 : Inv X pins σ H { s with heap:=h' }:=I.turned (t':=s.toks) (fun b o hb e => (sb.2 b hb).trans e) f0 f1 f3 f4 f5
    obtain ⟨o,e,c,d⟩:=id st'
    exact ⟨u,rfl,go_of (s:={ s with heap:=h' }) e c d (by decide) ⟨x,H,I1,ru,⟨rfl,fun ys hy => by rw [I.list_inj hy hq]; exact hx⟩,st',fun b hb => (hf b hb).1⟩⟩
  done := by
    intro X hP hw hK hc i pins s σ H E I hf st hg
    subst hP hw hK
    obtain ⟨xs,hq,hx⟩:=hg
    obtain ⟨its,rv,p,hz⟩:=I.list hq
    obtain ⟨f0,f1,f2,f3,f4,f5⟩:=hf it (by simp)
    have hl:=rv.length
    exact wpAny_pyNext_list_end (I.ok.hd hc) st p.isList (by simp; lia) fun h' eb => ⟨rfl,I.turned (t':=s.toks) (fun b o hb e => eb b o hb e) f0 f1 f3 f4 f5⟩
  self:=fun _ _ _ _ _ st h => wpAny_pyIter_listiter st h
theorem turn_tuple {P : Program} {w : World} {K : PySem.W.Frag} {tg : Expr} (a it : Addr) : Turn P w K tg (Itt K a) [it] it (fun i h => h.IsTupleIter it a i) where
  mem := by simp
  obj:=fun i h st b hb => by
    have e : b = it := by simpa using hb
    subst e
    obtain ⟨o,e,c,d⟩:=st
    exact ⟨o,e,fun v z => by rw [d] at z; cases z⟩
  keep:=fun i h h' st k => st.at fun o e => k it (by simp) o e
  item := by
    intro X hP hw hK hc i pins s σ H E I hf st hg
    subst hP hw hK
    obtain ⟨xs,x,hq,hx⟩:=hg
    obtain ⟨its,rv,p,hz⟩:=I.tuple hq
    obtain ⟨u,hu,ru⟩:=rv.get hx
    obtain ⟨f0,f1,f2,f3,f4,f5⟩:=hf it (by simp)
    refine wpAny_pyNext_tuple_item st (show s.heap.IsTuple a its.toArray from p) (x:=u) (by simpa using hu) fun h' st' sb => ?_
    have I1 : Inv X pins σ H { s with heap:=h' }:=I.turned (t':=s.toks) (fun b o hb e => (sb.2 b hb).trans e) f0 f1 f3 f4 f5
    obtain ⟨o,e,c,d⟩:=id st'
    exact ⟨u,rfl,go_of (s:={ s with heap:=h' }) e c d (by decide) ⟨x,H,I1,ru,⟨rfl,fun ys hy => by rw [I.tuple_inj hy hq]; exact hx⟩,st',fun b hb => (hf b hb).1⟩⟩
  done := by
    intro X hP hw hK hc i pins s σ H E I hf st hg
    subst hP hw hK
    obtain ⟨xs,hq,hx⟩:=hg
    obtain ⟨its,rv,p,hz⟩:=I.tuple hq
    obtain ⟨f0,f1,f2,f3,f4,f5⟩:=hf it (by simp)
    have hl:=rv.length
    exact wpAny_pyNext_tuple_end (I.ok.hd hc) st (show s.heap.IsTuple a its.toArray from p) (by simp; lia) fun h' eb => ⟨rfl,I.turned (t':=s.toks) (fun b o hb e => eb b o hb e) f0 f1 f3 f4 f5⟩
  self:=fun _ _ _ _ _ st h => wpAny_pyIter_tupleiter st h
theorem turn_range {P : Program} {w : World} {K : PySem.W.Frag} {tg : Expr} (it : Addr) (lo : Int) (n : Nat) : Turn P w K tg (Itr lo n) [it] it (fun i h => IsRangeIter h it (lo + (i : Nat) * 1) ((n : Int) - (i : Nat)) 1) where
  mem := by simp
  obj:=fun i h st b hb => by
    have e : b = it := by simpa using hb
    subst e
    exact ⟨_,st,fun v z => by
      have z' : Data.fields _ = Data.cell v:=z
      cases z'⟩
  keep:=fun i h h' st k => k it (by simp) _ st
  item := by
    intro X hP hw hK hc i pins s σ H E I hf st hg
    subst hP hw hK
    obtain ⟨f0,f1,f2,f3,f4,f5⟩:=hf it (by simp)
    have W:=Walks.range (prog:=X.prog) (w:=X.w) (I.ok.hd hc) it lo 1 n
    refine W.item i s _ _ hg st fun v h' tk hv st' kk => ?_
    obtain ⟨t,rfl⟩:=hv
    have I1 : Inv X pins σ H { s with heap:=h',toks:=tk }:=I.turned (fun b o hb e => kk b o (by simpa using hb) e) f0 f1 f3 f4 f5
    refine ⟨_,rfl,go_of (s:={ s with heap:=h',toks:=tk }) (n := "range_iterator") st' rfl rfl (by decide) ⟨.int (lo + i),H,I1,⟨t,?_⟩,⟨rfl,rfl⟩,st',fun b hb => (hf b hb).1⟩⟩
    rw [Int.mul_one]
  done := by
    intro X hP hw hK hc i pins s σ H E I hf st hg
    subst hP hw hK
    obtain ⟨f0,f1,f2,f3,f4,f5⟩:=hf it (by simp)
    exact wpAny_pyNext_range_end (I.ok.hd hc) st (by have : n≤i:=hg; lia) fun h' eb => ⟨rfl,I.turned (t':=s.toks) (fun b o hb e => eb b o hb e) f0 f1 f3 f4 f5⟩
  self:=fun _ _ _ _ _ st h => wpAny_pyIter_rangeiter st h
section
variable {X : Cx} {tg : Expr}
def iList (K : PySem.W.Frag) (tl : TE) : TI:=fun σ H R => tl σ H fun x H1 => ∃ a,x = .ref a∧(∃ xs,SqL K H1 a xs)∧R (Itl K a) H1
def iTup (K : PySem.W.Frag) (tl : TE) : TI:=fun σ H R => tl σ H fun x H1 => ∃ a,x = .ref a∧(∃ xs,SqT K H1 a xs)∧R (Itt K a) H1
theorem pi_list {l : Expr} {tl : TE} (hl : PE X l tl) : PI X tg l (iList X.K tl) := by
  intro pins s σ H R I h
  refine thn (hl pins s σ H _ I h) fun v s1 ⟨x,H1,I1,r1,q1⟩ => ?_
  obtain ⟨a,e,⟨xs,hq⟩,q⟩:=q1
  subst e
  cases r1
  obtain ⟨its,rv,p,hz⟩:=I1.list hq
  refine wpAny_pyIter_list p.isList ?_
  refine ⟨s1.heap.objs.size,[s1.heap.objs.size],_,_,H1,rfl,I1.kept (t':=s1.toks) fun b o e => Heap.get?_push_of_some _ e,turn_list a _,⟨_,Heap.get?_push_size _ rfl,rfl,rfl⟩,fun b hb => ?_,q⟩
  have e : b = s1.heap.objs.size := by simpa using hb
  subst e
  exact I1.fpOk (Nat.le_refl _) (I1.hok.fresh (Nat.le_refl _))
theorem pi_tup {l : Expr} {tl : TE} (hl : PE X l tl) : PI X tg l (iTup X.K tl) := by
  intro pins s σ H R I h
  refine thn (hl pins s σ H _ I h) fun v s1 ⟨x,H1,I1,r1,q1⟩ => ?_
  obtain ⟨a,e,⟨xs,hq⟩,q⟩:=q1
  subst e
  cases r1
  obtain ⟨its,rv,p,hz⟩:=I1.tuple hq
  refine wpAny_pyIter_tuple (show s1.heap.IsTuple a its.toArray from p) ?_
  refine ⟨s1.heap.objs.size,[s1.heap.objs.size],_,_,H1,rfl,I1.kept (t':=s1.toks) fun b o e => Heap.get?_push_of_some _ e,turn_tuple a _,⟨_,Heap.get?_push_size _ rfl,rfl,rfl⟩,fun b hb => ?_,q⟩
  have e : b = s1.heap.objs.size := by simpa using hb
  subst e
  exact I1.fpOk (Nat.le_refl _) (I1.hok.fresh (Nat.le_refl _))
theorem range_it {pins : List (Addr×Obj)} {σ : St} {H : Hp} {s : Shared} {R : It→Hp→Prop} {E : Value→Shared→Prop} {lo hi : Int} {t u v : Tok} {tk : Nat} (I : Inv X pins σ H s) (h1 : -(2 ^ 62)≤lo) (h2 : lo < 2 ^ 62) (h3 : -(2 ^ 62)≤hi) (h4 : hi < 2 ^ 62)
    (q : R (Itr lo (hi - lo).toNat) H) : wpAny (model X.prog X.w) X.A (pyIter (.ref s.heap.objs.size)) (PIE X pins σ tg R) E { s with heap:=s.heap.push { cls:=.type "range",data:=.fields #[.int lo t,.int hi u,.int 1 v] },toks:=tk } := by
  refine wpAny_pyIter_range (IsRange.new ..) (small_one h1 h2 h3 h4) ?_
  have I1 : Inv X pins σ H { s with heap:=s.heap.push { cls:=.type "range",data:=.fields #[.int lo t,.int hi u,.int 1 v] },toks:=tk }:=I.kept fun b o e => Heap.get?_push_of_some _ e
  refine ⟨(s.heap.push { cls:=.type "range",data:=.fields #[.int lo t,.int hi u,.int 1 v] }).objs.size,[(s.heap.push { cls:=.type "range",data:=.fields #[.int lo t,.int hi u,.int 1 v] }).objs.size],_,_,H,rfl,
    I1.kept (t':=tk) fun b o e => Heap.get?_push_of_some _ e,turn_range _ lo (hi - lo).toNat,?_,fun b hb => ?_,q⟩
  · have e1 : lo + ((0 : Nat) : Int) * 1 = lo := by simp
    have e2 : (((hi - lo).toNat : Nat) : Int) - ((0 : Nat) : Int) = Builtin.Range.rangeSize lo hi 1 := by rw [rangeSize_one]; split <;> lia
    show IsRangeIter _ _ (lo + ((0 : Nat) : Int) * 1) ((((hi - lo).toNat : Nat) : Int) - ((0 : Nat) : Int)) 1
    rw [e1,e2]
    exact Heap.get?_push_size _ rfl
  · have e : b = (s.heap.push { cls:=.type "range",data:=.fields #[.int lo t,.int hi u,.int 1 v] }).objs.size := by simpa using hb
    subst e
    exact I1.fpOk (Nat.le_refl _) (I1.hok.fresh (Nat.le_refl _))
def iRng1 (ta : TA) : TI:=fun σ H R => ta σ H fun vs H1 => ∃ j : Int,vs = [.int j]∧-(2 ^ 62)≤j∧j < 2 ^ 62∧R (Itr 0 j.toNat) H1
def iRng2 (ta : TA) : TI:=fun σ H R => ta σ H fun vs H1 => ∃ i j : Int,vs = [.int i,.int j]∧(-(2 ^ 62)≤i∧i < 2 ^ 62∧-(2 ^ 62)≤j∧j < 2 ^ 62)∧R (Itr i (j - i).toNat) H1
theorem pi_range1 {a : Expr} {ta : TA} {p pos : Pos} (hg : Gl X "range") (hm : X.mg "range" = none) (ha : PA X [a] ta) (hs : starEach [a] X.env = [(false,eval a X.env)] := by rfl) : PI X tg (.Call (.Name "range" p) [a] [] pos) (iRng1 ta) := by
  intro pins s σ H R I h
  refine Call_ (ld_blt I hg hm boot_range (PyProof.Rows.callWith_type1 (thn (ha pos pins s σ H _ I h) fun us s1 ⟨vs,H1,I1,r1,q1⟩ => ?_) hs rfl))
  obtain ⟨j,e,q1,q2,q⟩:=q1
  subst e
  cases r1 with
  | cons r rr =>
    cases rr
    obtain ⟨t,rfl⟩:=r
    exact call_range_1 (range_it I1 (by lia) (by lia) q1 q2 (by simpa using q))
theorem pi_range2 {a b : Expr} {ta : TA} {p pos : Pos} (hg : Gl X "range") (hm : X.mg "range" = none) (ha : PA X [a,b] ta) (hs : starEach [a,b] X.env = [(false,eval a X.env),(false,eval b X.env)] := by rfl) (hs2 : starEach [b] X.env = [(false,eval b X.env)] := by rfl) :
    PI X tg (.Call (.Name "range" p) [a,b] [] pos) (iRng2 ta) := by
  intro pins s σ H R I h
  refine Call_ (ld_blt I hg hm boot_range (PyProof.Rows.callWith_type1 (thn (ha pos pins s σ H _ I h) fun us s1 ⟨vs,H1,I1,r1,q1⟩ => ?_) (by rw [hs,hs2]) (by rw [hs2]; rfl)))
  obtain ⟨i,j,e,⟨q1,q2,q3,q4⟩,q⟩:=q1
  subst e
  cases r1 with
  | cons r rr =>
    cases rr with
    | cons r' rr =>
      cases rr
      obtain ⟨t,rfl⟩:=r
      obtain ⟨t',rfl⟩:=r'
      exact call_range_2 (range_it I1 q1 q2 q3 q4 q)
def tFor (wi : TI) (g : TG) (tb : TS) : TS:=fun D σ H => wi σ H fun J H1 => ∃ W : Nat→Nat→St→Hp→Prop,(∃ m,W 0 m σ H1)∧∀ i m σ H,W i m σ H →
  (J.stop i H∧D.nx σ H)∨(J.go i H∧∃ N : St→Hp→Prop,(∀ σ' H',N σ' H'→∃ m',m' < m∧W (i + 1) m' σ' H')∧∀ x H',J.yld i H x H'→g x σ H' fun σ2 H2 => tb { D with nx:=N,ct:=N,bk:=D.nx } σ2 H2)
def pinsAt (fp : List Addr) (h : Heap) : List (Addr×Obj):=fp.filterMap fun b => (h.get? b).map fun o => (b,o)
theorem mem_pinsAt {fp : List Addr} {h : Heap} {b : Addr} {o : Obj} (hb : b∈fp) (e : h.get? b = some o) : (b,o)∈pinsAt fp h:=List.mem_filterMap.mpr ⟨b,hb,by rw [e]; rfl⟩
theorem of_pinsAt {fp : List Addr} {h : Heap} {p : Addr×Obj} (hp : p∈pinsAt fp h) : p.1∈fp∧h.get? p.1 = some p.2 := by
  obtain ⟨b,hb,e⟩:=List.mem_filterMap.mp hp
  cases q : h.get? b with
  | none => rw [q] at e; cases e
  | some o =>
    rw [q] at e
    have e' : (b,o) = p:=Option.some.inj e
    subst e'
    exact ⟨hb,q⟩
theorem Inv.pinned {pins : List (Addr×Obj)} {σ : St} {H : Hp} {s : Shared} {fp : List Addr} (I : Inv X pins σ H s) (hf : ∀ b∈fp,FpOk X pins H b) (ho : ∀ b∈fp,∃ o,s.heap.get? b = some o∧∀ v,o.data≠.cell v) : Inv X (pins ++ pinsAt fp s.heap) σ H s :=
  I.pins_of fun p hp => (List.mem_append.mp hp).elim (fun z => I.pin p (List.mem_append_right _ z)) fun z => by
    obtain ⟨hb,e⟩:=of_pinsAt z
    obtain ⟨f0,f1,f2,_⟩:=hf p.1 hb
    obtain ⟨o,e',d⟩:=ho p.1 hb
    rw [e] at e'; cases e'
    exact ⟨e,f0,f1,f2,d⟩
theorem Inv.unpinned {pins pl : List (Addr×Obj)} {σ : St} {H : Hp} {s : Shared} (I : Inv X (pins ++ pl) σ H s) : Inv X pins σ H s:=I.pins_of fun p hp => I.pin p (List.mem_append_right _ (List.mem_append_left _ hp))
theorem ps_for {iter : Expr} {body : List Stmt} {wi : TI} {g : TG} {tb : TS} {pos : Pos} (hp : PassesOwn (model X.prog X.w) X.A X.env X.xe) (hc : X.calm = true) (hi : PI X tg iter wi) (hg : PG X tg g) (hb : PSs X body tb)
    (hs : ∀ x,foldedSetIterable iter X.env x = pure x := by intro _; rfl) : PS X (.For tg iter body [] pos) (tFor wi g tb) := by
  intro pins s σ H D I h
  refine wpAny_For (thn (hi pins s σ H _ I h) fun v s1 h1 => thn h1 fun itv s2 h2 => ?_) hs
  obtain ⟨it,fp,tn,J,H2,e,I2,T,st2,f2,W,⟨m0,w0⟩,turn⟩:=h2
  subst e
  have stat : ∀ {H' : Hp},(∀ b∈fp,H' b = none)→∀ b∈fp,FpOk X pins H' b:=fun hn b hb => ⟨hn b hb,(f2 b hb).2⟩
  refine codeAny_forLoop_any (fun n s' => ∃ i σ' H',Inv X pins σ' H' s'∧tn i s'.heap∧(∀ b∈fp,H' b = none)∧W i n σ' H') ?_ m0 ⟨0,σ,H2,I2,st2,fun b hb => (f2 b hb).1,w0⟩
  rintro n s3 ⟨i,σ3,H3,I3,st3,fr3,w3⟩
  rcases turn i n σ3 H3 w3 with ⟨stop,qn⟩ | ⟨go,N,hN,step⟩
  · refine wpAny_passesOwn hp (thn (T.done X rfl rfl rfl hc i pins s3 σ3 H3 X.xe I3 (stat fr3) st3 stop) fun r s4 ⟨hr,I4⟩ => ?_)
    subst hr
    exact wpAny_execs_nil ⟨σ3,H3,I4,qn⟩
  · refine wpAny_passesOwn hp (thn (T.item X rfl rfl rfl hc i pins s3 σ3 H3 X.xe I3 (stat fr3) st3 go) fun r s4 ⟨u,hr,h4⟩ => ?_)
    subst hr
    refine wpAny_passesOwn hp (thn h4 fun _ s5 ⟨x,H5,I5,r5,y5,st5,fr5⟩ => ?_)
    have I5':=I5.pinned (stat fr5) (T.obj _ _ st5)
    refine wpAny_passesOwn hp (thn (hg _ s5 σ3 H5 x u _ I5' r5 (step x H5 y5)) fun _ s6 ⟨σ6,H6,I6,q6⟩ => ?_)
    refine wpAny_passesOwn hp (thn (hb _ s6 σ6 H6 _ I6 q6) fun f s7 q7 => ?_)
    have again : ∀ {σ7 : St} {H7 : Hp},Inv X (pins ++ pinsAt fp s5.heap) σ7 H7 s7→N σ7 H7→∃ m,m < n∧∃ i σ' H',Inv X pins σ' H' s7∧tn i s7.heap∧(∀ b∈fp,H' b = none)∧W i m σ' H':=fun {σ7 H7} I7 n7 => by
      obtain ⟨m',hm,w7⟩:=hN σ7 H7 n7
      refine ⟨m',hm,i + 1,σ7,H7,I7.unpinned,T.keep _ _ _ st5 fun b hb o e => (I7.pin (b,o) (List.mem_append_right _ (List.mem_append_right _ (mem_pinsAt hb e)))).1,fun b hb => ?_,w7⟩
      obtain ⟨o,e,d⟩:=T.obj _ _ st5 b hb
      exact (I7.pin (b,o) (List.mem_append_right _ (List.mem_append_right _ (mem_pinsAt hb e)))).2.1
    cases f with
    | next => obtain ⟨σ7,H7,I7,n7⟩:=q7; exact again I7 n7
    | cont => obtain ⟨σ7,H7,I7,n7⟩:=q7; exact again I7 n7
    | brk => obtain ⟨σ7,H7,I7,q7⟩:=q7; exact ⟨σ7,H7,I7.unpinned,q7⟩
    | ret v => obtain ⟨x7,σ7,H7,I7,r7,q7⟩:=q7; exact ⟨x7,σ7,H7,I7.unpinned,r7,q7⟩
end
theorem for_list {K : PySem.W.Frag} {a : Addr} {xs : List V} {g : TG} {tb : TS} {D : Ends} {σ : St} {H : Hp} (Pv : Nat→St→Hp→Prop) (h0 : Pv 0 σ H) (hl : ∀ i σ H,i≤xs.length→Pv i σ H→SqL K H a xs)
    (hs : ∀ i x σ H,xs[i]? = some x→Pv i σ H→g x σ H fun σ2 H2 => tb { D with nx:=Pv (i + 1),ct:=Pv (i + 1),bk:=D.nx } σ2 H2) (hd : ∀ σ H,Pv xs.length σ H→D.nx σ H) :
    ∃ W : Nat→Nat→St→Hp→Prop,(∃ m,W 0 m σ H)∧∀ i m σ H,W i m σ H →
      ((Itl K a).stop i H∧D.nx σ H)∨((Itl K a).go i H∧∃ N : St→Hp→Prop,(∀ σ' H',N σ' H'→∃ m',m' < m∧W (i + 1) m' σ' H')∧∀ x H',(Itl K a).yld i H x H'→g x σ H' fun σ2 H2 => tb { D with nx:=N,ct:=N,bk:=D.nx } σ2 H2) := by
  refine ⟨fun i m σ H => m = xs.length - i∧i≤xs.length∧Pv i σ H,⟨xs.length,by simp,Nat.zero_le _,h0⟩,?_⟩
  rintro i m σ H ⟨rfl,hi,p⟩
  have q:=hl i σ H hi p
  by_cases hlt : i < xs.length
  · refine .inr ⟨⟨xs,xs[i],q,by simp [hlt]⟩,Pv (i + 1),fun σ' H' p' => ⟨xs.length - (i + 1),by lia,rfl,hlt,p'⟩,fun x H' y => ?_⟩
    obtain ⟨e,y⟩:=y
    subst e
    exact hs i x σ _ (y xs q) p
  · have e : i = xs.length := by lia
    subst e
    exact .inl ⟨⟨xs,q,Nat.le_refl _⟩,hd σ H p⟩
theorem for_tup {K : PySem.W.Frag} {a : Addr} {xs : List V} {g : TG} {tb : TS} {D : Ends} {σ : St} {H : Hp} (Pv : Nat→St→Hp→Prop) (h0 : Pv 0 σ H) (hl : ∀ i σ H,i≤xs.length→Pv i σ H→SqT K H a xs)
    (hs : ∀ i x σ H,xs[i]? = some x→Pv i σ H→g x σ H fun σ2 H2 => tb { D with nx:=Pv (i + 1),ct:=Pv (i + 1),bk:=D.nx } σ2 H2) (hd : ∀ σ H,Pv xs.length σ H→D.nx σ H) :
    ∃ W : Nat→Nat→St→Hp→Prop,(∃ m,W 0 m σ H)∧∀ i m σ H,W i m σ H →
      ((Itt K a).stop i H∧D.nx σ H)∨((Itt K a).go i H∧∃ N : St→Hp→Prop,(∀ σ' H',N σ' H'→∃ m',m' < m∧W (i + 1) m' σ' H')∧∀ x H',(Itt K a).yld i H x H'→g x σ H' fun σ2 H2 => tb { D with nx:=N,ct:=N,bk:=D.nx } σ2 H2) := by
  refine ⟨fun i m σ H => m = xs.length - i∧i≤xs.length∧Pv i σ H,⟨xs.length,by simp,Nat.zero_le _,h0⟩,?_⟩
  rintro i m σ H ⟨rfl,hi,p⟩
  have q:=hl i σ H hi p
  by_cases hlt : i < xs.length
  · refine .inr ⟨⟨xs,xs[i],q,by simp [hlt]⟩,Pv (i + 1),fun σ' H' p' => ⟨xs.length - (i + 1),by lia,rfl,hlt,p'⟩,fun x H' y => ?_⟩
    obtain ⟨e,y⟩:=y
    subst e
    exact hs i x σ _ (y xs q) p
  · have e : i = xs.length := by lia
    subst e
    exact .inl ⟨⟨xs,q,Nat.le_refl _⟩,hd σ H p⟩
theorem for_range {lo : Int} {n : Nat} {g : TG} {tb : TS} {D : Ends} {σ : St} {H : Hp} (Pv : Nat→St→Hp→Prop) (h0 : Pv 0 σ H)
    (hs : ∀ i σ H,i < n→Pv i σ H→g (.int (lo + i)) σ H fun σ2 H2 => tb { D with nx:=Pv (i + 1),ct:=Pv (i + 1),bk:=D.nx } σ2 H2) (hd : ∀ σ H,Pv n σ H→D.nx σ H) :
    ∃ W : Nat→Nat→St→Hp→Prop,(∃ m,W 0 m σ H)∧∀ i m σ H,W i m σ H →
      ((Itr lo n).stop i H∧D.nx σ H)∨((Itr lo n).go i H∧∃ N : St→Hp→Prop,(∀ σ' H',N σ' H'→∃ m',m' < m∧W (i + 1) m' σ' H')∧∀ x H',(Itr lo n).yld i H x H'→g x σ H' fun σ2 H2 => tb { D with nx:=N,ct:=N,bk:=D.nx } σ2 H2) := by
  refine ⟨fun i m σ H => m = n - i∧i≤n∧Pv i σ H,⟨n,by simp,Nat.zero_le _,h0⟩,?_⟩
  rintro i m σ H ⟨rfl,hi,p⟩
  by_cases hlt : i < n
  · refine .inr ⟨hlt,Pv (i + 1),fun σ' H' p' => ⟨n - (i + 1),by lia,rfl,hlt,p'⟩,fun x H' y => ?_⟩
    obtain ⟨e,y⟩:=y
    subst e y
    exact hs i σ _ hlt p
  · have e : i = n := by lia
    subst e
    exact .inl ⟨Nat.le_refl _,hd σ H p⟩
theorem while_by {c : TT} {tb : TS} {D : Ends} {σ : St} {H : Hp} (Pv : St→Hp→Prop) (μ : St→Hp→Nat) (h0 : Pv σ H)
    (hs : ∀ σ H,Pv σ H→c σ H fun b H1 => if b = true then tb { D with nx:=fun σ' H' => Pv σ' H'∧μ σ' H' < μ σ H,ct:=fun σ' H' => Pv σ' H'∧μ σ' H' < μ σ H,bk:=D.nx } σ H1 else D.nx σ H1)
    (mono : ∀ σ H Q Q',(∀ b H1,Q b H1→Q' b H1)→c σ H Q→c σ H Q') : tWhile c tb D σ H := by
  refine ⟨fun m σ H => m = μ σ H∧Pv σ H,⟨_,rfl,h0⟩,?_⟩
  rintro m σ H ⟨rfl,p⟩
  refine mono σ H _ _ (fun b H1 q => ?_) (hs σ H p)
  cases b with
  | true => exact ⟨_,fun σ' H' ⟨p',l⟩ => ⟨_,l,rfl,p'⟩,q⟩
  | false => exact q
abbrev R2:=V→V→Hp→VK→Prop
def OpR (X : Cx) (f : Value→Value→Sem Value) (r : R2) : Prop :=
  ∀ (pins : List (Addr×Obj)) (s : Shared) (σ : St) (H : Hp) (x y : V) (v u : Value) (Q : VK),Inv X pins σ H s→RelV x v→RelV y u→r x y H Q →
    wpAny (model X.prog X.w) X.A (f v u) (EP X pins σ Q) X.xe s
def UnR (X : Cx) (f : Value→Sem Value) (r : V→Hp→VK→Prop) : Prop :=
  ∀ (pins : List (Addr×Obj)) (s : Shared) (σ : St) (H : Hp) (x : V) (v : Value) (Q : VK),Inv X pins σ H s→RelV x v→r x H Q →
    wpAny (model X.prog X.w) X.A (f v) (EP X pins σ Q) X.xe s
def CallR (X : Cx) (f : Value) (r : List V→Hp→VK→Prop) : Prop :=
  ∀ (pins : List (Addr×Obj)) (s : Shared) (σ : St) (H : Hp) (xs : List V) (us : List Value) (Q : VK),Inv X pins σ H s→Vals xs us→r xs H Q →
    wpAny (model X.prog X.w) X.A (call f us) (EP X pins σ Q) X.xe s
def tOp (r : R2) (ta tb : TE) : TE:=fun σ H Q => ta σ H fun x H1 => tb σ H1 fun y H2 => r x y H2 Q
def tUn (r : V→Hp→VK→Prop) (ta : TE) : TE:=fun σ H Q => ta σ H fun x H1 => r x H1 Q
def rI (C : Int→Int→Prop) (g : Int→Int→V) : R2:=fun x y H Q => ∃ i j,x = .int i∧y = .int j∧C i j∧Q (g i j) H
def rI0 (g : Int→Int→V) : R2:=fun x y H Q => ∃ i j,x = .int i∧y = .int j∧Q (g i j) H
def rU (g : Int→V) : V→Hp→VK→Prop:=fun x H Q => ∃ i,x = .int i∧Q (g i) H
section
variable {X : Cx} {a b : Expr} {ta tb : TE} {pos : Pos}
theorem binT (ha : PE X a ta) (hb : PE X b tb) {pins : List (Addr×Obj)} {s : Shared} {σ : St} {H : Hp} {R : V→V→Hp→Prop} (I : Inv X pins σ H s)
    (h : ta σ H fun x H1 => tb σ H1 fun y H2 => R x y H2) {Q : Value→Shared→Prop} {f : Value→Value→Sem Value}
    (hf : ∀ v u s2 x y H2,Inv X pins σ H2 s2→RelV x v→RelV y u→R x y H2→wpAny (model X.prog X.w) X.A (f v u) Q X.xe s2) :
    wpAny (model X.prog X.w) X.A (eval a X.env) (fun v s₁ => wpAny (model X.prog X.w) X.A (eval b X.env) (fun u s₂ => wpAny (model X.prog X.w) X.A (f v u) Q X.xe s₂) X.xe s₁) X.xe s := by
  refine thn (ha pins s σ H _ I h) fun v s1 ⟨x,H1,I1,r1,q1⟩ => ?_
  refine thn (hb pins s1 σ H1 _ I1 q1) fun u s2 ⟨y,H2,I2,r2,q2⟩ => ?_
  exact hf v u s2 x y H2 I2 r1 r2 q2
theorem pe_op {op : Operator} {r : R2} (ho : OpR X (binaryOp op) r) (ha : PE X a ta) (hb : PE X b tb) : PE X (.BinOp a op b pos) (tOp r ta tb) := by
  intro pins s σ H Q I h
  exact wpAny_BinOp (binT ha hb I h fun v u s2 x y H2 I2 rx ry q => ho pins s2 σ H2 x y v u Q I2 rx ry q)
theorem pe_un {op : UnaryOp} {r : V→Hp→VK→Prop} (ho : UnR X (unaryOp op) r) (ha : PE X a ta) : PE X (.UnaryOp op a pos) (tUn r ta) := by
  intro pins s σ H Q I h
  exact UnaryOp_ (thn (ha pins s σ H _ I h) fun v s1 ⟨x,H1,I1,r1,q1⟩ => ho pins s1 σ H1 x v Q I1 r1 q1)
theorem opI {f : Value→Value→Sem Value} {C : Int→Int→Prop} {g : Int→Int→Int}
    (rule : ∀ (i j : Int) (t u : Tok) (s : Shared) (Q : Value→Shared→Prop) (E : Value→Shared→Prop),C i j→Q (.int (g i j) s.toks) { s with toks:=s.toks + 1 }→wpAny (model X.prog X.w) X.A (f (.int i t) (.int j u)) Q E s) :
    OpR X f (rI C fun i j => .int (g i j)) := by
  intro pins s σ H x y v u Q I rx ry h
  obtain ⟨i,j,rfl,rfl,hc,q⟩:=h
  obtain ⟨t,rfl⟩:=rx
  obtain ⟨t',rfl⟩:=ry
  exact rule i j t t' s _ _ hc ⟨.int (g i j),H,I.tok _,⟨_,rfl⟩,q⟩
theorem opI0 {f : Value→Value→Sem Value} {g : Int→Int→Int}
    (rule : ∀ (i j : Int) (t u : Tok) (s : Shared) (Q : Value→Shared→Prop) (E : Value→Shared→Prop),Q (.int (g i j) s.toks) { s with toks:=s.toks + 1 }→wpAny (model X.prog X.w) X.A (f (.int i t) (.int j u)) Q E s) :
    OpR X f (rI0 fun i j => .int (g i j)) := by
  intro pins s σ H x y v u Q I rx ry h
  obtain ⟨i,j,rfl,rfl,q⟩:=h
  obtain ⟨t,rfl⟩:=rx
  obtain ⟨t',rfl⟩:=ry
  exact rule i j t t' s _ _ ⟨.int (g i j),H,I.tok _,⟨_,rfl⟩,q⟩
theorem opB0 {f : Value→Value→Sem Value} {g : Int→Int→Bool}
    (rule : ∀ (i j : Int) (t u : Tok) (s : Shared) (Q : Value→Shared→Prop) (E : Value→Shared→Prop),Q (.bool (g i j)) s→wpAny (model X.prog X.w) X.A (f (.int i t) (.int j u)) Q E s) :
    OpR X f (rI0 fun i j => .bl (g i j)) := by
  intro pins s σ H x y v u Q I rx ry h
  obtain ⟨i,j,rfl,rfl,q⟩:=h
  obtain ⟨t,rfl⟩:=rx
  obtain ⟨t',rfl⟩:=ry
  exact rule i j t t' s _ _ ⟨.bl (g i j),H,I,rfl,q⟩
def CDiv (i j : Int) : Prop:=0 < j∧j < 1073741824
def CPow (i j : Int) : Prop:=0≤j∧j≤1000000∧i.natAbs < 2 ^ 64
def CMul (i j : Int) : Prop:=(-(2 ^ 64) < i∧i < 2 ^ 64)∨(-(2 ^ 64) < j∧j < 2 ^ 64)
theorem CMul.ok {i j : Int} (h : CMul i j) : IntMulOk i j := by
  rcases h with ⟨h1,h2⟩ | ⟨h1,h2⟩
  · exact .of_left (intBits_le_64 h1 h2)
  · exact .of_right (intBits_le_64 h1 h2)
theorem op_add : OpR X (binaryOp .Add) (rI0 fun i j => .int (i + j)):=opI0 fun _ _ _ _ _ _ _ q => add_int q
theorem op_sub : OpR X (binaryOp .Sub) (rI0 fun i j => .int (i - j)):=opI0 fun _ _ _ _ _ _ _ q => sub_int q
theorem op_fdiv : OpR X (binaryOp .FloorDiv) (rI CDiv fun i j => .int (i / j)):=opI fun i j _ _ _ _ _ hc q => by
  have h1 : (0 : Int) < j:=hc.1
  have h2 : j < 1073741824:=hc.2
  exact floordiv_int (by lia) (by rw [Int.fdiv_eq_ediv_of_nonneg i (by lia)]; exact q) (.inl (PyProof.noPylong_small (by lia)))
theorem op_mod : OpR X (binaryOp .Mod) (rI (fun _ j => 0 < j) fun i j => .int (i % j)):=opI fun i j _ _ _ _ _ hc q => by
  have h1 : (0 : Int) < j:=hc
  exact mod_int' (by lia) (by rw [Int.fmod_eq_emod_of_nonneg i (by lia)]; exact q)
theorem op_modN : OpR X (binaryOp .Mod) (rI (fun _ j => j≠0) fun i j => .int (i.fmod j)):=opI fun _ _ _ _ _ _ _ hc q => mod_int' hc q
theorem op_pow : OpR X (binaryOp .Pow) (rI CPow fun i j => .int (i ^ j.toNat)):=opI fun _ _ _ _ _ _ _ hc q => pow_int_small hc.1 hc.2.1 hc.2.2 q
theorem unI {f : Value→Sem Value} {g : Int→Int}
    (rule : ∀ (i : Int) (t : Tok) (s : Shared) (Q : Value→Shared→Prop) (E : Value→Shared→Prop),Q (.int (g i) s.toks) { s with toks:=s.toks + 1 }→wpAny (model X.prog X.w) X.A (f (.int i t)) Q E s) :
    UnR X f (rU fun i => .int (g i)) := by
  intro pins s σ H x v Q I rx h
  obtain ⟨i,rfl,q⟩:=h
  obtain ⟨t,rfl⟩:=rx
  exact rule i t s _ _ ⟨.int (g i),H,I.tok _,⟨_,rfl⟩,q⟩
theorem un_neg : UnR X (unaryOp .USub) (rU fun i => .int (-i)):=unI fun _ _ _ _ _ q => neg_int q
end
def scal : V→V→Bool
  | .non,.non => true | .non,.int _ => true | .int _,.non => true | .non,.bl _ => true | .bl _,.non => true | .non,.str _ => true | .str _,.non => true
  | .int _,.int _ => true | .bl _,.bl _ => true | .str _,.str _ => true | .byt _,.byt _ => true
  | .int _,.str _ => true | .str _,.int _ => true | .bl _,.str _ => true | .str _,.bl _ => true
  | _,_ => false
def rEq : R2:=fun x y H Q => scal x y = true∧Q (.bl (decide (x = y))) H
def rNe : R2:=fun x y H Q => scal x y = true∧Q (.bl (!decide (x = y))) H
theorem dec_int {i j : Int} : decide (V.int i = V.int j) = (i == j) := by
  rw [Bool.eq_iff_iff]
  simp
theorem dec_bl {i j : Bool} : decide (V.bl i = V.bl j) = (i == j) := by
  rw [Bool.eq_iff_iff]
  simp
theorem dec_str {i j : Str} : decide (V.str i = V.str j) = (i == j) := by
  rw [Bool.eq_iff_iff]
  simp
theorem dec_byt {i j : Array UInt8} : decide (V.byt i = V.byt j) = (i.toList == j.toList) := by
  rw [Bool.eq_iff_iff]
  cases i
  cases j
  simp
section
variable {X : Cx} {a b c : Expr} {ta tb : TE} {pos : Pos}
theorem fin_bl {pins : List (Addr×Obj)} {σ : St} {H : Hp} {s : Shared} {Q : VK} {k k' : Bool} (I : Inv X pins σ H s) (q : Q (.bl k) H) (e : k = k') : EP X pins σ Q (.bool k') s := by
  subst e
  exact ⟨.bl k,H,I,rfl,q⟩
theorem op_eq : OpR X (compareOp .Eq) rEq := by
  intro pins s σ H x y v u Q I rx ry h
  obtain ⟨hs,q⟩:=h
  cases x with
  | non =>
    cases rx
    cases y with
    | non => cases ry; exact PySem.EqNone.eq_none_none (fin_bl I q (by simp))
    | bl j => cases ry; exact PySem.EqNone.eq_none_bool (fin_bl I q (by simp))
    | int j => obtain ⟨t',rfl⟩:=ry; exact PySem.EqNone.eq_none_int (fin_bl I q (by simp))
    | str j => obtain ⟨t',rfl⟩:=ry; exact PySem.EqNone.eq_none_str (fin_bl I q (by simp))
    | _ => exact absurd (show false = true from hs) Bool.false_ne_true
  | bl i =>
    cases rx
    cases y with
    | non => cases ry; exact PySem.EqNone.eq_bool_none (fin_bl I q (by simp))
    | bl j => cases ry; exact eq_bool (fin_bl I q dec_bl)
    | str j => obtain ⟨t',rfl⟩:=ry; exact PySem.EqMixed.eq_bool_str (fin_bl I q (by simp))
    | _ => exact absurd (show false = true from hs) Bool.false_ne_true
  | int i =>
    obtain ⟨t,rfl⟩:=rx
    cases y with
    | non => cases ry; exact PySem.EqNone.eq_int_none (fin_bl I q (by simp))
    | int j => obtain ⟨t',rfl⟩:=ry; exact eq_int (fin_bl I q dec_int)
    | str j => obtain ⟨t',rfl⟩:=ry; exact PySem.EqMixed.eq_int_str (fin_bl I q (by simp))
    | _ => exact absurd (show false = true from hs) Bool.false_ne_true
  | str i =>
    obtain ⟨t,rfl⟩:=rx
    cases y with
    | non => cases ry; exact PySem.EqNone.eq_str_none (fin_bl I q (by simp))
    | bl j => cases ry; exact PySem.EqMixed.eq_str_bool (fin_bl I q (by simp))
    | int j => obtain ⟨t',rfl⟩:=ry; exact PySem.EqMixed.eq_str_int (fin_bl I q (by simp))
    | str j => obtain ⟨t',rfl⟩:=ry; exact eq_str (fin_bl I q dec_str)
    | _ => exact absurd (show false = true from hs) Bool.false_ne_true
  | byt i =>
    obtain ⟨t,rfl⟩:=rx
    cases y with
    | byt j => obtain ⟨t',rfl⟩:=ry; exact PySem.W.eq_bytes (fin_bl I q dec_byt)
    | _ => exact absurd (show false = true from hs) Bool.false_ne_true
  | _ => cases y <;> exact absurd (show false = true from hs) Bool.false_ne_true
theorem op_ne : OpR X (compareOp .NotEq) rNe := by
  intro pins s σ H x y v u Q I rx ry h
  obtain ⟨hs,q⟩:=h
  cases x with
  | non =>
    cases rx
    cases y with
    | non => cases ry; exact PySem.EqNone.ne_none_none (fin_bl I q (by simp))
    | bl j => cases ry; exact PySem.EqNone.ne_none_bool (fin_bl I q (by simp))
    | int j => obtain ⟨t',rfl⟩:=ry; exact PySem.EqNone.ne_none_int (fin_bl I q (by simp))
    | str j => obtain ⟨t',rfl⟩:=ry; exact PySem.EqNone.ne_none_str (fin_bl I q (by simp))
    | _ => exact absurd (show false = true from hs) Bool.false_ne_true
  | bl i =>
    cases rx
    cases y with
    | non => cases ry; exact PySem.EqNone.ne_bool_none (fin_bl I q (by simp))
    | bl j => cases ry; exact ne_bool (fin_bl I q (congrArg not dec_bl))
    | str j => obtain ⟨t',rfl⟩:=ry; exact PySem.EqMixed.ne_bool_str (fin_bl I q (by simp))
    | _ => exact absurd (show false = true from hs) Bool.false_ne_true
  | int i =>
    obtain ⟨t,rfl⟩:=rx
    cases y with
    | non => cases ry; exact PySem.EqNone.ne_int_none (fin_bl I q (by simp))
    | int j => obtain ⟨t',rfl⟩:=ry; exact ne_int (fin_bl I q (congrArg not dec_int))
    | str j => obtain ⟨t',rfl⟩:=ry; exact PySem.EqMixed.ne_int_str (fin_bl I q (by simp))
    | _ => exact absurd (show false = true from hs) Bool.false_ne_true
  | str i =>
    obtain ⟨t,rfl⟩:=rx
    cases y with
    | non => cases ry; exact PySem.EqNone.ne_str_none (fin_bl I q (by simp))
    | bl j => cases ry; exact PySem.EqMixed.ne_str_bool (fin_bl I q (by simp))
    | int j => obtain ⟨t',rfl⟩:=ry; exact PySem.EqMixed.ne_str_int (fin_bl I q (by simp))
    | str j => obtain ⟨t',rfl⟩:=ry; exact ne_str (fin_bl I q (congrArg not dec_str))
    | _ => exact absurd (show false = true from hs) Bool.false_ne_true
  | byt i =>
    obtain ⟨t,rfl⟩:=rx
    cases y with
    | byt j => obtain ⟨t',rfl⟩:=ry; exact PySem.W.ne_bytes (fin_bl I q (congrArg not dec_byt))
    | _ => exact absurd (show false = true from hs) Bool.false_ne_true
  | _ => cases y <;> exact absurd (show false = true from hs) Bool.false_ne_true
theorem op_lt : OpR X (compareOp .Lt) (rI0 fun i j => .bl (decide (i < j))):=opB0 fun _ _ _ _ _ _ _ q => lt_int q
theorem op_gt : OpR X (compareOp .Gt) (rI0 fun i j => .bl (decide (j < i))):=opB0 fun _ _ _ _ _ _ _ q => gt_int q
theorem op_ge : OpR X (compareOp .GtE) (rI0 fun i j => .bl (decide (j≤i))):=opB0 fun _ _ _ _ _ _ _ q => ge_int q
theorem op_isN : OpR X (compareOp .Is) (fun x y H Q => y = .non∧Q (.bl (decide (x = .non))) H) := by
  intro pins s σ H x y v u Q I rx ry h
  obtain ⟨rfl,q⟩:=h
  cases ry
  refine is_none_gen (fin_bl I q ?_)
  cases x <;> first
    | (cases rx; rfl)
    | (obtain ⟨t,rfl⟩:=rx; rfl)
theorem OpR.or {f : Value→Value→Sem Value} {r r' : R2} (h : OpR X f r) (h' : OpR X f r') : OpR X f (fun x y H Q => r x y H Q∨r' x y H Q) := by
  intro pins s σ H x y v u Q I rx ry q
  rcases q with q | q
  · exact h pins s σ H x y v u Q I rx ry q
  · exact h' pins s σ H x y v u Q I rx ry q
theorem nomark (b : Expr) {op : CmpOp} (h : op≠.In := by decide) (h2 : op≠.NotIn := by decide) : behindInMarks op b = false := by
  have e1 : (op == CmpOp.In) = false := by cases op <;> first | rfl | exact absurd rfl h
  have e2 : (op == CmpOp.NotIn) = false := by cases op <;> first | rfl | exact absurd rfl h2
  cases b <;> simp [behindInMarks,e1,e2]
theorem pe_cmpR {op : CmpOp} {r : R2} (ho : OpR X (compareOp op) r) (ha : PE X a ta) (hb : PE X b tb) (hm : behindInMarks op b = false) : PE X (.Compare a [op] [b] pos) (tOp r ta tb) := by
  intro pins s σ H Q I h
  exact wpAny_Compare1 (binT ha hb I h fun v u s2 x y H2 I2 rx ry q => ho pins s2 σ H2 x y v u Q I2 rx ry q) hm
def tTest (t : TE) : TT:=fun σ H Q => t σ H fun x H' => ∃ k,x = .bl k∧Q k H'
theorem pt_cmpR {op : CmpOp} {r : R2} (ho : OpR X (compareOp op) r) (ha : PE X a ta) (hb : PE X b tb) (hm : behindInMarks op b = false) : PT X (.Compare a [op] [b] pos) (tTest (tOp r ta tb)) := by
  intro pins s σ H Q I h
  refine wpAny_isTrue_Compare1 (thn (ha pins s σ H _ I h) fun v s1 ⟨x,H1,I1,r1,q1⟩ => thn (hb pins s1 σ H1 _ I1 q1) fun u s2 ⟨y,H2,I2,r2,q2⟩ =>
    thn (ho pins s2 σ H2 x y v u _ I2 r1 r2 q2) fun c s3 ⟨z,H3,I3,r3,k,e,q3⟩ => ?_) hm
  subst e
  cases r3
  exact wpAny_truthy_bool ⟨H3,I3,q3⟩
theorem line63 : (sizeLine : Nat) < 2 ^ 63 := by rw [sizeLine_eq]; decide
theorem op_add_str : OpR X (binaryOp .Add) (fun x y H Q => ∃ i j,x = .str i∧y = .str j∧i.length + j.length≤sizeLine∧Q (.str (i ++ j)) H) := by
  intro pins s σ H x y v u Q I rx ry h
  obtain ⟨i,j,rfl,rfl,hz,q⟩:=h
  obtain ⟨t,rfl⟩:=rx
  obtain ⟨t',rfl⟩:=ry
  exact add_str (fun t' tk => ⟨.str (i ++ j),H,I.tok _,⟨_,rfl⟩,q⟩) hz
theorem vals1 {x : V} {us : List Value} (r : Vals [x] us) : ∃ u,us = [u]∧RelV x u := by
  cases r with
  | cons r1 r2 => cases r2; exact ⟨_,rfl,r1⟩
theorem vals2 {x y : V} {us : List Value} (r : Vals [x,y] us) : ∃ u w',us = [u,w']∧RelV x u∧RelV y w' := by
  cases r with
  | cons r1 r2 =>
    cases r2 with
    | cons r3 r4 => cases r4; exact ⟨_,_,rfl,r1,r3⟩
theorem call_abs : CallR X (.builtin "abs") (fun xs H Q => ∃ i,xs = [.int i]∧Q (.int (if i < 0 then -i else i)) H) := by
  intro pins s σ H xs us Q I r h
  obtain ⟨i,rfl,q⟩:=h
  obtain ⟨u,rfl,t,rfl⟩:=vals1 r
  exact call_abs_int fun u tk => ⟨.int (if i < 0 then -i else i),H,I.tok _,⟨_,rfl⟩,q⟩
theorem call_max2 (hc : X.calm = true) : CallR X (.builtin "max") (fun xs H Q => ∃ i j,xs = [.int i,.int j]∧Q (.int (if j > i then j else i)) H) := by
  intro pins s σ H xs us Q I r h
  obtain ⟨i,j,rfl,q⟩:=h
  obtain ⟨u,w',rfl,⟨t,rfl⟩,⟨t',rfl⟩⟩:=vals2 r
  refine max_two_ints (I.ok.hd hc) fun h' tk k => ⟨_,H,I.kept k,?_,q⟩
  by_cases hj : j > i
  · rw [if_pos hj,if_pos hj]; exact ⟨_,rfl⟩
  · rw [if_neg hj,if_neg hj]; exact ⟨_,rfl⟩
end
structure ObjM (h : Heap) (x dx C : Addr) (mA : Str→Option Value) : Prop where
  obj : h.get? x = some (PySem.W.instObj C dx)
  ns : h.Ns1 dx mA
  ne : dx≠x
theorem lookIn_ns {h : Heap} {dx : Addr} {mA : Str→Option Value} (n : h.Ns1 dx mA) : ∃ od,h.get? dx = some od∧∀ name,PySem.W.lookIn name od = some (mA name) := by
  obtain ⟨o,es,ep,ho,hd,hk,_,hm⟩:=n
  refine ⟨o,ho,fun name => ?_⟩
  have e:=hm name
  unfold nsFind findBy at e
  rw [← Array.find?_toList] at e
  unfold PySem.W.lookIn
  rw [hd]
  dsimp only
  split
  · rename_i y q
    rw [q] at e
    exact congrArg some e
  · rename_i q
    rw [q] at e
    have a : es.toList.any (·.refKey) = false := by
      rw [List.any_eq_false]
      intro y hy
      obtain ⟨z,t,hkey⟩:=hk y (Array.mem_toList_iff.mp hy)
      simp [DictEntry.refKey,hkey]
    have a' : ¬ es.toList.any (·.refKey) = true := by rw [a]; exact Bool.false_ne_true
    rw [if_neg a']
    exact congrArg some e
theorem ObjM.look {h : Heap} {x dx C : Addr} {mA : Str→Option Value} (I : ObjM h x dx C mA) : ∃ od,PySem.W.InstAt h x (PySem.W.instObj C dx) C (some od)∧∀ name,PySem.W.lookIn name od = some (mA name) :=
  let ⟨od,ho,hl⟩:=lookIn_ns I.ns
  ⟨od,⟨I.obj,rfl,rfl,ho⟩,hl⟩
theorem RelO.some_of {v : V} {o : Option Value} (r : RelO (some v) o) : ∃ u,o = some u∧RelV v u := by
  cases o with
  | none => exact (show False from r).elim
  | some u => exact ⟨u,rfl,r⟩
section
variable {P : Program} {w : World} {H : Hp} {h : Heap} {a C dx : Addr} {fs : List (Str×V)}
theorem ins_get (hok : HOk P w H h) (e : H a = some (.ins C dx fs)) : ∃ mA,ObjM h a dx C mA∧(∀ f,RelO (fs.lookup f) (mA f))∧PySem.Within mA (fs.map (·.1))∧fs.length≤1000∧H dx = some (.own a) := by
  obtain ⟨d,z,ne,ob,mA,n,r,q⟩:=(show ObjOk P w H h a (.ins C dx fs) from hok a _ e)
  exact ⟨mA,⟨ob,n,ne⟩,r,q,z,d⟩
end
structure Cls (K : PySem.W.Frag) (C : Addr) : Prop where
  pg : PySem.W.plainGet K C Str.empty = true
  hd : PySem.W.hasDictIn K C = true
  po : PySem.W.plainOver K C = true
  sa : PySem.W.findIn K (.ref C) "__setattr__" = some (some (.builtin "object.__setattr__"))
theorem Cls.get {K : PySem.W.Frag} {C : Addr} (c : Cls K C) (f : Str) : PySem.W.plainGet K C f = true:=c.pg
section
variable {X : Cx} {pins : List (Addr×Obj)} {σ : St} {H : Hp} {s : Shared} {A : Around} {E : Value→Shared→Prop} {Q : Value→Shared→Prop} {c : Value} {b : Bool}
inductive TyOf (K : PySem.W.Frag) (H : Hp) : V→Value→Prop where
  | non : TyOf K H .non (.type "NoneType")
  | bl (x : Bool) : TyOf K H (.bl x) (.type "bool")
  | int (i : Int) : TyOf K H (.int i) (.type "int")
  | str (x : Str) : TyOf K H (.str x) (.type "str")
  | flt (x : UInt64) : TyOf K H (.flt x) (.type "float")
  | lst {a : Addr} {xs : List V} (e : H a = some (.lst xs)) : TyOf K H (.ref a) (.type "list")
  | frz {a : Addr} {o : Obj} {xs : List V} (e : H a = some (.frz o (.lst xs))) : TyOf K H (.ref a) (.type "list")
  | tup {a : Addr} {xs : List V} (e : H a = some (.tup xs)) : TyOf K H (.ref a) (.type "tuple")
  | dK {a : Addr} {kvs : List (Key×V)} (e : H a = some (.dK kvs)) : TyOf K H (.ref a) (.type "dict")
  | dT {a : Addr} {kvs : List (List Key×V)} (e : H a = some (.dT kvs)) : TyOf K H (.ref a) (.type "dict")
  | ins {a C dx : Addr} {fs : List (Str×V)} (e : H a = some (.ins C dx fs)) (cl : Cls K C) (ha : PySem.W.findIn K (.ref C) "__class__" = some (some (.builtin "object.__class__")))
      (hn : PySem.W.specialIn K (.builtin "object.__class__") "__get__" = some (some (.builtin "getset_descriptor.__get__"))) (htk : PySem.W.takesIn K (.builtin "object.__class__") = some true)
      (hm : PySem.W.mroIn K C (.type "object") = some true) : TyOf K H (.ref a) (.ref C)
theorem isinst_ok {x : V} {u t : Value} (I : Inv X pins σ H s) (rx : RelV x u) (ty : TyOf X.K H x t) (e : PySem.W.kitOne X.K t c = some b) (h : ∀ tk,Q (.bool b) { s with toks:=tk }) :
    wpAny (model X.prog X.w) A (call (.builtin "isinstance") [u,c]) Q E s := by
  cases ty with
  | non => cases (show u = Value.none from rx); exact PySem.W.kia_one PySem.W.kitx_none I.kIn True.intro e (fun z => nomatch z) h
  | bl y => cases (show u = Value.bool y from rx); exact PySem.W.kia_one PySem.W.kitx_bool I.kIn True.intro e (fun z => nomatch z) h
  | int i => obtain ⟨t,q⟩:=(show ∃ t,u = Value.int i t from rx); cases q; exact PySem.W.kia_one PySem.W.kitx_int I.kIn True.intro e (fun z => nomatch z) h
  | str y => obtain ⟨t,q⟩:=(show ∃ t,u = Value.str y t from rx); cases q; exact PySem.W.kia_one PySem.W.kitx_str I.kIn True.intro e (fun z => nomatch z) h
  | flt y => obtain ⟨t,q⟩:=(show ∃ t,u = Value.float y t from rx); cases q; exact PySem.W.kia_one PySem.W.kitx_float I.kIn True.intro e (fun z => nomatch z) h
  | @lst a xs ea =>
    cases (show u = Value.ref a from rx)
    obtain ⟨_,_,n,_,h1⟩:=(show ObjOk X.prog X.w H s.heap a (.lst xs) from I.hok a _ ea)
    exact PySem.W.kia_one PySem.W.kitx_list I.kIn ⟨_,h1,rfl⟩ e (fun z => nomatch z) h
  | @frz a ob xs ea =>
    cases (show u = Value.ref a from rx)
    obtain ⟨_,_,_,n,_,h1⟩:=(show ObjOk X.prog X.w H s.heap a (.frz ob (.lst xs)) from I.hok a _ ea)
    exact PySem.W.kia_one PySem.W.kitx_list I.kIn ⟨_,h1,rfl⟩ e (fun z => nomatch z) h
  | @tup a xs ea =>
    cases (show u = Value.ref a from rx)
    obtain ⟨_,_,_,p⟩:=(show ObjOk X.prog X.w H s.heap a (.tup xs) from I.hok a _ ea)
    obtain ⟨o,h1,h2,_⟩:=p
    exact PySem.W.kia_one PySem.W.kitx_tuple I.kIn ⟨o,h1,h2⟩ e (fun z => nomatch z) h
  | @dK a kvs ea =>
    cases (show u = Value.ref a from rx)
    obtain ⟨_,_,vs,_,p⟩:=(show ObjOk X.prog X.w H s.heap a (.dK kvs) from I.hok a _ ea)
    obtain ⟨o,es,ep,h1,h2,_⟩:=p
    exact PySem.W.kia_one PySem.W.kitx_dict I.kIn ⟨o,h1,h2.1⟩ e (fun z => nomatch z) h
  | @dT a kvs ea =>
    cases (show u = Value.ref a from rx)
    obtain ⟨_,_,xs,_,o,es,ep,h1,h2,_⟩:=(show ObjOk X.prog X.w H s.heap a (.dT kvs) from I.hok a _ ea)
    exact PySem.W.kia_one PySem.W.kitx_dict I.kIn ⟨o,h1,h2.1⟩ e (fun z => nomatch z) h
  | @ins a C dx fs ea cl ha hn htk hm =>
    cases (show u = Value.ref a from rx)
    obtain ⟨mA,O,_⟩:=ins_get I.hok ea
    obtain ⟨od,J,_⟩:=O.look
    exact PySem.W.kia_one (PySem.W.kitx_own (cl.get _) cl.hd ha hn htk hm) I.kIn J e (fun z => nomatch z) h
end
structure Room (k : Nat) (A : Around) : Prop where
  hd : A.handled = none
  dp : A.depth + 3 * k + 5 < recursionLimit
  un : A.units + 16 * k + 200 < cLine
theorem Room.mono {j k : Nat} {A : Around} (r : Room k A) (h : j≤k := by decide) : Room j A:=⟨r.hd,by have:=r.dp; lia,by have:=r.un; lia⟩
theorem Room.deeper {k : Nat} {A : Around} (r : Room (k + 1) A) (env : Env) : Room k (A.deeper env) :=
  ⟨r.hd,by have:=r.dp; show A.depth + 1 + 3 * k + 5 < _; lia,by have:=r.un; show A.units + 3 + 16 * k + 200 < _; lia⟩
theorem Room.depth {k : Nat} {A : Around} (r : Room k A) : A.depth < recursionLimit := by have:=r.dp; lia
theorem Room.units {k : Nat} {A : Around} (r : Room k A) : A.units + 64 < cLine := by have:=r.un; lia
def tNil : TA:=fun _ H Q => Q [] H
def tCons (ta : TE) (tr : TA) : TA:=fun σ H Q => ta σ H fun x H1 => tr σ H1 fun xs H2 => Q (x :: xs) H2
section
variable {X : Cx} {e : Expr} {es : List Expr} {te : TE} {t : TA} {pos : Pos}
theorem pa_nil : PA X [] tNil:=fun _ _ _ _ H Q I h => Calls.spliced_nil ⟨[],H,I,.nil,h⟩
theorem pa_cons (ha : PE X e te) (hr : PA X es t) (hs : starEach (e :: es) X.env = (false,eval e X.env) :: starEach es X.env := by rfl) : PA X (e :: es) (tCons te t) := by
  intro pos pins s σ H Q I h
  rw [hs]
  show wpAny _ _ (spliced ((false,eval e X.env) :: backTo pos (starEach es X.env))) _ _ s
  refine Calls.spliced_cons (thn (ha pins s σ H _ I h) fun u s1 ⟨x,H1,I1,r1,q1⟩ => ?_)
  exact thn (hr pos pins s1 σ H1 _ I1 q1) fun us s2 ⟨xs,H2,I2,r2,q2⟩ => ⟨x :: xs,H2,I2,.cons r1 r2,q2⟩
def tTup (t : TA) : TE:=fun σ H Q => t σ H fun xs H1 => xs.length≤sizeLine∧∀ p,H1 p = none→Q (.ref p) (upd H1 p (.tup xs))
def tLst (t : TA) : TE:=fun σ H Q => t σ H fun xs H1 => xs.length≤sizeLine∧∀ p,H1 p = none→Q (.ref p) (upd H1 p (.lst xs))
theorem pe_tup {x1} (h : PA X es t) : PE X (.Tuple es x1 pos) (tTup t) := by
  intro pins s σ H Q I hq
  refine wpAny_Tuple_spliced (thn (h pos pins s σ H _ I hq) fun us s1 ⟨xs,H1,I1,r,z,q⟩ => ⟨by rw [← r.length]; exact z,?_⟩)
  have hf : H1 s1.heap.objs.size = none:=I1.hok.fresh (Nat.le_refl _)
  refine ⟨.ref s1.heap.objs.size,upd H1 s1.heap.objs.size (.tup xs),I1.laid (t':=s1.toks) (fun b u e => Heap.get?_push_of_some _ e) (Nat.le_refl _) ?_,rfl,q _ hf⟩
  exact ⟨z,us,r,⟨_,Heap.get?_push_size _ rfl,rfl,_,rfl⟩⟩
theorem pe_lst (h : PA X es t) : PE X (.List es pos) (tLst t) := by
  intro pins s σ H Q I hq
  refine wpAny_List_spliced (thn (h pos pins s σ H _ I hq) fun us s1 ⟨xs,H1,I1,r,z,q⟩ => ⟨by rw [← r.length]; exact z,?_⟩)
  have hf : H1 s1.heap.objs.size = none:=I1.hok.fresh (Nat.le_refl _)
  refine ⟨.ref s1.heap.objs.size,upd H1 s1.heap.objs.size (.lst xs),I1.laid (t':=s1.toks) (fun b u e => Heap.get?_push_of_some _ e) (Nat.le_refl _) ?_,rfl,q _ hf⟩
  exact ⟨z,us,0,r,Heap.get?_push_size _ rfl⟩
end
abbrev Sp:=List V→Hp→VK→XK→Prop
abbrev CXT:=List Env→Hp→Shared→XK→Value→Shared→Prop
structure Env0 (P : Program) (w : World) (K : PySem.W.Frag) (mg : Str→Option Value) (base : Heap) (A : Around) (outer : List Env) (s : Shared) (H : Hp) : Prop where
  frames : A.frames = some outer
  mod : Mod K mg base
  bs : ∀ b o,base.get? b = some o→s.heap.get? b = some o∧H b = none
  bsz : base.objs.size≤s.heap.objs.size
  funs : s.heap.FunFrames base outer
  frf : ∀ b∈frs outer,H b = none
  hok : HOk P w H s.heap
  bare : AllBare s.gens
  kt : KTb mg H
def CE (outer : List Env) (P : Program) (w : World) (H : Hp) (s : Shared) (Q : VK) (u : Value) (s' : Shared) : Prop :=
  ∃ v H',s'.os = s.os∧AllBare s'.gens∧Un (frs outer) [] H H' s.heap s'.heap∧HOk P w H' s'.heap∧RelV v u∧Q v H'
def CR (CX : CXT) (outer : List Env) (P : Program) (w : World) (H : Hp) (s : Shared) (Q : VK) (E : XK) (r : Result) (s' : Shared) : Prop :=
  match r with
  | .ok (.ret u) => CE outer P w H s Q u s'
  | .ok _ => False
  | .error e => CX outer H s E e s'
structure FnOk (P : Program) (w : World) (K : PySem.W.Frag) (mg : Str→Option Value) (base : Heap) (CX : CXT) (k : Nat) (f : Addr) (fd : FuncData) (ps : List Str) (sp : Sp) : Prop where
  len : ∀ vs H Q E,sp vs H Q E→vs.length = ps.length
  run : ∀ (A : Around) (outer : List Env) (s : Shared) (H : Hp) (args : Args) (us : List Value) (vs : List V) (Q : VK) (E : XK),Room k A→Env0 P w K mg base A outer s H→BindsTo s fd args (ps.zip us)→Vals vs us→sp vs H Q E →
    codeAny (model P w) A (.call (.ref f) args) (CR CX outer P w H s Q E) s
theorem FnOk.mono {P : Program} {w : World} {K : PySem.W.Frag} {mg : Str→Option Value} {base : Heap} {CX : CXT} {j k : Nat} {f : Addr} {fd : FuncData} {ps : List Str} {sp : Sp} (F : FnOk P w K mg base CX j f fd ps sp) (h : j≤k := by decide) :
    FnOk P w K mg base CX k f fd ps sp:=⟨F.len,fun A outer s H args us vs Q E hr => F.run A outer s H args us vs Q E (hr.mono h)⟩
theorem FnOk.imp {P : Program} {w : World} {K : PySem.W.Frag} {mg : Str→Option Value} {base : Heap} {CX : CXT} {k : Nat} {f : Addr} {fd : FuncData} {ps : List Str} {sp sp' : Sp} (F : FnOk P w K mg base CX k f fd ps sp)
    (h : ∀ vs H Q E,sp' vs H Q E→sp vs H Q E) : FnOk P w K mg base CX k f fd ps sp' :=
  ⟨fun vs H Q E q => F.len vs H Q E (h _ _ _ _ q),fun A outer s H args us vs Q E hr he hb hv hs => F.run A outer s H args us vs Q E hr he hb hv (h _ _ _ _ hs)⟩
section
variable {X : Cx} {pins : List (Addr×Obj)} {σ : St} {H : Hp} {s s' : Shared}
theorem Inv.env0 (I : Inv X pins σ H s) : Env0 X.prog X.w X.K X.mg X.base X.A X.stack s H :=
  ⟨I.ok.frames,I.ok.mod,I.bs,Nat.le_trans I.ok.bsz I.sz,I.stack,I.stkFree,I.hok,I.bare,I.kt⟩
theorem Inv.after {Q : VK} {u : Value} (I : Inv X pins σ H s) (h : CE X.stack X.prog X.w H s Q u s') : EP X pins σ Q u s' := by
  obtain ⟨v,H',os,bare,un,hok,r,q⟩:=h
  obtain ⟨hh,g,d,t,os'⟩:=s'
  obtain rfl : os' = s.os:=os
  exact ⟨v,H',I.call (h':=hh) (g':=g) (d':=d) (t':=t) (ch:=[]) un hok bare (fun b z => absurd z (by simp)),r,q⟩
end
def tCall (sp : Sp) (dvs : List V) (E : XK) (t : TA) : TE:=fun σ H Q => t σ H fun vs H1 => sp (vs ++ dvs) H1 Q E
def Binds (K : PySem.W.Frag) (fd : FuncData) (ps : List Str) (ds : List Value) : Prop :=
  ∀ (s : Shared) (us : List Value),K.In s.heap→(us ++ ds).length = ps.length→BindsTo s fd ⟨us,[]⟩ (ps.zip (us ++ ds))
theorem Binds.all {K : PySem.W.Frag} {fd : FuncData} {ps : List Str} (h : ∀ us : List Value,us.length = ps.length→bindArgs fd ⟨us,[]⟩ = pure (ps.zip us)) : Binds K fd ps []:=fun s us _ hl => by
  rw [List.append_nil] at hl ⊢
  exact .of_eq (h us hl)
def Passes (CX : CXT) (X : Cx) (E : XK) : Prop:=∀ (pins : List (Addr×Obj)) (σ : St) (H : Hp) (s : Shared) (e : Value) (s' : Shared),Inv X pins σ H s→CX X.stack H s E e s'→X.xe e s'
section
variable {X : Cx} {CX : CXT} {k : Nat} {f : Addr} {fd : FuncData} {ps : List Str} {sp : Sp} {dvs : List V} {ds : List Value} {E : XK} {x : Str} {p pos : Pos} {e : Expr} {es : List Expr}  {t : TA}
theorem run_fn {pins : List (Addr×Obj)} {σ : St} {H : Hp} {s : Shared} {Q : VK} {us : List Value} {vs : List V} (F : FnOk X.prog X.w X.K X.mg X.base CX k f fd ps sp) (hr : Room k X.A) (hb : Binds X.K fd ps ds) (hd : Vals dvs ds) (hx : Passes CX X E)
    (I : Inv X pins σ H s) (r : Vals vs us) (h : sp (vs ++ dvs) H Q E) : wpAny (model X.prog X.w) X.A (call (.ref f) us) (EP X pins σ Q) X.xe s := by
  have r2 : Vals (vs ++ dvs) (us ++ ds):=r.append hd
  have hl : (us ++ ds).length = ps.length := by rw [← r2.length]; exact F.len _ _ _ _ h
  refine wpAny_call (codeAny_mono (F.run X.A X.stack s H ⟨us,[]⟩ (us ++ ds) (vs ++ dvs) Q E hr I.env0 (hb s us I.kIn hl) r2 h) fun r s' hq => ?_)
  cases r with
  | error e => exact hx pins σ H s e s' I hq
  | ok fl =>
    cases fl with
    | ret u => exact I.after hq
    | next => exact False.elim hq
    | brk => exact False.elim hq
    | cont => exact False.elim hq
theorem pe_call (F : FnOk X.prog X.w X.K X.mg X.base CX k f fd ps sp) (hr : Room k X.A) (hg : Gl X x) (hm : X.mg x = some (.ref f)) (hk : PySem.W.keepIn X.K (.ref f) = true) (hb : Binds X.K fd ps ds) (hd : Vals dvs ds) (hx : Passes CX X E)
    (ha : PA X (e :: es) t) (hdb : (x == ("__debug__" : Str)) = false := by decide) (he : starEach (e :: es) X.env = (false,eval e X.env) :: starEach es X.env := by rfl) (hpl : (backTo pos (starEach es X.env)).any (·.1) = false := by rfl) :
    PE X (.Call (.Name x p) (e :: es) [] pos) (tCall sp dvs E t) := by
  intro pins s σ H Q I h
  refine wpAny_Call_Name_kw (ld_glob I hg hm ?_ hdb)
  refine PySem.W.callWith_K (h₀:=X.base) I.ok.mod.kin hk (thn (ha pos pins s σ H _ I h) fun us s1 ⟨vs,H1,I1,r,q⟩ => ⟨I1.kIn,?_⟩) he hpl
  exact run_fn F hr hb hd hx I1 r q
end
structure FnScope (N P : List Str) (sc : Scope) : Prop where
  kind : sc.kind = .function
  co : sc.isCoroutine = false
  gen : sc.isGenerator = false
  nd : N.Nodup
  pre : N.take P.length = P
  par : ∀ x∈P,sc.names.lookup x = some .local∨sc.names.lookup x = some .cell
  nofree : ∀ y∈sc.names,y.2≠.free
theorem bindL_out {kindOf : Str→Option NameKind} {x : Str} : ∀ {binds : List (Str×Value)} {m : Str→Option Value},(∀ v,(x,v) ∉ binds)→bindL kindOf binds m x = m x
  | [],_,_ => rfl
  | (n,v) :: r,m,h => by
    unfold bindL
    rw [bindL_out fun w hw => h w (List.mem_cons_of_mem _ hw)]
    split
    · have : x≠n := by rintro rfl; exact h v List.mem_cons_self
      simp [this]
    · rfl
theorem bindC_out {kindOf : Str→Option NameKind} {x : Str} : ∀ {binds : List (Str×Value)} {m : Str→Option Value},(∀ v,(x,v) ∉ binds)→bindC kindOf binds m x = m x
  | [],_,_ => rfl
  | (n,v) :: r,m,h => by
    unfold bindC
    rw [bindC_out fun w hw => h w (List.mem_cons_of_mem _ hw)]
    split
    · rfl
    · have : x≠n := by rintro rfl; exact h v List.mem_cons_self
      simp [this]
theorem bindL_get {kindOf : Str→Option NameKind} {x : Str} {v : Value} : ∀ {P : List Str} {vs : List Value} {i : Nat} {m : Str→Option Value},P.Nodup→P[i]? = some x→vs[i]? = some v→kindOf x = some .local →
    bindL kindOf (P.zip vs) m x = some v
  | [],_,_,_,_,h,_,_ => by simp at h
  | _ :: _,[],_,_,_,_,h,_ => by simp at h
  | p :: P,w :: vs,0,m,nd,h1,h2,hk => by
    simp at h1 h2; subst h1; subst h2
    show bindL kindOf ((p,w) :: P.zip vs) m p = _
    unfold bindL
    rw [bindL_out fun v hv => (List.nodup_cons.mp nd).1 (List.of_mem_zip hv).1,if_pos hk]
    simp
  | p :: P,w :: vs,i + 1,m,nd,h1,h2,hk => by
    show bindL kindOf ((p,w) :: P.zip vs) m x = _
    unfold bindL
    exact bindL_get (i:=i) (List.nodup_cons.mp nd).2 (by simpa using h1) (by simpa using h2) hk
theorem bindC_get {kindOf : Str→Option NameKind} {x : Str} {v : Value} : ∀ {P : List Str} {vs : List Value} {i : Nat} {m : Str→Option Value},P.Nodup→P[i]? = some x→vs[i]? = some v→kindOf x≠some .local →
    bindC kindOf (P.zip vs) m x = some v
  | [],_,_,_,_,h,_,_ => by simp at h
  | _ :: _,[],_,_,_,_,h,_ => by simp at h
  | p :: P,w :: vs,0,m,nd,h1,h2,hk => by
    simp at h1 h2; subst h1; subst h2
    show bindC kindOf ((p,w) :: P.zip vs) m p = _
    unfold bindC
    rw [bindC_out fun v hv => (List.nodup_cons.mp nd).1 (List.of_mem_zip hv).1,if_neg hk]
    simp
  | p :: P,w :: vs,i + 1,m,nd,h1,h2,hk => by
    show bindC kindOf ((p,w) :: P.zip vs) m x = _
    unfold bindC
    exact bindC_get (i:=i) (List.nodup_cons.mp nd).2 (by simpa using h1) (by simpa using h2) hk
def start (N : List Str) (vs : List V) : St:=vs.map some ++ List.replicate (N.length - vs.length) none
def cxOf (CX : CXT) (P : Program) (w : World) (K : PySem.W.Frag) (mg : Str→Option Value) (base : Heap) (N : List Str) (qual : Str) (scope : Scope) (f : Addr) (cd : Value) (A : Around) (outer : List Env) (s : Shared) (H : Hp) (E : XK) : Cx where
  prog:=P
  w:=w
  K:=K
  mg:=mg
  base := base
  A:=A.deeper (envOfC qual scope s.heap.objs.size f cd)
  N:=N
  s₀:=s
  H₀:=H
  env:=envOfC qual scope s.heap.objs.size f cd
  outer:=outer
  stack:=envOfC qual scope s.heap.objs.size f cd :: outer
  ex:=[]
  calm:=true
  fn:=fun _ => true
  pn:=[]
  xe:=fun e s' => wpAny (model P w) (A.deeper (envOfC qual scope s.heap.objs.size f cd)) (leaving (envOfC qual scope s.heap.objs.size f cd) e) (fun _ s'' => CX outer H s E e s'') (fun e' s'' => CX outer H s E e' s'') s'
theorem cell_has {sc : Scope} {n : Nat} {x : Str} (h : sc.names.lookup x = some .cell) : ∃ c,(cellsFrom n sc.names []).lookup x = some c := by
  have q:=PySem.W.cellsFrom_some sc.names n [] (.inl h)
  exact Option.isSome_iff_exists.mp q
theorem inv_start {CX : CXT} {P : Program} {w : World} {K : PySem.W.Frag} {mg : Str→Option Value} {base : Heap} {N ps : List Str} {qual : Str} {scope : Scope} {f : Addr} {cd : Value} {A : Around} {outer : List Env} {s s1 : Shared} {H : Hp} {E : XK} {us : List Value} {vs : List V}
    (S : FnScope N ps scope) (hd : A.handled = none) (e0 : Env0 P w K mg base A outer s H) (hl : vs.length = ps.length) (r : Vals vs us)
    (x : InCallC s s.heap.objs.size (bindL (envOfC qual scope s.heap.objs.size f cd).kindOf (ps.zip us) fun _ => none) (cellsFrom (s.heap.objs.size + 1) scope.names []) (bindC (envOfC qual scope s.heap.objs.size f cd).kindOf (ps.zip us) fun _ => none) s1) :
    Inv (cxOf CX P w K mg base N qual scope f cd A outer s H E) [] (start N vs) H s1 := by
  have hpl : ps.length≤N.length := by have:=congrArg List.length S.pre; rw [List.length_take] at this; lia
  obtain ⟨h1,tk,rfl,hk⟩:=x.done
  have noA : ∀ b : Addr,b ∉ (cxOf CX P w K mg base N qual scope f cd A outer s H E).ex:=fun b z => absurd (show b∈([] : List Addr) from z) (by simp)
  refine ⟨⟨e0.mod,S.kind,rfl,rfl,Nat.le_refl _,fun y z c h1 h2 => ?_,fun y hy => ?_,fun y c _ h => ?_,fun _ => hd,Around.frames_deeper e0.frames,.inr ⟨rfl,rfl⟩,fun b z => absurd z (noA b),e0.bs,e0.bsz,fun b _ _ => noA b,fun b z => absurd z (noA b),e0.funs,e0.frf,e0.kt⟩,
    rfl,e0.bare,Un.kept hk,⟨_,x.toInCall.ns,fun i y v h1 h2 h3 => ?_⟩,fun y c h => ⟨_,x.cell y c h⟩,e0.hok.fresh (Nat.le_refl _),fun y c h => ?_,fun p hp => absurd (show p∈([] : List (Addr×Obj)) from hp) (by simp),e0.hok.kept hk,?_⟩
  · exact name_of_addr x.apart (PySem.mem_of_lookup h1) (PySem.mem_of_lookup h2)
  · have hy : scope.names.lookup y = some .cell∨scope.names.lookup y = some .free:=hy
    rcases hy with hy | hy
    · exact cell_has hy
    · exact absurd rfl (S.nofree _ (PySem.mem_of_lookup hy))
  · exact Nat.le_of_lt (x.above y c (PySem.mem_of_lookup h))
  · have hi : i < vs.length := by
      unfold start at h2
      by_cases hi : i < vs.length
      · exact hi
      · rw [List.getElem?_append_right (by simpa using hi)] at h2
        rw [List.getElem?_replicate] at h2
        split at h2 <;> cases h2
    have ha : vs[i]? = some v := by
      unfold start at h2
      rw [List.getElem?_append_left (by simpa using hi),List.getElem?_map] at h2
      cases e : vs[i]? with
      | none => rw [e] at h2; cases h2
      | some a => rw [e] at h2; cases h2; rfl
    obtain ⟨u,hu,rv⟩:=r.get ha
    have hp : ps[i]? = some y := by
      rw [← S.pre,List.getElem?_take_of_lt (by lia)]; exact h1
    have ndP : ps.Nodup := by rw [← S.pre]; exact S.nd.sublist (List.take_sublist _ _)
    refine ⟨u,rv,?_⟩
    rcases S.par y (List.mem_of_getElem? hp) with k | k
    · exact .inl ⟨k,bindL_get ndP hp hu k⟩
    · obtain ⟨c,e⟩:=cell_has (n:=s.heap.objs.size + 1) k
      refine .inr ⟨.inl k,c,e,?_⟩
      have q:=x.cell y c e
      rw [bindC_get ndP hp hu (by show scope.names.lookup y≠_; rw [k]; decide)] at q
      exact q
  · exact e0.hok.fresh (Nat.le_of_lt (x.above y c (PySem.mem_of_lookup h)))
  · unfold start
    show _ = N.length
    rw [List.length_append,List.length_map,List.length_replicate]
    lia
theorem fn_of {CX : CXT} {P : Program} {w : World} {K : PySem.W.Frag} {mg : Str→Option Value} {base : Heap} {k : Nat} {f : Addr} {name qual : Str} {params : Arguments} {body : List Stmt} {scope : Scope} {dV kV doc pm cdv ct oc : Value} {an od : Option Addr}
    {osl : Array (Option Value)} {N ps : List Str} {sp : Sp} (lk : K.lookup f = some ⟨oc,od,.func (PySem.W.fnOf name qual params body scope dV kV doc pm an cdv ct),osl⟩) (hcd : PySem.W.codeIn K cdv qual = true) (S : FnScope N ps scope)
    (len : ∀ vs H Q E,sp vs H Q E→vs.length = ps.length)
    (hbody : ∀ (A : Around) (outer : List Env) (s : Shared) (H : Hp) (vs : List V) (Q : VK) (E : XK),Room k (A.deeper (envOfC qual scope s.heap.objs.size f cdv))→sp vs H Q E →
      ∃ t,PSs (cxOf CX P w K mg base N qual scope f cdv A outer s H E) body t∧t { nx:=fun _ H' => Q .non H',rt:=Q } (start N vs) H) :
    FnOk P w K mg base CX (k + 1) f (PySem.W.fnOf name qual params body scope dV kV doc pm an cdv ct) ps sp := by
  refine ⟨len,fun A outer s H args us vs Q E hr e0 hb r hsp => ?_⟩
  have hl:=len _ _ _ _ hsp
  have KX : K.In s.heap:=e0.mod.kin.keeps fun b o e => (e0.bs b o e).1
  have lim : s.heap.NoLimit:=e0.mod.nolimit.keeps fun b o e => (e0.bs b o e).1
  have hkind : ∀ y∈ps.zip us,scope.names.lookup y.1 = some .local∨(scope.names.lookup y.1 = some .cell∧((cellsFrom (s.heap.objs.size + 1) scope.names []).lookup y.1).isSome = true):=fun ⟨n,v⟩ hy => by
    rcases S.par n (List.of_mem_zip hy).1 with q | q
    · exact .inl q
    · exact .inr ⟨q,PySem.W.cellsFrom_some _ _ _ (.inl q)⟩
  refine codeAny_call_function hr.depth (KX _ _ lk) rfl S.co S.gen rfl (PySem.W.codeRec_of KX hcd) (hb _ _ _ _ ?_)
  refine wpAny_newFunctionEnv_cells S.kind hkind fun env he s1 x => ?_
  subst he
  refine ⟨lim.keeps x.toInCall.keep,codeAny_func ?_⟩
  obtain ⟨t,ht,hq⟩:=hbody A outer s H vs Q E (hr.deeper _) hsp
  have I : Inv (cxOf CX P w K mg base N qual scope f cdv A outer s H E) [] (start N vs) H s1:=inv_start S hr.hd e0 hl r x
  refine wpAny_mono (ht [] s1 (start N vs) H _ I hq) (fun fl s' hs => ?_) fun e s' hs => hs
  have fin : ∀ {σ' : St} {H' : Hp} {v : V} {u : Value},Inv (cxOf CX P w K mg base N qual scope f cdv A outer s H E) [] σ' H' s'→RelV v u→Q v H'→CE outer P w H s Q u s' :=
    fun {σ' H' v u} J rv q => ⟨v,H',J.os,J.bare,J.base,J.hok,rv,q⟩
  cases fl with
  | ret u =>
    obtain ⟨v,σ',H',J,rv,q⟩:=hs
    exact fin J rv q
  | next =>
    obtain ⟨σ',H',J,q⟩:=hs
    exact fin (v:=V.non) (u:=Value.none) J rfl q
  | brk =>
    obtain ⟨_,_,_,q⟩:=hs
    exact False.elim q
  | cont =>
    obtain ⟨_,_,_,q⟩:=hs
    exact False.elim q
section
variable {X : Cx} {x : Str} {p pos : Pos} {e : Expr} {es : List Expr} {t : TA} {id : String} {r : List V→Hp→VK→Prop}
def tCB (r : List V→Hp→VK→Prop) (t : TA) : TE:=fun σ H Q => t σ H fun vs H1 => r vs H1 Q
theorem pe_callB (hc : CallR X (.builtin id) r) (hg : Gl X x) (hm : X.mg x = none) (hv : bootBuiltins x = some (.builtin id)) (ha : PA X (e :: es) t) (hn : x ≠ "__name__" := by decide) (hdb : (x == ("__debug__" : Str)) = false := by decide)
    (he : starEach (e :: es) X.env = (false,eval e X.env) :: starEach es X.env := by rfl) (hpl : (backTo pos (starEach es X.env)).any (·.1) = false := by rfl) : PE X (.Call (.Name x p) (e :: es) [] pos) (tCB r t) := by
  intro pins s σ H Q I h
  refine wpAny_Call_Name_kw (ld_blt I hg hm hv ?_ hn hdb)
  exact PyProof.Rows.callWith_builtin1 (thn (ha pos pins s σ H _ I h) fun us s1 ⟨vs,H1,I1,r1,q1⟩ => hc pins s1 σ H1 vs us Q I1 r1 q1) he hpl
end
end L2
namespace HT
open PySem PyProof.Rows
section
variable {prog : Program} {w : World} {A : Around} {E : Value→Shared→Prop} {s : Shared}
theorem cat_tup {t b : Addr} {vs ws : List Value} {Q : Value→Shared→Prop} (ht : IsTup s.heap t vs.toArray) (hb : IsTup s.heap b ws.toArray) (hv : vs≠[])
    (h1 : ws = []→Q (.ref t) s) (h2 : ws≠[]→Q (.ref s.heap.objs.size) { s with heap:=s.heap.push { cls:=.type "tuple",data:=.seq (vs ++ ws).toArray } })
    (hsz : vs.length + ws.length≤sizeLine) : wpAny (model prog w) A (binaryOp .Add (.ref t) (.ref b)) Q E s := by
  obtain ⟨⟨cls,dd,data,sl⟩,ho,hc,n,hd⟩:=id ht
  obtain ⟨⟨cls2,dd2,data2,sl2⟩,ho2,hc2,n2,hd2⟩:=id hb
  simp only at hc hd hc2 hd2
  subst hc hd hc2 hd2
  have e : vs.toArray ++ ws.toArray = (vs ++ ws).toArray := by simp
  by_cases hw : ws = []
  · exact concat_meets ⟨_,ho,rfl⟩ ⟨_,ho2,rfl⟩ noFill_tuple_add seq_tuple_add PySem.F.slot_tuple_add PySem.F.entry_tuple_add (PySem.F.args_tuple_add_2 _ _)
      (tuple_addW1 t b vs.toArray ws.toArray n n2 dd dd2 sl sl2 (by simpa using hv) (by simp [hw])) ⟨ho,ho2,h1 hw⟩
  · refine concat_meets ⟨_,ho,rfl⟩ ⟨_,ho2,rfl⟩ noFill_tuple_add seq_tuple_add PySem.F.slot_tuple_add PySem.F.entry_tuple_add (PySem.F.args_tuple_add_2 _ _)
      (tuple_addW2 t b vs.toArray ws.toArray n n2 dd dd2 sl sl2 (by simpa using hv) (by simpa using hw) (by rw [List.size_toArray,List.size_toArray]; exact hsz)) ⟨ho,ho2,?_⟩
    rw [e]
    exact h2 hw
def sIx (n d : Nat) : Option Int→Nat
  | none => d
  | some v => if v < 0 then (v + (n : Int)).toNat else min v.toNat n
theorem sIx_none (n d : Nat) : sIx n d none = d:=rfl
theorem sIx_nat (n d k : Nat) : sIx n d (some (k : Int)) = min k n := by
  show (if (k : Int) < 0 then ((k : Int) + (n : Int)).toNat else min (k : Int).toNat n) = min k n
  rw [if_neg (by lia),Int.toNat_natCast]
theorem sIx_le (n d : Nat) (hd : d≤n) (o : Option Int) : sIx n d o≤n := by
  cases o with
  | none => exact hd
  | some v =>
    show (if v < 0 then (v + (n : Int)).toNat else min v.toNat n)≤n
    by_cases hv : v < 0
    · rw [if_pos hv]; lia
    · rw [if_neg hv]; exact Nat.min_le_right _ _
theorem clip_eq (v : Int) (n d : Nat) : (if v < 0 then max (v + (n : Int)) 0 else min v (n : Int)) = ((sIx n d (some v) : Nat) : Int) := by
  show (if v < 0 then max (v + (n : Int)) 0 else min v (n : Int)) = (((if v < 0 then (v + (n : Int)).toNat else min v.toNat n) : Nat) : Int)
  by_cases hv : v < 0
  · simp only [if_pos hv]; lia
  · simp only [if_neg hv]; lia
theorem adjust_gen (lo hi : Option Int) (n : Nat) : Builtin.Slice.sliceAdjust lo hi 1 (n : Int) = (((sIx n 0 lo : Nat) : Int),((sIx n n hi : Nat) : Int)) := by
  have h1 : ¬ ((1 : Int) < 0) := by lia
  unfold Builtin.Slice.sliceAdjust
  simp only [h1,if_false]
  refine Prod.ext ?_ ?_
  · cases lo with
    | none => rfl
    | some v => exact clip_eq v n 0
  · cases hi with
    | none => rfl
    | some v => exact clip_eq v n n
theorem places_gen (i j : Nat) : Builtin.Slice.slicePlaces (i : Int) (j : Int) 1 = j - i := by
  unfold Builtin.Slice.slicePlaces
  have h1 : (1 : Int) > 0 := by lia
  simp only [h1,if_true,Int.ediv_one]
  split <;> lia
theorem slicePart_ {v : Value} {o : Option Int} {Q : Option Int→Shared→Prop} (p : IsPart v o) (h : Q o s) : wpAny (model prog w) A (Builtin.Slice.slicePartIndex v) Q E s := by
  cases p with
  | none => exact slicePart_none h
  | int i t => exact slicePart_int h
theorem sliceApplied_gen {sl : Addr} {vl vu : Value} {lo hi : Option Int} {n : Nat} {Q : Int×Int×Nat→Shared→Prop} (hs : s.heap.IsSliceOf sl vl vu .none) (pl : IsPart vl lo) (pu : IsPart vu hi)
    (h : Q (((sIx n 0 lo : Nat) : Int),1,sIx n n hi - sIx n 0 lo) s) : wpAny (model prog w) A (Builtin.Slice.sliceApplied (.ref sl) (pure (n : Int))) Q E s := by
  obtain ⟨os,hos,hcs,hds⟩:=id hs
  unfold Builtin.Slice.sliceApplied Builtin.Slice.sliceFields
  refine wpAny_bind (wpAny_bind (wpAny_field hos hds (x:=vl) rfl (wpAny_bind (wpAny_field hos hds (x:=vu) rfl (wpAny_bind (wpAny_field hos hds (x:=.none) rfl (wpAny_pure ?_)))))))
  refine wpAny_bind (slicePart_none ?_)
  show wpAny _ _ (if ((1 : Int) == 0) = true then _ else _) _ _ s
  rw [if_neg (by decide)]
  refine wpAny_bind (slicePart_ pl (wpAny_bind (slicePart_ pu (wpAny_bind (wpAny_pure ?_)))))
  show wpAny _ _ (match Builtin.Slice.sliceAdjust lo hi 1 (n : Int) with | (lo,hi) => pure (lo,(1 : Int),Builtin.Slice.slicePlaces lo hi 1)) _ _ s
  rw [adjust_gen lo hi n]
  show wpAny _ _ (pure (((sIx n 0 lo : Nat) : Int),(1 : Int),Builtin.Slice.slicePlaces ((sIx n 0 lo : Nat) : Int) ((sIx n n hi : Nat) : Int) 1)) _ _ s
  rw [places_gen]
  exact wpAny_pure h
theorem pick_gen (xs : Array Value) (i k : Nat) : ((List.range k).filterMap fun (m : Nat) => xs[((i : Int) + (m : Int) * 1).toNat]?).toArray = ((xs.toList.drop i).take k).toArray := by
  have e : (fun (m : Nat) => xs[((i : Int) + (m : Int) * 1).toNat]?) = fun m => xs[i + m]? := by
    funext m
    have : ((i : Int) + (m : Int) * 1).toNat = i + m := by lia
    rw [this]
  rw [e]
  have:=pick_run xs i k
  rw [List.filterMap_map] at this
  have e2 : ((fun x => xs[x]?) ∘ fun x => i + x) = fun m => xs[i + m]?:=rfl
  rw [e2] at this
  rw [this]
theorem getItem_tuple_cut {t sl : Addr} {items : Array Value} {vl vu : Value} {lo hi : Option Int} {Q : Value→Shared→Prop} (ht : IsTup s.heap t items) (hs : s.heap.IsSliceOf sl vl vu .none) (pl : IsPart vl lo) (pu : IsPart vu hi)
    (hw : ¬ (sIx items.size 0 lo = 0∧sIx items.size items.size hi = items.size))
    (h : Q (.ref s.heap.objs.size) { s with heap:=s.heap.push { cls:=.type "tuple",data:=.seq ((items.toList.drop (sIx items.size 0 lo)).take (sIx items.size items.size hi - sIx items.size 0 lo)).toArray } })
    (hsz : items.size≤sizeLine) : wpAny (model prog w) A (getItem (.ref t) (.ref sl)) Q E s := by
  have htake : sizeOk (.seq ((items.toList.drop (sIx items.size 0 lo)).take (sIx items.size items.size hi - sIx items.size 0 lo)).toArray) := by
    show ((items.toList.drop (sIx items.size 0 lo)).take (sIx items.size items.size hi - sIx items.size 0 lo)).toArray.size≤sizeLine
    rw [List.size_toArray,List.length_take,List.length_drop,Array.length_toList]
    lia
  have hj : sIx items.size items.size hi≤items.size:=sIx_le _ _ (Nat.le_refl _) hi
  obtain ⟨os,hos,hcs,hds⟩:=id hs
  have hTs : s.TypeIs (.ref sl) "slice" := ⟨os,hos,hcs⟩
  unfold getItem
  try with_reducible refine wpAny_holding ?_
  first | refine wpAny_bind (wpAny_pure ?_) | skip
  refine wpAny_bind (wpAny_sequenceKey ht.typeIs (by decide) ?_)
  refine wpAny_bind (wpAny_callSpecial?_slot (name:=Str.ofString "__getitem__") ht.typeIs PyProof.Rows.slot_tuple_getitem
    (wpAny_call_entry PyProof.Rows.slot_tuple_getitem ht.typeIs entry_tuple_getitem ?_ (args_tuple_getitem _ _)))
  show wpAny _ _ (Builtin.Tuple.tupleItemsOf (.ref t) >>= _) _ _ s
  refine wpAny_bind (tupleItemsOf_ ht ?_)
  refine wpAny_bind (wpAny_typeOf hTs ?_)
  rw [if_pos (by decide)]
  refine wpAny_bind (sliceApplied_gen hs pl pu ?_)
  have hno : ¬ ((((sIx items.size 0 lo : Nat) : Int) == 0 && (1 : Int) == 1 && (sIx items.size items.size hi - sIx items.size 0 lo) == items.size) = true) := by
    intro q
    rw [Bool.and_eq_true,Bool.and_eq_true] at q
    have q1 : ((sIx items.size 0 lo : Nat) : Int) = 0:=eq_of_beq q.1.1
    have q2 : sIx items.size items.size hi - sIx items.size 0 lo = items.size:=eq_of_beq q.2
    exact hw ⟨by lia,by lia⟩
  show wpAny _ _ (if (((sIx items.size 0 lo : Nat) : Int) == 0 && (1 : Int) == 1 && (sIx items.size items.size hi - sIx items.size 0 lo) == items.size) = true then _ else _) _ _ s
  rw [if_neg hno,pick_gen]
  first
    | exact wpAny_bind (m:=Builtin.Tuple.tupleExact _) (wpAny_newObj_type (wpAny_pure ⟨_,rfl,wpAny_pure h⟩) htake)
    | exact wpAny_bind (m:=Builtin.Tuple.tupleExact _) (wpAny_newObj_type (wpAny_bind (wpAny_pure (wpAny_pure ⟨_,rfl,wpAny_pure h⟩))) htake)
    | exact wpAny_bind (wpAny_bind (m:=Builtin.Tuple.tupleExact _) (wpAny_newObj_type (wpAny_pure (wpAny_pure ⟨_,rfl,wpAny_pure h⟩)) htake))
    | exact wpAny_bind (wpAny_bind (m:=Builtin.Tuple.tupleExact _) (wpAny_newObj_type (wpAny_pure ⟨_,rfl,wpAny_pure h⟩) htake))
end
end HT
namespace L2
open PySem PySem.Spec PyProof.Rows
abbrev TO:=St→Hp→(Option Int→Hp→Prop)→Prop
def PO (X : Cx) (e : Option Expr) (t : TO) : Prop :=
  ∀ (pins : List (Addr×Obj)) (s : Shared) (σ : St) (H : Hp) (Q : Option Int→Hp→Prop),Inv X pins σ H s→t σ H Q →
    wpAny (model X.prog X.w) X.A (evalPart e X.env) (fun u s' => ∃ o H',Inv X pins σ H' s'∧IsPart u o∧Q o H') X.xe s
def tNoPart : TO:=fun _ H Q => Q none H
def tPart (t : TE) : TO:=fun σ H Q => t σ H fun x H1 => ∃ i,x = .int i∧Q (some i) H1
theorem intsAre_of {ns : List Int} : ∀ {us : List Value},Vals (ns.map V.int) us→IntsAre us ns := by
  induction ns with
  | nil => intro us r; rw [List.map_nil] at r; cases r; exact .nil
  | cons n ns ih =>
    intro us r
    rw [List.map_cons] at r
    cases r with
    | cons r1 r2 =>
      obtain ⟨t,e⟩:=r1
      subst e
      exact .cons n t (ih r2)
section
variable {X : Cx} {e : Expr} {te : TE} {lo hi : Option Expr} {tl th : TO} {pos p2 : Pos}
theorem po_none : PO X none tNoPart := by
  intro pins s σ H Q I h
  rw [evalPart_none]
  exact wpAny_pure ⟨none,H,I,.none,h⟩
theorem po_some (h : PE X e te) : PO X (some e) (tPart te) := by
  intro pins s σ H Q I hw
  rw [evalPart_some]
  refine thn (h pins s σ H _ I hw) fun u s1 ⟨x,H1,I1,r1,q1⟩ => ?_
  obtain ⟨i,rfl,q⟩:=q1
  obtain ⟨t,rfl⟩:=r1
  exact ⟨some i,H1,I1,.int i t,q⟩
def SlR (X : Cx) (r : V→Option Int→Option Int→Hp→VK→Prop) : Prop :=
  ∀ (pins : List (Addr×Obj)) (s : Shared) (σ : St) (H : Hp) (x : V) (v vl vu : Value) (lo hi : Option Int) (sl : Addr) (Q : VK),Inv X pins σ H s→RelV x v→s.heap.IsSliceOf sl vl vu .none→IsPart vl lo→IsPart vu hi→r x lo hi H Q →
    ∃ T id,typeLookup (.type T) "__getitem__" = pure (some (.builtin id))∧s.TypeIs v T∧wpAny (model X.prog X.w) X.A (getItem v (.ref sl)) (EP X pins σ Q) X.xe s
theorem SlR.or {r r' : V→Option Int→Option Int→Hp→VK→Prop} (h : SlR X r) (h' : SlR X r') : SlR X (fun x lo hi H Q => r x lo hi H Q∨r' x lo hi H Q) := by
  intro pins s σ H x v vl vu lo hi sl Q I rx hs pl pu q
  rcases q with q | q
  · exact h pins s σ H x v vl vu lo hi sl Q I rx hs pl pu q
  · exact h' pins s σ H x v vl vu lo hi sl Q I rx hs pl pu q
def tSl (r : V→Option Int→Option Int→Hp→VK→Prop) (te : TE) (tl th : TO) : TE:=fun σ H Q => te σ H fun x H1 => tl σ H1 fun l H2 => th σ H2 fun u H3 => r x l u H3 Q
theorem pe_slice {r : V→Option Int→Option Int→Hp→VK→Prop} (hr : SlR X r) (he : PE X e te) (hl : PO X lo tl) (hu : PO X hi th) : PE X (.Subscript e (.Slice lo hi none p2) pos) (tSl r te tl th) := by
  intro pins s σ H Q I h
  refine Subscript_ (thn (he pins s σ H _ I h) fun v s1 ⟨x,H1,I1,r1,q1⟩ => ?_)
  refine wpAny_Slice (thn (hl pins s1 σ H1 _ I1 q1) fun vl s2 ⟨l,H2,I2,pl,q2⟩ => thn (hu pins s2 σ H2 _ I2 q2) fun vu s3 ⟨u,H3,I3,pu,q3⟩ => ?_)
  rw [evalPart_none]
  refine wpAny_pure ?_
  have I4 : Inv X pins σ H3 { s3 with heap:=s3.heap.push { cls:=.type "slice",data:=.fields #[vl,vu,.none] } }:=I3.kept (t':=s3.toks) fun b ob q => Heap.get?_push_of_some _ q
  obtain ⟨T,id,hT,ht,hg⟩:=hr pins { s3 with heap:=s3.heap.push { cls:=.type "slice",data:=.fields #[vl,vu,.none] } } σ H3 x v vl vu l u s3.heap.objs.size Q I4 r1 (Heap.IsSliceOf.new ..) pl pu q3
  show wpAny (model X.prog X.w) X.A (subscriptTail e (.Slice lo hi none p2) v (.ref s3.heap.objs.size)) (EP X pins σ Q) X.xe { s3 with heap:=s3.heap.push { cls:=.type "slice",data:=.fields #[vl,vu,.none] } }
  exact tail_any (ops:=[.ref s3.heap.objs.size,v]) ht hT hg (by with_unfolding_all rfl)
def cutV (xs : List V) (lo hi : Option Int) : List V:=(xs.drop (HT.sIx xs.length 0 lo)).take (HT.sIx xs.length xs.length hi - HT.sIx xs.length 0 lo)
theorem cutV_length (xs : List V) (lo hi : Option Int) : (cutV xs lo hi).length≤xs.length := by
  unfold cutV
  rw [List.length_take,List.length_drop]
  lia
def rSlT (K : PySem.W.Frag) : V→Option Int→Option Int→Hp→VK→Prop:=fun x lo hi H Q => ∃ a xs,x = .ref a∧SqT K H a xs ∧
  ¬ (HT.sIx xs.length 0 lo = 0∧HT.sIx xs.length xs.length hi = xs.length)∧∀ p,H p = none→Q (.ref p) (upd H p (.tup (cutV xs lo hi)))
theorem sl_tup : SlR X (rSlT X.K) := by
  intro pins s σ H x v vl vu lo hi sl Q I rx hs pl pu h
  obtain ⟨a,xs,rfl,hx,hw,q⟩:=h
  cases rx
  obtain ⟨its,r,ht,hz⟩:=I.tuple hx
  have hlen : its.toArray.size = xs.length := by rw [List.size_toArray]; exact r.length.symm
  refine ⟨"tuple",_,PyProof.Rows.slot_tuple_getitem.lookup,ht.typeIs,?_⟩
  refine HT.getItem_tuple_cut ht hs pl pu (by rw [hlen]; exact hw) ?_ (by rw [hlen]; exact hz)
  rw [hlen]
  refine ⟨.ref s.heap.objs.size,_,I.laid (t':=s.toks) (o:=.tup (cutV xs lo hi)) (fun b ob q => Heap.get?_push_of_some _ q) (Nat.le_refl _) ?_,rfl,q _ (I.hok.fresh (Nat.le_refl _))⟩
  exact ⟨Nat.le_trans (cutV_length xs lo hi) hz,_,(r.drop (HT.sIx xs.length 0 lo)).take (HT.sIx xs.length xs.length hi - HT.sIx xs.length 0 lo),IsTup.new _ _⟩
theorem Vals.nil_iff {xs : List V} {us : List Value} (r : Vals xs us) : us = [] ↔ xs = [] := by
  cases r with
  | nil => simp
  | cons _ _ => simp
end
def ixN (n : Nat) (i : Int) : Option Nat:=if 0≤i then (if i < n then some i.toNat else none) else if -(n : Int)≤i then some (i + n).toNat else none
def atI {α : Type} (xs : List α) (i : Int) : Option α:=(ixN xs.length i).bind fun j => xs[j]?
theorem ixN_seq {n : Nat} {i : Int} {j : Nat} (h : ixN n i = some j) : seqIndex? i n = some j∧j < n∧-(n : Int)≤i∧i < n := by
  unfold ixN at h
  by_cases h0 : 0≤i
  · rw [if_pos h0] at h
    by_cases h1 : i < n
    · rw [if_pos h1] at h
      have e : i.toNat = j:=Option.some.inj h
      exact ⟨by rw [seqIndex_of h0 h1,e],by lia,by lia,h1⟩
    · rw [if_neg h1] at h; cases h
  · rw [if_neg h0] at h
    by_cases h1 : -(n : Int)≤i
    · rw [if_pos h1] at h
      have e : (i + n).toNat = j:=Option.some.inj h
      exact ⟨by rw [seqIndex_neg (by lia) h1,e],by lia,h1,by lia⟩
    · rw [if_neg h1] at h; cases h
theorem atI_get {α : Type} {xs : List α} {i : Int} {v : α} (h : atI xs i = some v) : ∃ j,seqIndex? i xs.length = some j∧xs[j]? = some v∧j < xs.length∧-(xs.length : Int)≤i∧i < xs.length := by
  unfold atI at h
  cases e : ixN xs.length i with
  | none => rw [e] at h; cases h
  | some j =>
    rw [e] at h
    obtain ⟨h1,h2,h3,h4⟩:=ixN_seq e
    exact ⟨j,h1,h,h2,h3,h4⟩
theorem atI_nat {α : Type} {xs : List α} {j : Nat} {v : α} (h : xs[j]? = some v) : atI xs (j : Int) = some v := by
  have hj : j < xs.length:=(List.getElem?_eq_some_iff.mp h).1
  have e : ixN xs.length (j : Int) = some j := by
    unfold ixN
    rw [if_pos (by lia),if_pos (by lia)]; simp
  unfold atI; rw [e]; exact h
def PlainIx (b : Expr) : Prop:=∀ o i,subscripted b false o i = operate [o,i] (getItem o i)
def IxR (X : Cx) (r : R2) : Prop :=
  ∀ (value slice : Expr) (pins : List (Addr×Obj)) (s : Shared) (σ : St) (H : Hp) (x y : V) (v u : Value) (Q : VK),Inv X pins σ H s→RelV x v→RelV y u→r x y H Q →
    subscripted slice false v u = operate [v,u] (getItem v u)→wpAny (model X.prog X.w) X.A (subscriptTail value slice v u) (EP X pins σ Q) X.xe s
def MtR (X : Cx) (id : String) (r : V→List V→Hp→VK→Prop) : Prop :=
  ∀ (pins : List (Addr×Obj)) (s : Shared) (σ : St) (H : Hp) (x : V) (xs : List V) (v : Value) (us : List Value) (Q : VK),Inv X pins σ H s→RelV x v→Vals xs us→r x xs H Q →
    wpAny (model X.prog X.w) X.A (call (.builtin id) (v :: us)) (EP X pins σ Q) X.xe s
section
variable {X : Cx} {a b : Expr} {ta tb : TE} {pos : Pos}
theorem IxR.or {r r' : R2} (h : IxR X r) (h' : IxR X r') : IxR X (fun x y H Q => r x y H Q∨r' x y H Q) := by
  intro value slice pins s σ H x y v u Q I rx ry q hs
  rcases q with q | q
  · exact h value slice pins s σ H x y v u Q I rx ry q hs
  · exact h' value slice pins s σ H x y v u Q I rx ry q hs
theorem pe_ix {r : R2} (hr : IxR X r) (ha : PE X a ta) (hb : PE X b tb) (hs : PlainIx b) : PE X (.Subscript a b pos) (tOp r ta tb) := by
  intro pins s σ H Q I h
  exact Subscript_ (binT ha hb I h fun v u s2 x y H2 I2 rx ry q => hr a b pins s2 σ H2 x y v u Q I2 rx ry q (hs _ _))
def rIxL (K : PySem.W.Frag) : R2:=fun x y H Q => ∃ p xs i v,x = .ref p∧y = .int i∧SqL K H p xs∧atI xs i = some v∧Q v H
def rIxT (K : PySem.W.Frag) : R2:=fun x y H Q => ∃ p xs i v,x = .ref p∧y = .int i∧SqT K H p xs∧atI xs i = some v∧Q v H
def rIxS : R2:=fun x y H Q => ∃ z i c,x = .str z∧y = .int i∧z.length≤sizeLine∧atI z.cps.toList i = some c∧Q (.str ⟨#[c]⟩) H
theorem ix_list : IxR X (rIxL X.K) := by
  intro value slice pins s σ H x y v u Q I rx ry h hs
  obtain ⟨p,xs,i,z,rfl,rfl,hq,he,q⟩:=h
  cases rx
  obtain ⟨t,rfl⟩:=ry
  obtain ⟨its,r,pl,hz⟩:=I.list hq
  obtain ⟨j,h1,h2,h3,h4,h5⟩:=atI_get he
  obtain ⟨w,ew,rw'⟩:=r.get h2
  have hl:=r.length
  have hn:=line63
  have fin : EP X pins σ Q w s:=⟨z,H,I,rw',q⟩
  by_cases h0 : 0≤i
  · have hj : i.toNat = j := by
      rw [seqIndex_of h0 h5] at h1
      exact Option.some.inj h1
    exact item_listR pl.isList h0 (by lia) (by rw [hj]; simpa using ew) fin hs
  · have hj : (i + (its.toArray.size : Int)).toNat = j := by
      rw [seqIndex_neg (by lia) h4] at h1
      rw [List.size_toArray,← hl]
      exact Option.some.inj h1
    exact subscriptTail_builtinR (x:=w) pl.isList.typeIs slot_list_getitem.lookup
      (wpAny_getItem_list_neg (Q:=fun r s' => r = w∧EP X pins σ Q r s') pl.isList (by lia) (by rw [List.size_toArray] <;> lia) (by lia) (by rw [hj]; simpa using ew) ⟨rfl,fin⟩) hs
theorem ix_tup : IxR X (rIxT X.K) := by
  intro value slice pins s σ H x y v u Q I rx ry h hs
  obtain ⟨p,xs,i,z,rfl,rfl,hq,he,q⟩:=h
  cases rx
  obtain ⟨t,rfl⟩:=ry
  obtain ⟨its,r,pl,hz⟩:=I.tuple hq
  obtain ⟨j,h1,h2,h3,h4,h5⟩:=atI_get he
  obtain ⟨w,ew,rw'⟩:=r.get h2
  have hl:=r.length
  have hn:=line63
  have fin : EP X pins σ Q w s:=⟨z,H,I,rw',q⟩
  exact subscriptTail_builtinR (x:=w) pl.typeIs slot_tuple_getitem.lookup
    (getItem_tuple (j:=j) (Q:=fun r s' => r = w∧EP X pins σ Q r s') pl (by lia) (by lia) (by rw [List.size_toArray,← hl]; exact h1) (by simpa using ew) ⟨rfl,fin⟩) hs
theorem ix_str : IxR X rIxS := by
  intro value slice pins s σ H x y v u Q I rx ry h hs
  obtain ⟨z,i,c,rfl,rfl,hz,he,q⟩:=h
  obtain ⟨t,rfl⟩:=rx
  obtain ⟨t',rfl⟩:=ry
  obtain ⟨j,h1,h2,h3,h4,h5⟩:=atI_get he
  have hl : z.cps.toList.length = z.length := by simp [Str.length]
  rw [hl] at h1 h4 h5
  have hn:=line63
  exact tail_any (typeIs_str s z t) slot_str_getitem.lookup (getItem_str (c:=c) (by
    have e1 : decide (i < -(2 ^ 63 : Int)) = false:=decide_eq_false (by lia)
    have e2 : decide (i ≥ 2 ^ 63) = false:=decide_eq_false (by lia)
    rw [e1,e2,Bool.or_false]) (by rw [h1]; simpa using h2) ⟨.str ⟨#[c]⟩,H,I.tok _,⟨_,rfl⟩,q⟩) hs
def rIx (K : PySem.W.Frag) : R2:=fun x y H Q => rIxL K x y H Q∨rIxT K x y H Q∨rIxS x y H Q
theorem ix_seq : IxR X (rIx X.K):=ix_list.or (ix_tup.or ix_str)
theorem mapSeq_set (its : List Value) (n j : Nat) (u : Value) : Obj.mapSeq (·.setIfInBounds j u) { cls:=.type "list",data:=.seq its.toArray n } = { cls:=.type "list",data:=.seq (its.set j u).toArray n } := by
  simp [Obj.mapSeq]
theorem Inv.lst {pins : List (Addr×Obj)} {σ : St} {H : Hp} {s : Shared} {p : Addr} {xs : List V} (I : Inv X pins σ H s) (h : H p = some (.lst xs)) :
    ∃ (its : List Value) (n : Nat),Vals xs its∧s.heap.get? p = some { cls:=.type "list",data:=.seq its.toArray n }∧xs.length≤sizeLine := by
  obtain ⟨z,its,n,r,e⟩:=I.hok p _ h
  exact ⟨its,n,r,e,z⟩
theorem Inv.lstUpd {pins : List (Addr×Obj)} {σ : St} {H : Hp} {s : Shared} {p : Addr} {xs ys : List V} {its its' : List Value} {n n' : Nat} {f : Obj→Obj} (I : Inv X pins σ H s) (h : H p = some (.lst xs))
    (ho : s.heap.get? p = some { cls:=.type "list",data:=.seq its.toArray n }) (hf : f { cls:=.type "list",data:=.seq its.toArray n } = { cls:=.type "list",data:=.seq its'.toArray n' }) (r : Vals ys its') (hz : ys.length≤sizeLine) (t : Nat) :
    Inv X pins σ (upd H p (.lst ys)) { s with heap:=s.heap.update p f,toks:=t } := by
  have e : (s.heap.update p f).get? p = some { cls:=.type "list",data:=.seq its'.toArray n' } := by
    rw [Heap.get?_update_self f ho (by rw [hf] <;> rfl),hf]
  refine I.write (x:=p) (e:=p) (by rw [h]; trivial) (.inl rfl) (fun b u hb q => (Heap.get?_update_other _ _ (Ne.symm hb)).trans q) ⟨_,e⟩ ?_
  exact ⟨hz,its',n',r,e⟩
def rSetL : V→V→V→Hp→(Hp→Prop)→Prop:=fun o i v H Q => ∃ p xs k j,o = .ref p∧i = .int k∧H p = some (.lst xs)∧ixN xs.length k = some j∧Q (upd H p (.lst (xs.set j v)))
theorem set_list : PSet X rSetL := by
  intro pins s σ H o i v ov iv u Q I ro ri rv h
  obtain ⟨p,xs,k,j,rfl,rfl,hp,hj,q⟩:=h
  cases ro
  obtain ⟨t,rfl⟩:=ri
  obtain ⟨its,n,r,ho,hz⟩:=I.lst hp
  obtain ⟨h1,h2,h3,h4⟩:=ixN_seq hj
  have hl:=r.length
  have hn:=line63
  have I' : Inv X pins σ (upd H p (.lst (xs.set j v))) { s with heap:=s.heap.update p (Obj.mapSeq (·.setIfInBounds j u)) } :=
    I.lstUpd hp ho (mapSeq_set its n j u) (r.set rv j) (by rw [List.length_set]; exact hz) s.toks
  by_cases h0 : 0≤k
  · have hk : k.toNat = j := by
      rw [seqIndex_of h0 h4] at h1
      exact Option.some.inj h1
    exact PySem.W.ki_setAt ho h0 (by lia) (by rw [List.size_toArray,← hl]; exact h4) (by rw [hk]; exact ⟨_,I',q⟩)
  · have hk : (k + (its.toArray.size : Int)).toNat = j := by
      rw [seqIndex_neg (by lia) h3] at h1
      rw [List.size_toArray,← hl]
      exact Option.some.inj h1
    exact PySem.W.ki_setBack ho (by lia) (by rw [List.size_toArray,← hl]; exact h3) (by lia) (by rw [hk]; exact ⟨_,I',q⟩)
theorem slice_bounds (lo hi : Option Int) (n : Nat) : (sliceBounds lo hi none n).1 = ((HT.sIx n 0 lo : Nat) : Int)∧(sliceBounds lo hi none n).2.1 = ((HT.sIx n n hi : Nat) : Int)∧(sliceBounds lo hi none n).2.2 = 1 := by
  refine ⟨?_,?_,rfl⟩
  · cases lo with
    | none => simp [sliceBounds,HT.sIx]
    | some i =>
      simp only [sliceBounds,HT.sIx,Option.getD_none,show (1 : Int) > 0 by decide,if_true]
      by_cases h : i < 0
      · simp only [h,if_true] <;> lia
      · simp only [h,if_false] <;> lia
  · cases hi with
    | none => simp [sliceBounds,HT.sIx]
    | some i =>
      simp only [sliceBounds,HT.sIx,Option.getD_none,show (1 : Int) > 0 by decide,if_true]
      by_cases h : i < 0
      · simp only [h,if_true] <;> lia
      · simp only [h,if_false] <;> lia
theorem slicePick_cut (its : List Value) (lo hi : Option Int) : slicePick its.toArray lo hi none = ((its.drop (HT.sIx its.length 0 lo)).take (HT.sIx its.length its.length hi - HT.sIx its.length 0 lo)).toArray := by
  obtain ⟨h1,h2,h3⟩:=slice_bounds lo hi its.toArray.size
  unfold slicePick
  rw [h1,h2,h3]
  simp only [sliceRange_one,pick_run,List.size_toArray] <;> rfl
def rSlL (K : PySem.W.Frag) : V→Option Int→Option Int→Hp→VK→Prop:=fun x lo hi H Q => ∃ a xs,x = .ref a∧SqL K H a xs∧∀ p,H p = none→Q (.ref p) (upd H p (.lst (cutV xs lo hi)))
theorem sl_list : SlR X (rSlL X.K) := by
  intro pins s σ H x v vl vu lo hi sl Q I rx hs pl pu h
  obtain ⟨a,xs,rfl,hx,q⟩:=h
  cases rx
  obtain ⟨its,r,ht,hz⟩:=I.list hx
  have hlen:=r.length
  refine ⟨"list",_,slot_list_getitem.lookup,ht.isList.typeIs,?_⟩
  refine wpAny_getItem_list_slice ht.isList hs pl pu .none (by simp) ?_ (by rw [List.size_toArray] <;> lia)
  rw [slicePick_cut,← hlen]
  refine ⟨.ref s.heap.objs.size,_,I.laid (t':=s.toks) (o:=.lst (cutV xs lo hi)) (fun b ob q => Heap.get?_push_of_some _ q) (Nat.le_refl _) ?_,rfl,q _ (I.hok.fresh (Nat.le_refl _))⟩
  exact ⟨Nat.le_trans (cutV_length xs lo hi) hz,_,0,(r.drop (HT.sIx xs.length 0 lo)).take (HT.sIx xs.length xs.length hi - HT.sIx xs.length 0 lo),Heap.get?_push_size _ rfl⟩
theorem call_len_seq : CallR X (.builtin "len") (fun xs H Q => ∃ p ys,xs = [.ref p]∧(SqL X.K H p ys∨SqT X.K H p ys)∧Q (.int ys.length) H) := by
  intro pins s σ H xs us Q I r h
  obtain ⟨p,ys,rfl,hq,q⟩:=h
  obtain ⟨u,rfl,rx⟩:=vals1 r
  cases rx
  have hn:=line63
  rcases hq with hq | hq
  · obtain ⟨its,r',pl,hz⟩:=I.list hq
    have hlen:=r'.length
    exact Calls.call_len_list pl.isList (by simp only [List.size_toArray] <;> lia) ⟨.int ys.length,H,I.tok _,⟨s.toks + 1,by rw [List.size_toArray,hlen]⟩,q⟩
  · obtain ⟨its,r',pl,hz⟩:=I.tuple hq
    have hlen:=r'.length
    exact len_tuple pl (by simp only [List.size_toArray] <;> lia) ⟨.int ys.length,H,I.tok _,⟨s.toks + 1,by rw [List.size_toArray,hlen]⟩,q⟩
def tyV (K : PySem.W.Frag) (T : String) (x : V) (H : Hp) : Prop:=match x with
  | .str _ => T = "str"
  | .int _ => T = "int"
  | .ref p => (T = "list" ∧ ∃ xs,SqL K H p xs)∨(T = "tuple" ∧ ∃ o,K.lookup p = some o∧o.cls = .type "tuple" ∧ o.dict = none) ∨
      (T = "dict" ∧ ((∃ kvs,H p = some (.dK kvs))∨∃ kvs,H p = some (.dT kvs)))∨(T = "set" ∧ ∃ S n,H p = some (.set S n))
  | _ => False
theorem tyV_is {pins : List (Addr×Obj)} {σ : St} {H : Hp} {s : Shared} {T : String} {x : V} {v : Value} (I : Inv X pins σ H s) (r : RelV x v) (ty : tyV X.K T x H) :
    s.TypeIs v T∧∀ a,v = .ref a→∃ ob,s.heap.get? a = some ob∧ob.dict = none := by
  cases x with
  | str z =>
    obtain ⟨t,rfl⟩:=r
    cases (show T = "str" from ty)
    exact ⟨typeIs_str s z t,fun _ e => nomatch e⟩
  | int i =>
    obtain ⟨t,rfl⟩:=r
    cases (show T = "int" from ty)
    exact ⟨typeIs_int s i t,fun _ e => nomatch e⟩
  | ref p =>
    cases r
    rcases ty with ⟨rfl,xs,hq⟩ | ⟨rfl,o,hk,hc,hd⟩ | ⟨rfl,hk⟩ | ⟨rfl,S,n,hk⟩
    · obtain ⟨its,_,pl,_⟩:=I.list hq
      refine ⟨pl.isList.typeIs,fun a e => ?_⟩
      cases e
      obtain ⟨o,n,e,c,hd,_⟩:=pl
      exact ⟨o,e,hd⟩
    · refine ⟨⟨o,I.kIn p o hk,hc⟩,fun a e => ?_⟩
      cases e
      exact ⟨o,I.kIn _ o hk,hd⟩
    · have z : ∃ o,s.heap.get? p = some o∧o.ExactDict := by
        rcases hk with ⟨kvs,hk⟩ | ⟨kvs,hk⟩
        · obtain ⟨_,_,_,_,o,_,_,e,ex,_⟩:=I.hok p _ hk
          exact ⟨o,e,ex⟩
        · obtain ⟨_,_,_,_,o,_,_,e,ex,_⟩:=I.hok p _ hk
          exact ⟨o,e,ex⟩
      obtain ⟨o,e,ex⟩:=z
      refine ⟨⟨o,e,ex.1⟩,fun a e2 => ?_⟩
      cases e2
      exact ⟨o,e,ex.2.1⟩
    · obtain ⟨o,_,_,_,e,ex,_⟩:=I.hok p _ hk
      refine ⟨⟨o,e,ex.1⟩,fun a e2 => ?_⟩
      cases e2
      exact ⟨o,e,ex.2.1⟩
  | _ => exact False.elim ty
def tBM (K : PySem.W.Frag) (T : String) (r : V→List V→Hp→VK→Prop) (to : TE) (t : TA) : TE:=fun σ H Q => to σ H fun x H1 => tyV K T x H1∧t σ H1 fun xs H2 => r x xs H2 Q
variable {o e : Expr} {es : List Expr} {to : TE} {t : TA} {name : Str} {apos cpos : Pos} {T id : String} {r : V→List V→Hp→VK→Prop}
theorem pe_bm (pa : PlainAttrs T) (slot : Slot T name id) (hty : typeOf (.builtin id) = pure (.type "method_descriptor")) (hm : MtR X id r) (ho : PE X o to) (ha : PA X (e :: es) t)
    (hbase : attributeBase o name X.env (eval o X.env) = eval o X.env := by rfl)
    (hfew : ((backTo cpos (starEach (e :: es) X.env)).all (fun x => !x.1) && (backToKw cpos (keywordEach [] X.env)).all (fun x => x.1.isSome)
      && decide ((e :: es).length + ([] : List Keyword).length + (if ([] : List Keyword).isEmpty then 0 else 1) < 30)) = true := by rfl)
    (hline : (apos.endLine == cpos.line) = true := by rfl) (hs : starEach (e :: es) X.env = (false,eval e X.env) :: starEach es X.env := by rfl) (hplain : (backTo cpos (starEach es X.env)).any (·.1) = false := by rfl) :
    PE X (.Call (.Attribute o name apos) (e :: es) [] cpos) (tBM X.K T r to t) := by
  intro pins s σ H Q I h
  refine wpAny_Call_method_late hbase hfew hline rfl (thn (ho pins s σ H _ I h) fun v s1 ⟨x,H1,I1,r1,ty,q1⟩ => ?_)
  obtain ⟨h1,h2⟩:=tyV_is I1 r1 ty
  refine ⟨T,id,pa,slot,hty,h1,h2,?_⟩
  have hA:=ha cpos pins s1 σ H1 _ I1 q1
  rw [hs] at hA ⊢
  refine Calls.callWith_builtin (by show (false || (backTo cpos (starEach es X.env)).any (·.1)) = false; rw [hplain] <;> rfl) (Calls.evalArgs_plain ?_)
  exact thn hA fun us s2 ⟨vs,H2,I2,r2,q2⟩ => hm pins s2 σ H2 x vs v us Q I2 r1 r2 q2
end
def MtM (X : Cx) (id : String) (r : V→List V→Hp→VK→Prop) : Prop :=
  ∀ (pins : List (Addr×Obj)) (s : Shared) (σ : St) (H : Hp) (x : V) (xs : List V) (v : Value) (us : List Value) (Q : VK),Inv X pins σ H s→RelV x v→Vals xs us→r x xs H Q →
    wpAny (model X.prog X.w) X.A (call (.builtin id) (v :: us)) (EP X pins σ Q) X.xe s
theorem Vals.one : ∀ {x : V} {us : List Value},Vals [x] us→∃ u,us = [u]∧RelV x u
  | _,_,.cons r .nil => ⟨_,rfl,r⟩
theorem Vals.two : ∀ {x y : V} {us : List Value},Vals [x,y] us→∃ u v,us = [u,v]∧RelV x u∧RelV y v
  | _,_,_,.cons r (.cons q .nil) => ⟨_,_,rfl,r,q⟩
theorem Vals.rep {xs : List V} {us : List Value} (h : Vals xs us) : ∀ k : Nat,Vals (List.replicate k xs).flatten (List.replicate k us).flatten
  | 0 => .nil
  | k + 1 => by
    rw [List.replicate_succ,List.replicate_succ,List.flatten_cons,List.flatten_cons]
    exact Vals.append h (Vals.rep h k)
theorem foldl_rep (its : List Value) : ∀ (k : Nat) (acc : List Value),
    List.foldl (fun x1 x2 => x1 ++ x2) acc.toArray (List.replicate k its.toArray) = (acc ++ (List.replicate k its).flatten).toArray
  | 0,acc => by simp
  | k + 1,acc => by
    have e : acc.toArray ++ its.toArray = (acc ++ its).toArray := by simp
    have e2 : (acc ++ its) ++ (List.replicate k its).flatten = acc ++ (List.replicate (k + 1) its).flatten := by
      rw [List.replicate_succ,List.flatten_cons,List.append_assoc]
    rw [← e2,← foldl_rep its k (acc ++ its),← e,List.replicate_succ,List.foldl_cons]
section
variable {X : Cx} {pins : List (Addr×Obj)} {σ : St} {H : Hp} {s : Shared} {l : Addr} {xs ys : List V}
theorem Inv.lset {its its' : List Value} {n : Nat} {f : Array Value→Array Value} {t' : Nat} (I : Inv X pins σ H s) (hH : H l = some (.lst xs))
    (e : s.heap.get? l = some { cls:=.type "list",data:=.seq its.toArray n }) (hf : f its.toArray = its'.toArray) (hv : Vals ys its') (hz : ys.length≤sizeLine) :
    Inv X pins σ (upd H l (.lst ys)) { s with heap:=s.heap.update l (Obj.mapSeq f),toks:=t' } := by
  have q:=PySem.IsL.update e f
  rw [hf] at q
  refine I.write (x:=l) (e:=l) (by rw [hH]; exact trivial) (.inl rfl) (fun b' u hb hu => (Heap.get?_update_other s.heap (Obj.mapSeq f) (Ne.symm hb)).trans hu) ⟨_,q⟩ ?_
  exact ⟨hz,its',_,hv,q⟩
theorem Inv.lnew {its : List Value} {t' : Nat} (I : Inv X pins σ H s) (hv : Vals ys its) (hz : ys.length≤sizeLine) :
    Inv X pins σ (upd H s.heap.objs.size (.lst ys)) { s with heap:=s.heap.push { cls:=.type "list",data:=.seq its.toArray },toks:=t' } :=
  I.laid (fun _ _ q => Heap.get?_push_of_some _ q) (Nat.le_refl _) ⟨hz,its,0,hv,Heap.get?_push_size _ rfl⟩
theorem Inv.fresh (I : Inv X pins σ H s) : H s.heap.objs.size = none:=I.hok.fresh (Nat.le_refl _)
theorem Inv.lstM (I : Inv X pins σ H s) (hH : H l = some (.lst xs)) : xs.length≤sizeLine∧∃ (its : List Value) (n : Nat),Vals xs its∧xs.length = its.length∧s.heap.get? l = some { cls:=.type "list",data:=.seq its.toArray n } := by
  obtain ⟨z,its,n,r,e⟩:=I.hok l _ hH
  exact ⟨z,its,n,r,r.length,e⟩
theorem notLongL {n : Nat} (h : n≤sizeLine) : Builtin.List.listTooLong n = false := by
  unfold Builtin.List.listTooLong
  exact decide_eq_false (by lia)
end
section
variable {X : Cx}
def rAppend : V→List V→Hp→VK→Prop:=fun x vs H Q => ∃ l xs y,x = .ref l∧vs = [y]∧H l = some (.lst xs)∧xs.length < sizeLine∧Q .non (upd H l (.lst (xs ++ [y])))
theorem mt_append : MtM X "list.append" rAppend := by
  intro pins s σ H x vs v us Q I rx rv h
  obtain ⟨l,xs,y,rfl,rfl,hH,hz,q⟩:=h
  cases rx
  obtain ⟨u,rfl,ru⟩:=rv.one
  obtain ⟨z,its,n,r,hl,e⟩:=I.lstM hH
  refine call_meets F.slot_list_append ⟨_,e,rfl⟩ F.entry_list_append (F.args_list_append_2 _ _) (PySem.list_append l its.toArray n u (by rw [List.size_toArray]; lia)) ⟨e,?_⟩
  refine ⟨.non,_,I.lset (its':=its ++ [u]) hH e (by simp) (r.append (.cons ru .nil)) ?_,rfl,q⟩
  rw [List.length_append,List.length_singleton]
  lia
def rExtend : V→List V→Hp→VK→Prop:=fun x vs H Q => ∃ l b xs zs,x = .ref l∧vs = [.ref b]∧H l = some (.lst xs)∧H b = some (.lst zs)∧xs.length + zs.length≤sizeLine∧Q .non (upd H l (.lst (xs ++ zs)))
theorem mt_extend : MtM X "list.extend" rExtend := by
  intro pins s σ H x vs v us Q I rx rv h
  obtain ⟨l,b,xs,zs,rfl,rfl,hH,hB,hz,q⟩:=h
  cases rx
  obtain ⟨u,rfl,ru⟩:=rv.one
  cases ru
  obtain ⟨z,its,n,r,hl,e⟩:=I.lstM hH
  obtain ⟨z2,its2,n2,r2,hl2,e2⟩:=I.lstM hB
  have hsz : its.toArray.size + its2.toArray.size≤sizeLine := by rw [List.size_toArray,List.size_toArray]; lia
  have hlong : ¬ (!its.toArray.isEmpty && Builtin.List.listTooLong (its.toArray.size + its2.toArray.size)) = true := by
    rw [notLongL hsz,Bool.and_false]
    exact Bool.false_ne_true
  refine call_meets F.slot_list_extend ⟨_,e,rfl⟩ F.entry_list_extend (F.args_list_extend_2 _ _)
    (AutoSeq1.list_extend_list_list_0 l its.toArray n b its2.toArray n2 hlong (by rw [List.size_toArray]; lia) (by lia)) ⟨e,e2,?_⟩
  refine ⟨.non,_,I.lset (its':=its ++ its2) hH e (by simp) (r.append r2) ?_,rfl,q⟩
  rw [List.length_append]
  lia
def rCat : R2:=fun x y H Q => ∃ l b xs zs,x = .ref l∧y = .ref b∧H l = some (.lst xs)∧H b = some (.lst zs)∧xs.length + zs.length≤sizeLine∧∀ p,H p = none→Q (.ref p) (upd H p (.lst (xs ++ zs)))
theorem op_cat : OpR X (binaryOp .Add) rCat := by
  intro pins s σ H x y v u Q I rx ry h
  obtain ⟨l,b,xs,zs,rfl,rfl,hH,hB,hz,q⟩:=h
  cases rx
  cases ry
  obtain ⟨z,its,n,r,hl,e⟩:=I.lstM hH
  obtain ⟨z2,its2,n2,r2,hl2,e2⟩:=I.lstM hB
  refine PySem.P.add_list e e2 ?_ (by rw [List.size_toArray,List.size_toArray]; lia)
  have ea : its.toArray ++ its2.toArray = (its ++ its2).toArray := by simp
  rw [ea]
  exact ⟨.ref _,_,I.lnew (t':=s.toks) (r.append r2) (by rw [List.length_append]; lia),rfl,q _ I.fresh⟩
def rRep : R2:=fun x y H Q => ∃ l k xs,x = .ref l∧y = .int k∧H l = some (.lst xs)∧-(2 ^ 63)≤k∧k < 2 ^ 63∧xs.length * k.toNat≤sizeLine ∧
  ∀ p,H p = none→Q (.ref p) (upd H p (.lst (List.replicate k.toNat xs).flatten))
theorem len_rep {α : Type} (xs : List α) (k : Nat) : (List.replicate k xs).flatten.length = k * xs.length := by
  induction k with
  | zero => simp
  | succ k ih => rw [List.replicate_succ,List.flatten_cons,List.length_append,ih,Nat.succ_mul,Nat.add_comm]
theorem op_rep : OpR X (binaryOp .Mult) rRep := by
  intro pins s σ H x y v u Q I rx ry h
  obtain ⟨l,k,xs,rfl,rfl,hH,h1,h2,hz,q⟩:=h
  cases rx
  obtain ⟨t,rfl⟩:=ry
  obtain ⟨z,its,n,r,hl,e⟩:=I.lstM hH
  have hlen : its.toArray.size * k.toNat≤sizeLine := by rw [List.size_toArray,← hl]; exact hz
  have hcap : ¬ its.toArray.size * k.toNat > (2 ^ 63 - 1) / 8 := by
    have : (sizeLine : Nat)≤(2 ^ 63 - 1) / 8 := by decide
    lia
  have hfit : ¬ (!Builtin.List.listFitsIndex k) = true := by
    rw [fitsIndex_both h1 h2]
    exact Bool.false_ne_true
  have hlong : ¬ Builtin.List.listTooLong (its.toArray.size * k.toNat) = true := by
    rw [notLongL hlen]
    exact Bool.false_ne_true
  have hnew : List.foldl (fun x1 x2 => x1 ++ x2) #[] (List.replicate (if its.toArray.isEmpty = true then 0 else k.toNat) its.toArray) = (List.replicate k.toNat its).flatten.toArray := by
    have f0 : ∀ m : Nat,List.foldl (fun x1 x2 => x1 ++ x2) #[] (List.replicate m its.toArray) = (List.replicate m its).flatten.toArray:=fun m => by
      have:=foldl_rep its m []
      rw [List.nil_append] at this
      exact this
    rw [f0]
    cases its with
    | nil => simp
    | cons a r' => rw [if_neg (by simp)]
  refine wpAny_binaryOp_repeat_ref (T := "list") (U := "int") (by decide) ⟨_,e,rfl⟩ (fun s' => typeIs_int s' k t) noFill_list_mul F.fills_int_mul F.slot_int_rmul repeat_list F.slot_int_index.lookup
    (call_meets F.slot_int_rmul (typeIs_int s k t) F.entry_int_rmul (F.args_int_rmul_2 _ _) (int___rmul___int_list k t l its.toArray n)
      ⟨e,rfl,⟨_,e,rfl⟩,call_meets F.slot_list_mul ⟨_,e,rfl⟩ F.entry_list_mul (F.args_list_mul_2 _ _) (AutoListH.list___mul___list_int_3 l its.toArray n k t hfit hcap hlong) ⟨e,?_⟩⟩)
  rw [hnew]
  exact ⟨.ref _,_,I.lnew (t':=s.toks) (r.rep k.toNat) (by rw [len_rep,Nat.mul_comm]; exact hz),rfl,q _ I.fresh⟩
end
end L2
namespace Att
open PySem PySem.W PySem.Calls PyProof.Rows
theorem ints_of_wellAll {P : Params} {h : Heap} : ∀ (ns : List Int) (vs : List Value),WellAll P h vs (ns.map WData.int)→IntsAre vs ns := by
  intro ns
  induction ns with
  | nil =>
    intro vs w
    rw [List.map_nil] at w
    cases w
    exact .nil
  | cons n ns ih =>
    intro vs w
    rw [List.map_cons] at w
    cases w with
    | cons a b =>
      cases a
      exact .cons _ _ (ih _ b)
theorem script_of {l : OpenLaw} {n : Nat} (hn : l.most = some n) {P : Params} {h : Heap} {args : List WData} {vals : List Value}
    (hpre : l.row.toRowW.claim.pre args = true) (hwl : WellAll P h vals args) :
    ∃ a vs ns,vals = [Value.ref a]∧args = [WData.list (ns.map WData.int)]∧h.get? a = some { cls:=.type "list",data:=.seq vs.toArray }∧IntsAre vs ns∧ns.length≤n := by
  have hsh : WShape.hasAll [] args [.list .int] = true:=(pre_splitW hpre).1
  have hc : l.pre.holds [] { args:=args } = true:=(pre_splitW hpre).2
  obtain ⟨d,r,rfl,h1,h2⟩:=hasAllW_cons hsh
  obtain rfl:=hasAllW_nil h2
  obtain ⟨xs,rfl,h3⟩:=hasW_list h1
  obtain ⟨ns,rfl⟩:=items_int h3
  have hlen : ns.length≤n := by
    unfold OpenLaw.pre at hc
    have h4 : (WTm.not (.lt (.lit (.int (n : Int))) (.len (.arg 0)))).holds [] { args:=[.list (ns.map .int)] } = true := by
      have h4:=(holds_andW hc).1
      rw [hn] at h4
      exact h4
    have h5:=condW_of h4 (w_not (w_lt w_lit (w_len_list (w_arg rfl))))
    rw [List.length_map] at h5
    refine Nat.le_of_not_lt fun q => ?_
    have q' : (n : Int) < ((ns.length : Nat) : Int) := by lia
    first
      | (rw [decide_eq_true q'] at h5; exact absurd h5 (by decide))
      | (simp at h5; lia)
  cases hwl with
  | cons w1 w2 =>
    cases w2
    cases w1 with
    | list ho hall => exact ⟨_,_,ns,rfl,rfl,ho,ints_of_wellAll ns _ hall,hlen⟩
theorem post_true (l : OpenLaw) (args : List WData) : l.row.toRowW.claim.post args (.bool true) args = true :=
  postW_of (r:=l.row.toRowW) (X:=(true == true))
    (show WShape.has [] (.bool true) .bool = true by first | rfl | decide | simp [WShape.has,WShape.arms,WShape.armsAll])
    (show (WTm.eq .res (.lit (.bool true))).value [] { args:=args,res:=some (.bool true),after:=args } = some (.bool (true == true)) from w_eq_bool (w_res rfl) w_lit) rfl
theorem attach_call {l : OpenLaw} {n : Nat} {q : Program} {loose : List Str} {XP : (Str→Option Value)→Heap→Prop} {YP : World→Heap→Prop} {d : DefRec}
    (hn : l.most = some n) (hdf : d.params.defaults = [])
    (call : ∀ (w : World) (s₀ s₁ : Shared) (mg mb : Str→Option Value) (fa : Addr) (o : Obj) (pm cd doc : Value) (a : Addr) (vs : List Value) (ns : List Int),
      Ground q loose [] XP w s₀ mg mb s₁.heap→YP w s₁.heap →
      s₁.heap.get? fa = some o→o.data = .func (docDef d.name d.params d.body d.scope pm cd doc)→s₁.heap.CodeRec cd d.name→mg d.name = some (.ref fa) →
      s₁.heap.get? a = some { cls:=.type "list",data:=.seq vs.toArray }→IntsAre vs ns→ns.length≤n→s₁.gens = #[] →
      codeAny (model l.prog w) callerA (.call (.ref fa) ⟨[.ref a],[]⟩) (fun r s' => r = .ok (.ret (.bool true))∧OldK s₁.heap s'.heap∧s'.os = s₁.os∧AllBare s'.gens) s₁) :
    WalkO q loose XP YP l.row.toRowW d [] (fun f vs => PySem.call f vs) := by
  intro w s₀ s₁ mg mb G Y fa o pm cd doc dV kV ho hd hcd hD hmg hg args vals as hpre hlay hrd hwl hlo
  obtain rfl : dV = .none:=Dflts.none hD hdf
  obtain rfl : kV = .none:=Dflts.noKw hD
  obtain ⟨a,vs,ns,rfl,rfl,hobj,hints,hlen⟩:=script_of hn hpre hwl
  refine enter_call (codeAny_mono (call w s₀ s₁ mg mb fa o pm cd doc a vs ns G Y ho (fd_plain hd) hcd hmg hobj hints hlen hg) fun r s' hq => ?_)
  obtain ⟨rfl,h2,h3,h4⟩:=hq
  exact ⟨.inl ⟨.bool true,.bool true,[],rfl,fun _ => rfl,.bool true,post_true l _,fun _ => ⟨List.Pairwise.nil,fun _ hm => (nomatch hm)⟩⟩,h2,h3,h4⟩
end Att
namespace L2
open PySem PySem.Spec PyProof.Rows
theorem vals_ints : ∀ {vs : List Value} {ns : List Int},IntsAre vs ns→Vals (ns.map V.int) vs
  | _,_,.nil => .nil
  | _,_,.cons n t h => .cons ⟨t,rfl⟩ (vals_ints h)
def Only (H : Hp) : Prop:=∀ b,H b = none∨∃ o xs,H b = some (.frz o (.lst xs))
theorem law_call {P : Program} {w : World} {K : PySem.W.Frag} {mg mb : Str→Option Value} {CX : CXT} {k : Nat} {fa a : Addr} {fd : FuncData} {x : Str} {sp : Sp} {s₁ : Shared} {vs : List Value} {ns : List Int}
    (KX : K.In s₁.heap) (hns : s₁.heap.Ns mainGlobals mg) (hb : s₁.heap.Ns builtinsNs mb) (hbb : ∀ x : Str,x ≠ "__name__" → mb x = bootBuiltins x) (hlim : s₁.heap.NoLimit) (hg : s₁.gens = #[])
    (ha : s₁.heap.get? a = some { cls:=.type "list",data:=.seq vs.toArray }) (hi : IntsAre vs ns) (hl : ns.length≤sizeLine) (hr : Room k callerA) (hkt : ∀ H,KTb mg H)
    (F : ∀ base : Heap,K.In base→base.Ns mainGlobals mg→FnOk P w K mg base CX k fa fd [x] sp) (hbind : ∀ (s : Shared) (u : Value),BindsTo s fd ⟨[u],[]⟩ [(x,u)])
    (hsp : ∀ H : Hp,Only H→SqL K H a (ns.map V.int)→sp [.ref a] H (fun v _ => v = .bl true) fun _ _ _ => False)
    (hCX : ∀ H e s',CX [] H s₁ (fun _ _ _ => False) e s'→False) :
    codeAny (model P w) callerA (.call (.ref fa) ⟨[.ref a],[]⟩) (fun r s' => r = .ok (.ret (.bool true))∧OldK s₁.heap s'.heap∧s'.os = s₁.os∧AllBare s'.gens) s₁ := by
  have rv:=vals_ints hi
  have lenV:=hi.length
  have core : ∀ H : Hp,Only H→SqL K H a (ns.map V.int)→HOk P w H s₁.heap→(∀ b,H b≠none→b = a)→(H a≠none→K.lookup a = none) →
      codeAny (model P w) callerA (.call (.ref fa) ⟨[.ref a],[]⟩) (fun r s' => r = .ok (.ret (.bool true))∧OldK s₁.heap s'.heap∧s'.os = s₁.os∧AllBare s'.gens) s₁ := by
    intro H hO hS hok hA hK
    have base_of : ∀ {b : Addr} {o : Obj},s₁.heap.get? b = some o→H b = none→(hidT s₁.heap H).get? b = some o:=fun e n => hidT_get e n
    have noA : ∀ {b : Addr} {o : Obj} {es : Array DictEntry} {ep : Nat},s₁.heap.get? b = some o→o.data = .dict es ep→H b = none:=fun {b o es ep} e d => by
      cases q : H b with
      | none => rfl
      | some u =>
        have e' : b = a:=hA b (by rw [q]; simp)
        subst e'
        rw [ha] at e; cases e
        have d' : Data.seq vs.toArray _ = Data.dict es ep:=d
        cases d'
    have nsK : ∀ {b : Addr} {m : Str→Option Value},s₁.heap.Ns b m→(hidT s₁.heap H).Ns b m:=fun {b m} ⟨o,es,ep,e,d,r⟩ => ⟨o,es,ep,base_of e (noA e d),d,r⟩
    have hKb : K.In (hidT s₁.heap H):=fun b o e => base_of (KX b o e) (by
      cases q : H b with
      | none => rfl
      | some u =>
        have e' : b = a:=hA b (by rw [q]; simp)
        subst e'
        rw [hK (by rw [q]; simp)] at e; cases e)
    have hM : Mod K mg (hidT s₁.heap H):=⟨hKb,nsK hns,⟨mb,nsK hb,hbb⟩,let ⟨mc,h1,h2⟩:=hlim; ⟨mc,nsK h1,h2⟩⟩
    have e0 : Env0 P w K mg (hidT s₁.heap H) callerA [] s₁ H:=⟨rfl,hM,fun b o e => of_hidT e,Nat.le_of_eq (hidT_size _ _),trivial,fun b hb => absurd (show b∈([] : List Addr) from hb) (by simp),hok,.of_eq hg,hkt H⟩
    refine codeAny_mono ((F _ hKb (nsK hns)).run callerA [] s₁ H ⟨[.ref a],[]⟩ [.ref a] [.ref a] _ _ hr e0 (hbind s₁ (.ref a)) (.cons rfl .nil) (hsp H hO hS)) fun r s' h => ?_
    cases r with
    | error e => exact (hCX H e s' h).elim
    | ok fl =>
      cases fl with
      | next => exact False.elim h
      | brk => exact False.elim h
      | cont => exact False.elim h
      | ret u =>
        obtain ⟨v,H',os,bare,un,hok',r',q⟩:=h
        have q' : v = .bl true:=q
        subst q'
        obtain rfl : u = Value.bool true:=r'
        refine ⟨rfl,OldK.of_keep fun b o e => ?_,os,bare⟩
        cases q : H b with
        | none => exact un.keep b o e q (by intro z; exact absurd (show b∈([] : List Addr) from z) (by simp)) (by simp)
        | some u =>
          rcases hO b with z | ⟨ob,xs,z⟩
          · rw [q] at z; cases z
          · have z2:=un.frzs b ob _ z
            obtain ⟨e1,_⟩:=hok b _ z
            obtain ⟨e2,_⟩:=hok' b _ z2
            rw [e] at e1; cases e1
            exact e2
  cases hk : K.lookup a with
  | some o =>
    have e:=KX a o hk
    rw [ha] at e
    cases e
    refine core (fun _ => none) (fun _ => .inl rfl) (.inr ⟨_,vs.toArray,_,hk,rfl,rfl,rfl,by rw [List.size_toArray,lenV]; exact hl,by simpa using rv⟩) (fun b u z => by have z' : (none : Option HO) = some u:=z; cases z') (fun b z => absurd rfl z) fun z => absurd rfl z
  | none =>
    refine core (fun b => if b = a then some (.frz { cls:=.type "list",data:=.seq vs.toArray } (.lst (ns.map V.int))) else none) (fun b => ?_) (.inl (.inr ⟨{ cls:=.type "list",data:=.seq vs.toArray },if_pos rfl⟩)) (fun b u z => ?_) (fun b z => ?_) fun _ => hk
    · by_cases hb : b = a
      · exact .inr ⟨_,_,if_pos hb⟩
      · exact .inl (if_neg hb)
    · by_cases hb : b = a
      · have z':=(if_pos hb).symm.trans z
        cases z'
        subst hb
        exact ⟨ha,by rw [List.length_map]; exact hl,vs,_,rv,ha⟩
      · have z':=(if_neg hb).symm.trans z
        cases z'
    · by_cases hb : b = a
      · exact hb
      · exact absurd (if_neg hb) z
theorem walk_of {l : PySem.W.OpenLaw} {n k : Nat} {q : Program} {loose : List Str} {XP : (Str→Option Value)→Heap→Prop} {YP : World→Heap→Prop} {d : DefRec} {K : Params→PySem.W.Frag} {CX : World→CXT} {sp : World→Sp} {x : Str}
    (hn : l.most = some n) (hn2 : n≤sizeLine) (hdf : d.params.defaults = []) (hr : Room k callerA) (hkt : ∀ (w : World) (mg : Str→Option Value) (h : Heap),(K w.params).In h→h.Ns mainGlobals mg→∀ H,KTb mg H)
    (hY : ∀ (w : World) (h : Heap),YP w h→(K w.params).In h)
    (F : ∀ (w : World) (mg : Str→Option Value) (fa : Addr) (h : Heap),(K w.params).In h→h.Ns mainGlobals mg→mg d.name = some (.ref fa) →
      ∃ fd : FuncData,(∀ (s : Shared) (u : Value),BindsTo s fd ⟨[u],[]⟩ [(x,u)]) ∧
        ∀ base : Heap,(K w.params).In base→base.Ns mainGlobals mg→FnOk l.prog w (K w.params) mg base (CX w) k fa fd [x] (sp w))
    (hsp : ∀ (w : World) (H : Hp) (a : Addr) (ns : List Int),ns.length≤n→Only H→SqL (K w.params) H a (ns.map V.int)→sp w [.ref a] H (fun v _ => v = .bl true) fun _ _ _ => False)
    (hCX : ∀ (w : World) (H : Hp) (s : Shared) (e : Value) (s' : Shared),CX w [] H s (fun _ _ _ => False) e s'→False) :
    PySem.W.WalkO q loose XP YP l.row.toRowW d [] (fun f vs => PySem.call f vs) := by
  refine Att.attach_call hn hdf fun w s₀ s₁ mg mb fa o pm cd doc a vs ns G Y ho hd hcd hmg hobj hints hlen hg => ?_
  have KX:=hY w _ Y
  obtain ⟨fd,hb,hF⟩:=F w mg fa _ KX G.T.g hmg
  exact law_call (hkt:=hkt w mg _ KX G.T.g) KX G.T.g G.T.b G.T.builtins G.T.nolimit hg hobj hints (Nat.le_trans hlen hn2) hr hF hb (fun H hO hS => hsp w H a ns hlen hO hS) fun H e s' => hCX w H s₁ e s'
abbrev CX0 : CXT:=fun _ _ _ _ _ _ => False
abbrev E0 : XK:=fun _ _ _ => False
theorem pass0 {X : Cx} : Passes CX0 X E0:=fun _ _ _ _ _ _ _ h => h.elim
structure Fun (K : PySem.W.Frag) (x qual : Str) (st : Stmt) (f : Addr) (fd : FuncData) : Prop where
  ex : ∃ (oc : Value) (od : Option Addr) (kV doc pm : Value) (an : Option Addr) (cdv ct : Value) (osl : Array (Option Value)),
    fd = PySem.W.fnOf x qual (defArgs st) (defBody st) (defScope st) .none kV doc pm an cdv ct∧K.lookup f = some ⟨oc,od,.func fd,osl⟩∧PySem.W.codeIn K cdv qual = true
  kp : PySem.W.keepIn K (.ref f) = true
section
variable {P : Program} {w : World} {K : PySem.W.Frag} {mg : Str→Option Value} {base : Heap}
theorem Fun.ok {x qual : Str} {st : Stmt} {f : Addr} {fd : FuncData} {N ps : List Str} {k : Nat} {sp : Sp} (F : Fun K x qual st f fd) (S : FnScope N ps (defScope st)) (len : ∀ vs H Q E,sp vs H Q E→vs.length = ps.length)
    (hbody : ∀ (cdv : Value) (A : Around) (outer : List Env) (s : Shared) (H : Hp) (vs : List V) (Q : VK) (E : XK),Room k (A.deeper (envOfC qual (defScope st) s.heap.objs.size f cdv))→sp vs H Q E →
      ∃ t,PSs (cxOf CX0 P w K mg base N qual (defScope st) f cdv A outer s H E).nox (defBody st) t∧t { nx:=fun _ H' => Q .non H',rt:=Q } (start N vs) H) : FnOk P w K mg base CX0 (k + 1) f fd ps sp := by
  obtain ⟨oc,od,kV,doc,pm,an,cdv,ct,osl,rfl,lk,hcd⟩:=F.ex
  refine fn_of lk hcd S len fun A outer s H vs Q E hr hsp => ?_
  obtain ⟨t,h,q⟩:=hbody cdv A outer s H vs Q E hr hsp
  exact ⟨t,h.nox,q⟩
theorem Fun.binds {x qual : Str} {st : Stmt} {f : Addr} {fd : FuncData} {ps : List Str} (F : Fun K x qual st f fd)
    (h : ∀ (kV doc pm : Value) (an : Option Addr) (cdv ct : Value) (us : List Value),us.length = ps.length→bindArgs (PySem.W.fnOf x qual (defArgs st) (defBody st) (defScope st) .none kV doc pm an cdv ct) ⟨us,[]⟩ = pure (ps.zip us)) : Binds K fd ps [] := by
  obtain ⟨oc,od,kV,doc,pm,an,cdv,ct,osl,rfl,lk,hcd⟩:=F.ex
  exact .all (h kV doc pm an cdv ct)
theorem fun_mk {x qual : Str} {st : Stmt} {f : Addr} {oc : Value} {od an : Option Addr} {osl : Array (Option Value)} {kV doc pm cdv ct : Value} (l : K.lookup f = some ⟨oc,od,.func (PySem.W.fnOf x qual (defArgs st) (defBody st) (defScope st) .none kV doc pm an cdv ct),osl⟩)
    (c : PySem.W.codeIn K cdv qual = true) (k : PySem.W.keepIn K (.ref f) = true) : Fun K x qual st f (PySem.W.fnOf x qual (defArgs st) (defBody st) (defScope st) .none kV doc pm an cdv ct):=⟨⟨oc,od,kV,doc,pm,an,cdv,ct,osl,rfl,l,c⟩,k⟩
end
theorem small1000 {n : Nat} (h : n≤1000) : n < sizeLine:=Nat.lt_of_le_of_lt h (by decide)
section
variable {X : Cx}
theorem pv (i : Nat) {x : Str} {pos : Pos} (hN : X.N[i]? = some x := by rfl) (hv : Vis X.env.scope x := by first | exact Or.inl rfl | exact Or.inr (Or.inl rfl) | exact Or.inr (Or.inr rfl)) (hd : (x == ("__debug__" : Str)) = false := by decide)
    (hcd : (x == ("__classdict__" : Str)) = false := by decide) : PE X (.Name x pos) (tVar i):=pe_var hN hv hd hcd
end
theorem iteF {A B : Prop} (h : B) : if false = true then A else B := by
  rw [if_neg Bool.false_ne_true]
  exact h
theorem iteT {A B : Prop} (h : A) : if true = true then A else B := by
  rw [if_pos rfl]
  exact h
theorem ite2 {c A B : Prop} [Decidable c] (h1 : c→A) (h2 : ¬ c→B) : if c then A else B := by
  by_cases h : c
  · rw [if_pos h]
    exact h1 h
  · rw [if_neg h]
    exact h2 h
def Same (H H' : Hp) : Prop:=∀ b o,H b = some o→H' b = some o
theorem Same.refl (H : Hp) : Same H H:=fun _ _ h => h
theorem Same.trans {H H1 H2 : Hp} (a : Same H H1) (b : Same H1 H2) : Same H H2:=fun c o h => b c o (a c o h)
theorem Same.seq {K : PySem.W.Frag} {H H' : Hp} {a : Addr} {xs : List V} (e : Same H H') (h : SqL K H a xs) : SqL K H' a xs := by
  rcases h with (h | ⟨o,h⟩) | h
  · exact .inl (.inl (e _ _ h))
  · exact .inl (.inr ⟨o,e _ _ h⟩)
  · exact .inr h
section
variable {X : Cx}
def CMulW (i j : Int) : Prop:=∃ m : Nat,m≤1000000∧i.natAbs < 2 ^ m∧j.natAbs < 2 ^ m
theorem CMulW.ok {i j : Int} (h : CMulW i j) : IntMulOk i j := by
  obtain ⟨m,hm,h1,h2⟩:=h
  exact IntMulOk.of_le (intBits_le_iff.mpr h1) (intBits_le_iff.mpr h2) (by lia)
theorem op_mulW : OpR X (binaryOp .Mult) (rI (fun i j => CMul i j∨CMulW i j) fun i j => .int (i * j)) :=
  opI fun _ _ _ _ _ _ _ hc q => mul_int q (hc.elim (fun z => z.ok) fun z => z.ok)
def CDivW (_i j : Int) : Prop:=j≠0∧∃ m : Nat,m≤9000∧j.natAbs < 2 ^ m
theorem op_fdivW : OpR X (binaryOp .FloorDiv) (rI CDivW fun i j => .int (i.fdiv j)):=opI fun i j _ _ _ _ _ hc q => by
  obtain ⟨h0,m,hm,h1⟩:=hc
  refine floordiv_int h0 q (.inl (PyProof.noPylong_of_log2 ?_))
  have hne : j.natAbs≠0 := by lia
  have : j.natAbs.log2 < m:=(Nat.log2_lt hne).mpr h1
  lia
mutual
def Br (K : PySem.W.Frag) (H : Hp) : PyData→V→Prop
  | .none,v => v = .non
  | .bool b,v => v = .bl b
  | .int i,v => v = .int i
  | .str x,v => v = .str x
  | .tuple ds,v => ∃ a xs,v = .ref a∧SqT K H a xs∧BrAll K H ds xs
  | .list ds,v => ∃ a xs,v = .ref a∧SqL K H a xs∧BrAll K H ds xs
  | .dict _,_ => False
def BrAll (K : PySem.W.Frag) (H : Hp) : List PyData→List V→Prop
  | [],xs => xs = []
  | d :: ds,xs => ∃ x r,xs = x :: r∧Br K H d x∧BrAll K H ds r
end
mutual
theorem Br.reads {pins : List (Addr×Obj)} {σ : St} {H : Hp} {s : Shared} (I : Inv X pins σ H s) : ∀ {d : PyData} {v : V} {u : Value},Br X.K H d v→RelV v u→∃ as,Reads s.heap u d as
  | .none,_,u,h,r => by rw [Br] at h; subst h; cases r; exact ⟨_,.none⟩
  | .bool b,_,u,h,r => by rw [Br] at h; subst h; cases r; exact ⟨_,.bool b⟩
  | .int i,_,u,h,r => by rw [Br] at h; subst h; obtain ⟨t,rfl⟩:=r; exact ⟨_,.int i t⟩
  | .str x,_,u,h,r => by rw [Br] at h; subst h; obtain ⟨t,rfl⟩:=r; exact ⟨_,.str x t⟩
  | .tuple ds,_,u,h,r => by
    rw [Br] at h
    obtain ⟨a,xs,e1,h1,h2⟩:=h
    subst e1
    cases r
    obtain ⟨its,rv,⟨o,e,c,n,hd⟩,_⟩:=I.tuple h1
    obtain ⟨as,ra⟩:=BrAll.reads I h2 rv
    exact ⟨_,.tuple e c hd (by simpa using ra)⟩
  | .list ds,_,u,h,r => by
    rw [Br] at h
    obtain ⟨a,xs,e1,h1,h2⟩:=h
    subst e1
    cases r
    obtain ⟨its,rv,⟨o,n,e,c,_,hd⟩,_⟩:=I.list h1
    obtain ⟨as,ra⟩:=BrAll.reads I h2 rv
    exact ⟨_,.list e c hd (by simpa using ra)⟩
  | .dict _,_,_,h,_ => by rw [Br] at h; exact h.elim
theorem BrAll.reads {pins : List (Addr×Obj)} {σ : St} {H : Hp} {s : Shared} (I : Inv X pins σ H s) : ∀ {ds : List PyData} {xs : List V} {us : List Value},BrAll X.K H ds xs→Vals xs us→∃ as,ReadsAll s.heap us ds as
  | [],_,us,h,r => by rw [BrAll] at h; subst h; cases r; exact ⟨_,.nil⟩
  | _ :: _,_,us,h,r => by
    rw [BrAll] at h
    obtain ⟨x,q,e1,h1,h2⟩:=h
    subst e1
    cases r with
    | cons r1 r2 =>
      obtain ⟨as,ra⟩:=Br.reads I h1 r1
      obtain ⟨bs,rb⟩:=BrAll.reads I h2 r2
      exact ⟨_,.cons ra rb⟩
end
def rEqD (K : PySem.W.Frag) (neg : Bool) : R2:=fun x y H Q => ∃ d e,Br K H d x∧Br K H e y∧SeqAt.shaped d = true∧SeqAt.shaped e = true∧Q (.bl (if neg then !PyData.eqv d e else PyData.eqv d e)) H
theorem op_eqD (hu : X.A.units + 64 < cLine) : OpR X (compareOp .Eq) (rEqD X.K false) := by
  intro pins s σ H x y v u Q I rx ry h
  obtain ⟨d,e,h1,h2,s1,s2,q⟩:=h
  obtain ⟨as,ra⟩:=Br.reads I h1 rx
  obtain ⟨bs,rb⟩:=Br.reads I h2 ry
  exact eq_dataH ra rb s1 s2 hu ⟨.bl _,H,I,rfl,q⟩
end
def PIf (X : Cx) (ifs : List Expr) (t : TT) : Prop :=
  ∀ (pins : List (Addr×Obj)) (s : Shared) (σ : St) (H : Hp) (Q : Bool→Hp→Prop),Inv X pins σ H s→t σ H Q →
    wpAny (model X.prog X.w) X.A (forIn ifs true fun c r => if r = true then do let ok ← isTrue c X.env (eval c X.env); pure (ForInStep.yield ok) else pure (ForInStep.yield r)) (TP X pins σ Q) X.xe s
def tNoIf : TT:=fun _ H Q => Q true H
theorem pif_nil {X : Cx} : PIf X [] tNoIf:=fun _ _ σ H _ I h => wpAny_tests_nil ⟨H,I,h⟩
def frOk (N XN : List Str) (sc xsc : Scope) : List (Option Nat)→Nat→Bool
  | [],_ => true
  | none :: r,i => frOk N XN sc xsc r (i + 1)
  | some j :: r,i => (match N[i]?,XN[j]? with
      | some n,some m => n == m && sc.names.lookup n == some .free && xsc.names.lookup n == some .cell
      | _,_ => false) && frOk N XN sc xsc r (i + 1)
theorem frOk_get {N XN : List Str} {sc xsc : Scope} : ∀ {fr : List (Option Nat)} {k : Nat},frOk N XN sc xsc fr k = true→∀ {i j : Nat},fr[i]? = some (some j) →
    ∃ n,N[k + i]? = some n∧XN[j]? = some n∧sc.names.lookup n = some .free∧xsc.names.lookup n = some .cell
  | [],_,_,i,j,e => by simp at e
  | none :: r,k,h,0,j,e => by simp at e
  | none :: r,k,h,i + 1,j,e => by
    have q:=frOk_get (fr:=r) (k:=k + 1) h (i:=i) (j:=j) (by simpa using e)
    have z : k + (i + 1) = k + 1 + i := by lia
    rw [z]; exact q
  | some j' :: r,k,h,0,j,e => by
    have e' : j' = j := by simpa using e
    subst e'
    rw [frOk,Bool.and_eq_true] at h
    have h1:=h.1
    split at h1
    · rename_i n m hn hm
      simp only [Bool.and_eq_true,beq_iff_eq] at h1
      obtain ⟨⟨rfl,h2⟩,h3⟩:=h1
      exact ⟨n,by simpa using hn,hm,h2,h3⟩
    · cases h1
  | some j' :: r,k,h,i + 1,j,e => by
    rw [frOk,Bool.and_eq_true] at h
    have q:=frOk_get (fr:=r) (k:=k + 1) h.2 (i:=i) (j:=j) (by simpa using e)
    have z : k + (i + 1) = k + 1 + i := by lia
    rw [z]; exact q
def carry (fr : List (Option Nat)) (σ : St) : St:=fr.map fun o => match o with
  | some j => (σ[j]?).join
  | none => none
theorem carry_get {fr : List (Option Nat)} {σ : St} {i : Nat} {v : V} (h : (carry fr σ)[i]? = some (some v)) : ∃ j,fr[i]? = some (some j)∧σ[j]? = some (some v) := by
  unfold carry at h
  rw [List.getElem?_map] at h
  cases e : fr[i]? with
  | none => rw [e] at h; cases h
  | some o =>
    rw [e] at h
    cases o with
    | none => simp at h
    | some j =>
      refine ⟨j,rfl,?_⟩
      simp only [Option.map_some,Option.some.injEq] at h
      cases q : σ[j]? with
      | none => rw [q] at h; cases h
      | some w => rw [q] at h; simp at h; rw [h]
theorem closure_of {env : Env} : ∀ (names : List (Str×NameKind)) (cs : List (Str×Addr)),(∀ x∈names,x.2 = NameKind.free→∃ c,env.cells.lookup x.1 = some c)→(∀ x c,cs.lookup x = some c→env.cells.lookup x = some c) →
    ∃ cl,(forIn names cs (fun (x : Str×NameKind) (r : List (Str×Addr)) => do if (x.2 == NameKind.free) = true then do let a ← cellOf env x.1; pure (ForInStep.yield ((x.1,a) :: r)) else pure (ForInStep.yield r)) : Sem (List (Str×Addr))) = pure cl ∧
      (∀ x c,cl.lookup x = some c→env.cells.lookup x = some c)∧(∀ x,(∃ c,cs.lookup x = some c)→∃ c,cl.lookup x = some c)∧∀ x∈names,x.2 = NameKind.free→∃ c,cl.lookup x.1 = some c
  | [],cs,_,h2 => ⟨cs,rfl,h2,fun _ q => q,fun _ z => (by cases z)⟩
  | (n,k) :: r,cs,h1,h2 => by
    rw [List.forIn_cons]
    by_cases hk : (k == NameKind.free) = true
    · obtain ⟨c,hc⟩:=h1 (n,k) List.mem_cons_self (by simpa using hk)
      have h2' : ∀ x c',((n,c) :: cs).lookup x = some c'→env.cells.lookup x = some c':=fun x c' e => by
        rw [List.lookup_cons] at e
        cases hx : x == n with
        | true => rw [hx] at e; have := beq_iff_eq.mp hx; subst this; simp at e; rw [← e]; exact hc
        | false => rw [hx] at e; exact h2 x c' e
      obtain ⟨cl,q1,q2,q3,q4⟩:=closure_of r ((n,c) :: cs) (fun x hx => h1 x (List.mem_cons_of_mem _ hx)) h2'
      have hn : ∃ c',cl.lookup n = some c':=q3 n ⟨c,by rw [List.lookup_cons,beq_self_eq_true]⟩
      refine ⟨cl,?_,q2,fun x hx => ?_,fun x hx hf => ?_⟩
      · simp only [hk,if_true]
        unfold cellOf
        rw [hc]
        exact q1
      · refine q3 x ?_
        rw [List.lookup_cons]
        cases hxn : x == n with
        | true => exact ⟨c,rfl⟩
        | false => exact hx
      · rcases List.mem_cons.mp hx with e | hx
        · subst e; exact hn
        · exact q4 x hx hf
    · obtain ⟨cl,q1,q2,q3,q4⟩:=closure_of r cs (fun x hx => h1 x (List.mem_cons_of_mem _ hx)) h2
      refine ⟨cl,?_,q2,q3,fun x hx hf => ?_⟩
      · simp only [hk]
        exact q1
      · rcases List.mem_cons.mp hx with e | hx
        · subst e; exact absurd (by simpa using hf) hk
        · exact q4 x hx hf
def cxComp (X : Cx) (scope : Scope) (cl : List (Str×Addr)) (N : List Str) (C : Addr) (s₀ : Shared) (H₀ : Hp) (fp : List Addr) : Cx where
  prog:=X.prog
  w:=X.w
  K:=X.K
  mg:=X.mg
  base:=X.base
  A:=X.A
  N:=N
  s₀:=s₀
  H₀:=H₀
  env:=compEnvC scope cl C X.env
  outer:=X.stack
  stack:=X.stack
  ex:=fp
  fn:=fun _ => false
  calm:=X.calm
  pn:=[]
  xe:=fun _ _ => False
def tComp (wi : TI) (fr : List (Option Nat)) (ix : Nat) (tif : TT) (te : TE) : TE:=fun σ H Q => wi σ H fun J H1 => ∀ D,H1 D = none→∃ W : Nat→Nat→List V→Hp→Prop,(∃ m,W 0 m [] (upd H1 D (.lst []))) ∧
  ∀ i m ys H,W i m ys H→H D = some (.lst ys)∧((J.stop i H∧Q (.ref D) H)∨(J.go i H∧ys.length < sizeLine∧∀ x H',J.yld i H x H' →
    tif ((carry fr σ).set ix (some x)) H' fun b H2 => if b = true then te ((carry fr σ).set ix (some x)) H2 fun y H3 => H3 D = some (.lst ys)∧∃ m',m' < m∧W (i + 1) m' (ys ++ [y]) (upd H3 D (.lst (ys ++ [y])))
      else ∃ m',m' < m∧W (i + 1) m' ys H2))
structure CompScope (scope : Scope) (N : List Str) (x : Str) (ix : Nat) : Prop where
  kind : scope.kind = .function
  cell : ∀ y∈scope.names,y.2≠.cell
  names : ∀ y∈scope.names,y.2 = .local→scope.names.lookup y.1 = some .local
  free : ∀ y∈scope.names,y.2 = .free→scope.names.lookup y.1 = some .free
  loc : scope.names.lookup x = some .local
  nd : N.Nodup
  at_ : N[ix]? = some x
theorem lookup_mem {names : List (Str×NameKind)} {n : Str} {k : NameKind} : names.lookup n = some k→(n,k)∈names := by
  induction names with
  | nil => intro h; cases h
  | cons y r ih =>
    intro h
    obtain ⟨m,j⟩:=y
    rw [List.lookup_cons] at h
    cases e : n == m with
    | true => rw [e] at h; have := beq_iff_eq.mp e; subst this; simp at h; subst h; exact List.mem_cons_self
    | false => rw [e] at h; exact List.mem_cons_of_mem _ (ih h)
theorem relabel_kind {scope : Scope} {env : Env} (hc : ∀ y∈scope.names,y.2≠.cell) {n : Str} (h : (relabel scope env).names.lookup n = some .cell∨(relabel scope env).names.lookup n = some .free) : ∃ k,(n,k)∈scope.names∧k = NameKind.free := by
  have key : ∀ k',(relabel scope env).names.lookup n = some k'→(k' = .cell∨k' = .free)→∃ k,(n,k)∈scope.names∧k = NameKind.free:=fun k' h hk => by
    have hm:=lookup_mem h
    unfold relabel at hm
    obtain ⟨⟨m,k⟩,hy,e⟩:=List.mem_map.mp hm
    dsimp only at e
    by_cases hcond : (k == NameKind.free && env.scope.kind == .function && env.kindOf m == some .cell) = true
    · rw [if_pos hcond] at e
      injection e with e1 e2
      subst e1
      refine ⟨k,hy,?_⟩
      simp only [Bool.and_eq_true,beq_iff_eq] at hcond
      exact hcond.1.1
    · rw [if_neg hcond] at e
      injection e with e1 e2
      subst e1 e2
      rcases hk with rfl | rfl
      · exact absurd rfl (hc _ hy)
      · exact ⟨_,hy,rfl⟩
  rcases h with h | h
  · exact key _ h (.inl rfl)
  · exact key _ h (.inr rfl)
section
variable {X : Cx} {elt iter : Expr} {x : Str} {px pos : Pos} {ifs : List Expr} {scope : Scope} {wi : TI} {fr : List (Option Nat)} {ix : Nat} {tif : TT} {te : TE} {N : List Str}
theorem codeAny_compLoop_testsT {prog : Program} {w : World} {A : Around} {R : Result→Shared→Prop} {s : Shared} {elt target iter : Expr} {ifs : List Expr} {scope : Scope} {pos : Pos} {it acc : Value} {env : Env} (I : Nat→Shared→Prop)
    (turn : ∀ n s,I n s→wpAny (model prog w) A (pyNext it) (fun r s₁ => match r with
      | none => R (.ok .next) s₁
      | some v => wpAny (model prog w) A (letOwnedTupleGo target it v >>= fun _ => assign target env v) (fun _ s₂ =>
          wpAny (model prog w) A (forIn ifs true fun c r => if r = true then do let ok ← isTrue c env (eval c env); pure (ForInStep.yield ok) else pure (ForInStep.yield r)) (fun ok s₃ =>
            if ok = true then wpAny (model prog w) A (eval elt env) (fun x s₄ =>
              wpAny (model prog w) A (call (.builtin "list.append") [acc,x]) (fun _ s₅ => ∃ m,m < n∧I m s₅) (notedBy (model prog w) A env fun e s' => R (.error e) s') s₄) (notedBy (model prog w) A env fun e s' => R (.error e) s') s₃
            else ∃ m,m < n∧I m s₃) (notedBy (model prog w) A env fun e s' => R (.error e) s') s₂) (notedBy (model prog w) A env fun e s' => R (.error e) s') s₁) (notedBy (model prog w) A env fun e s' => R (.error e) s') s)
    (n : Nat) (h : I n s) :
    codeAny (model prog w) A (.compLoop (.ListComp elt [⟨target,iter,ifs,0⟩] scope pos) 0 it acc env) R s := by
  refine codeAny_loop rfl I (fun n s hI => ?_) n h
  show wpAny _ A ((compTurn (.ListComp elt [⟨target,iter,ifs,0⟩] scope pos) 0 it acc env).onRaise (fun x => do noteFrame x env; theTreesLotGoes x)) _ _ s
  refine wpAny_noted ?_
  rw [compTurn_list]
  refine wpAny_bind (wpAny_standAt (wpAny_bind (wpAny_mono (turn n s hI) (fun r s₁ h₁ => ?_) fun _ _ h' => h')))
  cases r with
  | none => exact wpAny_pure h₁
  | some v =>
    show wpAny (model prog w) A (letOwnedTupleGo target it v >>= fun _ => assign target env v >>= _) _ _ s₁
    rw [← bind_assoc]
    refine wpAny_bind (wpAny_mono h₁ (fun _ s₂ h₂ => wpAny_bind (wpAny_mono h₂ (fun ok s₃ h₃ => ?_) fun _ _ h' => h')) fun _ _ h' => h')
    cases ok with
    | false => exact wpAny_pure ⟨rfl,h₃⟩
    | true =>
      exact wpAny_bind (wpAny_bind (wpAny_mono h₃ (fun x s₄ h₄ => wpAny_bind (wpAny_mono h₄ (fun _ s₅ h₅ => wpAny_pure (wpAny_pure ⟨rfl,h₅⟩)) fun _ _ h' => h')) fun _ _ h' => h'))
theorem comp_blockG {pins : List (Addr×Obj)} {σ : St} {H2 : Hp} {s2 : Shared} {Q : VK} {it : Addr} {fp : List Addr} {tn : Nat→Heap→Prop} {J : It} {cl : List (Str×Addr)} {E : Value→Shared→Prop} {RR : Value→Addr→Result→Shared→Prop}
    (S : CompScope scope N x ix) (hcalm : X.calm = true) {tgE : Expr} {g : TG} (Rv : St→Prop) (r0 : Rv (carry fr σ)) (hpg : ∀ C,PG (cxComp X scope cl N C s2 H2 fp) tgE g) (hfr : frOk N X.N scope X.env.scope fr 0 = true) (hlen : fr.length = N.length)
    (hif : ∀ cl C s₀ H₀ fp,PIf (cxComp X scope cl N C s₀ H₀ fp) ifs tif) (he : ∀ cl C s₀ H₀ fp,PE (cxComp X scope cl N C s₀ H₀ fp) elt te)
    (I2 : Inv X pins σ H2 s2) (T : Turn X.prog X.w X.K tgE J fp it tn) (st2 : tn 0 s2.heap) (f2 : ∀ b∈fp,FpOk X pins H2 b)
    (c1 : ∀ x c,cl.lookup x = some c→X.env.cells.lookup x = some c) (c2 : ∀ x∈scope.names,x.2 = NameKind.free→∃ c,cl.lookup x.1 = some c)
    (W : ∀ D,H2 D = none→∃ W : Nat→Nat→List V→Hp→Prop,(∃ m,W 0 m [] (upd H2 D (.lst []))) ∧
      ∀ i m ys H,W i m ys H→H D = some (.lst ys)∧((J.stop i H∧Q (.ref D) H)∨(J.go i H∧ys.length < sizeLine∧∀ x H',J.yld i H x H'→∀ σ',Rv σ'→g x σ' H' fun σ6 H6 => Rv σ6 ∧
        tif σ6 H6 fun b H2 => if b = true then te σ6 H2 fun y H3 => H3 D = some (.lst ys)∧∃ m',m' < m∧W (i + 1) m' (ys ++ [y]) (upd H3 D (.lst (ys ++ [y])))
          else ∃ m',m' < m∧W (i + 1) m' ys H2)))
    (fin : ∀ (D C : Addr) (s' : Shared) (H' : Hp) m,s'.heap.Ns C m→Q (.ref D) H'→(∀ h',Heap.SameBut C s'.heap h'→Inv X pins σ H' { s' with heap:=h' })→C≠D→(∀ b o,s2.heap.get? b = some o→b≠C)→H' C = none→s2.heap.objs.size≤C→RR (.ref D) C (.ok .next) s') :
    wpAny (model X.prog X.w) X.A (newList []) (fun acc s₃ => wpAny (model X.prog X.w) X.A (newFunctionEnv scope X.env.globals cl [] X.env.qual none .none (some X.env)) (fun cenv s₄ =>
      codeAny (model X.prog X.w) X.A (.compStart (.ListComp elt [⟨tgE,iter,ifs,0⟩] scope pos) 0 (.ref it) acc { cenv with scope:=relabel scope X.env }) (RR acc cenv.locals) s₄) E s₃) E s2 := by
  refine wpAny_newObj_type (wpAny_newFunctionEnv S.cell (by intro y hy; simp at hy) (fun h₁ hns₁ hsb₁ => ?_) S.kind)
  dsimp only at hns₁ hsb₁ ⊢
  generalize hHp : s2.heap.push { cls:=.type "list",dict:=none,data:=.seq ([] : List Value).toArray } = Hq at hns₁ hsb₁ ⊢
  have hC : Hq.objs.size = s2.heap.objs.size + 1 := by rw [← hHp,Heap.size_push]
  have hDC : s2.heap.objs.size≠Hq.objs.size := by rw [hC]; exact Nat.ne_of_lt (Nat.lt_succ_self _)
  have below : ∀ b,b < s2.heap.objs.size→b≠Hq.objs.size∧b≠s2.heap.objs.size:=fun b hb => ⟨by rw [hC]; exact Nat.ne_of_lt (Nat.lt_succ_of_lt hb),Nat.ne_of_lt hb⟩
  have old : ∀ b o,s2.heap.get? b = some o→h₁.get? b = some o:=fun b o e => hsb₁.extBut b o (below b (Heap.lt_size e)).1 (Heap.get?_push_of_some _ (hHp ▸ Heap.get?_push_of_some _ e))
  have hacc : h₁.get? s2.heap.objs.size = some { cls:=.type "list",data:=.seq ([] : List Value).toArray }:=hsb₁.extBut _ _ hDC (Heap.get?_push_of_some _ (hHp ▸ Heap.get?_push_size _ rfl))
  have hD2 : H2 s2.heap.objs.size = none:=I2.hok.fresh (Nat.le_refl _)
  have hC2 : H2 Hq.objs.size = none:=I2.hok.fresh (by rw [hC]; exact Nat.le_succ _)
  have fpo : ∀ b∈fp,b < s2.heap.objs.size:=fun b hb => by
    obtain ⟨o,e,_⟩:=T.obj _ _ st2 b hb
    exact Heap.lt_size e
  obtain ⟨W,⟨m0,w0⟩,turn⟩:=W s2.heap.objs.size hD2
  have ok : (cxComp X scope cl N Hq.objs.size s2 H2 fp).Ok := by
    refine ⟨I2.ok.mod,S.kind,I2.ok.glob,I2.ok.blt,by show s2.heap.objs.size≤Hq.objs.size; rw [hC]; exact Nat.le_succ _,?_,?_,?_,fun _ => I2.ok.hd hcalm,I2.ok.frames,.inl rfl,?_,I2.bs,Nat.le_trans I2.ok.bsz I2.sz,?_,?_,I2.stack,I2.stkFree,I2.kt⟩
    · exact fun a b c h1 h2 => I2.ok.inj a b c (c1 _ _ h1) (c1 _ _ h2)
    · intro y hy
      obtain ⟨k,hm,rfl⟩:=relabel_kind S.cell hy
      exact c2 _ hm rfl
    · intro y c hf
      cases hf
    · intro b hb
      refine ⟨(below b (fpo b hb)).1,fun y c e => ?_⟩
      obtain ⟨_,_,_,_,f5,_⟩:=f2 b hb
      exact f5 y c (c1 _ _ e)
    · intro b o e hb
      obtain ⟨_,_,_,f4,_,_⟩:=f2 b hb
      rcases f4 with z | z
      · exact I2.ok.noex b o e z
      · exact absurd (Nat.lt_of_lt_of_le (Heap.lt_size e) (Nat.le_trans I2.ok.bsz z)) (Nat.lt_irrefl _)
    · intro b hb hs
      obtain ⟨_,f1,f3,_⟩:=f2 b hb
      rcases List.mem_cons.mp (I2.stkSub b hs) with z | z
      · exact f1 z
      · exact f3 z
  have I4 : Inv (cxComp X scope cl N Hq.objs.size s2 H2 fp) [] (carry fr σ) (upd H2 s2.heap.objs.size (.lst [])) { s2 with heap:=h₁,toks:=s2.toks + ([] : List (Str×Value)).length } := by
    refine ⟨ok,rfl,I2.bare,Un.laid old (Nat.le_refl _) hD2,⟨_,hns₁,fun i y v h1 h2 h3 => ?_⟩,fun y c e => ?_,?_,fun y c e => ?_,fun p hp => (by cases hp),I2.hok.laid old (Nat.le_refl _) ⟨Nat.zero_le _,[],0,.nil,hacc⟩,?_⟩
    · obtain ⟨j,e1,e2⟩:=carry_get h2
      obtain ⟨n,n1,n2,n3,n4⟩:=frOk_get hfr e1
      rw [Nat.zero_add] at n1
      have : y = n := by
        have h1' : N[i]? = some y:=h1
        rw [h1'] at n1; exact Option.some.inj n1
      subst this
      obtain ⟨m,hn,hl⟩:=I2.loc
      obtain ⟨u,ru,lk⟩:=hl j y v n2 e2 (.inr (.inl n4))
      refine ⟨u,ru,?_⟩
      obtain ⟨c,hc⟩:=c2 _ (lookup_mem n3) rfl
      rcases lk with ⟨k1,_⟩ | ⟨_,c',hc',hcell⟩
      · have k1' : X.env.scope.names.lookup y = some .local:=k1
        rw [n4] at k1'; cases k1'
      · have:=c1 _ _ hc
        rw [hc'] at this; cases this
        refine .inr ⟨?_,c,hc,hcell.keeps old⟩
        rcases h3 with z | z | z
        · obtain ⟨k,hm⟩ : ∃ k,(y,k)∈scope.names∧k = NameKind.local := by
            have hm:=lookup_mem z
            have hm' : (y,NameKind.local)∈(relabel scope X.env).names:=hm
            unfold relabel at hm'
            obtain ⟨⟨m',k⟩,hy,e⟩:=List.mem_map.mp hm'
            dsimp only at e
            by_cases hcond : (k == NameKind.free && X.env.scope.kind == .function && X.env.kindOf m' == some .cell) = true
            · rw [if_pos hcond] at e; injection e with _ e2'; cases e2'
            · rw [if_neg hcond] at e; injection e with e1' e2'; subst e1' e2'; exact ⟨_,hy,rfl⟩
          obtain ⟨hm,rfl⟩:=hm
          have:=S.names _ hm rfl
          rw [n3] at this; cases this
        · exact .inl z
        · exact .inr z
    · obtain ⟨v,z⟩:=I2.cell y c (c1 _ _ e)
      exact ⟨v,z.keeps old⟩
    · show upd H2 s2.heap.objs.size _ Hq.objs.size = none
      rw [upd_ne (Ne.symm hDC)]; exact hC2
    · obtain ⟨v,o,ho,_⟩:=I2.cell y c (c1 _ _ e)
      rw [upd_ne (below c (Heap.lt_size ho)).2]
      exact I2.freeC y c (c1 _ _ e)
    · show (carry fr σ).length = N.length
      unfold carry
      rw [List.length_map]; exact hlen
  have fpX : ∀ (p : List (Addr×Obj)) (H' : Hp),(∀ q∈p,q.1∈fp→False)→(∀ b∈fp,H' b = none)→∀ b∈fp,FpOk (cxComp X scope cl N Hq.objs.size s2 H2 fp) p H' b:=fun p H' hp hn b hb => by
    obtain ⟨_,f1,f3,f4,f5,_⟩:=f2 b hb
    refine ⟨hn b hb,(below b (fpo b hb)).1,fun hs => ok.exfs b hb hs,.inl hb,fun y c e => f5 y c (c1 _ _ e),fun q hq e => ?_⟩
    exact hp q hq (e ▸ hb)
  have hxv : (relabel scope X.env).names.lookup x = some .local:=lookup_relabel_local S.loc
  have loop : ∀ s₃ : Shared,s₃ = { s2 with heap:=h₁,toks:=s2.toks + ([] : List (Str×Value)).length } →
      codeAny (model X.prog X.w) X.A (.compLoop (.ListComp elt [⟨tgE,iter,ifs,0⟩] scope pos) 0 (.ref it) (.ref s2.heap.objs.size) (compEnvC scope cl Hq.objs.size X.env)) (RR (.ref s2.heap.objs.size) Hq.objs.size) s₃ := by
    rintro s₃ rfl
    refine codeAny_compLoop_testsT (fun n s' => ∃ i ys σ' H',Inv (cxComp X scope cl N Hq.objs.size s2 H2 fp) [] σ' H' s'∧Rv σ'∧tn i s'.heap∧(∀ b∈fp,H' b = none)∧W i n ys H') ?_ m0
      ⟨0,[],carry fr σ,_,I4,r0,T.keep _ _ _ st2 fun b _ o e => old b o e,fun b hb => by rw [upd_ne (below b (fpo b hb)).2]; exact (f2 b hb).1,w0⟩
    rintro n s3 ⟨i,ys,σ3,H3,I3,hσ,st3,fr3,w3⟩
    obtain ⟨hD3,way⟩:=turn i n ys H3 w3
    rcases way with ⟨stop,qn⟩ | ⟨go,hsz,step⟩
    · refine wpAny_mono (T.done (cxComp X scope cl N Hq.objs.size s2 H2 fp) rfl rfl rfl hcalm i [] s3 σ3 H3 (fun _ _ => False) I3 (fpX [] H3 (fun _ z => by cases z) fr3) st3 stop) (fun r s4 ⟨hr,I5⟩ => ?_) fun _ _ z => z.elim
      subst hr
      obtain ⟨m,hn,_⟩:=id I5.loc
      refine fin _ _ s4 H3 m hn qn (fun h' hs' => ?_) (Ne.symm hDC) (fun b o e => (below b (Heap.lt_size e)).1) I5.free (by rw [hC]; exact Nat.le_succ _)
      have nC : ∀ b u,H3 b = some u→b≠Hq.objs.size:=fun b u e z => by
        have:=I5.free
        rw [show (cxComp X scope cl N Hq.objs.size s2 H2 fp).env.locals = Hq.objs.size from rfl,← z,e] at this
        cases this
      have keepU : Un (frs X.stack) fp H2 H3 s2.heap h' := by
        have u:=I5.base
        refine ⟨fun b o e n hb hx => ?_,fun b o e n hb hx => ?_,fun b o e n hx => u.free b o e n hx,fun b o e hx => ?_,u.tups,u.frzs,u.tbls,fun b xs o q e hx => (hs'.2 b (below b (Heap.lt_size e)).1).trans (u.tupo b xs o q e hx)⟩
        · exact (hs'.2 b (below b (Heap.lt_size e)).1).trans (u.keep b o e n hb hx)
        · obtain ⟨sl,e1⟩:=u.slot b o e n hb hx
          exact ⟨sl,(hs'.2 b (below b (Heap.lt_size e)).1).trans e1⟩
        · obtain ⟨o',e1⟩:=u.there b o e hx
          exact ⟨o',(hs'.2 b (below b (Heap.lt_size e)).1).trans e1⟩
      have hok' : HOk X.prog X.w H3 h':=fun b u e => (I5.hok b u e).stay (fun c v hc q => (hs'.2 c (by
        rcases hc with rfl | hc
        · exact nC _ _ e
        · exact nC _ _ hc)).trans q) (fun _ q => q) fun _ _ q => q
      refine I2.call' (s':={ s4 with heap:=h' }) (ch:=fp) I5.os keepU hok' I5.bare fun b hb => ?_
      obtain ⟨_,f1,_,f4,f5,f6⟩:=f2 b hb
      exact ⟨f4,f1,f5,f6⟩
    · refine wpAny_mono (T.item (cxComp X scope cl N Hq.objs.size s2 H2 fp) rfl rfl rfl hcalm i [] s3 σ3 H3 (fun _ _ => False) I3 (fpX [] H3 (fun _ z => by cases z) fr3) st3 go) (fun r s4 ⟨u,hr,h4⟩ => ?_) fun _ _ z => z.elim
      subst hr
      show wpAny (model X.prog X.w) X.A (letOwnedTupleGo tgE (.ref it) u >>= fun _ => assign tgE (compEnvC scope cl Hq.objs.size X.env) u) _ _ s4
      refine wpAny_bind (wpAny_mono h4 (fun _ s5 ⟨xv,H5,I5,r5,y5,st5,fr5⟩ => ?_) fun _ _ z => z.elim)
      have I5':=I5.pinned (fpX [] H5 (fun _ z => by cases z) fr5) (T.obj _ _ st5)
      refine wpAny_mono (hpg _ _ s5 σ3 H5 xv u _ I5' r5 (step xv H5 y5 σ3 hσ)) (fun _ s6 ⟨σ6,H6,I6,rv6,step5⟩ => ?_) fun _ _ z => z.elim
      refine wpAny_mono (hif _ _ _ _ _ _ s6 _ H6 _ I6 step5) (fun b s7 ⟨H7,I7,q7⟩ => ?_) fun _ _ z => z.elim
      have again : ∀ {s8 : Shared} {H8 : Hp} {k : Nat} {zs : List V},Inv (cxComp X scope cl N Hq.objs.size s2 H2 fp) ([] ++ pinsAt fp s5.heap) σ6 H8 s8→W (i + 1) k zs H8→k < n →
          ∃ m,m < n∧∃ i ys σ' H',Inv (cxComp X scope cl N Hq.objs.size s2 H2 fp) [] σ' H' s8∧Rv σ'∧tn i s8.heap∧(∀ b∈fp,H' b = none)∧W i m ys H':=fun {s8 H8 k zs} I8 w8 hk => by
        refine ⟨k,hk,i + 1,zs,_,H8,I8.unpinned,rv6,T.keep _ _ _ st5 fun b hb o e => (I8.pin (b,o) (List.mem_append_right _ (List.mem_append_right _ (mem_pinsAt hb e)))).1,fun b hb => ?_,w8⟩
        obtain ⟨o,e,d⟩:=T.obj _ _ st5 b hb
        exact (I8.pin (b,o) (List.mem_append_right _ (List.mem_append_right _ (mem_pinsAt hb e)))).2.1
      cases b with
      | false =>
        rw [if_neg Bool.false_ne_true] at q7 ⊢
        obtain ⟨k,hk,w7⟩:=q7
        exact again I7 w7 hk
      | true =>
        rw [if_pos rfl] at q7 ⊢
        refine wpAny_mono (he _ _ _ _ _ _ s7 _ H7 _ I7 q7) (fun yv s8 ⟨y,H8,I8,r8,hD8,k,hk,w8⟩ => ?_) fun _ _ z => z.elim
        refine wpAny_mono (mt_append (X:=cxComp X scope cl N Hq.objs.size s2 H2 fp) _ s8 _ H8 (.ref s2.heap.objs.size) [y] (.ref s2.heap.objs.size) [yv] (fun _ H9 => H9 = upd H8 s2.heap.objs.size (.lst (ys ++ [y]))) I8 rfl (.cons r8 .nil) ⟨_,ys,y,rfl,rfl,hD8,hsz,rfl⟩) (fun _ s9 ⟨_,H9,I9,_,e9⟩ => ?_) fun _ _ z => z.elim
        subst e9
        exact again I9 w8 hk
  exact codeAny_compStart_list (loop _ rfl) (T.self X.A 0 _ _ _ (T.keep _ _ _ st2 fun b _ o e => old b o e) (loop _ rfl))
theorem comp_block {pins : List (Addr×Obj)} {σ : St} {H2 : Hp} {s2 : Shared} {Q : VK} {it : Addr} {fp : List Addr} {tn : Nat→Heap→Prop} {J : It} {cl : List (Str×Addr)} {E : Value→Shared→Prop} {RR : Value→Addr→Result→Shared→Prop}
    (S : CompScope scope N x ix) (hcalm : X.calm = true) (hfr : frOk N X.N scope X.env.scope fr 0 = true) (hlen : fr.length = N.length)
    (hif : ∀ cl C s₀ H₀ fp,PIf (cxComp X scope cl N C s₀ H₀ fp) ifs tif) (he : ∀ cl C s₀ H₀ fp,PE (cxComp X scope cl N C s₀ H₀ fp) elt te)
    (I2 : Inv X pins σ H2 s2) (T : Turn X.prog X.w X.K (.Name x px) J fp it tn) (st2 : tn 0 s2.heap) (f2 : ∀ b∈fp,FpOk X pins H2 b)
    (c1 : ∀ x c,cl.lookup x = some c→X.env.cells.lookup x = some c) (c2 : ∀ x∈scope.names,x.2 = NameKind.free→∃ c,cl.lookup x.1 = some c)
    (W : ∀ D,H2 D = none→∃ W : Nat→Nat→List V→Hp→Prop,(∃ m,W 0 m [] (upd H2 D (.lst []))) ∧
      ∀ i m ys H,W i m ys H→H D = some (.lst ys)∧((J.stop i H∧Q (.ref D) H)∨(J.go i H∧ys.length < sizeLine∧∀ x H',J.yld i H x H' →
        tif ((carry fr σ).set ix (some x)) H' fun b H2 => if b = true then te ((carry fr σ).set ix (some x)) H2 fun y H3 => H3 D = some (.lst ys)∧∃ m',m' < m∧W (i + 1) m' (ys ++ [y]) (upd H3 D (.lst (ys ++ [y])))
          else ∃ m',m' < m∧W (i + 1) m' ys H2)))
    (fin : ∀ (D C : Addr) (s' : Shared) (H' : Hp) m,s'.heap.Ns C m→Q (.ref D) H'→(∀ h',Heap.SameBut C s'.heap h'→Inv X pins σ H' { s' with heap:=h' })→C≠D→(∀ b o,s2.heap.get? b = some o→b≠C)→H' C = none→s2.heap.objs.size≤C→RR (.ref D) C (.ok .next) s') :
    wpAny (model X.prog X.w) X.A (newList []) (fun acc s₃ => wpAny (model X.prog X.w) X.A (newFunctionEnv scope X.env.globals cl [] X.env.qual none .none (some X.env)) (fun cenv s₄ =>
      codeAny (model X.prog X.w) X.A (.compStart (.ListComp elt [⟨.Name x px,iter,ifs,0⟩] scope pos) 0 (.ref it) acc { cenv with scope:=relabel scope X.env }) (RR acc cenv.locals) s₄) E s₃) E s2 := by
  have hxv : (relabel scope X.env).names.lookup x = some .local:=lookup_relabel_local S.loc
  refine comp_blockG S hcalm (fun σ' => ∀ v,σ'.set ix v = (carry fr σ).set ix v) (fun _ => rfl) (fun C => pg_name (X:=cxComp X scope cl N C s2 H2 fp) S.nd S.at_ (.inl hxv) (.inr hxv)) hfr hlen hif he I2 T st2 f2 c1 c2 (fun D hD => ?_) fin
  obtain ⟨W,w0,st⟩:=W D hD
  refine ⟨W,w0,fun i m ys H w => ?_⟩
  obtain ⟨h1,h2 | ⟨h2,h3,h4⟩⟩:=st i m ys H w
  · exact ⟨h1,.inl h2⟩
  · refine ⟨h1,.inr ⟨h2,h3,fun x H' hy σ' hr => ?_⟩⟩
    have:=h4 x H' hy
    rw [← hr] at this
    exact ⟨fun v => by rw [List.set_set,hr],this⟩
theorem pe_comp (S : CompScope scope N x ix) (hcalm : X.calm = true) (hfr : frOk N X.N scope X.env.scope fr 0 = true) (hlen : fr.length = N.length) (hfree : ∀ y∈scope.names,y.2 = .free→X.env.scope.names.lookup y.1 = some .cell∨X.env.scope.names.lookup y.1 = some .free)
    (hi : PI X (.Name x px) iter wi) (hif : ∀ cl C s₀ H₀ fp,PIf (cxComp X scope cl N C s₀ H₀ fp) ifs tif) (he : ∀ cl C s₀ H₀ fp,PE (cxComp X scope cl N C s₀ H₀ fp) elt te)
    (hs : ∀ x,foldedSetIterable iter X.env x = pure x := by intro _; rfl) : PE X (.ListComp elt [⟨.Name x px,iter,ifs,0⟩] scope pos) (tComp wi fr ix tif te) := by
  intro pins s σ H Q I hw
  obtain ⟨cl,hclos,c1,_,c2⟩:=closure_of (env:=X.env) scope.names [] (fun y hy hf => I.ok.has y.1 (hfree y hy hf)) (fun y c z => by cases z)
  have hclos' : closureFor scope X.env = pure cl := by
    have e : closureFor scope X.env = ((forIn scope.names [] (fun (x : Str×NameKind) (r : List (Str×Addr)) => do if (x.2 == NameKind.free) = true then do let a ← cellOf X.env x.1; pure (ForInStep.yield ((x.1,a) :: r)) else pure (ForInStep.yield r)) : Sem (List (Str×Addr))) >>= fun cs => pure cs):=rfl
    rw [e,hclos]
    rfl
  rw [eval_ListComp]
  refine wpAny_comprehension_free (use:=none) rfl hs hclos' S.kind S.names (thn (hi pins s σ H _ I hw) fun v s1 h1 => thn h1 fun itv s2 h2 => ?_)
  obtain ⟨it,fp,tn,J,H2,e,I2,T,st2,f2,W⟩:=h2
  subst e
  refine comp_block (RR:=fun acc C => compPost (model X.prog X.w) X.A X.xe none (EP X pins σ Q) acc C) S hcalm hfr hlen hif he I2 T st2 f2 c1 c2 W ?_
  intro D C s' H' m hn q hI _ _ _ _
  exact ⟨m,hn,fun h' hs' => ⟨.ref D,H',hI h' hs',rfl,q⟩⟩
theorem ps_setComp {i : Nat} {y : Str} {py spos : Pos} (hN : X.N.Nodup) (hy : X.N[i]? = some y) (hly : X.env.scope.names.lookup y = some .local) (S : CompScope scope N x ix) (hcalm : X.calm = true) (hfr : frOk N X.N scope X.env.scope fr 0 = true) (hlen : fr.length = N.length)
    (hfree : ∀ y∈scope.names,y.2 = .free→X.env.scope.names.lookup y.1 = some .cell∨X.env.scope.names.lookup y.1 = some .free)
    (hi : PI X (.Name x px) iter wi) (hif : ∀ cl C s₀ H₀ fp,PIf (cxComp X scope cl N C s₀ H₀ fp) ifs tif) (he : ∀ cl C s₀ H₀ fp,PE (cxComp X scope cl N C s₀ H₀ fp) elt te)
    (hsw : swapsWith (.ListComp elt [⟨.Name x px,iter,ifs,0⟩] scope pos) (some (.Name y py)) spos.line X.env = pure true := by rfl)
    (hs : ∀ x,foldedSetIterable iter X.env x = pure x := by intro _; rfl) :
    PS X (.Assign [.Name y py] (.ListComp elt [⟨.Name x px,iter,ifs,0⟩] scope pos) spos) (tAsg (tComp wi fr ix tif te) (gName i)) := by
  intro pins s σ H D I hw
  obtain ⟨cl,hclos,c1,_,c2⟩:=closure_of (env:=X.env) scope.names [] (fun y hy hf => I.ok.has y.1 (hfree y hy hf)) (fun y c z => by cases z)
  have hclos' : closureFor scope X.env = pure cl := by
    have e : closureFor scope X.env = ((forIn scope.names [] (fun (x : Str×NameKind) (r : List (Str×Addr)) => do if (x.2 == NameKind.free) = true then do let a ← cellOf X.env x.1; pure (ForInStep.yield ((x.1,a) :: r)) else pure (ForInStep.yield r)) : Sem (List (Str×Addr))) >>= fun cs => pure cs):=rfl
    rw [e,hclos]
    rfl
  rw [exec_Assign_Name_used _ _ _ _ hsw]
  refine wpAny_bind (wpAny_standAt (wpAny_bind ?_))
  show wpAny _ X.A (do let _ ← comprehension (.ListComp elt [⟨.Name x px,iter,ifs,0⟩] scope pos) scope X.env _ (newList []) false (eval iter X.env) (some (assign (.Name y py) X.env))) _ _ s
  refine wpAny_bind (wpAny_mono (wpAny_comprehension_free (use:=some (assign (.Name y py) X.env)) (Q:=fun _ s' => SP X pins D .next s') rfl hs hclos' S.kind S.names
    (thn (hi pins s σ H _ I hw) fun v s1 h1 => thn h1 fun itv s2 h2 => ?_)) (fun _ s' hq => wpAny_pure (wpAny_pure hq)) fun _ _ e => e)
  obtain ⟨it,fp,tn,J,H2,e,I2,T,st2,f2,W⟩:=h2
  subst e
  refine comp_block (Q:=fun x H1 => gName i x σ H1 D.nx) (RR:=fun acc C => compPost (model X.prog X.w) X.A X.xe (some (assign (.Name y py) X.env)) (fun _ s' => SP X pins D .next s') acc C) S hcalm hfr hlen hif he I2 T st2 f2 c1 c2 W ?_
  intro D' C s' H' m hn q hI hCD hold hfreeC hsz
  have I5 : Inv X pins σ H' s':=hI s'.heap (Heap.SameBut.refl ..)
  refine wpAny_assign_Name (store_ok2 I5 hN hy (.inl hly) (v:=.ref D') rfl (fun s'' I6 ⟨a,hsb,ha⟩ => ?_) (.inr hly))
  have hL : C≠X.env.locals:=fun z => by
    obtain ⟨_,⟨o,_,_,e,_⟩,_⟩:=I2.loc
    exact hold _ _ e z.symm
  have hcl : ∀ z c,X.env.cells.lookup z = some c→c≠C:=fun z c e => by
    obtain ⟨_,o,ho,_⟩:=I2.cell z c e
    exact hold _ _ ho
  have hCa : C≠a := by
    rcases ha with z | z
    · rw [z]; exact hL
    · exact Ne.symm (hcl _ _ z)
  refine ⟨m,hn.sameBut hsb hCa,fun h' hs' => ⟨_,H',I6.turned (t':=s''.toks) (it:=C) (fun b o hb e => (hs'.2 b hb).trans e) hfreeC hL (.inr (Nat.le_trans I2.sz hsz)) hcl fun p hp => ?_,q⟩⟩
  obtain ⟨e,_⟩:=I2.pin p hp
  exact hold _ _ e
end
end L2
namespace FM
def gi (a b : Int) : Int:=(Int.gcd a b : Int)
theorem gcd_step (a b : Int) : Int.gcd b (a.fmod b) = Int.gcd a b := by
  have e : a.fmod b = a - b * a.fdiv b:=Int.fmod_def a b
  rw [e,Int.gcd_comm a b]
  exact Int.gcd_sub_mul_left_right b a (a.fdiv b)
theorem fmod_less (a b : Int) (hb : b≠0) : (a.fmod b).natAbs < b.natAbs := by
  rcases Int.lt_or_gt_of_ne hb with h | h
  · have h1 : -(a.fmod b) = (-a).fmod (-b) := by
      rw [Int.fmod_def,Int.fmod_def,Int.neg_fdiv_neg]
      have : -b * a.fdiv b = -(b * a.fdiv b):=Int.neg_mul _ _
      lia
    have h2:=Int.fmod_nonneg_of_pos (-a) (show 0 < -b by lia)
    have h3:=Int.fmod_lt_of_pos (-a) (show 0 < -b by lia)
    lia
  · have h2:=Int.fmod_nonneg_of_pos a h
    have h3:=Int.fmod_lt_of_pos a h
    lia
theorem gi_pos {a b : Int} (hb : b≠0) : 0 < gi a b := by
  have : 0 < Int.gcd a b:=Int.gcd_pos_of_ne_zero_right a hb
  unfold gi; lia
theorem gi_le {a b : Int} (hb : b≠0) : (gi a b).natAbs≤b.natAbs := by
  have h : Int.gcd a b ∣ b.natAbs := by
    have:=Int.gcd_dvd_right a b
    exact Int.natAbs_dvd_natAbs.mpr this
  have h2 : 0 < b.natAbs := by lia
  have:=Nat.le_of_dvd h2 h
  unfold gi; lia
def gs (t b : Int) : Int:=if b < 0 then -gi t b else gi t b
theorem gs_ne {t b : Int} (hb : b≠0) : gs t b≠0 := by
  have:=gi_pos (a:=t) hb
  unfold gs; split <;> lia
theorem gs_le {t b : Int} (hb : b≠0) : (gs t b).natAbs≤b.natAbs := by
  have:=gi_le (a:=t) hb
  unfold gs; split <;> lia
theorem fdiv_exact {g x k : Int} (hg : g≠0) (e : x = g * k) : x.fdiv g = k := by
  subst e
  exact Int.mul_fdiv_cancel_left k hg
theorem gi_dvd_left (a b : Int) : gi a b ∣ a:=Int.gcd_dvd_left a b
theorem gi_dvd_right (a b : Int) : gi a b ∣ b:=Int.gcd_dvd_right a b
theorem num_eq {t b : Int} (hb : b≠0) : t.fdiv (gs t b) = (Rat.divInt t b).num := by
  have hp:=gi_pos (a:=t) hb
  obtain ⟨k,hk⟩:=gi_dvd_left t b
  rw [Rat.num_divInt,Int.gcd_comm b t]
  show t.fdiv (gs t b) = b.sign * t / gi t b
  unfold gs
  generalize gi t b = g at hp hk ⊢
  rcases Int.lt_or_gt_of_ne hb with h | h
  · rw [if_pos h,Int.sign_eq_neg_one_of_neg h,fdiv_exact (k:=-k) (by lia) (by rw [hk]; simp [Int.mul_neg,Int.neg_mul])]
    have : -1 * t = g * (-k) := by rw [hk]; simp [Int.mul_neg]
    rw [this,Int.mul_ediv_cancel_left _ (by lia)]
  · rw [if_neg (by lia),Int.sign_eq_one_of_pos h,fdiv_exact (k:=k) (by lia) hk,Int.one_mul,hk,Int.mul_ediv_cancel_left _ (by lia)]
theorem den_eq {t b : Int} (hb : b≠0) : b.fdiv (gs t b) = ((Rat.divInt t b).den : Int) := by
  have hp:=gi_pos (a:=t) hb
  obtain ⟨k,hk⟩:=gi_dvd_right t b
  rw [Rat.den_divInt,if_neg hb,Int.gcd_comm b t]
  have e : (((b.natAbs / Int.gcd t b : Nat)) : Int) = (b.natAbs : Int) / gi t b := by unfold gi; simp
  rw [e]
  unfold gs
  generalize gi t b = g at hp hk ⊢
  rcases Int.lt_or_gt_of_ne hb with h | h
  · rw [if_pos h,fdiv_exact (k:=-k) (by lia) (by rw [Int.neg_mul_neg]; exact hk)]
    have : (b.natAbs : Int) = g * (-k) := by rw [Int.mul_neg,← hk]; lia
    rw [this,Int.mul_ediv_cancel_left _ (by lia)]
  · rw [if_neg (by lia),fdiv_exact (k:=k) (by lia) hk]
    have : (b.natAbs : Int) = g * k := by rw [← hk]; lia
    rw [this,Int.mul_ediv_cancel_left _ (by lia)]
theorem natAbs_fdiv_le' (a b : Int) : (a.fdiv b).natAbs≤a.natAbs := by
  cases a with
  | ofNat n =>
    cases n with
    | zero =>
      have e : Int.fdiv (.ofNat 0) b = 0:=Int.zero_fdiv b
      rw [e]; exact Nat.zero_le _
    | succ k =>
      cases b with
      | ofNat j => exact Nat.div_le_self (k + 1) j
      | negSucc j => exact Nat.succ_le_succ (Nat.div_le_self k (j + 1))
  | negSucc k =>
    cases b with
    | ofNat j =>
      cases j with
      | zero => exact Nat.zero_le _
      | succ j => exact Nat.succ_le_succ (Nat.div_le_self k (j + 1))
    | negSucc j => exact Nat.div_le_self (k + 1) (j + 1)
theorem num_le {t b : Int} (hb : b≠0) : (Rat.divInt t b).num.natAbs≤t.natAbs := by
  rw [← num_eq hb]; exact natAbs_fdiv_le' _ _
theorem den_le {t b : Int} (hb : b≠0) : (Rat.divInt t b).den≤b.natAbs := by
  have h:=natAbs_fdiv_le' b (gs t b)
  rw [den_eq hb] at h
  simpa using h
theorem den_ne (p : Rat) : (p.den : Int)≠0 := by
  have:=p.den_nz
  lia
theorem divInt_self (p : Rat) : Rat.divInt p.num p.den = p:=Rat.num_divInt_den p
theorem times_eq (p q : Rat) : Rat.divInt (p.num * q.num) (p.den * q.den) = p * q := by
  rw [← Rat.divInt_mul_divInt,divInt_self,divInt_self]
theorem prod_ne (p q : Rat) : (p.den : Int) * q.den≠0:=Int.mul_ne_zero (den_ne p) (den_ne q)
theorem nb_mul {x y : Int} {m n : Nat} (hx : x.natAbs < 2 ^ m) (hy : y.natAbs < 2 ^ n) : (x * y).natAbs < 2 ^ (m + n) := by
  rw [Int.natAbs_mul,Nat.pow_add]
  exact Nat.mul_lt_mul'' hx hy
theorem nb_mono {x : Nat} {m n : Nat} (hx : x < 2 ^ m) (h : m≤n) : x < 2 ^ n:=Nat.lt_of_lt_of_le hx (Nat.pow_le_pow_right (by decide) h)
def Fits (p : Rat) (n : Nat) : Prop:=p.num.natAbs < 2 ^ n∧p.den < 2 ^ n
theorem Fits.mono {p : Rat} {m n : Nat} (h : Fits p m) (l : m≤n := by decide) : Fits p n:=⟨nb_mono h.1 l,nb_mono h.2 l⟩
theorem Fits.d {p : Rat} {n : Nat} (h : Fits p n) : ((p.den : Int)).natAbs < 2 ^ n := by simpa using h.2
theorem Fits.of_div {t b : Int} {n : Nat} (hb : b≠0) (h1 : t.natAbs < 2 ^ n) (h2 : b.natAbs < 2 ^ n) : Fits (Rat.divInt t b) n :=
  ⟨Nat.lt_of_le_of_lt (num_le hb) h1,Nat.lt_of_le_of_lt (den_le hb) h2⟩
theorem dd {p q : Rat} {m n : Nat} (h : Fits p m) (k : Fits q n) : ((p.den : Int) * q.den).natAbs < 2 ^ (m + n):=nb_mul h.d k.d
theorem nn {p q : Rat} {m n : Nat} (h : Fits p m) (k : Fits q n) : (p.num * q.num).natAbs < 2 ^ (m + n):=nb_mul h.1 k.1
theorem Fits.times {p q : Rat} {m n : Nat} (h : Fits p m) (k : Fits q n) : Fits (p * q) (m + n) := by
  rw [← times_eq]; exact .of_div (prod_ne p q) (nn h k) (dd h k)
end FM
namespace FM
theorem gcd_abs (a b : Int) : Int.gcd (if a < 0 then -a else a) (if b < 0 then -b else b) = Int.gcd a b := by
  split <;> split <;> simp [Int.gcd_neg,Int.neg_gcd]
theorem abs_nonneg (a : Int) : 0≤(if a < 0 then -a else a) := by split <;> lia
theorem gi_end {g a b : Int} (h : Int.gcd g 0 = Int.gcd a b) (h0 : 0≤g) : g = gi a b := by
  unfold gi
  rw [← h,Int.gcd_zero_right]
  lia
theorem gi_end' {g a b : Int} (h : Int.gcd g 0 = Int.gcd a b) : (if g < 0 then -g else g) = gi a b := by
  unfold gi
  rw [← h,Int.gcd_zero_right]
  split <;> lia
theorem fmod_nonneg {g l : Int} (hl : l≠0) (h : 0≤l) : 0≤g.fmod l:=Int.fmod_nonneg_of_pos g (by lia)
end FM
namespace L2
open PySem PySem.Spec PyProof.Rows
structure Fn (K : PySem.W.Frag) (mg : Str→Option Value) (x : Str) (st : Stmt) (ps : List Str) (f : Addr) (fd : FuncData) : Prop where
  F : Fun K x x st f fd
  b : Binds K fd ps []
  m : mg x = some (.ref f)
section
variable {X : Cx} {k : Nat} {f : Addr} {fd : FuncData} {ps : List Str} {sp : Sp} {x : Str} {st : Stmt} {p pos : Pos} {e : Expr} {es : List Expr} {t : TA}
theorem pe_fn (T : Fn X.K X.mg x st ps f fd) (G : FnOk X.prog X.w X.K X.mg X.base CX0 k f fd ps sp) (hr : Room k X.A) (hg : Gl X x) (ha : PA X (e :: es) t)
    (hdb : (x == ("__debug__" : Str)) = false := by decide) (he : starEach (e :: es) X.env = (false,eval e X.env) :: starEach es X.env := by rfl) (hpl : (backTo pos (starEach es X.env)).any (·.1) = false := by rfl) :
    PE X (.Call (.Name x p) (e :: es) [] pos) (tCall sp [] E0 t):=pe_call G hr hg T.m T.F.kp T.b .nil pass0 ha hdb he hpl
end
theorem seq_join {t u : TS} {D : Ends} {σ : St} {H : Hp} (P : St→Hp→Prop) (h1 : ∀ nx : St→Hp→Prop,(∀ σ' H',P σ' H'→nx σ' H')→t { D with nx:=nx } σ H) (h2 : ∀ σ' H',P σ' H'→u D σ' H') : tSeq t u D σ H:=h1 _ h2
theorem sz2 : 2≤sizeLine := by decide
theorem same_new {H : Hp} {p : Addr} (h : H p = none) (o : HO) : Same H (upd H p o):=fun b u q => by rw [upd_ne (ne_of_none q h)]; exact q
def SameBut (l : Addr) (H H' : Hp) : Prop:=∀ b o,b≠l→H b = some o→H' b = some o
theorem SameBut.of {l : Addr} {H H' : Hp} (h : Same H H') : SameBut l H H':=fun b o _ q => h b o q
theorem SameBut.upd {l : Addr} {H : Hp} {o : HO} : SameBut l H (upd H l o):=fun b u n q => by rw [upd_ne n]; exact q
def ratV (p : Rat) : List V:=[.int p.num,.int (p.den : Int)]
def ratD (p : Rat) : PyData:=.tuple [.int p.num,.int (p.den : Int)]
theorem mulW {i j : Int} {m n : Nat} (h1 : i.natAbs < 2 ^ m) (h2 : j.natAbs < 2 ^ n) (h : m + n≤1000000) : CMul i j∨CMulW i j :=
  .inr ⟨m + n,h,FM.nb_mono h1 (Nat.le_add_right _ _),FM.nb_mono h2 (Nat.le_add_left _ _)⟩
def excO (ea : Addr) (cls : Value) : HO:=.ext fun h => ∃ o vs,h.get? ea = some o∧o.cls = cls∧o.data = .fields vs
open PySem PySem.Spec PyProof.Rows PySem.Builtin.ObjectAttr PySem.Builtin.Getset_descriptor
def clsV : V→Value
  | .ref C => .ref C
  | .ty n => .type n
  | _ => .none
theorem clsV_of {c : V} {u : Value} (r : RelV c u) (h : clsV c≠.none) : u = clsV c := by
  cases c with
  | ref C => exact r
  | ty n => exact r
  | _ => exact absurd rfl h
section
variable {X : Cx}
def rIsi (K : PySem.W.Frag) : List V→Hp→VK→Prop:=fun xs H Q => ∃ x c t b,xs = [x,c]∧clsV c≠.none∧TyOf K H x t∧PySem.W.kitOne K t (clsV c) = some b∧Q (.bl b) H
theorem call_isi : CallR X (.builtin "isinstance") (rIsi X.K) := by
  intro pins s σ H xs us Q I r h
  obtain ⟨x,c,t,b,rfl,hc,ty,e,q⟩:=h
  obtain ⟨u,v,rfl,r1,r2⟩:=r.two
  rw [clsV_of r2 hc]
  exact isinst_ok I r1 ty e fun tk => ⟨.bl b,H,I.tok tk,rfl,q⟩
end
theorem kit_tt (K : PySem.W.Frag) : PySem.W.kitOne K (.type "tuple") (.type "tuple") = some true:=rfl
theorem kit_ii (K : PySem.W.Frag) : PySem.W.kitOne K (.type "int") (.type "int") = some true:=rfl
theorem kit_bb (K : PySem.W.Frag) : PySem.W.kitOne K (.type "bool") (.type "bool") = some true:=rfl
theorem kit_ib (K : PySem.W.Frag) : PySem.W.kitOne K (.type "int") (.type "bool") = some false := by kernel_rfl
theorem kit_bi (K : PySem.W.Frag) : PySem.W.kitOne K (.type "bool") (.type "int") = some true := by kernel_rfl
theorem kit_lt (K : PySem.W.Frag) : PySem.W.kitOne K (.type "list") (.type "tuple") = some false := by kernel_rfl
theorem kit_tl (K : PySem.W.Frag) : PySem.W.kitOne K (.type "tuple") (.type "list") = some false := by kernel_rfl
theorem kit_ll (K : PySem.W.Frag) : PySem.W.kitOne K (.type "list") (.type "list") = some true:=rfl
theorem kit_it (K : PySem.W.Frag) : PySem.W.kitOne K (.type "int") (.type "tuple") = some false := by kernel_rfl
theorem kit_bt (K : PySem.W.Frag) : PySem.W.kitOne K (.type "bool") (.type "tuple") = some false := by kernel_rfl
theorem kit_nt (K : PySem.W.Frag) : PySem.W.kitOne K (.type "NoneType") (.type "tuple") = some false := by kernel_rfl
theorem kit_st (K : PySem.W.Frag) : PySem.W.kitOne K (.type "str") (.type "tuple") = some false := by kernel_rfl
theorem kit_ti (K : PySem.W.Frag) : PySem.W.kitOne K (.type "tuple") (.type "int") = some false := by kernel_rfl
theorem kit_li (K : PySem.W.Frag) : PySem.W.kitOne K (.type "list") (.type "int") = some false := by kernel_rfl
theorem kit_ni (K : PySem.W.Frag) : PySem.W.kitOne K (.type "NoneType") (.type "int") = some false := by kernel_rfl
theorem kit_si (K : PySem.W.Frag) : PySem.W.kitOne K (.type "str") (.type "int") = some false := by kernel_rfl
theorem kit_il (K : PySem.W.Frag) : PySem.W.kitOne K (.type "int") (.type "list") = some false := by kernel_rfl
theorem kit_bl (K : PySem.W.Frag) : PySem.W.kitOne K (.type "bool") (.type "list") = some false := by kernel_rfl
theorem kit_nl (K : PySem.W.Frag) : PySem.W.kitOne K (.type "NoneType") (.type "list") = some false := by kernel_rfl
theorem kit_sl (K : PySem.W.Frag) : PySem.W.kitOne K (.type "str") (.type "list") = some false := by kernel_rfl
def freeOk (xsc : Scope) (names : List (Str×NameKind)) : Bool:=names.all fun y => y.2 != .free || xsc.names.lookup y.1 == some .cell || xsc.names.lookup y.1 == some .free
theorem freeOk_of {xsc : Scope} {names : List (Str×NameKind)} (h : freeOk xsc names = true) : ∀ y∈names,y.2 = .free→xsc.names.lookup y.1 = some .cell∨xsc.names.lookup y.1 = some .free:=fun y hy hf => by
  have q:=List.all_eq_true.mp h y hy
  rw [hf] at q
  simp only [bne_self_eq_false,Bool.false_or,Bool.or_eq_true,beq_iff_eq] at q
  exact q
def compScopeOk (scope : Scope) (N : List Str) (x : Str) (ix : Nat) : Bool :=
  scope.kind == .function && (scope.names.all fun y => y.2 != .cell && (y.2 != .local || scope.names.lookup y.1 == some .local) && (y.2 != .free || scope.names.lookup y.1 == some .free)) && scope.names.lookup x == some .local && decide N.Nodup && N[ix]? == some x
theorem compScope_of {scope : Scope} {N : List Str} {x : Str} {ix : Nat} (h : compScopeOk scope N x ix = true) : CompScope scope N x ix := by
  unfold compScopeOk at h
  simp only [Bool.and_eq_true,beq_iff_eq,decide_eq_true_eq,List.all_eq_true,bne_iff_ne,Bool.or_eq_true] at h
  obtain ⟨⟨⟨⟨h1,h2⟩,h3⟩,h4⟩,h5⟩:=h
  exact ⟨h1,fun y hy => (h2 y hy).1.1,fun y hy hl => (h2 y hy).1.2.resolve_left fun z => z hl,fun y hy hl => (h2 y hy).2.resolve_left fun z => z hl,h3,h4,h5⟩
section
variable {X : Cx} {elt iter : Expr} {x : Str} {px pos : Pos} {ifs : List Expr} {scope : Scope} {wi : TI} {tif : TT} {te : TE}
theorem pe_compr (N : List Str) (ix : Nat) (fr : List (Option Nat)) (hi : PI X (.Name x px) iter wi) (hif : ∀ cl C s₀ H₀ fp,PIf (cxComp X scope cl N C s₀ H₀ fp) ifs tif) (he : ∀ cl C s₀ H₀ fp,PE (cxComp X scope cl N C s₀ H₀ fp) elt te)
    (h1 : compScopeOk scope N x ix = true := by decide +kernel) (h2 : X.calm = true := by rfl) (h3 : frOk N X.N scope X.env.scope fr 0 = true := by rfl) (h4 : fr.length = N.length := by rfl) (h5 : freeOk X.env.scope scope.names = true := by rfl)
    (hs : ∀ x,foldedSetIterable iter X.env x = pure x := by intro _; rfl) : PE X (.ListComp elt [⟨.Name x px,iter,ifs,0⟩] scope pos) (tComp wi fr ix tif te) :=
  pe_comp (compScope_of h1) h2 h3 h4 (freeOk_of h5) hi hif he hs
theorem ps_setCompr {i : Nat} {y : Str} {py spos : Pos} (N : List Str) (ix : Nat) (fr : List (Option Nat)) (hN : X.N.Nodup) (hy : X.N[i]? = some y) (hly : X.env.scope.names.lookup y = some .local)
    (hi : PI X (.Name x px) iter wi) (hif : ∀ cl C s₀ H₀ fp,PIf (cxComp X scope cl N C s₀ H₀ fp) ifs tif) (he : ∀ cl C s₀ H₀ fp,PE (cxComp X scope cl N C s₀ H₀ fp) elt te)
    (h1 : compScopeOk scope N x ix = true := by decide +kernel) (h2 : X.calm = true := by rfl) (h3 : frOk N X.N scope X.env.scope fr 0 = true := by rfl) (h4 : fr.length = N.length := by rfl) (h5 : freeOk X.env.scope scope.names = true := by rfl)
    (hsw : swapsWith (.ListComp elt [⟨.Name x px,iter,ifs,0⟩] scope pos) (some (.Name y py)) spos.line X.env = pure true := by rfl)
    (hs : ∀ x,foldedSetIterable iter X.env x = pure x := by intro _; rfl) : PS X (.Assign [.Name y py] (.ListComp elt [⟨.Name x px,iter,ifs,0⟩] scope pos) spos) (tAsg (tComp wi fr ix tif te) (gName i)) :=
  ps_setComp hN hy hly (compScope_of h1) h2 h3 h4 (freeOk_of h5) hi hif he hsw hs
end
end L2
inductive Tr where
  | nil
  | cons (b r : Tr)
  deriving DecidableEq
namespace Tr
def deep : Tr→Nat
  | .nil => 0
  | .cons b r => max (b.deep + 1) r.deep
end Tr
namespace ET
open PySem
section
variable {prog : Program} {w : World} {A : Around} {E : Value→Shared→Prop} {s : Shared}
theorem next_item {it t : Addr} {i : Nat} {items} {x : Value} {Q : Value→Shared→Prop} (hit : s.heap.IsTupleIter it t i) (ht : s.heap.IsTuple t items) (hx : items[i]? = some x)
    (hQ : ∀ h',h'.IsTupleIter it t (i + 1)→Heap.SameBut it s.heap h'→Q x { s with heap:=h' }) : wpAny (model prog w) A (Builtin.SmallTypes.nextOf (.ref it)) Q E s := by
  obtain ⟨o,ho,hc,hd⟩:=id hit
  obtain ⟨ol,hol,_,nl,hdl⟩:=ht
  unfold Builtin.SmallTypes.nextOf
  refine wpAny_bind (wpAny_callSpecial?_slot (name:=Str.ofString "__next__") hit.typeIs F.slot_tuple_iterator_next
    (wpAny_call_entry F.slot_tuple_iterator_next hit.typeIs F.entry_tuple_iterator_next ?_ (F.args_tuple_iterator_next_1 _)))
  show wpAny _ _ (field (.ref it) 0 >>= _) _ _ s
  refine wpAny_bind (wpAny_field ho hd (x:=.ref t) rfl ?_)
  show wpAny _ _ (if (Value.ref t == Value.none) = true then _ else _) _ _ s
  rw [if_neg (show ¬ ((Value.ref t == Value.none) = true) from Bool.false_ne_true)]
  show wpAny _ _ (field (.ref it) 1 >>= _) _ _ s
  refine wpAny_bind (wpAny_field ho hd (x:=.int i 0) rfl ?_)
  show wpAny _ _ (seqItems? (.ref t) >>= _) _ _ s
  refine wpAny_bind (wpAny_seqItems hol hdl ?_)
  simp only [Int.toNat_natCast,hx]
  refine wpAny_bind (wpAny_setField ho hd (by simp) (wpAny_pure ⟨x,rfl,wpAny_pure (hQ _ ?_ (Heap.SameBut.update ..))⟩))
  exact ⟨_,Heap.get?_update_self _ ho (Obj.isFreed_of_fields (Obj.data_mapFields hd _)),(Obj.cls_mapFields ..).trans hc,by
    rw [Obj.data_mapFields hd]; simp [rawInt]⟩
theorem next_end {it t : Addr} {i : Nat} {items} {Q : Value→Shared→Prop} (hh : A.handled = none) (hit : s.heap.IsTupleIter it t i) (ht : s.heap.IsTuple t items) (hx : items[i]? = none)
    (hE : ∀ h' e,Heap.ExtBut it s.heap h'→(∃ o,h'.get? e = some o∧o.cls = .type "StopIteration")→E (.ref e) { s with heap:=h' }) : wpAny (model prog w) A (Builtin.SmallTypes.nextOf (.ref it)) Q E s := by
  obtain ⟨o,ho,hc,hd⟩:=id hit
  obtain ⟨ol,hol,_,nl,hdl⟩:=ht
  unfold Builtin.SmallTypes.nextOf
  refine wpAny_bind (wpAny_callSpecial?_slot (name:=Str.ofString "__next__") hit.typeIs F.slot_tuple_iterator_next
    (wpAny_call_entry F.slot_tuple_iterator_next hit.typeIs F.entry_tuple_iterator_next ?_ (F.args_tuple_iterator_next_1 _)))
  show wpAny _ _ (field (.ref it) 0 >>= _) _ _ s
  refine wpAny_bind (wpAny_field ho hd (x:=.ref t) rfl ?_)
  show wpAny _ _ (if (Value.ref t == Value.none) = true then _ else _) _ _ s
  rw [if_neg (show ¬ ((Value.ref t == Value.none) = true) from Bool.false_ne_true)]
  show wpAny _ _ (field (.ref it) 1 >>= _) _ _ s
  refine wpAny_bind (wpAny_field ho hd (x:=.int i 0) rfl ?_)
  show wpAny _ _ (seqItems? (.ref t) >>= _) _ _ s
  refine wpAny_bind (wpAny_seqItems hol hdl ?_)
  simp only [Int.toNat_natCast,hx]
  refine wpAny_bind (wpAny_rule (wpAny_bind (wpAny_setField ho hd (by simp) ?_)))
  show wpAny _ _ (newExc (.type "StopIteration") [] >>= _) _ _ _
  refine wpAny_bind ?_
  simp only [newExc,newTuple]
  refine wpAny_bind (wpAny_newObj_type ?_ (by size_fits))
  refine wpAny_bind (m:=firstArgMember _ _) (wpAny_of_eq (a:=Value.none) (by first | rfl | (simp only [firstArgMember]; rfl)) ?_)
  refine wpAny_newObj_type ?_ (by size_fits)
  simp only [raiseNew]
  refine wpAny_bind (wpAny_handled ?_)
  first | rw [show A.in1.handled = none from hh] | rw [hh]
  refine wpAny_bind (wpAny_pure (wpAny_throw ?_))
  exact hE _ _ (((Heap.SameBut.update ..).extBut.push _).push _) ⟨_,Heap.get?_push_size _ rfl,rfl⟩
end
theorem draws {prog : Program} {w : World} {A : Around} (hh : A.handled = none) (it a : Addr) (its : List Value) (hne : a≠it) :
    Draws prog w A it [it,a] its.length (fun i x => its[i]? = some x) (fun i h => h.IsTupleIter it a i∧h.IsTuple a its.toArray) where
  live:=fun i h st => let ⟨o,e,_⟩:=st.1; ⟨o,e⟩
  frame:=fun i h h' st k => by
    obtain ⟨⟨o,e,r⟩,o2,e2,r2⟩:=st
    exact ⟨⟨o,k it (by simp) o e,r⟩,o2,k a (by simp) o2 e2,r2⟩
  item:=fun i s Q E hi st hQ => next_item st.1 st.2 (x:=its[i]) (by simp [hi]) fun h' st' sb =>
    hQ _ h' s.toks (by simp [hi]) ⟨st',let ⟨o,e,r⟩:=st.2; ⟨o,(sb.2 a hne).trans e,r⟩⟩ sb
  done:=fun s Q E st hE => next_end hh st.1 st.2 (by simp) hE
end ET
namespace L2
open PySem PySem.Spec PyProof.Rows
def Ts (H : Hp) : Tr→List V→Prop
  | .nil,xs => xs = []
  | .cons b r,xs => ∃ (a : Addr) (ys zs : List V),xs = .ref a :: zs∧H a = some (.tup ys)∧Ts H b ys∧Ts H r zs
def Tv (H : Hp) (t : Tr) (v : V) : Prop:=∃ (a : Addr) (ys : List V),v = .ref a∧H a = some (.tup ys)∧Ts H t ys
theorem Ts.same {H H' : Hp} (e : Same H H') : ∀ {t : Tr} {xs : List V},Ts H t xs→Ts H' t xs
  | .nil,xs,h => by rw [Ts] at h ⊢; exact h
  | .cons b r,xs,h => by
    rw [Ts] at h ⊢
    obtain ⟨a,ys,zs,e1,h1,h2,h3⟩:=h
    exact ⟨a,ys,zs,e1,e _ _ h1,h2.same e,h3.same e⟩
theorem Tv.same {H H' : Hp} {t : Tr} {v : V} (h : Tv H t v) (e : Same H H') : Tv H' t v:=let ⟨a,ys,e1,h1,h2⟩:=h; ⟨a,ys,e1,e _ _ h1,h2.same e⟩
end L2
namespace L2
open PySem PySem.Spec PyProof.Rows
def CW (Pv : Nat→List V→Hp→Prop) (n : Nat) (D : Addr) : Nat→Nat→List V→Hp→Prop:=fun i m ys H => m = n - i∧i≤n∧H D = some (.lst ys)∧Pv i ys H
theorem cw_next {Pv : Nat→List V→Hp→Prop} {n i : Nat} {D : Addr} {ys : List V} {y : V} {H : Hp} (hi : i < n) (p : Pv (i + 1) (ys ++ [y]) (upd H D (.lst (ys ++ [y])))) : ∃ m',m' < n - i∧CW Pv n D (i + 1) m' (ys ++ [y]) (upd H D (.lst (ys ++ [y]))) :=
  ⟨n - (i + 1),by lia,rfl,hi,upd_same,p⟩
theorem cw_skip {Pv : Nat→List V→Hp→Prop} {n i : Nat} {D : Addr} {ys : List V} {H : Hp} (hi : i < n) (hD : H D = some (.lst ys)) (p : Pv (i + 1) ys H) : ∃ m',m' < n - i∧CW Pv n D (i + 1) m' ys H:=⟨n - (i + 1),by lia,rfl,hi,hD,p⟩
theorem comp_by {J : It} {n : Nat} {D : Addr} {H1 : Hp} {fr : List (Option Nat)} {σ : St} {ix : Nat} {tif : TT} {te : TE} {G : Hp→Prop} (Pv : Nat→List V→Hp→Prop) (h0 : Pv 0 [] (upd H1 D (.lst [])))
    (hgo : ∀ i ys H,i < n→Pv i ys H→H D = some (.lst ys)→J.go i H∧ys.length < sizeLine∧∀ x H',J.yld i H x H' →
      tif ((carry fr σ).set ix (some x)) H' fun b H2 => if b = true then te ((carry fr σ).set ix (some x)) H2 fun y H3 => H3 D = some (.lst ys)∧∃ m',m' < n - i∧CW Pv n D (i + 1) m' (ys ++ [y]) (upd H3 D (.lst (ys ++ [y])))
        else ∃ m',m' < n - i∧CW Pv n D (i + 1) m' ys H2)
    (hstop : ∀ ys H,Pv n ys H→H D = some (.lst ys)→J.stop n H∧G H) :
    ∃ W : Nat→Nat→List V→Hp→Prop,(∃ m,W 0 m [] (upd H1 D (.lst []))) ∧
      ∀ i m ys H,W i m ys H→H D = some (.lst ys)∧((J.stop i H∧G H)∨(J.go i H∧ys.length < sizeLine∧∀ x H',J.yld i H x H' →
        tif ((carry fr σ).set ix (some x)) H' fun b H2 => if b = true then te ((carry fr σ).set ix (some x)) H2 fun y H3 => H3 D = some (.lst ys)∧∃ m',m' < m∧W (i + 1) m' (ys ++ [y]) (upd H3 D (.lst (ys ++ [y])))
          else ∃ m',m' < m∧W (i + 1) m' ys H2)) := by
  refine ⟨CW Pv n D,⟨n,by simp,Nat.zero_le _,upd_same,h0⟩,?_⟩
  rintro i m ys H ⟨rfl,hi,hH,p⟩
  refine ⟨hH,?_⟩
  by_cases hlt : i < n
  · exact .inr (hgo i ys H hlt p hH)
  · have e : i = n := by lia
    subst e
    exact .inl (hstop ys H p hH)
section
variable {X : Cx}
theorem call_all (hc : X.calm = true) : CallR X (.builtin "all") (fun xs H Q => ∃ (p : Addr) (bs : List Bool),xs = [.ref p]∧SqL X.K H p (bs.map V.bl)∧Q (.bl (bs.all id)) H) := by
  intro pins s σ H xs us Q I r h
  obtain ⟨p,bs,rfl,hq,q⟩:=h
  obtain ⟨u,rfl,r1⟩:=r.one
  cases r1
  obtain ⟨its,rv,pl,hz⟩:=I.list hq
  have hl : s.heap.IsList p its.toArray:=pl.isList
  have hlt : p < s.heap.objs.size := by obtain ⟨_,e,_⟩:=hl; exact Heap.lt_size e
  have hlen : its.length = bs.length := by rw [← rv.length,List.length_map]
  refine call_all_walk (wpAny_pyIter_list hl ?_)
  refine ⟨s.heap.objs.size,[s.heap.objs.size,p],[s.heap.objs.size],its.toArray.size,_,_,fun i => (bs[i]?).getD true,rfl,Walks.list (A:=X.A.in1) (I.ok.hd hc) _ p (Nat.ne_of_lt hlt) its.toArray,
    ⟨⟨_,Heap.get?_push_size _ rfl,rfl,rfl⟩,hl.push _⟩,fun i v s' Q' E' hP hQ => ?_,fun h' tk hk => ?_⟩
  · have hv : its[i]? = some v := by simpa using hP
    have hi : i < bs.length := by rw [← hlen]; exact (List.getElem?_eq_some_iff.mp hv).1
    obtain ⟨u,h1,h2⟩:=rv.get (i:=i) (x:=.bl bs[i]) (by rw [List.getElem?_map,List.getElem?_eq_getElem hi]; rfl)
    rw [hv] at h1
    cases h1
    cases h2
    simp only [List.getElem?_eq_getElem hi,Option.getD_some] at hQ
    exact wpAny_truthy_bool hQ
  · have e : ((List.range its.toArray.size).all fun i => (bs[i]?).getD true) = bs.all id := by
      rw [List.size_toArray,hlen]; exact PyProof.Rows.LSm.range_all bs
    rw [e]
    exact ⟨.bl _,H,I.kept (t':=tk) (PyProof.Rows.LSm.kept_iter hk),rfl,q⟩
theorem call_sum (hc : X.calm = true) : CallR X (.builtin "sum") (fun xs H Q => ∃ (p : Addr) (ns : List Int),xs = [.ref p]∧SqL X.K H p (ns.map V.int)∧Q (.int ns.sum) H) := by
  intro pins s σ H xs us Q I r h
  obtain ⟨p,ns,rfl,hq,q⟩:=h
  obtain ⟨u,rfl,r1⟩:=r.one
  cases r1
  obtain ⟨its,rv,pl,hz⟩:=I.list hq
  have hi:=intsAre_of rv
  obtain ⟨xs,hx⟩:=hi.allInts.items
  have hl' : s.heap.IsList p (intItems xs):=hx ▸ pl.isList
  refine sum_intListG (I.ok.hd hc) hl' fun h' tk t' hk => ?_
  have e1 : ns = xs.toList.map (·.1) := by
    rw [← nums_intItems,← hx]
    exact (show numsOf its.toArray.toList = ns from hi.numsOf).symm
  have e2 : preSum (numAt xs) xs.size = ns.sum := by
    rw [preSum_eq,List.take_of_length_le (by simp),e1]
  rw [e2]
  exact ⟨.int _,H,I.kept (t':=tk) hk,⟨t',rfl⟩,q⟩
end
section
variable {X : Cx} {scope : Scope} {cl : List (Str×Addr)} {N : List Str} {C : Addr} {s₀ : Shared} {H₀ : Hp} {fp : List Addr}
theorem ix_listC : IxR (cxComp X scope cl N C s₀ H₀ fp) (rIxL X.K):=ix_list
theorem ix_tupC : IxR (cxComp X scope cl N C s₀ H₀ fp) (rIxT X.K):=ix_tup
end
mutual
def Dt (l : Addr) (H : Hp) : PyData→V→Prop
  | .none,v => v = .non
  | .bool b,v => v = .bl b
  | .int i,v => v = .int i
  | .str x,v => v = .str x
  | .tuple ds,v => ∃ (a : Addr) (xs : List V),v = .ref a∧a≠l∧H a = some (.tup xs)∧DtAll l H ds xs
  | .list ds,v => ∃ (a : Addr) (xs : List V),v = .ref a∧a≠l∧H a = some (.lst xs)∧DtAll l H ds xs
  | .dict _,_ => False
def DtAll (l : Addr) (H : Hp) : List PyData→List V→Prop
  | [],xs => xs = []
  | d :: ds,xs => ∃ x r,xs = x :: r∧Dt l H d x∧DtAll l H ds r
end
mutual
theorem Dt.but {l : Addr} {H H' : Hp} (e : SameBut l H H') : ∀ {d : PyData} {v : V},Dt l H d v→Dt l H' d v
  | .none,_,h => by rw [Dt] at h ⊢; exact h
  | .bool _,_,h => by rw [Dt] at h ⊢; exact h
  | .int _,_,h => by rw [Dt] at h ⊢; exact h
  | .str _,_,h => by rw [Dt] at h ⊢; exact h
  | .tuple _,_,h => by
    rw [Dt] at h ⊢
    obtain ⟨a,xs,e1,n,h1,h2⟩:=h
    exact ⟨a,xs,e1,n,e _ _ n h1,DtAll.but e h2⟩
  | .list _,_,h => by
    rw [Dt] at h ⊢
    obtain ⟨a,xs,e1,n,h1,h2⟩:=h
    exact ⟨a,xs,e1,n,e _ _ n h1,DtAll.but e h2⟩
  | .dict _,_,h => by rw [Dt] at h; exact h.elim
theorem DtAll.but {l : Addr} {H H' : Hp} (e : SameBut l H H') : ∀ {ds : List PyData} {xs : List V},DtAll l H ds xs→DtAll l H' ds xs
  | [],_,h => by rw [DtAll] at h ⊢; exact h
  | _ :: _,_,h => by
    rw [DtAll] at h ⊢
    obtain ⟨x,r,e1,h1,h2⟩:=h
    exact ⟨x,r,e1,Dt.but e h1,DtAll.but e h2⟩
end
theorem Dt.same {l : Addr} {H H' : Hp} {d : PyData} {v : V} (h : Dt l H d v) (e : Same H H') : Dt l H' d v:=Dt.but (.of e) h
theorem DtAll.same {l : Addr} {H H' : Hp} {d : List PyData} {v : List V} (h : DtAll l H d v) (e : Same H H') : DtAll l H' d v:=DtAll.but (.of e) h
theorem DtAll.len {l : Addr} {H : Hp} : ∀ {ds : List PyData} {xs : List V},DtAll l H ds xs→xs.length = ds.length
  | [],_,h => by rw [DtAll] at h; rw [h]; rfl
  | _ :: _,_,h => by
    rw [DtAll] at h
    obtain ⟨x,r,rfl,_,h2⟩:=h
    rw [List.length_cons,List.length_cons,DtAll.len h2]
theorem DtAll.get {l : Addr} {H : Hp} : ∀ {ds : List PyData} {xs : List V} {i : Nat} {v : V},DtAll l H ds xs→xs[i]? = some v→∃ d,ds[i]? = some d∧Dt l H d v
  | [],_,i,v,h,e => by rw [DtAll] at h; subst h; simp at e
  | d :: ds,_,i,v,h,e => by
    rw [DtAll] at h
    obtain ⟨x,r,rfl,h1,h2⟩:=h
    cases i with
    | zero => simp at e; subst e; exact ⟨d,rfl,h1⟩
    | succ i =>
      obtain ⟨c,q1,q2⟩:=h2.get (i:=i) (v:=v) (by simpa using e)
      exact ⟨c,by simpa using q1,q2⟩
theorem DtAll.nil {l : Addr} {H : Hp} : DtAll l H [] [] := by rw [DtAll]
theorem DtAll.cons {l : Addr} {H : Hp} {d : PyData} {ds : List PyData} {x : V} {xs : List V} (h : Dt l H d x) (k : DtAll l H ds xs) : DtAll l H (d :: ds) (x :: xs) := by
  rw [DtAll]; exact ⟨x,xs,rfl,h,k⟩
theorem DtAll.app {l : Addr} {H : Hp} : ∀ {ds es : List PyData} {xs ys : List V},DtAll l H ds xs→DtAll l H es ys→DtAll l H (ds ++ es) (xs ++ ys)
  | [],_,_,_,h,k => by rw [DtAll] at h; subst h; exact k
  | d :: ds,es,_,ys,h,k => by
    rw [DtAll] at h
    obtain ⟨x,r,rfl,h1,h2⟩:=h
    exact .cons h1 (h2.app k)
theorem Dt.int {l : Addr} {H : Hp} {i : Int} : Dt l H (.int i) (.int i) := by rw [Dt]
theorem Dt.bool {l : Addr} {H : Hp} {b : Bool} : Dt l H (.bool b) (.bl b) := by rw [Dt]
theorem Dt.non {l : Addr} {H : Hp} : Dt l H .none .non := by rw [Dt]
theorem Dt.str {l : Addr} {H : Hp} {x : Str} : Dt l H (.str x) (.str x) := by rw [Dt]
theorem Dt.tup {l a : Addr} {H : Hp} {ds : List PyData} {xs : List V} (n : a≠l) (h : H a = some (.tup xs)) (k : DtAll l H ds xs) : Dt l H (.tuple ds) (.ref a) := by rw [Dt]; exact ⟨a,xs,rfl,n,h,k⟩
theorem Dt.lst {l a : Addr} {H : Hp} {ds : List PyData} {xs : List V} (n : a≠l) (h : H a = some (.lst xs)) (k : DtAll l H ds xs) : Dt l H (.list ds) (.ref a) := by rw [Dt]; exact ⟨a,xs,rfl,n,h,k⟩
def Ok (n : Nat) (d : PyData) : Prop:=d.canLay0 = true∧d.depth≤n
theorem Ok.shaped {n : Nat} {d : PyData} (h : Ok n d) (hn : n≤64) : SeqAt.shaped d = true := by
  unfold SeqAt.shaped
  rw [h.1,Bool.true_and]
  exact decide_eq_true (Nat.le_trans h.2 hn)
theorem Ok.int {n : Nat} {i : Int} : Ok n (.int i):=⟨by simp [PyData.canLay0],by simp [PyData.depth]⟩
def tyOf : PyData→String
  | .none => "NoneType"
  | .bool _ => "bool"
  | .int _ => "int"
  | .str _ => "str"
  | .tuple _ => "tuple"
  | .list _ => "list"
  | .dict _ => "dict"
theorem Dt.ty {K : PySem.W.Frag} {l : Addr} {H : Hp} : ∀ {d : PyData} {v : V},Dt l H d v→TyOf K H v (.type (tyOf d))
  | .none,_,h => by rw [Dt] at h; subst h; exact .non
  | .bool _,_,h => by rw [Dt] at h; subst h; exact .bl _
  | .int _,_,h => by rw [Dt] at h; subst h; exact .int _
  | .str _,_,h => by rw [Dt] at h; subst h; exact .str _
  | .tuple _,_,h => by rw [Dt] at h; obtain ⟨a,xs,rfl,_,h1,_⟩:=h; exact .tup h1
  | .list _,_,h => by rw [Dt] at h; obtain ⟨a,xs,rfl,_,h1,_⟩:=h; exact .lst h1
  | .dict _,_,h => by rw [Dt] at h; exact h.elim
def isTupD : PyData→Bool
  | .tuple _ => true
  | _ => false
def isLstD : PyData→Bool
  | .list _ => true
  | _ => false
def isIntD : PyData→Bool
  | .int _ => true
  | .bool _ => true
  | _ => false
def isBoolD : PyData→Bool
  | .bool _ => true
  | _ => false
theorem kit_tupD (K : PySem.W.Frag) : ∀ d : PyData,(∀ kv,d≠.dict kv)→PySem.W.kitOne K (.type (tyOf d)) (.type "tuple") = some (isTupD d)
  | .none,_ => kit_nt K
  | .bool _,_ => kit_bt K
  | .int _,_ => kit_it K
  | .str _,_ => kit_st K
  | .tuple _,_ => kit_tt K
  | .list _,_ => kit_lt K
  | .dict kv,h => absurd rfl (h kv)
theorem kit_lstD (K : PySem.W.Frag) : ∀ d : PyData,(∀ kv,d≠.dict kv)→PySem.W.kitOne K (.type (tyOf d)) (.type "list") = some (isLstD d)
  | .none,_ => kit_nl K
  | .bool _,_ => kit_bl K
  | .int _,_ => kit_il K
  | .str _,_ => kit_sl K
  | .tuple _,_ => kit_tl K
  | .list _,_ => kit_ll K
  | .dict kv,h => absurd rfl (h kv)
theorem kit_nb (K : PySem.W.Frag) : PySem.W.kitOne K (.type "NoneType") (.type "bool") = some false := by kernel_rfl
theorem kit_sb (K : PySem.W.Frag) : PySem.W.kitOne K (.type "str") (.type "bool") = some false := by kernel_rfl
theorem kit_tb (K : PySem.W.Frag) : PySem.W.kitOne K (.type "tuple") (.type "bool") = some false := by kernel_rfl
theorem kit_lb (K : PySem.W.Frag) : PySem.W.kitOne K (.type "list") (.type "bool") = some false := by kernel_rfl
theorem kit_intD (K : PySem.W.Frag) : ∀ d : PyData,(∀ kv,d≠.dict kv)→PySem.W.kitOne K (.type (tyOf d)) (.type "int") = some (isIntD d)
  | .none,_ => kit_ni K
  | .bool _,_ => kit_bi K
  | .int _,_ => kit_ii K
  | .str _,_ => kit_si K
  | .tuple _,_ => kit_ti K
  | .list _,_ => kit_li K
  | .dict kv,h => absurd rfl (h kv)
theorem kit_boolD (K : PySem.W.Frag) : ∀ d : PyData,(∀ kv,d≠.dict kv)→PySem.W.kitOne K (.type (tyOf d)) (.type "bool") = some (isBoolD d)
  | .none,_ => kit_nb K
  | .bool _,_ => kit_bb K
  | .int _,_ => kit_ib K
  | .str _,_ => kit_sb K
  | .tuple _,_ => kit_tb K
  | .list _,_ => kit_lb K
  | .dict kv,h => absurd rfl (h kv)
theorem Dt.nodict {l : Addr} {H : Hp} {d : PyData} {v : V} (h : Dt l H d v) : ∀ kv,d≠.dict kv:=fun kv z => by subst z; rw [Dt] at h; exact h
end L2
namespace L2
open PySem PySem.Spec PyProof.Rows
section
variable {X : Cx}
def rCatA : R2:=fun x y H Q => ∃ a b xs ys,x = .ref a∧y = .ref b∧H a = some (.tup xs)∧H b = some (.tup ys)∧xs.length + ys.length≤sizeLine∧∀ p H',Same H H'→H' p = some (.tup (xs ++ ys))→Q (.ref p) H'
theorem op_catA : OpR X (binaryOp .Add) rCatA := by
  intro pins s σ H x y v u Q I rx ry h
  obtain ⟨a,b,xs,ys,rfl,rfl,ha,hb,hz,q⟩:=h
  cases rx
  cases ry
  obtain ⟨its,r1,p1,_⟩:=I.tuple (SqT.of (K:=X.K) ha)
  obtain ⟨its2,r2,p2,_⟩:=I.tuple (SqT.of (K:=X.K) hb)
  by_cases hv : its = []
  · have hx:=r1.nil_iff.mp hv
    subst hv hx
    obtain ⟨⟨cls,dd,data,sl⟩,ho,hc,n,hd⟩:=id p1
    obtain ⟨⟨cls2,dd2,data2,sl2⟩,ho2,hc2,n2,hd2⟩:=id p2
    simp only at hc hd hc2 hd2
    subst hc hd hc2 hd2
    exact concat_meets ⟨_,ho,rfl⟩ ⟨_,ho2,rfl⟩ noFill_tuple_add seq_tuple_add PySem.F.slot_tuple_add PySem.F.entry_tuple_add (PySem.F.args_tuple_add_2 _ _)
      (tuple_addW0 a b _ _ n n2 dd dd2 sl sl2 (by simp)) ⟨ho,ho2,⟨.ref b,H,I,rfl,q b H (.refl H) (by simpa using hb)⟩⟩
  · refine HT.cat_tup p1 p2 hv (fun z => ?_) (fun z => ?_) (by rw [← r1.length,← r2.length]; exact hz)
    · have hy:=r2.nil_iff.mp z
      subst hy
      exact ⟨.ref a,H,I,rfl,q a H (.refl H) (by simpa using ha)⟩
    · refine ⟨.ref s.heap.objs.size,_,I.laid (t':=s.toks) (o:=.tup (xs ++ ys)) (fun b ob q => Heap.get?_push_of_some _ q) (Nat.le_refl _) ?_,rfl,q _ _ (same_new (I.hok.fresh (Nat.le_refl _)) _) upd_same⟩
      exact ⟨by rw [List.length_append]; exact hz,_,r1.append r2,IsTup.new _ _⟩
end
end L2
namespace Tim
open PySem PyProof.Rows
section pure
end pure
section
section pure
end pure
section pure
end pure
end
end Tim
set_option maxHeartbeats 0
set_option maxHeartbeats 4000000
namespace L2
open PySem PySem.Spec PyProof.Rows
abbrev tg2 (x y : Str) (px py : Pos) (tk : Nat) (tp : Pos) : Expr:=.Tuple [.Name x px,.Name y py] tk tp
theorem set_two {ix iy : Nat} (h : ix≠iy) (σ : St) (a b c d : Option V) : ((((σ.set ix a).set iy b).set ix c).set iy d) = (σ.set ix c).set iy d := by
  rw [List.set_comm _ _ h.symm,List.set_set,List.set_set]
def tComp2 (K : PySem.W.Frag) (wi : TI) (fr : List (Option Nat)) (ix iy : Nat) (tif : TT) (te : TE) : TE:=fun σ H Q => wi σ H fun J H1 => ∀ D,H1 D = none→∃ W : Nat→Nat→List V→Hp→Prop,(∃ m,W 0 m [] (upd H1 D (.lst []))) ∧
  ∀ i m ys H,W i m ys H→H D = some (.lst ys)∧((J.stop i H∧Q (.ref D) H)∨(J.go i H∧ys.length < sizeLine∧∀ x H',J.yld i H x H'→∃ a v1 v2,x = .ref a∧SqT K H' a [v1,v2] ∧
    tif (((carry fr σ).set ix (some v1)).set iy (some v2)) H' fun b H2 => if b = true then te (((carry fr σ).set ix (some v1)).set iy (some v2)) H2 fun y H3 => H3 D = some (.lst ys)∧∃ m',m' < m∧W (i + 1) m' (ys ++ [y]) (upd H3 D (.lst (ys ++ [y])))
      else ∃ m',m' < m∧W (i + 1) m' ys H2))
section
variable {X : Cx} {elt iter : Expr} {x y : Str} {px py tp pos : Pos} {tk : Nat} {ifs : List Expr} {scope : Scope} {wi : TI} {fr : List (Option Nat)} {ix iy : Nat} {tif : TT} {te : TE} {N : List Str}
theorem comp_block2 {pins : List (Addr×Obj)} {σ : St} {H2 : Hp} {s2 : Shared} {Q : VK} {it : Addr} {fp : List Addr} {tn : Nat→Heap→Prop} {J : It} {cl : List (Str×Addr)} {E : Value→Shared→Prop} {RR : Value→Addr→Result→Shared→Prop}
    (S : CompScope scope N x ix) (S2 : CompScope scope N y iy) (hxy : ix≠iy) (hcalm : X.calm = true) (hfr : frOk N X.N scope X.env.scope fr 0 = true) (hlen : fr.length = N.length)
    (hif : ∀ cl C s₀ H₀ fp,PIf (cxComp X scope cl N C s₀ H₀ fp) ifs tif) (he : ∀ cl C s₀ H₀ fp,PE (cxComp X scope cl N C s₀ H₀ fp) elt te)
    (I2 : Inv X pins σ H2 s2) (T : Turn X.prog X.w X.K (tg2 x y px py tk tp) J fp it tn) (st2 : tn 0 s2.heap) (f2 : ∀ b∈fp,FpOk X pins H2 b)
    (c1 : ∀ x c,cl.lookup x = some c→X.env.cells.lookup x = some c) (c2 : ∀ x∈scope.names,x.2 = NameKind.free→∃ c,cl.lookup x.1 = some c)
    (W : ∀ D,H2 D = none→∃ W : Nat→Nat→List V→Hp→Prop,(∃ m,W 0 m [] (upd H2 D (.lst []))) ∧
      ∀ i m ys H,W i m ys H→H D = some (.lst ys)∧((J.stop i H∧Q (.ref D) H)∨(J.go i H∧ys.length < sizeLine∧∀ x H',J.yld i H x H'→∃ a v1 v2,x = .ref a∧SqT X.K H' a [v1,v2] ∧
        tif (((carry fr σ).set ix (some v1)).set iy (some v2)) H' fun b H2 => if b = true then te (((carry fr σ).set ix (some v1)).set iy (some v2)) H2 fun y H3 => H3 D = some (.lst ys)∧∃ m',m' < m∧W (i + 1) m' (ys ++ [y]) (upd H3 D (.lst (ys ++ [y])))
          else ∃ m',m' < m∧W (i + 1) m' ys H2)))
    (fin : ∀ (D C : Addr) (s' : Shared) (H' : Hp) m,s'.heap.Ns C m→Q (.ref D) H'→(∀ h',Heap.SameBut C s'.heap h'→Inv X pins σ H' { s' with heap:=h' })→C≠D→(∀ b o,s2.heap.get? b = some o→b≠C)→H' C = none→s2.heap.objs.size≤C→RR (.ref D) C (.ok .next) s') :
    wpAny (model X.prog X.w) X.A (newList []) (fun acc s₃ => wpAny (model X.prog X.w) X.A (newFunctionEnv scope X.env.globals cl [] X.env.qual none .none (some X.env)) (fun cenv s₄ =>
      codeAny (model X.prog X.w) X.A (.compStart (.ListComp elt [⟨tg2 x y px py tk tp,iter,ifs,0⟩] scope pos) 0 (.ref it) acc { cenv with scope:=relabel scope X.env }) (RR acc cenv.locals) s₄) E s₃) E s2 := by
  have hxv : (relabel scope X.env).names.lookup x = some .local:=lookup_relabel_local S.loc
  have hyv : (relabel scope X.env).names.lookup y = some .local:=lookup_relabel_local S2.loc
  refine comp_blockG (g:=gTup X.K 2 (gCons (gName ix) (gCons (gName iy) gNil))) S hcalm (fun σ' => ∀ v w,(σ'.set ix v).set iy w = ((carry fr σ).set ix v).set iy w) (fun _ _ => rfl) (fun C => pg_tup (X:=cxComp X scope cl N C s2 H2 fp) hcalm (pgs_cons (pg_name (X:=cxComp X scope cl N C s2 H2 fp) S.nd S.at_ (.inl hxv) (.inr hxv)) (pgs_cons (pg_name (X:=cxComp X scope cl N C s2 H2 fp) S2.nd S2.at_ (.inl hyv) (.inr hyv)) pgs_nil))) hfr hlen hif he I2 T st2 f2 c1 c2 (fun D hD => ?_) fin
  obtain ⟨W,w0,st⟩:=W D hD
  refine ⟨W,w0,fun i m ys H w => ?_⟩
  obtain ⟨h1,h2 | ⟨h2,h3,h4⟩⟩:=st i m ys H w
  · exact ⟨h1,.inl h2⟩
  · refine ⟨h1,.inr ⟨h2,h3,fun x H' hy σ' hr => ?_⟩⟩
    obtain ⟨a,v1,v2,rfl,hs,q⟩:=h4 x H' hy
    rw [← hr] at q
    exact ⟨a,[v1,v2],rfl,hs,rfl,v1,[v2],rfl,v2,[],rfl,rfl,fun v w => by rw [set_two hxy,hr],q⟩
theorem pe_comp2 (S : CompScope scope N x ix) (S2 : CompScope scope N y iy) (hxy : ix≠iy) (hcalm : X.calm = true) (hfr : frOk N X.N scope X.env.scope fr 0 = true) (hlen : fr.length = N.length) (hfree : ∀ y∈scope.names,y.2 = .free→X.env.scope.names.lookup y.1 = some .cell∨X.env.scope.names.lookup y.1 = some .free)
    (hi : PI X (tg2 x y px py tk tp) iter wi) (hif : ∀ cl C s₀ H₀ fp,PIf (cxComp X scope cl N C s₀ H₀ fp) ifs tif) (he : ∀ cl C s₀ H₀ fp,PE (cxComp X scope cl N C s₀ H₀ fp) elt te)
    (hs : ∀ x,foldedSetIterable iter X.env x = pure x := by intro _; rfl) : PE X (.ListComp elt [⟨tg2 x y px py tk tp,iter,ifs,0⟩] scope pos) (tComp2 X.K wi fr ix iy tif te) := by
  intro pins s σ H Q I hw
  obtain ⟨cl,hclos,c1,_,c2⟩:=closure_of (env:=X.env) scope.names [] (fun y hy hf => I.ok.has y.1 (hfree y hy hf)) (fun y c z => by cases z)
  have hclos' : closureFor scope X.env = pure cl := by
    have e : closureFor scope X.env = ((forIn scope.names [] (fun (x : Str×NameKind) (r : List (Str×Addr)) => do if (x.2 == NameKind.free) = true then do let a ← cellOf X.env x.1; pure (ForInStep.yield ((x.1,a) :: r)) else pure (ForInStep.yield r)) : Sem (List (Str×Addr))) >>= fun cs => pure cs):=rfl
    rw [e,hclos]
    rfl
  rw [eval_ListComp]
  refine wpAny_comprehension_free (use:=none) rfl hs hclos' S.kind S.names (thn (hi pins s σ H _ I hw) fun v s1 h1 => thn h1 fun itv s2 h2 => ?_)
  obtain ⟨it,fp,tn,J,H2,e,I2,T,st2,f2,W⟩:=h2
  subst e
  refine comp_block2 (RR:=fun acc C => compPost (model X.prog X.w) X.A X.xe none (EP X pins σ Q) acc C) S S2 hxy hcalm hfr hlen hif he I2 T st2 f2 c1 c2 W ?_
  intro D C s' H' m hn q hI _ _ _ _
  exact ⟨m,hn,fun h' hs' => ⟨.ref D,H',hI h' hs',rfl,q⟩⟩
theorem ps_setComp2 {i : Nat} {z : Str} {pz spos : Pos} (hN : X.N.Nodup) (hy : X.N[i]? = some z) (hly : X.env.scope.names.lookup z = some .local) (S : CompScope scope N x ix) (S2 : CompScope scope N y iy) (hxy : ix≠iy) (hcalm : X.calm = true) (hfr : frOk N X.N scope X.env.scope fr 0 = true) (hlen : fr.length = N.length)
    (hfree : ∀ y∈scope.names,y.2 = .free→X.env.scope.names.lookup y.1 = some .cell∨X.env.scope.names.lookup y.1 = some .free)
    (hi : PI X (tg2 x y px py tk tp) iter wi) (hif : ∀ cl C s₀ H₀ fp,PIf (cxComp X scope cl N C s₀ H₀ fp) ifs tif) (he : ∀ cl C s₀ H₀ fp,PE (cxComp X scope cl N C s₀ H₀ fp) elt te)
    (hsw : swapsWith (.ListComp elt [⟨tg2 x y px py tk tp,iter,ifs,0⟩] scope pos) (some (.Name z pz)) spos.line X.env = pure true := by rfl)
    (hs : ∀ x,foldedSetIterable iter X.env x = pure x := by intro _; rfl) :
    PS X (.Assign [.Name z pz] (.ListComp elt [⟨tg2 x y px py tk tp,iter,ifs,0⟩] scope pos) spos) (tAsg (tComp2 X.K wi fr ix iy tif te) (gName i)) := by
  intro pins s σ H D I hw
  obtain ⟨cl,hclos,c1,_,c2⟩:=closure_of (env:=X.env) scope.names [] (fun y hy hf => I.ok.has y.1 (hfree y hy hf)) (fun y c z => by cases z)
  have hclos' : closureFor scope X.env = pure cl := by
    have e : closureFor scope X.env = ((forIn scope.names [] (fun (x : Str×NameKind) (r : List (Str×Addr)) => do if (x.2 == NameKind.free) = true then do let a ← cellOf X.env x.1; pure (ForInStep.yield ((x.1,a) :: r)) else pure (ForInStep.yield r)) : Sem (List (Str×Addr))) >>= fun cs => pure cs):=rfl
    rw [e,hclos]
    rfl
  rw [exec_Assign_Name_used _ _ _ _ hsw]
  refine wpAny_bind (wpAny_standAt (wpAny_bind ?_))
  show wpAny _ X.A (do let _ ← comprehension (.ListComp elt [⟨tg2 x y px py tk tp,iter,ifs,0⟩] scope pos) scope X.env _ (newList []) false (eval iter X.env) (some (assign (.Name z pz) X.env))) _ _ s
  refine wpAny_bind (wpAny_mono (wpAny_comprehension_free (use:=some (assign (.Name z pz) X.env)) (Q:=fun _ s' => SP X pins D .next s') rfl hs hclos' S.kind S.names
    (thn (hi pins s σ H _ I hw) fun v s1 h1 => thn h1 fun itv s2 h2 => ?_)) (fun _ s' hq => wpAny_pure (wpAny_pure hq)) fun _ _ e => e)
  obtain ⟨it,fp,tn,J,H2,e,I2,T,st2,f2,W⟩:=h2
  subst e
  refine comp_block2 (Q:=fun x H1 => gName i x σ H1 D.nx) (RR:=fun acc C => compPost (model X.prog X.w) X.A X.xe (some (assign (.Name z pz) X.env)) (fun _ s' => SP X pins D .next s') acc C) S S2 hxy hcalm hfr hlen hif he I2 T st2 f2 c1 c2 W ?_
  intro D' C s' H' m hn q hI hCD hold hfreeC hsz
  have I5 : Inv X pins σ H' s':=hI s'.heap (Heap.SameBut.refl ..)
  refine wpAny_assign_Name (store_ok2 I5 hN hy (.inl hly) (v:=.ref D') rfl (fun s'' I6 ⟨a,hsb,ha⟩ => ?_) (.inr hly))
  have hL : C≠X.env.locals:=fun z => by
    obtain ⟨_,⟨o,_,_,e,_⟩,_⟩:=I2.loc
    exact hold _ _ e z.symm
  have hcl : ∀ z c,X.env.cells.lookup z = some c→c≠C:=fun z c e => by
    obtain ⟨_,o,ho,_⟩:=I2.cell z c e
    exact hold _ _ ho
  have hCa : C≠a := by
    rcases ha with z | z
    · rw [z]; exact hL
    · exact Ne.symm (hcl _ _ z)
  refine ⟨m,hn.sameBut hsb hCa,fun h' hs' => ⟨_,H',I6.turned (t':=s''.toks) (it:=C) (fun b o hb e => (hs'.2 b hb).trans e) hfreeC hL (.inr (Nat.le_trans I2.sz hsz)) hcl fun p hp => ?_,q⟩⟩
  obtain ⟨e,_⟩:=I2.pin p hp
  exact hold _ _ e
end
section
variable {X : Cx} {elt iter : Expr} {x y : Str} {px py tp pos : Pos} {tk : Nat} {ifs : List Expr} {scope : Scope} {wi : TI} {tif : TT} {te : TE}
theorem pe_compr2 (N : List Str) (ix iy : Nat) (fr : List (Option Nat)) (hi : PI X (tg2 x y px py tk tp) iter wi) (hif : ∀ cl C s₀ H₀ fp,PIf (cxComp X scope cl N C s₀ H₀ fp) ifs tif) (he : ∀ cl C s₀ H₀ fp,PE (cxComp X scope cl N C s₀ H₀ fp) elt te)
    (h1 : compScopeOk scope N x ix = true := by decide +kernel) (h1' : compScopeOk scope N y iy = true := by decide +kernel) (hxy : ix≠iy := by decide) (h2 : X.calm = true := by rfl) (h3 : frOk N X.N scope X.env.scope fr 0 = true := by rfl) (h4 : fr.length = N.length := by rfl) (h5 : freeOk X.env.scope scope.names = true := by rfl)
    (hs : ∀ x,foldedSetIterable iter X.env x = pure x := by intro _; rfl) : PE X (.ListComp elt [⟨.Tuple [.Name x px,.Name y py] tk tp,iter,ifs,0⟩] scope pos) (tComp2 X.K wi fr ix iy tif te) :=
  pe_comp2 (compScope_of h1) (compScope_of h1') hxy h2 h3 h4 (freeOk_of h5) hi hif he hs
theorem ps_setCompr2 {i : Nat} {z : Str} {pz spos : Pos} (N : List Str) (ix iy : Nat) (fr : List (Option Nat)) (hN : X.N.Nodup) (hy : X.N[i]? = some z) (hly : X.env.scope.names.lookup z = some .local)
    (hi : PI X (tg2 x y px py tk tp) iter wi) (hif : ∀ cl C s₀ H₀ fp,PIf (cxComp X scope cl N C s₀ H₀ fp) ifs tif) (he : ∀ cl C s₀ H₀ fp,PE (cxComp X scope cl N C s₀ H₀ fp) elt te)
    (h1 : compScopeOk scope N x ix = true := by decide +kernel) (h1' : compScopeOk scope N y iy = true := by decide +kernel) (hxy : ix≠iy := by decide) (h2 : X.calm = true := by rfl) (h3 : frOk N X.N scope X.env.scope fr 0 = true := by rfl) (h4 : fr.length = N.length := by rfl) (h5 : freeOk X.env.scope scope.names = true := by rfl)
    (hsw : swapsWith (.ListComp elt [⟨.Tuple [.Name x px,.Name y py] tk tp,iter,ifs,0⟩] scope pos) (some (.Name z pz)) spos.line X.env = pure true := by rfl)
    (hs : ∀ x,foldedSetIterable iter X.env x = pure x := by intro _; rfl) : PS X (.Assign [.Name z pz] (.ListComp elt [⟨.Tuple [.Name x px,.Name y py] tk tp,iter,ifs,0⟩] scope pos) spos) (tAsg (tComp2 X.K wi fr ix iy tif te) (gName i)) :=
  ps_setComp2 hN hy hly (compScope_of h1) (compScope_of h1') hxy h2 h3 h4 (freeOk_of h5) hi hif he hsw hs
end
theorem comp_by2 {K : PySem.W.Frag} {J : It} {n : Nat} {D : Addr} {H1 : Hp} {fr : List (Option Nat)} {σ : St} {ix iy : Nat} {tif : TT} {te : TE} {G : Hp→Prop} (Pv : Nat→List V→Hp→Prop) (h0 : Pv 0 [] (upd H1 D (.lst [])))
    (hgo : ∀ i ys H,i < n→Pv i ys H→H D = some (.lst ys)→J.go i H∧ys.length < sizeLine∧∀ x H',J.yld i H x H'→∃ a v1 v2,x = .ref a∧SqT K H' a [v1,v2] ∧
      tif (((carry fr σ).set ix (some v1)).set iy (some v2)) H' fun b H2 => if b = true then te (((carry fr σ).set ix (some v1)).set iy (some v2)) H2 fun y H3 => H3 D = some (.lst ys)∧∃ m',m' < n - i∧CW Pv n D (i + 1) m' (ys ++ [y]) (upd H3 D (.lst (ys ++ [y])))
        else ∃ m',m' < n - i∧CW Pv n D (i + 1) m' ys H2)
    (hstop : ∀ ys H,Pv n ys H→H D = some (.lst ys)→J.stop n H∧G H) :
    ∃ W : Nat→Nat→List V→Hp→Prop,(∃ m,W 0 m [] (upd H1 D (.lst []))) ∧
      ∀ i m ys H,W i m ys H→H D = some (.lst ys)∧((J.stop i H∧G H)∨(J.go i H∧ys.length < sizeLine∧∀ x H',J.yld i H x H'→∃ a v1 v2,x = .ref a∧SqT K H' a [v1,v2] ∧
        tif (((carry fr σ).set ix (some v1)).set iy (some v2)) H' fun b H2 => if b = true then te (((carry fr σ).set ix (some v1)).set iy (some v2)) H2 fun y H3 => H3 D = some (.lst ys)∧∃ m',m' < m∧W (i + 1) m' (ys ++ [y]) (upd H3 D (.lst (ys ++ [y])))
          else ∃ m',m' < m∧W (i + 1) m' ys H2)) := by
  refine ⟨CW Pv n D,⟨n,by simp,Nat.zero_le _,upd_same,h0⟩,?_⟩
  rintro i m ys H ⟨rfl,hi,hH,p⟩
  refine ⟨hH,?_⟩
  by_cases hlt : i < n
  · exact .inr (hgo i ys H hlt p hH)
  · have : i = n := by lia
    subst this
    exact .inl (hstop ys H p hH)
end L2
namespace ZT
open PySem PyProof.Rows
structure Apart (z TI TO i1 i2 : Addr) (f1 f2 : List Addr) : Prop where
  a1 : TI≠z∧TI≠TO∧TI≠i1∧TI≠i2
  a2 : TO≠z∧TO≠i1∧TO≠i2
  a3 : i1≠z∧i2≠z∧i1≠i2
  b1 : z ∉ f1∧TO ∉ f1∧i2 ∉ f1
  b2 : z ∉ f2∧TO ∉ f2∧i1 ∉ f2
section
variable {prog : Program} {w : World} {A : Around} {E : Value→Shared→Prop} {s : Shared} {z TI TO i1 i2 : Addr} {f1 f2 : List Addr} {n1 n2 k : Nat} {P1 P2 : Nat→Value→Prop} {S1 S2 : Nat→Heap→Prop} {a b : Value}
theorem keep_in {f : List Addr} {x : Addr} {h h' : Heap} (hx : x ∉ f) (e : Heap.SameBut x h h') : ∀ c∈f,∀ o,h.get? c = some o→h'.get? c = some o:=fun c hc o q => (e.2 c fun y => hx (y ▸ hc)).trans q
theorem item {Q : Value→Shared→Prop} (D1 : Draws prog w A i1 f1 n1 P1 S1) (D2 : Draws prog w A i2 f2 n2 P2 S2) (ap : Apart z TI TO i1 i2 f1 f2) (hz : IsZip s.heap z TI TO .none) (hI : IsPair s.heap TI (.ref i1) (.ref i2)) (hO : IsPair s.heap TO a b)
    (t1 : S1 k s.heap) (t2 : S2 k s.heap) (l1 : k < n1) (l2 : k < n2)
    (q : ∀ x y h' tk,P1 k x→P2 k y→IsZip h' z TI TO (rawInt s.heap.objs.size)→IsPair h' TO x y→S1 (k + 1) h'→S2 (k + 1) h'→IsPair h' s.heap.objs.size x y→h'.objs.size = s.heap.objs.size + 1 →
      (∀ c o,c≠z→c≠TO→c≠i1→c≠i2→s.heap.get? c = some o→h'.get? c = some o)→Q (.ref s.heap.objs.size) { s with heap:=h',toks:=tk }) :
    wpAny (model prog w) A (Builtin.«zip.__next__» ⟨[.ref z],[]⟩) (fun fin s' => ∃ v,fin = .done (.ret v)∧Q v s') E s := by
  obtain ⟨⟨c1,c2,c3,c4⟩,⟨c5,c6,c7⟩,⟨c8,c9,c10⟩,⟨d1,d2,d3⟩,d4,d5,d6⟩:=ap
  show wpAny _ _ (field (.ref z) 2 >>= _) _ _ _
  refine wpAny_bind (wpAny_field hz rfl (x:=.bool false) rfl ?_)
  show wpAny _ _ (field (.ref z) 3 >>= _) _ _ _
  refine wpAny_bind (wpAny_field hz rfl (x:=.ref TI) rfl (wpAny_bind (wpAny_seqItems hI rfl ?_)))
  show wpAny _ _ (Builtin.SmallTypes.ownedTupleIsFree (.ref z) >>= _) _ _ _
  unfold Builtin.SmallTypes.ownedTupleIsFree
  refine wpAny_bind (wpAny_bind (wpAny_field hz rfl (x:=.none) rfl (wpAny_pure ?_)))
  simp only [if_true]
  refine wpAny_bind (wpAny_rule (wpAny_bind (wpAny_field hz rfl (x:=.ref TO) rfl (wpAny_bind (wpAny_setField_rec hz (by simp) fun g1 z1 m1 => wpAny_bind ?_)))))
  have m1 : Heap.SameBut z s.heap g1:=m1
  have z1 : IsZip g1 z TI TO .ellipsis:=z1
  simp only [List.zipIdx_cons,List.zipIdx_nil,List.forIn_cons,List.forIn_nil]
  refine wpAny_bind (wpAny_bind (wpAny_onRaise ?_))
  show wpAny _ _ (Builtin.SmallTypes.nextOf (.ref i1) >>= _) _ _ _
  refine wpAny_bind (D1.item k _ _ _ l1 (D1.frame _ _ _ t1 (keep_in d1 m1)) fun x g2 tk2 p1 u1 m2 => wpAny_pure ?_)
  have o2 : IsPair g2 TO a b:=(m2.2 _ c6).trans ((m1.2 _ c5).trans hO)
  refine wpAny_bind (wpAny_seqItems o2 rfl (wpAny_bind (wpAny_updateSeq_pair o2 fun g3 o3 m3 => wpAny_bind (wpAny_letGo (wpAny_pure ?_)))))
  have o3 : IsPair g3 TO x b:=o3
  have t2' : S2 k g3:=D2.frame _ _ _ (D2.frame _ _ _ (D2.frame _ _ _ t2 (keep_in d4 m1)) (keep_in d6 m2)) (keep_in d5 m3)
  refine wpAny_bind (wpAny_bind (wpAny_onRaise ?_))
  show wpAny _ _ (Builtin.SmallTypes.nextOf (.ref i2) >>= _) _ _ _
  refine wpAny_bind (D2.item k _ _ _ l2 t2' fun y g4 tk4 p2 u2 m4 => wpAny_pure ?_)
  have m3 : Heap.SameBut TO g2 g3:=m3
  have m4 : Heap.SameBut i2 g3 g4:=m4
  have o4 : IsPair g4 TO x b:=(m4.2 _ c7).trans o3
  refine wpAny_bind (wpAny_seqItems o4 rfl (wpAny_bind (wpAny_updateSeq_pair o4 fun g5 o5 m5 => wpAny_bind (wpAny_letGo (wpAny_pure (wpAny_pure ?_))))))
  have m5 : Heap.SameBut TO g4 g5:=m5
  have o5 : IsPair g5 TO x y:=o5
  refine wpAny_bind (wpAny_seqItems o5 rfl (wpAny_bind (wpAny_newTuple ?_)))
  have m2 : Heap.SameBut i1 g1 g2:=m2
  have sz : g5.objs.size = s.heap.objs.size := by rw [m5.1,m4.1,m3.1,m2.1,m1.1]
  have z5 : IsZip g5 z TI TO .ellipsis:=(m5.2 _ c5.symm).trans ((m4.2 _ c9.symm).trans ((m3.2 _ c5.symm).trans ((m2.2 _ c8.symm).trans z1)))
  have kp : ∀ c o,c≠z→c≠TO→c≠i1→c≠i2→s.heap.get? c = some o→g5.get? c = some o:=fun c o e1 e2 e3 e4 e => (m5.2 _ e2).trans ((m4.2 _ e4).trans ((m3.2 _ e2).trans ((m2.2 _ e3).trans ((m1.2 _ e1).trans e))))
  have v1 : S1 (k + 1) g5:=D1.frame _ _ _ (D1.frame _ _ _ (D1.frame _ _ _ u1 (keep_in d2 m3)) (keep_in d3 m4)) (keep_in d2 m5)
  have v2 : S2 (k + 1) g5:=D2.frame _ _ _ u2 (keep_in d5 m5)
  show wpAny _ _ (Builtin.SmallTypes.ownedTupleHandOut (.ref z) (.ref g5.objs.size) >>= _) _ _ _
  unfold Builtin.SmallTypes.ownedTupleHandOut
  have z6 : IsZip (g5.push { cls:=.type "tuple",data:=.seq #[x,y] }) z TI TO .ellipsis:=Heap.get?_push_of_some _ z5
  refine wpAny_bind (wpAny_bind (wpAny_setField_rec z6 (by simp) fun g7 z7 m7 => wpAny_setField_rec (show IsZip g7 z TI TO (rawInt g5.objs.size) from z7) (by simp) fun g8 z8 m8 => ?_))
  have z8 : IsZip g8 z TI TO (rawInt g5.objs.size):=z8
  have up : ∀ c o,c≠z→(g5.push { cls:=.type "tuple",data:=.seq #[x,y] }).get? c = some o→g8.get? c = some o:=fun c o e1 e => (m8.2 _ e1).trans ((m7.2 _ e1).trans e)
  have zl : z < g5.objs.size:=Heap.lt_size z5
  refine wpAny_pure ⟨_,rfl,?_⟩
  show Q (.ref g5.objs.size) _
  have fin:=q x y g8 tk4 p1 p2 (by rw [← sz]; exact z8) (up _ _ c5 (Heap.get?_push_of_some _ o5)) (D1.frame _ _ _ v1 fun c hc o e => up c o (fun y => d1 (y ▸ hc)) (Heap.get?_push_of_some _ e)) (D2.frame _ _ _ v2 fun c hc o e => up c o (fun y => d4 (y ▸ hc)) (Heap.get?_push_of_some _ e))
    (by rw [← sz]; exact up _ _ (Nat.ne_of_gt zl) (Heap.get?_push_size _ rfl)) (by rw [← sz,m8.1,m7.1,Heap.size_push]) fun c o e1 e2 e3 e4 e => up c o e1 (Heap.get?_push_of_some _ (kp c o e1 e2 e3 e4 e))
  rw [sz]
  exact fin
theorem ended {Q : Fin→Shared→Prop} (D1 : Draws prog w A i1 f1 n1 P1 S1) (D2 : Draws prog w A i2 f2 n2 P2 S2) (ap : Apart z TI TO i1 i2 f1 f2) (hz : IsZip s.heap z TI TO .none) (hI : IsPair s.heap TI (.ref i1) (.ref i2)) (hO : IsPair s.heap TO a b)
    (t1 : S1 k s.heap) (t2 : S2 k s.heap) (he : k = n1∨(k < n1∧k = n2))
    (q : ∀ h' e tk,(∀ c o,c≠z→c≠TO→c≠i1→c≠i2→s.heap.get? c = some o→h'.get? c = some o)→(∃ o,h'.get? e = some o∧o.cls = .type "StopIteration")→E (.ref e) { s with heap:=h',toks:=tk }) :
    wpAny (model prog w) A (Builtin.«zip.__next__» ⟨[.ref z],[]⟩) Q E s := by
  obtain ⟨⟨c1,c2,c3,c4⟩,⟨c5,c6,c7⟩,⟨c8,c9,c10⟩,⟨d1,d2,d3⟩,d4,d5,d6⟩:=ap
  show wpAny _ _ (field (.ref z) 2 >>= _) _ _ _
  refine wpAny_bind (wpAny_field hz rfl (x:=.bool false) rfl ?_)
  show wpAny _ _ (field (.ref z) 3 >>= _) _ _ _
  refine wpAny_bind (wpAny_field hz rfl (x:=.ref TI) rfl (wpAny_bind (wpAny_seqItems hI rfl ?_)))
  show wpAny _ _ (Builtin.SmallTypes.ownedTupleIsFree (.ref z) >>= _) _ _ _
  unfold Builtin.SmallTypes.ownedTupleIsFree
  refine wpAny_bind (wpAny_bind (wpAny_field hz rfl (x:=.none) rfl (wpAny_pure ?_)))
  simp only [if_true]
  refine wpAny_bind (wpAny_rule (wpAny_bind (wpAny_field hz rfl (x:=.ref TO) rfl (wpAny_bind (wpAny_setField_rec hz (by simp) fun g1 z1 m1 => wpAny_bind ?_)))))
  have m1 : Heap.SameBut z s.heap g1:=m1
  have z1 : IsZip g1 z TI TO .ellipsis:=z1
  simp only [List.zipIdx_cons,List.zipIdx_nil,List.forIn_cons,List.forIn_nil]
  refine wpAny_bind (wpAny_bind (wpAny_onRaise ?_))
  show wpAny _ _ (Builtin.SmallTypes.nextOf (.ref i1) >>= _) _ _ _
  have t1':=D1.frame _ _ _ t1 (keep_in d1 m1)
  rcases he with he | ⟨he1,he2⟩
  · rw [he] at t1'
    refine wpAny_bind (D1.done _ _ _ t1' fun g2 e m2 ho => ?_)
    obtain ⟨o,ho,hc⟩:=ho
    have z2 : IsZip g2 z TI TO .ellipsis:=m2 _ _ c8.symm z1
    have ez : e≠z:=fun y => by subst y; rw [z2] at ho; cases ho; simp at hc
    exact wpAny_setField_rec z2 (by simp) fun g3 _ m3 => q g3 e _ (fun c o e1 e2 e3 e4 y => (m3.2 _ e1).trans (m2 _ _ e3 ((m1.2 _ e1).trans y))) ⟨o,(m3.2 _ ez).trans ho,hc⟩
  · refine wpAny_bind (D1.item k _ _ _ he1 t1' fun x g2 tk2 p1 u1 m2 => wpAny_pure ?_)
    have o2 : IsPair g2 TO a b:=(m2.2 _ c6).trans ((m1.2 _ c5).trans hO)
    refine wpAny_bind (wpAny_seqItems o2 rfl (wpAny_bind (wpAny_updateSeq_pair o2 fun g3 o3 m3 => wpAny_bind (wpAny_letGo (wpAny_pure ?_)))))
    have t2' : S2 k g3:=D2.frame _ _ _ (D2.frame _ _ _ (D2.frame _ _ _ t2 (keep_in d4 m1)) (keep_in d6 m2)) (keep_in d5 m3)
    rw [he2] at t2'
    have m2 : Heap.SameBut i1 g1 g2:=m2
    have m3 : Heap.SameBut TO g2 g3:=m3
    refine wpAny_bind (wpAny_bind (wpAny_onRaise ?_))
    show wpAny _ _ (Builtin.SmallTypes.nextOf (.ref i2) >>= _) _ _ _
    refine wpAny_bind (D2.done _ _ _ t2' fun g4 e m4 ho => ?_)
    obtain ⟨o,ho,hc⟩:=ho
    have z4 : IsZip g4 z TI TO .ellipsis:=m4 _ _ c9.symm ((m3.2 _ c5.symm).trans ((m2.2 _ c8.symm).trans z1))
    have ez : e≠z:=fun y => by subst y; rw [z4] at ho; cases ho; simp at hc
    exact wpAny_setField_rec z4 (by simp) fun g5 _ m5 => q g5 e _ (fun c o e1 e2 e3 e4 y => (m5.2 _ e1).trans (m4 _ _ e4 ((m3.2 _ e2).trans ((m2.2 _ e3).trans ((m1.2 _ e1).trans y))))) ⟨o,(m5.2 _ ez).trans ho,hc⟩
theorem next_item {Q : Option Value→Shared→Prop} (D1 : Draws prog w A.in1 i1 f1 n1 P1 S1) (D2 : Draws prog w A.in1 i2 f2 n2 P2 S2) (ap : Apart z TI TO i1 i2 f1 f2) (hz : IsZip s.heap z TI TO .none) (hI : IsPair s.heap TI (.ref i1) (.ref i2)) (hO : IsPair s.heap TO a b)
    (t1 : S1 k s.heap) (t2 : S2 k s.heap) (l1 : k < n1) (l2 : k < n2)
    (q : ∀ x y h' tk,P1 k x→P2 k y→IsZip h' z TI TO (rawInt s.heap.objs.size)→IsPair h' TO x y→S1 (k + 1) h'→S2 (k + 1) h'→IsPair h' s.heap.objs.size x y→h'.objs.size = s.heap.objs.size + 1 →
      (∀ c o,c≠z→c≠TO→c≠i1→c≠i2→s.heap.get? c = some o→h'.get? c = some o)→Q (some (.ref s.heap.objs.size)) { s with heap:=h',toks:=tk }) :
    wpAny (model prog w) A (pyNext (.ref z)) Q E s := by
  have hT : s.TypeIs (.ref z) "zip" := ⟨_,hz,rfl⟩
  unfold pyNext
  exact wpAny_bind (wpAny_attempt (wpAny_callSpecial?_slot (name:=Str.ofString "__next__") hT F.slot_zip_next
    (wpAny_call_entry F.slot_zip_next hT F.entry_zip_next (item D1 D2 ap hz hI hO t1 t2 l1 l2 fun x y h' tk r1 r2 r3 r4 r5 r6 r7 r8 r9 => wpAny_pure (q x y h' tk r1 r2 r3 r4 r5 r6 r7 r8 r9)) (F.args_zip_next_1 _))))
theorem next_end {Q : Option Value→Shared→Prop} (D1 : Draws prog w A.in1 i1 f1 n1 P1 S1) (D2 : Draws prog w A.in1 i2 f2 n2 P2 S2) (ap : Apart z TI TO i1 i2 f1 f2) (hz : IsZip s.heap z TI TO .none) (hI : IsPair s.heap TI (.ref i1) (.ref i2)) (hO : IsPair s.heap TO a b)
    (t1 : S1 k s.heap) (t2 : S2 k s.heap) (he : k = n1∨(k < n1∧k = n2))
    (q : ∀ h' tk,(∀ c o,c≠z→c≠TO→c≠i1→c≠i2→s.heap.get? c = some o→h'.get? c = some o)→Q none { s with heap:=h',toks:=tk }) :
    wpAny (model prog w) A (pyNext (.ref z)) Q E s := by
  have hT : s.TypeIs (.ref z) "zip" := ⟨_,hz,rfl⟩
  unfold pyNext
  refine wpAny_bind (wpAny_attempt (wpAny_callSpecial?_slot (name:=Str.ofString "__next__") hT F.slot_zip_next
    (wpAny_call_entry F.slot_zip_next hT F.entry_zip_next (ended D1 D2 ap hz hI hO t1 t2 he fun h' e tk kp ho => ?_) (F.args_zip_next_1 _))))
  obtain ⟨o,ho,hc⟩:=ho
  exact wpAny_bind (wpAny_isInstance (T := "StopIteration") (b:=true) ⟨o,ho,hc⟩ isSubtype_stop (wpAny_pure (q _ _ kp)))
end
end ZT
namespace ZT
open PySem PyProof.Rows
def Sq (b : Bool) (h : Heap) (l : Addr) (xs : List Value) : Prop:=if b then h.IsTuple l xs.toArray else h.IsList l xs.toArray
def itO (b : Bool) (l : Addr) : Obj:=if b then { cls:=.type "tuple_iterator",data:=.fields #[.ref l,.int 0 0] } else { cls:=.type "list_iterator",data:=.fields #[.ref l,.int 0 0] }
def It1 (b : Bool) (h : Heap) (it l : Addr) (k : Nat) : Prop:=if b then h.IsTupleIter it l k else h.IsListIter it l k
theorem Sq.push {b : Bool} {h : Heap} {l : Addr} {xs : List Value} (o : Obj) (x : Sq b h l xs) : Sq b (h.push o) l xs := by
  cases b with
  | true => obtain ⟨u,e,r⟩:=(show h.IsTuple l xs.toArray from x); exact (show (h.push o).IsTuple l xs.toArray from ⟨u,Heap.get?_push_of_some _ e,r⟩)
  | false => obtain ⟨u,e,r⟩:=(show h.IsList l xs.toArray from x); exact (show (h.push o).IsList l xs.toArray from ⟨u,Heap.get?_push_of_some _ e,r⟩)
section
variable {prog : Program} {w : World} {A : Around} {E : Value→Shared→Prop} {s : Shared}
theorem iter_sq {b : Bool} {l : Addr} {xs : List Value} {Q : Value→Shared→Prop} (x : Sq b s.heap l xs) (h : Q (.ref s.heap.objs.size) { s with heap:=s.heap.push (itO b l) }) : wpAny (model prog w) A (pyIter (.ref l)) Q E s := by
  cases b with
  | true => exact wpAny_pyIter_tuple x h
  | false => exact wpAny_pyIter_list x h
theorem draws_sq (hh : A.handled = none) (b : Bool) (it l : Addr) (xs : List Value) (hne : l≠it) : Draws prog w A it [it,l] xs.length (fun i v => xs[i]? = some v) (fun i h => It1 b h it l i∧Sq b h l xs) := by
  cases b with
  | true => exact ET.draws hh it l xs hne
  | false =>
    have:=Draws.list (prog:=prog) (w:=w) hh it l hne xs.toArray
    simpa [It1,Sq] using this
def zh (b1 b2 : Bool) (h : Heap) (l1 l2 : Addr) : Heap :=
  ((((h.push (itO b1 l1)).push (itO b2 l2)).push { cls:=.type "tuple",data:=.seq #[.ref h.objs.size,.ref (h.push (itO b1 l1)).objs.size] }).push { cls:=.type "tuple",data:=.seq #[.none,.none] }).push
    { cls:=.type "zip",data:=.fields #[.none,.bool false,.bool false,.ref ((h.push (itO b1 l1)).push (itO b2 l2)).objs.size,.ref (((h.push (itO b1 l1)).push (itO b2 l2)).push { cls:=.type "tuple",data:=.seq #[.ref h.objs.size,.ref (h.push (itO b1 l1)).objs.size] }).objs.size] }
theorem new_zip (b1 b2 : Bool) (l1 l2 : Addr) (xs ys : List Value) :
    Meets (Builtin.«zip.__new__» ⟨[.type "zip",.ref l1,.ref l2],[]⟩) (fun _ R s => Sq b1 s.heap l1 xs∧Sq b2 s.heap l2 ys ∧
      R (.ok (.ret (.ref ((((s.heap.push (itO b1 l1)).push (itO b2 l2)).push { cls:=.type "tuple",data:=.seq #[.ref s.heap.objs.size,.ref (s.heap.push (itO b1 l1)).objs.size] }).push { cls:=.type "tuple",data:=.seq #[.none,.none] }).objs.size)) ) { s with heap:=zh b1 b2 s.heap l1 l2 }) :=
  .of_wp fun prog w A R s h => by
    obtain ⟨hp,g,d,tk,os⟩:=s; obtain ⟨h1,h2,h⟩:=h
    have hsub:=sub_zip
    have i1 : ∀ (A : Around) (E : Value→Shared→Prop) (Q : Value→Shared→Prop),Q (.ref hp.objs.size) ⟨hp.push (itO b1 l1),g,d,tk,os⟩→wpAny (model prog w) A (pyIter (.ref l1)) Q E ⟨hp,g,d,tk,os⟩:=fun A E Q q => iter_sq (s:=⟨hp,g,d,tk,os⟩) h1 q
    have i2 : ∀ (A : Around) (E : Value→Shared→Prop) (Q : Value→Shared→Prop),Q (.ref (hp.push (itO b1 l1)).objs.size) ⟨(hp.push (itO b1 l1)).push (itO b2 l2),g,d,tk,os⟩→wpAny (model prog w) A (pyIter (.ref l2)) Q E ⟨hp.push (itO b1 l1),g,d,tk,os⟩:=fun A E Q q => iter_sq (s:=⟨hp.push (itO b1 l1),g,d,tk,os⟩) (h2.push _) q
    wp_walk using i1,i2
    exact ⟨_,rfl,h⟩
theorem call_zip {b1 b2 : Bool} {l1 l2 : Addr} {xs ys : List Value} {Q : Value→Shared→Prop} (h1 : Sq b1 s.heap l1 xs) (h2 : Sq b2 s.heap l2 ys)
    (h : ∀ h',IsZip h' (s.heap.objs.size + 4) (s.heap.objs.size + 2) (s.heap.objs.size + 3) .none→IsPair h' (s.heap.objs.size + 2) (.ref s.heap.objs.size) (.ref (s.heap.objs.size + 1))→IsPair h' (s.heap.objs.size + 3) .none .none →
      It1 b1 h' s.heap.objs.size l1 0→It1 b2 h' (s.heap.objs.size + 1) l2 0→(∀ c o,s.heap.get? c = some o→h'.get? c = some o)→Q (.ref (s.heap.objs.size + 4)) { s with heap:=h' }) :
    wpAny (model prog w) A (call (.type "zip") [.ref l1,.ref l2]) Q E s := by
  refine callType_new F.called_zip (by decide) (F.typeCall_zip_2 _ _) (F.newCall_zip_2 _ _) (fun obj => F.args_object_init_3 obj _ _) F.entry_zip_new (new_zip b1 b2 l1 l2 xs ys) ⟨h1,h2,?_⟩
  have n1 : (s.heap.push (itO b1 l1)).objs.size = s.heap.objs.size + 1:=Heap.size_push ..
  have up : ∀ (g : Heap) (o : Obj) (c : Addr) (u : Obj),g.get? c = some u→(g.push o).get? c = some u:=fun g o c u e => Heap.get?_push_of_some _ e
  have a0 : (s.heap.push (itO b1 l1)).get? s.heap.objs.size = some (itO b1 l1):=Heap.get?_push_size _ (by cases b1 <;> rfl)
  generalize hg1 : s.heap.push (itO b1 l1) = g1 at n1 a0
  have k1 : ∀ c o,s.heap.get? c = some o→g1.get? c = some o:=fun c o e => by rw [← hg1]; exact up _ _ _ _ e
  have n2 : (g1.push (itO b2 l2)).objs.size = s.heap.objs.size + 2 := by rw [Heap.size_push,n1]
  have a1 : (g1.push (itO b2 l2)).get? (s.heap.objs.size + 1) = some (itO b2 l2) := by rw [← n1]; exact Heap.get?_push_size _ (by cases b2 <;> rfl)
  generalize hg2 : g1.push (itO b2 l2) = g2 at n2 a1
  have k2 : ∀ c o,g1.get? c = some o→g2.get? c = some o:=fun c o e => by rw [← hg2]; exact up _ _ _ _ e
  have n3 : (g2.push { cls:=.type "tuple",data:=.seq #[.ref s.heap.objs.size,.ref (s.heap.objs.size + 1)] }).objs.size = s.heap.objs.size + 3 := by rw [Heap.size_push,n2]
  have a2 : IsPair (g2.push { cls:=.type "tuple",data:=.seq #[.ref s.heap.objs.size,.ref (s.heap.objs.size + 1)] }) (s.heap.objs.size + 2) (.ref s.heap.objs.size) (.ref (s.heap.objs.size + 1)) := by rw [← n2]; exact Heap.get?_push_size _ rfl
  generalize hg3 : g2.push { cls:=.type "tuple",data:=.seq #[.ref s.heap.objs.size,.ref (s.heap.objs.size + 1)] } = g3 at n3 a2
  have k3 : ∀ c o,g2.get? c = some o→g3.get? c = some o:=fun c o e => by rw [← hg3]; exact up _ _ _ _ e
  have n4 : (g3.push { cls:=.type "tuple",data:=.seq #[.none,.none] }).objs.size = s.heap.objs.size + 4 := by rw [Heap.size_push,n3]
  have a3 : IsPair (g3.push { cls:=.type "tuple",data:=.seq #[.none,.none] }) (s.heap.objs.size + 3) .none .none := by rw [← n3]; exact Heap.get?_push_size _ rfl
  generalize hg4 : g3.push { cls:=.type "tuple",data:=.seq #[.none,.none] } = g4 at n4 a3
  have k4 : ∀ c o,g3.get? c = some o→g4.get? c = some o:=fun c o e => by rw [← hg4]; exact up _ _ _ _ e
  have ez : zh b1 b2 s.heap l1 l2 = g4.push { cls:=.type "zip",data:=.fields #[.none,.bool false,.bool false,.ref (s.heap.objs.size + 2),.ref (s.heap.objs.size + 3)] } := by
    unfold zh
    rw [hg1,hg2,n1,hg3,hg4,n2,n3]
  have a4 : IsZip (g4.push { cls:=.type "zip",data:=.fields #[.none,.bool false,.bool false,.ref (s.heap.objs.size + 2),.ref (s.heap.objs.size + 3)] }) (s.heap.objs.size + 4) (s.heap.objs.size + 2) (s.heap.objs.size + 3) .none := by rw [← n4]; exact Heap.get?_push_size _ rfl
  rw [n1,hg3,hg4,n4,ez]
  show _∧_
  have k5 : ∀ c o,g4.get? c = some o→(g4.push { cls:=.type "zip",data:=.fields #[.none,.bool false,.bool false,.ref (s.heap.objs.size + 2),.ref (s.heap.objs.size + 3)] }).get? c = some o:=fun c o e => up _ _ _ _ e
  refine ⟨⟨_,a4,rfl⟩,h _ a4 (k5 _ _ (k4 _ _ a2)) (k5 _ _ a3) ?_ ?_ fun c o e => k5 _ _ (k4 _ _ (k3 _ _ (k2 _ _ (k1 _ _ e))))⟩
  · have:=k5 _ _ (k4 _ _ (k3 _ _ (k2 _ _ a0)))
    cases b1 with
    | true => exact ⟨_,this,rfl,rfl⟩
    | false => exact ⟨_,this,rfl,rfl⟩
  · have:=k5 _ _ (k4 _ _ (k3 _ _ a1))
    cases b2 with
    | true => exact ⟨_,this,rfl,rfl⟩
    | false => exact ⟨_,this,rfl,rfl⟩
end
end ZT
namespace L2
open PySem PySem.Spec PyProof.Rows
def SqH (b : Bool) (H : Hp) (a : Addr) (xs : List V) : Prop:=if b then H a = some (.tup xs) else H a = some (.lst xs)
theorem SqH.inj {b : Bool} {H : Hp} {a : Addr} {xs ys : List V} (h : SqH b H a xs) (k : SqH b H a ys) : xs = ys := by
  cases b with
  | true => have h : H a = some (.tup xs):=h; have k : H a = some (.tup ys):=k; rw [h] at k; cases k; rfl
  | false => have h : H a = some (.lst xs):=h; have k : H a = some (.lst ys):=k; rw [h] at k; cases k; rfl
theorem SqH.none {b : Bool} {H : Hp} {a c : Addr} {xs : List V} (h : SqH b H a xs) (k : H c = none) : a≠c:=fun z => by
  subst z
  cases b with
  | true => have h : H a = some (.tup xs):=h; rw [k] at h; cases h
  | false => have h : H a = some (.lst xs):=h; rw [k] at h; cases h
theorem SqH.raw {X : Cx} {pins : List (Addr×Obj)} {σ : St} {H : Hp} {s : Shared} (I : Inv X pins σ H s) {b : Bool} {a : Addr} {xs : List V} (h : SqH b H a xs) : ∃ its,Vals xs its∧ZT.Sq b s.heap a its := by
  cases b with
  | true =>
    obtain ⟨its,rv,p,_⟩:=I.tuple (SqT.of (K:=X.K) (show H a = some (.tup xs) from h))
    exact ⟨its,rv,p⟩
  | false =>
    obtain ⟨its,rv,p,_⟩:=I.list (SqL.of (K:=X.K) (show H a = some (.lst xs) from h))
    exact ⟨its,rv,p.isList⟩
def Itz (b1 b2 : Bool) (a1 a2 : Addr) : It :=
  ⟨fun i H => ∃ xs x ys y,SqH b1 H a1 xs∧SqH b2 H a2 ys∧xs[i]? = some x∧ys[i]? = some y,
   fun i H v H' => ∃ p x y,v = .ref p∧H p = none∧H' = upd H p (.tup [x,y])∧(∀ xs,SqH b1 H a1 xs→xs[i]? = some x)∧∀ ys,SqH b2 H a2 ys→ys[i]? = some y,
   fun i H => ∃ xs ys,SqH b1 H a1 xs∧SqH b2 H a2 ys∧(i = xs.length∨(i < xs.length∧i = ys.length))⟩
def tnZ (b1 b2 : Bool) (a1 a2 z TI TO i1 i2 : Addr) : Nat→Heap→Prop:=fun i h => IsZip h z TI TO .none∧IsPair h TI (.ref i1) (.ref i2)∧(∃ a b,IsPair h TO a b)∧ZT.It1 b1 h i1 a1 i∧ZT.It1 b2 h i2 a2 i
theorem it1_obj {b : Bool} {h : Heap} {it l : Addr} {k : Nat} (x : ZT.It1 b h it l k) : ∃ o,h.get? it = some o∧∀ v,o.data≠.cell v := by
  cases b with
  | true => obtain ⟨o,e,_,d⟩:=(show h.IsTupleIter it l k from x); exact ⟨o,e,fun v z => by rw [d] at z; cases z⟩
  | false => obtain ⟨o,e,_,d⟩:=(show h.IsListIter it l k from x); exact ⟨o,e,fun v z => by rw [d] at z; cases z⟩
theorem it1_keep {b : Bool} {h h' : Heap} {it l : Addr} {k : Nat} (x : ZT.It1 b h it l k) (e : ∀ o,h.get? it = some o→h'.get? it = some o) : ZT.It1 b h' it l k := by
  cases b with
  | true => obtain ⟨o,q,r⟩:=(show h.IsTupleIter it l k from x); exact (show h'.IsTupleIter it l k from ⟨o,e _ q,r⟩)
  | false => obtain ⟨o,q,r⟩:=(show h.IsListIter it l k from x); exact (show h'.IsListIter it l k from ⟨o,e _ q,r⟩)
theorem turn_zip {P : Program} {w : World} {K : PySem.W.Frag} {elts : List Expr} {x1} {pos : Pos} {b1 b2 : Bool} {a1 a2 z TI TO i1 i2 : Addr} (ne : [z,TI,TO,i1,i2].Nodup) :
    Turn P w K (.Tuple elts x1 pos) (Itz b1 b2 a1 a2) [z,TI,TO,i1,i2] z (tnZ b1 b2 a1 a2 z TI TO i1 i2) where
  mem := by simp
  obj:=fun i h st b hb => by
    obtain ⟨h1,h2,⟨u,v,h3⟩,h4,h5⟩:=st
    have hb : b = z∨b = TI∨b = TO∨b = i1∨b = i2 := by simpa using hb
    rcases hb with rfl | rfl | rfl | rfl | rfl
    · exact ⟨_,h1,fun v y => by cases y⟩
    · exact ⟨_,h2,fun v y => by cases y⟩
    · exact ⟨_,h3,fun v y => by cases y⟩
    · exact it1_obj h4
    · exact it1_obj h5
  keep:=fun i h h' st k => by
    obtain ⟨h1,h2,⟨u,v,h3⟩,h4,h5⟩:=st
    exact ⟨k z (by simp) _ h1,k TI (by simp) _ h2,⟨u,v,k TO (by simp) _ h3⟩,it1_keep h4 fun o e => k i1 (by simp) o e,it1_keep h5 fun o e => k i2 (by simp) o e⟩
  item := by
    intro X hP hw hK hc i pins s σ H E I hf st hg
    subst hP hw hK
    obtain ⟨xs,x,ys,y,q1,q2,hx,hy⟩:=hg
    obtain ⟨us,rv1,p1⟩:=q1.raw I
    obtain ⟨vs,rv2,p2⟩:=q2.raw I
    obtain ⟨u,hu,ru⟩:=rv1.get hx
    obtain ⟨v,hv,rv⟩:=rv2.get hy
    obtain ⟨t1,t2,⟨ta,tb,t3⟩,t4,t5⟩:=st
    have e1 : ∀ b∈[z,TI,TO,i1,i2],a1≠b:=fun b hb => q1.none (hf b hb).1
    have e2 : ∀ b∈[z,TI,TO,i1,i2],a2≠b:=fun b hb => q2.none (hf b hb).1
    simp only [List.nodup_cons,List.mem_cons,List.not_mem_nil,or_false,not_or] at ne
    obtain ⟨⟨n1,n2,n3,n4⟩,⟨n5,n6,n7⟩,⟨n8,n9⟩,n10,_⟩:=ne
    have ap : ZT.Apart z TI TO i1 i2 [i1,a1] [i2,a2]:=⟨⟨Ne.symm n1,n5,n6,n7⟩,⟨Ne.symm n2,n8,n9⟩,⟨Ne.symm n3,Ne.symm n4,n10⟩,
      ⟨by simp [n3,Ne.symm (e1 z (by simp))],by simp [n8,Ne.symm (e1 TO (by simp))],by simp [Ne.symm n10,Ne.symm (e1 i2 (by simp))]⟩,⟨by simp [n4,Ne.symm (e2 z (by simp))],by simp [n9,Ne.symm (e2 TO (by simp))],by simp [n10,Ne.symm (e2 i1 (by simp))]⟩⟩
    refine ZT.next_item (ZT.draws_sq (prog:=X.prog) (w:=X.w) (A:=X.A.in1) (I.ok.hd hc) b1 i1 a1 us (e1 i1 (by simp))) (ZT.draws_sq (prog:=X.prog) (w:=X.w) (A:=X.A.in1) (I.ok.hd hc) b2 i2 a2 vs (e2 i2 (by simp))) ap t1 t2 t3 ⟨t4,p1⟩ ⟨t5,p2⟩ (List.getElem?_eq_some_iff.mp hu).1 (List.getElem?_eq_some_iff.mp hv).1
      fun u' v' h' tk r1 r2 r3 r4 r5 r6 r7 r8 r9 => ⟨_,rfl,wpAny_letOwnedTupleGo_zip (s:={ s with heap:=h',toks:=tk }) r3 fun h'' z'' sb => ?_⟩
    rw [hu] at r1
    rw [hv] at r2
    cases r1
    cases r2
    have keep : ∀ b o,b ∉ [z,TI,TO,i1,i2]→s.heap.get? b = some o→h''.get? b = some o:=fun b o hb q => by
      simp only [List.mem_cons,List.not_mem_nil,or_false,not_or] at hb
      exact (sb.2 b hb.1).trans (r9 b o hb.1 hb.2.2.1 hb.2.2.2.1 hb.2.2.2.2 q)
    have lt : ∀ b∈[z,TI,TO,i1,i2],b < s.heap.objs.size:=fun b hb => by
      have hb : b = z∨b = TI∨b = TO∨b = i1∨b = i2 := by simpa using hb
      rcases hb with rfl | rfl | rfl | rfl | rfl
      · exact Heap.lt_size t1
      · exact Heap.lt_size t2
      · exact Heap.lt_size t3
      · obtain ⟨o,e,_⟩:=it1_obj t4; exact Heap.lt_size e
      · obtain ⟨o,e,_⟩:=it1_obj t5; exact Heap.lt_size e
    have hTn : H s.heap.objs.size = none:=I.hok.fresh (Nat.le_refl _)
    have hT'' : h''.get? s.heap.objs.size = some { cls:=.type "tuple",data:=.seq #[u,v] }:=(sb.2 _ (Nat.ne_of_gt (lt z (by simp)))).trans r7
    have neT : ∀ b o,s.heap.get? b = some o→b≠s.heap.objs.size:=fun b o q => Nat.ne_of_lt (Heap.lt_size q)
    have trk : ∀ b o,H b = some o→b ∉ [z,TI,TO,i1,i2]:=fun b o q hb => by rw [(hf b hb).1] at q; cases q
    refine ⟨.ref s.heap.objs.size,upd H s.heap.objs.size (.tup [x,y]),?_,rfl,⟨_,x,y,rfl,hTn,rfl,fun zs hz => by rw [hz.inj q1]; exact hx,fun zs hz => by rw [hz.inj q2]; exact hy⟩,⟨z'',?_,⟨u,v,?_⟩,?_,?_⟩,fun b hb => ?_⟩
    · show Inv X pins σ _ { s with heap:=h'',gens:=s.gens,drawn:=s.drawn,toks:=tk }
      refine I.step (h':=h'') (g':=s.gens) (d':=s.drawn) (t':=tk) (ch:=[z,TI,TO,i1,i2]) (fun b hb => ?_) (fun b o _ _ hc q _ => keep b o hc q) (fun b o _ _ hc q _ => ⟨o.slots,keep b o hc q⟩)
        (fun b o _ q n => by rw [upd_ne (neT b o q)]; exact n) (fun b o hc q => ⟨o,keep b o hc q⟩) (fun b ys q => by rw [upd_ne (ne_of_none q hTn)]; exact q) (fun b o u q => by rw [upd_ne (ne_of_none q hTn)]; exact q)
        (fun b ps q => ⟨#[],by rw [upd_ne (ne_of_none q hTn),q]; simp⟩) (fun b _ o hc _ q => keep b o hc q) (fun m hm => ?_) (fun b o q => ?_) I.bare
      · obtain ⟨_,f1,_,f3,f4,f5⟩:=hf b hb
        exact ⟨f3,f1,f4,f5⟩
      · obtain ⟨o,es,ep,ho,r⟩:=hm
        exact ⟨o,es,ep,keep _ o (fun hb => (hf _ hb).2.1 rfl) ho,r⟩
      · by_cases hb : b = s.heap.objs.size
        · subst hb
          rw [upd_same] at q
          cases q
          exact ⟨sz2,[u,v],.cons ru (.cons rv .nil),_,hT'',rfl,_,rfl⟩
        · rw [upd_ne hb] at q
          refine (I.hok b o q).stay (fun c w hc r => keep c w ?_ r) (fun c r => by rw [upd_ne (ne_of_none r hTn)]; exact r) fun c ys r => by rw [upd_ne (ne_of_none r hTn)]; exact r
          rcases hc with rfl | hc
          · exact trk _ _ q
          · exact trk _ _ hc
    · exact (sb.2 _ (Ne.symm n1)).trans (r9 _ _ (Ne.symm n1) n5 n6 n7 t2)
    · exact (sb.2 _ (Ne.symm n2)).trans r4
    · exact it1_keep r5.1 fun o e => (sb.2 _ (Ne.symm n3)).trans e
    · exact it1_keep r6.1 fun o e => (sb.2 _ (Ne.symm n4)).trans e
    · rw [upd_ne (Nat.ne_of_lt (lt b hb))]
      exact (hf b hb).1
  done := by
    intro X hP hw hK hc i pins s σ H E I hf st hg
    subst hP hw hK
    obtain ⟨xs,ys,q1,q2,he⟩:=hg
    obtain ⟨us,rv1,p1⟩:=q1.raw I
    obtain ⟨vs,rv2,p2⟩:=q2.raw I
    obtain ⟨t1,t2,⟨ta,tb,t3⟩,t4,t5⟩:=st
    have e1 : ∀ b∈[z,TI,TO,i1,i2],a1≠b:=fun b hb => q1.none (hf b hb).1
    have e2 : ∀ b∈[z,TI,TO,i1,i2],a2≠b:=fun b hb => q2.none (hf b hb).1
    simp only [List.nodup_cons,List.mem_cons,List.not_mem_nil,or_false,not_or] at ne
    obtain ⟨⟨n1,n2,n3,n4⟩,⟨n5,n6,n7⟩,⟨n8,n9⟩,n10,_⟩:=ne
    have ap : ZT.Apart z TI TO i1 i2 [i1,a1] [i2,a2]:=⟨⟨Ne.symm n1,n5,n6,n7⟩,⟨Ne.symm n2,n8,n9⟩,⟨Ne.symm n3,Ne.symm n4,n10⟩,
      ⟨by simp [n3,Ne.symm (e1 z (by simp))],by simp [n8,Ne.symm (e1 TO (by simp))],by simp [Ne.symm n10,Ne.symm (e1 i2 (by simp))]⟩,⟨by simp [n4,Ne.symm (e2 z (by simp))],by simp [n9,Ne.symm (e2 TO (by simp))],by simp [n10,Ne.symm (e2 i1 (by simp))]⟩⟩
    have he' : i = us.length∨(i < us.length∧i = vs.length) := by rw [← rv1.length,← rv2.length]; exact he
    refine ZT.next_end (ZT.draws_sq (prog:=X.prog) (w:=X.w) (A:=X.A.in1) (I.ok.hd hc) b1 i1 a1 us (e1 i1 (by simp))) (ZT.draws_sq (prog:=X.prog) (w:=X.w) (A:=X.A.in1) (I.ok.hd hc) b2 i2 a2 vs (e2 i2 (by simp))) ap t1 t2 t3 ⟨t4,p1⟩ ⟨t5,p2⟩ he' fun h' tk kp => ⟨rfl,?_⟩
    have keep : ∀ b o,b ∉ [z,TI,TO,i1,i2]→s.heap.get? b = some o→h'.get? b = some o:=fun b o hb q => by
      simp only [List.mem_cons,List.not_mem_nil,or_false,not_or] at hb
      exact kp b o hb.1 hb.2.2.1 hb.2.2.2.1 hb.2.2.2.2 q
    have trk : ∀ b o,H b = some o→b ∉ [z,TI,TO,i1,i2]:=fun b o q hb => by rw [(hf b hb).1] at q; cases q
    show Inv X pins σ _ { s with heap:=h',gens:=s.gens,drawn:=s.drawn,toks:=tk }
    refine I.step (h':=h') (g':=s.gens) (d':=s.drawn) (t':=tk) (ch:=[z,TI,TO,i1,i2]) (fun b hb => ?_) (fun b o _ _ hc q _ => keep b o hc q) (fun b o _ _ hc q _ => ⟨o.slots,keep b o hc q⟩)
        (fun b o _ q n => n) (fun b o hc q => ⟨o,keep b o hc q⟩) (fun b ys q => q) (fun b o u q => q)
        (fun b ps q => ⟨#[],by rw [q]; simp⟩) (fun b _ o hc _ q => keep b o hc q) (fun m hm => ?_) (fun b o q => ?_) I.bare
    · obtain ⟨_,f1,_,f3,f4,f5⟩:=hf b hb
      exact ⟨f3,f1,f4,f5⟩
    · obtain ⟨o,es,ep,ho,r⟩:=hm
      exact ⟨o,es,ep,keep _ o (fun hb => (hf _ hb).2.1 rfl) ho,r⟩
    · refine (I.hok b o q).stay (fun c w hc r => keep c w ?_ r) (fun c r => r) fun c ys r => r
      rcases hc with rfl | hc
      · exact trk _ _ q
      · exact trk _ _ hc
  self:=fun _ _ _ _ _ st h => wpAny_pyIter_zip st.1 h
def iZip (ta : TA) : TI:=fun σ H R => ta σ H fun vs H1 => ∃ (b1 b2 : Bool) (a1 a2 : Addr),vs = [.ref a1,.ref a2]∧(∃ xs,SqH b1 H1 a1 xs)∧(∃ ys,SqH b2 H1 a2 ys)∧R (Itz b1 b2 a1 a2) H1
theorem pi_zip {X : Cx} {elts : List Expr} {x1} {tpos : Pos} {a b : Expr} {ta : TA} {p pos : Pos} (hg : Gl X "zip") (hm : X.mg "zip" = none) (ha : PA X [a,b] ta) (hs : starEach [a,b] X.env = [(false,eval a X.env),(false,eval b X.env)] := by rfl) (hs2 : starEach [b] X.env = [(false,eval b X.env)] := by rfl) :
    PI X (.Tuple elts x1 tpos) (.Call (.Name "zip" p) [a,b] [] pos) (iZip ta) := by
  intro pins s σ H R I h
  refine Call_ (ld_blt I hg hm boot_zip (PyProof.Rows.callWith_type1 (thn (ha pos pins s σ H _ I h) fun us s1 ⟨vs,H1,I1,r1,q1⟩ => ?_) (by rw [hs,hs2]) (by rw [hs2]; rfl)))
  obtain ⟨b1,b2,l1,l2,e,⟨xs,h1⟩,⟨ys,h2⟩,q⟩:=q1
  subst e
  cases r1 with
  | cons r rr =>
    cases rr with
    | cons r' rr =>
      cases rr
      cases r
      cases r'
      obtain ⟨us,_,p1⟩:=h1.raw I1
      obtain ⟨vs,_,p2⟩:=h2.raw I1
      refine ZT.call_zip p1 p2 fun h' z1 z2 z3 z4 z5 hk => wpAny_pyIter_zip z1 ?_
      have I2 : Inv X pins σ H1 { s1 with heap:=h' }:=I1.kept (t':=s1.toks) hk
      refine ⟨_,[s1.heap.objs.size + 4,s1.heap.objs.size + 2,s1.heap.objs.size + 3,s1.heap.objs.size,s1.heap.objs.size + 1],_,_,H1,rfl,I2,turn_zip ?_,⟨z1,z2,⟨_,_,z3⟩,z4,z5⟩,fun b hb => ?_,q⟩
      · simp
      have hb' : s1.heap.objs.size≤b := by
        have hb2 : b = s1.heap.objs.size + 4∨b = s1.heap.objs.size + 2∨b = s1.heap.objs.size + 3∨b = s1.heap.objs.size∨b = s1.heap.objs.size + 1 := by simpa using hb
        rcases hb2 with h | h | h | h | h <;> rw [h] <;> first | exact Nat.le_refl _ | exact Nat.le_add_right _ _
      exact I1.fpOk hb' (I1.hok.fresh hb')
def ItE (K : PySem.W.Frag) (a : Addr) : It :=
  ⟨fun i H => ∃ xs x,SqL K H a xs∧xs[i]? = some x,fun i H v H' => ∃ p x,v = .ref p∧H p = none∧H' = upd H p (.tup [.int i,x])∧∀ xs,SqL K H a xs→xs[i]? = some x,fun i H => ∃ xs,SqL K H a xs∧xs.length = i⟩
theorem turn_enumL {P : Program} {w : World} {K : PySem.W.Frag} {elts : List Expr} {x1} {pos : Pos} (a e it : Addr) (hne : e≠it) :
    Turn P w K (.Tuple elts x1 pos) (ItE K a) [e,it] e (fun i h => (∃ old,IsEnum h e it (i : Nat) old)∧h.IsListIter it a i) where
  mem := by simp
  obj:=fun i h st b hb => by
    rcases List.mem_cons.mp hb with rfl | hb
    · obtain ⟨⟨old,q⟩,_⟩:=st
      exact ⟨_,q,fun v z => by cases z⟩
    · have e2 : b = it := by simpa using hb
      subst e2
      obtain ⟨_,o,q,c,d⟩:=st
      exact ⟨o,q,fun v z => by rw [d] at z; cases z⟩
  keep:=fun i h h' st k => by
    obtain ⟨⟨old,q⟩,o,q2,r⟩:=st
    exact ⟨⟨old,k e (by simp) _ q⟩,o,k it (by simp) _ q2,r⟩
  item := by
    intro X hP hw hK hc i pins s σ H E I hf st hg
    subst hP hw hK
    obtain ⟨xs,x,hq,hx⟩:=hg
    obtain ⟨its,rv,pL,hz⟩:=I.list hq
    have p:=pL.isList
    obtain ⟨u,hu,ru⟩:=rv.get hx
    obtain ⟨⟨old,he⟩,hit⟩:=st
    have hai : a≠it:=fun z => by
      obtain ⟨o,e1,c1,_⟩:=p
      obtain ⟨o2,e2,c2,_⟩:=hit
      rw [z,e2] at e1; cases e1
      rw [c1] at c2; exact absurd c2 (by decide)
    have hae : a≠e:=fun z => by
      obtain ⟨o,e1,c1,_⟩:=p
      rw [z,he] at e1; cases e1
      exact absurd (show Value.type "enumerate" = Value.type "list" from c1) (by decide)
    have hlt : i < its.length:=(List.getElem?_eq_some_iff.mp hu).1
    have hE0:=hf e (by simp)
    have hI0:=hf it (by simp)
    refine wpAny_pyNext_enum_itemD (Draws.list (prog:=X.prog) (w:=X.w) (A:=X.A.in1) (I.ok.hd hc) it a hai its.toArray) he ⟨hit,p⟩ (by simpa using hlt) hne (by simp [hne,Ne.symm hae]) fun y h' tk hy ho hs' hT hsz hk => ⟨_,rfl,wpAny_letOwnedTupleGo_enum (s:={ s with heap:=h',toks:=tk + 1 }) ho fun h'' he'' sb => ?_⟩
    have hyu : y = u := by
      have hy : its[i]? = some y := by simpa using hy
      rw [hu] at hy; exact (Option.some.inj hy).symm
    subst hyu
    have keep : ∀ b o,b≠e→b≠it→s.heap.get? b = some o→h''.get? b = some o:=fun b o h1 h2 q => (sb.2 b h1).trans (hk b o h1 h2 q)
    have hTe : s.heap.objs.size≠e:=Nat.ne_of_gt (Heap.lt_size he)
    have hTi : s.heap.objs.size≠it:=let ⟨_,q,_⟩:=hit; Nat.ne_of_gt (Heap.lt_size q)
    have hT'' : h''.get? s.heap.objs.size = some { cls:=.type "tuple",data:=.seq #[.int i tk,y] }:=(sb.2 _ hTe).trans hT
    have hTn : H s.heap.objs.size = none:=I.hok.fresh (Nat.le_refl _)
    have neT : ∀ b o,s.heap.get? b = some o→b≠s.heap.objs.size:=fun b o q => Nat.ne_of_lt (Heap.lt_size q)
    have trk : ∀ b o,H b = some o→b≠e∧b≠it:=fun b o q => ⟨(fun z => by rw [z,hE0.1] at q; cases q),(fun z => by rw [z,hI0.1] at q; cases q)⟩
    refine ⟨.ref s.heap.objs.size,upd H s.heap.objs.size (.tup [.int i,x]),?_,rfl,⟨_,x,rfl,hTn,rfl,fun ys hy => by rw [I.list_inj hy hq]; exact hx⟩,⟨⟨_,by simpa using he''⟩,?_⟩,fun b hb => ?_⟩
    · show Inv X pins σ _ { s with heap:=h'',gens:=s.gens,drawn:=s.drawn,toks:=tk + 1 }
      refine I.step (h':=h'') (g':=s.gens) (d':=s.drawn) (t':=tk + 1) (ch:=[e,it]) (fun b hb => ?_) (fun b o _ _ hc q _ => keep b o (fun z => hc (by simp [z])) (fun z => hc (by simp [z])) q) (fun b o _ _ hc q _ => ⟨o.slots,keep b o (fun z => hc (by simp [z])) (fun z => hc (by simp [z])) q⟩)
        (fun b o _ q n => by rw [upd_ne (neT b o q)]; exact n) (fun b o hc q => ⟨o,keep b o (fun z => hc (by simp [z])) (fun z => hc (by simp [z])) q⟩) (fun b ys q => by rw [upd_ne (ne_of_none q hTn)]; exact q) (fun b o u q => by rw [upd_ne (ne_of_none q hTn)]; exact q)
        (fun b ps q => ⟨#[],by rw [upd_ne (ne_of_none q hTn),q]; simp⟩) (fun b _ o hc _ q => keep b o (fun z => hc (by simp [z])) (fun z => hc (by simp [z])) q) (fun m hm => ?_) (fun b o q => ?_) I.bare
      · rcases List.mem_cons.mp hb with rfl | hb
        · exact ⟨hE0.2.2.2.1,hE0.2.1,hE0.2.2.2.2.1,hE0.2.2.2.2.2⟩
        · have e2 : b = it := by simpa using hb
          subst e2
          exact ⟨hI0.2.2.2.1,hI0.2.1,hI0.2.2.2.2.1,hI0.2.2.2.2.2⟩
      · obtain ⟨o,es,ep,ho,r⟩:=hm
        exact ⟨o,es,ep,keep _ o (Ne.symm hE0.2.1) (Ne.symm hI0.2.1) ho,r⟩
      · by_cases hb : b = s.heap.objs.size
        · subst hb
          rw [upd_same] at q
          cases q
          exact ⟨sz2,[.int i tk,y],.cons ⟨tk,rfl⟩ (.cons ru .nil),_,hT'',rfl,_,rfl⟩
        · rw [upd_ne hb] at q
          refine (I.hok b o q).stay (fun c v hc r => keep c v ?_ ?_ r) (fun c r => by rw [upd_ne (ne_of_none r hTn)]; exact r) fun c ys r => by rw [upd_ne (ne_of_none r hTn)]; exact r
          · rcases hc with rfl | hc
            · exact (trk _ _ q).1
            · exact (trk _ _ hc).1
          · rcases hc with rfl | hc
            · exact (trk _ _ q).2
            · exact (trk _ _ hc).2
    · obtain ⟨⟨o,q,r⟩,_⟩:=hs'
      exact ⟨o,(sb.2 it (Ne.symm hne)).trans q,r⟩
    · rcases List.mem_cons.mp hb with rfl | hb
      · rw [upd_ne (Ne.symm hTe)]; exact hE0.1
      · have e2 : b = it := by simpa using hb
        subst e2
        rw [upd_ne (Ne.symm hTi)]; exact hI0.1
  done := by
    intro X hP hw hK hc i pins s σ H E I hf st hg
    subst hP hw hK
    obtain ⟨xs,hq,hx⟩:=hg
    obtain ⟨its,rv,pL,hz⟩:=I.list hq
    have p:=pL.isList
    obtain ⟨⟨old,he⟩,hit⟩:=st
    have hai : a≠it:=fun z => by
      obtain ⟨o,e1,c1,_⟩:=p
      obtain ⟨o2,e2,c2,_⟩:=hit
      rw [z,e2] at e1; cases e1
      rw [c1] at c2; exact absurd c2 (by decide)
    have hl : its.length = i := by rw [← rv.length]; exact hx
    subst hl
    obtain ⟨f0,f1,f2,f3,f4,f5⟩:=hf it (by simp)
    exact wpAny_pyNext_enum_endD (Draws.list (prog:=X.prog) (w:=X.w) (A:=X.A.in1) (I.ok.hd hc) it a hai its.toArray) he ⟨hit,p⟩ fun h' eb => ⟨rfl,I.turned (t':=s.toks) (fun b o hb q => eb b o hb q) f0 f1 f3 f4 f5⟩
  self:=fun _ _ _ _ _ st h => by
    obtain ⟨⟨old,he⟩,_⟩:=st
    exact wpAny_pyIter_enum he h
def iEnumL (K : PySem.W.Frag) (ta : TA) : TI:=fun σ H R => ta σ H fun vs H1 => ∃ a,vs = [.ref a]∧(∃ xs,SqL K H1 a xs)∧R (ItE K a) H1
theorem pi_enumL {X : Cx} {elts : List Expr} {x1} {tpos : Pos} {a : Expr} {ta : TA} {p pos : Pos} (hg : Gl X "enumerate") (hm : X.mg "enumerate" = none) (ha : PA X [a] ta) (hs : starEach [a] X.env = [(false,eval a X.env)] := by rfl) :
    PI X (.Tuple elts x1 tpos) (.Call (.Name "enumerate" p) [a] [] pos) (iEnumL X.K ta) := by
  intro pins s σ H R I h
  refine Call_ (ld_blt I hg hm boot_enumerate (PyProof.Rows.callWith_type1 (thn (ha pos pins s σ H _ I h) fun us s1 ⟨vs,H1,I1,r1,q1⟩ => ?_) hs rfl))
  obtain ⟨t,e,⟨xs,hq⟩,q⟩:=q1
  subst e
  cases r1 with
  | cons r rr =>
    cases rr
    cases r
    obtain ⟨its,rv,p',hz⟩:=I1.list hq
    refine call_enumerate_list (show s1.heap.IsList t its.toArray from p'.isList) fun h' he hit hsz hk => wpAny_pyIter_enum he ?_
    have I2 : Inv X pins σ H1 { s1 with heap:=h' }:=I1.kept (t':=s1.toks) hk
    have hn : s1.heap.objs.size + 1≠s1.heap.objs.size := by lia
    refine ⟨s1.heap.objs.size + 1,[s1.heap.objs.size + 1,s1.heap.objs.size],_,_,H1,rfl,I2,turn_enumL t _ _ hn,⟨⟨_,he⟩,hit⟩,fun b hb => ?_,q⟩
    have hb' : s1.heap.objs.size≤b := by
      have hb2 : b = s1.heap.objs.size + 1∨b = s1.heap.objs.size := by simpa using hb
      rcases hb2 with z | z
      · rw [z]; exact Nat.le_succ _
      · rw [z]; exact Nat.le_refl _
    exact I1.fpOk hb' (I1.hok.fresh hb')
theorem for_enumL {K : PySem.W.Frag} {a : Addr} {xs : List V} {g : TG} {tb : TS} {D : Ends} {σ : St} {H : Hp} (Pv : Nat→St→Hp→Prop) (h0 : Pv 0 σ H) (hl : ∀ i σ H,i≤xs.length→Pv i σ H→SqL K H a xs)
    (hs : ∀ i x σ H,xs[i]? = some x→Pv i σ H→∀ p,H p = none→g (.ref p) σ (upd H p (.tup [.int (i : Nat),x])) fun σ2 H2 => tb { D with nx:=Pv (i + 1),ct:=Pv (i + 1),bk:=D.nx } σ2 H2) (hd : ∀ σ H,Pv xs.length σ H→D.nx σ H) :
    ∃ W : Nat→Nat→St→Hp→Prop,(∃ m,W 0 m σ H)∧∀ i m σ H,W i m σ H →
      ((ItE K a).stop i H∧D.nx σ H)∨((ItE K a).go i H∧∃ N : St→Hp→Prop,(∀ σ' H',N σ' H'→∃ m',m' < m∧W (i + 1) m' σ' H')∧∀ x H',(ItE K a).yld i H x H'→g x σ H' fun σ2 H2 => tb { D with nx:=N,ct:=N,bk:=D.nx } σ2 H2) := by
  refine ⟨fun i m σ H => m = xs.length - i∧i≤xs.length∧Pv i σ H,⟨xs.length,by simp,Nat.zero_le _,h0⟩,?_⟩
  rintro i m σ H ⟨rfl,hi,p⟩
  have q:=hl i σ H hi p
  by_cases hlt : i < xs.length
  · refine .inr ⟨⟨xs,xs[i],q,by simp [hlt]⟩,Pv (i + 1),fun σ' H' p' => ⟨xs.length - (i + 1),by lia,rfl,hlt,p'⟩,fun x H' y => ?_⟩
    obtain ⟨pp,x',rfl,hn,rfl,y⟩:=y
    exact hs i x' σ _ (y xs q) p pp hn
  · have e : i = xs.length := by lia
    subst e
    exact .inl ⟨⟨xs,q,rfl⟩,hd σ H p⟩
section
variable {κ : Type} [DecidableEq κ]
def valV (kvs : List (κ×V)) (k : κ) : Option V:=(kvs.find? fun kv => decide (kv.1 = k)).map (·.2)
def putK (kvs : List (κ×V)) (k : κ) (v : V) : List (κ×V) :=
  if (kvs.any fun kv => decide (kv.1 = k)) = true then kvs.map (fun kv => if kv.1 = k then (kv.1,v) else kv) else kvs ++ [(k,v)]
theorem valV_pos {p : κ×V} {r : List (κ×V)} {k : κ} (e : p.1 = k) : valV (p :: r) k = some p.2 := by simp [valV,List.find?_cons,e]
theorem valV_neg {p : κ×V} {r : List (κ×V)} {k : κ} (e : ¬ p.1 = k) : valV (p :: r) k = valV r k := by simp [valV,List.find?_cons,e]
theorem valV_any (k : κ) : ∀ kvs : List (κ×V),(kvs.any fun kv => decide (kv.1 = k)) = (valV kvs k).isSome
  | [] => rfl
  | p :: r => by
    rw [List.any_cons]
    by_cases e : p.1 = k
    · simp only [valV_pos e,decide_eq_true e,Bool.true_or,Option.isSome_some]
    · rw [valV_neg e,decide_eq_false e,Bool.false_or]; exact valV_any k r
theorem valV_snoc (k j : κ) (y : V) : ∀ kvs : List (κ×V),valV kvs k = none→valV (kvs ++ [(k,y)]) j = if j = k then some y else valV kvs j
  | [],_ => by
    by_cases e : k = j
    · rw [if_pos e.symm]; exact valV_pos (p:=(k,y)) e
    · rw [if_neg (fun z => e z.symm)]; exact valV_neg (p:=(k,y)) e
  | p :: r,hn => by
    rw [List.cons_append]
    have hk : ¬ p.1 = k:=fun z => by rw [valV_pos z] at hn; cases hn
    rw [valV_neg hk] at hn
    have ih:=valV_snoc k j y r hn
    by_cases e : p.1 = j
    · rw [valV_pos e,valV_pos e,if_neg (fun z => hk (e.trans z))]
    · rw [valV_neg e,valV_neg e,ih]
theorem length_putK (kvs : List (κ×V)) (k : κ) (v : V) : (putK kvs k v).length≤kvs.length + 1 := by
  unfold putK
  split
  · rw [List.length_map]; lia
  · rw [List.length_append,List.length_cons,List.length_nil]; lia
theorem putK_new {kvs : List (κ×V)} {k : κ} (v : V) (h : valV kvs k = none) : putK kvs k v = kvs ++ [(k,v)] := by
  unfold putK
  rw [valV_any,h]
  exact if_neg (by decide)
theorem RelO.isSome_eq {o : Option V} {u : Option Value} (r : RelO o u) : o.isSome = u.isSome := by
  cases o with
  | none => cases u with
    | none => rfl
    | some _ => exact (show False from r).elim
  | some _ => cases u with
    | none => exact (show False from r).elim
    | some _ => rfl
theorem KV.val {kvs : List (κ×V)} {vs : List (κ×Value)} (r : KV kvs vs) (k : κ) : RelO (valV kvs k) (valueAt vs k) := by
  unfold KV at r
  induction r with
  | nil => exact True.intro
  | @cons p q ps qs h t ih =>
    obtain ⟨h1,h2⟩:=h
    by_cases e : p.1 = k
    · have e' : q.1 = k:=h1.symm.trans e
      have b : valueAt (q :: qs) k = some q.2 := by simp [valueAt,List.find?_cons,e']
      rw [valV_pos e,b]; exact h2
    · have e' : ¬ q.1 = k:=fun z => e (h1.trans z)
      have b : valueAt (q :: qs) k = valueAt qs k := by simp [valueAt,List.find?_cons,e']
      rw [valV_neg e,b]; exact ih
theorem KV.any {kvs : List (κ×V)} {vs : List (κ×Value)} (r : KV kvs vs) (k : κ) : (kvs.any fun kv => decide (kv.1 = k)) = vs.any fun kv => decide (kv.1 = k) := by
  unfold KV at r
  induction r with
  | nil => rfl
  | cons h t ih => rw [List.any_cons,List.any_cons,ih,h.1]
theorem KV.repl {kvs : List (κ×V)} {vs : List (κ×Value)} (r : KV kvs vs) (k : κ) {y : V} {u : Value} (ry : RelV y u) :
    KV (kvs.map fun kv => if kv.1 = k then (kv.1,y) else kv) (vs.map fun kv => if kv.1 = k then (kv.1,u) else kv) := by
  unfold KV at r ⊢
  induction r with
  | nil => exact .nil
  | @cons p q ps qs h t ih =>
    rw [List.map_cons,List.map_cons]
    refine .cons ?_ ih
    obtain ⟨h1,h2⟩:=h
    by_cases e : p.1 = k
    · rw [if_pos e,if_pos (h1.symm.trans e)]; exact ⟨h1,ry⟩
    · rw [if_neg e,if_neg (fun z => e (h1.trans z))]; exact ⟨h1,h2⟩
theorem KV.put {kvs : List (κ×V)} {vs : List (κ×Value)} (r : KV kvs vs) (k : κ) {y : V} {u : Value} (ry : RelV y u) : KV (putK kvs k y) (stored vs k u) := by
  unfold putK stored
  rw [r.any k]
  by_cases e : (vs.any fun kv => decide (kv.1 = k)) = true
  · rw [if_pos e,if_pos e]; exact r.repl k ry
  · rw [if_neg e,if_neg e]; exact Paired.snoc r ⟨rfl,ry⟩
theorem KV.length {kvs : List (κ×V)} {vs : List (κ×Value)} (r : KV kvs vs) : kvs.length = vs.length:=Paired.length r
end
theorem kV_is {P : Program} {w : World} {k : Key} {u : Value} (r : RelV (kV k) u) : (mixKind P w).is k u = true := by
  cases k with
  | inl i => obtain ⟨t,e⟩:=(show ∃ t,u = Value.int i t from r); subst e; exact mixKind_int P w i t
  | inr x => obtain ⟨t,e⟩:=(show ∃ t,u = Value.str x t from r); subst e; exact mixKind_str P w x t
theorem items_are {P : Program} {w : World} : ∀ {ks : List Key} {us : List Value},Vals (ks.map kV) us→ItemsAre (mixKind P w) ks us
  | [],_,r => by rw [List.map_nil] at r; cases r; exact .nil
  | k :: ks,_,r => by
    rw [List.map_cons] at r
    cases r with
    | cons h t => exact .cons (kV_is h) (items_are t)
abbrev KT (H : Hp) : List (List Key×V)→List (List Key×Addr×Value)→Prop:=Paired fun p q => p.1 = q.1∧H q.2.1 = some (.tup (p.1.map kV))∧RelV p.2 q.2.2
theorem KT.val {H : Hp} {kvs : List (List Key×V)} {xs : List (List Key×Addr×Value)} (r : KT H kvs xs) (k : List Key) : RelO (valV kvs k) ((atKey xs k).map (·.2)) := by
  induction r with
  | nil => exact True.intro
  | @cons p q ps qs h t ih =>
    obtain ⟨h1,_,h2⟩:=h
    by_cases e : p.1 = k
    · have e' : q.1 = k:=h1.symm.trans e
      have b : atKey (q :: qs) k = some q.2 := by simp [atKey,List.find?_cons,e']
      rw [valV_pos e,b]; exact h2
    · have e' : ¬ q.1 = k:=fun z => e (h1.trans z)
      have b : atKey (q :: qs) k = atKey qs k := by simp [atKey,List.find?_cons,e']
      rw [valV_neg e,b]; exact ih
theorem KT.repl {H : Hp} {kvs : List (List Key×V)} {xs : List (List Key×Addr×Value)} (r : KT H kvs xs) (k : List Key) {y : V} {u : Value} (ry : RelV y u) :
    KT H (kvs.map fun kv => if kv.1 = k then (kv.1,y) else kv) (xs.map (putAt k u)) := by
  induction r with
  | nil => exact .nil
  | @cons p q ps qs h t ih =>
    rw [List.map_cons,List.map_cons]
    refine .cons ?_ ih
    obtain ⟨h1,h2,h3⟩:=h
    unfold putAt
    by_cases e : p.1 = k
    · rw [if_pos e,if_pos (h1.symm.trans e)]; exact ⟨h1,h2,ry⟩
    · rw [if_neg e,if_neg (fun z => e (h1.trans z))]; exact ⟨h1,h2,h3⟩
theorem KT.put {H : Hp} {kvs : List (List Key×V)} {xs : List (List Key×Addr×Value)} (r : KT H kvs xs) (k : List Key) {b : Addr} {y : V} {u : Value} (hb : H b = some (.tup (k.map kV))) (ry : RelV y u) :
    KT H (putK kvs k y) (storedH xs k b u) := by
  have e : (kvs.any fun kv => decide (kv.1 = k)) = (atKey xs k).isSome := by
    rw [valV_any,(r.val k).isSome_eq,Option.isSome_map]
  unfold putK storedH
  rw [e]
  by_cases q : (atKey xs k).isSome = true
  · rw [if_pos q,if_pos q]; exact r.repl k ry
  · rw [if_neg q,if_neg q]; exact Paired.snoc r ⟨rfl,hb,ry⟩
theorem KT.keeps {H H' : Hp} {kvs : List (List Key×V)} {xs : List (List Key×Addr×Value)} (r : KT H kvs xs) (ht : ∀ b ys,H b = some (.tup ys)→H' b = some (.tup ys)) : KT H' kvs xs :=
  Paired.mapP r fun _ _ z => ⟨z.1,ht _ _ z.2.1,z.2.2⟩
section
variable {P : Program} {w : World} {H : Hp} {h : Heap} {a : Addr}
theorem rd_of {u : HO} (ok : HOk P w H h) (e : Rd H a u) : ObjOk P w H h a u:=e.ok ok
theorem dk_rd {kvs : List (Key×V)} (ok : HOk P w H h) (e : Rd H a (.dK kvs)) : kvs.length≤sizeLine∧(a == sysModules) = false∧∃ vs,KV kvs vs∧h.DictOf (mixKind P w) a vs :=
  show ObjOk P w H h a (.dK kvs) from rd_of ok e
theorem dk_of {kvs : List (Key×V)} (ok : HOk P w H h) (e : H a = some (.dK kvs)) : kvs.length≤sizeLine∧(a == sysModules) = false∧∃ vs,KV kvs vs∧h.DictOf (mixKind P w) a vs:=dk_rd ok (.inl e)
theorem key_of {ks : List Key} (ok : HOk P w H h) (e : H a = some (.tup (ks.map kV))) : (tupleKind (mixKind P w)).is h ks a := by
  obtain ⟨_,its,r,o,h1,h2,n,h3⟩:=(show ObjOk P w H h a (.tup (ks.map kV)) from ok a _ e)
  exact ⟨o,its.toArray,n,h1,h2,h3,by simpa using items_are r⟩
theorem dt_rd {kvs : List (List Key×V)} (ok : HOk P w H h) (e : Rd H a (.dT kvs)) : kvs.length≤sizeLine∧(a == sysModules) = false ∧
    ∃ xs,KT H kvs xs∧h.DictOfH (tupleKind (mixKind P w)) a xs := by
  obtain ⟨z,y,xs,r,o,es,ep,h1,h2,h3,h4,h5⟩:=(show ObjOk P w H h a (.dT kvs) from rd_of ok e)
  refine ⟨z,y,xs,r,o,es,ep,h1,h2,h3,h4,fun x hx => ?_,h5⟩
  have all : ∀ {l : List (List Key×V)} {m : List (List Key×Addr×Value)},KT H l m→∀ x∈m,(tupleKind (mixKind P w)).is h x.1 x.2.1 := by
    intro l m q
    induction q with
    | nil => intro x hx; exact nomatch hx
    | @cons p q ps qs hq t ih =>
      intro x hx
      rcases List.mem_cons.mp hx with e | hx
      · subst e
        exact key_of ok (by rw [← hq.1]; exact hq.2.1)
      · exact ih x hx
  exact all r x hx
theorem dt_of {kvs : List (List Key×V)} (ok : HOk P w H h) (e : H a = some (.dT kvs)) : kvs.length≤sizeLine∧(a == sysModules) = false ∧
    ∃ xs,KT H kvs xs∧h.DictOfH (tupleKind (mixKind P w)) a xs:=dt_rd ok (.inl e)
end
def DGet (H : Hp) (a : Addr) (y : V) (r : Option V) : Prop :=
  (∃ kvs k,Rd H a (.dK kvs)∧y = kV k∧r = valV kvs k)∨∃ kvs k b,Rd H a (.dT kvs)∧y = .ref b∧H b = some (.tup (k.map kV))∧r = valV kvs k
def DPut (H : Hp) (a : Addr) (y v : V) (H' : Hp) : Prop :=
  (∃ kvs k,H a = some (.dK kvs)∧y = kV k∧kvs.length < sizeLine∧H' = upd H a (.dK (putK kvs k v))) ∨
  ∃ kvs k b,H a = some (.dT kvs)∧y = .ref b∧H b = some (.tup (k.map kV))∧kvs.length < sizeLine∧H' = upd H a (.dT (putK kvs k v))
theorem DGet.t {H : Hp} {a b : Addr} {kvs : List (List Key×V)} {k : List Key} (e : H a = some (.dT kvs)) (eb : H b = some (.tup (k.map kV))) : DGet H a (.ref b) (valV kvs k):=.inr ⟨kvs,k,b,.inl e,rfl,eb,rfl⟩
theorem DPut.t {H : Hp} {a b : Addr} {kvs : List (List Key×V)} {k : List Key} {v : V} (e : H a = some (.dT kvs)) (eb : H b = some (.tup (k.map kV))) (hl : kvs.length < sizeLine) :
    DPut H a (.ref b) v (upd H a (.dT (putK kvs k v))):=.inr ⟨kvs,k,b,e,rfl,eb,hl,rfl⟩
section
variable {X : Cx} {pins : List (Addr×Obj)} {σ : St} {H : Hp} {s : Shared} {a : Addr} {y v : V} {u r : Value} {o : Option V} {A : Around} {E : Value→Shared→Prop}
theorem Inv.big (I : Inv X pins σ H s) : sysModules < s.heap.objs.size := by
  have h : mainGlobals < s.heap.objs.size:=(I.mod.glob.keeps I.bk).lt
  exact Nat.lt_trans (by decide) h
theorem d_getItem {Q : Value→Shared→Prop} (hu : A.units + 1 < cLine) (I : Inv X pins σ H s) (g : DGet H a y (some v)) (ry : RelV y u) (h : ∀ w' s',Inv X pins σ H s'→RelV v w'→Q w' s') :
    wpAny (model X.prog X.w) A (getItem (.ref a) u) Q E s := by
  rcases g with ⟨kvs,k,e,ey,l⟩ | ⟨kvs,k,b,e,ey,eb,l⟩
  · subst ey
    obtain ⟨z,hd,vs,rel,dd⟩:=dk_rd I.hok e
    obtain ⟨w',hw,rw'⟩:=RelO.some_of (v:=v) (o:=valueAt vs k) (by rw [l]; exact rel.val k)
    exact wpAny_getItem_of (kV_is ry) dd.mapOf hw (h w' _ (I.tok _) rw')
  · subst ey
    cases (show u = Value.ref b from ry)
    obtain ⟨z,hd,xs,rel,dd⟩:=dt_rd I.hok e
    obtain ⟨w',hw,rw'⟩:=RelO.some_of (v:=v) (o:=(atKey xs k).map (·.2)) (by rw [l]; exact rel.val k)
    obtain ⟨p,hp,hp2⟩:=Option.map_eq_some_iff.mp hw
    refine wpAny_getItem_heap (tupleKind_room_in1 hu) (key_of I.hok eb) dd hp ?_
    rw [hp2]
    exact h w' _ (I.tok _) rw'
theorem d_notIn {Q : Value→Shared→Prop} (hu : A.units + 1 < cLine) (I : Inv X pins σ H s) (g : DGet H a y o) (ry : RelV y u) (h : ∀ s',Inv X pins σ H s'→Q (.bool (!o.isSome)) s') :
    wpAny (model X.prog X.w) A (compareOp .NotIn u (.ref a)) Q E s := by
  rcases g with ⟨kvs,k,e,ey,l⟩ | ⟨kvs,k,b,e,ey,eb,l⟩
  · subst ey
    obtain ⟨z,hd,vs,rel,dd⟩:=dk_rd I.hok e
    refine wpAny_notIn_of (kV_is ry) hd dd.mapOf ?_
    rw [← (rel.val k).isSome_eq,← l]
    exact h _ (I.tok _)
  · subst ey
    cases (show u = Value.ref b from ry)
    obtain ⟨z,hd,xs,rel,dd⟩:=dt_rd I.hok e
    refine wpAny_notIn_heap (tupleKind_room_in1 hu) (key_of I.hok eb) hd dd ?_
    have q:=(rel.val k).isSome_eq
    rw [Option.isSome_map] at q
    rw [← q,← l]
    exact h _ (I.tok _)
theorem d_write {h' : Heap} {t' : Nat} {ob : HO} (I : Inv X pins σ H s) (mu : Mut (H a)) (hs : Heap.SameBut a s.heap h') (he : ∃ q,h'.get? a = some q) (new : ObjOk X.prog X.w (upd H a ob) h' a ob) :
    Inv X pins σ (upd H a ob) { s with heap:=h',toks:=t' } :=
  I.write (x:=a) (e:=a) mu (.inl rfl) (fun b q hb z => (hs.2 b hb).trans z) he new
theorem dk_new {P : Program} {w : World} {H' : Hp} {h' : Heap} {kvs : List (Key×V)} {vs : List (Key×Value)} (z : kvs.length≤sizeLine) (hd : (a == sysModules) = false) (rel : KV kvs vs) (dd : h'.DictOf (mixKind P w) a vs) :
    ObjOk P w H' h' a (.dK kvs):=⟨z,hd,vs,rel,dd⟩
theorem d_setItem {H' : Hp} {Q : Unit→Shared→Prop} (hu : A.units + 1 < cLine) (I : Inv X pins σ H s) (g : DPut H a y v H') (ry : RelV y u) (rv : RelV v r) (h : ∀ s',Inv X pins σ H' s'→Q () s') :
    wpAny (model X.prog X.w) A (setItem (.ref a) u r) Q E s := by
  rcases g with ⟨kvs,k,e,ey,l,eH⟩ | ⟨kvs,k,b,e,ey,eb,l,eH⟩
  · subst ey eH
    obtain ⟨z,hd,vs,rel,dd⟩:=dk_of I.hok e
    have hz : vs.length≤sizeLine := by rw [← rel.length]; exact z
    have hl : (putK kvs k v).length≤sizeLine := by have:=length_putK kvs k v; lia
    refine wpAny_setItem_pairs (hsz:=hz) (kV_is ry) dd fun h' dd' hs => h _ ?_
    have he : ∃ q,h'.get? a = some q:=let ⟨q,_,_,hq,_⟩:=dd'; ⟨q,hq⟩
    exact d_write I (by rw [e]; exact True.intro) hs he (dk_new hl hd (rel.put k rv) dd')
  · subst ey eH
    cases (show u = Value.ref b from ry)
    obtain ⟨z,hd,xs,rel,dd⟩:=dt_of I.hok e
    have hz : xs.length≤sizeLine := by rw [← Paired.length rel]; exact z
    have hl : (putK kvs k v).length≤sizeLine := by have:=length_putK kvs k v; lia
    refine wpAny_setItem_heap (hsz:=hz) (tupleKind_room_in1 hu) (key_of I.hok eb) dd fun h' dd' hs => h _ ?_
    obtain ⟨q,es,ep,hq,h2,h3,h4,_,h5⟩:=dd'
    refine d_write I (by rw [e]; exact True.intro) hs ⟨q,hq⟩ ⟨hl,hd,_,(rel.put k eb rv).keeps fun c ys ec => ?_,q,es,ep,hq,h2,h3,h4,h5⟩
    rw [upd_ne (ne_of ec e (fun z => nomatch z))]
    exact ec
end
def NoSl (i : Expr) : Prop:=∀ ov iv,subscripted i false ov iv = operate [ov,iv] (getItem ov iv)
theorem subD_of {prog : Program} {w : World} {A : Around} {E : Value→Shared→Prop} {s : Shared} {env : Env} {value slice : Expr} {pos : Pos} {T id : String} {Q : Value→Shared→Prop}
    (hl : typeLookup (.type T) "__getitem__" = pure (some (.builtin id))) (hs : NoSl slice)
    (h : wpAny (model prog w) A (eval value env) (fun o s₁ => wpAny (model prog w) A (eval slice env) (fun i s₂ => s₂.TypeIs o T∧wpAny (model prog w) A (getItem o i) Q E s₂) E s₁) E s) :
    wpAny (model prog w) A (eval (.Subscript value slice pos) env) Q E s := by
  refine Subscript_ (wpAny_mono h (fun o s₁ h₁ => wpAny_mono h₁ (fun i s₂ h₂ => ?_) fun _ _ x => x) fun _ _ x => x)
  obtain ⟨hT,h₂⟩:=h₂
  unfold subscriptTail
  refine wpAny_bind ?_
  rw [getitemInPython_of_ne hT.not_modules]
  refine wpAny_bind (wpAny_specialOf hT hl ?_)
  have fin : wpAny (model prog w) A (subscripted slice false o i) (fun r s₃ => wpAny (model prog w) A (letTemporaryGo value o r >>= fun _ => pure r) Q E s₃) E s₂ := by
    rw [hs o i]
    exact wpAny_operating (wpAny_mono h₂ (fun r s₃ h₃ => wpAny_bind (wpAny_letTemporaryGo (wpAny_pure h₃))) fun _ _ x => x)
  first
    | exact wpAny_pure (wpAny_bind fin)
    | exact wpAny_bind (wpAny_pure (wpAny_bind fin))
    | exact wpAny_bind fin
theorem dict_typeIs {X : Cx} {pins : List (Addr×Obj)} {σ : St} {H : Hp} {s : Shared} {a : Addr} {y : V} {o : Option V} (I : Inv X pins σ H s) (g : DGet H a y o) : s.TypeIs (.ref a) "dict" := by
  rcases g with ⟨kvs,k,e,_,_⟩ | ⟨kvs,k,b,e,_,_,_⟩
  · obtain ⟨_,_,vs,_,dd⟩:=dk_rd I.hok e
    exact dd.typeIs
  · obtain ⟨_,_,xs,_,dd⟩:=dt_rd I.hok e
    exact dd.typeIs
def tDGet (td ty : TE) : TE:=fun σ H Q => td σ H fun x H1 => ty σ H1 fun y H2 => ∃ a v,x = .ref a∧DGet H2 a y (some v)∧Q v H2
def tDNotIn (ty td : TE) : TE:=fun σ H Q => ty σ H fun y H1 => td σ H1 fun x H2 => ∃ a o,x = .ref a∧DGet H2 a y o∧Q (.bl (!o.isSome)) H2
def sDPut (td ty tv : TE) : TS:=fun D σ H => tv σ H fun v H1 => td σ H1 fun x H2 => ty σ H2 fun y H3 => ∃ a H4,x = .ref a∧DPut H3 a y v H4∧D.nx σ H4
section
variable {X : Cx} {o i value : Expr} {pos pos' : Pos} {td ty tv : TE}
theorem pe_dget (hu : X.A.units + 1 < cLine) (ho : PE X o td) (hi : PE X i ty) (hs : NoSl i) : PE X (.Subscript o i pos) (tDGet td ty) := by
  intro pins s σ H Q I h
  refine subD_of PySem.F.slot_dict_getitem.lookup hs (thn (ho pins s σ H _ I h) fun u s1 ⟨x,H1,I1,rx,q1⟩ => thn (hi pins s1 σ H1 _ I1 q1) fun iv s2 ⟨y,H2,I2,ry,a,v,ex,g,q2⟩ => ?_)
  subst ex
  obtain rfl : u = Value.ref a:=rx
  exact ⟨dict_typeIs I2 g,d_getItem hu I2 g ry fun w' s3 I3 rw' => ⟨v,H2,I3,rw',q2⟩⟩
theorem pc_dnotin (hu : X.A.units + 1 < cLine) (hi : PE X i ty) (ho : PE X o td) : PC X .NotIn i o (tDNotIn ty td) := by
  intro pins s σ H Q I h
  refine thn (hi pins s σ H _ I h) fun iv s1 ⟨y,H1,I1,ry,q1⟩ => thn (ho pins s1 σ H1 _ I1 q1) fun u s2 ⟨x,H2,I2,rx,a,ov,ex,g,q2⟩ => ?_
  subst ex
  obtain rfl : u = Value.ref a:=rx
  exact d_notIn hu I2 g ry fun s3 I3 => ⟨.bl (!ov.isSome),H2,I3,rfl,q2⟩
theorem ps_dput (hu : X.A.units + 1 < cLine) (ho : PE X o td) (hi : PE X i ty) (hv : PE X value tv) (hs : swapsWith value (some (.Subscript o i pos')) pos.line X.env = pure false) :
    PS X (.Assign [.Subscript o i pos'] value pos) (sDPut td ty tv) := by
  intro pins s σ H D I h
  refine wpAny_Assign_Subscript (thn (hv pins s σ H _ I h) fun r s1 ⟨v,H1,I1,rv,q1⟩ => thn (ho pins s1 σ H1 _ I1 q1) fun u s2 ⟨x,H2,I2,rx,q2⟩ => thn (hi pins s2 σ H2 _ I2 q2) fun iv s3 ⟨y,H3,I3,ry,a,H4,ex,g,q3⟩ => ?_) hs
  subst ex
  obtain rfl : u = Value.ref a:=rx
  exact d_setItem hu I3 g ry rv fun s4 I4 => ⟨σ,H4,I4,q3⟩
end
theorem dt_empty {P : Program} {w : World} {H : Hp} (h : Heap) (hb : sysModules < h.objs.size) : ObjOk P w H (h.push { cls:=.type "dict",data:=.dict #[] }) h.objs.size (.dT []) :=
  ⟨Nat.zero_le _,beq_eq_false_iff_ne.mpr (Ne.symm (Nat.ne_of_lt hb)),[],.nil,_,#[],0,Heap.get?_push_size _ rfl,⟨rfl,rfl,rfl⟩,rfl,rfl,List.nodup_nil⟩
def tDNewT : TE:=fun _ H Q => ∀ p,H p = none→Q (.ref p) (upd H p (.dT []))
section
variable {X : Cx} {pos : Pos}
theorem pe_dnewT : PE X (.Dict [] [] pos) tDNewT:=fun pins s σ H Q I h =>
  wpAny_Dict_empty ⟨.ref s.heap.objs.size,_,I.laid (a:=s.heap.objs.size) (o:=.dT []) (t':=s.toks) (fun _ _ q => Heap.get?_push_of_some _ q) (Nat.le_refl _) (dt_empty s.heap I.big),rfl,h _ (I.hok.fresh (Nat.le_refl _))⟩
end
end L2
namespace IT
open PySem PySem.W PyProof.Rows PySem.SeqAt
def lt : List Int→List Int→Bool
  | [],[] => false
  | [],_ :: _ => true
  | _ :: _,[] => false
  | a :: r,b :: q => if a = b then lt r q else decide (a < b)
def Is : List Int→List Value→Prop
  | [],us => us = []
  | k :: r,us => ∃ t rest,us = .int k t :: rest∧Is r rest
theorem Is.length : ∀ {ks : List Int} {us : List Value},Is ks us→us.length = ks.length
  | [],us,h => by rw [Is] at h; subst h; rfl
  | k :: r,us,h => by
    rw [Is] at h
    obtain ⟨t,rest,rfl,h⟩:=h
    rw [List.length_cons,List.length_cons,Is.length h]
end IT
namespace L2
open PySem PySem.Spec PyProof.Rows
theorem Inv.many {X : Cx} {pins : List (Addr×Obj)} {σ : St} {H H' : Hp} {s : Shared} {h' : Heap} {t' : Nat} (I : Inv X pins σ H s) (k : ∀ b u,s.heap.get? b = some u→h'.get? b = some u) (hH : ∀ b,b < s.heap.objs.size→H' b = H b) (hok : HOk X.prog X.w H' h') :
    Inv X pins σ H' { s with heap:=h',toks:=t' } := by
  have lt : ∀ b o,H b = some o→b < s.heap.objs.size:=fun b o e => (I.hok b o e).lt
  have up : ∀ b o,H b = some o→H' b = some o:=fun b o e => by rw [hH b (lt b o e)]; exact e
  show Inv X pins σ H' { s with heap:=h',gens:=s.gens,drawn:=s.drawn,toks:=t' }
  refine I.step (h':=h') (ch:=[]) (fun b hb => nomatch hb) (fun b o _ _ _ e _ => k b o e) (fun b o _ _ _ e _ => ⟨o.slots,k b o e⟩) (fun b o _ e n => by rw [hH b (Heap.lt_size e)]; exact n) (fun b o _ e => ⟨o,k b o e⟩)
    (fun b xs e => up b _ e) (fun b o u e => up b _ e) (fun b ps e => ⟨#[],by rw [up b _ e]; simp⟩) (fun b _ o _ _ e => k b o e) (fun m hm => ?_) hok I.bare
  obtain ⟨o,es,ep,ho,r⟩:=hm
  exact ⟨o,es,ep,k _ o ho,r⟩
theorem is_of : ∀ {ps : List Int} {us : List Value},Vals (ps.map V.int) us→IT.Is ps us
  | [],_,r => by rw [List.map_nil] at r; cases r; rw [IT.Is]
  | p :: ps,_,r => by
    rw [List.map_cons] at r
    cases r with
    | cons h t =>
      obtain ⟨tk,rfl⟩:=h
      rw [IT.Is]
      exact ⟨tk,_,rfl,is_of t⟩
theorem map_kV (ps : List Int) : (ps.map (Sum.inl : Int→Key)).map kV = ps.map V.int := by rw [List.map_map]; rfl
theorem paired_at {α β : Type} {F : α→β→Prop} : ∀ {xs : List α} {ys : List β} {j : Nat} {x : α} {y : β},Paired F xs ys→xs[j]? = some x→ys[j]? = some y→F x y
  | _,_,j,x,y,.nil,h,_ => by simp at h
  | _,_,0,x,y,.cons f _,h,k => by simp at h k; subst h k; exact f
  | _,_,j + 1,x,y,.cons _ r,h,k => paired_at r (by simpa using h) (by simpa using k)
theorem refs_vals : ∀ as : List Addr,Vals (as.map V.ref) (as.map Value.ref)
  | [] => .nil
  | a :: as => .cons rfl (refs_vals as)
end L2
namespace IT
open PySem PySem.W PyProof.Rows PySem.SeqAt
section
open PySem.AutoSeq1 (wpAny_loadPart')
open PySem.MeetsSeq PySem.MeetsSeq2 PySem.MeetsSeq3
theorem tuple_ge (l b : Addr) (items items2 : Array Value) (n n2 : Nat) (dd dd2 : Option Addr) (sl sl2 : Array (Option Value)) (t u : List Int) :
    Meets (Builtin.«tuple.__ge__» ⟨[.ref l,.ref b],[]⟩)
      (fun A R s => s.heap.get? l = some { cls:=.type "tuple",dict:=dd,data:=.seq items n,slots:=sl }∧s.heap.get? b = some { cls:=.type "tuple",dict:=dd2,data:=.seq items2 n2,slots:=sl2 } ∧
        Is t items.toList∧Is u items2.toList∧A.units < cLine∧R (.ok (.ret (.bool (!lt t u)))) s) :=
  .of_wp fun prog w A R s h => by
    obtain ⟨hp,g,d,tk,os⟩:=s; obtain ⟨hl,hb,hi,hj,hun,h⟩:=h
    have f2:=AutoSeq1.sub_tuple_tuple
    have z1 : items.size = t.length := by rw [← Is.length hi]; simp
    have z2 : items2.size = u.length := by rw [← Is.length hj]; simp
    wp_walk using wpAny_loadPart' hl,wpAny_loadPart' hb,wpAny_forIn_list _ (fun rest b s' => b.1 = none∧s' = ⟨hp,g,d,tk,os⟩∧∃ (vs ws : List Value) (t' u' : List Int),rest = vs.zip ws ∧
      Is t' vs∧Is u' ws∧t'.length + items2.size = u'.length + items.size∧R (.ok (.ret (.bool (!lt t' u')))) ⟨hp,g,d,tk,os⟩) _
    case turn =>
      rintro ⟨y,x⟩ rest b s' ⟨hb',rfl,vs,ws,t',u',hz,hvi,hwi,hlen,hR⟩
      cases t' with
      | nil => rw [Is] at hvi; subst hvi; rw [List.zip_nil_left] at hz; cases hz
      | cons bt rt =>
        cases u' with
        | nil => rw [Is] at hwi; subst hwi; rw [List.zip_nil_right] at hz; cases hz
        | cons bu ru =>
          rw [Is] at hvi hwi
          obtain ⟨a1,v1,rfl,p3⟩:=hvi
          obtain ⟨a2,v2,rfl,q3⟩:=hwi
          rw [List.zip_cons_cons] at hz
          injection hz with hyx hrest
          injection hyx with hy hx
          subst hy hx
          rw [lt] at hR
          simp only [List.length_cons] at hlen
          have he:=EqAt.int_int (A:=A.in1) (s:=⟨hp,g,d,tk,os⟩) bt a1 bu a2
          refine wpAny_bind (he prog w _ _ ?_)
          by_cases hc : bt = bu
          · rw [if_pos hc] at hR
            rw [beq_iff_eq.mpr hc]
            wp_walk
            exact ⟨rfl,rfl,_,_,_,_,hrest,p3,q3,by lia,hR⟩
          · rw [if_neg hc] at hR
            rw [beq_eq_false_iff_ne.mpr hc]
            have hri : ∀ (E : Value→Shared→Prop) (Q : Value→Shared→Prop),Q (.bool (decide (bu≤bt))) ⟨hp,g,d,tk,os⟩→wpAny (model prog w) A.in1 (richCompare .GtE (.int bt a1) (.int bu a2)) Q E ⟨hp,g,d,tk,os⟩:=fun E Q h => PyProof.Rows.ge_int h
            have e : (!decide (bt < bu)) = decide (bu≤bt) := by rw [Bool.eq_iff_iff]; simp
            rw [e] at hR
            wp_walk using hri
            exact ⟨_,rfl,by simpa using hR⟩
    case fin =>
      rintro ⟨b1,b2⟩ s' ⟨hb',rfl,vs,ws,t',u',hz,hvi,hwi,hlen,hR⟩
      simp only at hb'
      subst hb'
      have hv : lt t' u' = decide (items.size < items2.size) := by
        cases t' with
        | nil =>
          cases u' with
          | nil =>
            simp only [List.length_nil] at hlen
            exact (decide_eq_false (by lia)).symm
          | cons c q =>
            simp only [List.length_cons,List.length_nil] at hlen
            exact (decide_eq_true (by lia)).symm
        | cons bt rt =>
          cases u' with
          | nil =>
            simp only [List.length_cons,List.length_nil] at hlen
            exact (decide_eq_false (by lia)).symm
          | cons c q =>
            rw [Is] at hvi hwi
            obtain ⟨_,_,rfl,_⟩:=hvi
            obtain ⟨_,_,rfl,_⟩:=hwi
            rw [List.zip_cons_cons] at hz
            cases hz
      have e : (!decide (items.size < items2.size)) = decide (items2.size≤items.size) := by rw [Bool.eq_iff_iff]; simp
      rw [hv,e] at hR
      wp_walk
      exact ⟨_,rfl,by simpa [Builtin.Tuple.tupleCompareSizes] using hR⟩
    case h =>
      exact ⟨rfl,rfl,items.toList,items2.toList,t,u,rfl,hi,hj,by lia,h⟩
end
section
open PySem.MeetsSeq PySem.MeetsSeq2 PySem.MeetsSeq3
variable {prog : Program} {w : World} {A : Around} {E : Value→Shared→Prop} {s : Shared} {t u : List Int} {a b : Addr} {its its' : List Value}
theorem rc_ge {Q : Value→Shared→Prop} (h1 : s.heap.IsTuple a its.toArray) (k1 : Is t its) (h2 : s.heap.IsTuple b its'.toArray) (k2 : Is u its') (hu : A.units + 1 < cLine) (h : Q (.bool (!lt t u)) s) : wpAny (model prog w) A (richCompare .GtE (.ref a) (.ref b)) Q E s := by
  obtain ⟨⟨cls,dd,data,sl⟩,ho,hc,n,hdt⟩:=id h1
  obtain ⟨⟨cls2,dd2,data2,sl2⟩,ho2,hc2,n2,hdt2⟩:=id h2
  simp only at hc hdt hc2 hdt2
  subst hc hdt hc2 hdt2
  exact richCompare_meets_room (op:=.GtE) ⟨_,ho,rfl⟩ ⟨_,ho2,rfl⟩ PySem.F.slot_tuple_ge PySem.F.entry_tuple_ge (PySem.F.args_tuple_ge_2 _ _) (tuple_ge a b its.toArray its'.toArray n n2 dd dd2 sl sl2 t u)
    ⟨ho,ho2,by simpa using k1,by simpa using k2,by lia,show Value.bool (!lt t u)≠Value.notImplemented∧Q (.bool (!lt t u)) s from ⟨(fun x => nomatch x),h⟩⟩ (by lia)
end
end IT
namespace L2
open PySem PySem.Spec PyProof.Rows
theorem op_geT {X : Cx} (hu : X.A.units + 64 < cLine) : OpR X (compareOp .GtE) (fun x y H Q => ∃ (a b : Addr) (ps qs : List Int),x = .ref a∧y = .ref b∧H a = some (.tup (ps.map V.int))∧H b = some (.tup (qs.map V.int))∧Q (.bl (!IT.lt ps qs)) H) := by
  intro pins s σ H x y v u' Q I rx ry h
  obtain ⟨a,b,ps,qs,rfl,rfl,ha,hb,q⟩:=h
  cases rx
  cases ry
  obtain ⟨i1,v1,p1,_⟩:=I.tuple (SqT.of (K:=X.K) ha)
  obtain ⟨i2,v2,p2,_⟩:=I.tuple (SqT.of (K:=X.K) hb)
  exact IT.rc_ge p1 (is_of v1) p2 (is_of v2) (by lia) ⟨.bl _,H,I,rfl,q⟩
end L2
namespace TH
open PySem PyProof.Rows PySem.SeqAt
def hashL : Tr→List Int
  | .nil => []
  | .cons b r => reduceHash (Builtin.Tuple.tupleHashOf (hashL b)) :: hashL r
def hashT (t : Tr) : Int:=reduceHash (Builtin.Tuple.tupleHashOf (hashL t))
end TH
namespace TH
open PySem PyProof.Rows PySem.SeqAt
section
variable              {h : Int}
theorem size_small {n : Nat} (h : n≤100000) : n≤sizeLine:=Nat.le_trans h (by rw [sizeLine_eq]; decide)
end
end TH
namespace TH
open PySem PyProof.Rows PySem.SeqAt
section
variable {prog : Program} {w : World} {A : Around} {E : Value→Shared→Prop} {s : Shared}
theorem gather {T : String} {r d : Addr} {n : Nat} {P : Nat→Value→Prop} {OK : Heap→Prop} {R : List Value→Shared→Prop} (K : PySem.W.KdlSrc prog w T r d n P OK) (hA : A.handled = none) (hok : OK s.heap) (hn : n≤sizeLine)
    (k : ∀ (h1 : Heap) (tk : Nat) (acc : Array Value),s.heap.objs.size < h1.objs.size→(∀ b u,s.heap.get? b = some u→h1.get? b = some u)→ItemsOf P acc n→R acc.toList { s with heap:=h1,toks:=tk }) :
    wpAny (model prog w) A (collect (.ref r)) R E s := by
  obtain ⟨lr,ld⟩:=K.there _ hok
  unfold collect
  refine wpAny_bind (wpAny_runValue (codeAny_builtin entry_proto_collect' ?_))
  rw [Around.under_plainId PySem.F.plain_proto_collect _]
  show wpAny _ A.in1 (newList [] >>= fun v => again (.builtin "list.__iadd__" ⟨[v,.ref r],[]⟩)) _ _ s
  refine wpAny_bind (wpAny_newObj_type (wpAny_pure ⟨plainId_quiet PySem.F.plain_list_iadd _,codeAny_builtin entry_list_iadd' ?_⟩))
  rw [Around.under_plainId PySem.F.plain_list_iadd _]
  have g0 : (s.heap.push { cls:=.type "list",data:=.seq ([] : List Value).toArray }).get? s.heap.objs.size = some { cls:=.type "list",data:=.seq #[] }:=Heap.get?_push_size _ rfl
  have main:=PySem.W.kdl_extend (A:=A) (s:={ s with heap:=s.heap.push { cls:=.type "list",data:=.seq ([] : List Value).toArray } }) K hA
    (K.keep _ _ hok fun _ _ _ e => Heap.get?_push_of_some _ e) s.heap.objs.size (Nat.ne_of_gt lr) (Nat.ne_of_gt ld) (.ref s.heap.objs.size) 0 g0
    (R:=fun q s1 => ∃ h1 tk acc c,q = .ok (.ret (.ref s.heap.objs.size))∧s1 = { s with heap:=h1,toks:=tk }∧(∀ b u,s.heap.get? b = some u→h1.get? b = some u)∧h1.get? s.heap.objs.size = some { cls:=.type "list",dict:=none,data:=.seq acc c,slots:=#[] }∧ItemsOf P acc n)
    (fun h1 tk acc c k1 g1 ha => ⟨h1,tk,acc,c,rfl,rfl,fun b u e => k1 b u (Nat.ne_of_lt (Heap.lt_size e)) (Heap.get?_push_of_some _ e),g1,ha⟩) hn
  refine wpAny_mono main (fun fin s1 x => ?_) fun e s1 x => ?_
  · cases fin with
    | done f =>
      obtain ⟨h1,tk,acc,c,e,rfl,k1,g1,ha⟩:=x
      cases e
      show wpAny _ A (load s.heap.objs.size >>= _) _ _ _
      exact wpAny_bind (wpAny_load g1 (wpAny_pure (k h1 tk acc (Heap.lt_size g1) k1 ha)))
    | again c1 =>
      refine ⟨x.1,codeAny_mono x.2 fun q s2 y => ?_⟩
      obtain ⟨h1,tk,acc,c,rfl,rfl,k1,g1,ha⟩:=y
      show wpAny _ A (load s.heap.objs.size >>= _) _ _ _
      exact wpAny_bind (wpAny_load g1 (wpAny_pure (k h1 tk acc (Heap.lt_size g1) k1 ha)))
  · obtain ⟨_,_,_,_,z,_⟩:=x
    cases z
end
end TH
namespace TH
open PySem PyProof.Rows
def kHash : Option Tr→Int
  | none => 4238894112
  | some t => hashT t
abbrev KE:=Option Tr×Value×Value
def entN (x : KE) : DictEntry:=⟨kHash x.1,x.2.1,x.2.2⟩
end TH
namespace L2
open PySem PySem.Spec PyProof.Rows
abbrev KR:=Option Tr×V×V
def KRel (q : KR) (x : TH.KE) : Prop:=x.1 = q.1∧RelV q.2.1 x.2.1∧RelV q.2.2 x.2.2
def dN (d : Addr) (r : List KR) : HO:=.ext fun h => (d == sysModules) = false∧∃ o es ep xs,h.get? d = some o∧o.ExactDict∧o.data = .dict es ep∧es.toList = xs.map TH.entN∧PySem.Paired KRel r xs
def KeyV (H : Hp) : Option Tr→V→Prop
  | none,v => v = .non
  | some t,v => t.deep < 8∧Tv H t v
theorem KeyV.same {H H' : Hp} {k : Option Tr} {v : V} (h : KeyV H k v) (e : Same H H') : KeyV H' k v := by
  cases k with
  | none => exact h
  | some t => exact ⟨h.1,h.2.same e⟩
section
variable {X : Cx}
theorem call_sumT (hc : X.calm = true) : CallR X (.builtin "sum") (fun xs H Q => ∃ (p : Addr) (ns : List Int),xs = [.ref p]∧SqT X.K H p (ns.map V.int)∧Q (.int ns.sum) H) := by
  intro pins s σ H xs us Q I r h
  obtain ⟨p,ns,rfl,hq,q⟩:=h
  obtain ⟨u,rfl,r1⟩:=r.one
  cases r1
  obtain ⟨its,rv,pl,hz⟩:=I.tuple hq
  have hi:=intsAre_of rv
  obtain ⟨xs,hx⟩:=hi.allInts.items
  have hl' : s.heap.IsTuple p (intItems xs):=hx ▸ pl
  have hlt : p < s.heap.objs.size := by obtain ⟨_,e,_⟩:=hl'; exact Heap.lt_size e
  have e1 : ns = xs.toList.map (·.1) := by
    rw [← nums_intItems,← hx]
    exact (show numsOf its.toArray.toList = ns from hi.numsOf).symm
  have e2 : preSum (numAt xs) xs.size = ns.sum := by
    rw [preSum_eq,List.take_of_length_le (by simp),e1]
  refine call_sum_walkG (wpAny_pyIter_tuple hl' ?_)
  refine ⟨_,[_,p],[_],_,_,_,numAt xs,rfl,Walks.tuple (A:=X.A.in1) (I.ok.hd hc) _ p (Nat.ne_of_lt hlt) (intItems xs),
    ⟨⟨_,Heap.get?_push_size _ rfl,rfl,rfl⟩,hl'.push _⟩,fun c hcc => ?_,(fun _ _ => intItems_at),fun h' tk t' hk => ?_⟩
  · show c < (s.heap.push _).objs.size
    rw [Heap.size_push]
    rcases List.mem_cons.mp hcc with rfl | hcc
    · exact Nat.lt_succ_self _
    · rw [List.mem_singleton.mp hcc]
      exact Nat.lt_succ_of_lt hlt
  · have e3 : preSum (numAt xs) (intItems xs).size = ns.sum := by
      rw [← e2]
      simp [intItems]
    rw [e3]
    exact ⟨.int _,H,I.kept (t':=tk) (PyProof.Rows.LSm.kept_iter hk),⟨t',rfl⟩,q⟩
end
end L2
set_option maxHeartbeats 1000000
namespace L2
open PySem PySem.Spec PyProof.Rows
theorem Rd.same {H H' : Hp} {a : Addr} {u : HO} (e : Same H H') (h : Rd H a u) : Rd H' a u := by
  rcases h with h | ⟨o,h⟩
  · exact .inl (e _ _ h)
  · exact .inr ⟨o,e _ _ h⟩
def rowD : Tr→List PyData
  | .nil => []
  | .cons b r => .tuple (rowD b) :: rowD r
def keyD : Option Tr→PyData
  | none => .none
  | some t => .tuple (rowD t)
mutual
def Du (H : Hp) : PyData→V→Prop
  | .none,v => v = .non
  | .bool b,v => v = .bl b
  | .int i,v => v = .int i
  | .str x,v => v = .str x
  | .tuple ds,v => ∃ a xs,v = .ref a∧H a = some (.tup xs)∧DuA H ds xs
  | .list ds,v => ∃ a xs,v = .ref a∧H a = some (.lst xs)∧DuA H ds xs
  | .dict kv,v => (∃ ea C : Addr,kv = [(.int (C : Nat),.none)]∧v = .ref ea∧H ea = some (excO ea (.ref C)))∨(∃ (a : Addr) (ns : List Int),kv = [(.none,.list (ns.map .int))]∧v = .ref a∧Rd H a (.lst (ns.map V.int)))∨DuM H kv v
def DuA (H : Hp) : List PyData→List V→Prop
  | [],xs => xs = []
  | d :: ds,xs => ∃ x r,xs = x :: r∧Du H d x∧DuA H ds r
def DuM (H : Hp) : List (PyData×PyData)→V→Prop
  | [],_ => False
  | (k0,d0) :: t,v => k0 = .bool true∧d0 = .none∧∃ a r,v = .ref a∧H a = some (dN a r)∧(r.map (·.1)).Nodup∧DuK H t r
def DuK (H : Hp) : List (PyData×PyData)→List KR→Prop
  | [],r => r = []
  | (k,d) :: t,r => ∃ q r',r = q :: r'∧k = keyD q.1∧KeyV H q.1 q.2.1∧Du H d q.2.2∧DuK H t r'
end
mutual
theorem Du.same {H H' : Hp} (e : Same H H') : ∀ {d : PyData} {v : V},Du H d v→Du H' d v
  | .none,_,h => by rw [Du] at h ⊢; exact h
  | .bool _,_,h => by rw [Du] at h ⊢; exact h
  | .int _,_,h => by rw [Du] at h ⊢; exact h
  | .str _,_,h => by rw [Du] at h ⊢; exact h
  | .tuple _,_,h => by
    rw [Du] at h ⊢
    obtain ⟨a,xs,e1,h1,h2⟩:=h
    exact ⟨a,xs,e1,e _ _ h1,DuA.same e h2⟩
  | .list _,_,h => by
    rw [Du] at h ⊢
    obtain ⟨a,xs,e1,h1,h2⟩:=h
    exact ⟨a,xs,e1,e _ _ h1,DuA.same e h2⟩
  | .dict _,_,h => by
    rw [Du] at h ⊢
    rcases h with ⟨ea,C,e1,e2,h1⟩ | ⟨a,ns,e1,e2,h1⟩ | h
    · exact .inl ⟨ea,C,e1,e2,e _ _ h1⟩
    · exact .inr (.inl ⟨a,ns,e1,e2,h1.same e⟩)
    · exact .inr (.inr (DuM.same e h))
theorem DuA.same {H H' : Hp} (e : Same H H') : ∀ {ds : List PyData} {xs : List V},DuA H ds xs→DuA H' ds xs
  | [],_,h => by rw [DuA] at h ⊢; exact h
  | _ :: _,_,h => by
    rw [DuA] at h ⊢
    obtain ⟨x,r,e1,h1,h2⟩:=h
    exact ⟨x,r,e1,Du.same e h1,DuA.same e h2⟩
theorem DuM.same {H H' : Hp} (e : Same H H') : ∀ {kv : List (PyData×PyData)} {v : V},DuM H kv v→DuM H' kv v
  | [],_,h => by rw [DuM] at h; exact h.elim
  | (_,_) :: _,_,h => by
    rw [DuM] at h ⊢
    obtain ⟨h1,h2,a,r,h3,h4,h5,h6⟩:=h
    exact ⟨h1,h2,a,r,h3,e _ _ h4,h5,DuK.same e h6⟩
theorem DuK.same {H H' : Hp} (e : Same H H') : ∀ {kv : List (PyData×PyData)} {r : List KR},DuK H kv r→DuK H' kv r
  | [],_,h => by rw [DuK] at h ⊢; exact h
  | (_,_) :: _,_,h => by
    rw [DuK] at h ⊢
    obtain ⟨q,r',h1,h2,h3,h4,h5⟩:=h
    exact ⟨q,r',h1,h2,h3.same e,Du.same e h4,DuK.same e h5⟩
end
mutual
theorem Du.br {K : PySem.W.Frag} {H : Hp} : ∀ {d : PyData} {v : V},d.canLay0 = true→Du H d v→Br K H d v
  | .none,_,_,h => by rw [Du] at h; rw [Br]; exact h
  | .bool _,_,_,h => by rw [Du] at h; rw [Br]; exact h
  | .int _,_,_,h => by rw [Du] at h; rw [Br]; exact h
  | .str _,_,_,h => by rw [Du] at h; rw [Br]; exact h
  | .tuple _,_,c,h => by
    rw [Du] at h; rw [Br]
    obtain ⟨a,xs,e1,h1,h2⟩:=h
    exact ⟨a,xs,e1,SqT.of h1,DuA.br (by simp only [PyData.canLay0,Bool.and_eq_true] at c; first | exact c | exact c.2 | exact c.1) h2⟩
  | .list _,_,c,h => by
    rw [Du] at h; rw [Br]
    obtain ⟨a,xs,e1,h1,h2⟩:=h
    exact ⟨a,xs,e1,SqL.of h1,DuA.br (by simp only [PyData.canLay0,Bool.and_eq_true] at c; first | exact c | exact c.2 | exact c.1) h2⟩
  | .dict _,_,c,h => by simp [PyData.canLay0] at c
theorem DuA.br {K : PySem.W.Frag} {H : Hp} : ∀ {ds : List PyData} {xs : List V},PyData.canLayAll0 ds = true→DuA H ds xs→BrAll K H ds xs
  | [],_,_,h => by rw [DuA] at h; rw [BrAll]; exact h
  | _ :: _,_,c,h => by
    rw [DuA] at h; rw [BrAll]
    obtain ⟨x,r,e1,h1,h2⟩:=h
    simp only [PyData.canLayAll0,Bool.and_eq_true] at c
    exact ⟨x,r,e1,Du.br c.1 h1,DuA.br c.2 h2⟩
end
theorem DuA.nil {H : Hp} : DuA H [] [] := by rw [DuA]
theorem DuA.cons {H : Hp} {d : PyData} {ds : List PyData} {x : V} {xs : List V} (h : Du H d x) (k : DuA H ds xs) : DuA H (d :: ds) (x :: xs) := by rw [DuA]; exact ⟨x,xs,rfl,h,k⟩
theorem DuA.un {H : Hp} {d : PyData} {ds : List PyData} {xs : List V} (h : DuA H (d :: ds) xs) : ∃ x r,xs = x :: r∧Du H d x∧DuA H ds r := by rw [DuA] at h; exact h
theorem DuA.nil_eq {H : Hp} {xs : List V} (h : DuA H [] xs) : xs = [] := by rw [DuA] at h; exact h
theorem DuA.len {H : Hp} : ∀ {ds : List PyData} {xs : List V},DuA H ds xs→xs.length = ds.length
  | [],_,h => by rw [h.nil_eq]; rfl
  | _ :: _,_,h => by obtain ⟨x,r,rfl,_,h2⟩:=h.un; simp [h2.len]
theorem DuA.get {H : Hp} : ∀ {ds : List PyData} {xs : List V} {i : Nat} {d : PyData},DuA H ds xs→ds[i]? = some d→∃ v,xs[i]? = some v∧Du H d v
  | [],_,i,_,_,e => by simp at e
  | _ :: _,_,0,_,h,e => by
    obtain ⟨x,r,rfl,h1,_⟩:=h.un
    simp at e; subst e
    exact ⟨x,rfl,h1⟩
  | _ :: _,_,i + 1,_,h,e => by
    obtain ⟨x,r,rfl,_,h2⟩:=h.un
    obtain ⟨v,k1,k2⟩:=h2.get (i:=i) (by simpa using e)
    exact ⟨v,by simpa using k1,k2⟩
theorem DuA.back {H : Hp} {ds : List PyData} {xs : List V} {i : Nat} {v : V} (h : DuA H ds xs) (e : xs[i]? = some v) : ∃ d,ds[i]? = some d∧Du H d v := by
  have hl:=h.len
  have hi : i < ds.length := by rw [← hl]; exact (List.getElem?_eq_some_iff.mp e).1
  have hd : ds[i]? = some ds[i] := by simp [hi]
  obtain ⟨w,k1,k2⟩:=h.get hd
  rw [e] at k1; cases k1
  exact ⟨_,hd,k2⟩
theorem DuA.app {H : Hp} : ∀ {ds es : List PyData} {xs ys : List V},DuA H ds xs→DuA H es ys→DuA H (ds ++ es) (xs ++ ys)
  | [],_,_,_,h,k => by rw [h.nil_eq]; exact k
  | _ :: _,_,_,_,h,k => by obtain ⟨x,r,rfl,h1,h2⟩:=h.un; exact .cons h1 (h2.app k)
theorem DuA.take {H : Hp} : ∀ {ds : List PyData} {xs : List V} (i : Nat),DuA H ds xs→DuA H (ds.take i) (xs.take i)
  | _,_,0,_ => by rw [List.take_zero,List.take_zero]; exact .nil
  | [],_,i + 1,h => by rw [h.nil_eq]; exact .nil
  | _ :: _,_,i + 1,h => by obtain ⟨x,r,rfl,h1,h2⟩:=h.un; exact .cons h1 (h2.take i)
theorem DuA.drop {H : Hp} : ∀ {ds : List PyData} {xs : List V} (i : Nat),DuA H ds xs→DuA H (ds.drop i) (xs.drop i)
  | _,_,0,h => h
  | [],_,i + 1,h => by rw [h.nil_eq]; exact .nil
  | _ :: _,_,i + 1,h => by obtain ⟨x,r,rfl,h1,h2⟩:=h.un; exact h2.drop i
inductive Oc where
  | lst (xs : List PyData) | dic (kvs : List (List Key×PyData)) | dtr (kvs : List (Option Tr×PyData))
inductive L where
  | no | d (x : PyData) | own (c : Oc)
abbrev Dv:=List L
def KvOk (G : Hp) : List (List Key×PyData)→List (List Key×V)→Prop
  | [],r => r = []
  | q :: t,r => ∃ v r',r = (q.1,v) :: r'∧Du G q.2 v∧KvOk G t r'
theorem KvOk.same {G G' : Hp} (e : Same G G') : ∀ {t : List (List Key×PyData)} {r : List (List Key×V)},KvOk G t r→KvOk G' t r
  | [],r,h => h
  | q :: t,r,h => by
    obtain ⟨v,r',rfl,h1,h2⟩:=h
    exact ⟨v,r',rfl,h1.same e,KvOk.same e h2⟩
abbrev entsD (kvs : List (Option Tr×PyData)) : List (PyData×PyData):=kvs.map fun q => (keyD q.1,q.2)
def OcOk (G : Hp) (a : Addr) : Oc→HO→Prop
  | .lst xs,o => ∃ ys,o = .lst ys∧DuA G xs ys
  | .dic kvs,o => ∃ r,o = .dT r∧KvOk G kvs r
  | .dtr kvs,o => ∃ r,o = dN a r∧(r.map (·.1)).Nodup∧DuK G (entsD kvs) r
theorem OcOk.same {G G' : Hp} {a : Addr} {c : Oc} {o : HO} (h : OcOk G a c o) (e : Same G G') : OcOk G' a c o := by
  cases c with
  | dtr kvs => obtain ⟨r,h1,h2,h3⟩:=h; exact ⟨r,h1,h2,DuK.same e h3⟩
  | lst xs => obtain ⟨ys,h1,h2⟩:=h; exact ⟨ys,h1,h2.same e⟩
  | dic kvs => obtain ⟨ys,h1,h2⟩:=h; exact ⟨ys,h1,h2.same e⟩
theorem OcOk.ntup {G : Hp} {a : Addr} {c : Oc} {xs : List V} (h : OcOk G a c (.tup xs)) : False := by
  cases c with
  | dtr kvs => obtain ⟨r,h1,h2,h3⟩:=h; unfold dN at h1; cases h1
  | lst xs => obtain ⟨ys,h1,h2⟩:=h; cases h1
  | dic kvs => obtain ⟨ys,h1,h2⟩:=h; cases h1
def Nw (G0 H0 G : Hp) : Prop:=∀ a o,G a = some o→G0 a = some o∨H0 a = none∨∃ xs,o = HO.tup xs
structure Rw (G0 H0 G H : Hp) (σ : St) (δ : Dv) (ts : List (PyData×V)) : Prop where
  ext : Same G0 G
  new : Nw G0 H0 G
  ins : Same G H
  keep : Same H0 H
  len : σ.length = δ.length
  dat : ∀ (i : Nat) (x : PyData),δ[i]? = some (L.d x)→∃ v,σ[i]? = some (some v)∧Du G x v
  own : ∀ (i : Nat) (xs : Oc),δ[i]? = some (L.own xs)→∃ (a : Addr) (ys : HO),σ[i]? = some (some (V.ref a))∧G a = none∧H0 a = none∧H a = some ys∧OcOk G a xs ys
  apart : ∀ (i j : Nat) (xs ys : Oc),i≠j→δ[i]? = some (L.own xs)→δ[j]? = some (L.own ys)→σ[i]?≠σ[j]?
  tmp : ∀ p∈ts,Du G p.1 p.2
def DE (X : Cx) (e : Expr) (f : Dv→Option PyData) : Prop:=∃ t,PE X e t∧∀ δ x,f δ = some x→∀ G0 H0 G H σ ts (Q : VK),Rw G0 H0 G H σ δ ts→(∀ v G' H',Rw G0 H0 G' H' σ δ ((x,v) :: ts)→Q v H')→t σ H Q
def DA (X : Cx) (es : List Expr) (f : Dv→Option (List PyData)) : Prop:=∃ t,PA X es t∧∀ δ xs,f δ = some xs→∀ G0 H0 G H σ ts (Q : List V→Hp→Prop),Rw G0 H0 G H σ δ ts→(∀ vs G' H',Rw G0 H0 G' H' σ δ (xs.zip vs ++ ts)→vs.length = xs.length→Q vs H')→t σ H Q
def DT (X : Cx) (e : Expr) (f : Dv→Option Bool) : Prop:=∃ t,PT X e t∧∀ δ b,f δ = some b→∀ G0 H0 G H σ ts (Q : Bool→Hp→Prop),Rw G0 H0 G H σ δ ts→(∀ G' H',Rw G0 H0 G' H' σ δ ts→Q b H')→t σ H Q
section
variable {G0 H0 G H : Hp} {σ : St} {δ : Dv} {ts : List (PyData×V)}
theorem Rw.drop {p : PyData×V} (r : Rw G0 H0 G H σ δ (p :: ts)) : Rw G0 H0 G H σ δ ts:={ r with tmp:=fun q hq => r.tmp q (.tail _ hq) }
theorem Rw.less {us : List (PyData×V)} (r : Rw G0 H0 G H σ δ ts) (h : ∀ p∈us,p∈ts) : Rw G0 H0 G H σ δ us:={ r with tmp:=fun q hq => r.tmp q (h q hq) }
theorem Rw.put {x : PyData} {v : V} (r : Rw G0 H0 G H σ δ ts) (h : Du G x v) : Rw G0 H0 G H σ δ ((x,v) :: ts):={ r with tmp:=fun q hq => by rcases List.mem_cons.mp hq with rfl | hq; exact h; exact r.tmp q hq }
theorem Rw.newObj {p : Addr} {o : HO} (r : Rw G0 H0 G H σ δ ts) (hp : H p = none) : Rw G0 H0 (upd G p o) (upd H p o) σ δ ts := by
  have hG : G p = none := by
    cases q : G p with
    | none => rfl
    | some u => rw [r.ins _ _ q] at hp; cases hp
  have h0 : H0 p = none := by
    cases q : H0 p with
    | none => rfl
    | some u => rw [r.keep _ _ q] at hp; cases hp
  have e : Same G (upd G p o):=same_new hG o
  refine ⟨r.ext.trans e,fun a u h => ?_,fun a u h => ?_,r.keep.trans (same_new hp o),r.len,fun i x h => ?_,fun i xs h => ?_,r.apart,fun q hq => (r.tmp q hq).same e⟩
  · by_cases ha : a = p
    · subst ha; exact .inr (.inl h0)
    · rw [upd_ne ha] at h; exact r.new _ _ h
  · by_cases ha : a = p
    · subst ha; rw [upd_same] at h ⊢; exact h
    · rw [upd_ne ha] at h ⊢; exact r.ins _ _ h
  · obtain ⟨v,k1,k2⟩:=r.dat i x h
    exact ⟨v,k1,k2.same e⟩
  · obtain ⟨a,ys,k1,k2,k3,k4,k5⟩:=r.own i xs h
    have ha : a≠p:=fun z => by subst z; rw [k4] at hp; cases hp
    exact ⟨a,ys,k1,by rw [upd_ne ha]; exact k2,k3,by rw [upd_ne ha]; exact k4,k5.same e⟩
theorem Rw.anyTup {p : Addr} {xs : List V} {H' : Hp} (r : Rw G0 H0 G H σ δ ts) (e : Same H H') (hp : H' p = some (.tup xs)) : Rw G0 H0 (upd G p (.tup xs)) H' σ δ ts := by
  have e1 : Same G (upd G p (.tup xs)):=fun a o h => by
    by_cases ha : a = p
    · subst ha
      have:=e _ _ (r.ins _ _ h)
      rw [hp] at this; rw [upd_same]; exact this
    · rw [upd_ne ha]; exact h
  refine ⟨r.ext.trans e1,fun a u h => ?_,fun a u h => ?_,r.keep.trans e,r.len,fun i x h => ?_,fun i xs h => ?_,r.apart,fun q hq => (r.tmp q hq).same e1⟩
  · by_cases ha : a = p
    · subst ha; rw [upd_same] at h; cases h; exact .inr (.inr ⟨_,rfl⟩)
    · rw [upd_ne ha] at h; exact r.new _ _ h
  · by_cases ha : a = p
    · subst ha; rw [upd_same] at h; rw [hp]; exact h
    · rw [upd_ne ha] at h; exact e _ _ (r.ins _ _ h)
  · obtain ⟨v,k1,k2⟩:=r.dat i x h
    exact ⟨v,k1,k2.same e1⟩
  · obtain ⟨a,ys,k1,k2,k3,k4,k5⟩:=r.own i xs h
    have ha : a≠p:=fun z => by subst z; rw [e _ _ k4] at hp; cases hp; exact k5.ntup
    exact ⟨a,ys,k1,by rw [upd_ne ha]; exact k2,k3,e _ _ k4,k5.same e1⟩
theorem Rw.lift {G' H' : Hp} (r : Rw G0 H0 G H σ δ ts) (h1 : Same G G') (h2 : Nw G H G') (h3 : Same G' H') (h4 : Same H H') : Rw G0 H0 G' H' σ δ ts := by
  refine ⟨r.ext.trans h1,fun a o h => ?_,h3,r.keep.trans h4,r.len,fun i x h => ?_,fun i xs h => ?_,r.apart,fun q hq => (r.tmp q hq).same h1⟩
  · rcases h2 a o h with k | k | k
    · exact r.new a o k
    · right; left
      cases q : H0 a with
      | none => rfl
      | some u => rw [r.keep _ _ q] at k; cases k
    · exact .inr (.inr k)
  · obtain ⟨v,k1,k2⟩:=r.dat i x h
    exact ⟨v,k1,k2.same h1⟩
  · obtain ⟨a,ys,k1,k2,k3,k4,k5⟩:=r.own i xs h
    refine ⟨a,ys,k1,?_,k3,h4 _ _ k4,k5.same h1⟩
    cases q : G' a with
    | none => rfl
    | some u =>
      rcases h2 a u q with z | z | ⟨xs',z⟩
      · rw [k2] at z; cases z
      · rw [k4] at z; cases z
      · have:=h3 _ _ q
        rw [h4 _ _ k4,z] at this; cases this; exact k5.ntup.elim
end
section
variable {X : Cx} {a b e : Expr}  {f g h : Dv→Option PyData} {pos : Pos}
theorem de_int {i j pos} : DE X (.Constant (.int i) j pos) (fun _ => some (.int i)):=⟨_,pe_int,fun δ x h G0 H0 G H σ ts Q r k => by cases h; exact k _ _ _ (r.put (by rw [Du]))⟩
theorem de_bl {i j pos} : DE X (.Constant (.bool i) j pos) (fun _ => some (.bool i)):=⟨_,pe_bl,fun δ x h G0 H0 G H σ ts Q r k => by cases h; exact k _ _ _ (r.put (by rw [Du]))⟩
def nm (i : Nat) (δ : Dv) : Option PyData:=match δ[i]? with | some (.d x) => some x | _ => none
theorem nm_eq {i : Nat} {δ : Dv} {x : PyData} (h : nm i δ = some x) : δ[i]? = some (.d x) := by
  unfold nm at h
  split at h
  · rename_i y e; cases h; exact e
  · cases h
theorem de_var {i : Nat} {x : Str} (h : PE X (.Name x pos) (tVar i)) : DE X (.Name x pos) (nm i):=⟨_,h,fun δ y hy G0 H0 G H σ ts Q r k => by
  obtain ⟨v,h1,h2⟩:=r.dat _ _ (nm_eq hy)
  exact ⟨v,h1,k _ _ _ (r.put h2)⟩⟩
def op2 (o : PyData→PyData→Option PyData) (f g : Dv→Option PyData) (δ : Dv) : Option PyData:=(f δ).bind fun x => (g δ).bind fun y => o x y
def DOp (X : Cx) (m : Value→Value→Sem Value) (o : PyData→PyData→Option PyData) : Prop:=∃ r : R2,OpR X m r∧∀ x y z,o x y = some z→∀ G0 H0 G H σ δ ts u v (Q : VK),Rw G0 H0 G H σ δ ts→Du G x u→Du G y v→(∀ w G' H',Rw G0 H0 G' H' σ δ ((z,w) :: ts)→Q w H')→r u v H Q
theorem two {x y : PyData} {f g : Dv→Option PyData} {δ : Dv} {o : PyData→PyData→Option PyData} {z : PyData} (h : op2 o f g δ = some z) : ∃ x y,f δ = some x∧g δ = some y∧o x y = some z := by
  unfold op2 at h
  obtain ⟨x,h1,h2⟩:=Option.bind_eq_some_iff.mp h
  obtain ⟨y,h3,h4⟩:=Option.bind_eq_some_iff.mp h2
  exact ⟨x,y,h1,h3,h4⟩
theorem de_op {op : Operator} {o : PyData→PyData→Option PyData} (ho : DOp X (binaryOp op) o) (ha : DE X a f) (hb : DE X b g) : DE X (.BinOp a op b pos) (op2 o f g) := by
  obtain ⟨r,hr,kr⟩:=ho
  obtain ⟨ta,pa,ka⟩:=ha
  obtain ⟨tb,pb,kb⟩:=hb
  refine ⟨_,pe_op hr pa pb,fun δ z hz G0 H0 G H σ ts Q R0 k => ?_⟩
  obtain ⟨x,y,h1,h2,h3⟩:=two (x:=.none) (y:=.none) hz
  refine ka δ x h1 G0 H0 G H σ ts _ R0 fun u G1 H1 R1 => ?_
  refine kb δ y h2 G0 H0 G1 H1 σ _ _ R1 fun v G2 H2 R2 => ?_
  exact kr x y z h3 G0 H0 G2 H2 σ δ ts u v Q (R2.drop.drop) (R2.tmp (x,u) (.tail _ (.head _))) (R2.tmp (y,v) (.head _)) k
end
section
variable {X : Cx}
def orD (o o' : PyData→PyData→Option PyData) (x y : PyData) : Option PyData:=match o x y with | some z => some z | none => o' x y
theorem DOp.or {m : Value→Value→Sem Value} {o o' : PyData→PyData→Option PyData} (h : DOp X m o) (h' : DOp X m o') : DOp X m (orD o o') := by
  obtain ⟨r,hr,kr⟩:=h
  obtain ⟨r',hr',kr'⟩:=h'
  refine ⟨_,OpR.or hr hr',fun x y z hz G0 H0 G H σ δ ts u v Q R0 du dv k => ?_⟩
  unfold orD at hz
  split at hz
  · rename_i z' e
    cases hz
    exact .inl (kr x y z e G0 H0 G H σ δ ts u v Q R0 du dv k)
  · exact .inr (kr' x y z hz G0 H0 G H σ δ ts u v Q R0 du dv k)
theorem dop_int {m : Value→Value→Sem Value} {C : Int→Int→Prop} {gv : Int→Int→V} {o : Int→Int→Option PyData} (ho : OpR X m (rI C gv)) (hC : ∀ i j z,o i j = some z→C i j∧∀ H,Du H z (gv i j)) :
    DOp X m (fun x y => match x,y with | .int i,.int j => o i j | _,_ => none) := by
  refine ⟨_,ho,fun x y z hz G0 H0 G H σ δ ts u v Q R0 du dv k => ?_⟩
  dsimp only at hz
  split at hz
  · rename_i i j
    rw [Du] at du dv
    obtain ⟨h1,h2⟩:=hC i j z hz
    exact ⟨i,j,du,dv,h1,k _ _ _ (R0.put (h2 _))⟩
  · cases hz
theorem dop_int0 {m : Value→Value→Sem Value} {gv : Int→Int→V} {o : Int→Int→PyData} (ho : OpR X m (rI0 gv)) (hC : ∀ i j H,Du H (o i j) (gv i j)) :
    DOp X m (fun x y => match x,y with | .int i,.int j => some (o i j) | _,_ => none) := by
  refine ⟨_,ho,fun x y z hz G0 H0 G H σ δ ts u v Q R0 du dv k => ?_⟩
  dsimp only at hz
  split at hz
  · rename_i i j
    cases hz
    rw [Du] at du dv
    exact ⟨i,j,du,dv,k _ _ _ (R0.put (hC _ _ _))⟩
  · cases hz
def dMax : Nat:=1000
theorem dMax_lt {n : Nat} (h : n≤dMax) : n < sizeLine:=small1000 h
theorem dMax_le {n : Nat} (h : n≤dMax) : n≤sizeLine:=Nat.le_of_lt (small1000 h)
def iAdd : PyData→PyData→Option PyData:=fun x y => match x,y with | .int i,.int j => some (.int (i + j)) | _,_ => none
def fitI (n : Nat) (i : Int) : Bool:=decide (i.natAbs < 2 ^ n)
def mulOk (i j : Int) : Bool:=fitI 64 i || fitI 64 j || (fitI 9000 i && fitI 9000 j)
def iMul : PyData→PyData→Option PyData:=fun x y => match x,y with | .int i,.int j => (if mulOk i j = true then some (.int (i * j)) else none) | _,_ => none
def iMod : PyData→PyData→Option PyData:=fun x y => match x,y with | .int i,.int j => (if j≠0 then some (.int (i.fmod j)) else none) | _,_ => none
theorem do_iAdd : DOp X (binaryOp .Add) iAdd:=dop_int0 op_add fun _ _ _ => by rw [Du]
theorem fit64 {i : Int} (h : fitI 64 i = true) : -(2 ^ 64) < i∧i < 2 ^ 64 := by
  have:=of_decide_eq_true h
  lia
theorem do_iMul : DOp X (binaryOp .Mult) iMul:=dop_int (o:=fun i j => if mulOk i j = true then some (.int (i * j)) else none) op_mulW fun i j z h => by
  split at h
  · rename_i q
    cases h
    refine ⟨?_,fun _ => by rw [Du]⟩
    unfold mulOk at q
    rw [Bool.or_eq_true,Bool.or_eq_true,Bool.and_eq_true] at q
    rcases q with (q | q) | q
    · exact .inl (.inl (fit64 q))
    · exact .inl (.inr (fit64 q))
    · exact .inr ⟨9000,by decide,of_decide_eq_true q.1,of_decide_eq_true q.2⟩
  · cases h
theorem do_iMod : DOp X (binaryOp .Mod) iMod:=dop_int (o:=fun i j => if j≠0 then some (.int (i.fmod j)) else none) op_modN fun i j z h => by
  split at h
  · rename_i q
    cases h
    exact ⟨q,fun _ => by rw [Du]⟩
  · cases h
def lAdd : PyData→PyData→Option PyData:=fun x y => match x,y with | .list a,.list b => (if a.length + b.length≤dMax then some (.list (a ++ b)) else none) | _,_ => none
theorem do_lAdd : DOp X (binaryOp .Add) lAdd := by
  refine ⟨_,op_cat,fun x y z hz G0 H0 G H σ δ ts u v Q R0 du dv k => ?_⟩
  unfold lAdd at hz
  split at hz
  · rename_i a b
    split at hz
    · rename_i hl
      cases hz
      rw [Du] at du dv
      obtain ⟨p,xs,rfl,h1,h2⟩:=du
      obtain ⟨q,ys,rfl,h3,h4⟩:=dv
      refine ⟨p,q,xs,ys,rfl,rfl,R0.ins _ _ h1,R0.ins _ _ h3,dMax_le (by rw [h2.len,h4.len]; exact hl),fun l hl' => ?_⟩
      have R1:=R0.newObj (o:=.lst (xs ++ ys)) hl'
      refine k _ _ _ (R1.put ?_)
      rw [Du]
      have e : Same G (upd G l (.lst (xs ++ ys))):=fun a o h => by
        have:=R0.ins _ _ h
        rw [upd_ne (ne_of_none this hl')]; exact h
      exact ⟨l,xs ++ ys,rfl,upd_same,(h2.same e).app (h4.same e)⟩
    · cases hz
  · cases hz
def tAdd' : PyData→PyData→Option PyData:=fun x y => match x,y with | .tuple a,.tuple b => (if a.length + b.length≤dMax then some (.tuple (a ++ b)) else none) | _,_ => none
theorem do_tAdd : DOp X (binaryOp .Add) tAdd' := by
  refine ⟨_,op_catA,fun x y z hz G0 H0 G H σ δ ts u v Q R0 du dv k => ?_⟩
  unfold tAdd' at hz
  split at hz
  · rename_i a b
    split at hz
    · rename_i hl
      cases hz
      rw [Du] at du dv
      obtain ⟨p,xs,rfl,h1,h2⟩:=du
      obtain ⟨q,ys,rfl,h3,h4⟩:=dv
      refine ⟨p,q,xs,ys,rfl,rfl,R0.ins _ _ h1,R0.ins _ _ h3,dMax_le (by rw [h2.len,h4.len]; exact hl),fun l H' e hp => ?_⟩
      have R1:=R0.anyTup e hp
      refine k _ _ _ (R1.put ?_)
      rw [Du]
      have e1 : Same G (upd G l (.tup (xs ++ ys))):=fun a o h => by
        by_cases ha : a = l
        · subst ha
          have:=e _ _ (R0.ins _ _ h)
          rw [hp] at this; rw [upd_same]; exact this
        · rw [upd_ne ha]; exact h
      exact ⟨l,xs ++ ys,rfl,upd_same,(h2.same e1).app (h4.same e1)⟩
    · cases hz
  · cases hz
def sAdd : PyData→PyData→Option PyData:=fun x y => match x,y with | .str a,.str b => (if a.length + b.length≤dMax then some (.str (a ++ b)) else none) | _,_ => none
theorem do_sAdd : DOp X (binaryOp .Add) sAdd := by
  refine ⟨_,op_add_str,fun x y z hz G0 H0 G H σ δ ts u v Q R0 du dv k => ?_⟩
  unfold sAdd at hz
  split at hz
  · rename_i a b
    split at hz
    · rename_i hl
      cases hz
      rw [Du] at du dv
      exact ⟨a,b,du,dv,dMax_le hl,k _ _ _ (R0.put (by rw [Du]))⟩
    · cases hz
  · cases hz
def dAdd : PyData→PyData→Option PyData:=orD iAdd (orD lAdd (orD tAdd' sAdd))
theorem do_add : DOp X (binaryOp .Add) dAdd:=do_iAdd.or (do_lAdd.or (do_tAdd.or do_sAdd))
def lRep : PyData→PyData→Option PyData:=fun x y => match x,y with | .list a,.int k => (if a.length * k.toNat≤dMax∧-1000000≤k∧k≤1000000 then some (.list (List.replicate k.toNat a).flatten) else none) | _,_ => none
theorem DuA.rep {H : Hp} {ds : List PyData} {xs : List V} (h : DuA H ds xs) : ∀ n,DuA H (List.replicate n ds).flatten (List.replicate n xs).flatten
  | 0 => .nil
  | n + 1 => by rw [List.replicate_succ,List.replicate_succ,List.flatten_cons,List.flatten_cons]; exact h.app (h.rep n)
theorem do_lRep : DOp X (binaryOp .Mult) lRep := by
  refine ⟨_,op_rep,fun x y z hz G0 H0 G H σ δ ts u v Q R0 du dv k => ?_⟩
  unfold lRep at hz
  split at hz
  · rename_i a n
    split at hz
    · rename_i hl
      cases hz
      rw [Du] at du; rw [Du] at dv
      obtain ⟨p,xs,rfl,h1,h2⟩:=du
      subst dv
      refine ⟨p,n,xs,rfl,rfl,R0.ins _ _ h1,by lia,by lia,dMax_le (by rw [h2.len]; exact hl.1),fun l hl' => ?_⟩
      have R1:=R0.newObj (o:=.lst (List.replicate n.toNat xs).flatten) hl'
      refine k _ _ _ (R1.put ?_)
      rw [Du]
      have e : Same G (upd G l (.lst (List.replicate n.toNat xs).flatten)):=fun a o h => by
        have:=R0.ins _ _ h
        rw [upd_ne (ne_of_none this hl')]; exact h
      exact ⟨l,_,rfl,upd_same,(h2.same e).rep _⟩
    · cases hz
  · cases hz
def dMul : PyData→PyData→Option PyData:=orD iMul lRep
theorem do_mul : DOp X (binaryOp .Mult) dMul:=do_iMul.or do_lRep
theorem canLay_of {d : PyData} (h : SeqAt.shaped d = true) : d.canLay0 = true := by unfold SeqAt.shaped at h; rw [Bool.and_eq_true] at h; exact h.1
def dEq (neg : Bool) : PyData→PyData→Option PyData:=fun x y => if SeqAt.shaped x = true∧SeqAt.shaped y = true then some (.bool (if neg then !PyData.eqv x y else PyData.eqv x y)) else none
theorem do_eqG {m : Value→Value→Sem Value} {neg : Bool} (ho : OpR X m (rEqD X.K neg)) : DOp X m (dEq neg) := by
  refine ⟨_,ho,fun x y z hz G0 H0 G H σ δ ts u v Q R0 du dv k => ?_⟩
  unfold dEq at hz
  split at hz
  · rename_i hs
    cases hz
    exact ⟨x,y,(du.same R0.ins).br (canLay_of hs.1),(dv.same R0.ins).br (canLay_of hs.2),hs.1,hs.2,k _ _ _ (R0.put (by rw [Du]))⟩
  · cases hz
theorem do_eq (hu : X.A.units + 64 < cLine) : DOp X (compareOp .Eq) (dEq false):=do_eqG (op_eqD hu)
end
section
variable {X : Cx} {a b c e : Expr} {es : List Expr} {f g h : Dv→Option PyData} {pos p : Pos}
def asB : PyData→Option Bool
  | .bool b => some b
  | _ => none
def asI : PyData→Option Int
  | .int b => some b
  | _ => none
theorem asB_eq {x : PyData} {b : Bool} (h : asB x = some b) : x = .bool b := by
  unfold asB at h; split at h
  · cases h; rfl
  · cases h
theorem asI_eq {x : PyData} {b : Int} (h : asI x = some b) : x = .int b := by
  unfold asI at h; split at h
  · cases h; rfl
  · cases h
theorem de_neg (ha : DE X a f) : DE X (.UnaryOp .USub a pos) (fun δ => (f δ).bind fun x => (asI x).map fun i => .int (-i)) := by
  obtain ⟨ta,pa,ka⟩:=ha
  refine ⟨_,pe_un un_neg pa,fun δ z hz G0 H0 G H σ ts Q R0 k => ?_⟩
  obtain ⟨x,h1,h2⟩:=Option.bind_eq_some_iff.mp hz
  obtain ⟨i,h3,rfl⟩:=Option.map_eq_some_iff.mp h2
  have:=asI_eq h3; subst this
  refine ka δ _ h1 G0 H0 G H σ ts _ R0 fun u G1 H1 R1 => ?_
  have:=R1.tmp _ (.head _)
  rw [Du] at this
  exact ⟨i,this,k _ _ _ (R1.drop.put (by rw [Du]))⟩
variable {fa : Dv→Option Bool}
theorem dt_cmp {op : CmpOp} {o : PyData→PyData→Option PyData} (ho : DOp X (compareOp op) o) (ha : DE X a f) (hb : DE X b g) (hm : behindInMarks op b = false) : DT X (.Compare a [op] [b] pos) (fun δ => (op2 o f g δ).bind asB) := by
  obtain ⟨r,hr,kr⟩:=ho
  obtain ⟨ta,pa,ka⟩:=ha
  obtain ⟨tb,pb,kb⟩:=hb
  refine ⟨_,pt_cmpR hr pa pb hm,fun δ z hz G0 H0 G H σ ts Q R0 k => ?_⟩
  obtain ⟨q,h0,h4⟩:=Option.bind_eq_some_iff.mp hz
  have:=asB_eq h4; subst this
  obtain ⟨x,y,h1,h2,h3⟩:=two (x:=.none) (y:=.none) h0
  refine ka δ x h1 G0 H0 G H σ ts _ R0 fun u G1 H1 R1 => ?_
  refine kb δ y h2 G0 H0 G1 H1 σ _ _ R1 fun v G2 H2 R2 => ?_
  refine kr x y _ h3 G0 H0 G2 H2 σ δ ts u v _ (R2.drop.drop) (R2.tmp (x,u) (.tail _ (.head _))) (R2.tmp (y,v) (.head _)) fun w G3 H3 R3 => ?_
  have hu:=R3.tmp _ (.head _)
  rw [Du] at hu
  exact ⟨z,hu,k _ _ R3.drop⟩
theorem dt_val (ha : DE X e f) (he : ∀ whole,isTrue e X.env whole = (do let v ← whole; standAt e.pos; holding [v] (truthy v)) := by intro _; rfl) : DT X e (fun δ => (f δ).bind asB) := by
  obtain ⟨ta,pa,ka⟩:=ha
  refine ⟨_,pt_val pa he,fun δ z hz G0 H0 G H σ ts Q R0 k => ?_⟩
  obtain ⟨q,h0,h4⟩:=Option.bind_eq_some_iff.mp hz
  have:=asB_eq h4; subst this
  refine ka δ _ h0 G0 H0 G H σ ts _ R0 fun u G1 H1 R1 => ?_
  have hu:=R1.tmp _ (.head _)
  rw [Du] at hu
  exact ⟨z,hu,k _ _ R1.drop⟩
theorem dt_not (ha : DT X a fa) : DT X (.UnaryOp .Not a pos) (fun δ => (fa δ).map fun c => !c) := by
  obtain ⟨ta,pa,ka⟩:=ha
  refine ⟨_,pt_not pa,fun δ z hz G0 H0 G H σ ts Q R0 k => ?_⟩
  obtain ⟨i,h3,rfl⟩:=Option.map_eq_some_iff.mp hz
  exact ka δ _ h3 G0 H0 G H σ ts _ R0 fun G1 H1 R1 => k _ _ R1
variable {fs : Dv→Option (List PyData)}
theorem da_nil : DA X [] (fun _ => some []):=⟨_,pa_nil,fun δ xs h G0 H0 G H σ ts Q R0 k => by cases h; exact k [] G H (by simpa using R0) rfl⟩
theorem da_cons (ha : DE X e f) (hr : DA X es fs) (hs : starEach (e :: es) X.env = (false,eval e X.env) :: starEach es X.env := by rfl) : DA X (e :: es) (fun δ => (f δ).bind fun x => (fs δ).map fun xs => x :: xs) := by
  obtain ⟨ta,pa,ka⟩:=ha
  obtain ⟨tr,pr,kr⟩:=hr
  refine ⟨_,pa_cons pa pr hs,fun δ z hz G0 H0 G H σ ts Q R0 k => ?_⟩
  obtain ⟨x,h1,h2⟩:=Option.bind_eq_some_iff.mp hz
  obtain ⟨xs,h3,rfl⟩:=Option.map_eq_some_iff.mp h2
  refine ka δ x h1 G0 H0 G H σ ts _ R0 fun u G1 H1 R1 => ?_
  refine kr δ xs h3 G0 H0 G1 H1 σ _ _ R1 fun vs G2 H2 R2 hl => ?_
  refine k (u :: vs) G2 H2 (R2.less fun q hq => ?_) (by simp [hl])
  simp only [List.zip_cons_cons,List.cons_append,List.mem_cons,List.mem_append] at hq ⊢
  rcases hq with h | h | h
  · exact .inr (.inl h)
  · exact .inl h
  · exact .inr (.inr h)
theorem duA_of {G : Hp} : ∀ {xs : List PyData} {vs : List V},vs.length = xs.length→(∀ q∈xs.zip vs,Du G q.1 q.2)→DuA G xs vs
  | [],vs,hl,_ => by rw [List.eq_nil_of_length_eq_zero hl]; exact .nil
  | x :: xs,[],hl,_ => by simp at hl
  | x :: xs,v :: vs,hl,h => .cons (h (x,v) (by simp)) (duA_of (by simpa using hl) fun q hq => h q (by simp [hq]))
theorem Rw.args {G0 H0 G H : Hp} {σ : St} {δ : Dv} {ts : List (PyData×V)} {xs : List PyData} {vs : List V} (r : Rw G0 H0 G H σ δ (xs.zip vs ++ ts)) (hl : vs.length = xs.length) : DuA G xs vs∧Rw G0 H0 G H σ δ ts :=
  ⟨duA_of hl fun q hq => r.tmp q (List.mem_append_left _ hq),r.less fun q hq => List.mem_append_right _ hq⟩
theorem Rw.newL {G0 H0 G H : Hp} {σ : St} {δ : Dv} {ts : List (PyData×V)} {xs : List PyData} {vs : List V} {p : Addr} (r : Rw G0 H0 G H σ δ ts) (d : DuA G xs vs) (hp : H p = none) : Rw G0 H0 (upd G p (.lst vs)) (upd H p (.lst vs)) σ δ ((.list xs,.ref p) :: ts) := by
  refine (r.newObj hp).put ?_
  have e : Same G (upd G p (.lst vs)):=fun a o h => by rw [upd_ne (ne_of_none (r.ins _ _ h) hp)]; exact h
  rw [Du]
  exact ⟨p,vs,rfl,upd_same,d.same e⟩
theorem Rw.newT {G0 H0 G H : Hp} {σ : St} {δ : Dv} {ts : List (PyData×V)} {xs : List PyData} {vs : List V} {p : Addr} (r : Rw G0 H0 G H σ δ ts) (d : DuA G xs vs) (hp : H p = none) : Rw G0 H0 (upd G p (.tup vs)) (upd H p (.tup vs)) σ δ ((.tuple xs,.ref p) :: ts) := by
  refine (r.newObj hp).put ?_
  have e : Same G (upd G p (.tup vs)):=fun a o h => by rw [upd_ne (ne_of_none (r.ins _ _ h) hp)]; exact h
  rw [Du]
  exact ⟨p,vs,rfl,upd_same,d.same e⟩
def few (xs : List PyData) : Option (List PyData):=if xs.length≤dMax then some xs else none
theorem few_eq {xs ys : List PyData} (h : few xs = some ys) : xs = ys∧xs.length≤dMax := by
  unfold few at h; split at h
  · rename_i q; cases h; exact ⟨rfl,q⟩
  · cases h
theorem de_tup {x1} (ha : DA X es fs) : DE X (.Tuple es x1 pos) (fun δ => ((fs δ).bind few).map .tuple) := by
  obtain ⟨ta,pa,ka⟩:=ha
  refine ⟨_,pe_tup pa,fun δ z hz G0 H0 G H σ ts Q R0 k => ?_⟩
  obtain ⟨ys,h1,rfl⟩:=Option.map_eq_some_iff.mp hz
  obtain ⟨xs,h2,h3⟩:=Option.bind_eq_some_iff.mp h1
  obtain ⟨rfl,hl⟩:=few_eq h3
  refine ka δ _ h2 G0 H0 G H σ ts _ R0 fun vs G1 H1 R1 hv => ?_
  obtain ⟨d,R2⟩:=R1.args hv
  exact ⟨dMax_le (by rw [hv]; exact hl),fun q hq => k _ _ _ (R2.newT d hq)⟩
theorem de_lst (ha : DA X es fs) : DE X (.List es pos) (fun δ => ((fs δ).bind few).map .list) := by
  obtain ⟨ta,pa,ka⟩:=ha
  refine ⟨_,pe_lst pa,fun δ z hz G0 H0 G H σ ts Q R0 k => ?_⟩
  obtain ⟨ys,h1,rfl⟩:=Option.map_eq_some_iff.mp hz
  obtain ⟨xs,h2,h3⟩:=Option.bind_eq_some_iff.mp h1
  obtain ⟨rfl,hl⟩:=few_eq h3
  refine ka δ _ h2 G0 H0 G H σ ts _ R0 fun vs G1 H1 R1 hv => ?_
  obtain ⟨d,R2⟩:=R1.args hv
  exact ⟨dMax_le (by rw [hv]; exact hl),fun q hq => k _ _ _ (R2.newL d hq)⟩
theorem DuA.atI {H : Hp} {ds : List PyData} {xs : List V} {i : Int} {d : PyData} (h : DuA H ds xs) (e : atI ds i = some d) : ∃ v,atI xs i = some v∧Du H d v := by
  unfold L2.atI at e ⊢
  rw [h.len]
  obtain ⟨j,h1,h2⟩:=Option.bind_eq_some_iff.mp e
  obtain ⟨v,h3,h4⟩:=h.get h2
  exact ⟨v,by rw [h1]; exact h3,h4⟩
theorem duA_intsG {G : Hp} : ∀ ns : List Int,DuA G (ns.map .int) (ns.map V.int)
  | [] => .nil
  | n :: ns => .cons (by rw [Du]) (duA_intsG ns)
def dIx : PyData→PyData→Option PyData:=fun x y => match x,y with
  | .list xs,.int i => atI xs i
  | .tuple xs,.int i => atI xs i
  | .dict [(.none,.list xs)],.int i => atI xs i
  | .str z,.int i => if z.length≤dMax then (atI z.cps.toList i).map fun c => .str ⟨#[c]⟩ else none
  | _,_ => none
theorem de_ix (ha : DE X a f) (hb : DE X b g) (hs : PlainIx b) : DE X (.Subscript a b pos) (op2 dIx f g) := by
  obtain ⟨ta,pa,ka⟩:=ha
  obtain ⟨tb,pb,kb⟩:=hb
  refine ⟨_,pe_ix ix_seq pa pb hs,fun δ z hz G0 H0 G H σ ts Q R0 k => ?_⟩
  obtain ⟨x,y,h1,h2,h3⟩:=two (x:=.none) (y:=.none) hz
  refine ka δ x h1 G0 H0 G H σ ts _ R0 fun u G1 H1 R1 => ?_
  refine kb δ y h2 G0 H0 G1 H1 σ _ _ R1 fun v G2 H2 R2 => ?_
  have du:=R2.tmp (x,u) (.tail _ (.head _))
  have dv:=R2.tmp (y,v) (.head _)
  unfold dIx at h3
  split at h3
  · rw [Du] at du; rw [Du] at dv
    obtain ⟨p,xs,rfl,h4,h5⟩:=du
    obtain ⟨w,h6,h7⟩:=h5.atI h3
    exact .inl ⟨p,xs,_,w,rfl,dv,SqL.of (R2.ins _ _ h4),h6,k _ _ _ (R2.drop.drop.put h7)⟩
  · rw [Du] at du; rw [Du] at dv
    obtain ⟨p,xs,rfl,h4,h5⟩:=du
    obtain ⟨w,h6,h7⟩:=h5.atI h3
    exact .inr (.inl ⟨p,xs,_,w,rfl,dv,SqT.of (R2.ins _ _ h4),h6,k _ _ _ (R2.drop.drop.put h7)⟩)
  · rw [Du] at du; rw [Du] at dv
    rcases du with ⟨ea,C,e1,_⟩ | ⟨p,ns,e1,rfl,h4⟩ | z
    rotate_left 2
    · rw [DuM] at z; cases z.1
    · simp at e1
    · obtain rfl : _ = ns.map PyData.int := by simpa using e1
      obtain ⟨w,h6,h7⟩:=(duA_intsG (G:=_) ns).atI h3
      exact .inl ⟨p,_,_,w,rfl,dv,.inl (h4.same R2.ins),h6,k _ _ _ (R2.drop.drop.put h7)⟩
  · rw [Du] at du; rw [Du] at dv
    split at h3
    · rename_i hl
      obtain ⟨ch,h6,rfl⟩:=Option.map_eq_some_iff.mp h3
      exact .inr (.inr ⟨_,_,ch,du,dv,dMax_le hl,h6,k _ _ _ (R2.drop.drop.put (by rw [Du]))⟩)
    · cases h3
  · cases h3
end
def spD (g : List PyData→Option PyData) : Sp:=fun vs H Q _ => ∃ ds x G,g ds = some x∧DuA G ds vs∧Same G H∧∀ v G' H',Same G G'→Nw G H G'→Same G' H'→Same H H'→Du G' x v→Q v H'
section
variable {X : Cx} {e : Expr} {es : List Expr} {h : Dv→Option PyData} {fs : Dv→Option (List PyData)} {pos p : Pos}
theorem de_call {k : Nat} {fA : Addr} {fd : FuncData} {ps : List Str} {m : List PyData→Option PyData} {x : Str} {st : Stmt} (T : Fn X.K X.mg x st ps fA fd) (F : FnOk X.prog X.w X.K X.mg X.base CX0 k fA fd ps (spD m)) (hr : Room k X.A) (hg : Gl X x) (ha : DA X (e :: es) fs)
    (hdb : (x == ("__debug__" : Str)) = false := by decide) (he : starEach (e :: es) X.env = (false,eval e X.env) :: starEach es X.env := by rfl) (hpl : (backTo pos (starEach es X.env)).any (·.1) = false := by rfl) :
    DE X (.Call (.Name x p) (e :: es) [] pos) (fun δ => (fs δ).bind m) := by
  obtain ⟨ta,pa,ka⟩:=ha
  refine ⟨_,pe_fn T F hr hg pa hdb he hpl,fun δ z hz G0 H0 G H σ ts Q R0 k => ?_⟩
  obtain ⟨xs,h1,h2⟩:=Option.bind_eq_some_iff.mp hz
  refine ka δ _ h1 G0 H0 G H σ ts _ R0 fun vs G1 H1 R1 hv => ?_
  obtain ⟨d,R2⟩:=R1.args hv
  refine ⟨xs,z,G1,h2,by rw [List.append_nil]; exact d,R2.ins,fun v G' H' h3 h4 h5 h6 h7 => ?_⟩
  exact k _ _ _ ((R2.lift h3 h4 h5 h6).put h7)
theorem DuA.un1 {H : Hp} {d : PyData} {xs : List V} (h : DuA H [d] xs) : ∃ x,xs = [x]∧Du H d x := by
  obtain ⟨x,r,rfl,h1,h2⟩:=h.un
  rw [h2.nil_eq]; exact ⟨x,rfl,h1⟩
theorem DuA.un2 {H : Hp} {d e : PyData} {xs : List V} (h : DuA H [d,e] xs) : ∃ x y,xs = [x,y]∧Du H d x∧Du H e y := by
  obtain ⟨x,r,rfl,h1,h2⟩:=h.un
  obtain ⟨y,rfl,h3⟩:=h2.un1; exact ⟨x,y,rfl,h1,h3⟩
end
inductive Ou where
  | nx (δ : Dv) | rt (x : PyData) | bk (δ : Dv) | ct (δ : Dv) | rn (xs : List PyData)
def Fin (G0 H0 : Hp) (D : Ends) : Ou→Prop
  | .nx δ => ∀ σ G H,Rw G0 H0 G H σ δ []→D.nx σ H
  | .rt x => ∀ v G H,Same G0 G→Nw G0 H0 G→Same G H→Same H0 H→Du G x v→D.rt v H
  | .bk δ => ∀ σ G H,Rw G0 H0 G H σ δ []→D.bk σ H
  | .ct δ => ∀ σ G H,Rw G0 H0 G H σ δ []→D.ct σ H
  | .rn xs => ∀ a ys G H,Same G0 G→Nw G0 H0 G→Same G H→Same H0 H→H0 a = none→G a = none→H a = some (.lst ys)→DuA G xs ys→D.rt (.ref a) H
abbrev DF:=Dv→Option Ou
def DS (X : Cx) (st : Stmt) (F : DF) : Prop:=∃ t,PS X st t∧∀ δ r,F δ = some r→∀ G0 H0 G H σ D,Rw G0 H0 G H σ δ []→Fin G0 H0 D r→t D σ H
def DSs (X : Cx) (st : List Stmt) (F : DF) : Prop:=∃ t,PSs X st t∧∀ δ r,F δ = some r→∀ G0 H0 G H σ D,Rw G0 H0 G H σ δ []→Fin G0 H0 D r→t D σ H
def seqD (F1 F2 : DF) (δ : Dv) : Option Ou:=match F1 δ with
  | some (.nx δ') => F2 δ'
  | o => o
section
variable {X : Cx} {c e : Expr}  {f h : Dv→Option PyData}  {fa : Dv→Option Bool} {pos p : Pos} {st : Stmt} {sts sts' : List Stmt} {F1 F2 : DF}
theorem dss_nil : DSs X [] (fun δ => some (.nx δ)):=⟨_,pss_nil,fun δ r h G0 H0 G H σ D R k => by cases h; exact k _ _ _ R⟩
theorem dss_cons (h1 : DS X st F1) (h2 : DSs X sts F2) : DSs X (st :: sts) (seqD F1 F2) := by
  obtain ⟨t1,p1,k1⟩:=h1
  obtain ⟨t2,p2,k2⟩:=h2
  refine ⟨_,pss_cons p1 p2,fun δ r h G0 H0 G H σ D R k => ?_⟩
  unfold seqD at h
  split at h
  · rename_i δ' e1
    exact k1 δ _ e1 G0 H0 G H σ _ R fun σ' G' H' R' => k2 δ' r h G0 H0 G' H' σ' D R' k
  · rename_i hne
    refine k1 δ r h G0 H0 G H σ _ R ?_
    cases r with
    | nx δ' => exact absurd h (hne δ')
    | rt x => exact k
    | bk δ' => exact k
    | ct δ' => exact k
    | rn xs => exact k
theorem dss_one (h1 : DS X st F1) : DSs X [st] F1 := by
  obtain ⟨t1,p1,k1⟩:=h1
  exact ⟨_,pss_one p1,k1⟩
theorem ds_ret (he : DE X e f) : DS X (.Return (some e) pos) (fun δ => (f δ).map .rt) := by
  obtain ⟨t,p,k⟩:=he
  refine ⟨_,ps_ret p,fun δ r h G0 H0 G H σ D R q => ?_⟩
  obtain ⟨x,h1,rfl⟩:=Option.map_eq_some_iff.mp h
  exact k δ x h1 G0 H0 G H σ [] _ R fun v G' H' R' => q v G' H' R'.ext R'.new R'.ins R'.keep (R'.tmp _ (.head _))
theorem ds_if (hc : DT X c fa) (h1 : DSs X sts F1) (h2 : DSs X sts' F2) : DS X (.If c sts sts' pos) (fun δ => (fa δ).bind fun c => if c = true then F1 δ else F2 δ) := by
  obtain ⟨tc,pc,kc⟩:=hc
  obtain ⟨t1,p1,k1⟩:=h1
  obtain ⟨t2,p2,k2⟩:=h2
  refine ⟨_,ps_if pc p1 p2,fun δ r h G0 H0 G H σ D R q => ?_⟩
  obtain ⟨i,h3,h4⟩:=Option.bind_eq_some_iff.mp h
  refine kc δ i h3 G0 H0 G H σ [] _ R fun G' H' R' => ?_
  split
  · rename_i hc
    rw [if_pos hc] at h4
    exact k1 δ r h4 G0 H0 G' H' σ D R' q
  · rename_i hc
    rw [if_neg hc] at h4
    exact k2 δ r h4 G0 H0 G' H' σ D R' q
end
section
variable {G0 H0 G H : Hp} {σ : St} {δ : Dv} {ts : List (PyData×V)}
theorem Rw.setD {i : Nat} {x : PyData} {v : V} (r : Rw G0 H0 G H σ δ ((x,v) :: ts)) : Rw G0 H0 G H (σ.set i (some v)) (δ.set i (.d x)) ts := by
  have hl:=r.len
  refine ⟨r.ext,r.new,r.ins,r.keep,by simp [hl],fun j y h => ?_,fun j ys h => ?_,fun j l ys zs hjl h1 h2 => ?_,fun q hq => r.tmp q (.tail _ hq)⟩
  · by_cases hj : i = j
    · subst hj
      by_cases hi : i < δ.length
      · rw [List.getElem?_set_self hi] at h
        cases h
        exact ⟨v,by rw [List.getElem?_set_self (by lia)],r.tmp _ (.head _)⟩
      · rw [List.getElem?_eq_none (by simp; lia)] at h; cases h
    · rw [List.getElem?_set_ne hj] at h
      obtain ⟨w,k1,k2⟩:=r.dat j y h
      exact ⟨w,by rw [List.getElem?_set_ne hj]; exact k1,k2⟩
  · by_cases hj : i = j
    · subst hj
      by_cases hi : i < δ.length
      · rw [List.getElem?_set_self hi] at h; cases h
      · rw [List.getElem?_eq_none (by simp; lia)] at h; cases h
    · rw [List.getElem?_set_ne hj] at h
      obtain ⟨w,k1,k2,k3⟩:=r.own j ys h
      exact ⟨w,k1,by rw [List.getElem?_set_ne hj]; exact k2,k3⟩
  · have nj : i≠j:=fun z => by
      subst z
      by_cases hi : i < δ.length
      · rw [List.getElem?_set_self hi] at h1; cases h1
      · rw [List.getElem?_eq_none (by simp; lia)] at h1; cases h1
    have nl : i≠l:=fun z => by
      subst z
      by_cases hi : i < δ.length
      · rw [List.getElem?_set_self hi] at h2; cases h2
      · rw [List.getElem?_eq_none (by simp; lia)] at h2; cases h2
    rw [List.getElem?_set_ne nj] at h1 ⊢
    rw [List.getElem?_set_ne nl] at h2 ⊢
    exact r.apart j l ys zs hjl h1 h2
end
section
variable {X : Cx} {e : Expr} {f : Dv→Option PyData} {pos p : Pos}
theorem ds_set {i : Nat} {x : Str} {pos' : Pos} (hN : X.N.Nodup) (hi : X.N[i]? = some x) (hx : Loc X.env.scope x) (he : DE X e f) (hs : swapsWith e (some (.Name x pos')) pos.line X.env = pure false := by rfl) (hf : X.fn x = true∨X.env.scope.names.lookup x = some .local := by first | exact .inl rfl | exact .inr rfl | assumption) :
    DS X (.Assign [.Name x pos'] e pos) (fun δ => (f δ).map fun y => .nx (δ.set i (.d y))) := by
  obtain ⟨t,p,k⟩:=he
  refine ⟨_,ps_set hN hi hx p hs hf,fun δ r h G0 H0 G H σ D R q => ?_⟩
  obtain ⟨y,h1,rfl⟩:=Option.map_eq_some_iff.mp h
  exact k δ y h1 G0 H0 G H σ [] _ R fun v G' H' R' => q _ _ _ R'.setD
end
section
variable {G0 H0 G H : Hp} {σ : St} {δ : Dv} {ts : List (PyData×V)}
theorem Rw.base (r : Rw G0 H0 G H σ δ ts) : Rw G H0 G H σ δ ts:={ r with ext:=Same.refl G,new:=fun _ _ h => .inl h }
theorem Nw.trans {G1 G2 : Hp} (a : Nw G0 H0 G1) (b : Nw G1 H0 G2) : Nw G0 H0 G2:=fun c o h => by
  rcases b c o h with z | z | z
  · exact a c o z
  · exact .inr (.inl z)
  · exact .inr (.inr z)
theorem Rw.unbase {G' H' : Hp} {σ' : St} {δ' : Dv} {ts' : List (PyData×V)} (r : Rw G0 H0 G H σ δ ts) (q : Rw G H0 G' H' σ' δ' ts') : Rw G0 H0 G' H' σ' δ' ts':={ q with ext:=r.ext.trans q.ext,new:=r.new.trans q.new }
end
structure ItOk (J : It) (xs : List PyData) (G : Hp) : Prop where
  stop : ∀ H,Same G H→J.stop xs.length H
  go : ∀ (i : Nat) (d : PyData) H,xs[i]? = some d→Same G H→J.go i H
  yld : ∀ (i : Nat) (d : PyData) H x H',xs[i]? = some d→Same G H→J.yld i H x H'→∀ Gc,Same G Gc→Same Gc H→∃ Gc',Same Gc Gc'∧Nw Gc H Gc'∧Same Gc' H'∧Same H H'∧Du Gc' d x
theorem Nw.refl {G H : Hp} : Nw G H G:=fun _ _ h => .inl h
theorem it_list {K : PySem.W.Frag} {G : Hp} {a : Addr} {ys : List V} {xs : List PyData} (ha : G a = some (.lst ys)) (d : DuA G xs ys) : ItOk (Itl K a) xs G where
  stop:=fun H e => ⟨ys,SqL.of (e _ _ ha),by rw [d.len]; exact Nat.le_refl _⟩
  go:=fun i x H hx e => by
    obtain ⟨v,h1,_⟩:=d.get hx
    exact ⟨ys,v,SqL.of (e _ _ ha),h1⟩
  yld:=fun i x H v H' hx e y Gc e1 e2 => by
    obtain ⟨rfl,y⟩:=y
    have h1:=y ys (SqL.of (e _ _ ha))
    obtain ⟨x',h2,h3⟩:=d.back h1
    rw [hx] at h2; cases h2
    exact ⟨Gc,Same.refl _,Nw.refl,e2,Same.refl _,h3.same e1⟩
theorem it_tup {K : PySem.W.Frag} {G : Hp} {a : Addr} {ys : List V} {xs : List PyData} (ha : G a = some (.tup ys)) (d : DuA G xs ys) : ItOk (Itt K a) xs G where
  stop:=fun H e => ⟨ys,SqT.of (e _ _ ha),by rw [d.len]; exact Nat.le_refl _⟩
  go:=fun i x H hx e => by
    obtain ⟨v,h1,_⟩:=d.get hx
    exact ⟨ys,v,SqT.of (e _ _ ha),h1⟩
  yld:=fun i x H v H' hx e y Gc e1 e2 => by
    obtain ⟨rfl,y⟩:=y
    have h1:=y ys (SqT.of (e _ _ ha))
    obtain ⟨x',h2,h3⟩:=d.back h1
    rw [hx] at h2; cases h2
    exact ⟨Gc,Same.refl _,Nw.refl,e2,Same.refl _,h3.same e1⟩
def rngD (lo : Int) (n : Nat) : List PyData:=(List.range n).map fun k => .int (lo + (k : Nat))
theorem it_rng {G : Hp} {lo : Int} {n : Nat} : ItOk (Itr lo n) (rngD lo n) G where
  stop:=fun H e => by show n≤_; simp [rngD]
  go:=fun i x H hx e => by
    have:=(List.getElem?_eq_some_iff.mp hx).1
    show i < n
    simpa [rngD] using this
  yld:=fun i x H v H' hx e y Gc e1 e2 => by
    obtain ⟨rfl,rfl⟩:=y
    unfold rngD at hx
    rw [List.getElem?_map] at hx
    obtain ⟨k,h1,rfl⟩:=Option.map_eq_some_iff.mp hx
    have hk : k = i := by
      have:=(List.getElem?_eq_some_iff.mp h1).1
      rw [List.getElem?_range (by simpa using this)] at h1
      cases h1; rfl
    subst hk
    exact ⟨Gc,Same.refl _,Nw.refl,e2,Same.refl _,by rw [Du]⟩
def DI (X : Cx) (tg iter : Expr) (f : Dv→Option (List PyData)) : Prop:=∃ wi,PI X tg iter wi∧∀ δ xs,f δ = some xs→∀ G0 H0 G H σ ts (R : It→Hp→Prop),Rw G0 H0 G H σ δ ts→(∀ J G' H',Rw G0 H0 G' H' σ δ ts→ItOk J xs G'→R J H')→wi σ H R
section
variable {X : Cx} {tg a b e : Expr}  {f g h : Dv→Option PyData} {fs : Dv→Option (List PyData)}  {pos p : Pos}  {sts : List Stmt} {F : DF}
theorem PI.or {wi wi' : TI} (h : PI X tg e wi) (h' : PI X tg e wi') : PI X tg e (fun σ H R => wi σ H R∨wi' σ H R):=fun pins s σ H R I q => by
  rcases q with q | q
  · exact h pins s σ H R I q
  · exact h' pins s σ H R I q
def seqOf : PyData→Option (List PyData)
  | .list xs => some xs
  | .tuple xs => some xs
  | _ => none
theorem di_seq (he : DE X e f) : DI X tg e (fun δ => (f δ).bind seqOf) := by
  obtain ⟨t,p,k⟩:=he
  refine ⟨_,(pi_list p).or (pi_tup p),fun δ xs h G0 H0 G H σ ts R R0 q => ?_⟩
  obtain ⟨x,h1,h2⟩:=Option.bind_eq_some_iff.mp h
  unfold seqOf at h2
  split at h2
  · cases h2
    left
    refine k δ _ h1 G0 H0 G H σ ts _ R0 fun v G' H' R' => ?_
    have du:=R'.tmp _ (.head _)
    rw [Du] at du
    obtain ⟨a,ys,rfl,n1,n2⟩:=du
    exact ⟨a,rfl,⟨ys,SqL.of (R'.ins _ _ n1)⟩,q _ _ _ R'.drop (it_list n1 n2)⟩
  · cases h2
    right
    refine k δ _ h1 G0 H0 G H σ ts _ R0 fun v G' H' R' => ?_
    have du:=R'.tmp _ (.head _)
    rw [Du] at du
    obtain ⟨a,ys,rfl,n1,n2⟩:=du
    exact ⟨a,rfl,⟨ys,SqT.of (R'.ins _ _ n1)⟩,q _ _ _ R'.drop (it_tup n1 n2)⟩
  · cases h2
def rng1 : List PyData→Option (List PyData)
  | [.int j] => if -1000000≤j∧j≤1000000 then some (rngD 0 j.toNat) else none
  | _ => none
def rng2 : List PyData→Option (List PyData)
  | [.int i,.int j] => if -1000000≤i∧i≤1000000∧-1000000≤j∧j≤1000000 then some (rngD i (j - i).toNat) else none
  | _ => none
theorem di_range1 (hg : Gl X "range") (hm : X.mg "range" = none) (ha : DA X [a] fs) (hs : starEach [a] X.env = [(false,eval a X.env)] := by rfl) : DI X tg (.Call (.Name "range" p) [a] [] pos) (fun δ => (fs δ).bind rng1) := by
  obtain ⟨t,p,k⟩:=ha
  refine ⟨_,pi_range1 hg hm p hs,fun δ xs h G0 H0 G H σ ts R R0 q => ?_⟩
  obtain ⟨x,h1,h2⟩:=Option.bind_eq_some_iff.mp h
  refine k δ _ h1 G0 H0 G H σ ts _ R0 fun vs G' H' R' hv => ?_
  obtain ⟨d,R2⟩:=R'.args hv
  unfold rng1 at h2
  split at h2
  · split at h2
    · cases h2
      obtain ⟨u,rfl,du⟩:=d.un1
      rw [Du] at du; subst du
      exact ⟨_,rfl,by lia,by lia,q _ _ _ R2 it_rng⟩
    · cases h2
  · cases h2
theorem di_range2 (hg : Gl X "range") (hm : X.mg "range" = none) (ha : DA X [a,b] fs) (hs : starEach [a,b] X.env = [(false,eval a X.env),(false,eval b X.env)] := by rfl) (hs2 : starEach [b] X.env = [(false,eval b X.env)] := by rfl) : DI X tg (.Call (.Name "range" p) [a,b] [] pos) (fun δ => (fs δ).bind rng2) := by
  obtain ⟨t,p,k⟩:=ha
  refine ⟨_,pi_range2 hg hm p hs hs2,fun δ xs h G0 H0 G H σ ts R R0 q => ?_⟩
  obtain ⟨x,h1,h2⟩:=Option.bind_eq_some_iff.mp h
  refine k δ _ h1 G0 H0 G H σ ts _ R0 fun vs G' H' R' hv => ?_
  obtain ⟨d,R2⟩:=R'.args hv
  unfold rng2 at h2
  split at h2
  · split at h2
    · cases h2
      obtain ⟨u,v,rfl,du,dv⟩:=d.un2
      rw [Du] at du dv; subst du dv
      exact ⟨_,_,rfl,⟨by lia,by lia,by lia,by lia⟩,q _ _ _ R2 it_rng⟩
    · cases h2
  · cases h2
def DG (X : Cx) (tg : Expr) (set : PyData→Dv→Option Dv) : Prop:=∃ g,PG X tg g∧∀ δ x δ',set x δ = some δ'→∀ G0 H0 G H σ v (Q : St→Hp→Prop),Rw G0 H0 G H σ δ [(x,v)]→(∀ σ' G' H',Rw G0 H0 G' H' σ' δ' []→Q σ' H')→g v σ H Q
theorem dg_name {i : Nat} {x : Str} (h : PG X (.Name x pos) (gName i)) : DG X (.Name x pos) (fun y δ => some (δ.set i (.d y))) :=
  ⟨_,h,fun δ y δ' e G0 H0 G H σ v Q R k => by cases e; exact k _ _ _ R.setD⟩
def forD (set : PyData→Dv→Option Dv) (body : DF) : List PyData→Dv→Option Ou
  | [],δ => some (.nx δ)
  | x :: xs,δ => match (set x δ).bind body with
    | some (.nx δ') => forD set body xs δ'
    | some (.ct δ') => forD set body xs δ'
    | some (.bk δ') => some (.nx δ')
    | some (.rt v) => some (.rt v)
    | some (.rn v) => some (.rn v)
    | none => none
theorem ds_for {set : PyData→Dv→Option Dv} (hp : PassesOwn (model X.prog X.w) X.A X.env X.xe) (hc : X.calm = true) (hi : DI X tg e fs) (hg : DG X tg set) (hb : DSs X sts F) (hs : ∀ x,foldedSetIterable e X.env x = pure x := by intro _; rfl) :
    DS X (.For tg e sts [] pos) (fun δ => (fs δ).bind fun xs => forD set F xs δ) := by
  obtain ⟨wi,pi,ki⟩:=hi
  obtain ⟨g,pg,kg⟩:=hg
  obtain ⟨tb,pb,kb⟩:=hb
  refine ⟨_,ps_for hp hc pi pg pb hs,fun δ r h G0 H0 G H σ D R q => ?_⟩
  obtain ⟨xs,h1,h2⟩:=Option.bind_eq_some_iff.mp h
  refine ki δ xs h1 G0 H0 G H σ [] _ R fun J Ga Ha Ra it => ?_
  refine ⟨fun i m σ' H' => m = xs.length - i∧i≤xs.length∧∃ δ' G',forD set F (xs.drop i) δ' = some r∧Rw G0 H0 G' H' σ' δ' []∧Same Ga G',⟨xs.length,by simp,Nat.zero_le _,δ,Ga,by simpa using h2,Ra,Same.refl _⟩,?_⟩
  rintro i m σ1 H1 ⟨rfl,hi,δ1,G1,f1,R1,s1⟩
  have sH : Same Ga H1:=s1.trans R1.ins
  by_cases hlt : i < xs.length
  · right
    have hx : xs[i]? = some xs[i] := by simp [hlt]
    refine ⟨it.go i _ H1 hx sH,fun σ' H' => i + 1≤xs.length∧∃ δ' G',forD set F (xs.drop (i + 1)) δ' = some r∧Rw G0 H0 G' H' σ' δ' []∧Same Ga G',fun σ' H' n => ⟨xs.length - (i + 1),by lia,rfl,n⟩,fun x H' y => ?_⟩
    obtain ⟨G2,e1,e2,e3,e4,e5⟩:=it.yld i _ H1 x H' hx sH y G1 s1 R1.ins
    have R2:=(R1.lift e1 e2 e3 e4).put e5
    have s2:=s1.trans e1
    rw [List.drop_eq_getElem_cons hlt] at f1
    unfold forD at f1
    cases hb2 : (set xs[i] δ1).bind F with
    | none => rw [hb2] at f1; cases f1
    | some o =>
      obtain ⟨δ2,k1,k2⟩:=Option.bind_eq_some_iff.mp hb2
      rw [hb2] at f1
      have R2b:=R2.base
      refine kg δ1 _ δ2 k1 G2 H0 G2 H' σ1 x _ R2b fun σ3 G3 H3 R3 => ?_
      refine kb δ2 o k2 G2 H0 G3 H3 σ3 _ R3 ?_
      cases o with
      | nx δ3 => exact fun σ4 G4 H4 R4 => ⟨hlt,δ3,G4,f1,R2.drop.unbase R4,s2.trans R4.ext⟩
      | ct δ3 => exact fun σ4 G4 H4 R4 => ⟨hlt,δ3,G4,f1,R2.drop.unbase R4,s2.trans R4.ext⟩
      | bk δ3 => cases f1; exact fun σ4 G4 H4 R4 => q σ4 G4 H4 (R2.drop.unbase R4)
      | rt v => cases f1; exact fun w G4 H4 h1 h2 h3 h4 h5 => q w G4 H4 (R2.ext.trans h1) (R2.new.trans h2) h3 h4 h5
      | rn v => cases f1; exact fun w ys G4 H4 h1 h2 => q w ys G4 H4 (R2.ext.trans h1) (R2.new.trans h2)
  · left
    have e : i = xs.length := by lia
    subst e
    refine ⟨it.stop H1 sH,?_⟩
    rw [List.drop_length] at f1
    unfold forD at f1
    cases f1
    exact q _ _ _ R1
end
def tD (f : Dv→Option PyData) : TE:=fun σ H Q => ∃ δ x G0 H0 G ts,f δ = some x∧Rw G0 H0 G H σ δ ts∧∀ v G' H',Rw G0 H0 G' H' σ δ ((x,v) :: ts)→Q v H'
def tDT (f : Dv→Option Bool) : TT:=fun σ H Q => ∃ δ x G0 H0 G ts,f δ = some x∧Rw G0 H0 G H σ δ ts∧∀ G' H',Rw G0 H0 G' H' σ δ ts→Q x H'
theorem DE.pe {X : Cx} {e : Expr} {f : Dv→Option PyData} (h : DE X e f) : PE X e (tD f) := by
  obtain ⟨t,p,k⟩:=h
  intro pins s σ H Q I q
  obtain ⟨δ,x,G0,H0,G,ts,h1,h2,h3⟩:=q
  exact p pins s σ H Q I (k δ x h1 G0 H0 G H σ ts Q h2 h3)
def DIf (X : Cx) (ifs : List Expr) (f : Dv→Option Bool) : Prop:=PIf X ifs (tDT f)
theorem dif_nil {X : Cx} : DIf X [] (fun _ => some true) := by
  intro pins s σ H Q I q
  obtain ⟨δ,x,G0,H0,G,ts,h1,h2,h3⟩:=q
  cases h1
  exact pif_nil pins s σ H Q I (h3 _ _ h2)
def carryD (fr : List (Option Nat)) (δ : Dv) : Dv:=fr.map fun o => match o with
  | some j => (match δ[j]? with | some (.d x) => .d x | _ => .no)
  | none => .no
theorem Rw.inner {G0 H0 G H : Hp} {σ : St} {δ : Dv} {ts : List (PyData×V)} (fr : List (Option Nat)) (r : Rw G0 H0 G H σ δ ts) : Rw G H G H (carry fr σ) (carryD fr δ) ts := by
  have key : ∀ (i : Nat) (l : L),(carryD fr δ)[i]? = some l→∃ o,fr[i]? = some o∧l = (match o with | some j => (match δ[j]? with | some (.d x) => .d x | _ => .no) | none => .no):=fun i l h => by
    unfold carryD at h
    rw [List.getElem?_map] at h
    obtain ⟨o,h1,rfl⟩:=Option.map_eq_some_iff.mp h
    exact ⟨o,h1,rfl⟩
  have noown : ∀ (i : Nat) (xs : Oc),(carryD fr δ)[i]?≠some (L.own xs):=fun i xs h => by
    obtain ⟨o,_,h2⟩:=key i _ h
    split at h2
    · split at h2 <;> cases h2
    · cases h2
  refine ⟨Same.refl _,Nw.refl,r.ins,Same.refl _,by simp [carry,carryD],fun i x h => ?_,fun i xs h => absurd h (noown i xs),fun i j xs ys _ h => absurd h (noown i xs),r.tmp⟩
  obtain ⟨o,h1,h2⟩:=key i _ h
  split at h2
  · rename_i j
    split at h2
    · rename_i y hy
      cases h2
      obtain ⟨v,k1,k2⟩:=r.dat j _ hy
      refine ⟨v,?_,k2⟩
      unfold carry
      rw [List.getElem?_map,h1]
      simp [k1]
    · cases h2
  · cases h2
theorem Rw.other {G0 H0 G H : Hp} {σ : St} {δ : Dv} {ts : List (PyData×V)} {D : Addr} {o : HO} (r : Rw G0 H0 G H σ δ ts) (hG : G D = none) (h0 : H0 D = none) (ho : ∀ (i : Nat) (xs : Oc),δ[i]? = some (L.own xs)→σ[i]?≠some (some (V.ref D))) : Rw G0 H0 G (upd H D o) σ δ ts := by
  refine ⟨r.ext,r.new,fun a u h => ?_,fun a u h => ?_,r.len,r.dat,fun i xs h => ?_,r.apart,r.tmp⟩
  · rw [upd_ne (fun z => by subst z; rw [hG] at h; cases h)]; exact r.ins _ _ h
  · rw [upd_ne (fun z => by subst z; rw [h0] at h; cases h)]; exact r.keep _ _ h
  · obtain ⟨a,ys,k1,k2,k3,k4,k5⟩:=r.own i xs h
    exact ⟨a,ys,k1,k2,k3,by rw [upd_ne (fun z => by subst z; exact ho i xs h k1)]; exact k4,k5⟩
theorem Rw.adopt {G0 H0 G H : Hp} {σ : St} {δ : Dv} {ts : List (PyData×V)} {D : Addr} {ys : List V} (r : Rw G0 H0 G H σ δ ts) (hD : H D = some (.lst ys)) (hG : G D = none) (h0 : H0 D = none) (ho : ∀ (i : Nat) (xs : Oc),δ[i]? = some (L.own xs)→σ[i]?≠some (some (V.ref D))) : Rw G0 H0 (upd G D (.lst ys)) H σ δ ts := by
  have e : Same G (upd G D (.lst ys)):=same_new hG _
  refine ⟨r.ext.trans e,fun a u h => ?_,fun a u h => ?_,r.keep,r.len,fun i x h => ?_,fun i xs h => ?_,r.apart,fun q hq => (r.tmp q hq).same e⟩
  · by_cases ha : a = D
    · subst ha; exact .inr (.inl h0)
    · rw [upd_ne ha] at h; exact r.new _ _ h
  · by_cases ha : a = D
    · subst ha; rw [upd_same] at h; rw [hD]; exact h
    · rw [upd_ne ha] at h; exact r.ins _ _ h
  · obtain ⟨v,k1,k2⟩:=r.dat i x h
    exact ⟨v,k1,k2.same e⟩
  · obtain ⟨a,zs,k1,k2,k3,k4,k5⟩:=r.own i xs h
    have ha : a≠D:=fun z => by subst z; exact ho i xs h k1
    exact ⟨a,zs,k1,by rw [upd_ne ha]; exact k2,k3,k4,k5.same e⟩
def oneD (set : PyData→Dv→Option Dv) (tif : Dv→Option Bool) (f : Dv→Option PyData) (δ : Dv) (x : PyData) : Option (Option PyData) :=
  (set x δ).bind fun δ1 => (tif δ1).bind fun b => if b = true then (f δ1).map some else some none
def collect (one : PyData→Option (Option PyData)) : List PyData→Option (List PyData)
  | [] => some []
  | x :: xs => (one x).bind fun o => (collect one xs).map fun r => o.toList ++ r
def compL (set : PyData→Dv→Option Dv) (tif : Dv→Option Bool) (f : Dv→Option PyData) (fr : List (Option Nat)) (fs : Dv→Option (List PyData)) (δ : Dv) : Option (List PyData) :=
  (fs δ).bind fun xs => (collect (oneD set tif f (carryD fr δ)) xs).bind few
def compD (set : PyData→Dv→Option Dv) (tif : Dv→Option Bool) (f : Dv→Option PyData) (fr : List (Option Nat)) (fs : Dv→Option (List PyData)) (δ : Dv) : Option PyData :=
  (compL set tif f fr fs δ).map .list
structure CompInv (G0 H0 Ga : Hp) (σ : St) (δ : Dv) (ts : List (PyData×V)) (one : PyData→Option (Option PyData)) (xs full : List PyData) (D : Addr) (i : Nat) (ys : List V) (H : Hp) : Prop where
  ex : ∃ G done rest,Rw G0 H0 G H σ δ ts∧Same Ga G∧G D = none∧collect one (xs.drop i) = some rest∧done ++ rest = full∧DuA G done ys
  h0 : H0 D = none
  ap : ∀ (j : Nat) (us : Oc),δ[j]? = some (L.own us)→σ[j]?≠some (some (V.ref D))
theorem notD {G0 H0 G H : Hp} {D : Addr} {ys : List V} (hG : G0 D = none) (hD : H0 D = some (.lst ys)) (n : Nw G0 H0 G) (e : Same G H) (k : Same H0 H) : G D = none := by
  cases q : G D with
  | none => rfl
  | some o =>
    rcases n _ _ q with z | z | ⟨us,z⟩
    · rw [hG] at z; cases z
    · rw [hD] at z; cases z
    · have:=e _ _ q
      rw [k _ _ hD,z] at this; cases this
section
variable {X : Cx} {elt iter : Expr} {x y : Str} {px pos : Pos}  {ifs : List Expr} {scope : Scope} {fs : Dv→Option (List PyData)} {tif : Dv→Option Bool} {f : Dv→Option PyData}
def set1 (i : Nat) (y : PyData) (δ : Dv) : Option Dv:=some (δ.set i (.d y))
theorem comp_readN {wi : TI} {ix : Nat} {fr : List (Option Nat)} (ki : ∀ (δ : Dv) (xs : List PyData),fs δ = some xs→∀ (G0 H0 G H : Hp) (σ : St) (ts : List (PyData×V)) (R : It→Hp→Prop),Rw G0 H0 G H σ δ ts→(∀ J G' H',Rw G0 H0 G' H' σ δ ts→ItOk J xs G'→R J H')→wi σ H R) {δ : Dv} {zs : List PyData} (hz : compL (set1 ix) tif f fr fs δ = some zs) {G0 H0 G H : Hp} {σ : St} {ts : List (PyData×V)} {Q : VK} (R0 : Rw G0 H0 G H σ δ ts) (k : ∀ D ys G' H',Rw G0 H0 G' H' σ δ ts→H' D = some (.lst ys)→G' D = none→H0 D = none→(∀ (j : Nat) (us : Oc),δ[j]? = some (L.own us)→σ[j]?≠some (some (V.ref D)))→DuA G' zs ys→Q (.ref D) H') :
    tComp wi fr ix (tDT tif) (tD f) σ H Q := by
  unfold compL at hz
  obtain ⟨xs,m2,m3⟩:=Option.bind_eq_some_iff.mp hz
  obtain ⟨full,m4,m5⟩:=Option.bind_eq_some_iff.mp m3
  obtain ⟨rfl,hfew⟩:=few_eq m5
  refine ki δ xs m2 G0 H0 G H σ ts _ R0 fun J Ga Ha Ra it D hD => ?_
  have hGD : Ga D = none := by
    cases q : Ga D with
    | none => rfl
    | some u => rw [Ra.ins _ _ q] at hD; cases hD
  have hHD : H0 D = none := by
    cases q : H0 D with
    | none => rfl
    | some u => rw [Ra.keep _ _ q] at hD; cases hD
  have hap : ∀ (j : Nat) (us : Oc),δ[j]? = some (L.own us)→σ[j]?≠some (some (V.ref D)):=fun j us h z => by
    obtain ⟨a,ys,k1,k2,k3,k4,k5⟩:=Ra.own j us h
    rw [z] at k1; cases k1
    rw [k4] at hD; cases hD
  refine comp_by (n:=xs.length) (CompInv G0 H0 Ga σ δ ts (oneD (set1 ix) tif f (carryD fr δ)) xs full D) ⟨⟨Ga,[],full,Ra.other hGD hHD hap,Same.refl _,hGD,by simpa using m4,rfl,.nil⟩,hHD,hap⟩ ?_ ?_
  · rintro i ys H1 hlt ⟨⟨G1,done,rest,R1,s1,g1,c1,e1,d1⟩,_,_⟩ hD1
    have hx : xs[i]? = some xs[i] := by simp [hlt]
    have sH:=s1.trans R1.ins
    have hyl : ys.length < sizeLine:=dMax_lt (by
      rw [d1.len]
      have : done.length≤full.length := by rw [← e1]; simp
      lia)
    refine ⟨it.go i _ H1 hx sH,hyl,fun v H' y => ?_⟩
    obtain ⟨G2,n1,n2,n3,n4,n5⟩:=it.yld i _ H1 v H' hx sH y G1 s1 R1.ins
    have R2:=R1.lift n1 n2 n3 n4
    have hD2:=n4 _ _ hD1
    have g2 : G2 D = none:=notD g1 hD1 n2 n3 n4
    rw [List.drop_eq_getElem_cons hlt] at c1
    unfold collect at c1
    obtain ⟨o,c2,c3⟩:=Option.bind_eq_some_iff.mp c1
    obtain ⟨rest',c4,rfl⟩:=Option.map_eq_some_iff.mp c3
    unfold oneD set1 at c2
    simp only [Option.bind_some] at c2
    obtain ⟨b,c5,c6⟩:=Option.bind_eq_some_iff.mp c2
    have Ri:=((R2.inner fr).put n5).setD (i:=ix)
    have Ri0 : Rw G2 H' G2 H' ((carry fr σ).set ix (some v)) ((carryD fr δ).set ix (.d xs[i])) []:=Ri.less fun q hq => by cases hq
    refine ⟨_,b,G2,H',G2,[],c5,Ri0,fun G3 H3 R3 => ?_⟩
    have R3o:=R2.lift R3.ext R3.new R3.ins R3.keep
    have hD3:=R3.keep _ _ hD2
    have g3 : G3 D = none:=notD g2 hD2 R3.new R3.ins R3.keep
    dsimp only
    split
    · rename_i hb
      rw [if_pos hb] at c6
      obtain ⟨w,c7,rfl⟩:=Option.map_eq_some_iff.mp c6
      refine ⟨_,w,G2,H',G3,[],c7,R3,fun u G4 H4 R4 => ?_⟩
      have R4o:=R2.lift R4.ext R4.new R4.ins R4.keep
      have hD4:=R4.keep _ _ hD2
      have g4 : G4 D = none:=notD g2 hD2 R4.new R4.ins R4.keep
      refine ⟨hD4,cw_next hlt ⟨⟨G4,done ++ [w],rest',R4o.other g4 hHD hap,s1.trans (n1.trans R4.ext),g4,c4,by simpa using e1,(d1.same (n1.trans R4.ext)).app (.cons (R4.tmp _ (.head _)) .nil)⟩,hHD,hap⟩⟩
    · rename_i hb
      rw [if_neg hb] at c6
      cases c6
      exact cw_skip hlt hD3 ⟨⟨G3,done,rest',R3o,s1.trans (n1.trans R3.ext),g3,c4,by simpa using e1,d1.same (n1.trans R3.ext)⟩,hHD,hap⟩
  · rintro ys H1 ⟨⟨G1,done,rest,R1,s1,g1,c1,e1,d1⟩,_,_⟩ hD1
    refine ⟨it.stop H1 (s1.trans R1.ins),?_⟩
    rw [List.drop_length] at c1
    cases c1
    rw [List.append_nil] at e1
    subst e1
    exact k _ _ _ _ R1 hD1 g1 hHD hap d1
theorem comp_read {wi : TI} {ix : Nat} {fr : List (Option Nat)} (ki : ∀ (δ : Dv) (xs : List PyData),fs δ = some xs→∀ (G0 H0 G H : Hp) (σ : St) (ts : List (PyData×V)) (R : It→Hp→Prop),Rw G0 H0 G H σ δ ts→(∀ J G' H',Rw G0 H0 G' H' σ δ ts→ItOk J xs G'→R J H')→wi σ H R) {δ : Dv} {z : PyData} (hz : compD (set1 ix) tif f fr fs δ = some z) {G0 H0 G H : Hp} {σ : St} {ts : List (PyData×V)} {Q : VK} (R0 : Rw G0 H0 G H σ δ ts) (k : ∀ v G' H',Rw G0 H0 G' H' σ δ ((z,v) :: ts)→Q v H') :
    tComp wi fr ix (tDT tif) (tD f) σ H Q := by
  unfold compD at hz
  obtain ⟨full,m1,rfl⟩:=Option.map_eq_some_iff.mp hz
  refine comp_readN ki m1 R0 fun D ys G1 H1 R1 hD1 g1 hHD hap d1 => ?_
  have e : Same G1 (upd G1 D (.lst ys)):=same_new g1 _
  have R2:=R1.adopt hD1 g1 hHD hap
  refine k _ _ _ (R2.put ?_)
  rw [Du]
  exact ⟨D,ys,rfl,upd_same,d1.same e⟩
theorem de_comp (N : List Str) (ix : Nat) (fr : List (Option Nat)) (hi : DI X (.Name x px) iter fs) (hif : ∀ cl C s₀ H₀ fp,DIf (cxComp X scope cl N C s₀ H₀ fp) ifs tif) (he : ∀ cl C s₀ H₀ fp,DE (cxComp X scope cl N C s₀ H₀ fp) elt f)
    (h1 : compScopeOk scope N x ix = true := by decide +kernel) (h2 : X.calm = true := by rfl) (h3 : frOk N X.N scope X.env.scope fr 0 = true := by rfl) (h4 : fr.length = N.length := by rfl) (h5 : freeOk X.env.scope scope.names = true := by rfl)
    (hs : ∀ x,foldedSetIterable iter X.env x = pure x := by intro _; rfl) : DE X (.ListComp elt [⟨.Name x px,iter,ifs,0⟩] scope pos) (compD (set1 ix) tif f fr fs) := by
  obtain ⟨wi,pi,ki⟩:=hi
  exact ⟨_,pe_compr N ix fr pi hif (fun cl C s₀ H₀ fp => (he cl C s₀ H₀ fp).pe) h1 h2 h3 h4 h5 hs,fun δ z hz G0 H0 G H σ ts Q R0 k => comp_read ki hz R0 k⟩
theorem ds_setComp {i : Nat} {z : Str} {pz spos : Pos} (N : List Str) (ix : Nat) (fr : List (Option Nat)) (hN : X.N.Nodup) (hy : X.N[i]? = some z) (hly : X.env.scope.names.lookup z = some .local) (hi : DI X (.Name x px) iter fs) (hif : ∀ cl C s₀ H₀ fp,DIf (cxComp X scope cl N C s₀ H₀ fp) ifs tif) (he : ∀ cl C s₀ H₀ fp,DE (cxComp X scope cl N C s₀ H₀ fp) elt f)
    (h1 : compScopeOk scope N x ix = true := by decide +kernel) (h2 : X.calm = true := by rfl) (h3 : frOk N X.N scope X.env.scope fr 0 = true := by rfl) (h4 : fr.length = N.length := by rfl) (h5 : freeOk X.env.scope scope.names = true := by rfl)
    (hsw : swapsWith (.ListComp elt [⟨.Name x px,iter,ifs,0⟩] scope pos) (some (.Name z pz)) spos.line X.env = pure true := by rfl)
    (hs : ∀ x,foldedSetIterable iter X.env x = pure x := by intro _; rfl) : DS X (.Assign [.Name z pz] (.ListComp elt [⟨.Name x px,iter,ifs,0⟩] scope pos) spos) (fun δ => (compD (set1 ix) tif f fr fs δ).map fun y => .nx (δ.set i (.d y))) := by
  obtain ⟨wi,pi,ki⟩:=hi
  refine ⟨_,ps_setCompr N ix fr hN hy hly pi hif (fun cl C s₀ H₀ fp => (he cl C s₀ H₀ fp).pe) h1 h2 h3 h4 h5 hsw hs,fun δ r h G0 H0 G H σ D R q => ?_⟩
  obtain ⟨y,h1,rfl⟩:=Option.map_eq_some_iff.mp h
  exact comp_read ki h1 R fun v G' H' R' => q _ _ _ R'.setD
end
section
variable   {x y : Str}       
def iniD (N : List Str) (ds : List PyData) : Dv:=ds.map .d ++ List.replicate (N.length - ds.length) .no
def retD (ps N : List Str) (F : DF) (ds : List PyData) : Option PyData:=if ds.length = ps.length then (match F (iniD N ds) with
  | some (.rt x) => some x
  | some (.nx _) => some .none
  | some (.rn xs) => some (.list xs)
  | _ => none) else none
theorem Rw.start {N : List Str} {ds : List PyData} {vs : List V} {G H : Hp} (d : DuA G ds vs) (e : Same G H) : Rw G H G H (start N vs) (iniD N ds) [] := by
  have hl:=d.len
  refine ⟨Same.refl _,Nw.refl,e,Same.refl _,by simp [L2.start,iniD,hl],fun i x h => ?_,fun i xs h => ?_,fun i j xs ys _ h => ?_,fun q hq => by cases hq⟩
  · unfold iniD at h
    by_cases hi : i < ds.length
    · rw [List.getElem?_append_left (by simpa using hi),List.getElem?_map] at h
      obtain ⟨y,h1,h2⟩:=Option.map_eq_some_iff.mp h
      cases h2
      obtain ⟨v,h3,h4⟩:=d.get h1
      refine ⟨v,?_,h4⟩
      unfold L2.start
      rw [List.getElem?_append_left (by simp; lia),List.getElem?_map,h3]; rfl
    · rw [List.getElem?_append_right (by simpa using hi),List.getElem?_replicate] at h
      split at h <;> cases h
  · unfold iniD at h
    by_cases hi : i < ds.length
    · rw [List.getElem?_append_left (by simpa using hi),List.getElem?_map] at h
      obtain ⟨y,h1,h2⟩:=Option.map_eq_some_iff.mp h
      cases h2
    · rw [List.getElem?_append_right (by simpa using hi),List.getElem?_replicate] at h
      split at h <;> cases h
  · unfold iniD at h
    by_cases hi : i < ds.length
    · rw [List.getElem?_append_left (by simpa using hi),List.getElem?_map] at h
      obtain ⟨y,h1,h2⟩:=Option.map_eq_some_iff.mp h
      cases h2
    · rw [List.getElem?_append_right (by simpa using hi),List.getElem?_replicate] at h
      split at h <;> cases h
theorem keepL {G H G' H' : Hp} {a : Addr} {ys : List V} {xs : List PyData} (m1 : Same G G') (m2 : Nw G H G') (m3 : Same G' H') (m5 : H a = none) (m6 : G' a = none) (m7 : H' a = some (.lst ys)) (m8 : DuA G' xs ys) :
    Same G (upd G' a (.lst ys))∧Nw G H (upd G' a (.lst ys))∧Same (upd G' a (.lst ys)) H'∧Du (upd G' a (.lst ys)) (.list xs) (.ref a) := by
  refine ⟨m1.trans (same_new m6 _),fun b o hb => ?_,fun b o hb => ?_,?_⟩
  · by_cases z : b = a
    · subst z; exact .inr (.inl m5)
    · rw [upd_ne z] at hb; exact m2 _ _ hb
  · by_cases z : b = a
    · subst z; rw [upd_same] at hb; rw [m7]; exact hb
    · rw [upd_ne z] at hb; exact m3 _ _ hb
  · rw [Du]; exact ⟨a,ys,rfl,upd_same,m8.same (same_new m6 _)⟩
theorem okD {P : Program} {w : World} {K : PySem.W.Frag} {mg : Str→Option Value} {base : Heap} {x : Str} {st : Stmt} {fA : Addr} {fd : FuncData} {N ps : List Str} {k : Nat} {F : DF} (T : Fn K mg x st ps fA fd) (S : FnScope N ps (defScope st))
    (hb : ∀ (cdv : Value) (A : Around) (outer : List Env) (s : Shared) (H : Hp) (E : XK),Room k (A.deeper (envOfC x (defScope st) s.heap.objs.size fA cdv))→DSs (cxOf CX0 P w K mg base N x (defScope st) fA cdv A outer s H E).nox (defBody st) F) :
    FnOk P w K mg base CX0 (k + 1) fA fd ps (spD (retD ps N F)) := by
  refine T.F.ok S (fun vs H Q E h => ?_) fun cdv A outer s H vs Q E hr h => ?_
  · obtain ⟨ds,y,G,h1,h2,_⟩:=h
    unfold retD at h1
    split at h1
    · rename_i hl; rw [h2.len]; exact hl
    · cases h1
  · obtain ⟨ds,y,G,h1,h2,h3,h4⟩:=h
    obtain ⟨t,p,kk⟩:=hb cdv A outer s H E hr
    refine ⟨t,p,?_⟩
    unfold retD at h1
    split at h1
    · split at h1
      · rename_i z e1
        cases h1
        exact kk _ _ e1 G H G H _ _ (Rw.start h2 h3) fun v G' H' m1 m2 m3 m4 m5 => h4 v G' H' m1 m2 m3 m4 m5
      · rename_i δ e1
        cases h1
        exact kk _ _ e1 G H G H _ _ (Rw.start h2 h3) fun σ' G' H' R => h4 .non G' H' R.ext R.new R.ins R.keep (by rw [Du])
      · rename_i xs e1
        cases h1
        exact kk _ _ e1 G H G H _ _ (Rw.start h2 h3) fun a ys G' H' m1 m2 m3 m4 m5 m6 m7 m8 => let ⟨n1,n2,n3,n4⟩:=keepL m1 m2 m3 m5 m6 m7 m8; h4 _ _ H' n1 n2 n3 m4 n4
      · cases h1
    · cases h1
end
section
variable {X : Cx} {a e : Expr}  {f h : Dv→Option PyData}   {pos p p2 : Pos}   
def DO (X : Cx) (o : Option Expr) (f : Dv→Option (Option Int)) : Prop:=∃ t,PO X o t∧∀ δ x,f δ = some x→∀ G0 H0 G H σ ts (Q : Option Int→Hp→Prop),Rw G0 H0 G H σ δ ts→(∀ G' H',Rw G0 H0 G' H' σ δ ts→Q x H')→t σ H Q
variable {fo fu : Dv→Option (Option Int)} {lo hi : Option Expr}
theorem do_none : DO X none (fun _ => some none):=⟨_,po_none,fun δ x h G0 H0 G H σ ts Q r k => by cases h; exact k _ _ r⟩
theorem do_some (he : DE X e f) : DO X (some e) (fun δ => (f δ).bind fun x => (asI x).map some) := by
  obtain ⟨t,p,k⟩:=he
  refine ⟨_,po_some p,fun δ z h G0 H0 G H σ ts Q r q => ?_⟩
  obtain ⟨x,h1,h2⟩:=Option.bind_eq_some_iff.mp h
  obtain ⟨i,h3,rfl⟩:=Option.map_eq_some_iff.mp h2
  have:=asI_eq h3; subst this
  refine k δ _ h1 G0 H0 G H σ ts _ r fun v G' H' R' => ?_
  have hv:=R'.tmp _ (.head _)
  rw [Du] at hv
  exact ⟨i,hv,q _ _ R'.drop⟩
def cutD (xs : List PyData) (lo hi : Option Int) : List PyData:=(xs.drop (HT.sIx xs.length 0 lo)).take (HT.sIx xs.length xs.length hi - HT.sIx xs.length 0 lo)
theorem DuA.cut {H : Hp} {ds : List PyData} {xs : List V} (h : DuA H ds xs) (lo hi : Option Int) : DuA H (cutD ds lo hi) (cutV xs lo hi) := by
  unfold cutD cutV
  rw [h.len]
  exact (h.drop _).take _
def dCut (x : PyData) (lo hi : Option Int) : Option PyData:=match x with
  | .list xs => some (.list (cutD xs lo hi))
  | .tuple xs => if ¬ (HT.sIx xs.length 0 lo = 0∧HT.sIx xs.length xs.length hi = xs.length) then some (.tuple (cutD xs lo hi)) else none
  | _ => none
theorem de_slice (he : DE X e f) (hl : DO X lo fo) (hh : DO X hi fu) : DE X (.Subscript e (.Slice lo hi none p2) pos) (fun δ => (f δ).bind fun x => (fo δ).bind fun l => (fu δ).bind fun u => dCut x l u) := by
  obtain ⟨te,pe,ke⟩:=he
  obtain ⟨tl,pl,kl⟩:=hl
  obtain ⟨th,ph,kh⟩:=hh
  refine ⟨_,pe_slice (sl_list.or sl_tup) pe pl ph,fun δ z hz G0 H0 G H σ ts Q R0 k => ?_⟩
  obtain ⟨x,h1,h2⟩:=Option.bind_eq_some_iff.mp hz
  obtain ⟨l,h3,h4⟩:=Option.bind_eq_some_iff.mp h2
  obtain ⟨u,h5,h6⟩:=Option.bind_eq_some_iff.mp h4
  refine ke δ x h1 G0 H0 G H σ ts _ R0 fun v G1 H1 R1 => ?_
  refine kl δ l h3 G0 H0 G1 H1 σ _ _ R1 fun G2 H2 R2 => ?_
  refine kh δ u h5 G0 H0 G2 H2 σ _ _ R2 fun G3 H3 R3 => ?_
  have du:=R3.tmp _ (.head _)
  unfold dCut at h6
  split at h6
  · cases h6
    rw [Du] at du
    obtain ⟨a,ys,rfl,n1,n2⟩:=du
    exact .inl ⟨a,ys,rfl,SqL.of (R3.ins _ _ n1),fun q hq => k _ _ _ (R3.drop.newL (n2.cut l u) hq)⟩
  · split at h6
    · rename_i hc
      cases h6
      rw [Du] at du
      obtain ⟨a,ys,rfl,n1,n2⟩:=du
      exact .inr ⟨a,ys,rfl,SqT.of (R3.ins _ _ n1),by rw [n2.len]; exact hc,fun q hq => k _ _ _ (R3.drop.newT (n2.cut l u) hq)⟩
    · cases h6
  · cases h6
end
open PySem
abbrev fC (x : PyData) : Dv→Option PyData:=fun _ => some x
abbrev fNeg (f : Dv→Option PyData) : Dv→Option PyData:=fun δ => (f δ).bind fun x => (asI x).map fun i => .int (-i)
abbrev fNil : Dv→Option (List PyData):=fun _ => some []
abbrev fCons (f : Dv→Option PyData) (fs : Dv→Option (List PyData)) : Dv→Option (List PyData):=fun δ => (f δ).bind fun x => (fs δ).map fun xs => x :: xs
abbrev fTup (fs : Dv→Option (List PyData)) : Dv→Option PyData:=fun δ => ((fs δ).bind few).map .tuple
abbrev fLst (fs : Dv→Option (List PyData)) : Dv→Option PyData:=fun δ => ((fs δ).bind few).map .list
abbrev fCall (m : List PyData→Option PyData) (fs : Dv→Option (List PyData)) : Dv→Option PyData:=fun δ => (fs δ).bind m
abbrev oNone : Dv→Option (Option Int):=fun _ => some none
abbrev oSome (f : Dv→Option PyData) : Dv→Option (Option Int):=fun δ => (f δ).bind fun x => (asI x).map some
abbrev fCut (f : Dv→Option PyData) (fo fu : Dv→Option (Option Int)) : Dv→Option PyData:=fun δ => (f δ).bind fun x => (fo δ).bind fun l => (fu δ).bind fun u => dCut x l u
abbrev bVal (f : Dv→Option PyData) : Dv→Option Bool:=fun δ => (f δ).bind asB
abbrev bCmp (o : PyData→PyData→Option PyData) (f g : Dv→Option PyData) : Dv→Option Bool:=fun δ => (op2 o f g δ).bind asB
abbrev bNot (f : Dv→Option Bool) : Dv→Option Bool:=fun δ => (f δ).map fun c => !c
abbrev iSeq (f : Dv→Option PyData) : Dv→Option (List PyData):=fun δ => (f δ).bind seqOf
abbrev iCall (m : List PyData→Option (List PyData)) (fs : Dv→Option (List PyData)) : Dv→Option (List PyData):=fun δ => (fs δ).bind m
abbrev bYes : Dv→Option Bool:=fun _ => some true
abbrev setN (i : Nat) : PyData→Dv→Option Dv:=fun y δ => some (δ.set i (.d y))
abbrev sNext : DF:=fun δ => some (.nx δ)
abbrev sRet (f : Dv→Option PyData) : DF:=fun δ => (f δ).map .rt
abbrev sIf (c : Dv→Option Bool) (F G : DF) : DF:=fun δ => (c δ).bind fun c => if c = true then F δ else G δ
abbrev sSet (i : Nat) (f : Dv→Option PyData) : DF:=fun δ => (f δ).map fun y => .nx (δ.set i (.d y))
abbrev sFor (fs : Dv→Option (List PyData)) (set : PyData→Dv→Option Dv) (F : DF) : DF:=fun δ => (fs δ).bind fun xs => forD set F xs δ
theorem spD_imp {P : Program} {w : World} {K : PySem.W.Frag} {mg : Str→Option Value} {base : Heap} {CX : CXT} {k : Nat} {f : Addr} {fd : FuncData} {ps : List Str} {sp : Sp} {m : List PyData→Option PyData} (F : FnOk P w K mg base CX k f fd ps sp)
    (h : ∀ ds x,m ds = some x→∀ (G H : Hp) (vs : List V) (Q : VK) (E : XK),DuA G ds vs→Same G H→(∀ v G' H',Same G G'→Nw G H G'→Same G' H'→Same H H'→Du G' x v→Q v H')→sp vs H Q E) : FnOk P w K mg base CX k f fd ps (spD m) :=
  F.imp fun vs H Q E z => by
    obtain ⟨ds,x,G,h1,h2,h3,h4⟩:=z
    exact h ds x h1 G H vs Q E h2 h3 h4
section
variable {F F1 F2 : DF} {δ δ' : Dv} {r : Option Ou} {c : Dv→Option Bool} {f g : Dv→Option PyData} {fs : Dv→Option (List PyData)}
theorem seqD_nx (h : F1 δ = some (.nx δ')) (k : F2 δ' = r) : seqD F1 F2 δ = r := by unfold seqD; rw [h]; exact k
theorem sIf_t (h : c δ = some true) (k : F1 δ = r) : sIf c F1 F2 δ = r := by show (c δ).bind _ = r; rw [h]; exact k
theorem sIf_f (h : c δ = some false) (k : F2 δ = r) : sIf c F1 F2 δ = r := by show (c δ).bind _ = r; rw [h]; exact k
theorem sSet_is {i : Nat} {y : PyData} (h : f δ = some y) : sSet i f δ = some (.nx (δ.set i (.d y))) := by show (f δ).map _ = _; rw [h]; rfl
theorem sRet_is {y : PyData} (h : f δ = some y) : sRet f δ = some (.rt y) := by show (f δ).map _ = _; rw [h]; rfl
theorem op2_is {o : PyData→PyData→Option PyData} {x y : PyData} {z : Option PyData} (h1 : f δ = some x) (h2 : g δ = some y) (h3 : o x y = z) : op2 o f g δ = z := by unfold op2; rw [h1,h2]; exact h3
theorem fCall_is {m : List PyData→Option PyData} {xs : List PyData} {z : Option PyData} (h1 : fs δ = some xs) (h2 : m xs = z) : fCall m fs δ = z := by show (fs δ).bind m = z; rw [h1]; exact h2
theorem fCons_is {x : PyData} {xs : List PyData} (h1 : f δ = some x) (h2 : fs δ = some xs) : fCons f fs δ = some (x :: xs) := by show (f δ).bind _ = _; rw [h1]; show (fs δ).map _ = _; rw [h2]; rfl
theorem fLst_is {xs : List PyData} (h : fs δ = some xs) (hl : xs.length≤dMax) : fLst fs δ = some (.list xs) := by show ((fs δ).bind few).map _ = _; rw [h]; show (few xs).map _ = _; unfold few; rw [if_pos hl]; rfl
theorem bCmp_is {o : PyData→PyData→Option PyData} {x y : PyData} {b : Bool} (h1 : f δ = some x) (h2 : g δ = some y) (h3 : o x y = some (.bool b)) : bCmp o f g δ = some b := by show (op2 o f g δ).bind asB = _; rw [op2_is h1 h2 h3]; rfl
theorem bNot_is {a : Dv→Option Bool} {b : Bool} (h : a δ = some b) : bNot a δ = some (!b) := by show (a δ).map _ = _; rw [h]; rfl
theorem bVal_is {b : Bool} (h : f δ = some (.bool b)) : bVal f δ = some b := by show (f δ).bind asB = _; rw [h]; rfl
theorem forD_inv {set : PyData→Dv→Option Dv} (Iv : Nat→Dv→Prop) : ∀ (xs : List PyData) (δ : Dv) (n : Nat),Iv n δ→(∀ (i : Nat) (x : PyData) (δ : Dv),xs[i]? = some x→Iv (n + i) δ→∃ δ1 δ2,set x δ = some δ1∧F δ1 = some (.nx δ2)∧Iv (n + i + 1) δ2) →
    ∃ δ',forD set F xs δ = some (.nx δ')∧Iv (n + xs.length) δ'
  | [],δ,n,h,_ => ⟨δ,rfl,h⟩
  | x :: xs,δ,n,h,k => by
    obtain ⟨δ1,δ2,h1,h2,h3⟩:=k 0 x δ rfl h
    obtain ⟨δ',h4,h5⟩:=forD_inv Iv xs δ2 (n + 1) h3 fun i y δ hy hv => by
      have:=k (i + 1) y δ (by simpa using hy) (by rw [show n + (i + 1) = n + 1 + i by lia]; exact hv)
      rw [show n + (i + 1) + 1 = n + 1 + i + 1 by lia] at this
      exact this
    refine ⟨δ',?_,by rw [List.length_cons,show n + (xs.length + 1) = n + 1 + xs.length by lia]; exact h5⟩
    unfold forD
    rw [h1,Option.bind_some,h2]
    exact h4
theorem sFor_inv {set : PyData→Dv→Option Dv} {xs : List PyData} (Iv : Nat→Dv→Prop) (hx : fs δ = some xs) (h0 : Iv 0 δ) (hs : ∀ (i : Nat) (x : PyData) (δ : Dv),xs[i]? = some x→Iv i δ→∃ δ1 δ2,set x δ = some δ1∧F δ1 = some (.nx δ2)∧Iv (i + 1) δ2) :
    ∃ δ',sFor fs set F δ = some (.nx δ')∧Iv xs.length δ' := by
  obtain ⟨δ',h1,h2⟩:=forD_inv (F:=F) (set:=set) Iv xs δ 0 h0 fun i x δ hx hv => by
    have:=hs i x δ hx (by simpa using hv)
    simpa using this
  refine ⟨δ',?_,by simpa using h2⟩
  show (fs δ).bind _ = _
  rw [hx]; exact h1
end
theorem retD_rt {ps N : List Str} {F : DF} {ds : List PyData} {x : PyData} (hl : ds.length = ps.length) (h : F (iniD N ds) = some (.rt x)) : retD ps N F ds = some x := by unfold retD; rw [if_pos hl,h]
theorem rng_get {lo : Int} {n i : Nat} {x : PyData} (h : (rngD lo n)[i]? = some x) : x = .int (lo + (i : Nat))∧i < n := by
  unfold rngD at h
  rw [List.getElem?_map] at h
  obtain ⟨j,hj,rfl⟩:=Option.map_eq_some_iff.mp h
  have hl:=(List.getElem?_eq_some_iff.mp hj).1
  rw [List.getElem?_range (by simpa using hl)] at hj
  cases hj
  exact ⟨rfl,by simpa using hl⟩
theorem rng_is {δ : Dv} {f : Dv→Option PyData} {j : Int} (h : f δ = some (.int j)) (h0 : -1000000≤j) (h1 : j≤1000000) : iCall rng1 (fCons f fNil) δ = some (rngD 0 j.toNat) := by
  show (fCons f fNil δ).bind rng1 = _
  rw [fCons_is h (show fNil δ = some [] from rfl)]
  exact if_pos ⟨h0,h1⟩
theorem fit_of {n : Nat} {i : Int} (h : i.natAbs < 2 ^ n) : fitI n i = true:=decide_eq_true h
theorem mul_ok {i j : Int} (h : mulOk i j = true) : dMul (.int i) (.int j) = some (.int (i * j)) := by
  show orD iMul lRep (.int i) (.int j) = _
  unfold orD
  rw [show iMul (.int i) (.int j) = some (.int (i * j)) from if_pos h]
theorem mod_is {i j : Int} (h : 0 < j) : iMod (.int i) (.int j) = some (.int (i % j)) := by
  show (if j≠0 then some (PyData.int (i.fmod j)) else none) = _
  rw [if_pos (by lia),Int.fmod_eq_emod_of_nonneg _ (by lia)]
end L2
set_option maxHeartbeats 2000000
set_option maxHeartbeats 1000000
set_option maxHeartbeats 4000000
set_option maxHeartbeats 1000000
set_option maxHeartbeats 4000000
set_option maxHeartbeats 1000000
set_option maxHeartbeats 4000000
set_option maxHeartbeats 1000000
set_option maxHeartbeats 4000000
set_option maxHeartbeats 1000000
set_option maxHeartbeats 4000000
set_option maxHeartbeats 1000000
set_option maxHeartbeats 2000000
set_option maxHeartbeats 4000000
set_option maxHeartbeats 1000000
set_option maxHeartbeats 4000000
set_option maxHeartbeats 1000000
set_option maxHeartbeats 4000000
set_option maxHeartbeats 1000000
set_option maxHeartbeats 4000000
namespace L2
open PySem PySem.Spec PyProof.Rows
theorem newEnvK {M : Model} {A : Around} {E : Value→Shared→Prop} {s : Shared} {scope : Scope} {globals : Addr} {closure : List (Str×Addr)} {qual : Str} {func : Option Addr} {code : Value} {ar : Env} {b : Addr} {Q : Env→Shared→Prop}
    (h : Q (newEnv scope s.heap.objs.size globals (cellsFrom (s.heap.objs.size + 1) scope.names closure) qual func code (some ar) b) { s with heap:=pushCells (s.heap.push { cls:=.type "dict",data:=.dict #[] }) scope.names }) :
    wpAny M A (newFunctionEnv scope globals closure [] qual func code (some ar) b) Q E s := by
  simp only [newFunctionEnv,Option.isSome_some,if_true]
  refine wpAny_bind (wpAny_alloc ?_)
  refine wpAny_bind (wpAny_layCells _ (fun name kind cells => by cases hkc : kind == NameKind.cell <;> simp [hkc]) _ _ _ _ ?_)
  rw [show ({ s with heap:=s.heap.push { cls:=.type "dict",data:=.dict #[] } } : Shared).heap.objs.size = s.heap.objs.size + 1 from Heap.size_push ..]
  exact wpAny_bind (by rw [List.forIn_nil]; exact wpAny_pure (wpAny_pure h))
theorem cf_look : ∀ (names : List (Str×NameKind)) (h : Heap) (acc : List (Str×Addr)) (n : Nat),h.objs.size = n→∀ {y : Str} {c : Addr},(cellsFrom n names acc).lookup y = some c→acc.lookup y = some c∨(n≤c∧(pushCells h names).IsCell c none)
  | [],h,acc,n,hn,y,c,e => .inl e
  | (m,k) :: r,h,acc,n,hn,y,c,e => by
    unfold cellsFrom at e
    unfold pushCells
    by_cases hk : (k == .cell) = true
    · rw [if_pos hk] at e
      rw [if_pos hk]
      rcases cf_look r (h.push { cls:=.type "cell",data:=.cell none }) _ (n + 1) (by rw [Heap.size_push,hn]) e with z | ⟨z1,z2⟩
      · rw [List.lookup_cons] at z
        by_cases hy : (y == m) = true
        · rw [hy] at z
          cases z
          exact .inr ⟨Nat.le_refl _,⟨_,pushCells_keeps _ _ _ _ (hn ▸ Heap.get?_push_size _ rfl),rfl⟩⟩
        · rw [Bool.not_eq_true] at hy
          rw [hy] at z
          exact .inl z
      · exact .inr ⟨by lia,z2⟩
    · rw [if_neg hk] at e
      rw [if_neg hk]
      exact cf_look r h acc n hn e
theorem cf_free : ∀ (names : List (Str×NameKind)) (acc : List (Str×Addr)) (n : Nat) {y : Str},(y,NameKind.cell) ∉ names→(cellsFrom n names acc).lookup y = acc.lookup y
  | [],acc,n,y,_ => rfl
  | (m,k) :: r,acc,n,y,h => by
    unfold cellsFrom
    have hr : (y,NameKind.cell) ∉ r:=fun z => h (List.mem_cons_of_mem _ z)
    by_cases hk : (k == .cell) = true
    · rw [if_pos hk,cf_free r _ _ hr,List.lookup_cons]
      have : (y == m) = false := by
        cases e : y == m with
        | false => rfl
        | true =>
          have e1 := beq_iff_eq.mp e
          have e2 := beq_iff_eq.mp hk
          subst e1 e2
          exact absurd List.mem_cons_self h
      rw [this]
    · rw [if_neg hk,cf_free r _ _ hr]
theorem cf_ge : ∀ (names : List (Str×NameKind)) (acc : List (Str×Addr)) (n : Nat) {y : Str} {n0 c0 : Nat},acc.lookup y = some c0→n0≤c0→n0≤n→∃ c,(cellsFrom n names acc).lookup y = some c∧n0≤c
  | [],acc,n,y,n0,c0,h,hc,_ => ⟨c0,h,hc⟩
  | (m,k) :: r,acc,n,y,n0,c0,h,hc,hn => by
    unfold cellsFrom
    by_cases hk : (k == .cell) = true
    · rw [if_pos hk]
      cases e : y == m with
      | true => exact cf_ge r _ _ (c0:=n) (by rw [List.lookup_cons,e]) hn (by lia)
      | false => exact cf_ge r _ _ (c0:=c0) (by rw [List.lookup_cons,e]; exact h) hc (by lia)
    · rw [if_neg hk]
      exact cf_ge r _ _ h hc hn
theorem cf_some : ∀ (names : List (Str×NameKind)) (acc : List (Str×Addr)) (n : Nat) {y : Str},(y,NameKind.cell)∈names→∃ c,(cellsFrom n names acc).lookup y = some c∧n≤c
  | [],acc,n,y,h => by cases h
  | (m,k) :: r,acc,n,y,h => by
    unfold cellsFrom
    rcases List.mem_cons.mp h with e | h
    · injection e with e1 e2
      subst e1 e2
      show ∃ c,(cellsFrom (n + 1) r ((y,n) :: acc)).lookup y = some c∧n≤c
      exact cf_ge r _ _ (c0:=n) (by rw [List.lookup_cons,beq_self_eq_true]) (Nat.le_refl _) (by lia)
    · by_cases hk : (k == .cell) = true
      · rw [if_pos hk]
        obtain ⟨c,h1,h2⟩:=cf_some r ((m,n) :: acc) (n + 1) h
        exact ⟨c,h1,by lia⟩
      · rw [if_neg hk]
        exact cf_some r acc n h
theorem cf_inj : ∀ (names : List (Str×NameKind)) (acc : List (Str×Addr)) (n : Nat),(∀ x y c,acc.lookup x = some c→acc.lookup y = some c→x = y)→(∀ x c,acc.lookup x = some c→c < n) →
    ∀ x y c,(cellsFrom n names acc).lookup x = some c→(cellsFrom n names acc).lookup y = some c→x = y
  | [],acc,n,h,_ => h
  | (m,k) :: r,acc,n,h,hb => by
    unfold cellsFrom
    by_cases hk : (k == .cell) = true
    · rw [if_pos hk]
      refine cf_inj r _ _ (fun x y c h1 h2 => ?_) fun x c h1 => ?_
      · rw [List.lookup_cons] at h1 h2
        cases e1 : x == m <;> cases e2 : y == m <;> rw [e1] at h1 <;> rw [e2] at h2
        · exact h x y c h1 h2
        · cases h2
          exact absurd (hb _ _ h1) (Nat.lt_irrefl _)
        · cases h1
          exact absurd (hb _ _ h2) (Nat.lt_irrefl _)
        · rw [beq_iff_eq.mp e1,beq_iff_eq.mp e2]
      · rw [List.lookup_cons] at h1
        cases e1 : x == m <;> rw [e1] at h1
        · exact Nat.lt_succ_of_lt (hb _ _ h1)
        · cases h1
          exact Nat.lt_succ_self _
    · rw [if_neg hk]
      exact cf_inj r _ _ h hb
def cxCompK (X : Cx) (scope : Scope) (cl : List (Str×Addr)) (N : List Str) (C : Addr) (s₀ : Shared) (H₀ : Hp) (fp : List Addr) : Cx :=
  { cxComp X scope (cellsFrom (C + 1) scope.names cl) N C s₀ H₀ fp with fn:=fun y => decide (scope.names.lookup y = some .cell) }
structure CompScopeK (scope : Scope) : Prop where
  kind : scope.kind = .function
  names : ∀ y∈scope.names,y.2 = .local→scope.names.lookup y.1 = some .local
  free : ∀ y∈scope.names,y.2 = .free→scope.names.lookup y.1 = some .free
  cells : ∀ y∈scope.names,y.2 = .cell→scope.names.lookup y.1 = some .cell
theorem relabel_kindK {scope : Scope} {env : Env} {n : Str} (h : (relabel scope env).names.lookup n = some .cell∨(relabel scope env).names.lookup n = some .free) : ∃ k,(n,k)∈scope.names∧(k = NameKind.free∨k = NameKind.cell) := by
  have key : ∀ k',(relabel scope env).names.lookup n = some k'→(k' = .cell∨k' = .free)→∃ k,(n,k)∈scope.names∧(k = NameKind.free∨k = NameKind.cell):=fun k' h hk => by
    have hm:=lookup_mem h
    unfold relabel at hm
    obtain ⟨⟨m,k⟩,hy,e⟩:=List.mem_map.mp hm
    dsimp only at e
    by_cases hcond : (k == NameKind.free && env.scope.kind == .function && env.kindOf m == some .cell) = true
    · rw [if_pos hcond] at e
      injection e with e1 e2
      subst e1
      refine ⟨k,hy,?_⟩
      simp only [Bool.and_eq_true,beq_iff_eq] at hcond
      exact .inl hcond.1.1
    · rw [if_neg hcond] at e
      injection e with e1 e2
      subst e1 e2
      exact ⟨_,hy,hk.symm⟩
  rcases h with h | h
  · exact key _ h (.inl rfl)
  · exact key _ h (.inr rfl)
theorem relabel_cell {env : Env} : ∀ {names : List (Str×NameKind)} {x : Str},names.lookup x = some .cell→(names.map fun (n,k) => if (k == .free && env.scope.kind == .function && env.kindOf n == some .cell) then (n,NameKind.cell) else (n,k)).lookup x = some .cell
  | (n,k) :: r,x,h => by
    rw [List.map_cons]
    rw [List.lookup_cons] at h
    cases e : x == n with
    | true =>
      rw [e] at h
      cases h
      simp [List.lookup_cons,e]
    | false =>
      rw [e] at h
      have:=relabel_cell (env:=env) (names:=r) h
      dsimp only
      split <;> rw [List.lookup_cons,e] <;> exact this
section
variable {X : Cx} {elt iter : Expr} {x : Str} {px pos : Pos} {ifs : List Expr} {scope : Scope} {wi : TI} {fr : List (Option Nat)} {ix : Nat} {tif : TT} {te : TE} {N : List Str}
theorem comp_blockK {pins : List (Addr×Obj)} {σ : St} {H2 : Hp} {s2 : Shared} {Q : VK} {it : Addr} {fp : List Addr} {tn : Nat→Heap→Prop} {J : It} {cl : List (Str×Addr)} {E : Value→Shared→Prop} {RR : Value→Addr→Result→Shared→Prop}
    (S : CompScopeK scope) (hcalm : X.calm = true) {tgE : Expr} {g : TG} (Rv : St→Prop) (r0 : Rv (carry fr σ)) (hpg : ∀ C,PG (cxCompK X scope cl N C s2 H2 fp) tgE g) (hfr : frOk N X.N scope X.env.scope fr 0 = true) (hlen : fr.length = N.length)
    (hif : ∀ cl C s₀ H₀ fp,PIf (cxCompK X scope cl N C s₀ H₀ fp) ifs tif) (he : ∀ cl C s₀ H₀ fp,PE (cxCompK X scope cl N C s₀ H₀ fp) elt te)
    (I2 : Inv X pins σ H2 s2) (T : Turn X.prog X.w X.K tgE J fp it tn) (st2 : tn 0 s2.heap) (f2 : ∀ b∈fp,FpOk X pins H2 b)
    (c1 : ∀ x c,cl.lookup x = some c→X.env.cells.lookup x = some c) (c2 : ∀ x∈scope.names,x.2 = NameKind.free→∃ c,cl.lookup x.1 = some c)
    (W : ∀ D,H2 D = none→∃ W : Nat→Nat→List V→Hp→Prop,(∃ m,W 0 m [] (upd H2 D (.lst []))) ∧
      ∀ i m ys H,W i m ys H→H D = some (.lst ys)∧((J.stop i H∧Q (.ref D) H)∨(J.go i H∧ys.length < sizeLine∧∀ x H',J.yld i H x H'→∀ σ',Rv σ'→g x σ' H' fun σ6 H6 => Rv σ6 ∧
        tif σ6 H6 fun b H2 => if b = true then te σ6 H2 fun y H3 => H3 D = some (.lst ys)∧∃ m',m' < m∧W (i + 1) m' (ys ++ [y]) (upd H3 D (.lst (ys ++ [y])))
          else ∃ m',m' < m∧W (i + 1) m' ys H2)))
    (fin : ∀ (D C : Addr) (s' : Shared) (H' : Hp) m,s'.heap.Ns C m→Q (.ref D) H'→(∀ h',Heap.SameBut C s'.heap h'→Inv X pins σ H' { s' with heap:=h' })→C≠D→(∀ b o,s2.heap.get? b = some o→b≠C)→H' C = none→s2.heap.objs.size≤C→RR (.ref D) C (.ok .next) s') :
    wpAny (model X.prog X.w) X.A (newList []) (fun acc s₃ => wpAny (model X.prog X.w) X.A (newFunctionEnv scope X.env.globals cl [] X.env.qual none .none (some X.env)) (fun cenv s₄ =>
      codeAny (model X.prog X.w) X.A (.compStart (.ListComp elt [⟨tgE,iter,ifs,0⟩] scope pos) 0 (.ref it) acc { cenv with scope:=relabel scope X.env }) (RR acc cenv.locals) s₄) E s₃) E s2 := by
  refine wpAny_newObj_type (newEnvK ?_)
  dsimp only
  generalize hHp : s2.heap.push { cls:=.type "list",dict:=none,data:=.seq ([] : List Value).toArray } = Hq
  generalize hh1 : pushCells (Hq.push { cls:=.type "dict",data:=.dict #[] }) scope.names = h₁
  have kq : ∀ b o,Hq.get? b = some o→h₁.get? b = some o:=fun b o e => hh1 ▸ pushCells_keeps _ _ b o (Heap.get?_push_of_some _ e)
  have hns₁ : h₁.Ns Hq.objs.size (fun _ => none):=hh1 ▸ (Heap.Ns.new Hq (.type "dict")).keeps (pushCells_keeps _ _)
  have hC : Hq.objs.size = s2.heap.objs.size + 1 := by rw [← hHp,Heap.size_push]
  have hDC : s2.heap.objs.size≠Hq.objs.size := by rw [hC]; exact Nat.ne_of_lt (Nat.lt_succ_self _)
  have below : ∀ b,b < s2.heap.objs.size→b≠Hq.objs.size∧b≠s2.heap.objs.size:=fun b hb => ⟨by rw [hC]; exact Nat.ne_of_lt (Nat.lt_succ_of_lt hb),Nat.ne_of_lt hb⟩
  have old : ∀ b o,s2.heap.get? b = some o→h₁.get? b = some o:=fun b o e => kq b o (hHp ▸ Heap.get?_push_of_some _ e)
  have hacc : h₁.get? s2.heap.objs.size = some { cls:=.type "list",data:=.seq ([] : List Value).toArray }:=kq _ _ (hHp ▸ Heap.get?_push_size _ rfl)
  have hD2 : H2 s2.heap.objs.size = none:=I2.hok.fresh (Nat.le_refl _)
  have hC2 : H2 Hq.objs.size = none:=I2.hok.fresh (by rw [hC]; exact Nat.le_succ _)
  have fpo : ∀ b∈fp,b < s2.heap.objs.size:=fun b hb => by
    obtain ⟨o,e,_⟩:=T.obj _ _ st2 b hb
    exact Heap.lt_size e
  obtain ⟨W,⟨m0,w0⟩,turn⟩:=W s2.heap.objs.size hD2
  have hlt : s2.heap.objs.size < Hq.objs.size := by rw [hC]; exact Nat.lt_succ_self _
  have sq : (Hq.push { cls:=.type "dict",data:=.dict #[] }).objs.size = Hq.objs.size + 1:=Heap.size_push ..
  have k1 : ∀ y c,(cellsFrom (Hq.objs.size + 1) scope.names cl).lookup y = some c→X.env.cells.lookup y = some c∨(Hq.objs.size < c∧h₁.IsCell c none):=fun y c e => by
    rcases cf_look scope.names (Hq.push { cls:=.type "dict",data:=.dict #[] }) cl (Hq.objs.size + 1) sq e with z | z
    · exact .inl (c1 _ _ z)
    · exact .inr (hh1 ▸ z)
  have cold : ∀ y c,X.env.cells.lookup y = some c→c < s2.heap.objs.size:=fun y c e => by
    obtain ⟨v,o,ho,_⟩:=I2.cell y c e
    exact Heap.lt_size ho
  have kfree : ∀ y,scope.names.lookup y = some .free→(cellsFrom (Hq.objs.size + 1) scope.names cl).lookup y = cl.lookup y:=fun y e => cf_free scope.names cl _ fun hm => by
    have:=S.cells _ hm rfl
    rw [e] at this; cases this
  have ok : (cxCompK X scope cl N Hq.objs.size s2 H2 fp).Ok := by
    refine ⟨I2.ok.mod,S.kind,I2.ok.glob,I2.ok.blt,by show s2.heap.objs.size≤Hq.objs.size; rw [hC]; exact Nat.le_succ _,?_,?_,?_,fun _ => I2.ok.hd hcalm,I2.ok.frames,.inl rfl,?_,I2.bs,Nat.le_trans I2.ok.bsz I2.sz,?_,?_,I2.stack,I2.stkFree,I2.kt⟩
    · exact cf_inj scope.names cl _ (fun a b c h1 h2 => I2.ok.inj a b c (c1 _ _ h1) (c1 _ _ h2)) fun a c h => by
        exact Nat.lt_succ_of_lt (Nat.lt_trans (cold a c (c1 _ _ h)) hlt)
    · intro y hy
      obtain ⟨k,hm,hk⟩:=relabel_kindK hy
      rcases hk with rfl | rfl
      · obtain ⟨c,hc⟩:=c2 _ hm rfl
        exact ⟨c,by rw [show (cxCompK X scope cl N Hq.objs.size s2 H2 fp).env.cells.lookup y = _ from kfree y (S.free _ hm rfl)]; exact hc⟩
      · obtain ⟨c,hc,_⟩:=cf_some scope.names cl (Hq.objs.size + 1) hm
        exact ⟨c,hc⟩
    · intro y c hf e
      obtain ⟨c',hc,hge⟩:=cf_some scope.names cl (Hq.objs.size + 1) (lookup_mem (of_decide_eq_true hf))
      have e' : (cellsFrom (Hq.objs.size + 1) scope.names cl).lookup y = some c:=e
      rw [hc] at e'; cases e'
      exact Nat.le_trans (Nat.le_of_lt hlt) (Nat.le_of_succ_le hge)
    · intro b hb
      refine ⟨(below b (fpo b hb)).1,fun y c e => ?_⟩
      obtain ⟨_,_,_,_,f5,_⟩:=f2 b hb
      rcases k1 _ _ e with z | ⟨z,_⟩
      · exact f5 y c z
      · exact Nat.ne_of_gt (Nat.lt_trans (fpo b hb) (Nat.lt_trans hlt z))
    · intro b o e hb
      obtain ⟨_,_,_,f4,_,_⟩:=f2 b hb
      rcases f4 with z | z
      · exact I2.ok.noex b o e z
      · exact absurd (Nat.lt_of_lt_of_le (Heap.lt_size e) (Nat.le_trans I2.ok.bsz z)) (Nat.lt_irrefl _)
    · intro b hb hs
      obtain ⟨_,f1,f3,_⟩:=f2 b hb
      rcases List.mem_cons.mp (I2.stkSub b hs) with z | z
      · exact f1 z
      · exact f3 z
  have I4 : Inv (cxCompK X scope cl N Hq.objs.size s2 H2 fp) [] (carry fr σ) (upd H2 s2.heap.objs.size (.lst [])) { s2 with heap:=h₁,toks:=s2.toks } := by
    refine ⟨ok,rfl,I2.bare,Un.laid old (Nat.le_refl _) hD2,⟨_,hns₁,fun i y v h1 h2 h3 => ?_⟩,fun y c e => ?_,?_,fun y c e => ?_,fun p hp => (by cases hp),I2.hok.laid old (Nat.le_refl _) ⟨Nat.zero_le _,[],0,.nil,hacc⟩,?_⟩
    · obtain ⟨j,e1,e2⟩:=carry_get h2
      obtain ⟨n,n1,n2,n3,n4⟩:=frOk_get hfr e1
      rw [Nat.zero_add] at n1
      have : y = n := by
        have h1' : N[i]? = some y:=h1
        rw [h1'] at n1; exact Option.some.inj n1
      subst this
      obtain ⟨m,hn,hl⟩:=I2.loc
      obtain ⟨u,ru,lk⟩:=hl j y v n2 e2 (.inr (.inl n4))
      refine ⟨u,ru,?_⟩
      obtain ⟨c,hc⟩:=c2 _ (lookup_mem n3) rfl
      rcases lk with ⟨k1,_⟩ | ⟨_,c',hc',hcell⟩
      · have k1' : X.env.scope.names.lookup y = some .local:=k1
        rw [n4] at k1'; cases k1'
      · have:=c1 _ _ hc
        rw [hc'] at this; cases this
        refine .inr ⟨?_,c,(kfree y n3).trans hc,hcell.keeps old⟩
        rcases h3 with z | z | z
        · obtain ⟨k,hm⟩ : ∃ k,(y,k)∈scope.names∧k = NameKind.local := by
            have hm:=lookup_mem z
            have hm' : (y,NameKind.local)∈(relabel scope X.env).names:=hm
            unfold relabel at hm'
            obtain ⟨⟨m',k⟩,hy,e⟩:=List.mem_map.mp hm'
            dsimp only at e
            by_cases hcond : (k == NameKind.free && X.env.scope.kind == .function && X.env.kindOf m' == some .cell) = true
            · rw [if_pos hcond] at e; injection e with _ e2'; cases e2'
            · rw [if_neg hcond] at e; injection e with e1' e2'; subst e1' e2'; exact ⟨_,hy,rfl⟩
          obtain ⟨hm,rfl⟩:=hm
          have:=S.names _ hm rfl
          rw [n3] at this; cases this
        · exact .inl z
        · exact .inr z
    · rcases k1 _ _ e with z | ⟨_,z⟩
      · obtain ⟨v,z⟩:=I2.cell y c z
        exact ⟨v,z.keeps old⟩
      · exact ⟨_,z⟩
    · show upd H2 s2.heap.objs.size _ Hq.objs.size = none
      rw [upd_ne (Ne.symm hDC)]; exact hC2
    · rcases k1 _ _ e with z | ⟨z,_⟩
      · rw [upd_ne (below c (cold _ _ z)).2]
        exact I2.freeC y c z
      · rw [upd_ne (Nat.ne_of_gt (Nat.lt_trans hlt z))]
        exact I2.hok.fresh (Nat.le_of_lt (Nat.lt_trans hlt z))
    · show (carry fr σ).length = N.length
      unfold carry
      rw [List.length_map]; exact hlen
  have fpX : ∀ (p : List (Addr×Obj)) (H' : Hp),(∀ q∈p,q.1∈fp→False)→(∀ b∈fp,H' b = none)→∀ b∈fp,FpOk (cxCompK X scope cl N Hq.objs.size s2 H2 fp) p H' b:=fun p H' hp hn b hb => by
    obtain ⟨_,f1,f3,f4,f5,_⟩:=f2 b hb
    refine ⟨hn b hb,(below b (fpo b hb)).1,fun hs => ok.exfs b hb hs,.inl hb,fun y c e => ?_,fun q hq e => ?_⟩
    · rcases k1 _ _ e with z | ⟨z,_⟩
      · exact f5 y c z
      · exact Nat.ne_of_gt (Nat.lt_trans (fpo b hb) (Nat.lt_trans hlt z))
    exact hp q hq (e ▸ hb)
  have loop : ∀ s₃ : Shared,s₃ = { s2 with heap:=h₁,toks:=s2.toks } →
      codeAny (model X.prog X.w) X.A (.compLoop (.ListComp elt [⟨tgE,iter,ifs,0⟩] scope pos) 0 (.ref it) (.ref s2.heap.objs.size) (compEnvC scope (cellsFrom (Hq.objs.size + 1) scope.names cl) Hq.objs.size X.env)) (RR (.ref s2.heap.objs.size) Hq.objs.size) s₃ := by
    rintro s₃ rfl
    refine codeAny_compLoop_testsT (fun n s' => ∃ i ys σ' H',Inv (cxCompK X scope cl N Hq.objs.size s2 H2 fp) [] σ' H' s'∧Rv σ'∧tn i s'.heap∧(∀ b∈fp,H' b = none)∧W i n ys H') ?_ m0
      ⟨0,[],carry fr σ,_,I4,r0,T.keep _ _ _ st2 fun b _ o e => old b o e,fun b hb => by rw [upd_ne (below b (fpo b hb)).2]; exact (f2 b hb).1,w0⟩
    rintro n s3 ⟨i,ys,σ3,H3,I3,hσ,st3,fr3,w3⟩
    obtain ⟨hD3,way⟩:=turn i n ys H3 w3
    rcases way with ⟨stop,qn⟩ | ⟨go,hsz,step⟩
    · refine wpAny_mono (T.done (cxCompK X scope cl N Hq.objs.size s2 H2 fp) rfl rfl rfl hcalm i [] s3 σ3 H3 (fun _ _ => False) I3 (fpX [] H3 (fun _ z => by cases z) fr3) st3 stop) (fun r s4 ⟨hr,I5⟩ => ?_) fun _ _ z => z.elim
      subst hr
      obtain ⟨m,hn,_⟩:=id I5.loc
      refine fin _ _ s4 H3 m hn qn (fun h' hs' => ?_) (Ne.symm hDC) (fun b o e => (below b (Heap.lt_size e)).1) I5.free (by rw [hC]; exact Nat.le_succ _)
      have nC : ∀ b u,H3 b = some u→b≠Hq.objs.size:=fun b u e z => by
        have:=I5.free
        rw [show (cxCompK X scope cl N Hq.objs.size s2 H2 fp).env.locals = Hq.objs.size from rfl,← z,e] at this
        cases this
      have keepU : Un (frs X.stack) fp H2 H3 s2.heap h' := by
        have u:=I5.base
        refine ⟨fun b o e n hb hx => ?_,fun b o e n hb hx => ?_,fun b o e n hx => u.free b o e n hx,fun b o e hx => ?_,u.tups,u.frzs,u.tbls,fun b xs o q e hx => (hs'.2 b (below b (Heap.lt_size e)).1).trans (u.tupo b xs o q e hx)⟩
        · exact (hs'.2 b (below b (Heap.lt_size e)).1).trans (u.keep b o e n hb hx)
        · obtain ⟨sl,e1⟩:=u.slot b o e n hb hx
          exact ⟨sl,(hs'.2 b (below b (Heap.lt_size e)).1).trans e1⟩
        · obtain ⟨o',e1⟩:=u.there b o e hx
          exact ⟨o',(hs'.2 b (below b (Heap.lt_size e)).1).trans e1⟩
      have hok' : HOk X.prog X.w H3 h':=fun b u e => (I5.hok b u e).stay (fun c v hc q => (hs'.2 c (by
        rcases hc with rfl | hc
        · exact nC _ _ e
        · exact nC _ _ hc)).trans q) (fun _ q => q) fun _ _ q => q
      refine I2.call' (s':={ s4 with heap:=h' }) (ch:=fp) I5.os keepU hok' I5.bare fun b hb => ?_
      obtain ⟨_,f1,_,f4,f5,f6⟩:=f2 b hb
      exact ⟨f4,f1,f5,f6⟩
    · refine wpAny_mono (T.item (cxCompK X scope cl N Hq.objs.size s2 H2 fp) rfl rfl rfl hcalm i [] s3 σ3 H3 (fun _ _ => False) I3 (fpX [] H3 (fun _ z => by cases z) fr3) st3 go) (fun r s4 ⟨u,hr,h4⟩ => ?_) fun _ _ z => z.elim
      subst hr
      show wpAny (model X.prog X.w) X.A (letOwnedTupleGo tgE (.ref it) u >>= fun _ => assign tgE (compEnvC scope (cellsFrom (Hq.objs.size + 1) scope.names cl) Hq.objs.size X.env) u) _ _ s4
      refine wpAny_bind (wpAny_mono h4 (fun _ s5 ⟨xv,H5,I5,r5,y5,st5,fr5⟩ => ?_) fun _ _ z => z.elim)
      have I5':=I5.pinned (fpX [] H5 (fun _ z => by cases z) fr5) (T.obj _ _ st5)
      refine wpAny_mono (hpg _ _ s5 σ3 H5 xv u _ I5' r5 (step xv H5 y5 σ3 hσ)) (fun _ s6 ⟨σ6,H6,I6,rv6,step5⟩ => ?_) fun _ _ z => z.elim
      refine wpAny_mono (hif _ _ _ _ _ _ s6 _ H6 _ I6 step5) (fun b s7 ⟨H7,I7,q7⟩ => ?_) fun _ _ z => z.elim
      have again : ∀ {s8 : Shared} {H8 : Hp} {k : Nat} {zs : List V},Inv (cxCompK X scope cl N Hq.objs.size s2 H2 fp) ([] ++ pinsAt fp s5.heap) σ6 H8 s8→W (i + 1) k zs H8→k < n →
          ∃ m,m < n∧∃ i ys σ' H',Inv (cxCompK X scope cl N Hq.objs.size s2 H2 fp) [] σ' H' s8∧Rv σ'∧tn i s8.heap∧(∀ b∈fp,H' b = none)∧W i m ys H':=fun {s8 H8 k zs} I8 w8 hk => by
        refine ⟨k,hk,i + 1,zs,_,H8,I8.unpinned,rv6,T.keep _ _ _ st5 fun b hb o e => (I8.pin (b,o) (List.mem_append_right _ (List.mem_append_right _ (mem_pinsAt hb e)))).1,fun b hb => ?_,w8⟩
        obtain ⟨o,e,d⟩:=T.obj _ _ st5 b hb
        exact (I8.pin (b,o) (List.mem_append_right _ (List.mem_append_right _ (mem_pinsAt hb e)))).2.1
      cases b with
      | false =>
        rw [if_neg Bool.false_ne_true] at q7 ⊢
        obtain ⟨k,hk,w7⟩:=q7
        exact again I7 w7 hk
      | true =>
        rw [if_pos rfl] at q7 ⊢
        refine wpAny_mono (he _ _ _ _ _ _ s7 _ H7 _ I7 q7) (fun yv s8 ⟨y,H8,I8,r8,hD8,k,hk,w8⟩ => ?_) fun _ _ z => z.elim
        refine wpAny_mono (mt_append (X:=cxCompK X scope cl N Hq.objs.size s2 H2 fp) _ s8 _ H8 (.ref s2.heap.objs.size) [y] (.ref s2.heap.objs.size) [yv] (fun _ H9 => H9 = upd H8 s2.heap.objs.size (.lst (ys ++ [y]))) I8 rfl (.cons r8 .nil) ⟨_,ys,y,rfl,rfl,hD8,hsz,rfl⟩) (fun _ s9 ⟨_,H9,I9,_,e9⟩ => ?_) fun _ _ z => z.elim
        subst e9
        exact again I9 w8 hk
  exact codeAny_compStart_list (loop _ rfl) (T.self X.A 0 _ _ _ (T.keep _ _ _ st2 fun b _ o e => old b o e) (loop _ rfl))
theorem comp_blockK1 {pins : List (Addr×Obj)} {σ : St} {H2 : Hp} {s2 : Shared} {Q : VK} {it : Addr} {fp : List Addr} {tn : Nat→Heap→Prop} {J : It} {cl : List (Str×Addr)} {E : Value→Shared→Prop} {RR : Value→Addr→Result→Shared→Prop}
    (S : CompScopeK scope) (nd : N.Nodup) (at_ : N[ix]? = some x) (hx : scope.names.lookup x = some .cell) (hcalm : X.calm = true) (hfr : frOk N X.N scope X.env.scope fr 0 = true) (hlen : fr.length = N.length)
    (hif : ∀ cl C s₀ H₀ fp,PIf (cxCompK X scope cl N C s₀ H₀ fp) ifs tif) (he : ∀ cl C s₀ H₀ fp,PE (cxCompK X scope cl N C s₀ H₀ fp) elt te)
    (I2 : Inv X pins σ H2 s2) (T : Turn X.prog X.w X.K (.Name x px) J fp it tn) (st2 : tn 0 s2.heap) (f2 : ∀ b∈fp,FpOk X pins H2 b)
    (c1 : ∀ x c,cl.lookup x = some c→X.env.cells.lookup x = some c) (c2 : ∀ x∈scope.names,x.2 = NameKind.free→∃ c,cl.lookup x.1 = some c)
    (W : ∀ D,H2 D = none→∃ W : Nat→Nat→List V→Hp→Prop,(∃ m,W 0 m [] (upd H2 D (.lst []))) ∧
      ∀ i m ys H,W i m ys H→H D = some (.lst ys)∧((J.stop i H∧Q (.ref D) H)∨(J.go i H∧ys.length < sizeLine∧∀ x H',J.yld i H x H' →
        tif ((carry fr σ).set ix (some x)) H' fun b H2 => if b = true then te ((carry fr σ).set ix (some x)) H2 fun y H3 => H3 D = some (.lst ys)∧∃ m',m' < m∧W (i + 1) m' (ys ++ [y]) (upd H3 D (.lst (ys ++ [y])))
          else ∃ m',m' < m∧W (i + 1) m' ys H2)))
    (fin : ∀ (D C : Addr) (s' : Shared) (H' : Hp) m,s'.heap.Ns C m→Q (.ref D) H'→(∀ h',Heap.SameBut C s'.heap h'→Inv X pins σ H' { s' with heap:=h' })→C≠D→(∀ b o,s2.heap.get? b = some o→b≠C)→H' C = none→s2.heap.objs.size≤C→RR (.ref D) C (.ok .next) s') :
    wpAny (model X.prog X.w) X.A (newList []) (fun acc s₃ => wpAny (model X.prog X.w) X.A (newFunctionEnv scope X.env.globals cl [] X.env.qual none .none (some X.env)) (fun cenv s₄ =>
      codeAny (model X.prog X.w) X.A (.compStart (.ListComp elt [⟨.Name x px,iter,ifs,0⟩] scope pos) 0 (.ref it) acc { cenv with scope:=relabel scope X.env }) (RR acc cenv.locals) s₄) E s₃) E s2 := by
  have hxv : (relabel scope X.env).names.lookup x = some .cell:=relabel_cell hx
  refine comp_blockK S hcalm (fun σ' => ∀ v,σ'.set ix v = (carry fr σ).set ix v) (fun _ => rfl) (fun C => pg_name (X:=cxCompK X scope cl N C s2 H2 fp) nd at_ (.inr hxv) (.inl (decide_eq_true hx))) hfr hlen hif he I2 T st2 f2 c1 c2 (fun D hD => ?_) fin
  obtain ⟨W,w0,st⟩:=W D hD
  refine ⟨W,w0,fun i m ys H w => ?_⟩
  obtain ⟨h1,h2 | ⟨h2,h3,h4⟩⟩:=st i m ys H w
  · exact ⟨h1,.inl h2⟩
  · refine ⟨h1,.inr ⟨h2,h3,fun x H' hy σ' hr => ?_⟩⟩
    have:=h4 x H' hy
    rw [← hr] at this
    exact ⟨fun v => by rw [List.set_set,hr],this⟩
theorem ps_setCompK {i : Nat} {y : Str} {py spos : Pos} (hN : X.N.Nodup) (hy : X.N[i]? = some y) (hly : X.env.scope.names.lookup y = some .local) (S : CompScopeK scope) (nd : N.Nodup) (at_ : N[ix]? = some x) (hx : scope.names.lookup x = some .cell) (hcalm : X.calm = true) (hfr : frOk N X.N scope X.env.scope fr 0 = true) (hlen : fr.length = N.length)
    (hfree : ∀ y∈scope.names,y.2 = .free→X.env.scope.names.lookup y.1 = some .cell∨X.env.scope.names.lookup y.1 = some .free)
    (hi : PI X (.Name x px) iter wi) (hif : ∀ cl C s₀ H₀ fp,PIf (cxCompK X scope cl N C s₀ H₀ fp) ifs tif) (he : ∀ cl C s₀ H₀ fp,PE (cxCompK X scope cl N C s₀ H₀ fp) elt te)
    (hsw : swapsWith (.ListComp elt [⟨.Name x px,iter,ifs,0⟩] scope pos) (some (.Name y py)) spos.line X.env = pure true := by rfl)
    (hs : ∀ x,foldedSetIterable iter X.env x = pure x := by intro _; rfl) :
    PS X (.Assign [.Name y py] (.ListComp elt [⟨.Name x px,iter,ifs,0⟩] scope pos) spos) (tAsg (tComp wi fr ix tif te) (gName i)) := by
  intro pins s σ H D I hw
  obtain ⟨cl,hclos,c1,_,c2⟩:=closure_of (env:=X.env) scope.names [] (fun y hy hf => I.ok.has y.1 (hfree y hy hf)) (fun y c z => by cases z)
  have hclos' : closureFor scope X.env = pure cl := by
    have e : closureFor scope X.env = ((forIn scope.names [] (fun (x : Str×NameKind) (r : List (Str×Addr)) => do if (x.2 == NameKind.free) = true then do let a ← cellOf X.env x.1; pure (ForInStep.yield ((x.1,a) :: r)) else pure (ForInStep.yield r)) : Sem (List (Str×Addr))) >>= fun cs => pure cs):=rfl
    rw [e,hclos]
    rfl
  rw [exec_Assign_Name_used _ _ _ _ hsw]
  refine wpAny_bind (wpAny_standAt (wpAny_bind ?_))
  show wpAny _ X.A (do let _ ← comprehension (.ListComp elt [⟨.Name x px,iter,ifs,0⟩] scope pos) scope X.env _ (newList []) false (eval iter X.env) (some (assign (.Name y py) X.env))) _ _ s
  refine wpAny_bind (wpAny_mono (wpAny_comprehension_free (use:=some (assign (.Name y py) X.env)) (Q:=fun _ s' => SP X pins D .next s') rfl hs hclos' S.kind S.names
    (thn (hi pins s σ H _ I hw) fun v s1 h1 => thn h1 fun itv s2 h2 => ?_)) (fun _ s' hq => wpAny_pure (wpAny_pure hq)) fun _ _ e => e)
  obtain ⟨it,fp,tn,J,H2,e,I2,T,st2,f2,W⟩:=h2
  subst e
  refine comp_blockK1 (Q:=fun x H1 => gName i x σ H1 D.nx) (RR:=fun acc C => compPost (model X.prog X.w) X.A X.xe (some (assign (.Name y py) X.env)) (fun _ s' => SP X pins D .next s') acc C) S nd at_ hx hcalm hfr hlen hif he I2 T st2 f2 c1 c2 W ?_
  intro D' C s' H' m hn q hI hCD hold hfreeC hsz
  have I5 : Inv X pins σ H' s':=hI s'.heap (Heap.SameBut.refl ..)
  refine wpAny_assign_Name (store_ok2 I5 hN hy (.inl hly) (v:=.ref D') rfl (fun s'' I6 ⟨a,hsb,ha⟩ => ?_) (.inr hly))
  have hL : C≠X.env.locals:=fun z => by
    obtain ⟨_,⟨o,_,_,e,_⟩,_⟩:=I2.loc
    exact hold _ _ e z.symm
  have hcl : ∀ z c,X.env.cells.lookup z = some c→c≠C:=fun z c e => by
    obtain ⟨_,o,ho,_⟩:=I2.cell z c e
    exact hold _ _ ho
  have hCa : C≠a := by
    rcases ha with z | z
    · rw [z]; exact hL
    · exact Ne.symm (hcl _ _ z)
  refine ⟨m,hn.sameBut hsb hCa,fun h' hs' => ⟨_,H',I6.turned (t':=s''.toks) (it:=C) (fun b o hb e => (hs'.2 b hb).trans e) hfreeC hL (.inr (Nat.le_trans I2.sz hsz)) hcl fun p hp => ?_,q⟩⟩
  obtain ⟨e,_⟩:=I2.pin p hp
  exact hold _ _ e
end
def compScopeKOk (scope : Scope) (N : List Str) (x : Str) (ix : Nat) : Bool :=
  scope.kind == .function && (scope.names.all fun y => scope.names.lookup y.1 == some y.2) && scope.names.lookup x == some .cell && decide N.Nodup && N[ix]? == some x
theorem compScopeK_of {scope : Scope} {N : List Str} {x : Str} {ix : Nat} (h : compScopeKOk scope N x ix = true) : CompScopeK scope∧scope.names.lookup x = some .cell∧N.Nodup∧N[ix]? = some x := by
  unfold compScopeKOk at h
  simp only [Bool.and_eq_true,beq_iff_eq,decide_eq_true_eq,List.all_eq_true] at h
  obtain ⟨⟨⟨⟨h1,h2⟩,h3⟩,h4⟩,h5⟩:=h
  exact ⟨⟨h1,fun y hy hl => hl ▸ h2 y hy,fun y hy hl => hl ▸ h2 y hy,fun y hy hl => hl ▸ h2 y hy⟩,h3,h4,h5⟩
section
variable {X : Cx} {elt iter : Expr} {x : Str} {px pos : Pos} {ifs : List Expr} {scope : Scope} {wi : TI} {tif : TT} {te : TE}
theorem ps_setComprK {i : Nat} {y : Str} {py spos : Pos} (N : List Str) (ix : Nat) (fr : List (Option Nat)) (hN : X.N.Nodup) (hy : X.N[i]? = some y) (hly : X.env.scope.names.lookup y = some .local)
    (hi : PI X (.Name x px) iter wi) (hif : ∀ cl C s₀ H₀ fp,PIf (cxCompK X scope cl N C s₀ H₀ fp) ifs tif) (he : ∀ cl C s₀ H₀ fp,PE (cxCompK X scope cl N C s₀ H₀ fp) elt te)
    (h1 : compScopeKOk scope N x ix = true := by decide +kernel) (h2 : X.calm = true := by rfl) (h3 : frOk N X.N scope X.env.scope fr 0 = true := by rfl) (h4 : fr.length = N.length := by rfl) (h5 : freeOk X.env.scope scope.names = true := by rfl)
    (hsw : swapsWith (.ListComp elt [⟨.Name x px,iter,ifs,0⟩] scope pos) (some (.Name y py)) spos.line X.env = pure true := by rfl)
    (hs : ∀ x,foldedSetIterable iter X.env x = pure x := by intro _; rfl) : PS X (.Assign [.Name y py] (.ListComp elt [⟨.Name x px,iter,ifs,0⟩] scope pos) spos) (tAsg (tComp wi fr ix tif te) (gName i)) :=
  let ⟨a,b,c,d⟩:=compScopeK_of h1
  ps_setCompK hN hy hly a c d b h2 h3 h4 (freeOk_of h5) hi hif he hsw hs
end
section
variable {X : Cx} {elt iter : Expr} {x y : Str} {px pos : Pos}  {ifs : List Expr} {scope : Scope} {fs : Dv→Option (List PyData)} {tif : Dv→Option Bool} {f : Dv→Option PyData}
theorem ds_setCompK {i : Nat} {z : Str} {pz spos : Pos} (N : List Str) (ix : Nat) (fr : List (Option Nat)) (hN : X.N.Nodup) (hy : X.N[i]? = some z) (hly : X.env.scope.names.lookup z = some .local) (hi : DI X (.Name x px) iter fs) (hif : ∀ cl C s₀ H₀ fp,DIf (cxCompK X scope cl N C s₀ H₀ fp) ifs tif) (he : ∀ cl C s₀ H₀ fp,DE (cxCompK X scope cl N C s₀ H₀ fp) elt f)
    (h1 : compScopeKOk scope N x ix = true := by decide +kernel) (h2 : X.calm = true := by rfl) (h3 : frOk N X.N scope X.env.scope fr 0 = true := by rfl) (h4 : fr.length = N.length := by rfl) (h5 : freeOk X.env.scope scope.names = true := by rfl)
    (hsw : swapsWith (.ListComp elt [⟨.Name x px,iter,ifs,0⟩] scope pos) (some (.Name z pz)) spos.line X.env = pure true := by rfl)
    (hs : ∀ x,foldedSetIterable iter X.env x = pure x := by intro _; rfl) : DS X (.Assign [.Name z pz] (.ListComp elt [⟨.Name x px,iter,ifs,0⟩] scope pos) spos) (fun δ => (compD (set1 ix) tif f fr fs δ).map fun y => .nx (δ.set i (.d y))) := by
  obtain ⟨wi,pi,ki⟩:=hi
  refine ⟨_,ps_setComprK N ix fr hN hy hly pi hif (fun cl C s₀ H₀ fp => (he cl C s₀ H₀ fp).pe) h1 h2 h3 h4 h5 hsw hs,fun δ r h G0 H0 G H σ D R q => ?_⟩
  obtain ⟨y,h1,rfl⟩:=Option.map_eq_some_iff.mp h
  exact comp_read ki h1 R fun v G' H' R' => q _ _ _ R'.setD
end
end L2
namespace TH
open PySem PyProof.Rows PySem.SeqAt
abbrev keyO (d : Addr) (ep n i : Nat) : Obj:={ cls:=.type "dict_keyiterator",data:=.fields #[.ref d,.int (i : Int) 0,.int (n : Int) 0,.int (ep : Int) 0] }
section
variable {prog : Program} {w : World} {A : Around} {E : Value→Shared→Prop} {s : Shared} {d I : Addr} {o : Obj} {es : Array DictEntry} {ep i : Nat}
theorem key_step {Q : Option Value→Shared→Prop} {e : DictEntry} (ho : s.heap.get? d = some o) (hd : o.data = .dict es ep) (hI : s.heap.get? I = some (keyO d ep es.size i)) (hx : es[i]? = some e)
    (h : ∀ h',h'.get? I = some (keyO d ep es.size (i + 1))→Heap.SameBut I s.heap h'→Q (some e.key) { s with heap:=h' }) : wpAny (model prog w) A (pyNext (.ref I)) Q E s := by
  have hT : s.TypeIs (.ref I) "dict_keyiterator" := ⟨_,hI,rfl⟩
  unfold pyNext
  refine wpAny_bind (wpAny_attempt (wpAny_callSpecial?_slot (name:=Str.ofString "__next__") hT F.slot_dict_keyiterator_next (wpAny_call_entry F.slot_dict_keyiterator_next hT F.entry_dict_keyiterator_next ?_ (F.args_dict_keyiterator_next_1 _))))
  refine wpAny_bind (wpAny_pure (wpAny_bind (wpAny_bind (wpAny_bind (wpAny_typeNameOfWhole_keyiter hT (wpAny_pure ?_))))))
  refine wpAny_bind (wpAny_fieldsOf hI rfl ?_)
  have q0 : Builtin.Dict_items.ownsTuple "dict_keyiterator" = false := by decide
  simp only [q0,Bool.false_eq_true,if_false]
  have q1 : ¬ (Value.ref d == Value.none) = true:=Bool.false_ne_true
  show wpAny _ _ (if (Value.ref d == Value.none) = true then _ else _) _ _ s
  rw [if_neg q1]
  refine wpAny_bind (wpAny_pure (wpAny_bind (wpAny_dictEntries ho hd ?_)))
  rw [if_neg (by simp)]
  refine wpAny_bind (wpAny_pure (wpAny_bind (wpAny_dictEpoch ho hd ?_)))
  rw [if_neg (by simp)]
  refine wpAny_pure ?_
  have q2 : ¬ ((i : Int) < 0) := by lia
  simp only [q2,if_false,Int.toNat_natCast,hx]
  refine wpAny_bind (wpAny_bind (wpAny_typeNameOfWhole_keyiter hT (wpAny_pure ?_)))
  refine wpAny_bind (wpAny_isOneOf_keyiter hT ?_)
  show wpAny _ _ (setField (.ref I) 1 (rawInt ((i : Int) + 1)) >>= _) _ _ s
  refine wpAny_bind (wpAny_setField hI rfl (by simp) ?_)
  have g1 : (s.heap.update I (Obj.mapFields (·.setIfInBounds 1 (rawInt ((i : Int) + 1))))).get? I = some (keyO d ep es.size (i + 1)):=Heap.get?_update_self _ hI rfl
  refine wpAny_bind (wpAny_holding (wpAny_bind (wpAny_isOneOf_keyiter ⟨_,g1,rfl⟩ ?_)))
  show wpAny _ _ (pure e.key) _ _ _
  exact wpAny_pure (wpAny_pure ⟨_,rfl,wpAny_pure (h _ g1 (Heap.SameBut.update ..))⟩)
theorem key_stop {Q : Option Value→Shared→Prop} (hh : A.handled = none) (ho : s.heap.get? d = some o) (hd : o.data = .dict es ep) (hI : s.heap.get? I = some (keyO d ep es.size es.size))
    (h : ∀ h',Heap.ExtBut I s.heap h'→Q none { s with heap:=h' }) : wpAny (model prog w) A (pyNext (.ref I)) Q E s := by
  have hT : s.TypeIs (.ref I) "dict_keyiterator" := ⟨_,hI,rfl⟩
  unfold pyNext
  refine wpAny_bind (wpAny_attempt (wpAny_callSpecial?_slot (name:=Str.ofString "__next__") hT F.slot_dict_keyiterator_next (wpAny_call_entry F.slot_dict_keyiterator_next hT F.entry_dict_keyiterator_next ?_ (F.args_dict_keyiterator_next_1 _))))
  refine wpAny_bind (wpAny_pure (wpAny_bind (wpAny_bind (wpAny_bind (wpAny_typeNameOfWhole_keyiter hT (wpAny_pure ?_))))))
  refine wpAny_bind (wpAny_fieldsOf hI rfl ?_)
  have q0 : Builtin.Dict_items.ownsTuple "dict_keyiterator" = false := by decide
  simp only [q0,Bool.false_eq_true,if_false]
  have q1 : ¬ (Value.ref d == Value.none) = true:=Bool.false_ne_true
  show wpAny _ _ (if (Value.ref d == Value.none) = true then _ else _) _ _ s
  rw [if_neg q1]
  refine wpAny_bind (wpAny_pure (wpAny_bind (wpAny_dictEntries ho hd ?_)))
  rw [if_neg (by simp)]
  refine wpAny_bind (wpAny_pure (wpAny_bind (wpAny_dictEpoch ho hd ?_)))
  rw [if_neg (by simp)]
  refine wpAny_pure ?_
  have q2 : ¬ ((es.size : Int) < 0) := by lia
  have q3 : es[es.size]? = none:=Array.getElem?_eq_none (Nat.le_refl _)
  simp only [q2,if_false,Int.toNat_natCast,q3]
  refine wpAny_bind (wpAny_bind (wpAny_typeNameOfWhole_keyiter hT (wpAny_pure ?_)))
  show wpAny _ _ (setField (.ref I) 0 .none >>= _) _ _ s
  refine wpAny_bind (wpAny_setField hI rfl (by simp) ?_)
  refine wpAny_bind ?_
  simp only [newExc,newTuple]
  refine wpAny_bind (wpAny_newObj_type ?_ (by size_fits))
  refine wpAny_bind (m:=firstArgMember _ _) (wpAny_of_eq (a:=Value.none) (by first | rfl | (simp only [firstArgMember]; rfl)) (wpAny_newObj_type ?_ (by size_fits)))
  simp only [raiseNew]
  refine wpAny_bind (wpAny_handled ?_)
  have hh1 : A.in1.handled = none:=hh
  rw [hh1]
  refine wpAny_bind (wpAny_pure (wpAny_throw ?_))
  refine wpAny_bind (wpAny_isInstance (b:=true) (T := "StopIteration") ⟨_,Heap.get?_push_size _ rfl,rfl⟩ isSubtype_stop ?_)
  exact wpAny_pure (h _ (((Heap.SameBut.update ..).extBut.push _).push _))
theorem key_self {Q : Value→Shared→Prop} (hI : s.heap.get? I = some (keyO d ep es.size i)) (h : Q (.ref I) s) : wpAny (model prog w) A (pyIter (.ref I)) Q E s := by
  have hT : s.TypeIs (.ref I) "dict_keyiterator" := ⟨_,hI,rfl⟩
  refine wpAny_pyIter_slot hT F.slot_dict_keyiterator_iter (wpAny_call_entry F.slot_dict_keyiterator_iter hT F.entry_dict_keyiterator_iter ?_ (F.args_dict_keyiterator_iter_1 _))
  show wpAny _ _ (ret (.ref I)) _ _ s
  exact wpAny_pure ⟨_,rfl, "dict_keyiterator",_,hT,F.slot_dict_keyiterator_next.lookup,h⟩
theorem key_iter {Q : Value→Shared→Prop} (hs : (d == sysModules) = false) (ho : s.heap.get? d = some o) (hc : o.cls = .type "dict") (hd : o.data = .dict es ep) (h : Q (.ref s.heap.objs.size) { s with heap:=s.heap.push (keyO d ep es.size 0) }) :
    wpAny (model prog w) A (pyIter (.ref d)) Q E s := by
  have hT : s.TypeIs (.ref d) "dict" := ⟨o,ho,hc⟩
  refine wpAny_pyIter_slot hT F.slot_dict_iter (wpAny_call_entry F.slot_dict_iter hT F.entry_dict_iter ?_ (F.args_dict_iter_1 _))
  unfold Builtin.«dict.__iter__»
  refine wpAny_bind ?_
  unfold Builtin.Dict.dictSlotNone
  refine wpAny_bind (wpAny_notOrdered_dict hT (show wpAny _ _ (pure (Value.ref d)) _ _ s from wpAny_pure ?_))
  have hn : ¬ (d == sysModules) = true := by rw [hs]; exact Bool.false_ne_true
  show wpAny _ _ (Builtin.Dict.showsAll d >>= _) _ _ s
  unfold Builtin.Dict.showsAll
  rw [if_neg hn]
  refine wpAny_bind (wpAny_pure (wpAny_bind (wpAny_dictEntries ho hd (wpAny_bind (wpAny_dictEpoch ho hd ?_)))))
  exact wpAny_bind (wpAny_newObj_type (wpAny_pure ⟨_,rfl, "dict_keyiterator",_,⟨_,Heap.get?_push_size _ rfl,rfl⟩,F.slot_dict_keyiterator_next.lookup,h⟩))
theorem walks_keys (hh : A.handled = none) (hne : d≠I) (hd : o.data = .dict es ep) :
    Walks prog w A I [I,d] [I] es.size (fun i v => ∃ e,es[i]? = some e∧v = e.key) (fun i h => h.get? I = some (keyO d ep es.size i)∧h.get? d = some o) where
  sub:=fun b hb => by simp at hb; simp [hb]
  frame:=fun _ _ _ x k => ⟨k I (by simp) _ x.1,k d (by simp) _ x.2⟩
  item:=fun i s Q E hi x hQ => by
    have hx : es[i]? = some es[i]:=Array.getElem?_eq_getElem hi
    refine key_step x.2 hd x.1 hx fun h' g sb => hQ _ h' s.toks ⟨_,hx,rfl⟩ ⟨g,(sb.2 d hne).trans x.2⟩ fun b u hb e => ?_
    rw [sb.2 b fun q => hb (by simp [q])]
    exact e
  done:=fun s Q E x hQ => key_stop hh x.2 hd x.1 fun h' eb => hQ h' s.toks fun b u hb e => eb b u (fun q => hb (by simp [q])) e
  self:=fun _ _ _ _ x hQ => key_self x.1 hQ
theorem src_keys (hs : (d == sysModules) = false) (hc : o.cls = .type "dict") (hd : o.data = .dict es ep) : PySem.W.KdlSrc prog w "dict" d d es.size (fun i v => ∃ e,es[i]? = some e∧v = e.key) (fun h => h.get? d = some o) where
  type:=fun _ ho => ⟨o,ho,hc⟩
  there:=fun _ ho => ⟨Heap.lt_size ho,Heap.lt_size ho⟩
  keep:=fun _ _ ho k => k d (.inl rfl) _ ho
  notList := by decide
  notTuple := by decide
  hint:=fun _ _ s _ ho h => PySem.W.kdl_hint_dict ⟨o,ho,hc⟩ h
  iter:=fun A s hh ho => ⟨keyO d ep es.size 0,_,(fun E Q h => key_iter hs ho hc hd h),walks_keys hh (Nat.ne_of_lt (Heap.lt_size ho)) hd,⟨Heap.get?_push_size _ rfl,Heap.get?_push_of_some _ ho⟩⟩
end
end TH
namespace SK
open PySem PySem.W PyProof.Rows PySem.SeqAt TH
abbrev Ext (h0 h : Heap) : Prop:=∀ c o,h0.get? c = some o→h.get? c = some o
section
variable {prog : Program} {w : World} {A : Around} {E : Value→Shared→Prop} {s : Shared} {a : Addr} {vs : List Value} {kz : List Int} {P : PySem.Fin→Shared→Prop}
def Told (prog : Program) (w : World) (A : Around) (s : Shared) (h0 : Heap) (f : Value) (vs : List Value) (kz : List Int) : Prop :=
  ∀ (i : Nat) (v : Value) (k : Int),vs[i]? = some v→kz[i]? = some k→∀ (h : Heap) (tk : Nat),Ext h0 h →
    wpAny (model prog w) A (call f [v]) (fun r s' => ∃ h' tk' t',s' = { s with heap:=h',toks:=tk' }∧r = .int k t'∧Ext h h') (fun _ _ => False) { s with heap:=h,toks:=tk }
theorem tail_K {st : SortSt} {kS : Addr} {keys : Array Value} {e e1 : Nat} (nk : s.heap.get? kS = some (seqObj "list" keys e)) (na : s.heap.get? a = some (seqObj "list" #[] e1)) (hka : kS≠a)
    (hk : IntsAre keys.toList kz) (hlen : kz.length = vs.length) (h64 : vs.length < 64) (hp : (arrOf st).Perm (keys.zip vs.toArray)) (hs : SortedTo (arrOf st) (arrOf st).size) (hfl : failedOf st = none)
    (h : ∀ h' out c,(∀ b o,b≠kS→b≠a→s.heap.get? b = some o→h'.get? b = some o)→h'.get? a = some (seqObj "list" out c)→KskOut false kz vs out.toList→P (.done (.ret .none)) { s with heap:=h' }) :
    wpAny (model prog w) A (ksk_tail a false e1 (.ref kS) st) P E s := by
  have hsz : keys.size = vs.length := by
    have h1:=hk.length
    rw [Array.length_toList] at h1
    lia
  have hsz2 : (arrOf st).size = vs.length := by rw [hp.size_eq,Array.size_zip,hsz,List.size_toArray,Nat.min_self]
  have s1:=Heap.SameBut.update s.heap kS (Obj.mapSeq fun _ => (#[] : Array Value))
  have na1 : (s.heap.update kS (Obj.mapSeq fun _ => (#[] : Array Value))).get? a = some (seqObj "list" #[] e1):=(s1.2 a hka.symm).trans na
  have s2:=Heap.SameBut.update (s.heap.update kS (Obj.mapSeq fun _ => (#[] : Array Value))) a (Obj.mapSeq fun _ => if false = true then ((arrOf st).map (·.2)).reverse else (arrOf st).map (·.2))
  obtain ⟨c2,hc2⟩ : ∃ c2,((s.heap.update kS (Obj.mapSeq fun _ => (#[] : Array Value))).update a (Obj.mapSeq fun _ => if false = true then ((arrOf st).map (·.2)).reverse else (arrOf st).map (·.2))).get? a = some (seqObj "list" (if false = true then ((arrOf st).map (·.2)).reverse else (arrOf st).map (·.2)) c2) :=
    ⟨_,get?_update_seq na1 fun _ => if false = true then ((arrOf st).map (·.2)).reverse else (arrOf st).map (·.2)⟩
  unfold ksk_tail
  try dsimp only
  refine wpAny_bind (listUpdate_at nk rfl ?_ (by rw [hsz,sizeLine_eq]; lia) (Nat.zero_le _))
  refine wpAny_bind (wpAny_letGo ?_)
  refine wpAny_bind (seqEpoch_at na1 rfl ?_)
  refine wpAny_bind (listUpdate_at na1 rfl ?_ (Nat.zero_le _) (by
    show (if false = true then ((arrOf st).map (·.2)).reverse else (arrOf st).map (·.2)).size≤_
    rw [if_neg (by decide),Array.size_map,hsz2,sizeLine_eq]; lia))
  rw [hfl]
  simp only [bne_self_eq_false,Bool.false_eq_true,if_false]
  exact wpAny_pure (h _ _ c2 (fun b o h1 h2 q => (s2.2 b h2).trans ((s1.2 b h1).trans q)) hc2 (ksk_out (b:=false) hk hp hs))
theorem end_K {kS : Addr} {keys : Array Value} {e e1 : Nat} (nk : s.heap.get? kS = some (seqObj "list" keys e)) (na : s.heap.get? a = some (seqObj "list" #[] e1)) (hka : kS≠a)
    (hk : IntsAre keys.toList kz) (hlen : kz.length = vs.length) (h64 : vs.length < 64)
    (h : ∀ h' out c,(∀ b o,b≠kS→b≠a→s.heap.get? b = some o→h'.get? b = some o)→h'.get? a = some (seqObj "list" out c)→KskOut false kz vs out.toList→P (.done (.ret .none)) { s with heap:=h' }) :
    wpAny (model prog w) A (ksk_end a false vs.toArray e1 (.ref kS) keys) P E s := by
  have hsz : keys.size = vs.length := by
    have h1:=hk.length
    rw [Array.length_toList] at h1
    lia
  have hzs : (keys.zip vs.toArray).size = vs.length := by rw [Array.size_zip,hsz,List.size_toArray,Nat.min_self]
  unfold ksk_end
  try dsimp only
  simp only [Bool.false_eq_true,if_false]
  by_cases h2 : vs.toArray.size < 2
  · rw [if_pos h2,if_pos h2]
    refine wpAny_bind (wpAny_pure ?_)
    rw [StateT.run_pure]
    refine wpAny_bind (wpAny_pure ?_)
    try dsimp only
    refine tail_K (st:=SortSt.mk' general' (keys.zip vs.toArray) #[] 7 none) nk na hka hk hlen h64 (Array.Perm.refl _) ?_ rfl h
    intro i j hij hj
    have hj2 : j < (keys.zip vs.toArray).size:=hj
    rw [hzs] at hj2
    rw [List.size_toArray] at h2
    have : i = j := by lia
    subst this
    exact Int.le_refl _
  · rw [if_neg h2,if_neg h2]
    rw [List.size_toArray] at h2
    rw [ksk_kind hk (by rw [hsz]; lia)]
    refine wpAny_bind (wpAny_pure ?_)
    refine wpAny_bind (wpAny_mono (wpS_sortRuns (a₀:=keys.zip vs.toArray) (st:=SortSt.mk' oneType' (keys.zip vs.toArray) #[] 7 none)
      (Q:=fun _ st' => (arrOf st').Perm (keys.zip vs.toArray)∧failedOf st' = none∧SortedTo (arrOf st') (keys.zip vs.toArray).size)
      (ksk_intKeys hk) ⟨Array.Perm.refl _,rfl,rfl,rfl⟩ (by rw [hzs]; lia) (by rw [hzs]; exact h64) fun st' a1 a2 a3 => ⟨a1,a2,a3⟩) ?_ fun _ _ e => e)
    rintro ⟨⟨⟩,st'⟩ s' ⟨rfl,hp,hf,hs⟩
    try dsimp only
    exact tail_K nk na hka hk hlen h64 hp (by rw [hp.size_eq]; exact hs) hf h
theorem sort_K {f : Value} {n : Nat} {h0 : Heap} (ho : s.heap.get? a = some (seqObj "list" vs.toArray n)) (hx : ∀ b o,h0.get? b = some o→b≠a∧s.heap.get? b = some o) (hlen : kz.length = vs.length) (h64 : vs.length < 64) (turn : Told prog w A s h0 f vs kz)
    (h : ∀ h' tk out c,(∀ b o,b≠a→s.heap.get? b = some o→h'.get? b = some o)→h'.get? a = some (seqObj "list" out c)→KskOut false kz vs out.toList→P (.done (.ret .none)) { s with heap:=h',toks:=tk }) :
    wpAny (model prog w) A (ksk_tree a f false) P E s := by
  have ha : a < s.heap.objs.size:=Heap.lt_size ho
  have s1:=Heap.SameBut.update s.heap a (Obj.mapSeq fun _ => (#[] : Array Value))
  obtain ⟨e1,ho1⟩ : ∃ e1,(s.heap.update a (Obj.mapSeq fun _ => (#[] : Array Value))).get? a = some (seqObj "list" #[] e1):=⟨_,get?_update_seq ho fun _ => #[]⟩
  have hkS : ((s.heap.update a (Obj.mapSeq fun _ => (#[] : Array Value))).push (seqObj "tuple" vs.toArray 0)).objs.size = s.heap.objs.size + 1 := by rw [size_push',Heap.size_update]
  unfold ksk_tree
  refine wpAny_bind (listItems_at ho rfl ?_)
  refine wpAny_bind (listUpdate_at ho rfl ?_ (by rw [List.size_toArray,sizeLine_eq]; lia) (Nat.zero_le _))
  refine wpAny_bind (seqEpoch_at ho1 rfl ?_)
  refine wpAny_bind (wpAny_newTuple ?_ (by show vs.length≤_; rw [sizeLine_eq]; lia))
  refine wpAny_bind (wpAny_newList ?_ (Nat.zero_le _))
  refine wpAny_holding ?_
  show wpAny (model prog w) A (ksk_rest a f false vs.toArray e1 (.ref ((s.heap.update a (Obj.mapSeq fun _ => (#[] : Array Value))).push (seqObj "tuple" vs.toArray 0)).objs.size)) P E { s with heap:=((s.heap.update a (Obj.mapSeq fun _ => (#[] : Array Value))).push (seqObj "tuple" vs.toArray 0)).push (seqObj "list" #[] 0) }
  have gk : (((s.heap.update a (Obj.mapSeq fun _ => (#[] : Array Value))).push (seqObj "tuple" vs.toArray 0)).push (seqObj "list" #[] 0)).get? ((s.heap.update a (Obj.mapSeq fun _ => (#[] : Array Value))).push (seqObj "tuple" vs.toArray 0)).objs.size = some (seqObj "list" #[] 0):=Heap.get?_push_size _ rfl
  rw [hkS] at gk ⊢
  have ga : (((s.heap.update a (Obj.mapSeq fun _ => (#[] : Array Value))).push (seqObj "tuple" vs.toArray 0)).push (seqObj "list" #[] 0)).get? a = some (seqObj "list" #[] e1):=Heap.get?_push_of_some _ (Heap.get?_push_of_some _ ho1)
  have gb : ∀ b o,b≠a→s.heap.get? b = some o→(((s.heap.update a (Obj.mapSeq fun _ => (#[] : Array Value))).push (seqObj "tuple" vs.toArray 0)).push (seqObj "list" #[] 0)).get? b = some o:=fun b o h1 q => Heap.get?_push_of_some _ (Heap.get?_push_of_some _ ((s1.2 b h1).trans q))
  generalize ((s.heap.update a (Obj.mapSeq fun _ => (#[] : Array Value))).push (seqObj "tuple" vs.toArray 0)).push (seqObj "list" #[] 0) = h6 at gk ga gb
  generalize hK : s.heap.objs.size + 1 = kS at gk
  have hka : kS≠a := by rw [← hK]; exact Nat.ne_of_gt (Nat.lt_succ_of_lt ha)
  have hkb : ∀ b o,s.heap.get? b = some o→b≠kS:=fun b o q => by rw [← hK]; exact Nat.ne_of_lt (Nat.lt_succ_of_lt (Heap.lt_size q))
  unfold ksk_rest
  refine wpAny_bind (wpAny_rule ?_)
  first
    | rw [List.forIn_toArray]
    | (rw [← Array.forIn_toList]; simp only [List.toList_toArray])
    | rw [← Array.forIn_toList]
  refine wpAny_bind (ksk_fold (fun i s' => ∃ h' tk kA e,s' = { s with heap:=h',toks:=tk }∧h'.get? kS = some (seqObj "list" kA e)∧h'.get? a = some (seqObj "list" #[] e1)∧(∀ b o,b≠a→s.heap.get? b = some o→h'.get? b = some o)∧IntsAre kA.toList (kz.take i)) vs 0 { s with heap:=h6 }
    ⟨h6,s.toks,#[],0,rfl,gk,ga,gb,by simpa using IntsAre.nil⟩ ?step ?done)
  case step =>
    rintro j x s' hxj ⟨h',tk,kA,e,rfl,nk,na,nb,hk⟩
    simp only [Nat.zero_add] at hk ⊢
    have hj : j < vs.length:=(List.getElem?_eq_some_iff.mp hxj).1
    obtain ⟨k,hkj⟩ : ∃ k,kz[j]? = some k:=⟨_,List.getElem?_eq_getElem (by lia)⟩
    have hz : kA.size≤vs.length := by
      have h1:=hk.length
      rw [Array.length_toList,List.length_take] at h1
      lia
    refine wpAny_bind (wpAny_attempt (wpAny_mono (turn j x k hxj hkj h' tk fun b o q => nb b o (hx b o q).1 (hx b o q).2) (fun v s'' he => ?_) fun _ _ hF => hF.elim))
    obtain ⟨g,tk2,t2,rfl,rfl,x2⟩:=he
    try dsimp only
    have s2:=Heap.SameBut.update g kS (Obj.mapSeq (·.push (.int k t2)))
    obtain ⟨c2,hc2⟩ : ∃ c2,(g.update kS (Obj.mapSeq (·.push (.int k t2)))).get? kS = some (seqObj "list" (kA.push (.int k t2)) c2):=⟨_,get?_update_seq (x2 _ _ nk) (·.push (.int k t2))⟩
    have ek : kz.take (j + 1) = kz.take j ++ [k] := by rw [List.take_add_one,hkj]; simp
    have ea : (kA.push (Value.int k t2)).toList = kA.toList ++ [Value.int k t2] := by simp
    refine wpAny_bind (listUpdate_at (x2 _ _ nk) rfl ?_ (by rw [sizeLine_eq]; lia) (Nat.le_trans (Nat.le_of_eq (Array.size_push ..)) (by rw [sizeLine_eq]; lia)))
    exact wpAny_pure ⟨rfl,_,_,kA.push (.int k t2),c2,rfl,hc2,(s2.2 a hka.symm).trans (x2 _ _ na),fun b o h1 q => (s2.2 b (hkb b o q)).trans (x2 _ _ (nb b o h1 q)),by rw [ea,ek]; exact ksk_snoc hk⟩
  case done =>
    rintro s' ⟨h',tk,kA,e,rfl,nk,na,nb,hk⟩
    have hk' : IntsAre kA.toList kz := by
      have e3 : kz.take (0 + vs.length) = kz:=List.take_of_length_le (by lia)
      rw [e3] at hk
      exact hk
    try dsimp only
    refine wpAny_bind (listItems_at nk rfl ?_)
    exact end_K (s:={ s with heap:=h',toks:=tk }) nk na hka hk' hlen h64 fun h3 out c g1 g2 g3 => h h3 tk out c (fun b o h1 q => g1 b o (hkb b o q) h1 (nb b o h1 q)) g2 g3
theorem sorted_K {d : Addr} {o : Obj} {es : Array DictEntry} {ep : Nat} {i : String} {Q : Value→Shared→Prop} (hs : (d == sysModules) = false) (ho : s.heap.get? d = some o) (hc : o.cls = .type "dict") (hdt : o.data = .dict es ep) (hA : A.handled = none)
    (hv : es.toList.map (·.key) = vs) (hlen : kz.length = vs.length) (h64 : vs.length < 64) (turn : Told prog w A.in1.in1 s s.heap (.builtin i) vs kz)
    (h : ∀ (h' : Heap) (D tk c : Nat) (out : Array Value),s.heap.objs.size≤D→Ext s.heap h'→h'.get? D = some (seqObj "list" out c)→KskOut false kz vs out.toList→Q (.ref D) { s with heap:=h',toks:=tk }) :
    wpAny (model prog w) A (call (.builtin "sorted") [.ref d] [(Str.ofString "key",.builtin i)]) Q E s := by
  refine call_function_entry_kw kind_sorted plain_sorted entry_sorted (ksk_s1 _ _) ?_
  unfold Builtin.«sorted»
  refine wpAny_bind (m:=checkCount "sorted" 1 1 _) (wpAny_pure ?_)
  have hes : es.size = vs.length := by rw [← hv,List.length_map,Array.length_toList]
  refine wpAny_bind (gather (A:=A.in1) (src_keys hs hc hdt) hA ho (size_small (by lia)) fun h1 tk acc z1 k1 hacc => ?_)
  have hal : acc.toList = vs := by
    rw [← hv]
    apply List.ext_getElem?
    intro j
    rw [List.getElem?_map]
    by_cases hj : j < acc.size
    · have e1 : acc[j]? = some acc[j]:=Array.getElem?_eq_getElem hj
      obtain ⟨e,e2,e3⟩:=hacc.2 j _ e1
      rw [Array.getElem?_toList,e1,Array.getElem?_toList,e2,e3]
      rfl
    · have hj2 : ¬ j < es.size := by rw [← hacc.1]; exact hj
      rw [List.getElem?_eq_none (by simpa using hj),List.getElem?_eq_none (by simpa using hj2)]
      rfl
  rw [hal]
  refine wpAny_bind (wpAny_newList ?_ (size_small (by lia)))
  have g1 : (h1.push (seqObj "list" vs.toArray 0)).get? h1.objs.size = some (seqObj "list" vs.toArray 0):=Heap.get?_push_size _ rfl
  have k2 : ∀ b u,s.heap.get? b = some u→b≠h1.objs.size∧(h1.push (seqObj "list" vs.toArray 0)).get? b = some u:=fun b u e => ⟨Nat.ne_of_lt (Heap.lt_size (k1 b u e)),Heap.get?_push_of_some _ (k1 b u e)⟩
  refine wpAny_bind (wpAny_holding (wpAny_call_entry_kw slot_list_sort ⟨_,g1,rfl⟩ entry_list_sort ?_ (ksk_l1 _ _)))
  show wpAny (model prog w) A.in1.in1 (Builtin.«list.sort» ⟨[.ref h1.objs.size],[(Str.ofString "key",.builtin i)]⟩) _ _ _
  rw [ksk_t4]
  refine sort_K (s:={ s with heap:=h1.push (seqObj "list" vs.toArray 0),toks:=tk }) (h0:=s.heap) g1 k2 hlen h64 turn fun h' tk' out c x1 x2 x3 => ⟨_,rfl,?_⟩
  exact wpAny_pure ⟨_,rfl,h h' h1.objs.size tk' c out (Nat.le_of_lt z1) (fun b u e => x1 b u (k2 b u e).1 (k2 b u e).2) x2 x3⟩
end
end SK
namespace L2
open PySem PySem.Spec PyProof.Rows
theorem perm_back {α β : Type} (f : α→β) {l1 l2 : List β} (h : l1.Perm l2) : ∀ L : List α,l2 = L.map f→∃ L' : List α,L'.Perm L∧l1 = L'.map f := by
  induction h with
  | nil => intro L e; exact ⟨[],by cases L with | nil => exact .nil | cons a L => simp at e,rfl⟩
  | cons x _ ih =>
    intro L e
    cases L with
    | nil => simp at e
    | cons a L =>
      simp at e
      obtain ⟨L',h1,h2⟩:=ih L e.2
      exact ⟨a :: L',h1.cons a,by rw [h2,e.1]; rfl⟩
  | swap x y l =>
    intro L e
    match L,e with
    | a :: b :: L,e =>
      simp at e
      exact ⟨b :: a :: L,List.Perm.swap ..,by simp [e.1,e.2.1,e.2.2]⟩
  | trans _ _ i1 i2 =>
    intro L e
    obtain ⟨L2,h1,h2⟩:=i2 L e
    obtain ⟨L1,h3,h4⟩:=i1 L2 h2
    exact ⟨L1,h3.trans h1,h4⟩
theorem told_sum {prog : Program} {w : World} {A : Around} {s : Shared} {E : Value→Shared→Prop} (hA : A.handled = none) {p : Addr} {ns : List Int} {its : List Value} (rv : Vals (ns.map V.int) its) (pl : s.heap.IsTuple p its.toArray) :
    wpAny (model prog w) A (call (.builtin "sum") [.ref p]) (fun r s' => ∃ h' tk' t',s' = { s with heap:=h',toks:=tk' }∧r = .int ns.sum t'∧SK.Ext s.heap h') E s := by
  have hi:=intsAre_of rv
  obtain ⟨xs,hx⟩:=hi.allInts.items
  have hl' : s.heap.IsTuple p (intItems xs):=hx ▸ pl
  have hlt : p < s.heap.objs.size := by obtain ⟨_,e,_⟩:=hl'; exact Heap.lt_size e
  have e1 : ns = xs.toList.map (·.1) := by
    rw [← nums_intItems,← hx]
    exact (show numsOf its.toArray.toList = ns from hi.numsOf).symm
  have e2 : preSum (numAt xs) xs.size = ns.sum := by
    rw [preSum_eq,List.take_of_length_le (by simp),e1]
  refine call_sum_walkG (wpAny_pyIter_tuple hl' ?_)
  refine ⟨_,[_,p],[_],_,_,_,numAt xs,rfl,Walks.tuple (A:=A.in1) hA _ p (Nat.ne_of_lt hlt) (intItems xs),
    ⟨⟨_,Heap.get?_push_size _ rfl,rfl,rfl⟩,hl'.push _⟩,fun c hcc => ?_,(fun _ _ => intItems_at),fun h' tk t' hk => ?_⟩
  · show c < (s.heap.push _).objs.size
    rw [Heap.size_push]
    rcases List.mem_cons.mp hcc with rfl | hcc
    · exact Nat.lt_succ_self _
    · rw [List.mem_singleton.mp hcc]
      exact Nat.lt_succ_of_lt hlt
  · have e3 : preSum (numAt xs) (intItems xs).size = ns.sum := by
      rw [← e2]
      simp [intItems]
    rw [e3]
    exact ⟨h',tk,t',rfl,rfl,PyProof.Rows.LSm.kept_iter hk⟩
def SortS (H : Hp) (x : V) (Q : VK) : Prop:=∃ (a : Addr) (kvs : List (List Key×V)) (ps : List (List Int)),x = .ref a∧H a = some (.dT kvs)∧kvs.length < 64∧kvs.map (·.1) = ps.map (·.map Sum.inl) ∧
  ∀ (D : Addr) (H' : Hp) (L : List (List Int×Addr)),(∀ b o,H b = some o→H' b = some o)→(∀ b,b≠D→H' b = H b)→H D = none→H' D = some (.lst (L.map fun l => V.ref l.2))→(L.map (·.1)).Perm ps→L.Pairwise (fun p q => p.1.sum≤q.1.sum) →
    (∀ l∈L,H l.2 = some (.tup (l.1.map V.int)))→Q (.ref D) H'
theorem sortS_fin {X : Cx} {pins : List (Addr×Obj)} {σ : St} {H : Hp} {s : Shared} {Q : VK} (I : Inv X pins σ H s) {x : V} {v : Value} (rx : RelV x v) (hc : X.calm = true) (q : SortS H x Q) :
    wpAny (model X.prog X.w) X.A (call (.builtin "sorted") [v] [(Str.ofString "key",.builtin "sum")]) (EP X pins σ Q) X.xe s := by
  obtain ⟨a,kvs,ps,rfl,ha,h64,hps,q⟩:=q
  cases rx
  obtain ⟨hz,nd,xs,kt,o,es,ep,r1,r2,r3,r4,r5,r6⟩:=dt_of I.hok ha
  have hlen : es.size = kvs.length := by rw [size_of_entries r4]; exact (Paired.length kt).symm
  have hpl : ps.length = kvs.length := by
    have:=congrArg List.length hps
    simpa using this.symm
  have hxl : xs.length = kvs.length:=(Paired.length kt).symm
  let L0 : List (List Int×Addr):=ps.zip (xs.map (·.2.1))
  have hL : L0.length = kvs.length := by simp [L0,hpl,hxl]
  have l1 : L0.map (·.1) = ps := by
    show (ps.zip _).map Prod.fst = ps
    exact List.map_fst_zip (by simp [hpl,hxl])
  have l2 : L0.map (·.2) = xs.map (·.2.1) := by
    show (ps.zip _).map Prod.snd = _
    exact List.map_snd_zip (by simp [hpl,hxl])
  have hkey : es.toList.map (·.key) = L0.map fun l => Value.ref l.2 := by
    have : (L0.map fun l => Value.ref l.2) = (L0.map (·.2)).map Value.ref := by simp
    rw [this,l2]
    apply List.ext_getElem?
    intro j
    rw [List.getElem?_map,Array.getElem?_toList,entry_at r4 j,List.map_map,List.getElem?_map]
    cases xs[j]? <;> rfl
  have hin : ∀ l∈L0,H l.2 = some (.tup (l.1.map V.int)):=fun l hl => by
    obtain ⟨j,hj⟩:=List.getElem?_of_mem hl
    have h1 : (L0.map (·.1))[j]? = some l.1 := by rw [List.getElem?_map,hj]; rfl
    have h2 : (L0.map (·.2))[j]? = some l.2 := by rw [List.getElem?_map,hj]; rfl
    rw [l1] at h1
    rw [l2,List.getElem?_map] at h2
    obtain ⟨y,hy,e⟩:=Option.map_eq_some_iff.mp h2
    have hjk : j < kvs.length := by rw [← hxl]; exact (List.getElem?_eq_some_iff.mp hy).1
    obtain ⟨kv,hkv⟩ : ∃ kv,kvs[j]? = some kv:=⟨kvs[j],by simp [hjk]⟩
    have p1:=paired_at kt hkv hy
    have h3 : kv.1 = l.1.map Sum.inl := by
      have:=congrArg (·[j]?) hps
      simp only [List.getElem?_map,hkv,h1] at this
      exact Option.some.inj this
    have h4 : H y.2.1 = some (.tup (kv.1.map kV)):=p1.1 ▸ p1.2.1
    rw [e,h3,map_kV] at h4
    exact h4
  refine SK.sorted_K (vs:=L0.map fun l => Value.ref l.2) (kz:=L0.map fun l => l.1.sum) nd r1 r2.1 r3 (I.ok.hd hc) hkey (by simp) (by rw [List.length_map,hL]; exact h64) ?_ fun h' D tk c out hD k1 hd ko => ?_
  · intro i v k hv hk h tk hx
    rw [List.getElem?_map] at hv hk
    obtain ⟨l,e1,rfl⟩:=Option.map_eq_some_iff.mp hv
    rw [e1] at hk
    cases hk
    obtain ⟨its,v1,p1,_⟩:=I.tuple (SqT.of (K:=X.K) (hin l (List.mem_of_getElem? e1)))
    refine told_sum (A:=X.A.in1.in1) (s:={ s with heap:=h,toks:=tk }) (show X.A.in1.in1.handled = none from I.ok.hd hc) v1 ?_
    obtain ⟨o,e,r⟩:=p1
    exact ⟨o,hx _ _ e,r⟩
  · obtain ⟨pz,w1,w2,w3⟩:=ko
    have ez : (L0.map fun l => l.1.sum).zip (L0.map fun l => Value.ref l.2) = L0.map fun l => (l.1.sum,Value.ref l.2) := by
      rw [List.zip_map']
    rw [ez] at w1
    obtain ⟨L,hp,rfl⟩:=perm_back (fun l : List Int×Addr => (l.1.sum,Value.ref l.2)) w1 L0 rfl
    rw [List.map_map] at w2
    let H' : Hp:=fun y => if y = D then some (.lst (L.map fun l => V.ref l.2)) else H y
    have hHD : H' D = some (.lst (L.map fun l => V.ref l.2)):=if_pos rfl
    have hfr : H D = none:=I.hok.fresh hD
    have hHo : ∀ y,y≠D→H' y = H y:=fun y hy => if_neg hy
    have up : ∀ b o,H b = some o→H' b = some o:=fun b o e => by
      rw [hHo b fun z => by rw [z,hfr] at e; cases e]; exact e
    have hok : HOk X.prog X.w H' h':=fun y u e => by
      by_cases hyD : y = D
      · subst hyD
        rw [hHD] at e
        cases e
        refine ⟨?_,out.toList,c,?_,?_⟩
        · show (L.map _).length≤sizeLine
          rw [List.length_map,hp.length_eq,hL]
          exact hz
        · have e2 : out.toList = (L.map (·.2)).map Value.ref := by rw [w2,List.map_map]; rfl
          have e3 : (L.map fun l => V.ref l.2) = (L.map (·.2)).map V.ref := by rw [List.map_map]; rfl
          rw [e2,e3]
          exact refs_vals _
        · exact hd
      · have e' : H y = some u := by rw [hHo y hyD] at e; exact e
        exact (I.hok y u e').stay (fun b o _ z => k1 b o z) (fun b z => up _ _ z) fun b xs z => up _ _ z
    have I3 : Inv X pins σ H' { s with heap:=h',toks:=tk }:=I.many k1 (fun b hb => hHo b (Nat.ne_of_lt (Nat.lt_of_lt_of_le hb hD))) hok
    refine ⟨.ref D,H',I3,rfl,q D H' L up hHo hfr hHD (by rw [← l1]; exact hp.map _) ?_ fun l hl => hin l (hp.mem_iff.mp hl)⟩
    rw [List.pairwise_map] at w3
    exact w3.imp fun h => by simpa using h
def tSortS (to : TE) : TE:=fun σ H Q => to σ H fun x H1 => SortS H1 x Q
theorem pe_sortS {X : Cx} {o : Expr} {to : TE} {p pos kp kp2 : Pos} (hc : X.calm = true) (hg : Gl X "sorted") (hm : X.mg "sorted" = none) (hg2 : Gl X "sum") (hm2 : X.mg "sum" = none) (ho : PE X o to)
    (he : backTo pos (starEach [o] X.env) = (false,eval o X.env) :: backTo pos (starEach [] X.env) := by rfl) (hplain : (backTo pos (starEach [o] X.env)).any (·.1) = false := by rfl) :
    PE X (.Call (.Name "sorted" p) [o] [⟨some "key",.Name "sum" kp2,kp⟩] pos) (tSortS to) := by
  intro pins s σ H Q I h
  refine wpAny_Call_Name_kw (ld_blt I hg hm boot_sorted ?_ (by decide) (by decide))
  refine callWith_kw ?_ he hplain
  rw [he]
  refine Calls.spliced_cons (thn (ho pins s σ H _ I h) fun v s1 ⟨x,H1,I1,r1,q1⟩ => ?_)
  exact Calls.spliced_nil (kws_cons (ld_blt I1 hg2 hm2 boot_sum (kws_nil (sortS_fin I1 r1 hc q1)) (by decide) (by decide)))
end L2
namespace Q25
open PySem L2
abbrev s_fraction_of : Stmt:=top 7
abbrev s_is_fraction : Stmt:=top 8
abbrev s_are_fractions : Stmt:=top 9
abbrev s_is_whole : Stmt:=top 10
abbrev s_greatest_divisor : Stmt:=top 11
abbrev s_common_bottom : Stmt:=top 12
abbrev s_power_of : Stmt:=top 13
abbrev s_is_poly : Stmt:=top 15
abbrev s_is_term : Stmt:=top 16
abbrev s_are_powers : Stmt:=top 17
abbrev s_refuse_no_start : Stmt:=top 18
abbrev s_one_less : Stmt:=top 20
abbrev s_product_up_to : Stmt:=top 22
abbrev s_grain_of : Stmt:=top 24
abbrev s_pace_of : Stmt:=top 25
abbrev s_whole_start : Stmt:=top 26
abbrev s_tops_over : Stmt:=top 27
abbrev s_whole_change : Stmt:=top 28
abbrev s_whole_poly : Stmt:=top 29
abbrev s_speeds_bottom : Stmt:=top 30
abbrev s_greatest_power : Stmt:=top 31
abbrev s_is_change : Stmt:=top 33
abbrev s_refuse_no_change : Stmt:=top 34
abbrev s_growth_rows : Stmt:=top 37
abbrev s_refuse_too_many : Stmt:=top 38
abbrev s_row_of_fractions : Stmt:=top 39
abbrev s_whole_rows : Stmt:=top 40
abbrev s_powers_needed : Stmt:=top 41
abbrev s_first_unknown : Stmt:=top 42
abbrev s_product_at : Stmt:=top 43
abbrev s_speed_at : Stmt:=top 44
abbrev s__law_cell : Stmt:=top 46
abbrev s__law_take : Stmt:=top 47
abbrev s__law_shared : Stmt:=top 48
abbrev s__law_frac : Stmt:=top 49
abbrev s__law_by : Stmt:=top 51
abbrev s__law_part : Stmt:=top 52
abbrev s__law_same : Stmt:=top 53
abbrev s__law_power : Stmt:=top 54
abbrev s__law_through : Stmt:=top 55
abbrev s_law : Stmt:=top 56
theorem nnt {n : String} : clsV (.ty n)≠.none:=fun z => nomatch z
theorem mulC {i j : Int} (h1 : -18446744073709551616 < j) (h2 : j < 18446744073709551616) : CMul i j∨CMulW i j:=.inl (.inr ⟨h1,h2⟩)
theorem mulL {i j : Int} (h1 : -18446744073709551616 < i) (h2 : i < 18446744073709551616) : CMul i j∨CMulW i j:=.inl (.inl ⟨h1,h2⟩)
def spGd : Sp:=fun vs H Q _ => ∃ a b,vs = [.int a,.int b]∧Q (.int (FM.gi a b)) H
def spFr : Sp:=fun vs H Q _ => ∃ t b m,vs = [.int t,.int b]∧b≠0∧m≤9000∧b.natAbs < 2 ^ m∧∀ l H',Same H H'→H' l = some (.tup (ratV (Rat.divInt t b)))→Q (.ref l) H'
section
variable {P : Program} {w : World} {K : PySem.W.Frag} {mg : Str→Option Value} {base : Heap} {f g : Addr} {fd gd : FuncData}
theorem sc_greatest_divisor : FnScope ["one", "other", "greater", "lesser", "rest"] ["one", "other"] (defScope s_greatest_divisor):=⟨rfl,rfl,rfl,by decide +kernel,rfl,by decide +kernel,by decide +kernel⟩
def mu3 (σ : St) : Nat:=match σ[3]? with | some (some (V.int l)) => l.natAbs | _ => 0
theorem ok_greatest_divisor (F : Fn K mg "greatest_divisor" s_greatest_divisor ["one", "other"] f fd) (z_abs : mg "abs" = none) : FnOk P w K mg base CX0 1 f fd ["one", "other"] spGd := by
  have sc:=sc_greatest_divisor
  refine F.F.ok (k:=0) sc (fun vs H Q E h => ?_) (fun cdv A outer s H vs Q E hr h => ?_)
  · obtain ⟨a,b,rfl,_⟩:=h
    rfl
  obtain ⟨a,b,rfl,q⟩:=h
  refine ⟨_,(pss_cons (ps_set (i:=2) sc.nd rfl (Or.inl rfl) (pe_callB call_abs rfl z_abs PyProof.Rows.boot_abs (pa_cons (pv 0) pa_nil)))
  (pss_cons (ps_set (i:=3) sc.nd rfl (Or.inl rfl) (pe_callB call_abs rfl z_abs PyProof.Rows.boot_abs (pa_cons (pv 1) pa_nil)))
  (pss_cons (ps_while PassesOwn.never (pt_cmpR op_ne (pv 3) pe_int (nomark _))
    (pss_cons (ps_set (i:=4) sc.nd rfl (Or.inl rfl) (pe_op op_modN (pv 2) (pv 3)))
    (pss_cons (ps_set (i:=2) sc.nd rfl (Or.inl rfl) (pv 3))
    (pss_one (ps_set (i:=3) sc.nd rfl (Or.inl rfl) (pv 4))))))
  (pss_one (ps_ret (pv 2)))))),?_⟩
  refine ⟨_,rfl,_,rfl,_,rfl,_,rfl,?_⟩
  refine while_by (fun σ H' => ∃ g l r,σ = [some (.int a),some (.int b),some (.int g),some (.int l),r]∧H = H'∧Int.gcd g l = Int.gcd a b∧0≤g∧0≤l) (fun σ _ => mu3 σ) ?_ ?_ ?_
  · exact ⟨_,_,_,rfl,rfl,FM.gcd_abs a b,FM.abs_nonneg a,FM.abs_nonneg b⟩
  · rintro σ H' ⟨g,l,r,rfl,rfl,hg,h0,h1⟩
    refine ⟨_,rfl,rfl,_,rfl,ite2 (fun c => ?_) (fun c => ?_)⟩
    · have hl : l≠0:=fun z => by subst z; simp at c
      refine ⟨_,rfl,_,rfl,_,_,rfl,rfl,hl,_,rfl,_,rfl,⟨_,_,_,rfl,rfl,?_,h1,FM.fmod_nonneg hl h1⟩,?_⟩
      · rw [FM.gcd_step]; exact hg
      · exact FM.fmod_less g l hl
    · have hl : l = 0 := by simpa using c
      subst hl
      refine ⟨_,rfl,?_⟩
      rw [FM.gi_end hg h0]
      exact q
  · exact fun σ H Q Q' hq ⟨v,e,s,k,e2,q⟩ => ⟨v,e,s,k,e2,hq _ _ q⟩
theorem sc_fraction_of : FnScope ["top", "bottom", "shared"] ["top", "bottom"] (defScope s_fraction_of):=⟨rfl,rfl,rfl,by decide +kernel,rfl,by decide +kernel,by decide +kernel⟩
theorem ok_fraction_of (F : Fn K mg "fraction_of" s_fraction_of ["top", "bottom"] f fd) (T_greatest_divisor : Fn K mg "greatest_divisor" s_greatest_divisor ["one", "other"] g gd)
    (G_greatest_divisor : FnOk P w K mg base CX0 1 g gd ["one", "other"] spGd) : FnOk P w K mg base CX0 2 f fd ["top", "bottom"] spFr := by
  have sc:=sc_fraction_of
  refine F.F.ok (k:=1) sc (fun vs H Q E h => ?_) (fun cdv A outer s H vs Q E hr h => ?_)
  · obtain ⟨t,b,m,rfl,_⟩:=h
    rfl
  obtain ⟨t,b,m,rfl,hb,hm,hs,q⟩:=h
  refine ⟨_,(pss_cons (ps_if (pt_cmpR op_eq (pv 1) pe_int (nomark _))
    (pss_one ps_never)
    pss_nil)
  (pss_cons (ps_set (i:=2) sc.nd rfl (Or.inl rfl) (pe_fn T_greatest_divisor G_greatest_divisor hr rfl (pa_cons (pv 0) (pa_cons (pv 1) pa_nil))))
  (pss_cons (ps_if (pt_cmpR op_lt (pv 1) pe_int (nomark _))
    (pss_one (ps_set (i:=2) sc.nd rfl (Or.inl rfl) (pe_un un_neg (pv 2))))
    pss_nil)
  (pss_one (ps_ret (pe_tup (pa_cons (pe_op op_fdivW (pv 0) (pv 2)) (pa_cons (pe_op op_fdivW (pv 1) (pv 2)) pa_nil)))))))),?_⟩
  refine ⟨_,rfl,rfl,_,rfl,ite2 (fun c => absurd c (by simpa using hb)) (fun _ => ?_)⟩
  refine ⟨_,rfl,_,rfl,t,b,rfl,?_⟩
  try dsimp only [gName]
  refine seq_join (fun σ' H' => σ' = [some (.int t),some (.int b),some (.int (FM.gs t b))]∧H = H') (fun nx hn => ?_) ?_
  · refine ⟨_,rfl,_,_,rfl,rfl,_,rfl,ite2 (fun c => ?_) (fun c => ?_)⟩
    · have c' : b < 0:=of_decide_eq_true c
      refine ⟨_,rfl,_,rfl,hn _ _ ⟨?_,rfl⟩⟩
      unfold FM.gs
      rw [if_pos c']
      rfl
    · have c' : ¬ b < 0:=of_decide_eq_false (Bool.eq_false_iff.mpr c)
      refine hn _ _ ⟨?_,rfl⟩
      unfold FM.gs
      rw [if_neg c']
      rfl
  · rintro σ' H' ⟨rfl,rfl⟩
    have h0 : FM.gs t b≠0:=FM.gs_ne hb
    have h1 : (FM.gs t b).natAbs < 2 ^ m:=Nat.lt_of_le_of_lt (FM.gs_le hb) hs
    refine ⟨_,rfl,_,rfl,_,_,rfl,rfl,⟨h0,m,hm,h1⟩,_,rfl,_,rfl,_,_,rfl,rfl,⟨h0,m,hm,h1⟩,sz2,fun p hp => ?_⟩
    refine q p _ (same_new hp _) ?_
    rw [upd_same]
    show some (HO.tup [V.int (t.fdiv (FM.gs t b)),V.int (b.fdiv (FM.gs t b))]) = _
    rw [FM.num_eq hb,FM.den_eq hb]
    rfl
end
def spTake : Sp:=fun vs H Q _ => ∃ (l : Addr) (x n : Int),vs = [.ref l,.int n]∧H l = some (.lst [.int x])∧0 < n∧n < 2 ^ 64∧∀ r y : Int,0≤r→r < n→Q (.int r) (upd H l (.lst [.int y]))
def spCellP (K : PySem.W.Frag) : Sp:=fun vs H Q _ => ∃ (a : Addr) (ns : List Int) (k : Int),vs = [.ref a,.int k]∧SqL K H a (ns.map V.int)∧0≤k∧k < 1000∧∀ x : Int,Q (.int x) H
def spDrawn : Sp:=fun vs H Q _ => ∃ (l : Addr) (x : Int),vs = [.ref l]∧H l = some (.lst [.int x])∧∀ (p : Addr) (r : Rat) (y : Int) (H' : Hp),Same (upd H l (.lst [.int y])) H'→H' p = some (.tup (ratV r))→r.num.natAbs≤6→r.den≤6→Q (.ref p) H'
theorem drawn_all : ∀ i,i < 13→∀ j,j < 6→(Rat.divInt ((i : Nat) - 6 : Int) (1 + (j : Nat) : Int)).num.natAbs≤6∧(Rat.divInt ((i : Nat) - 6 : Int) (1 + (j : Nat) : Int)).den≤6 := by decide +kernel
theorem drawn_small {i j : Int} (h1 : 0≤i) (h2 : i < 13) (h3 : 0≤j) (h4 : j < 6) : (Rat.divInt (i - 6) (1 + j)).num.natAbs≤6∧(Rat.divInt (i - 6) (1 + j)).den≤6 := by
  have:=drawn_all i.toNat (by lia) j.toNat (by lia)
  rwa [Int.toNat_of_nonneg h1,Int.toNat_of_nonneg h3] at this
section
variable {P : Program} {w : World} {K : PySem.W.Frag} {mg : Str→Option Value} {base : Heap} {f g g1 g2 : Addr} {fd gd gd1 gd2 : FuncData}
theorem sc__law_take : FnScope ["_law_pile", "_law_size", "_law_digit"] ["_law_pile", "_law_size"] (defScope s__law_take):=⟨rfl,rfl,rfl,by decide +kernel,rfl,by decide +kernel,by decide +kernel⟩
theorem ok__law_take (F : Fn K mg "_law_take" s__law_take ["_law_pile", "_law_size"] f fd) : FnOk P w K mg base CX0 1 f fd ["_law_pile", "_law_size"] spTake := by
  have sc:=sc__law_take
  refine F.F.ok (k:=0) sc (fun vs H Q E h => ?_) (fun cdv A outer s H vs Q E hr h => ?_)
  · obtain ⟨l,x,n,rfl,_⟩:=h
    rfl
  obtain ⟨l,x,n,rfl,hl,h0,h1,q⟩:=h
  refine ⟨_,(pss_cons (ps_set (i:=2) sc.nd rfl (Or.inl rfl) (pe_op op_modN (pe_ix ix_list (pv 0) pe_int (fun _ _ => rfl)) (pv 1)))
  (pss_cons (ps_asg (pe_op op_fdivW (pe_ix ix_list (pv 0) pe_int (fun _ _ => rfl)) (pv 1)) (pg_sub (pv 0) pe_int set_list))
  (pss_one (ps_ret (pv 2))))),?_⟩
  refine ⟨_,rfl,_,_,_,_,rfl,rfl,SqL.of hl,rfl,_,rfl,_,_,rfl,rfl,(by show n≠0; lia),?_⟩
  refine ⟨_,rfl,_,_,_,_,rfl,rfl,SqL.of hl,rfl,_,rfl,_,_,rfl,rfl,⟨by lia,64,by decide,by lia⟩,_,rfl,l,_,_,0,rfl,rfl,hl,rfl,_,rfl,?_⟩
  exact q _ _ (Int.fmod_nonneg_of_pos x h0) (Int.fmod_lt_of_pos x h0)
theorem sc__law_shared : FnScope ["_law_one", "_law_other"] ["_law_one", "_law_other"] (defScope s__law_shared):=⟨rfl,rfl,rfl,by decide +kernel,rfl,by decide +kernel,by decide +kernel⟩
def mu1 (σ : St) : Nat:=match σ[1]? with | some (some (V.int l)) => l.natAbs | _ => 0
theorem ok__law_shared (F : Fn K mg "_law_shared" s__law_shared ["_law_one", "_law_other"] f fd) (z_abs : mg "abs" = none) : FnOk P w K mg base CX0 1 f fd ["_law_one", "_law_other"] spGd := by
  have sc:=sc__law_shared
  refine F.F.ok (k:=0) sc (fun vs H Q E h => ?_) (fun cdv A outer s H vs Q E hr h => ?_)
  · obtain ⟨a,b,rfl,_⟩:=h
    rfl
  obtain ⟨a,b,rfl,q⟩:=h
  refine ⟨_,(pss_cons (ps_while PassesOwn.never (pt_cmpR op_ne (pv 1) pe_int (nomark _))
    (pss_one (ps_par (i:=0) (j:=1) rfl sc.nd rfl rfl (by decide) rfl rfl (pa_cons (pv 1) (pa_cons (pe_op op_modN (pv 0) (pv 1)) pa_nil)) rfl)))
  (pss_one (ps_ret (pe_callB call_abs rfl z_abs PyProof.Rows.boot_abs (pa_cons (pv 0) pa_nil))))),?_⟩
  refine while_by (fun σ H' => ∃ g l,σ = [some (.int g),some (.int l)]∧H = H'∧Int.gcd g l = Int.gcd a b) (fun σ _ => mu1 σ) ⟨_,_,rfl,rfl,rfl⟩ ?_ ?_
  · rintro σ H' ⟨g,l,rfl,rfl,hg⟩
    refine ⟨_,rfl,rfl,_,rfl,ite2 (fun c => ?_) (fun c => ?_)⟩
    · have hl : l≠0:=fun z => by subst z; simp at c
      refine ⟨_,rfl,_,rfl,_,rfl,_,_,rfl,rfl,hl,_,_,rfl,⟨_,_,rfl,rfl,?_⟩,?_⟩
      · rw [FM.gcd_step]; exact hg
      · exact FM.fmod_less g l hl
    · have hl : l = 0 := by simpa using c
      subst hl
      refine ⟨_,rfl,_,rfl,?_⟩
      rw [FM.gi_end' hg]
      exact q
  · exact fun σ H Q Q' hq ⟨v,e,s,k,e2,q⟩ => ⟨v,e,s,k,e2,hq _ _ q⟩
theorem sc__law_frac : FnScope ["_law_top", "_law_bottom", "_law_by_here"] ["_law_top", "_law_bottom"] (defScope s__law_frac):=⟨rfl,rfl,rfl,by decide +kernel,rfl,by decide +kernel,by decide +kernel⟩
theorem ok__law_frac (F : Fn K mg "_law_frac" s__law_frac ["_law_top", "_law_bottom"] f fd) (T__law_shared : Fn K mg "_law_shared" s__law_shared ["_law_one", "_law_other"] g gd)
    (G__law_shared : FnOk P w K mg base CX0 1 g gd ["_law_one", "_law_other"] spGd) : FnOk P w K mg base CX0 2 f fd ["_law_top", "_law_bottom"] spFr := by
  have sc:=sc__law_frac
  refine F.F.ok (k:=1) sc (fun vs H Q E h => ?_) (fun cdv A outer s H vs Q E hr h => ?_)
  · obtain ⟨t,b,m,rfl,_⟩:=h
    rfl
  obtain ⟨t,b,m,rfl,hb,hm,hs,q⟩:=h
  refine ⟨_,(pss_cons (ps_set (i:=2) sc.nd rfl (Or.inl rfl) (pe_fn T__law_shared G__law_shared hr rfl (pa_cons (pv 0) (pa_cons (pv 1) pa_nil))))
  (pss_cons (ps_if (pt_cmpR op_lt (pv 1) pe_int (nomark _))
    (pss_one (ps_set (i:=2) sc.nd rfl (Or.inl rfl) (pe_op op_sub pe_int (pv 2))))
    pss_nil)
  (pss_one (ps_ret (pe_tup (pa_cons (pe_op op_fdivW (pv 0) (pv 2)) (pa_cons (pe_op op_fdivW (pv 1) (pv 2)) pa_nil))))))),?_⟩
  refine ⟨_,rfl,_,rfl,t,b,rfl,?_⟩
  try dsimp only [gName]
  refine seq_join (fun σ' H' => σ' = [some (.int t),some (.int b),some (.int (FM.gs t b))]∧H = H') (fun nx hn => ?_) ?_
  · refine ⟨_,rfl,_,_,rfl,rfl,_,rfl,ite2 (fun c => ?_) (fun c => ?_)⟩
    · have c' : b < 0:=of_decide_eq_true c
      refine ⟨_,rfl,_,_,rfl,rfl,hn _ _ ⟨?_,rfl⟩⟩
      show [some (V.int t),some (V.int b),some (V.int (0 - FM.gi t b))] = _
      unfold FM.gs
      rw [if_pos c',Int.zero_sub]
    · have c' : ¬ b < 0:=of_decide_eq_false (Bool.eq_false_iff.mpr c)
      refine hn _ _ ⟨?_,rfl⟩
      unfold FM.gs
      rw [if_neg c']
      rfl
  · rintro σ' H' ⟨rfl,rfl⟩
    have h0 : FM.gs t b≠0:=FM.gs_ne hb
    have h1 : (FM.gs t b).natAbs < 2 ^ m:=Nat.lt_of_le_of_lt (FM.gs_le hb) hs
    refine ⟨_,rfl,_,rfl,_,_,rfl,rfl,⟨h0,m,hm,h1⟩,_,rfl,_,rfl,_,_,rfl,rfl,⟨h0,m,hm,h1⟩,sz2,fun p hp => ?_⟩
    refine q p _ (same_new hp _) ?_
    rw [upd_same]
    show some (HO.tup [V.int (t.fdiv (FM.gs t b)),V.int (b.fdiv (FM.gs t b))]) = _
    rw [FM.num_eq hb,FM.den_eq hb]
    rfl
theorem sc__law_cell : FnScope ["_law_script", "_law_k", "_law_cell_here", "_law_number", "_law_found", "_law_turn"] ["_law_script", "_law_k"] (defScope s__law_cell):=⟨rfl,rfl,rfl,by decide +kernel,rfl,by decide +kernel,by decide +kernel⟩
theorem ok__law_cell (F : Fn K mg "_law_cell" s__law_cell ["_law_script", "_law_k"] f fd) (z_len : mg "len" = none) (z_range : mg "range" = none) : FnOk P w K mg base CX0 1 f fd ["_law_script", "_law_k"] (spCellP K) := by
  have sc:=sc__law_cell
  refine F.F.ok (k:=0) sc (fun vs H Q E h => ?_) (fun cdv A outer s H vs Q E hr h => ?_)
  · obtain ⟨a,ns,k,rfl,_⟩:=h
    rfl
  obtain ⟨a,ns,k,rfl,hS,h0,hk,q⟩:=h
  refine ⟨_,(pss_cons (ps_set (i:=2) sc.nd rfl (Or.inl rfl) pe_int)
  (pss_cons (ps_if (pt_cmpR op_lt (pv 1) (pe_callB call_len_seq rfl z_len PySem.boot_len (pa_cons (pv 0) pa_nil)) (nomark _))
    (pss_one (ps_set (i:=2) sc.nd rfl (Or.inl rfl) (pe_ix ix_list (pv 0) (pv 1) (fun _ _ => rfl))))
    pss_nil)
  (pss_cons (ps_if (pt_cmpR op_ge (pv 2) (pe_op op_pow pe_int pe_int) (nomark _))
    (pss_one (ps_ret (pe_op op_mod (pe_op op_sub (pv 2) (pe_op op_pow pe_int pe_int)) (pe_op op_pow pe_int pe_int))))
    pss_nil)
  (pss_cons (ps_set (i:=3) sc.nd rfl (Or.inl rfl) (pe_op op_mod (pe_op op_add (pe_op op_add (pe_op op_mulW (pv 2) pe_int) (pe_op op_mulW (pv 1) pe_int)) pe_int) pe_int))
  (pss_cons (ps_set (i:=4) sc.nd rfl (Or.inl rfl) pe_int)
  (pss_cons (ps_for PassesOwn.never rfl (pi_range1 rfl z_range (pa_cons pe_int pa_nil)) (pg_name (i:=5) sc.nd rfl (Or.inl rfl))
    (pss_cons (ps_set (i:=3) sc.nd rfl (Or.inl rfl) (pe_op op_mod (pe_op op_add (pe_op op_add (pe_op op_mulW (pv 3) (pv 3)) (pe_op op_mulW pe_int (pv 5))) pe_int) pe_int))
    (pss_one (ps_set (i:=4) sc.nd rfl (Or.inl rfl) (pe_op op_add (pe_op op_mulW (pv 4) pe_int) (pe_op op_mod (pe_op op_mulW (pv 3) (pv 3)) pe_int))))))
  (pss_one (ps_ret (pv 4))))))))),?_⟩
  try dsimp only [gName]
  refine seq_join (fun σ' H' => ∃ c : Int,σ' = [some (.ref a),some (.int k),some (.int c),none,none,none]∧H = H') (fun nx hn => ?_) ?_
  · exact hn _ _ ⟨0,rfl,rfl⟩
  rintro _ _ ⟨_,rfl,rfl⟩
  try dsimp only [gName]
  refine seq_join (fun σ' H' => ∃ c : Int,σ' = [some (.ref a),some (.int k),some (.int c),none,none,none]∧H = H') (fun nx hn => ?_) ?_
  · refine ⟨_,rfl,_,rfl,a,_,rfl,.inl hS,_,_,rfl,rfl,_,rfl,ite2 (fun c => ?_) (fun c => ?_)⟩
    · have c' : k < (((ns.map V.int).length : Nat) : Int):=of_decide_eq_true c
      rw [List.length_map] at c'
      have hk : k.toNat < ns.length := by lia
      have hat : atI (ns.map V.int) k = some (.int ns[k.toNat]) := by
        have z:=atI_nat (xs:=ns.map V.int) (j:=k.toNat) (v:=.int ns[k.toNat]) (by rw [List.getElem?_map,List.getElem?_eq_getElem hk]; rfl)
        rwa [show ((k.toNat : Nat) : Int) = k by lia] at z
      exact ⟨_,rfl,_,rfl,a,_,_,_,rfl,rfl,hS,hat,hn _ _ ⟨_,rfl,rfl⟩⟩
    · exact hn _ _ ⟨_,rfl,rfl⟩
  rintro _ _ ⟨c,rfl,rfl⟩
  refine ⟨_,rfl,_,_,rfl,rfl,⟨by decide,by decide,by decide⟩,_,_,rfl,rfl,_,rfl,ite2 (fun _ => ?_) (fun _ => ?_)⟩
  · exact ⟨_,rfl,_,_,rfl,rfl,⟨by decide,by decide,by decide⟩,_,_,rfl,rfl,_,_,rfl,rfl,⟨by decide,by decide,by decide⟩,_,_,rfl,rfl,(by show (0 : Int) < 10 ^ 60; decide),q _⟩
  · refine ⟨_,rfl,_,_,rfl,rfl,mulC (by decide) (by decide),_,rfl,_,_,rfl,rfl,mulC (by decide) (by decide),_,_,rfl,rfl,_,_,rfl,rfl,_,_,rfl,rfl,(by show (0 : Int) < 2147483629; decide),?_⟩
    have z0 : 0≤(c * 48271 + k * 69621 + 11) % 2147483629:=Int.emod_nonneg _ (by decide)
    have z1 : (c * 48271 + k * 69621 + 11) % 2147483629 < 2147483629:=Int.emod_lt_of_pos _ (by decide)
    refine ⟨8,rfl,by decide,by decide,for_range (n:=8) (fun _ σ H' => ∃ (m fo : Int) (jj : Option V),σ = [some (.ref a),some (.int k),some (.int c),some (.int m),some (.int fo),jj]∧0≤m∧m < 2147483629∧H = H') ⟨(c * 48271 + k * 69621 + 11) % 2147483629,0,none,rfl,z0,z1,rfl⟩ ?_ ?_⟩
    · rintro i σ H' hi ⟨m,fo,jj,rfl,m0,m1,rfl⟩
      refine ⟨_,rfl,_,rfl,_,_,rfl,rfl,mulC (by lia) (by lia),_,rfl,_,_,rfl,rfl,mulL (by decide) (by decide),_,_,rfl,rfl,_,_,rfl,rfl,_,_,rfl,rfl,(by show (0 : Int) < 2147483587; decide),?_⟩
      have y0 : 0≤(m * m + 69621 * (0 + (i : Nat)) + 7) % 2147483587:=Int.emod_nonneg _ (by decide)
      have y1 : (m * m + 69621 * (0 + (i : Nat)) + 7) % 2147483587 < 2147483587:=Int.emod_lt_of_pos _ (by decide)
      exact ⟨_,rfl,_,_,rfl,rfl,mulC (by decide) (by decide),_,rfl,_,rfl,((m * m + 69621 * (0 + (i : Nat)) + 7) % 2147483587 : Int),((m * m + 69621 * (0 + (i : Nat)) + 7) % 2147483587 : Int),rfl,rfl,mulC (by lia) (by lia),_,_,rfl,rfl,(by show (0 : Int) < 2147483563; decide),_,_,rfl,rfl,_,_,_,rfl,y0,by lia,rfl⟩
    · rintro σ H' ⟨m,fo,jj,rfl,m0,m1,rfl⟩
      exact ⟨_,rfl,q _⟩
theorem sc__law_part : FnScope ["_law_pile", "_law_top"] ["_law_pile"] (defScope s__law_part):=⟨rfl,rfl,rfl,by decide +kernel,rfl,by decide +kernel,by decide +kernel⟩
theorem ok__law_part (F : Fn K mg "_law_part" s__law_part ["_law_pile"] f fd) (T__law_take : Fn K mg "_law_take" s__law_take ["_law_pile", "_law_size"] g1 gd1) (T__law_frac : Fn K mg "_law_frac" s__law_frac ["_law_top", "_law_bottom"] g2 gd2)
    (G__law_take : FnOk P w K mg base CX0 2 g1 gd1 ["_law_pile", "_law_size"] spTake) (G__law_frac : FnOk P w K mg base CX0 2 g2 gd2 ["_law_top", "_law_bottom"] spFr) : FnOk P w K mg base CX0 3 f fd ["_law_pile"] spDrawn := by
  have sc:=sc__law_part
  refine F.F.ok (k:=2) sc (fun vs H Q E h => ?_) (fun cdv A outer s H vs Q E hr h => ?_)
  · obtain ⟨l,x,rfl,_⟩:=h
    rfl
  obtain ⟨l,x,rfl,hl,q⟩:=h
  refine ⟨_,(pss_cons (ps_set (i:=1) sc.nd rfl (Or.inl rfl) (pe_op op_sub (pe_fn T__law_take G__law_take hr rfl (pa_cons (pv 0) (pa_cons pe_int pa_nil))) pe_int))
  (pss_one (ps_ret (pe_fn T__law_frac G__law_frac hr rfl (pa_cons (pv 1) (pa_cons (pe_op op_add pe_int (pe_fn T__law_take G__law_take hr rfl (pa_cons (pv 0) (pa_cons pe_int pa_nil)))) pa_nil)))))),?_⟩
  refine ⟨_,rfl,l,x,13,rfl,hl,by decide,by decide,fun i y i0 i1 => ⟨_,_,rfl,rfl,?_⟩⟩
  refine ⟨_,rfl,_,rfl,l,y,6,rfl,upd_same,by decide,by decide,fun j z j0 j1 => ⟨_,_,rfl,rfl,?_⟩⟩
  have hd:=drawn_small i0 i1 j0 j1
  refine ⟨i - 6,1 + j,8,rfl,by lia,by decide,by lia,fun p H' e hp => ?_⟩
  refine q p _ z H' (fun b o hb => e _ _ ?_) hp hd.1 hd.2
  by_cases hbl : b = l
  · subst hbl
    rw [upd_same] at hb ⊢
    exact hb
  · rw [upd_ne hbl] at hb
    rw [upd_ne hbl,upd_ne hbl]
    exact hb
end
theorem com_step {c b : Int} (hc : 1≤c) (hb : 1≤b) : 1≤c.fdiv (FM.gi c b) * b∧c ∣ c.fdiv (FM.gi c b) * b∧b ∣ c.fdiv (FM.gi c b) * b∧(c.fdiv (FM.gi c b)).natAbs≤c.natAbs := by
  have hg : 0 < FM.gi c b:=FM.gi_pos (by lia)
  obtain ⟨q,hq⟩:=FM.gi_dvd_left c b
  obtain ⟨r,hr⟩:=FM.gi_dvd_right c b
  have e:=FM.fdiv_exact (Int.ne_of_gt hg) hq
  refine ⟨?_,?_,Int.dvd_mul_left _ _,FM.natAbs_fdiv_le' _ _⟩
  · rw [e]
    have hq0 : 0 < q := by
      rcases Int.lt_or_le 0 q with h | h
      · exact h
      · have:=Int.mul_nonpos_of_nonneg_of_nonpos (Int.le_of_lt hg) h
        lia
    exact Int.mul_pos hq0 (by lia)
  · rw [e]
    refine ⟨r,?_⟩
    rw [hr]
    conv => rhs; rw [hq]
    rw [← hr,Int.mul_comm (FM.gi c b) q,Int.mul_assoc,Int.mul_comm (FM.gi c b) r]
    conv => lhs; rw [hr]
    rw [Int.mul_comm (FM.gi c b) r]
def spPow : Sp:=fun vs H Q _ => ∃ (b : Int) (p k : Nat),vs = [.int b,.int p]∧b.natAbs < 2 ^ k∧k * p≤4000∧Q (.int (b ^ p)) H
theorem pow_nb {b : Int} {k e p : Nat} (hb : b.natAbs < 2 ^ k) (he : e≤p) : (b ^ e).natAbs < 2 ^ (k * p + 1) := by
  rw [Int.natAbs_pow]
  have h1 : b.natAbs ^ e≤(2 ^ k) ^ e:=Nat.pow_le_pow_left (Nat.le_of_lt hb) e
  rw [← Nat.pow_mul] at h1
  exact Nat.lt_of_le_of_lt h1 (Nat.pow_lt_pow_right (by decide) (Nat.lt_succ_of_le (Nat.mul_le_mul_left k he)))
def mu4 (σ : St) : Nat:=match σ[4]? with | some (some (V.int l)) => l.natAbs | _ => 0
section
variable {P : Program} {w : World} {K : PySem.W.Frag} {mg : Str→Option Value} {base : Heap} {f : Addr} {fd : FuncData}
theorem sc_common_bottom : FnScope ["bottoms", "common", "bottom"] ["bottoms"] (defScope s_common_bottom):=⟨rfl,rfl,rfl,by decide +kernel,rfl,by decide +kernel,by decide +kernel⟩
theorem sc_power_of : FnScope ["base", "power", "product", "square", "left"] ["base", "power"] (defScope s_power_of):=⟨rfl,rfl,rfl,by decide +kernel,rfl,by decide +kernel,by decide +kernel⟩
theorem ok_power_of (F : Fn K mg "power_of" s_power_of ["base", "power"] f fd) : FnOk P w K mg base CX0 1 f fd ["base", "power"] spPow := by
  have sc:=sc_power_of
  refine F.F.ok (k:=0) sc (fun vs H Q E h => ?_) (fun cdv A outer s H vs Q E hr h => ?_)
  · obtain ⟨b,p,k,rfl,_⟩:=h
    rfl
  obtain ⟨b,p,k,rfl,hb,hk,q⟩:=h
  refine ⟨_,(pss_cons (ps_set (i:=2) sc.nd rfl (Or.inl rfl) pe_int)
  (pss_cons (ps_set (i:=3) sc.nd rfl (Or.inl rfl) (pv 0))
  (pss_cons (ps_set (i:=4) sc.nd rfl (Or.inl rfl) (pv 1))
  (pss_cons (ps_while PassesOwn.never (pt_cmpR op_gt (pv 4) pe_int (nomark _))
    (pss_cons (ps_if (pt_cmpR op_eq (pe_op op_mod (pv 4) pe_int) pe_int (nomark _))
      (pss_one (ps_set (i:=2) sc.nd rfl (Or.inl rfl) (pe_op op_mulW (pv 2) (pv 3))))
      pss_nil)
    (pss_cons (ps_set (i:=4) sc.nd rfl (Or.inl rfl) (pe_op op_fdiv (pv 4) pe_int))
    (pss_one (ps_if (pt_cmpR op_gt (pv 4) pe_int (nomark _))
      (pss_one (ps_set (i:=3) sc.nd rfl (Or.inl rfl) (pe_op op_mulW (pv 3) (pv 3))))
      pss_nil)))))
  (pss_one (ps_ret (pv 2))))))),?_⟩
  refine ⟨_,rfl,_,rfl,?_⟩
  refine while_by (fun σ H' => ∃ e f l : Nat,σ = [some (.int b),some (.int p),some (.int (b ^ e)),some (.int (b ^ f)),some (.int l)]∧H = H'∧e + f * l = p) (fun σ _ => mu4 σ) ?_ ?_ ?_
  · refine ⟨0,1,p,?_,rfl,by lia⟩
    rw [Int.pow_zero,Int.pow_succ,Int.pow_zero,Int.one_mul]
    rfl
  · rintro σ H' ⟨e,f,l,rfl,rfl,he⟩
    refine ⟨_,rfl,_,_,rfl,rfl,_,rfl,ite2 (fun c => ?_) (fun c => ?_)⟩
    · have hl : 0 < l := by have:=of_decide_eq_true c; lia
      have hfp : f≤p := by
        have : f * 1≤f * l:=Nat.mul_le_mul_left f hl
        lia
      try dsimp only [gName]
      refine seq_join (fun σ' H' => ∃ e' : Nat,σ' = [some (.int b),some (.int p),some (.int (b ^ e')),some (.int (b ^ f)),some (.int l)]∧H = H'∧e' + f * (2 * (l / 2)) = p) (fun nx hnx => ?_) ?_
      · refine ⟨_,rfl,_,_,rfl,rfl,(by show (0 : Int) < 2; decide),rfl,_,rfl,ite2 (fun c => ?_) (fun c => ?_)⟩
        · have hodd : l % 2 = 1 := by
            have : ((l : Int) % 2) = 1 := by simpa using c
            lia
          refine ⟨_,rfl,_,rfl,_,_,rfl,rfl,mulW (pow_nb hb (show e≤p by lia)) (pow_nb hb hfp) (by lia),hnx _ _ ⟨e + f,?_,rfl,?_⟩⟩
          · show [some (V.int b),some (V.int p),some (V.int (b ^ e * b ^ f)),some (V.int (b ^ f)),some (V.int l)] = _
            rw [← Int.pow_add]
          · have : l = 2 * (l / 2) + 1 := by lia
            rw [← he]
            conv => rhs; rw [this,Nat.mul_add,Nat.mul_one]
            lia
        · have hev : l % 2 = 0 := by
            have : ¬ ((l : Int) % 2) = 1 := by simpa using c
            lia
          refine hnx _ _ ⟨e,rfl,rfl,?_⟩
          rw [show 2 * (l / 2) = l by lia]; exact he
      · rintro σ' _ ⟨e',rfl,rfl,he'⟩
        refine ⟨_,rfl,_,_,rfl,rfl,⟨by decide,by decide⟩,?_⟩
        have el : ((l : Int) / 2) = ((l / 2 : Nat) : Int) := by lia
        refine ⟨_,rfl,_,_,rfl,rfl,_,rfl,ite2 (fun c => ?_) (fun c => ?_)⟩
        · refine ⟨_,rfl,_,rfl,_,_,rfl,rfl,mulW (pow_nb hb hfp) (pow_nb hb hfp) (by lia),⟨e',f + f,l / 2,?_,rfl,?_⟩,?_⟩
          · show [some (V.int b),some (V.int p),some (V.int (b ^ e')),some (V.int (b ^ f * b ^ f)),some (V.int ((l : Int) / 2))] = _
            rw [el,← Int.pow_add]
          · rw [← he',← Nat.two_mul,Nat.mul_assoc,Nat.mul_left_comm]
          · show ((l : Int) / 2).natAbs < ((l : Nat) : Int).natAbs
            lia
        · refine ⟨⟨e',f,l / 2,?_,rfl,?_⟩,?_⟩
          · show [some (V.int b),some (V.int p),some (V.int (b ^ e')),some (V.int (b ^ f)),some (V.int ((l : Int) / 2))] = _
            rw [el]
          · have : l / 2 = 0 := by have:=of_decide_eq_false (Bool.eq_false_iff.mpr c); lia
            rw [this] at he' ⊢
            simpa using he'
          · show ((l : Int) / 2).natAbs < ((l : Nat) : Int).natAbs
            lia
    · have hl : l = 0 := by have:=of_decide_eq_false (Bool.eq_false_iff.mpr c); lia
      subst hl
      rw [Nat.mul_zero,Nat.add_zero] at he
      subst he
      exact ⟨_,rfl,q⟩
  · exact fun σ H Q Q' hq ⟨v,e,s,k,e2,e3,e4,q1,q2⟩ => ⟨v,e,s,k,e2,e3,e4,q1,hq _ _ q2⟩
end
def DU (H : Hp) (d : PyData) (v : V) : Prop:=∃ N : Nat,∀ l,N≤l→Dt l H d v
def DUs (H : Hp) (ds : List PyData) (xs : List V) : Prop:=∃ N : Nat,∀ l,N≤l→DtAll l H ds xs
theorem DU.same {H H' : Hp} {d : PyData} {v : V} (h : DU H d v) (e : Same H H') : DU H' d v:=let ⟨N,k⟩:=h; ⟨N,fun l hl => (k l hl).same e⟩
theorem DUs.same {H H' : Hp} {d : List PyData} {v : List V} (h : DUs H d v) (e : Same H H') : DUs H' d v:=let ⟨N,k⟩:=h; ⟨N,fun l hl => (k l hl).same e⟩
theorem DU.int {H : Hp} {i : Int} : DU H (.int i) (.int i):=⟨0,fun _ _ => .int⟩
theorem DU.bool {H : Hp} {i : Bool} : DU H (.bool i) (.bl i):=⟨0,fun _ _ => .bool⟩
theorem DU.non {H : Hp} : DU H .none .non:=⟨0,fun _ _ => .non⟩
theorem DU.str {H : Hp} {x : Str} : DU H (.str x) (.str x):=⟨0,fun _ _ => .str⟩
theorem DUs.nil {H : Hp} : DUs H [] []:=⟨0,fun _ _ => .nil⟩
theorem DUs.cons {H : Hp} {d : PyData} {ds : List PyData} {x : V} {xs : List V} (h : DU H d x) (k : DUs H ds xs) : DUs H (d :: ds) (x :: xs) :=
  let ⟨N,a⟩:=h; let ⟨M,b⟩:=k; ⟨max N M,fun l hl => .cons (a l (by lia)) (b l (by lia))⟩
theorem DUs.app {H : Hp} {ds es : List PyData} {xs ys : List V} (h : DUs H ds xs) (k : DUs H es ys) : DUs H (ds ++ es) (xs ++ ys) :=
  let ⟨N,a⟩:=h; let ⟨M,b⟩:=k; ⟨max N M,fun l hl => (a l (by lia)).app (b l (by lia))⟩
theorem DUs.len {H : Hp} {ds : List PyData} {xs : List V} (h : DUs H ds xs) : xs.length = ds.length:=let ⟨N,a⟩:=h; (a N (Nat.le_refl _)).len
theorem DUs.get {H : Hp} {ds : List PyData} {xs : List V} {i : Nat} {d : PyData} (h : DUs H ds xs) (e : ds[i]? = some d) : ∃ v,xs[i]? = some v∧DU H d v := by
  have hl:=h.len
  have hi : i < xs.length := by rw [hl]; exact (List.getElem?_eq_some_iff.mp e).1
  have hx : xs[i]? = some xs[i] := by simp [hi]
  obtain ⟨N,a⟩:=h
  refine ⟨xs[i],hx,N,fun l hl => ?_⟩
  obtain ⟨d',h1,h2⟩:=(a l hl).get hx
  rw [e] at h1; cases h1
  exact h2
theorem DU.lst {H : Hp} {a : Addr} {ds : List PyData} {xs : List V} (h : H a = some (.lst xs)) (k : DUs H ds xs) : DU H (.list ds) (.ref a) :=
  let ⟨N,b⟩:=k; ⟨max N (a + 1),fun l hl => .lst (Nat.ne_of_lt (show a < l from Nat.lt_of_lt_of_le (Nat.lt_succ_self a) (Nat.le_trans (Nat.le_max_right _ _) hl))) h (b l (by lia))⟩
theorem DU.tup {H : Hp} {a : Addr} {ds : List PyData} {xs : List V} (h : H a = some (.tup xs)) (k : DUs H ds xs) : DU H (.tuple ds) (.ref a) :=
  let ⟨N,b⟩:=k; ⟨max N (a + 1),fun l hl => .tup (Nat.ne_of_lt (show a < l from Nat.lt_of_lt_of_le (Nat.lt_succ_self a) (Nat.le_trans (Nat.le_max_right _ _) hl))) h (b l (by lia))⟩
theorem DU.unL {H : Hp} {ds : List PyData} {v : V} (h : DU H (.list ds) v) : ∃ a xs,v = .ref a∧H a = some (.lst xs)∧DUs H ds xs := by
  obtain ⟨N,b⟩:=h
  have h0 := b N (Nat.le_refl _)
  rw [Dt] at h0
  obtain ⟨a,xs,rfl,_,ha,_⟩:=h0
  refine ⟨a,xs,rfl,ha,N,fun l hl => ?_⟩
  have h1 := b l hl
  rw [Dt] at h1
  obtain ⟨a',xs',e,_,ha',hx'⟩:=h1
  cases e
  rw [ha] at ha'; cases ha'
  exact hx'
theorem DU.unT {H : Hp} {ds : List PyData} {v : V} (h : DU H (.tuple ds) v) : ∃ a xs,v = .ref a∧H a = some (.tup xs)∧DUs H ds xs := by
  obtain ⟨N,b⟩:=h
  have h0 := b N (Nat.le_refl _)
  rw [Dt] at h0
  obtain ⟨a,xs,rfl,_,ha,_⟩:=h0
  refine ⟨a,xs,rfl,ha,N,fun l hl => ?_⟩
  have h1 := b l hl
  rw [Dt] at h1
  obtain ⟨a',xs',e,_,ha',hx'⟩:=h1
  cases e
  rw [ha] at ha'; cases ha'
  exact hx'
theorem DUs.un2 {H : Hp} {d e : PyData} {xs : List V} (h : DUs H [d,e] xs) : ∃ x y,xs = [x,y]∧DU H d x∧DU H e y := by
  obtain ⟨x,h1,h2⟩:=h.get (i:=0) rfl
  obtain ⟨y,h3,h4⟩:=h.get (i:=1) rfl
  have:=h.len
  match xs,this with
  | [a,b],_ =>
    simp at h1 h3
    subst h1 h3
    exact ⟨a,b,rfl,h2,h4⟩
mutual
theorem dt_du {c : Addr} {H : Hp} : ∀ {d : PyData} {v : V},Dt c H d v→DU H d v
  | .none,_,h => by rw [Dt] at h; subst h; exact .non
  | .bool _,_,h => by rw [Dt] at h; subst h; exact .bool
  | .int _,_,h => by rw [Dt] at h; subst h; exact .int
  | .str _,_,h => by rw [Dt] at h; subst h; exact .str
  | .tuple _,_,h => by
    rw [Dt] at h
    obtain ⟨a,xs,rfl,n,h1,h2⟩:=h
    exact .tup h1 (dtAll_du h2)
  | .list _,_,h => by
    rw [Dt] at h
    obtain ⟨a,xs,rfl,n,h1,h2⟩:=h
    exact .lst h1 (dtAll_du h2)
  | .dict _,_,h => by rw [Dt] at h; exact h.elim
theorem dtAll_du {c : Addr} {H : Hp} : ∀ {ds : List PyData} {xs : List V},DtAll c H ds xs→DUs H ds xs
  | [],_,h => by rw [DtAll] at h; subst h; exact .nil
  | _ :: _,_,h => by
    rw [DtAll] at h
    obtain ⟨x,r,rfl,h1,h2⟩:=h
    exact .cons (dt_du h1) (dtAll_du h2)
end
theorem DU.ints {H : Hp} {ps : List Int} {v : V} (h : DU H (.tuple (ps.map .int)) v) : ∃ a,v = .ref a∧H a = some (.tup (ps.map V.int)) := by
  obtain ⟨a,xs,rfl,ha,hx⟩:=h.unT
  refine ⟨a,rfl,?_⟩
  rw [ha]
  congr 2
  obtain ⟨N,b⟩:=hx
  have := b N (Nat.le_refl _)
  clear b ha h
  induction ps generalizing xs with
  | nil => rw [List.map_nil,DtAll] at this; exact this
  | cons p ps ih =>
    rw [List.map_cons,DtAll] at this
    obtain ⟨x,r,rfl,h1,h2⟩:=this
    rw [Dt] at h1
    subst h1
    rw [List.map_cons,ih r h2]
def isFrD : PyData→Bool
  | .tuple [.int a,.int b] => decide (1≤b) && (FM.gi a b == 1)
  | _ => false
theorem isFrD_of {ds : List PyData} (h : ds.length≠2∨∃ d0 d1,ds = [d0,d1]∧((isIntD d0 && !isBoolD d0) = false∨(isIntD d1 && !isBoolD d1) = false)) : isFrD (.tuple ds) = false := by
  rcases h with h | ⟨d0,d1,rfl,h⟩
  · match ds,h with
    | [],_ => rfl
    | [a],_ => cases a <;> rfl
    | [_,_],h => exact absurd rfl h
    | a :: b :: _ :: _,_ => cases a <;> first | rfl | (cases b <;> rfl)
  · cases d0 <;> first | rfl | (cases d1 <;> first | rfl | (exfalso; rcases h with h | h <;> exact absurd h (by simp [isIntD,isBoolD])))
def spIsWh : Sp:=fun vs H Q _ => ∃ l d v,vs = [v]∧Dt l H d v∧Q (.bl (isIntD d && !isBoolD d)) H
def spIsFr : Sp:=fun vs H Q _ => ∃ l d v,vs = [v]∧Dt l H d v∧Q (.bl (isFrD d)) H
theorem whole_int {d : PyData} (h : (isIntD d && !isBoolD d) = true) : ∃ i,d = .int i := by
  cases d <;> first | exact ⟨_,rfl⟩ | (exact absurd h (by simp [isIntD,isBoolD])) | (rename_i b; cases b <;> exact absurd h (by decide))
section
variable {P : Program} {w : World} {K : PySem.W.Frag} {mg : Str→Option Value} {base : Heap} {f g1 g2 : Addr} {fd gd1 gd2 : FuncData}
theorem sc_is_whole : FnScope ["thing"] ["thing"] (defScope s_is_whole):=⟨rfl,rfl,rfl,by decide +kernel,rfl,by decide +kernel,by decide +kernel⟩
theorem ok_is_whole (F : Fn K mg "is_whole" s_is_whole ["thing"] f fd) (z_isinstance : mg "isinstance" = none) (z_int : mg "int" = none) (z_bool : mg "bool" = none) : FnOk P w K mg base CX0 1 f fd ["thing"] spIsWh := by
  have sc:=sc_is_whole
  refine F.F.ok (k:=0) sc (fun vs H Q E h => ?_) (fun cdv A outer s H vs Q E hr h => ?_)
  · obtain ⟨l,d,v,rfl,_⟩:=h
    rfl
  obtain ⟨l,d,v,rfl,hd,q⟩:=h
  refine ⟨_,(pss_one (ps_ret (pe_and (pe_callB call_isi rfl z_isinstance PyProof.Rows.boot_isinstance (pa_cons (pv 0) (pa_cons (pe_bltn (v:=.ty "int") rfl z_int PyProof.Rows.boot_int rfl) pa_nil))) (pe_one (pe_not (pe_callB call_isi rfl z_isinstance PyProof.Rows.boot_isinstance (pa_cons (pv 0) (pa_cons (pe_bltn (v:=.ty "bool") rfl z_bool PyProof.Rows.boot_bool rfl) pa_nil)))))))),?_⟩
  refine ⟨_,rfl,_,_,_,_,rfl,nnt,hd.ty,kit_intD K d hd.nodict,_,rfl,ite2 (fun c => ⟨_,rfl,_,_,_,_,rfl,nnt,hd.ty,kit_boolD K d hd.nodict,_,rfl,?_⟩) (fun c => ?_)⟩
  · rw [c,Bool.true_and] at q; exact q
  · rw [Bool.eq_false_iff.mpr c,Bool.false_and] at q; exact q
theorem sc_is_fraction : FnScope ["thing"] ["thing"] (defScope s_is_fraction):=⟨rfl,rfl,rfl,by decide +kernel,rfl,by decide +kernel,by decide +kernel⟩
theorem ok_is_fraction (F : Fn K mg "is_fraction" s_is_fraction ["thing"] f fd) (T_is_whole : Fn K mg "is_whole" s_is_whole ["thing"] g1 gd1) (T_greatest_divisor : Fn K mg "greatest_divisor" s_greatest_divisor ["one", "other"] g2 gd2)
    (G_is_whole : FnOk P w K mg base CX0 1 g1 gd1 ["thing"] spIsWh) (G_greatest_divisor : FnOk P w K mg base CX0 1 g2 gd2 ["one", "other"] spGd) (z_isinstance : mg "isinstance" = none) (z_tuple : mg "tuple" = none) (z_len : mg "len" = none) : FnOk P w K mg base CX0 2 f fd ["thing"] spIsFr := by
  have sc:=sc_is_fraction
  refine F.F.ok (k:=1) sc (fun vs H Q E h => ?_) (fun cdv A outer s H vs Q E hr h => ?_)
  · obtain ⟨l,d,v,rfl,_⟩:=h
    rfl
  obtain ⟨l,d,v,rfl,hd,q⟩:=h
  refine ⟨_,(pss_cons (ps_if (PW.pt (pw_or (pt_not (pt_val (pe_callB call_isi rfl z_isinstance PyProof.Rows.boot_isinstance (pa_cons (pv 0) (pa_cons (pe_bltn (v:=.ty "tuple") rfl z_tuple PyProof.Rows.boot_tuple rfl) pa_nil))))) (pw_or1 (pt_cmpR op_ne (pe_callB call_len_seq rfl z_len PySem.boot_len (pa_cons (pv 0) pa_nil)) pe_int (nomark _)))))
    (pss_one (ps_ret pe_bl))
    pss_nil)
  (pss_cons (ps_if (PW.pt (pw_or (pt_not (pt_val (pe_fn T_is_whole G_is_whole hr rfl (pa_cons (pe_ix ix_tup (pv 0) pe_int (fun _ _ => rfl)) pa_nil)))) (pw_or1 (pt_not (pt_val (pe_fn T_is_whole G_is_whole hr rfl (pa_cons (pe_ix ix_tup (pv 0) pe_int (fun _ _ => rfl)) pa_nil)))))))
    (pss_one (ps_ret pe_bl))
    pss_nil)
  (pss_one (ps_ret (pe_and (pe_cmpR op_ge (pe_ix ix_tup (pv 0) pe_int (fun _ _ => rfl)) pe_int (nomark _)) (pe_one (pe_cmpR op_eq (pe_fn T_greatest_divisor G_greatest_divisor hr rfl (pa_cons (pe_ix ix_tup (pv 0) pe_int (fun _ _ => rfl)) (pa_cons (pe_ix ix_tup (pv 0) pe_int (fun _ _ => rfl)) pa_nil))) pe_int (nomark _)))))))),?_⟩
  refine ⟨_,rfl,_,_,_,_,rfl,nnt,hd.ty,kit_tupD K d hd.nodict,_,rfl,?_⟩
  have no : isTupD d = false→isFrD d = false:=fun z => by cases d <;> first | rfl | exact absurd z (by simp [isTupD])
  by_cases ht : isTupD d = true
  · rw [ht]
    obtain ⟨ds,rfl⟩ : ∃ ds,d = .tuple ds := by cases d <;> first | exact ⟨_,rfl⟩ | exact absurd ht (by simp [isTupD])
    rw [Dt] at hd
    obtain ⟨a,xs,rfl,na,ha,hx⟩:=hd
    have hlen:=hx.len
    have s1 : SqT K H a xs:=SqT.of ha
    refine iteF ⟨_,rfl,a,xs,rfl,.inr s1,rfl,_,rfl,ite2 (fun c => ?_) (fun c => ?_)⟩
    · have : ds.length≠2 := by
        rw [← hlen]
        intro z
        rw [z] at c
        exact absurd c (by decide)
      rw [isFrD_of (.inl this)] at q
      exact q
    · have h2 : xs.length = 2 := by
        by_cases z : xs.length = 2
        · exact z
        · exfalso
          refine c ?_
          have : ¬ (V.int (xs.length : Nat) = V.int 2) := by simp; lia
          rw [decide_eq_false this]; rfl
      obtain ⟨d0,d1,rfl⟩ : ∃ d0 d1,ds = [d0,d1] := by
        match ds,(show ds.length = 2 by lia) with
        | [x,y],_ => exact ⟨x,y,rfl⟩
      rw [DtAll] at hx
      obtain ⟨x0,r,rfl,hx0,hx⟩:=hx
      rw [DtAll] at hx
      obtain ⟨x1,r,rfl,hx1,hx⟩:=hx
      rw [DtAll] at hx
      subst hx
      refine ⟨_,rfl,_,_,_,_,rfl,rfl,s1,rfl,l,d0,x0,rfl,hx0,_,rfl,ite2 (fun c0 => ?_) (fun c0 => ?_)⟩
      · rw [isFrD_of (.inr ⟨d0,d1,rfl,.inl (by simp at c0; rcases c0 with c | c <;> simp [c])⟩)] at q
        exact q
      refine ⟨_,rfl,_,_,_,_,rfl,rfl,s1,rfl,l,d1,x1,rfl,hx1,_,rfl,ite2 (fun c1 => ?_) (fun c1 => ?_)⟩
      · rw [isFrD_of (.inr ⟨d0,d1,rfl,.inr (by simp at c1; rcases c1 with c | c <;> simp [c])⟩)] at q
        exact q
      obtain ⟨i,rfl⟩:=whole_int (d:=d0) (by simpa using c0)
      obtain ⟨j,rfl⟩:=whole_int (d:=d1) (by simpa using c1)
      rw [Dt] at hx0 hx1
      subst hx0 hx1
      refine ⟨_,rfl,_,_,_,_,rfl,rfl,s1,rfl,_,_,rfl,rfl,_,rfl,ite2 (fun c => ?_) (fun c => ?_)⟩
      · refine ⟨_,rfl,_,_,_,_,rfl,rfl,s1,rfl,_,rfl,_,_,_,_,rfl,rfl,s1,rfl,i,j,rfl,rfl,?_⟩
        have hj : 1≤j := by have:=of_decide_eq_true c; lia
        have e : isFrD (.tuple [.int i,.int j]) = decide (V.int (FM.gi i j) = V.int 1) := by
          rw [isFrD,decide_eq_true hj,Bool.true_and,Bool.eq_iff_iff]
          simp
        rw [e] at q
        exact q
      · have hj : ¬ 1≤j:=fun z => c (decide_eq_true (by lia))
        have e : isFrD (.tuple [.int i,.int j]) = false := by rw [isFrD,decide_eq_false hj,Bool.false_and]
        rw [e] at q
        exact q
  · rw [Bool.eq_false_iff.mpr ht]
    rw [no (Bool.eq_false_iff.mpr ht)] at q
    exact iteT (iteT q)
end
def areFrD : PyData→Bool
  | .list ds => ds.all isFrD
  | _ => false
theorem areFrD_no {d : PyData} (h : isLstD d = false) : areFrD d = false := by cases d <;> first | rfl | exact absurd h (by simp [isLstD])
theorem isLst_of {d : PyData} (h : isLstD d = true) : ∃ ds,d = .list ds := by cases d <;> first | exact ⟨_,rfl⟩ | exact absurd h (by simp [isLstD])
theorem isTup_of {d : PyData} (h : isTupD d = true) : ∃ ds,d = .tuple ds := by cases d <;> first | exact ⟨_,rfl⟩ | exact absurd h (by simp [isTupD])
def spAreFr : Sp:=fun vs H Q _ => ∃ l d v,vs = [v]∧Dt l H d v∧Q (.bl (areFrD d)) H
section
variable {P : Program} {w : World} {K : PySem.W.Frag} {mg : Str→Option Value} {base : Heap} {f g1 : Addr} {fd gd1 : FuncData}
theorem sc_are_fractions : FnScope ["thing", "part"] ["thing"] (defScope s_are_fractions):=⟨rfl,rfl,rfl,by decide +kernel,rfl,by decide +kernel,by decide +kernel⟩
theorem ok_are_fractions (F : Fn K mg "are_fractions" s_are_fractions ["thing"] f fd) (T_is_fraction : Fn K mg "is_fraction" s_is_fraction ["thing"] g1 gd1)
    (G_is_fraction : FnOk P w K mg base CX0 2 g1 gd1 ["thing"] spIsFr) (z_isinstance : mg "isinstance" = none) (z_list : mg "list" = none) : FnOk P w K mg base CX0 3 f fd ["thing"] spAreFr := by
  have sc:=sc_are_fractions
  refine F.F.ok (k:=2) sc (fun vs H Q E h => ?_) (fun cdv A outer s H vs Q E hr h => ?_)
  · obtain ⟨l,d,v,rfl,_⟩:=h
    rfl
  obtain ⟨l,d,v,rfl,hd,q⟩:=h
  refine ⟨_,(pss_cons (ps_if (pt_not (pt_val (pe_callB call_isi rfl z_isinstance PyProof.Rows.boot_isinstance (pa_cons (pv 0) (pa_cons (pe_bltn (v:=.ty "list") rfl z_list PyProof.Rows.boot_list rfl) pa_nil)))))
    (pss_one (ps_ret pe_bl))
    pss_nil)
  (pss_cons (ps_for PassesOwn.never rfl (pi_list (pv 0)) (pg_name (i:=1) sc.nd rfl (Or.inl rfl))
    (pss_one (ps_if (pt_not (pt_val (pe_fn T_is_fraction G_is_fraction hr rfl (pa_cons (pv 1) pa_nil))))
      (pss_one (ps_ret pe_bl))
      pss_nil)))
  (pss_one (ps_ret pe_bl)))),?_⟩
  refine ⟨_,rfl,_,_,_,_,rfl,nnt,hd.ty,kit_lstD K d hd.nodict,_,rfl,?_⟩
  by_cases hL : isLstD d = false
  · rw [hL]
    rw [areFrD_no hL] at q
    exact iteT q
  have hL : isLstD d = true := by simpa using hL
  rw [hL]
  refine iteF ?_
  obtain ⟨ds,rfl⟩:=isLst_of hL
  rw [Dt] at hd
  obtain ⟨a,xs,rfl,na,ha,ht⟩:=hd
  have hlen:=ht.len
  refine ⟨_,rfl,a,rfl,⟨_,SqL.of ha⟩,for_list (xs:=xs) (fun i σ H' => ∃ r1,σ = [some (.ref a),r1]∧H = H'∧∀ j c,j < i→ds[j]? = some c→isFrD c = true) ?_ ?_ ?_ ?_⟩
  · exact ⟨_,rfl,rfl,fun j c h => absurd h (Nat.not_lt_zero _)⟩
  · rintro i σ H' _ ⟨r1,rfl,rfl,_⟩
    exact SqL.of ha
  · rintro i x σ H' hx ⟨r1,rfl,rfl,hf⟩
    obtain ⟨c,hc,tc⟩:=ht.get hx
    refine ⟨_,rfl,l,c,x,rfl,tc,_,rfl,ite2 (fun b => ?_) (fun b => ?_)⟩
    · have hb : isFrD c = false := by simpa using b
      have e : areFrD (.list ds) = false:=Bool.eq_false_iff.mpr fun z => by
        rw [areFrD,List.all_eq_true] at z
        rw [z c (List.mem_of_getElem? hc)] at hb
        cases hb
      rw [e] at q
      exact q
    · have hb : isFrD c = true := by simpa using b
      refine ⟨_,rfl,rfl,fun j e hj he => ?_⟩
      by_cases z : j = i
      · subst z; rw [hc] at he; cases he; exact hb
      · exact hf j e (by lia) he
  · rintro σ H' ⟨r1,rfl,rfl,hf⟩
    have e : areFrD (.list ds) = true := by
      rw [areFrD,List.all_eq_true]
      intro c hc
      obtain ⟨j,hj⟩:=List.getElem?_of_mem hc
      exact hf j c (by rw [hlen]; exact (List.getElem?_eq_some_iff.mp hj).1) hj
    rw [e] at q
    exact q
end
theorem du_t {p : Addr} {H H' : Hp} {xs : List V} {ds : List PyData} (hH : upd H p (.tup xs) = H') (hp : H p = none) (k : DUs H ds xs) : Same H H'∧DU H' (.tuple ds) (.ref p)∧H' p = some (.tup xs) := by
  subst hH
  have es:=same_new hp (.tup xs)
  exact ⟨es,.tup upd_same (k.same es),upd_same⟩
theorem rat_fr (r : Rat) : isFrD (ratD r) = true := by
  have h:=r.den_nz
  have k:=r.reduced
  rw [ratD,isFrD,decide_eq_true (show (1 : Int)≤(r.den : Int) by lia),Bool.true_and]
  rw [beq_iff_eq]
  unfold FM.gi
  unfold Nat.Coprime at k
  rw [show r.num.gcd (r.den : Int) = 1 from k]
  rfl
theorem sz60 {i n : Nat} (h : i < n) (hn : n≤60) : i < sizeLine:=Nat.lt_of_lt_of_le (show i < 60 by lia) (by rw [sizeLine_eq]; decide)
theorem sz60' {n : Nat} (hn : n≤60) : n≤sizeLine:=Nat.le_trans hn (by rw [sizeLine_eq]; decide)
def fracsD (r : List Rat) : List PyData:=r.map ratD
def rowD (r : List Rat) : PyData:=.list (fracsD r)
def rowsD (rs : List (List Rat)) : List PyData:=rs.map rowD
theorem fracs_fr (r : List Rat) : ∀ e∈fracsD r,isFrD e = true:=fun e he => by
  obtain ⟨q,_,rfl⟩:=List.mem_map.mp he
  exact rat_fr q
theorem fracs_len (r : List Rat) : (fracsD r).length = r.length:=List.length_map _
theorem DUs.unC {H : Hp} {d : PyData} {ds : List PyData} {xs : List V} (h : DUs H (d :: ds) xs) : ∃ x r,xs = x :: r∧DU H d x∧DUs H ds r := by
  obtain ⟨N,b⟩:=h
  have h0 := b N (Nat.le_refl _)
  rw [DtAll] at h0
  obtain ⟨x,r,rfl,_,_⟩:=h0
  refine ⟨x,r,rfl,⟨N,fun l hl => ?_⟩,⟨N,fun l hl => ?_⟩⟩
  · have := b l hl
    rw [DtAll] at this
    obtain ⟨_,_,e,h1,_⟩:=this
    cases e
    exact h1
  · have := b l hl
    rw [DtAll] at this
    obtain ⟨_,_,e,_,h1⟩:=this
    cases e
    exact h1
theorem DU.rat {H : Hp} {q : Rat} {v : V} (h : DU H (ratD q) v) : ∃ p,v = .ref p∧H p = some (.tup (ratV q)):=h.ints (ps:=[q.num,(q.den : Int)])
theorem du_rat {H : Hp} {q : Rat} {p : Addr} (h : H p = some (.tup (ratV q))) : DU H (ratD q) (.ref p):=.tup h (.cons .int (.cons .int .nil))
theorem fracs_at {c : Addr} {zs : List V} {H : Hp} (hc : H c = some (.lst zs)) : ∀ {qs : List Rat} {xs : List V},DUs H (fracsD qs) xs→DtAll c H (fracsD qs) xs
  | [],xs,h => by
    have:=h.len
    rw [show fracsD [] = [] from rfl,List.length_nil] at this
    rw [List.eq_nil_of_length_eq_zero this]
    exact .nil
  | q :: qs,xs,h => by
    obtain ⟨x,r,rfl,h1,h2⟩:=DUs.unC h
    obtain ⟨p,rfl,hp⟩:=h1.rat
    exact .cons (.tup (fun z => by subst z; rw [hp] at hc; cases hc) hp (.cons .int (.cons .int .nil))) (fracs_at hc h2)
def comStep (c b : Int) : Int:=c.fdiv (FM.gi c b) * b
def comL (bs : List Int) : Int := bs.foldl comStep 1
theorem com_fold {k : Nat} : ∀ (bs : List Int) (c : Int) (n : Nat),1≤c→c.natAbs < 2 ^ n→(∀ b∈bs,1≤b∧b.natAbs < 2 ^ k) →
    1≤bs.foldl comStep c∧(bs.foldl comStep c).natAbs < 2 ^ (n + k * bs.length)∧c ∣ bs.foldl comStep c∧∀ b∈bs,b ∣ bs.foldl comStep c
  | [],c,n,h1,h2,_ => ⟨h1,by simpa using h2,Int.dvd_refl _,fun _ z => (List.not_mem_nil z).elim⟩
  | b :: bs,c,n,h1,h2,h => by
    obtain ⟨b1,b2⟩:=h b List.mem_cons_self
    obtain ⟨s1,s2,s3,s4⟩:=com_step h1 b1
    have n1 : (comStep c b).natAbs < 2 ^ (n + k):=FM.nb_mul (Nat.lt_of_le_of_lt s4 h2) b2
    obtain ⟨r1,r2,r3,r4⟩:=com_fold bs (comStep c b) (n + k) s1 n1 fun y hy => h y (List.mem_cons_of_mem _ hy)
    refine ⟨r1,?_,Int.dvd_trans s2 r3,fun y hy => ?_⟩
    · rw [List.length_cons,Nat.mul_succ,show n + (k * bs.length + k) = n + k + k * bs.length by lia]
      exact r2
    · rcases List.mem_cons.mp hy with rfl | hy
      · exact Int.dvd_trans s3 r3
      · exact r4 y hy
theorem comL_ok {k : Nat} {bs : List Int} (h : ∀ b∈bs,1≤b∧b.natAbs < 2 ^ k) : 1≤comL bs∧(comL bs).natAbs < 2 ^ (1 + k * bs.length)∧∀ b∈bs,b ∣ comL bs := by
  obtain ⟨a,b,_,d⟩:=com_fold bs 1 1 (by decide) (by decide) h
  exact ⟨a,b,d⟩
theorem comL_snoc (bs : List Int) (b : Int) : comL (bs ++ [b]) = comStep (comL bs) b := by
  unfold comL
  rw [List.foldl_append]
  rfl
def spComF : Sp:=fun vs H Q _ => ∃ (a : Addr) (bs : List Int) (k : Nat),vs = [.ref a]∧H a = some (.lst (bs.map V.int))∧(∀ b∈bs,1≤b∧b.natAbs < 2 ^ k)∧k * bs.length≤4000∧Q (.int (comL bs)) H
def topsL (rs : List Rat) (B : Int) : List Int:=rs.map fun r => r.num * B.fdiv (r.den : Int)
def spTops : Sp:=fun vs H Q _ => ∃ (a : Addr) (xs : List V) (rs : List Rat) (B : Int) (n m : Nat),vs = [.ref a,.int B]∧H a = some (.lst xs)∧DUs H (fracsD rs) xs∧rs.length≤50∧(∀ r∈rs,FM.Fits r n)∧B.natAbs < 2 ^ m∧n + m≤4000 ∧
  ∀ D H',Same H H'→H D = none→H' D = some (.lst ((topsL rs B).map V.int))→Q (.ref D) H'
def grainL (rs : List Rat) : Int:=comL (rs.map fun r => (r.den : Int))
def spGrain : Sp:=fun vs H Q _ => ∃ (a : Addr) (xs : List V) (rs : List Rat) (n : Nat),vs = [.ref a]∧H a = some (.lst xs)∧DUs H (fracsD rs) xs∧rs.length≤50∧(∀ r∈rs,FM.Fits r n)∧n * rs.length≤4000∧∀ H',Same H H'→Q (.int (grainL rs)) H'
theorem fracs_get' {H : Hp} {qs : List Rat} {xs : List V} {i : Nat} {q : Rat} (h : DUs H (fracsD qs) xs) (hq : qs[i]? = some q) : ∃ p,xs[i]? = some (.ref p)∧H p = some (.tup (ratV q)) := by
  obtain ⟨v,h1,h2⟩:=h.get (i:=i) (d:=ratD q) (by rw [fracsD,List.getElem?_map,hq]; rfl)
  obtain ⟨p,rfl,hp⟩:=h2.rat
  exact ⟨p,h1,hp⟩
theorem dens_ok {rs : List Rat} {n : Nat} (h : ∀ r∈rs,FM.Fits r n) : ∀ b∈rs.map (fun r => (r.den : Int)),1≤b∧b.natAbs < 2 ^ n:=fun b hb => by
  obtain ⟨r,hr,rfl⟩:=List.mem_map.mp hb
  have:=r.den_nz
  exact ⟨by lia,(h r hr).d⟩
section
variable {P : Program} {w : World} {K : PySem.W.Frag} {mg : Str→Option Value} {base : Heap} {f g g1 : Addr} {fd gd gd1 : FuncData}
theorem ok_common_bottomF (F : Fn K mg "common_bottom" s_common_bottom ["bottoms"] f fd) (T_greatest_divisor : Fn K mg "greatest_divisor" s_greatest_divisor ["one", "other"] g gd)
    (G_greatest_divisor : FnOk P w K mg base CX0 1 g gd ["one", "other"] spGd) : FnOk P w K mg base CX0 2 f fd ["bottoms"] spComF := by
  have sc:=sc_common_bottom
  refine F.F.ok (k:=1) sc (fun vs H Q E h => ?_) (fun cdv A outer s H vs Q E hr h => ?_)
  · obtain ⟨a,bs,k,rfl,_⟩:=h
    rfl
  obtain ⟨a,bs,k,rfl,ha,hb,hk,q⟩:=h
  refine ⟨_,(pss_cons (ps_set (i:=1) sc.nd rfl (Or.inl rfl) pe_int)
  (pss_cons (ps_for PassesOwn.never rfl (pi_list (pv 0)) (pg_name (i:=2) sc.nd rfl (Or.inl rfl))
    (pss_one (ps_set (i:=1) sc.nd rfl (Or.inl rfl) (pe_op op_mulW (pe_op op_fdivW (pv 1) (pe_fn T_greatest_divisor G_greatest_divisor hr rfl (pa_cons (pv 1) (pa_cons (pv 2) pa_nil)))) (pv 2)))))
  (pss_one (ps_ret (pv 1))))),?_⟩
  refine ⟨_,rfl,a,rfl,⟨_,SqL.of ha⟩,for_list (xs := bs.map V.int) (fun i σ H' => ∃ (r : Option V),σ = [some (.ref a),some (.int (comL (bs.take i))),r]∧H = H') ?_ ?_ ?_ ?_⟩
  · exact ⟨_,rfl,rfl⟩
  · rintro i σ H' _ ⟨r,rfl,rfl⟩
    exact SqL.of ha
  · rintro i x σ H' hx ⟨r,rfl,rfl⟩
    have hi : i < bs.length := by have:=(List.getElem?_eq_some_iff.mp hx).1; simpa using this
    rw [List.getElem?_map,List.getElem?_eq_getElem hi] at hx
    cases hx
    obtain ⟨b1,b2⟩:=hb _ (List.getElem_mem hi)
    obtain ⟨c1,c2,_⟩:=comL_ok (k:=k) (bs := bs.take i) fun y hy => hb y (List.mem_of_mem_take hy)
    rw [List.length_take,Nat.min_eq_left (by lia)] at c2
    obtain ⟨s1,s2,s3,s4⟩:=com_step c1 b1
    have hg : FM.gi (comL (bs.take i)) bs[i]≠0:=Int.ne_of_gt (FM.gi_pos (by lia))
    have hki : k * i + k≤4000 := by
      have : k * (i + 1)≤k * bs.length:=Nat.mul_le_mul_left k hi
      rw [Nat.mul_succ] at this
      lia
    have n1 : ((comL (bs.take i)).fdiv (FM.gi (comL (bs.take i)) bs[i])).natAbs < 2 ^ (1 + k * i):=Nat.lt_of_le_of_lt s4 c2
    refine ⟨_,rfl,_,rfl,_,rfl,comL (bs.take i),bs[i],rfl,_,_,rfl,rfl,⟨hg,k,by have : k * 1≤k * bs.length:=Nat.mul_le_mul_left k (by lia); lia,Nat.lt_of_le_of_lt (FM.gi_le (by lia)) b2⟩,_,rfl,_,_,rfl,rfl,mulW n1 b2 (by lia),some (.int bs[i]),?_,rfl⟩
    rw [List.take_add_one,List.getElem?_eq_getElem hi]
    show _ = [some (V.ref a),some (V.int (comL (bs.take i ++ [bs[i]]))),some (V.int bs[i])]
    rw [comL_snoc]
    rfl
  · rintro σ H' ⟨r,rfl,rfl⟩
    rw [List.length_map,List.take_length]
    exact ⟨_,rfl,q⟩
theorem sc_tops_over : FnScope ["some", "bottom"] ["some", "bottom"] (defScope s_tops_over):=⟨rfl,rfl,rfl,by decide +kernel,rfl,by decide +kernel,by decide +kernel⟩
theorem ok_tops_over (F : Fn K mg "tops_over" s_tops_over ["some", "bottom"] f fd) : FnOk P w K mg base CX0 1 f fd ["some", "bottom"] spTops := by
  have sc:=sc_tops_over
  refine F.F.ok (k:=0) sc (fun vs H Q E h => ?_) (fun cdv A outer s H vs Q E hr h => ?_)
  · obtain ⟨a,xs,rs,B,n,m,rfl,_⟩:=h
    rfl
  obtain ⟨a,xs,rs,B,n,m,rfl,ha,dx,hl,hf,hB,hnm,q⟩:=h
  have hxl : xs.length = rs.length := by rw [dx.len,fracs_len]
  refine ⟨_,(pss_one (ps_ret (pe_compr [".0", "part", "bottom"] 1 [none,none,some 1] (pi_list (pv 0)) (fun _ _ _ _ _ => pif_nil) (fun _ _ _ _ _ => (pe_op op_mulW (pe_ix ix_tupC (pv 1) pe_int (fun _ _ => rfl)) (pe_op op_fdivW (pv 2) (pe_ix ix_tupC (pv 1) pe_int (fun _ _ => rfl)))))))),?_⟩
  refine ⟨_,rfl,a,rfl,⟨_,SqL.of ha⟩,fun D hD => comp_by (n:=xs.length) (fun i ys H' => Same H H'∧ys = (topsL (rs.take i) B).map V.int) ⟨same_new hD _,rfl⟩ ?_ ?_⟩
  · rintro i ys H1 hi ⟨e1,rfl⟩ hD1
    have hr : rs[i]? = some (rs[i]'(by lia)):=List.getElem?_eq_getElem _
    obtain ⟨p,hp1,hp2⟩:=fracs_get' dx hr
    have ft:=hf _ (List.mem_of_getElem? hr)
    generalize rs[i]'(by lia) = r at hr hp2 ft
    have hd:=r.den_nz
    refine ⟨⟨xs,.ref p,SqL.of (e1 _ _ ha),hp1⟩,sz60 (n:=60) (by unfold topsL; simp; lia) (by decide),fun x H' y => ?_⟩
    obtain ⟨rfl,y⟩:=y
    have hx:=y xs (SqL.of (e1 _ _ ha))
    rw [hp1] at hx
    cases hx
    unfold tNoIf
    have n2 : (B.fdiv (r.den : Int)).natAbs < 2 ^ m:=Nat.lt_of_le_of_lt (FM.natAbs_fdiv_le' _ _) hB
    refine iteT ⟨_,rfl,_,_,_,_,rfl,rfl,SqT.of (e1 _ _ hp2),rfl,_,rfl,_,rfl,_,_,_,_,rfl,rfl,SqT.of (e1 _ _ hp2),rfl,_,_,rfl,rfl,⟨by lia,n,by lia,ft.d⟩,_,_,rfl,rfl,mulW ft.1 n2 (by lia),hD1,cw_next hi ⟨fun b o z => ?_,?_⟩⟩
    · rw [upd_ne (ne_of_none z hD)]
      exact e1 _ _ z
    · rw [List.take_add_one,hr,topsL,topsL,List.map_append,List.map_append]
      rfl
  · rintro ys H1 ⟨e1,rfl⟩ hD1
    rw [hxl,List.take_length] at hD1
    exact ⟨⟨xs,SqL.of (e1 _ _ ha),Nat.le_refl _⟩,q D H1 e1 hD hD1⟩
theorem sc_grain_of : FnScope ["start"] ["start"] (defScope s_grain_of):=⟨rfl,rfl,rfl,by decide +kernel,rfl,by decide +kernel,by decide +kernel⟩
theorem ok_grain_of (F : Fn K mg "grain_of" s_grain_of ["start"] f fd) (T_common_bottom : Fn K mg "common_bottom" s_common_bottom ["bottoms"] g1 gd1)
    (G_common_bottom : FnOk P w K mg base CX0 2 g1 gd1 ["bottoms"] spComF) : FnOk P w K mg base CX0 3 f fd ["start"] spGrain := by
  have sc:=sc_grain_of
  refine F.F.ok (k:=2) sc (fun vs H Q E h => ?_) (fun cdv A outer s H vs Q E hr h => ?_)
  · obtain ⟨a,xs,rs,n,rfl,_⟩:=h
    rfl
  obtain ⟨a,xs,rs,n,rfl,ha,dx,hl,hf,hn,q⟩:=h
  have hxl : xs.length = rs.length := by rw [dx.len,fracs_len]
  refine ⟨_,(pss_one (ps_ret (pe_fn T_common_bottom G_common_bottom hr rfl (pa_cons (pe_compr [".0", "place"] 1 [none,none] (pi_list (pv 0)) (fun _ _ _ _ _ => pif_nil) (fun _ _ _ _ _ => (pe_ix ix_tupC (pv 1) pe_int (fun _ _ => rfl)))) pa_nil)))),?_⟩
  refine ⟨_,rfl,a,rfl,⟨_,SqL.of ha⟩,fun D hD => comp_by (n:=xs.length) (fun i ys H' => Same H H'∧ys = ((rs.take i).map fun r => (r.den : Int)).map V.int) ⟨same_new hD _,rfl⟩ ?_ ?_⟩
  · rintro i ys H1 hi ⟨e1,rfl⟩ hD1
    have hr : rs[i]? = some (rs[i]'(by lia)):=List.getElem?_eq_getElem _
    obtain ⟨p,hp1,hp2⟩:=fracs_get' dx hr
    generalize rs[i]'(by lia) = r at hr hp2
    refine ⟨⟨xs,.ref p,SqL.of (e1 _ _ ha),hp1⟩,sz60 (n:=60) (by simp; lia) (by decide),fun x H' y => ?_⟩
    obtain ⟨rfl,y⟩:=y
    have hx:=y xs (SqL.of (e1 _ _ ha))
    rw [hp1] at hx
    cases hx
    unfold tNoIf
    refine iteT ⟨_,rfl,_,_,_,_,rfl,rfl,SqT.of (e1 _ _ hp2),rfl,hD1,cw_next hi ⟨fun b o z => ?_,?_⟩⟩
    · rw [upd_ne (ne_of_none z hD)]
      exact e1 _ _ z
    · rw [List.take_add_one,hr,List.map_append,List.map_append]
      rfl
  · rintro ys H1 ⟨e1,rfl⟩ hD1
    rw [hxl,List.take_length] at hD1
    exact ⟨⟨xs,SqL.of (e1 _ _ ha),Nat.le_refl _⟩,D,_,n,rfl,hD1,dens_ok hf,by rw [List.length_map]; exact hn,q H1 e1⟩
end
abbrev Mono:=List Int×Rat
def monoD (m : Mono) : PyData:=.tuple [.tuple (m.1.map .int),ratD m.2]
def polyD (us : List Mono) : PyData:=.list (us.map monoD)
theorem DU.mono {H : Hp} {m : Mono} {v : V} (h : DU H (monoD m) v) : ∃ c P F,v = .ref c∧H c = some (.tup [.ref P,.ref F])∧H P = some (.tup (m.1.map V.int))∧H F = some (.tup (ratV m.2)) := by
  obtain ⟨c,xs,rfl,hc,h1⟩:=h.unT
  obtain ⟨x,y,rfl,h2,h3⟩:=h1.un2
  obtain ⟨P,rfl,hP⟩:=h2.ints
  obtain ⟨F,rfl,hF⟩:=h3.rat
  exact ⟨c,P,F,rfl,hc,hP,hF⟩
theorem mono_get {H : Hp} {us : List Mono} {xs : List V} {i : Nat} {m : Mono} (d : DUs H (us.map monoD) xs) (h : us[i]? = some m) : ∃ c P F,xs[i]? = some (.ref c)∧H c = some (.tup [.ref P,.ref F])∧H P = some (.tup (m.1.map V.int))∧H F = some (.tup (ratV m.2)) := by
  obtain ⟨v,h1,h2⟩:=d.get (i:=i) (d:=monoD m) (by rw [List.getElem?_map,h]; rfl)
  obtain ⟨c,P,F,rfl,a,b,e⟩:=h2.mono
  exact ⟨c,P,F,h1,a,b,e⟩
theorem chg_get {H : Hp} {uss : List (List Mono)} {cs : List V} {i : Nat} {us : List Mono} (d : DUs H (uss.map polyD) cs) (h : uss[i]? = some us) : ∃ a xs,cs[i]? = some (.ref a)∧H a = some (.lst xs)∧DUs H (us.map monoD) xs := by
  obtain ⟨v,h1,h2⟩:=d.get (i:=i) (d:=polyD us) (by rw [List.getElem?_map,h]; rfl)
  obtain ⟨a,xs,rfl,ha,hx⟩:=h2.unL
  exact ⟨a,xs,h1,ha,hx⟩
def densM (us : List Mono) : List Int:=us.map fun m => (m.2.den : Int)
def densC (uss : List (List Mono)) : List Int:=(uss.map densM).flatten
def speedsB (uss : List (List Mono)) : Int:=comL (densC uss)
def sumP (m : Mono) : Int:=m.1.sum
def maxP (g : Int) (us : List Mono) : Int:=us.foldl (fun g m => if sumP m > g then sumP m else g) g
def greatP (uss : List (List Mono)) : Int:=uss.foldl maxP 1
structure Chg (H : Hp) (C : Addr) (cs : List V) (uss : List (List Mono)) (n : Nat) : Prop where
  at_ : H C = some (.lst cs)
  du : DUs H (uss.map polyD) cs
  len : uss.length≤4
  poly : ∀ us∈uss,us.length≤12∧∀ m∈us,FM.Fits m.2 n
theorem Chg.same {H H' : Hp} {C : Addr} {cs : List V} {uss : List (List Mono)} {n : Nat} (c : Chg H C cs uss n) (e : Same H H') : Chg H' C cs uss n:=⟨e _ _ c.at_,c.du.same e,c.len,c.poly⟩
theorem Chg.cl {H : Hp} {C : Addr} {cs : List V} {uss : List (List Mono)} {n : Nat} (c : Chg H C cs uss n) : cs.length = uss.length := by rw [c.du.len,List.length_map]
theorem dens_len {uss : List (List Mono)} : ∀ (h : ∀ us∈uss,us.length≤12),(densC uss).length≤12 * uss.length := by
  induction uss with
  | nil => intro _; simp [densC]
  | cons us uss ih =>
    intro h
    have h1:=h us List.mem_cons_self
    have h2:=ih fun y hy => h y (List.mem_cons_of_mem _ hy)
    unfold densC at h2 ⊢
    rw [List.map_cons,List.flatten_cons,List.length_append,List.length_cons,Nat.mul_succ]
    have : (densM us).length = us.length:=List.length_map _
    lia
theorem dens_snoc {uss : List (List Mono)} {us : List Mono} {i : Nat} (h : uss[i]? = some us) : densC (uss.take (i + 1)) = densC (uss.take i) ++ densM us := by
  unfold densC
  rw [List.take_add_one,h,List.map_append,List.flatten_append]
  simp
theorem dens_all {uss : List (List Mono)} {n : Nat} (h : ∀ us∈uss,us.length≤12∧∀ m∈us,FM.Fits m.2 n) : ∀ b∈densC uss,1≤b∧b.natAbs < 2 ^ n:=fun b hb => by
  unfold densC at hb
  obtain ⟨l,hl,hb⟩:=List.mem_flatten.mp hb
  obtain ⟨us,hus,rfl⟩:=List.mem_map.mp hl
  obtain ⟨m,hm,rfl⟩:=List.mem_map.mp hb
  have:=m.2.den_nz
  exact ⟨by lia,((h us hus).2 m hm).d⟩
def spSB : Sp:=fun vs H Q _ => ∃ (C : Addr) (cs : List V) (uss : List (List Mono)) (n : Nat),vs = [.ref C]∧Chg H C cs uss n∧n≤80∧∀ H',Same H H'→Q (.int (speedsB uss)) H'
def spGP : Sp:=fun vs H Q _ => ∃ (C : Addr) (cs : List V) (uss : List (List Mono)) (n : Nat),vs = [.ref C]∧Chg H C cs uss n∧Q (.int (greatP uss)) H
section
variable {P : Program} {w : World} {K : PySem.W.Frag} {mg : Str→Option Value} {base : Heap} {f g1 : Addr} {fd gd1 : FuncData}
theorem sc_speeds_bottom : FnScope ["change", "bottoms", "some"] ["change"] (defScope s_speeds_bottom):=⟨rfl,rfl,rfl,by decide +kernel,rfl,by decide +kernel,by decide +kernel⟩
theorem ok_speeds_bottom (F : Fn K mg "speeds_bottom" s_speeds_bottom ["change"] f fd) (T_common_bottom : Fn K mg "common_bottom" s_common_bottom ["bottoms"] g1 gd1)
    (G_common_bottom : FnOk P w K mg base CX0 2 g1 gd1 ["bottoms"] spComF) : FnOk P w K mg base CX0 3 f fd ["change"] spSB := by
  have sc:=sc_speeds_bottom
  refine F.F.ok (k:=2) sc (fun vs H Q E h => ?_) (fun cdv A outer s H vs Q E hr h => ?_)
  · obtain ⟨C,cs,uss,n,rfl,_⟩:=h
    rfl
  obtain ⟨C,cs,uss,n,rfl,ch,hn,q⟩:=h
  have hcl:=ch.cl
  have hl4:=ch.len
  refine ⟨_,(pss_cons (ps_set (i:=1) sc.nd rfl (Or.inl rfl) (pe_lst pa_nil))
  (pss_cons (ps_for PassesOwn.never rfl (pi_list (pv 0)) (pg_name (i:=2) sc.nd rfl (Or.inl rfl))
    (pss_one (ps_expr (pe_bm PySem.F.plainAttrs_list PySem.F.slot_list_extend PySem.F.type_list_extend mt_extend (pv 1) (pa_cons (pe_compr2 [".0", "powers", "part"] 1 2 [none,none,none] (pi_list (pv 2)) (fun _ _ _ _ _ => pif_nil) (fun _ _ _ _ _ => (pe_ix ix_tupC (pv 2) pe_int (fun _ _ => rfl)))) pa_nil)))))
  (pss_one (ps_ret (pe_fn T_common_bottom G_common_bottom hr rfl (pa_cons (pv 1) pa_nil)))))),?_⟩
  refine ⟨sz60' (show 0≤60 by decide),fun Z hZ => ?_⟩
  have e1:=same_new hZ (.lst [])
  have hZ1 : upd H Z (.lst []) Z = some (.lst []):=upd_same
  generalize upd H Z (.lst []) = H1 at e1 hZ1
  refine ⟨_,rfl,C,rfl,⟨_,SqL.of (e1 _ _ ch.at_)⟩,for_list (xs:=cs) (fun i σ H' => ∃ r2,σ = [some (.ref C),some (.ref Z),r2]∧Same H H'∧H' Z = some (.lst ((densC (uss.take i)).map V.int))) ?_ ?_ ?_ ?_⟩
  · exact ⟨_,rfl,e1,hZ1⟩
  · rintro i σ H' _ ⟨r2,rfl,e,_⟩
    exact SqL.of (e _ _ ch.at_)
  · rintro i x σ H2 hx ⟨r2,rfl,e2,hZ2⟩
    have hi : i < uss.length := by rw [← hcl]; exact (List.getElem?_eq_some_iff.mp hx).1
    have hu : uss[i]? = some uss[i] := by simp [hi]
    obtain ⟨a,xs,ha1,ha2,dx⟩:=chg_get ch.du hu
    obtain ⟨u12,_⟩:=ch.poly _ (List.mem_of_getElem? hu)
    generalize uss[i] = us at hu dx u12
    rw [hx] at ha1
    cases ha1
    have hxl : xs.length = us.length := by rw [dx.len,List.length_map]
    refine ⟨_,rfl,.inl ⟨rfl,_,SqL.of hZ2⟩,_,rfl,a,rfl,⟨_,SqL.of (e2 _ _ ha2)⟩,fun D hD => comp_by2 (n:=xs.length) (fun j ys H' => Same H2 H'∧ys = (densM (us.take j)).map V.int) ⟨same_new hD _,rfl⟩ ?_ ?_⟩
    · rintro j ys H3 hj ⟨e3,rfl⟩ hD3
      have E3:=e2.trans e3
      have hm : us[j]? = some (us[j]'(by lia)):=List.getElem?_eq_getElem _
      obtain ⟨c,Pw,Fr,k1,k2,k3,k4⟩:=mono_get dx hm
      generalize us[j]'(by lia) = m at hm k3 k4
      refine ⟨⟨xs,.ref c,SqL.of (E3 _ _ ha2),k1⟩,sz60 (n:=60) (by unfold densM; simp; lia) (by decide),fun x H' y => ?_⟩
      obtain ⟨rfl,y⟩:=y
      have hx:=y xs (SqL.of (E3 _ _ ha2))
      rw [k1] at hx
      cases hx
      refine ⟨c,_,_,rfl,SqT.of (E3 _ _ k2),?_⟩
      unfold tNoIf
      refine iteT ⟨_,rfl,_,_,_,_,rfl,rfl,SqT.of (E3 _ _ k4),rfl,hD3,cw_next hj ⟨fun b o z => ?_,?_⟩⟩
      · rw [upd_ne (ne_of_none z hD)]
        exact e3 _ _ z
      · rw [List.take_add_one,hm,densM,densM,List.map_append,List.map_append]
        rfl
    · rintro ys H3 ⟨e3,rfl⟩ hD3
      have E3:=e2.trans e3
      rw [hxl,List.take_length] at hD3
      refine ⟨⟨xs,SqL.of (E3 _ _ ha2),Nat.le_refl _⟩,Z,D,_,_,rfl,rfl,e3 _ _ hZ2,hD3,?_,_,rfl,fun b o z => ?_,?_⟩
      · have:=dens_len (uss:=uss.take i) fun y hy => (ch.poly y (List.mem_of_mem_take hy)).1
        rw [List.length_take,Nat.min_eq_left (by lia)] at this
        refine sz60' ?_
        rw [List.length_map,List.length_map,show (densM us).length = us.length from List.length_map _]
        lia
      · rw [upd_ne (ne_of_none z hZ)]
        exact e3 _ _ (e2 _ _ z)
      · rw [upd_same,dens_snoc hu,List.map_append]
  · rintro σ H2 ⟨r2,rfl,e2,hZ2⟩
    rw [hcl,List.take_length] at hZ2
    refine ⟨_,rfl,Z,_,n,rfl,hZ2,dens_all ch.poly,?_,q H2 e2⟩
    have h1:=dens_len (uss:=uss) fun y hy => (ch.poly y hy).1
    have h2 : (densC uss).length≤48 := by lia
    exact Nat.le_trans (Nat.mul_le_mul hn h2) (by decide)
theorem sc_greatest_power : FnScope ["change", "greatest", "some", "powers", "part"] ["change"] (defScope s_greatest_power):=⟨rfl,rfl,rfl,by decide +kernel,rfl,by decide +kernel,by decide +kernel⟩
theorem ok_greatest_power (F : Fn K mg "greatest_power" s_greatest_power ["change"] f fd) (z_max : mg "max" = none) (z_sum : mg "sum" = none) : FnOk P w K mg base CX0 1 f fd ["change"] spGP := by
  have sc:=sc_greatest_power
  refine F.F.ok (k:=0) sc (fun vs H Q E h => ?_) (fun cdv A outer s H vs Q E hr h => ?_)
  · obtain ⟨C,cs,uss,n,rfl,_⟩:=h
    rfl
  obtain ⟨C,cs,uss,n,rfl,ch,q⟩:=h
  have hcl:=ch.cl
  refine ⟨_,(pss_cons (ps_set (i:=1) sc.nd rfl (Or.inl rfl) pe_int)
  (pss_cons (ps_for PassesOwn.never rfl (pi_list (pv 0)) (pg_name (i:=2) sc.nd rfl (Or.inl rfl))
    (pss_one (ps_for PassesOwn.never rfl (pi_list (pv 2)) (pg_tup rfl (pgs_cons (pg_name (i:=3) sc.nd rfl (Or.inl rfl)) (pgs_cons (pg_name (i:=4) sc.nd rfl (Or.inl rfl)) pgs_nil)))
      (pss_one (ps_set (i:=1) sc.nd rfl (Or.inl rfl) (pe_callB (call_max2 rfl) rfl z_max PyProof.Rows.boot_max (pa_cons (pv 1) (pa_cons (pe_callB (call_sumT rfl) rfl z_sum PyProof.Rows.boot_sum (pa_cons (pv 3) pa_nil)) pa_nil))))))))
  (pss_one (ps_ret (pv 1))))),?_⟩
  refine ⟨_,rfl,C,rfl,⟨_,SqL.of ch.at_⟩,for_list (xs:=cs) (fun i σ H' => ∃ (r2 r3 r4 : Option V),σ = [some (.ref C),some (.int (greatP (uss.take i))),r2,r3,r4]∧H = H') ?_ ?_ ?_ ?_⟩
  · exact ⟨_,_,_,rfl,rfl⟩
  · rintro i σ H' _ ⟨r2,r3,r4,rfl,rfl⟩
    exact SqL.of ch.at_
  · rintro i x σ H2 hx ⟨r2,r3,r4,rfl,rfl⟩
    have hi : i < uss.length := by rw [← hcl]; exact (List.getElem?_eq_some_iff.mp hx).1
    have hu : uss[i]? = some uss[i] := by simp [hi]
    obtain ⟨a,xs,ha1,ha2,dx⟩:=chg_get ch.du hu
    generalize uss[i] = us at hu dx
    rw [hx] at ha1
    cases ha1
    have hxl : xs.length = us.length := by rw [dx.len,List.length_map]
    refine ⟨_,rfl,a,rfl,⟨_,SqL.of ha2⟩,for_list (xs:=xs) (fun j σ H' => ∃ (r3 r4 : Option V),σ = [some (.ref C),some (.int (maxP (greatP (uss.take i)) (us.take j))),some (.ref a),r3,r4]∧H = H') ?_ ?_ ?_ ?_⟩
    · exact ⟨_,_,rfl,rfl⟩
    · rintro j σ H' _ ⟨r3,r4,rfl,rfl⟩
      exact SqL.of ha2
    · rintro j y σ H' hy ⟨r3,r4,rfl,rfl⟩
      have hj : j < us.length := by rw [← hxl]; exact (List.getElem?_eq_some_iff.mp hy).1
      have hm : us[j]? = some us[j] := by simp [hj]
      obtain ⟨c,Pw,Fr,k1,k2,k3,k4⟩:=mono_get dx hm
      generalize us[j] = m at hm k3 k4
      rw [hy] at k1
      cases k1
      refine ⟨c,_,rfl,SqT.of k2,rfl,_,_,rfl,_,_,rfl,rfl,?_⟩
      refine ⟨_,rfl,_,rfl,Pw,m.1,rfl,SqT.of k3,_,_,rfl,some (.ref Pw),some (.ref Fr),?_,rfl⟩
      rw [List.take_add_one,hm]
      show _ = [some (V.ref C),some (V.int (maxP (greatP (uss.take i)) (us.take j ++ [m]))),some (V.ref a),some (V.ref Pw),some (V.ref Fr)]
      unfold maxP
      rw [List.foldl_append]
      rfl
    · rintro σ H' ⟨r3,r4,rfl,rfl⟩
      refine ⟨some (.ref a),r3,r4,?_,rfl⟩
      rw [hxl,List.take_length,List.take_add_one,hu]
      show _ = [some (V.ref C),some (V.int (greatP (uss.take i ++ [us]))),some (V.ref a),r3,r4]
      unfold greatP
      rw [List.foldl_append]
      rfl
  · rintro σ H' ⟨r2,r3,r4,rfl,rfl⟩
    rw [hcl,List.take_length]
    exact ⟨_,rfl,q⟩
end
theorem monos_at {c : Addr} {ws : List V} {H : Hp} (hc : H c = some (.lst ws)) : ∀ {us : List Mono} {zs : List V},DUs H (us.map monoD) zs→DtAll c H (us.map monoD) zs
  | [],zs,h => by
    have:=h.len
    rw [List.map_nil,List.length_nil] at this
    rw [List.eq_nil_of_length_eq_zero this]
    exact .nil
  | m :: us,zs,h => by
    obtain ⟨x,t,rfl,h1,h2⟩:=DUs.unC h
    obtain ⟨a,P,F,rfl,k1,k2,k3⟩:=DU.mono h1
    have ne : ∀ {p : Addr} {xs : List V},H p = some (.tup xs)→p≠c:=fun hp z => by subst z; rw [hp] at hc; cases hc
    have dints : ∀ ps : List Int,DtAll c H (ps.map .int) (ps.map V.int):=fun ps => by
      induction ps with
      | nil => exact .nil
      | cons p ps ih => exact .cons .int ih
    exact .cons (.tup (ne k1) k1 (.cons (.tup (ne k2) k2 (dints _)) (.cons (.tup (ne k3) k3 (.cons .int (.cons .int .nil))) .nil))) (monos_at hc h2)
theorem du_ints {H : Hp} {P : Addr} {ps : List Int} (h : H P = some (.tup (ps.map V.int))) : DU H (.tuple (ps.map .int)) (.ref P) := by
  refine .tup h ?_
  clear h
  induction ps with
  | nil => exact .nil
  | cons p ps ih => exact .cons .int ih
def wholeM (B G : Int) (gr : Nat) (m : Mono) : Mono:=(m.1,((m.2.num * B.fdiv (m.2.den : Int) * G ^ (gr - (sumP m).toNat) : Int) : Rat))
def wholeP (B G : Int) (gr : Nat) (us : List Mono) : List Mono:=us.map (wholeM B G gr)
def spWP : Sp:=fun vs H Q _ => ∃ (a : Addr) (xs : List V) (us : List Mono) (B G : Int) (gr n b k : Nat),vs = [.ref a,.int B,.int G,.int (gr : Nat)]∧H a = some (.lst xs)∧DUs H (us.map monoD) xs∧us.length≤12∧gr≤3∧(∀ m∈us,FM.Fits m.2 n∧0≤sumP m∧sumP m≤gr) ∧
  B.natAbs < 2 ^ b∧G.natAbs < 2 ^ k∧n + b + 3 * k≤3900∧∀ Z H' zs,Same H H'→H Z = none→H' Z = some (.lst zs)→DUs H' ((wholeP B G gr us).map monoD) zs→Q (.ref Z) H'
section
variable {P : Program} {w : World} {K : PySem.W.Frag} {mg : Str→Option Value} {base : Heap} {f g1 : Addr} {fd gd1 : FuncData}
theorem sc_whole_poly : FnScope ["some", "bottom", "grain", "greatest", "terms", "powers", "part", "top"] ["some", "bottom", "grain", "greatest"] (defScope s_whole_poly):=⟨rfl,rfl,rfl,by decide +kernel,rfl,by decide +kernel,by decide +kernel⟩
theorem ok_whole_poly (F : Fn K mg "whole_poly" s_whole_poly ["some", "bottom", "grain", "greatest"] f fd) (T_power_of : Fn K mg "power_of" s_power_of ["base", "power"] g1 gd1)
    (G_power_of : FnOk P w K mg base CX0 1 g1 gd1 ["base", "power"] spPow) (z_sum : mg "sum" = none) : FnOk P w K mg base CX0 2 f fd ["some", "bottom", "grain", "greatest"] spWP := by
  have sc:=sc_whole_poly
  refine F.F.ok (k:=1) sc (fun vs H Q E h => ?_) (fun cdv A outer s H vs Q E hr h => ?_)
  · obtain ⟨a,xs,us,B,G,gr,n,b,k,rfl,_⟩:=h
    rfl
  obtain ⟨a,xs,us,B,G,gr,n,b,k,rfl,ha,dx,h12,hgr,hus,hB,hG,hsz,q⟩:=h
  have hxl : xs.length = us.length := by rw [dx.len,List.length_map]
  refine ⟨_,(pss_cons (ps_set (i:=4) sc.nd rfl (Or.inl rfl) (pe_lst pa_nil))
  (pss_cons (ps_for PassesOwn.never rfl (pi_list (pv 0)) (pg_tup rfl (pgs_cons (pg_name (i:=5) sc.nd rfl (Or.inl rfl)) (pgs_cons (pg_name (i:=6) sc.nd rfl (Or.inl rfl)) pgs_nil)))
    (pss_cons (ps_set (i:=7) sc.nd rfl (Or.inl rfl) (pe_op op_mulW (pe_op op_mulW (pe_ix ix_tup (pv 6) pe_int (fun _ _ => rfl)) (pe_op op_fdivW (pv 1) (pe_ix ix_tup (pv 6) pe_int (fun _ _ => rfl)))) (pe_fn T_power_of G_power_of hr rfl (pa_cons (pv 2) (pa_cons (pe_op op_sub (pv 3) (pe_callB (call_sumT rfl) rfl z_sum PyProof.Rows.boot_sum (pa_cons (pv 5) pa_nil))) pa_nil)))))
    (pss_one (ps_expr (pe_bm PySem.F.plainAttrs_list PySem.F.slot_list_append PySem.F.type_list_append mt_append (pv 4) (pa_cons (pe_tup (pa_cons (pv 5) (pa_cons (pe_tup (pa_cons (pv 7) (pa_cons pe_int pa_nil))) pa_nil))) pa_nil))))))
  (pss_one (ps_ret (pv 4))))),?_⟩
  refine ⟨sz60' (show 0≤60 by decide),fun Z hZ => ?_⟩
  have e1:=same_new hZ (.lst [])
  have hZ1 : upd H Z (.lst []) Z = some (.lst []):=upd_same
  generalize upd H Z (.lst []) = H1 at e1 hZ1
  refine ⟨_,rfl,a,rfl,⟨_,SqL.of (e1 _ _ ha)⟩,for_list (xs:=xs) (fun i σ H' => ∃ (r5 r6 r7 : Option V) (zs : List V),σ = [some (.ref a),some (.int B),some (.int G),some (.int (gr : Nat)),some (.ref Z),r5,r6,r7]∧Same H H'∧H' Z = some (.lst zs)∧DUs H' ((wholeP B G gr (us.take i)).map monoD) zs) ?_ ?_ ?_ ?_⟩
  · exact ⟨_,_,_,[],rfl,e1,hZ1,.nil⟩
  · rintro i σ H' _ ⟨r5,r6,r7,zs,rfl,e,_⟩
    exact SqL.of (e _ _ ha)
  · rintro i x σ H2 hx ⟨r5,r6,r7,zs,rfl,e2,hZ2,dz⟩
    have hi : i < us.length := by rw [← hxl]; exact (List.getElem?_eq_some_iff.mp hx).1
    have hm : us[i]? = some us[i] := by simp [hi]
    obtain ⟨c,Pw,Fr,k1,k2,k3,k4⟩:=mono_get dx hm
    obtain ⟨fm,s0,s1⟩:=hus _ (List.mem_of_getElem? hm)
    generalize us[i] = m at hm k3 k4 fm s0 s1
    rw [hx] at k1
    cases k1
    have hd:=m.2.den_nz
    have hzl : zs.length = i := by rw [dz.len,List.length_map,wholeP,List.length_map,List.length_take]; lia
    have n2 : (B.fdiv (m.2.den : Int)).natAbs < 2 ^ b:=Nat.lt_of_le_of_lt (FM.natAbs_fdiv_le' _ _) hB
    have n3:=FM.nb_mul fm.1 n2
    have n4 : (G ^ (gr - (sumP m).toNat)).natAbs < 2 ^ (k * 3 + 1):=pow_nb (p:=3) hG (by lia)
    refine ⟨c,_,rfl,SqT.of (e2 _ _ k2),rfl,_,_,rfl,_,_,rfl,rfl,?_⟩
    refine ⟨_,rfl,_,_,_,_,rfl,rfl,SqT.of (e2 _ _ k4),rfl,_,rfl,_,rfl,_,_,_,_,rfl,rfl,SqT.of (e2 _ _ k4),rfl,_,_,rfl,rfl,⟨by lia,n,by lia,fm.d⟩,_,_,rfl,rfl,mulW fm.1 n2 (by lia),_,rfl,_,rfl,_,rfl,Pw,m.1,rfl,SqT.of (e2 _ _ k3),_,_,rfl,rfl,G,gr - (sumP m).toNat,k,?_,hG,?_,_,_,rfl,rfl,mulW n3 n4 (by lia),?_⟩
    · show [V.int G,V.int ((gr : Int) - m.1.sum)] = [V.int G,V.int ((gr - (sumP m).toNat : Nat) : Int)]
      congr 3
      unfold sumP at s0 s1 ⊢
      lia
    · have : k * (gr - (sumP m).toNat)≤k * 3:=Nat.mul_le_mul_left k (by lia)
      lia
    refine ⟨_,rfl,.inl ⟨rfl,_,SqL.of hZ2⟩,_,rfl,_,rfl,sz60' (show 2≤60 by decide),fun t1 ht1 => ?_⟩
    generalize hH : upd _ t1 _ = H3
    obtain ⟨e3,d3,_⟩:=du_t (ds:=[.int (m.2.num * B.fdiv (m.2.den : Int) * G ^ (gr - (sumP m).toNat)),.int 1]) hH ht1 (.cons .int (.cons .int .nil))
    clear hH
    refine ⟨sz60' (show 2≤60 by decide),fun t2 ht2 => ?_⟩
    generalize hH : upd _ t2 _ = H4
    obtain ⟨e4,d4,_⟩:=du_t hH ht2 (.cons ((du_ints (e2 _ _ k3)).same e3) (.cons d3 .nil))
    clear hH
    have e24:=e3.trans e4
    have hZ4:=e24 _ _ hZ2
    have d4 : DU H4 (monoD (wholeM B G gr m)) (.ref t2):=d4
    refine ⟨Z,zs,_,rfl,rfl,hZ4,sz60 (n:=60) (by lia) (by decide),?_⟩
    refine ⟨_,_,_,zs ++ [.ref t2],rfl,fun b o zz => ?_,upd_same,?_⟩
    · rw [upd_ne (ne_of_none zz hZ)]
      exact e24 _ _ (e2 _ _ zz)
    · rw [List.take_add_one,hm]
      have dn : DUs H4 ((wholeP B G gr (us.take i ++ [m])).map monoD) (zs ++ [.ref t2]) := by
        unfold wholeP
        rw [List.map_append,List.map_append]
        exact (dz.same e24).app (.cons d4 .nil)
      exact dtAll_du (.but .upd (monos_at hZ4 dn))
  · rintro σ H2 ⟨r5,r6,r7,zs,rfl,e2,hZ2,dz⟩
    rw [hxl,List.take_length] at dz
    exact ⟨_,rfl,q Z H2 zs e2 hZ hZ2 dz⟩
end
theorem nback {H H' : Hp} {a : Addr} (e : Same H H') (h : H' a = none) : H a = none := by
  cases hx : H a with
  | none => rfl
  | some o => have:=e _ _ hx; rw [h] at this; cases this
theorem maxP_ok : ∀ (us : List Mono) (g : Int),g≤maxP g us∧(∀ m∈us,sumP m≤maxP g us)∧∀ c,g≤c→(∀ m∈us,sumP m≤c)→maxP g us≤c
  | [],g => ⟨Int.le_refl _,fun _ z => (List.not_mem_nil z).elim,fun _ h _ => h⟩
  | m :: us,g => by
    obtain ⟨h1,h2,h3⟩:=maxP_ok us (if sumP m > g then sumP m else g)
    have e : maxP g (m :: us) = maxP (if sumP m > g then sumP m else g) us:=rfl
    rw [e]
    have s1 : g≤(if sumP m > g then sumP m else g) := by split <;> lia
    have s2 : sumP m≤(if sumP m > g then sumP m else g) := by split <;> lia
    refine ⟨Int.le_trans s1 h1,fun y hy => ?_,fun c hc hm => ?_⟩
    · rcases List.mem_cons.mp hy with rfl | hy
      · exact Int.le_trans s2 h1
      · exact h2 y hy
    · refine h3 c ?_ fun y hy => hm y (List.mem_cons_of_mem _ hy)
      have:=hm m List.mem_cons_self
      split <;> lia
theorem greatF_ok : ∀ (uss : List (List Mono)) (g : Int),g≤uss.foldl maxP g∧(∀ us∈uss,∀ m∈us,sumP m≤uss.foldl maxP g)∧∀ c,g≤c→(∀ us∈uss,∀ m∈us,sumP m≤c)→uss.foldl maxP g≤c
  | [],g => ⟨Int.le_refl _,fun _ z => (List.not_mem_nil z).elim,fun _ h _ => h⟩
  | us :: uss,g => by
    obtain ⟨a1,a2,a3⟩:=maxP_ok us g
    obtain ⟨h1,h2,h3⟩:=greatF_ok uss (maxP g us)
    rw [List.foldl_cons]
    refine ⟨Int.le_trans a1 h1,fun y hy m hm => ?_,fun c hc hm => ?_⟩
    · rcases List.mem_cons.mp hy with rfl | hy
      · exact Int.le_trans (a2 m hm) h1
      · exact h2 y hy m hm
    · exact h3 c (a3 c hc (hm us List.mem_cons_self)) fun y hy => hm y (List.mem_cons_of_mem _ hy)
theorem great_ok {uss : List (List Mono)} {c : Int} (hc : 1≤c) (h : ∀ us∈uss,∀ m∈us,sumP m≤c) : 1≤greatP uss∧greatP uss≤c∧∀ us∈uss,∀ m∈us,sumP m≤greatP uss := by
  obtain ⟨h1,h2,h3⟩:=greatF_ok uss 1
  exact ⟨h1,h3 c hc h,h2⟩
def greatN (uss : List (List Mono)) : Nat:=(greatP uss).toNat
def wholeC (G : Int) (uss : List (List Mono)) : List (List Mono):=uss.map (wholeP (speedsB uss) G (greatN uss))
def paceC (uss : List (List Mono)) (G : Int) : Int:=speedsB uss * G ^ (greatN uss - 1)
theorem speedsB_ok {uss : List (List Mono)} {n : Nat} (hl : uss.length≤4) (h : ∀ us∈uss,us.length≤12∧∀ m∈us,FM.Fits m.2 n) : 1≤speedsB uss∧(speedsB uss).natAbs < 2 ^ (1 + n * 48)∧∀ us∈uss,∀ m∈us,(m.2.den : Int) ∣ speedsB uss := by
  obtain ⟨a,b,c⟩:=comL_ok (dens_all h)
  have h1:=dens_len (uss:=uss) fun y hy => (h y hy).1
  refine ⟨a,FM.nb_mono b ?_,fun us hus m hm => c _ ?_⟩
  · have:=Nat.mul_le_mul_left n (show (densC uss).length≤48 by lia)
    lia
  · unfold densC
    exact List.mem_flatten.mpr ⟨densM us,List.mem_map.mpr ⟨us,hus,rfl⟩,List.mem_map.mpr ⟨m,hm,rfl⟩⟩
def spWC : Sp:=fun vs H Q _ => ∃ (C : Addr) (cs : List V) (uss : List (List Mono)) (G : Int) (k : Nat),vs = [.ref C,.int G]∧Chg H C cs uss 4∧(∀ us∈uss,∀ m∈us,0≤sumP m∧sumP m≤3)∧G.natAbs < 2 ^ k∧k≤1200 ∧
  ∀ D H' zs,Same H H'→H D = none→H' D = some (.lst zs)→DUs H' ((wholeC G uss).map polyD) zs→Q (.ref D) H'
def spPace : Sp:=fun vs H Q _ => ∃ (C : Addr) (cs : List V) (uss : List (List Mono)) (G : Int) (k : Nat),vs = [.ref C,.int G]∧Chg H C cs uss 4∧(∀ us∈uss,∀ m∈us,0≤sumP m∧sumP m≤3)∧G.natAbs < 2 ^ k∧k≤1200∧∀ H',Same H H'→Q (.int (paceC uss G)) H'
section
variable {P : Program} {w : World} {K : PySem.W.Frag} {mg : Str→Option Value} {base : Heap} {f g1 g2 g3 : Addr} {fd gd1 gd2 gd3 : FuncData}
theorem sc_whole_change : FnScope ["change", "grain", "bottom", "greatest"] ["change", "grain"] (defScope s_whole_change):=⟨rfl,rfl,rfl,by decide +kernel,rfl,by decide +kernel,by decide +kernel⟩
theorem ok_whole_change (F : Fn K mg "whole_change" s_whole_change ["change", "grain"] f fd) (T_speeds_bottom : Fn K mg "speeds_bottom" s_speeds_bottom ["change"] g1 gd1) (T_greatest_power : Fn K mg "greatest_power" s_greatest_power ["change"] g2 gd2) (T_whole_poly : Fn K mg "whole_poly" s_whole_poly ["some", "bottom", "grain", "greatest"] g3 gd3)
    (G_speeds_bottom : FnOk P w K mg base CX0 3 g1 gd1 ["change"] spSB) (G_greatest_power : FnOk P w K mg base CX0 3 g2 gd2 ["change"] spGP) (G_whole_poly : FnOk P w K mg base CX0 3 g3 gd3 ["some", "bottom", "grain", "greatest"] spWP) : FnOk P w K mg base CX0 4 f fd ["change", "grain"] spWC := by
  have sc:=sc_whole_change
  refine F.F.ok (k:=3) sc (fun vs H Q E h => ?_) (fun cdv A outer s H vs Q E hr h => ?_)
  · obtain ⟨C,cs,uss,G,k,rfl,_⟩:=h
    rfl
  obtain ⟨C,cs,uss,G,k,rfl,ch,hs,hG,hk,q⟩:=h
  obtain ⟨g1',g3',g2'⟩:=great_ok (c:=3) (by decide) fun us hus m hm => (hs us hus m hm).2
  obtain ⟨b1,b2,_⟩:=speedsB_ok ch.len ch.poly
  have hgr : greatP uss = (greatN uss : Int) := by unfold greatN; lia
  have hl4:=ch.len
  refine ⟨_,(pss_cons (ps_set (i:=2) sc.nd rfl (Or.inr rfl) (pe_fn T_speeds_bottom G_speeds_bottom hr rfl (pa_cons (pv 0) pa_nil)))
  (pss_cons (ps_set (i:=3) sc.nd rfl (Or.inr rfl) (pe_fn T_greatest_power G_greatest_power hr rfl (pa_cons (pv 0) pa_nil)))
  (pss_one (ps_ret (pe_compr [".0", "some", "bottom", "grain", "greatest"] 1 [none,none,some 2,some 1,some 3] (pi_list (pv 0)) (fun _ _ _ _ _ => pif_nil) (fun _ _ _ _ _ => (pe_fn T_whole_poly G_whole_poly hr rfl (pa_cons (pv 1) (pa_cons (pv 2) (pa_cons (pv 3) (pa_cons (pv 4) pa_nil))))))))))),?_⟩
  refine ⟨_,rfl,C,cs,uss,4,rfl,ch,by decide,fun H1 e1 => ?_⟩
  refine ⟨_,rfl,C,cs,uss,4,rfl,ch.same e1,?_⟩
  rw [hgr]
  have ch:=ch.same e1
  have hcl:=ch.cl
  refine ⟨_,rfl,C,rfl,⟨_,SqL.of ch.at_⟩,fun D hD => comp_by (n:=cs.length) (fun i ys H' => Same H1 H'∧ys.length = i∧DtAll D H' (((uss.take i).map (wholeP (speedsB uss) G (greatN uss))).map polyD) ys) ⟨same_new hD _,rfl,.nil⟩ ?_ ?_⟩
  · rintro i ys H2 hi ⟨e2,hyl,dy⟩ hD2
    have hu : uss[i]? = some (uss[i]'(by lia)):=List.getElem?_eq_getElem _
    obtain ⟨a,xs,k1,k2,k3⟩:=chg_get ch.du hu
    have hmem:=List.mem_of_getElem? hu
    generalize uss[i]'(by lia) = us at hu k3 hmem
    obtain ⟨u12,uf⟩:=ch.poly us hmem
    refine ⟨⟨cs,.ref a,SqL.of (e2 _ _ ch.at_),k1⟩,sz60 (n:=60) (by lia) (by decide),fun x H' y => ?_⟩
    obtain ⟨rfl,y⟩:=y
    have hx:=y cs (SqL.of (e2 _ _ ch.at_))
    rw [k1] at hx
    cases hx
    unfold tNoIf
    refine iteT ⟨_,rfl,_,rfl,_,rfl,_,rfl,a,xs,us,speedsB uss,G,greatN uss,4,1 + 4 * 48,k,rfl,e2 _ _ k2,k3.same e2,u12,by lia,fun m hm => ⟨uf m hm,(hs us hmem m hm).1,by rw [← hgr]; exact g2' us hmem m hm⟩,b2,hG,by lia,fun Z H3 zs e3 hZ hZ3 dz => ?_⟩
    have hD3:=e3 _ _ hD2
    have nZ : Z≠D:=fun z => by subst z; rw [hD2] at hZ; cases hZ
    refine ⟨hD3,cw_next hi ⟨fun b o z => ?_,by simp [hyl],?_⟩⟩
    · rw [upd_ne (ne_of_none z hD)]
      exact e3 _ _ (e2 _ _ z)
    · rw [List.take_add_one,hu,List.map_append,List.map_append]
      exact .but .upd ((dy.same e3).app (.cons (.lst nZ hZ3 (monos_at hD3 dz)) .nil))
  · rintro ys H2 ⟨e2,hyl,dy⟩ hD2
    rw [hcl,List.take_length] at dy
    exact ⟨⟨cs,SqL.of (e2 _ _ ch.at_),Nat.le_refl _⟩,q D H2 ys (e1.trans e2) (nback e1 hD) hD2 (dtAll_du dy)⟩
theorem sc_pace_of : FnScope ["change", "grain"] ["change", "grain"] (defScope s_pace_of):=⟨rfl,rfl,rfl,by decide +kernel,rfl,by decide +kernel,by decide +kernel⟩
theorem ok_pace_of (F : Fn K mg "pace_of" s_pace_of ["change", "grain"] f fd) (T_speeds_bottom : Fn K mg "speeds_bottom" s_speeds_bottom ["change"] g1 gd1) (T_greatest_power : Fn K mg "greatest_power" s_greatest_power ["change"] g2 gd2) (T_power_of : Fn K mg "power_of" s_power_of ["base", "power"] g3 gd3)
    (G_speeds_bottom : FnOk P w K mg base CX0 3 g1 gd1 ["change"] spSB) (G_greatest_power : FnOk P w K mg base CX0 3 g2 gd2 ["change"] spGP) (G_power_of : FnOk P w K mg base CX0 3 g3 gd3 ["base", "power"] spPow) : FnOk P w K mg base CX0 4 f fd ["change", "grain"] spPace := by
  have sc:=sc_pace_of
  refine F.F.ok (k:=3) sc (fun vs H Q E h => ?_) (fun cdv A outer s H vs Q E hr h => ?_)
  · obtain ⟨C,cs,uss,G,k,rfl,_⟩:=h
    rfl
  obtain ⟨C,cs,uss,G,k,rfl,ch,hs,hG,hk,q⟩:=h
  obtain ⟨g1',g3',g2'⟩:=great_ok (c:=3) (by decide) fun us hus m hm => (hs us hus m hm).2
  obtain ⟨b1,b2,_⟩:=speedsB_ok ch.len ch.poly
  have hgr : greatP uss = (greatN uss : Int) := by unfold greatN; lia
  have n4 : (G ^ (greatN uss - 1)).natAbs < 2 ^ (k * 3 + 1):=pow_nb (p:=3) hG (by lia)
  refine ⟨_,(pss_one (ps_ret (pe_op op_mulW (pe_fn T_speeds_bottom G_speeds_bottom hr rfl (pa_cons (pv 0) pa_nil)) (pe_fn T_power_of G_power_of hr rfl (pa_cons (pv 1) (pa_cons (pe_op op_sub (pe_fn T_greatest_power G_greatest_power hr rfl (pa_cons (pv 0) pa_nil)) pe_int) pa_nil)))))),?_⟩
  refine ⟨_,rfl,C,cs,uss,4,rfl,ch,by decide,fun H1 e1 => ?_⟩
  refine ⟨_,rfl,_,rfl,C,cs,uss,4,rfl,ch.same e1,_,_,rfl,rfl,G,greatN uss - 1,k,?_,hG,?_,_,_,rfl,rfl,mulW b2 n4 (by lia),?_⟩
  · show [V.int G,V.int (greatP uss - 1)] = [V.int G,V.int ((greatN uss - 1 : Nat) : Int)]
    congr 3
    lia
  · have : k * (greatN uss - 1)≤k * 3:=Nat.mul_le_mul_left k (by lia)
    lia
  · exact q H1 e1
end
def lessP (ps : List Int) (k : Nat) : List Int:=ps.take k ++ [ps.getD k 0 - 1] ++ ps.drop (k + 1)
def spLess : Sp:=fun vs H Q _ => ∃ (P : Addr) (ps : List Int) (k : Nat),vs = [.ref P,.int k]∧H P = some (.tup (ps.map V.int))∧k < ps.length∧ps.length≤4∧∀ (c : Addr) H',Same H H'→H' c = some (.tup ((lessP ps k).map V.int))→Q (.ref c) H'
theorem less_eq {ps : List Int} {k : Nat} (h : k < ps.length) : cutV (ps.map V.int) none (some (k : Int)) ++ [V.int (ps.getD k 0 - 1)] ++ cutV (ps.map V.int) (some ((k : Int) + 1)) none = (lessP ps k).map V.int := by
  unfold cutV lessP
  rw [show ((k : Int) + 1) = ((k + 1 : Nat) : Int) by lia]
  simp only [HT.sIx_none,HT.sIx_nat,List.length_map,List.drop_zero,Nat.sub_zero,List.map_append,List.map_take,List.map_drop,List.map_cons,List.map_nil]
  rw [Nat.min_eq_left (by lia),Nat.min_eq_left (by lia)]
  congr 1
  rw [List.take_of_length_le (by rw [List.length_drop,List.length_map]; exact Nat.le_refl _)]
theorem nw_hi {n : Nat} {e : Int} (h0 : 0≤e) (h1 : e < (n : Int)) : ¬ (HT.sIx n 0 none = 0∧HT.sIx n n (some e) = n) := by
  rintro ⟨_,h⟩
  rw [show e = ((e.toNat : Nat) : Int) by lia,HT.sIx_nat] at h
  lia
theorem nw_lo {n : Nat} {e : Int} {hi : Option Int} (h0 : 0≤e) (h1 : 1≤n) : ¬ (HT.sIx n 0 (some (e + 1)) = 0∧HT.sIx n n hi = n) := by
  rintro ⟨h,_⟩
  rw [show e + 1 = (((e + 1).toNat : Nat) : Int) by lia,HT.sIx_nat] at h
  lia
theorem int_at {ps : List Int} {k : Nat} (h : k < ps.length) : atI (ps.map V.int) (k : Int) = some (.int (ps.getD k 0)) := by
  have:=atI_nat (xs:=ps.map V.int) (j:=k) (v:=.int (ps.getD k 0)) (by rw [List.getElem?_map,List.getElem?_eq_getElem h,List.getD_eq_getElem?_getD,List.getElem?_eq_getElem h]; rfl)
  exact this
def fu : List Int→Nat
  | [] => 0
  | p :: ps => if p = 0 then fu ps + 1 else 0
theorem fu_lt : ∀ {ps : List Int},ps.sum≠0→fu ps < ps.length∧ps.getD (fu ps) 0≠0
  | [],h => absurd rfl h
  | p :: ps,h => by
    unfold fu
    by_cases z : p = 0
    · subst z
      obtain ⟨h1,h2⟩:=fu_lt (ps:=ps) (by simpa using h)
      rw [if_pos rfl]
      exact ⟨by rw [List.length_cons]; lia,by simpa using h2⟩
    · rw [if_neg z]; exact ⟨by simp,by simpa using z⟩
theorem fu_ahead : ∀ {ps : List Int} {k : Nat},k < fu ps→ps.getD k 0 = 0
  | [],k,h => by simp [fu] at h
  | p :: ps,k,h => by
    unfold fu at h
    by_cases z : p = 0
    · rw [if_pos z] at h
      cases k with
      | zero => simpa using z
      | succ k => simpa using fu_ahead (ps:=ps) (k:=k) (by lia)
    · rw [if_neg z] at h; lia
theorem sum_set : ∀ (ps : List Int) (k : Nat),k < ps.length→(lessP ps k).sum = ps.sum - 1
  | [],k,h => by simp at h
  | p :: ps,0,_ => by simp [lessP]; lia
  | p :: ps,k + 1,h => by
    have:=sum_set ps k (by simpa using h)
    unfold lessP at this ⊢
    simp at this ⊢
    lia
theorem less_len {ps : List Int} {k : Nat} (h : k < ps.length) : (lessP ps k).length = ps.length := by unfold lessP; simp; lia
structure PwOk (nn : Nat) (ps : List Int) : Prop where
  len : ps.length = nn
  nn : ∀ p∈ps,0≤p
  s3 : ps.sum≤3
theorem sum_nonneg : ∀ {ps : List Int},(∀ p∈ps,0≤p)→0≤ps.sum
  | [],_ => by simp
  | p :: ps,h => by
    have:=sum_nonneg (ps:=ps) fun q hq => h q (.tail _ hq)
    have:=h p (.head _)
    simp; lia
theorem PwOk.low {nn : Nat} {ps : List Int} (h : PwOk nn ps) (hs : ps.sum≠0) : PwOk nn (lessP ps (fu ps)) := by
  obtain ⟨h1,h2⟩:=fu_lt hs
  refine ⟨(less_len h1).trans h.len,fun p hp => ?_,by rw [sum_set _ _ h1]; have:=h.s3; lia⟩
  unfold lessP at hp
  rcases List.mem_append.mp hp with hp | hp
  · rcases List.mem_append.mp hp with hp | hp
    · exact h.nn p (List.mem_of_mem_take hp)
    · rw [List.mem_singleton.mp hp]
      have:=h.nn (ps.getD (fu ps) 0) (by rw [List.getD_eq_getElem?_getD,List.getElem?_eq_getElem h1]; exact List.getElem_mem h1)
      lia
  · exact h.nn p (List.mem_of_mem_drop hp)
def allP : Nat→Nat→List (List Int)
  | 0,_ => [[]]
  | n + 1,s => (List.range (s + 1)).flatMap fun p => (allP n (s - p)).map fun r => ((p : Nat) : Int) :: r
theorem mem_allP : ∀ {n s : Nat} {ps : List Int},ps.length = n→(∀ p∈ps,0≤p)→ps.sum≤(s : Int)→ps∈allP n s
  | 0,s,ps,h,_,_ => by rw [List.eq_nil_of_length_eq_zero h]; exact .head _
  | n + 1,s,[],h,_,_ => by simp at h
  | n + 1,s,p :: ps,h,h0,h1 => by
    have a:=h0 p (.head _)
    have b:=sum_nonneg fun q hq => h0 q (.tail _ hq)
    rw [List.sum_cons] at h1
    unfold allP
    refine List.mem_flatMap.mpr ⟨p.toNat,List.mem_range.mpr (by lia),List.mem_map.mpr ⟨ps,mem_allP (by simpa using h) (fun q hq => h0 q (.tail _ hq)) (by lia),?_⟩⟩
    rw [Int.toNat_of_nonneg a]
theorem nd_len {α : Type} [DecidableEq α] : ∀ {ks l : List α},ks.Nodup→(∀ p∈ks,p∈l)→ks.length≤l.length
  | [],_,_,_ => Nat.zero_le _
  | k :: ks,l,nd,h => by
    obtain ⟨n1,n2⟩:=List.nodup_cons.mp nd
    have hk:=h k (.head _)
    have:=nd_len (l:=l.erase k) n2 fun p hp => (List.mem_erase_of_ne (fun z => by subst z; exact n1 hp)).mpr (h p (.tail _ hp))
    rw [List.length_erase_of_mem hk] at this
    have:=List.length_pos_of_mem hk
    rw [List.length_cons]; lia
theorem few_of {nn : Nat} (hn : nn≤4) {ks : List (List Int)} (nd : ks.Nodup) (h : ∀ p∈ks,PwOk nn p) : ks.length≤35 := by
  have h1 : ks.length≤(allP nn 3).length:=nd_len nd fun p hp => mem_allP (h p hp).len (h p hp).nn (h p hp).s3
  have h2 : (allP nn 3).length≤35 := by
    match nn,hn with
    | 0,_ => decide
    | 1,_ => decide
    | 2,_ => decide
    | 3,_ => decide
    | 4,_ => decide
  lia
structure Ord (uss : List (List Mono)) (nn : Nat) (os : List (List Int)) : Prop where
  nd : os.Nodup
  ok : ∀ p∈os,PwOk nn p
  has : ∀ us∈uss,∀ m∈us,m.1∈os
  low : ∀ p∈os,p.sum≠0→lessP p (fu p)∈os
  asc : os.Pairwise fun p q => p.sum≤q.sum
def spFU : Sp:=fun vs H Q _ => ∃ (P : Addr) (ps : List Int),vs = [.ref P]∧H P = some (.tup (ps.map V.int))∧ps.sum≠0∧Q (.int (fu ps)) H
def spPN : Sp:=fun vs H Q _ => ∃ (C : Addr) (cs : List V) (uss : List (List Mono)) (nn : Nat),vs = [.ref C]∧H C = some (.lst cs)∧DUs H (uss.map polyD) cs∧(∀ us∈uss,∀ m∈us,PwOk nn m.1)∧nn≤4 ∧
  ∀ (D : Addr) H' (L : List (List Int×Addr)),Same H H'→H D = none→H' D = some (.lst (L.map fun l => V.ref l.2))→Ord uss nn (L.map (·.1))→(∀ l∈L,H' l.2 = some (.tup (l.1.map V.int)))→Q (.ref D) H'
theorem inlI {a b : List Int} (h : a.map (Sum.inl (β:=Str)) = b.map Sum.inl) : a = b:=(List.map_inj_right (fun x y e => by injection e)).mp h
theorem kV_ints (ps : List Int) : (ps.map (Sum.inl (β:=Str))).map kV = ps.map V.int := by rw [List.map_map]; rfl
section
variable {P : Program} {w : World} {K : PySem.W.Frag} {mg : Str→Option Value} {base : Heap} {f : Addr} {fd : FuncData}
theorem sc_one_less : FnScope ["powers", "k"] ["powers", "k"] (defScope s_one_less):=⟨rfl,rfl,rfl,by decide +kernel,rfl,by decide +kernel,by decide +kernel⟩
theorem ok_one_less (F : Fn K mg "one_less" s_one_less ["powers", "k"] f fd) : FnOk P w K mg base CX0 1 f fd ["powers", "k"] spLess := by
  have sc:=sc_one_less
  refine F.F.ok (k:=0) sc (fun vs H Q E h => ?_) (fun cdv A outer s H vs Q E hr h => ?_)
  · obtain ⟨P,ps,k,rfl,_⟩:=h
    rfl
  obtain ⟨P,ps,k,rfl,hP,hk,h4,q⟩:=h
  have hl : (ps.map V.int).length = ps.length:=List.length_map _
  refine ⟨_,(pss_one (ps_ret (pe_op op_catA (pe_op op_catA (pe_slice sl_tup (pv 0) po_none (po_some (pv 1))) (pe_tup (pa_cons (pe_op op_sub (pe_ix ix_tup (pv 0) (pv 1) (fun _ _ => rfl)) pe_int) pa_nil))) (pe_slice sl_tup (pv 0) (po_some (pe_op op_add (pv 1) pe_int)) po_none)))),?_⟩
  refine ⟨_,rfl,_,rfl,_,rfl,P,_,rfl,SqT.of hP,nw_hi (by lia) (by lia),fun p1 hp => ?_⟩
  have e1:=same_new hp (.tup (cutV (ps.map V.int) none (some (k : Int))))
  have h1 : upd H p1 (.tup (cutV (ps.map V.int) none (some (k : Int)))) p1 = some (.tup (cutV (ps.map V.int) none (some (k : Int)))):=upd_same
  generalize upd H p1 (.tup (cutV (ps.map V.int) none (some (k : Int)))) = H1 at e1 h1
  refine ⟨_,rfl,_,rfl,_,_,_,_,rfl,rfl,SqT.of (e1 _ _ hP),int_at hk,_,_,rfl,rfl,sz60' (show 1≤60 by decide),fun p2 hp => ?_⟩
  have e2:=same_new hp (.tup [V.int (ps.getD k 0 - 1)])
  have h2 : upd H1 p2 (.tup [V.int (ps.getD k 0 - 1)]) p2 = some (.tup [V.int (ps.getD k 0 - 1)]):=upd_same
  generalize upd H1 p2 (.tup [V.int (ps.getD k 0 - 1)]) = H2 at e2 h2
  have c1:=cutV_length (ps.map V.int) none (some (k : Int))
  have c2:=cutV_length (ps.map V.int) (some ((k : Int) + 1)) none
  refine ⟨p1,p2,_,_,rfl,rfl,e2 _ _ h1,h2,sz60' (by rw [List.length_singleton]; lia),fun p3 H3 e3 h3 => ?_⟩
  have E3:=e1.trans (e2.trans e3)
  refine ⟨_,rfl,_,rfl,_,_,rfl,rfl,_,rfl,P,_,rfl,SqT.of (E3 _ _ hP),nw_lo (by lia) (by lia),fun p4 hp => ?_⟩
  have e4:=same_new hp (.tup (cutV (ps.map V.int) (some ((k : Int) + 1)) none))
  have h4' : upd H3 p4 (.tup (cutV (ps.map V.int) (some ((k : Int) + 1)) none)) p4 = some (.tup (cutV (ps.map V.int) (some ((k : Int) + 1)) none)):=upd_same
  generalize upd H3 p4 (.tup (cutV (ps.map V.int) (some ((k : Int) + 1)) none)) = H4 at e4 h4'
  refine ⟨p3,p4,_,_,rfl,rfl,e4 _ _ h3,h4',sz60' (by rw [List.length_append,List.length_singleton]; lia),fun p5 H5 e5 h5 => ?_⟩
  exact q p5 H5 (E3.trans (e4.trans e5)) (by rw [h5,less_eq hk])
theorem sc_first_unknown : FnScope ["powers", "k"] ["powers"] (defScope s_first_unknown):=⟨rfl,rfl,rfl,by decide +kernel,rfl,by decide +kernel,by decide +kernel⟩
def muU (n : Nat) (σ : St) : Nat:=match σ[1]? with | some (some (V.int l)) => n - l.toNat | _ => 0
theorem ok_first_unknown (F : Fn K mg "first_unknown" s_first_unknown ["powers"] f fd) : FnOk P w K mg base CX0 1 f fd ["powers"] spFU := by
  have sc:=sc_first_unknown
  refine F.F.ok (k:=0) sc (fun vs H Q E h => ?_) (fun cdv A outer s H vs Q E hr h => ?_)
  · obtain ⟨P,ps,rfl,_⟩:=h
    rfl
  obtain ⟨P,ps,rfl,hP,hs,q⟩:=h
  obtain ⟨f1,f2⟩:=fu_lt hs
  refine ⟨_,(pss_cons (ps_set (i:=1) sc.nd rfl (Or.inl rfl) pe_int)
  (pss_cons (ps_while PassesOwn.never (pt_cmpR op_eq (pe_ix ix_tup (pv 0) (pv 1) (fun _ _ => rfl)) pe_int (nomark _))
    (pss_one (ps_set (i:=1) sc.nd rfl (Or.inl rfl) (pe_op op_add (pv 1) pe_int))))
  (pss_one (ps_ret (pv 1))))),?_⟩
  refine while_by (fun σ H' => ∃ k : Nat,σ = [some (.ref P),some (.int (k : Nat))]∧H = H'∧k≤fu ps) (fun σ _ => muU (fu ps) σ) ⟨0,rfl,rfl,Nat.zero_le _⟩ ?_ ?_
  · rintro σ H' ⟨k,rfl,rfl,hk⟩
    refine ⟨_,rfl,_,rfl,_,_,_,_,rfl,rfl,SqT.of hP,int_at (by lia),rfl,_,rfl,ite2 (fun c => ?_) (fun c => ?_)⟩
    · have c : ps.getD k 0 = 0 := by simpa using c
      have hlt : k < fu ps := by
        rcases Nat.lt_or_eq_of_le hk with h | h
        · exact h
        · subst h; exact absurd c f2
      refine ⟨_,rfl,_,_,rfl,rfl,⟨k + 1,rfl,rfl,hlt⟩,?_⟩
      show fu ps - ((k : Int) + 1).toNat < fu ps - (k : Int).toNat
      lia
    · have c : ps.getD k 0≠0 := by simpa using c
      have : k = fu ps := by
        rcases Nat.lt_or_eq_of_le hk with h | h
        · exact absurd (fu_ahead h) c
        · exact h
      subst this
      exact ⟨_,rfl,q⟩
  · rintro σ H' Q1 Q2 hq ⟨v,e,w1,e1,a,b,c,d,h1,h2,h3,h4,x,h5,h6,h7⟩
    exact ⟨v,e,w1,e1,a,b,c,d,h1,h2,h3,h4,x,h5,h6,hq _ _ h7⟩
end
def Kys (H : Hp) (d : Addr) (ks : List (List Int)) : Prop:=∃ kvs,H d = some (.dT kvs)∧kvs.map (·.1) = ks.map (·.map (Sum.inl (β:=Str)))
theorem val_mem {κ : Type} [DecidableEq κ] {kvs : List (κ×V)} {k : κ} : (valV kvs k).isSome = true ↔ k∈kvs.map (·.1) := by
  rw [← valV_any,List.any_eq_true]
  constructor
  · rintro ⟨x,h1,h2⟩
    exact List.mem_map.mpr ⟨x,h1,of_decide_eq_true h2⟩
  · intro h
    obtain ⟨x,h1,h2⟩:=List.mem_map.mp h
    exact ⟨x,h1,decide_eq_true h2⟩
theorem mem_inl {ks : List (List Int)} {p : List Int} : p.map (Sum.inl (β:=Str))∈ks.map (·.map (Sum.inl (β:=Str))) ↔ p∈ks := by
  constructor
  · intro h
    obtain ⟨q,h1,h2⟩:=List.mem_map.mp h
    rw [← inlI h2]; exact h1
  · intro h
    exact List.mem_map.mpr ⟨p,h,rfl⟩
def muD (d : Addr) (H : Hp) : Nat:=match H d with | some (.dT kvs) => 64 - kvs.length | _ => 0
structure Gath (nn : Nat) (ks : List (List Int)) : Prop where
  nd : ks.Nodup
  ok : ∀ p∈ks,PwOk nn p
structure Cls (ks : List (List Int)) (uss : List (List Mono)) : Prop where
  has : ∀ us∈uss,∀ m∈us,m.1∈ks
  low : ∀ p∈ks,p.sum≠0→lessP p (fu p)∈ks
section
variable {P : Program} {w : World} {K : PySem.W.Frag} {mg : Str→Option Value} {base : Heap} {f g1 g2 : Addr} {fd gd1 gd2 : FuncData}
theorem sc_powers_needed : FnScope ["change", "needed", "some", "powers", "part", "lower"] ["change"] (defScope s_powers_needed):=⟨rfl,rfl,rfl,by decide +kernel,rfl,by decide +kernel,by decide +kernel⟩
theorem ok_powers_needed (F : Fn K mg "powers_needed" s_powers_needed ["change"] f fd) (T_first_unknown : Fn K mg "first_unknown" s_first_unknown ["powers"] g1 gd1) (T_one_less : Fn K mg "one_less" s_one_less ["powers", "k"] g2 gd2)
    (G_first_unknown : FnOk P w K mg base CX0 1 g1 gd1 ["powers"] spFU) (G_one_less : FnOk P w K mg base CX0 1 g2 gd2 ["powers", "k"] spLess) (z_sum : mg "sum" = none) (z_sorted : mg "sorted" = none) : FnOk P w K mg base CX0 2 f fd ["change"] spPN := by
  have sc:=sc_powers_needed
  refine F.F.ok (k:=1) sc (fun vs H Q E h => ?_) (fun cdv A outer s H vs Q E hr h => ?_)
  · obtain ⟨C,cs,uss,nn,rfl,_⟩:=h
    rfl
  obtain ⟨C,cs,uss,nn,rfl,hC,dc,hp,hn4,q⟩:=h
  have hcl : cs.length = uss.length := by rw [dc.len,List.length_map]
  have HU : ∀ {X : Cx},X.A.units + 64 < cLine→X.A.units + 1 < cLine:=fun h => by lia
  refine ⟨_,(pss_cons (ps_set (i:=1) sc.nd rfl (Or.inl rfl) pe_dnewT)
  (pss_cons (ps_for PassesOwn.never rfl (pi_list (pv 0)) (pg_name (i:=2) sc.nd rfl (Or.inl rfl))
    (pss_one (ps_for PassesOwn.never rfl (pi_list (pv 2)) (pg_tup rfl (pgs_cons (pg_name (i:=3) sc.nd rfl (Or.inl rfl)) (pgs_cons (pg_name (i:=4) sc.nd rfl (Or.inl rfl)) pgs_nil)))
      (pss_cons (ps_set (i:=5) sc.nd rfl (Or.inl rfl) (pv 3))
      (pss_one (ps_while PassesOwn.never (pt_cmp (pc_dnotin (by have:=hr.units; exact Nat.lt_of_le_of_lt (Nat.add_le_add_left (show 1≤64 by decide) _) this) (pv 5) (pv 1)))
        (pss_cons (ps_dput (by have:=hr.units; exact Nat.lt_of_le_of_lt (Nat.add_le_add_left (show 1≤64 by decide) _) this) (pv 1) (pv 5) pe_bl rfl)
        (pss_one (ps_if (pt_cmpR op_gt (pe_callB (call_sumT rfl) rfl z_sum PyProof.Rows.boot_sum (pa_cons (pv 5) pa_nil)) pe_int (nomark _))
          (pss_one (ps_set (i:=5) sc.nd rfl (Or.inl rfl) (pe_fn T_one_less G_one_less hr rfl (pa_cons (pv 5) (pa_cons (pe_fn T_first_unknown G_first_unknown hr rfl (pa_cons (pv 5) pa_nil)) pa_nil)))))
          pss_nil)))))))))
  (pss_one (ps_ret (pe_sortS rfl rfl z_sorted rfl z_sum (pv 1)))))),?_⟩
  refine fun d hd => ?_
  have e1:=same_new hd (.dT [])
  have k1 : Kys (upd H d (.dT [])) d []:=⟨[],upd_same,rfl⟩
  generalize upd H d (.dT []) = H1 at e1 k1
  refine ⟨_,rfl,C,rfl,⟨_,SqL.of (e1 _ _ hC)⟩,for_list (xs:=cs) (fun i σ H' => ∃ (r2 r3 r4 r5 : Option V) (ks : List (List Int)),σ = [some (.ref C),some (.ref d),r2,r3,r4,r5]∧Same H H'∧Kys H' d ks∧Gath nn ks∧Cls ks (uss.take i)) ?_ ?_ ?_ ?_⟩
  · exact ⟨_,_,_,_,[],rfl,e1,k1,⟨.nil,(fun _ z => by cases z)⟩,⟨(fun _ z => by cases z),(fun _ z => by cases z)⟩⟩
  · rintro i σ H' _ ⟨r2,r3,r4,r5,ks,rfl,e,_⟩
    exact SqL.of (e _ _ hC)
  · rintro i x σ H2 hx ⟨r2,r3,r4,r5,ks,rfl,e2,k2,g2,c2⟩
    have hi : i < uss.length := by rw [← hcl]; exact (List.getElem?_eq_some_iff.mp hx).1
    have hu : uss[i]? = some uss[i] := by simp [hi]
    obtain ⟨a,xs,ha1,ha2,dx⟩:=chg_get dc hu
    have hup:=hp _ (List.mem_of_getElem? hu)
    generalize uss[i] = us at hu dx hup
    rw [hx] at ha1
    cases ha1
    have hxl : xs.length = us.length := by rw [dx.len,List.length_map]
    refine ⟨_,rfl,a,rfl,⟨_,SqL.of (e2 _ _ ha2)⟩,for_list (xs:=xs) (fun j σ H' => ∃ (r3 r4 r5 : Option V) (ks : List (List Int)),σ = [some (.ref C),some (.ref d),some (.ref a),r3,r4,r5]∧Same H H'∧Kys H' d ks∧Gath nn ks∧Cls ks (uss.take i)∧∀ m∈us.take j,m.1∈ks) ?_ ?_ ?_ ?_⟩
    · exact ⟨_,_,_,ks,rfl,e2,k2,g2,c2,fun _ z => by cases z⟩
    · rintro j σ H' _ ⟨r3,r4,r5,ks,rfl,e,_⟩
      exact SqL.of (e _ _ ha2)
    · rintro j y σ H3 hy ⟨r3,r4,r5,ks,rfl,e3,k3,g3,c3,m3⟩
      have hj : j < us.length := by rw [← hxl]; exact (List.getElem?_eq_some_iff.mp hy).1
      have hm : us[j]? = some us[j] := by simp [hj]
      obtain ⟨c,Pw,Fr,q1,q2,q3,q4⟩:=mono_get dx hm
      have hpw:=hup _ (List.mem_of_getElem? hm)
      generalize us[j] = m at hm q3 q4 hpw
      rw [hy] at q1
      cases q1
      refine ⟨c,_,rfl,SqT.of (e3 _ _ q2),rfl,_,_,rfl,_,_,rfl,rfl,?_⟩
      refine ⟨_,rfl,?_⟩
      refine while_by (fun σ H' => ∃ (lo : Addr) (lw : List Int) (ks : List (List Int)),σ = [some (.ref C),some (.ref d),some (.ref a),some (.ref Pw),some (.ref Fr),some (.ref lo)]∧Same H H'∧H' lo = some (.tup (lw.map V.int))∧PwOk nn lw∧Kys H' d ks∧Gath nn ks∧(∀ us∈uss.take i,∀ m∈us,m.1∈ks)∧(∀ m∈us.take j,m.1∈ks)∧(m.1∈ks∨lw = m.1)∧∀ p∈ks,p.sum≠0→lessP p (fu p)∈ks∨lessP p (fu p) = lw) (fun _ H' => muD d H') ?_ ?_ ?_
      · exact ⟨Pw,m.1,ks,rfl,e3,e3 _ _ q3,hpw,k3,g3,c3.has,m3,.inr rfl,fun p hp h0 => .inl (c3.low p hp h0)⟩
      · rintro σ H4 ⟨lo,lw,ks,rfl,e4,l4,o4,⟨kvs,hd4,hk4⟩,g4,u4,m4,v4,w4⟩
        have hlen : kvs.length = ks.length := by have:=congrArg List.length hk4; simpa using this
        have h35:=few_of hn4 g4.nd g4.ok
        refine ⟨_,rfl,_,rfl,d,_,rfl,DGet.t (k:=lw.map Sum.inl) hd4 (by rw [kV_ints]; exact l4),_,rfl,ite2 (fun cc => ?_) (fun cc => ?_)⟩
        · have hno : valV kvs (lw.map Sum.inl) = none := by
            cases hv : valV kvs (lw.map Sum.inl) with
            | none => rfl
            | some z => rw [hv] at cc; cases cc
          have hnk : lw ∉ ks:=fun z => by
            have:=val_mem.mpr (by rw [hk4]; exact mem_inl.mpr z : lw.map Sum.inl∈kvs.map (·.1))
            rw [hno] at this; cases this
          refine ⟨_,rfl,_,rfl,d,_,rfl,DPut.t (k:=lw.map Sum.inl) hd4 (by rw [kV_ints]; exact l4) (sz60 (n:=60) (by lia) (by decide)),?_⟩
          rw [putK_new _ hno]
          have k5 : Kys (upd H4 d (.dT (kvs ++ [(lw.map Sum.inl,V.bl true)]))) d (ks ++ [lw]):=⟨_,upd_same,by rw [List.map_append,List.map_append,hk4]; rfl⟩
          have e5 : Same H (upd H4 d (.dT (kvs ++ [(lw.map Sum.inl,V.bl true)]))):=fun b o z => by rw [upd_ne (ne_of_none z hd)]; exact e4 _ _ z
          have l5 : upd H4 d (.dT (kvs ++ [(lw.map Sum.inl,V.bl true)])) lo = some (.tup (lw.map V.int)) := by
            rw [upd_ne (fun z => by subst z; rw [l4] at hd4; cases hd4)]; exact l4
          have mu5 : muD d (upd H4 d (.dT (kvs ++ [(lw.map Sum.inl,V.bl true)]))) < muD d H4 := by
            unfold muD
            rw [upd_same,hd4]
            simp only [List.length_append,List.length_singleton]
            lia
          generalize upd H4 d (.dT (kvs ++ [(lw.map Sum.inl,V.bl true)])) = H5 at k5 e5 l5 mu5
          have g5 : Gath nn (ks ++ [lw]):=⟨by rw [List.nodup_append]; exact ⟨g4.nd,by simp,fun a ha b hb => by rw [List.mem_singleton.mp hb]; exact fun z => hnk (z ▸ ha)⟩,fun p hp => by
            rcases List.mem_append.mp hp with h | h
            · exact g4.ok p h
            · rw [List.mem_singleton.mp h]; exact o4⟩
          have u5 : ∀ us∈uss.take i,∀ m∈us,m.1∈ks ++ [lw]:=fun us hus m hm => List.mem_append_left _ (u4 us hus m hm)
          have m5 : ∀ m∈us.take j,m.1∈ks ++ [lw]:=fun m hm => List.mem_append_left _ (m4 m hm)
          have v5 : m.1∈ks ++ [lw] := by
            rcases v4 with h | h
            · exact List.mem_append_left _ h
            · rw [h]; simp
          have w5 : ∀ p∈ks,p.sum≠0→lessP p (fu p)∈ks ++ [lw]:=fun p hp h0 => by
            rcases w4 p hp h0 with h | h
            · exact List.mem_append_left _ h
            · rw [h]; simp
          refine ⟨_,rfl,lo,lw,rfl,SqT.of l5,_,_,rfl,rfl,_,rfl,ite2 (fun c6 => ?_) (fun c6 => ?_)⟩
          · have c6 : 0 < lw.sum := by simpa using c6
            have c0 : lw.sum≠0 := by lia
            obtain ⟨f1,_⟩:=fu_lt c0
            refine ⟨_,rfl,_,rfl,lo,lw,rfl,l5,c0,lo,lw,fu lw,rfl,l5,f1,by rw [o4.len]; exact hn4,fun c7 H7 e7 h7 => ?_⟩
            obtain ⟨kv7,hd7,hk7⟩:=k5
            refine ⟨⟨c7,_,ks ++ [lw],rfl,e5.trans e7,h7,o4.low c0,⟨kv7,e7 _ _ hd7,hk7⟩,g5,u5,m5,.inl v5,fun p hp h0 => ?_⟩,?_⟩
            · rcases List.mem_append.mp hp with h | h
              · exact .inl (w5 p h h0)
              · rw [List.mem_singleton.mp h]; exact .inr rfl
            · have : muD d H7 = muD d H5 := by unfold muD; rw [e7 _ _ hd7,hd7]
              rw [this]; exact mu5
          · have c6 : ¬ 0 < lw.sum := by simpa using c6
            have c0 : lw.sum = 0 := by have:=sum_nonneg o4.nn; lia
            refine ⟨⟨lo,lw,ks ++ [lw],rfl,e5,l5,o4,k5,g5,u5,m5,.inl v5,fun p hp h0 => ?_⟩,mu5⟩
            rcases List.mem_append.mp hp with h | h
            · exact .inl (w5 p h h0)
            · rw [List.mem_singleton.mp h] at h0; exact absurd c0 h0
        · have hlk : lw∈ks := by
            have : (valV kvs (lw.map Sum.inl)).isSome = true := by
              cases hv : valV kvs (lw.map Sum.inl) with
              | none => rw [hv] at cc; exact absurd rfl cc
              | some z => rfl
            have:=val_mem.mp this
            rw [hk4] at this
            exact mem_inl.mp this
          refine ⟨some (.ref Pw),some (.ref Fr),some (.ref lo),ks,rfl,e4,⟨kvs,hd4,hk4⟩,g4,⟨u4,fun p hp h0 => ?_⟩,fun y hy => ?_⟩
          · rcases w4 p hp h0 with h | h
            · exact h
            · rw [h]; exact hlk
          · rw [List.take_add_one,hm] at hy
            rcases List.mem_append.mp hy with h | h
            · exact m4 y h
            · have : y = m := by simpa using h
              subst this
              rcases v4 with h | h
              · exact h
              · rw [← h]; exact hlk
      · rintro σ H' Q1 Q2 hq ⟨v,e,w1,e1,a,o,h1,h2,c,h3,h4⟩
        exact ⟨v,e,w1,e1,a,o,h1,h2,c,h3,hq _ _ h4⟩
    · rintro σ H3 ⟨r3,r4,r5,ks,rfl,e3,k3,g3,c3,m3⟩
      rw [hxl,List.take_length] at m3
      refine ⟨_,_,_,_,ks,rfl,e3,k3,g3,⟨fun vs hvs m hm => ?_,c3.low⟩⟩
      rw [List.take_add_one,hu] at hvs
      rcases List.mem_append.mp hvs with h | h
      · exact c3.has vs h m hm
      · have : vs = us := by simpa using h
        subst this
        exact m3 m hm
  · rintro σ H2 ⟨r2,r3,r4,r5,ks,rfl,e2,⟨kvs,hd2,hk2⟩,g2,c2⟩
    rw [hcl,List.take_length] at c2
    have hlen : kvs.length = ks.length := by have:=congrArg List.length hk2; simpa using this
    have h35:=few_of hn4 g2.nd g2.ok
    refine ⟨_,rfl,d,kvs,ks,rfl,hd2,by lia,hk2,fun D H' L e3 _ hD hD' pm pw hL => ?_⟩
    refine q D H' L (e2.trans e3) (nback e2 hD) hD' ⟨pm.nodup_iff.mpr g2.nd,fun p hp => g2.ok p (pm.mem_iff.mp hp),fun us hus m hm => pm.mem_iff.mpr (c2.has us hus m hm),fun p hp h0 => pm.mem_iff.mpr (c2.low p (pm.mem_iff.mp hp) h0),by rw [List.pairwise_map]; exact pw⟩ fun l hl => e3 _ _ (hL l hl)
end
def seqL (f : Nat→Int) (n : Nat) : List Int:=(List.range n).map f
def conv (f g : Nat→Int) (k : Nat) : Int:=(seqL (fun j => f j * g (k - j)) (k + 1)).sum
def serN (X : Nat→Nat→Int) : Nat→List Int→Nat→Int
  | 0,_ => fun k => if k = 0 then 1 else 0
  | n + 1,ps => conv (serN X n (lessP ps (fu ps))) (X (fu ps))
def ser (X : Nat→Nat→Int) (ps : List Int) : Nat→Int:=serN X ps.sum.toNat ps
theorem ser_zero {X : Nat→Nat→Int} {ps : List Int} (h : ps.sum = 0) (k : Nat) : ser X ps k = if k = 0 then 1 else 0 := by unfold ser; rw [h]; rfl
theorem ser_succ {nn : Nat} {X : Nat→Nat→Int} {ps : List Int} (o : PwOk nn ps) (h : ps.sum≠0) : ser X ps = conv (ser X (lessP ps (fu ps))) (X (fu ps)) := by
  obtain ⟨f1,_⟩:=fu_lt h
  have h0:=sum_nonneg o.nn
  obtain ⟨n,hn⟩ : ∃ n : Nat,ps.sum = (n : Int) + 1:=⟨(ps.sum - 1).toNat,by lia⟩
  have h1 : ps.sum.toNat = n + 1 := by lia
  have h2 : (lessP ps (fu ps)).sum.toNat = n := by rw [sum_set _ _ f1]; lia
  unfold ser
  rw [h1,h2]; rfl
theorem seq_congr {f g : Nat→Int} {n : Nat} (h : ∀ j,j < n→f j = g j) : seqL f n = seqL g n:=List.map_congr_left fun j hj => h j (List.mem_range.mp hj)
theorem seq_snoc (f : Nat→Int) (n : Nat) : seqL f (n + 1) = seqL f n ++ [f n] := by unfold seqL; rw [List.range_succ,List.map_append]; rfl
theorem seq_len (f : Nat→Int) (n : Nat) : (seqL f n).length = n := by unfold seqL; simp
theorem seq_at {f : Nat→Int} {n j : Nat} (h : j < n) : atI ((seqL f n).map V.int) (j : Int) = some (.int (f j)) :=
  atI_nat (xs:=(seqL f n).map V.int) (j:=j) (v:=.int (f j)) (by unfold seqL; simp [h])
theorem conv_congr {f g f' g' : Nat→Int} {k : Nat} (h1 : ∀ j,j≤k→f j = f' j) (h2 : ∀ j,j≤k→g j = g' j) : conv f g k = conv f' g' k := by
  unfold conv
  rw [seq_congr fun j hj => by rw [h1 j (by lia),h2 (k - j) (by lia)]]
theorem serN_congr {X Y : Nat→Nat→Int} {k : Nat} (h : ∀ u j,j≤k→X u j = Y u j) : ∀ (n : Nat) (ps : List Int) (j : Nat),j≤k→serN X n ps j = serN Y n ps j
  | 0,_,_,_ => rfl
  | n + 1,ps,j,hj => conv_congr (fun i hi => serN_congr h n _ i (by lia)) fun i hi => h _ i (by lia)
theorem ser_congr {X Y : Nat→Nat→Int} {k : Nat} (h : ∀ u j,j≤k→X u j = Y u j) (ps : List Int) : ser X ps k = ser Y ps k:=serN_congr h _ _ _ (Nat.le_refl _)
def spd (X : Nat→Nat→Int) (us : List Mono) (k : Nat) : Int:=(us.map fun m => m.2.num * ser X m.1 k).sum
theorem spd_congr {X Y : Nat→Nat→Int} {k : Nat} (h : ∀ u j,j≤k→X u j = Y u j) (us : List Mono) : spd X us k = spd Y us k := by
  unfold spd
  congr 1
  exact List.map_congr_left fun m _ => by rw [ser_congr h]
abbrev lwI (ps : List Int) : List Key:=ps.map (Sum.inl (β:=Str))
def spPA : Sp:=fun vs H Q _ => ∃ (d R P : Addr) (k n nl nn m : Nat) (X : Nat→Nat→Int) (ps : List Int) (kvs : List (List Key×V)) (rvs : List V),vs = [.ref d,.ref R,.ref P,.int (k : Nat)]∧H R = some (.lst rvs) ∧
  (∀ u,u < nn→∃ a,rvs[u]? = some (.ref a)∧H a = some (.lst ((seqL (X u) n).map V.int)))∧k < n∧H P = some (.tup (ps.map V.int))∧PwOk nn ps∧nn≤4∧H d = some (.dT kvs) ∧
  (ps.sum≠0→∃ l,valV kvs (lwI (lessP ps (fu ps))) = some (.ref l)∧H l = some (.lst ((seqL (ser X (lessP ps (fu ps))) nl).map V.int))∧k < nl)∧k≤20 ∧
  (∀ u j,u < nn→j≤k→(X u j).natAbs < 2 ^ m)∧(ps.sum≠0→∀ j,j≤k→(ser X (lessP ps (fu ps)) j).natAbs < 2 ^ m)∧m≤400000∧∀ H',Same H H'→Q (.int (ser X ps k)) H'
def spSA : Sp:=fun vs H Q _ => ∃ (a d : Addr) (xs : List V) (us : List Mono) (kvs : List (List Key×V)) (X : Nat→Nat→Int) (k nl m : Nat),vs = [.ref a,.ref d,.int (k : Nat)]∧H a = some (.lst xs)∧DUs H (us.map monoD) xs∧us.length≤50∧H d = some (.dT kvs) ∧
  (∀ z∈us,(∃ l,valV kvs (lwI z.1) = some (.ref l)∧H l = some (.lst ((seqL (ser X z.1) nl).map V.int)))∧z.2.num.natAbs < 2 ^ m∧(ser X z.1 k).natAbs < 2 ^ m)∧k < nl∧m≤400000∧∀ H',Same H H'→Q (.int (spd X us k)) H'
section
variable {P : Program} {w : World} {K : PySem.W.Frag} {mg : Str→Option Value} {base : Heap} {f g1 g2 : Addr} {fd gd1 gd2 : FuncData}
theorem sc_product_at : FnScope ["products", "rows", "powers", "k", "unknown", "lower"] ["products", "rows", "powers", "k"] (defScope s_product_at):=⟨rfl,rfl,rfl,by decide +kernel,rfl,by decide +kernel,by decide +kernel⟩
theorem ok_product_at (F : Fn K mg "product_at" s_product_at ["products", "rows", "powers", "k"] f fd) (T_first_unknown : Fn K mg "first_unknown" s_first_unknown ["powers"] g1 gd1) (T_one_less : Fn K mg "one_less" s_one_less ["powers", "k"] g2 gd2)
    (G_first_unknown : FnOk P w K mg base CX0 1 g1 gd1 ["powers"] spFU) (G_one_less : FnOk P w K mg base CX0 1 g2 gd2 ["powers", "k"] spLess) (z_sum : mg "sum" = none) (z_range : mg "range" = none) : FnOk P w K mg base CX0 2 f fd ["products", "rows", "powers", "k"] spPA := by
  have sc:=sc_product_at
  refine F.F.ok (k:=1) sc (fun vs H Q E h => ?_) (fun cdv A outer s H vs Q E hr h => ?_)
  · obtain ⟨d,R,P,k,n,nl,nn,m,X,ps,kvs,rvs,rfl,_⟩:=h
    rfl
  obtain ⟨d,R,P,k,n,nl,nn,m,X,ps,kvs,rvs,rfl,hR,hrow,hkn,hP,ho,hn4,hd,hl,hk20,hX,hS,hm,q⟩:=h
  refine ⟨_,(pss_cons (ps_if (pt_cmpR op_eq (pe_callB (call_sumT rfl) rfl z_sum PyProof.Rows.boot_sum (pa_cons (pv 2) pa_nil)) pe_int (nomark _))
    (pss_one (ps_ret (pe_ifExp (pt_cmpR op_eq (pv 3) pe_int (nomark _)) pe_int pe_int)))
    pss_nil)
  (pss_cons (ps_set (i:=4) sc.nd rfl (Or.inr rfl) (pe_fn T_first_unknown G_first_unknown hr rfl (pa_cons (pv 2) pa_nil)))
  (pss_cons (ps_set (i:=5) sc.nd rfl (Or.inr rfl) (pe_dget (by have:=hr.units; exact Nat.lt_of_le_of_lt (Nat.add_le_add_left (show 1≤64 by decide) _) this) (pv 0) (pe_fn T_one_less G_one_less hr rfl (pa_cons (pv 2) (pa_cons (pv 4) pa_nil))) (fun _ _ => rfl)))
  (pss_one (ps_ret (pe_callB (call_sum rfl) rfl z_sum PyProof.Rows.boot_sum (pa_cons (pe_compr [".0", "j", "lower", "rows", "unknown", "k"] 1 [none,none,some 5,some 1,some 4,some 3] (pi_range1 rfl z_range (pa_cons (pe_op op_add (pv 3) pe_int) pa_nil)) (fun _ _ _ _ _ => pif_nil) (fun _ _ _ _ _ => (pe_op op_mulW (pe_ix ix_listC (pv 2) (pv 1) (fun _ _ => rfl)) (pe_ix ix_listC (pe_ix ix_listC (pv 3) (pv 4) (fun _ _ => rfl)) (pe_op op_sub (pv 5) (pv 1)) (fun _ _ => rfl))))) pa_nil))))))),?_⟩
  refine ⟨_,rfl,P,ps,rfl,SqT.of hP,rfl,_,rfl,ite2 (fun c => ?_) (fun c => ?_)⟩
  · have c : ps.sum = 0 := by simpa using c
    have:=q H (fun _ _ h => h)
    rw [ser_zero c] at this
    refine ⟨_,rfl,rfl,_,rfl,ite2 (fun c2 => ?_) (fun c2 => ?_)⟩
    · have c2 : (k : Int) = 0 := by simpa using c2
      rw [if_pos (by lia)] at this
      exact this
    · have c2 : ¬ (k : Int) = 0 := by simpa using c2
      rw [if_neg (by lia)] at this
      exact this
  · have c : ps.sum≠0 := by simpa using c
    obtain ⟨f1,_⟩:=fu_lt c
    obtain ⟨l,v1,v2,v3⟩:=hl c
    refine ⟨_,rfl,P,ps,rfl,hP,c,?_⟩
    refine ⟨_,rfl,_,rfl,_,rfl,P,ps,fu ps,rfl,hP,f1,by rw [ho.len]; exact hn4,fun c1 H1 e1 h1 => ?_⟩
    have hg : DGet H1 d (.ref c1) (some (.ref l)) := by
      have:=DGet.t (k:=lwI (lessP ps (fu ps))) (e1 _ _ hd) (by rw [kV_ints]; exact h1)
      rw [v1] at this
      exact this
    refine ⟨d,.ref l,rfl,hg,?_⟩
    obtain ⟨ra,w1,w2⟩:=hrow (fu ps) (by rw [← ho.len]; exact f1)
    refine ⟨_,rfl,_,_,rfl,rfl,(k : Int) + 1,rfl,by lia,by lia,fun D hD => comp_by (n:=((k : Int) + 1).toNat) (fun i ys H' => Same H1 H'∧ys = (seqL (fun j => ser X (lessP ps (fu ps)) j * X (fu ps) (k - j)) i).map V.int) ⟨same_new hD _,rfl⟩ ?_ ?_⟩
    · rintro i ys H2 hi ⟨e2,rfl⟩ hD2
      have E2:=e1.trans e2
      have hik : i≤k := by lia
      refine ⟨hi,sz60 (n:=60) (by rw [List.length_map,seq_len]; lia) (by decide),fun x H' y => ?_⟩
      obtain ⟨rfl,rfl⟩:=y
      unfold tNoIf
      have hix : (0 : Int) + (i : Nat) = (i : Nat) := by lia
      have hki : (k : Int) - ((0 : Int) + (i : Nat)) = ((k - i : Nat) : Int) := by lia
      refine iteT ⟨_,rfl,_,rfl,_,_,_,_,rfl,rfl,SqL.of (E2 _ _ v2),(by rw [hix]; exact seq_at (by lia)),_,rfl,_,rfl,_,_,_,_,rfl,rfl,SqL.of (E2 _ _ hR),atI_nat w1,_,rfl,_,rfl,_,_,rfl,rfl,_,_,_,_,rfl,rfl,SqL.of (E2 _ _ w2),(by rw [hki]; exact seq_at (by lia)),_,_,rfl,rfl,mulW (hS c i hik) (hX _ _ (by rw [← ho.len]; exact f1) (by lia)) (by lia),hD2,cw_next hi ⟨fun b o z => ?_,?_⟩⟩
      · rw [upd_ne (ne_of_none z hD)]
        exact e2 _ _ z
      · rw [seq_snoc,List.map_append]; rfl
    · rintro ys H2 ⟨e2,rfl⟩ hD2
      refine ⟨Nat.le_refl _,D,_,rfl,SqL.of hD2,?_⟩
      have:=q H2 (e1.trans e2)
      rw [ser_succ ho c] at this
      exact this
theorem sc_speed_at : FnScope ["some", "products", "k"] ["some", "products", "k"] (defScope s_speed_at):=⟨rfl,rfl,rfl,by decide +kernel,rfl,by decide +kernel,by decide +kernel⟩
theorem ok_speed_at (F : Fn K mg "speed_at" s_speed_at ["some", "products", "k"] f fd) (z_sum : mg "sum" = none) : FnOk P w K mg base CX0 2 f fd ["some", "products", "k"] spSA := by
  have sc:=sc_speed_at
  refine F.F.ok (k:=1) sc (fun vs H Q E h => ?_) (fun cdv A outer s H vs Q E hr h => ?_)
  · obtain ⟨a,d,xs,us,kvs,X,k,nl,m,rfl,_⟩:=h
    rfl
  obtain ⟨a,d,xs,us,kvs,X,k,nl,m,rfl,ha,dx,h50,hd,hz,hkl,hm,q⟩:=h
  have hxl : xs.length = us.length := by rw [dx.len,List.length_map]
  refine ⟨_,(pss_one (ps_ret (pe_callB (call_sum rfl) rfl z_sum PyProof.Rows.boot_sum (pa_cons (pe_compr2 [".0", "powers", "part", "k", "products"] 1 2 [none,none,none,some 2,some 1] (pi_list (pv 0)) (fun _ _ _ _ _ => pif_nil) (fun _ _ _ _ _ => (pe_op op_mulW (pe_ix ix_tupC (pv 2) pe_int (fun _ _ => rfl)) (pe_ix ix_listC (pe_dget (by have:=hr.units; exact Nat.lt_of_le_of_lt (Nat.add_le_add_left (show 1≤64 by decide) _) this) (pv 4) (pv 1) (fun _ _ => rfl)) (pv 3) (fun _ _ => rfl))))) pa_nil)))),?_⟩
  refine ⟨_,rfl,a,rfl,⟨_,SqL.of ha⟩,fun D hD => comp_by2 (n:=xs.length) (fun i ys H' => Same H H'∧ys = ((us.take i).map fun z => z.2.num * ser X z.1 k).map V.int) ⟨same_new hD _,rfl⟩ ?_ ?_⟩
  · rintro i ys H2 hi ⟨e2,rfl⟩ hD2
    have hu : us[i]? = some (us[i]'(by lia)):=List.getElem?_eq_getElem _
    obtain ⟨c,Pw,Fr,k1,k2,k3,k4⟩:=mono_get dx hu
    obtain ⟨⟨l,v1,v2⟩,n1,n2⟩:=hz _ (List.mem_of_getElem? hu)
    generalize us[i]'(by lia) = z at hu k3 k4 v1 v2 n1 n2
    refine ⟨⟨xs,.ref c,SqL.of (e2 _ _ ha),k1⟩,sz60 (n:=60) (by rw [List.length_map,List.length_map,List.length_take]; lia) (by decide),fun x H' y => ?_⟩
    obtain ⟨rfl,y⟩:=y
    have hx:=y xs (SqL.of (e2 _ _ ha))
    rw [k1] at hx
    cases hx
    refine ⟨c,_,_,rfl,SqT.of (e2 _ _ k2),?_⟩
    unfold tNoIf
    have hg : DGet H' d (.ref Pw) (some (.ref l)) := by
      have:=DGet.t (k:=lwI z.1) (e2 _ _ hd) (by rw [kV_ints]; exact e2 _ _ k3)
      rw [v1] at this
      exact this
    refine iteT ⟨_,rfl,_,_,_,_,rfl,rfl,SqT.of (e2 _ _ k4),rfl,_,rfl,_,rfl,d,_,rfl,hg,_,rfl,_,_,_,_,rfl,rfl,SqL.of (e2 _ _ v2),seq_at hkl,_,_,rfl,rfl,mulW n1 n2 (by lia),hD2,cw_next hi ⟨fun b o zz => ?_,?_⟩⟩
    · rw [upd_ne (ne_of_none zz hD)]
      exact e2 _ _ zz
    · rw [List.take_add_one,hu,List.map_append,List.map_append]; rfl
  · rintro ys H2 ⟨e2,rfl⟩ hD2
    rw [hxl,List.take_length] at hD2
    exact ⟨⟨xs,SqL.of (e2 _ _ ha),Nat.le_refl _⟩,D,_,rfl,SqL.of hD2,q H2 e2⟩
end
def rowsN (x0 : Nat→Int) (uss : List (List Mono)) (F : Int) : Nat→Nat→Nat→Int
  | 0 => fun u _ => x0 u
  | k + 1 => fun u j => if j≤k then rowsN x0 uss F k u j else spd (rowsN x0 uss F k) (uss.getD u []) k * F.fdiv ((k : Int) + 1)
def grow (x0 : Nat→Int) (uss : List (List Mono)) (F : Int) (u j : Nat) : Int:=rowsN x0 uss F j u j
theorem rows_eq {x0 : Nat→Int} {uss : List (List Mono)} {F : Int} : ∀ {k j : Nat} (u : Nat),j≤k→rowsN x0 uss F k u j = grow x0 uss F u j
  | 0,j,u,h => by rw [Nat.le_zero.mp h]; rfl
  | k + 1,j,u,h => by
    by_cases hk : j≤k
    · show (if j≤k then _ else _) = _
      rw [if_pos hk]; exact rows_eq u hk
    · rw [show j = k + 1 by lia]; rfl
theorem grow_succ {x0 : Nat→Int} {uss : List (List Mono)} {F : Int} (u k : Nat) : grow x0 uss F u (k + 1) = spd (grow x0 uss F) (uss.getD u []) k * F.fdiv ((k : Int) + 1) := by
  show (if k + 1≤k then _ else _) = _
  rw [if_neg (by lia),spd_congr fun u j hj => rows_eq u hj]
def RwAt (H0 H : Hp) (no : Addr→Prop) (Ra : Addr) (nn n : Nat) (X : Nat→Nat→Int) : Prop:=∃ rvs : List V,H Ra = some (.lst rvs)∧rvs.length = nn∧∀ u,u < nn→∃ a,rvs[u]? = some (.ref a)∧H a = some (.lst ((seqL (X u) n).map V.int))∧H0 a = none∧¬ no a
def RwMk (H0 H2 : Hp) (no : Addr→Prop) (D : Addr) (n : Nat) (X : Nat→Nat→Int) (i : Nat) (ys : List V) (H' : Hp) : Prop:=Same H2 H'∧ys.length = i∧∀ u,u < i→∃ a,ys[u]? = some (.ref a)∧H' a = some (.lst ((seqL (X u) n).map V.int))∧H0 a = none∧¬ no a∧a≠D
theorem rwMk_step {H0 H2 H3 : Hp} {no : Addr→Prop} {D p : Addr} {n i : Nat} {X : Nat→Nat→Int} {ys : List V} (hD : H2 D = none) (e3 : Same H2 H3) (hD3 : H3 D = some (.lst ys)) (hl : ys.length = i) (h : ∀ u,u < i→∃ a,ys[u]? = some (.ref a)∧H3 a = some (.lst ((seqL (X u) n).map V.int))∧H0 a = none∧¬ no a∧a≠D)
    (hp : H3 p = some (.lst ((seqL (X i) n).map V.int))) (h0 : H0 p = none) (hn : ¬ no p) (hpD : p≠D) : RwMk H0 H2 no D n X (i + 1) (ys ++ [.ref p]) (upd H3 D (.lst (ys ++ [.ref p]))) := by
  refine ⟨fun b o z => ?_,by simp [hl],fun u hu => ?_⟩
  · rw [upd_ne (ne_of_none z hD)]; exact e3 _ _ z
  · rcases Nat.lt_or_eq_of_le (Nat.le_of_lt_succ hu) with h1 | h1
    · obtain ⟨a,k1,k2,k3,k4,k5⟩:=h u h1
      exact ⟨a,by rw [List.getElem?_append_left (by lia)]; exact k1,by rw [upd_ne k5]; exact k2,k3,k4,k5⟩
    · subst h1
      exact ⟨p,by rw [List.getElem?_append_right (by lia)]; simp [hl],by rw [upd_ne hpD]; exact hp,h0,hn,hpD⟩
theorem rwMk_end {H0 H2 H' : Hp} {no : Addr→Prop} {D : Addr} {n nn : Nat} {X : Nat→Nat→Int} {ys : List V} (h : RwMk H0 H2 no D n X nn ys H') (hD : H' D = some (.lst ys)) : RwAt H0 H' no D nn n X :=
  ⟨ys,hD,h.2.1,fun u hu => let ⟨a,k1,k2,k3,k4,_⟩:=h.2.2 u hu; ⟨a,k1,k2,k3,k4⟩⟩
def whD (x : Int) : PyData:=.tuple [.int x,.int 1]
structure WrOk (uss : List (List Mono)) (x0 : List Int) (F : Int) (most nn m : Nat) : Prop where
  n4 : nn≤4
  len : uss.length = nn
  slen : x0.length = nn
  mst : most≤19
  few : ∀ us∈uss,us.length≤50
  pw : ∀ us∈uss,∀ z∈us,PwOk nn z.1
  num : ∀ us∈uss,∀ z∈us,z.2.num.natAbs < 2 ^ m
  xs : ∀ u k,u < nn→k≤most→(grow (x0.getD · 0) uss F u k).natAbs < 2 ^ m
  srs : ∀ ps,PwOk nn ps→∀ k,k < most→(ser (grow (x0.getD · 0) uss F) ps k).natAbs < 2 ^ m
  sps : ∀ us∈uss,∀ k,k < most→(spd (grow (x0.getD · 0) uss F) us k).natAbs < 2 ^ m
  fin : F.natAbs < 2 ^ m
  m4 : m≤4000
def spWR : Sp:=fun vs H Q _ => ∃ (C S : Addr) (cs ss : List V) (uss : List (List Mono)) (x0 : List Int) (F : Int) (most nn m : Nat),vs = [.ref C,.ref S,.int (most : Nat),.int F]∧H C = some (.lst cs)∧DUs H (uss.map polyD) cs∧H S = some (.lst ss)∧DUs H (x0.map whD) ss∧WrOk uss x0 F most nn m ∧
  ∀ (D : Addr) H',Same H H'→H D = none→RwAt H H' (fun _ => False) D nn (most + 1) (grow (x0.getD · 0) uss F)→Q (.ref D) H'
structure Prds (H1 H : Hp) (d : Addr) (kvs : List (List Key×V)) (os : List (List Int)) (ls : List Int→Addr) : Prop where
  at_ : H d = some (.dT kvs)
  key : kvs.map (·.1) = os.map lwI
  val : ∀ p∈os,valV kvs (lwI p) = some (.ref (ls p))
  new : ∀ p∈os,H1 (ls p) = none∧ls p≠d
  inj : ∀ p∈os,∀ q∈os,ls p = ls q→p = q
theorem idx_low {uss : List (List Mono)} {nn : Nat} {os : List (List Int)} (o : Ord uss nn os) {i : Nat} {p : List Int} (hi : os[i]? = some p) (h : p.sum≠0) : lessP p (fu p)∈os.take i := by
  have hm:=o.low p (List.mem_of_getElem? hi) h
  obtain ⟨j,hj⟩:=List.getElem?_of_mem hm
  obtain ⟨f1,_⟩:=fu_lt h
  have hs:=sum_set p (fu p) f1
  have hjl:=(List.getElem?_eq_some_iff.mp hj).1
  have hil:=(List.getElem?_eq_some_iff.mp hi).1
  have hlt : j < i := by
    rcases Nat.lt_trichotomy j i with h1 | h1 | h1
    · exact h1
    · subst h1; rw [hi] at hj; have hj:=Option.some.inj hj; rw [← hj] at hs; lia
    · have:=(List.pairwise_iff_getElem.mp o.asc) i j hil hjl h1
      rw [(List.getElem?_eq_some_iff.mp hi).2,(List.getElem?_eq_some_iff.mp hj).2] at this
      lia
  exact List.mem_of_getElem? (i:=j) (by rw [List.getElem?_take,if_pos hlt]; exact hj)
theorem mem_take_succ {os : List (List Int)} {i : Nat} {p q : List Int} (h : os[i]? = some p) : q∈os.take (i + 1) ↔ q∈os.take i∨q = p := by
  rw [List.take_add_one,h,List.mem_append]; simp
theorem nd_take {os : List (List Int)} {i : Nat} {p : List Int} (nd : os.Nodup) (h : os[i]? = some p) : p ∉ os.take i:=fun z => by
  obtain ⟨j,hj⟩:=List.getElem?_of_mem z
  rw [List.getElem?_take] at hj
  split at hj
  · rename_i hlt
    have h1:=(List.getElem?_eq_some_iff.mp h)
    have h2:=(List.getElem?_eq_some_iff.mp hj)
    have:=(List.pairwise_iff_getElem.mp nd) j i h2.1 h1.1 hlt
    rw [h1.2,h2.2] at this
    exact this rfl
  · cases hj
section
variable {P : Program} {w : World} {K : PySem.W.Frag} {mg : Str→Option Value} {base : Heap} {f g1 g2 g3 : Addr} {fd gd1 gd2 gd3 : FuncData}
theorem sc_whole_rows : FnScope ["change", "start", "most", "finer", "rows", "order", "products", "powers", "k", "speeds"] ["change", "start", "most", "finer"] (defScope s_whole_rows):=⟨rfl,rfl,rfl,by decide +kernel,rfl,by decide +kernel,by decide +kernel⟩
theorem ok_whole_rows (F : Fn K mg "whole_rows" s_whole_rows ["change", "start", "most", "finer"] f fd) (T_powers_needed : Fn K mg "powers_needed" s_powers_needed ["change"] g1 gd1) (T_product_at : Fn K mg "product_at" s_product_at ["products", "rows", "powers", "k"] g2 gd2) (T_speed_at : Fn K mg "speed_at" s_speed_at ["some", "products", "k"] g3 gd3)
    (G_powers_needed : FnOk P w K mg base CX0 2 g1 gd1 ["change"] spPN) (G_product_at : FnOk P w K mg base CX0 2 g2 gd2 ["products", "rows", "powers", "k"] spPA) (G_speed_at : FnOk P w K mg base CX0 2 g3 gd3 ["some", "products", "k"] spSA) (z_range : mg "range" = none) (z_zip : mg "zip" = none) : FnOk P w K mg base CX0 3 f fd ["change", "start", "most", "finer"] spWR := by
  have sc:=sc_whole_rows
  refine F.F.ok (k:=2) sc (fun vs H Q E h => ?_) (fun cdv A outer s H vs Q E hr h => ?_)
  · obtain ⟨C,S,cs,ss,uss,x0,F,most,nn,m,rfl,_⟩:=h
    rfl
  obtain ⟨C,S,cs,ss,uss,x0,F,most,nn,m,rfl,hC,dc,hS,ds,ok,q⟩:=h
  obtain ⟨nn4,hul,hxl,hmost,hfew,hpw,hnum,hxs,hser,hspd,hF,m4⟩:=ok
  have hcl : cs.length = uss.length := by rw [dc.len,List.length_map]
  have hsl : ss.length = x0.length := by rw [ds.len,List.length_map]
  generalize hX : grow (x0.getD · 0) uss F = X at hxs hser hspd q
  refine ⟨_,(pss_cons (ps_setCompr (i:=4) [".0", "place"] 1 [none,none] sc.nd rfl rfl (pi_list (pv 1)) (fun _ _ _ _ _ => pif_nil) (fun _ _ _ _ _ => (pe_lst (pa_cons (pe_ix ix_tupC (pv 1) pe_int (fun _ _ => rfl)) pa_nil))))
  (pss_cons (ps_set (i:=5) sc.nd rfl (Or.inl rfl) (pe_fn T_powers_needed G_powers_needed hr rfl (pa_cons (pv 0) pa_nil)))
  (pss_cons (ps_set (i:=6) sc.nd rfl (Or.inr rfl) pe_dnewT)
  (pss_cons (ps_for PassesOwn.never rfl (pi_list (pv 5)) (pg_name (i:=7) sc.nd rfl (Or.inl rfl))
    (pss_one (ps_dput (by have:=hr.units; exact Nat.lt_of_le_of_lt (Nat.add_le_add_left (show 1≤64 by decide) _) this) (pv 6) (pv 7) (pe_lst pa_nil) rfl)))
  (pss_cons (ps_for PassesOwn.never rfl (pi_range1 rfl z_range (pa_cons (pv 2) pa_nil)) (pg_name (i:=8) sc.nd rfl (Or.inr rfl))
    (pss_cons (ps_for PassesOwn.never rfl (pi_list (pv 5)) (pg_name (i:=7) sc.nd rfl (Or.inl rfl))
      (pss_one (ps_expr (pe_bm PySem.F.plainAttrs_list PySem.F.slot_list_append PySem.F.type_list_append mt_append (pe_dget (by have:=hr.units; exact Nat.lt_of_le_of_lt (Nat.add_le_add_left (show 1≤64 by decide) _) this) (pv 6) (pv 7) (fun _ _ => rfl)) (pa_cons (pe_fn T_product_at G_product_at hr rfl (pa_cons (pv 6) (pa_cons (pv 4) (pa_cons (pv 7) (pa_cons (pv 8) pa_nil))))) pa_nil)))))
    (pss_cons (ps_setCompr (i:=9) [".0", "some", "products", "k"] 1 [none,none,some 6,some 8] sc.nd rfl rfl (pi_list (pv 0)) (fun _ _ _ _ _ => pif_nil) (fun _ _ _ _ _ => (pe_fn T_speed_at G_speed_at hr rfl (pa_cons (pv 1) (pa_cons (pv 2) (pa_cons (pv 3) pa_nil))))))
    (pss_one (ps_setCompr2 (i:=4) [".0", "row", "speed", "finer", "k"] 1 2 [none,none,none,some 3,some 8] sc.nd rfl rfl (pi_zip rfl z_zip (pa_cons (pv 4) (pa_cons (pv 9) pa_nil))) (fun _ _ _ _ _ => pif_nil) (fun _ _ _ _ _ => (pe_op op_cat (pv 1) (pe_lst (pa_cons (pe_op op_mulW (pv 2) (pe_op op_fdivW (pv 3) (pe_op op_add (pv 4) pe_int))) pa_nil)))))))))
  (pss_one (ps_ret (pv 4)))))))),?_⟩
  refine ⟨_,rfl,S,rfl,⟨_,SqL.of hS⟩,fun D0 hD0 => comp_by (n:=ss.length) (RwMk H H (fun _ => False) D0 1 X) ⟨same_new hD0 _,rfl,fun u hu => absurd hu (by lia)⟩ ?_ ?_⟩
  · rintro i ys H1 hi ⟨e1,hyl,hy⟩ hD1
    have hx : x0[i]? = some (x0[i]'(by lia)):=List.getElem?_eq_getElem _
    obtain ⟨v,k1,k2⟩:=ds.get (i:=i) (d:=whD (x0[i]'(by lia))) (by rw [List.getElem?_map,hx]; rfl)
    obtain ⟨t,xs,rfl,k3,k4⟩:=k2.unT
    obtain ⟨y1,y2,rfl,k5,k6⟩:=k4.un2
    obtain ⟨N5,k5⟩:=k5
    have k5:=k5 N5 (Nat.le_refl _)
    rw [Dt] at k5
    subst k5
    refine ⟨⟨ss,.ref t,SqL.of (e1 _ _ hS),k1⟩,sz60 (n:=60) (by lia) (by decide),fun x H' y => ?_⟩
    obtain ⟨rfl,y⟩:=y
    have hx':=y ss (SqL.of (e1 _ _ hS))
    rw [k1] at hx'
    cases hx'
    unfold tNoIf
    refine iteT ⟨_,rfl,_,_,_,_,rfl,rfl,SqT.of (e1 _ _ k3),rfl,sz60' (show 1≤60 by decide),fun p hp => ?_⟩
    have ep:=same_new hp (.lst [V.int (x0[i]'(by lia))])
    have npD : p≠D0:=fun z => by subst z; rw [hD1] at hp; cases hp
    have hX0 : X i 0 = x0[i]'(by lia) := by
      rw [← hX]
      show x0.getD i 0 = _
      rw [List.getD_eq_getElem?_getD,hx]; rfl
    refine ⟨ep _ _ hD1,cw_next hi (rwMk_step hD0 (e1.trans ep) (ep _ _ hD1) hyl (fun u hu => ?_) ?_ (nback e1 hp) (fun z => z) npD)⟩
    · obtain ⟨a,j1,j2,j3⟩:=hy u hu
      exact ⟨a,j1,ep _ _ j2,j3⟩
    · rw [upd_same,seq_snoc,hX0]; rfl
  rintro ys0 H1 mk0 hD1
  have e1:=mk0.1
  refine ⟨⟨ss,SqL.of (e1 _ _ hS),Nat.le_refl _⟩,?_⟩
  rw [hsl,hxl] at mk0
  have r1:=rwMk_end mk0 hD1
  clear mk0 hD1
  refine ⟨_,rfl,C,cs,uss,nn,rfl,e1 _ _ hC,dc.same e1,hpw,nn4,fun O H2 L e2 hO hO2 ord hL => ?_⟩
  have E2:=e1.trans e2
  generalize hos : L.map (·.1) = os at ord
  have hLo : ∀ (i : Nat) (p : List Int),os[i]? = some p→∃ a : Addr,(L.map fun l => V.ref l.2)[i]? = some (V.ref a)∧H2 a = some (.tup (p.map V.int)):=fun i p hp => by
    rw [← hos,List.getElem?_map] at hp
    obtain ⟨l,h1,h2⟩:=Option.map_eq_some_iff.mp hp
    subst h2
    exact ⟨l.2,by rw [List.getElem?_map,h1]; rfl,hL l (List.mem_of_getElem? h1)⟩
  have hLl : (L.map fun l => V.ref l.2).length = os.length := by rw [← hos]; simp
  have h35:=few_of nn4 ord.nd ord.ok
  generalize (L.map fun l => V.ref l.2) = ov at hO2 hLo hLl
  clear hL hos
  refine fun d hd => ?_
  have e3:=same_new hd (.dT [])
  have hd3 : upd H2 d (.dT []) d = some (.dT []):=upd_same
  have hd2:=hd
  generalize upd H2 d (.dT []) = H3 at e3 hd3
  refine ⟨_,rfl,O,rfl,⟨_,SqL.of (e3 _ _ hO2)⟩,for_list (xs:=ov) (fun i σ H' => ∃ (r7 r8 r9 : Option V) (kvs : List (List Key×V)) (ls : List Int→Addr),σ = [some (.ref C),some (.ref S),some (.int (most : Nat)),some (.int F),some (.ref D0),some (.ref O),some (.ref d),r7,r8,r9]∧Same H2 H'∧Prds H2 H' d kvs (os.take i) ls∧∀ p∈os.take i,H' (ls p) = some (.lst [])) ?_ ?_ ?_ ?_⟩
  · exact ⟨_,_,_,[],fun _ => 0,rfl,e3,⟨hd3,rfl,(fun _ z => by cases z),(fun _ z => by cases z),(fun _ z => by cases z)⟩,(fun _ z => by cases z)⟩
  · rintro i σ H' _ ⟨r7,r8,r9,kvs,ls,rfl,e,_⟩
    exact SqL.of (e _ _ hO2)
  · rintro i x σ H4 hx ⟨r7,r8,r9,kvs,ls,rfl,e4,pr,hem⟩
    have hi : i < os.length := by rw [← hLl]; exact (List.getElem?_eq_some_iff.mp hx).1
    have hp : os[i]? = some os[i] := by simp [hi]
    obtain ⟨a,k1,k2⟩:=hLo i _ hp
    have hnt:=nd_take ord.nd hp
    generalize os[i] = p at hp k2 hnt
    rw [hx] at k1
    cases k1
    have hno : valV kvs (lwI p) = none := by
      cases hv : valV kvs (lwI p) with
      | none => rfl
      | some z =>
        have:=val_mem.mp (show (valV kvs (lwI p)).isSome = true by rw [hv]; rfl)
        rw [pr.key] at this
        exact absurd (mem_inl.mp this) hnt
    have hkl : kvs.length = i := by have:=congrArg List.length pr.key; simp at this; lia
    refine ⟨sz60' (show 0≤60 by decide),fun l hl => ?_⟩
    have el:=same_new hl (.lst [])
    have hdl : l≠d:=fun z => by subst z; rw [pr.at_] at hl; cases hl
    refine ⟨_,rfl,_,rfl,d,_,rfl,DPut.t (k:=lwI p) (el _ _ pr.at_) (by rw [kV_ints]; exact el _ _ (e4 _ _ k2)) (sz60 (n:=60) (by lia) (by decide)),?_⟩
    rw [putK_new _ hno]
    have hls : ∀ z∈os.take i,ls z≠l:=fun z hz y => by rw [← y,hem z hz] at hl; cases hl
    refine ⟨_,_,_,kvs ++ [(lwI p,.ref l)],fun z => if z = p then l else ls z,rfl,fun b o z => ?_,⟨upd_same,?_,fun z hz => ?_,fun z hz => ?_,fun y hy z hz => ?_⟩,fun z hz => ?_⟩
    · rw [upd_ne (ne_of_none z hd2)]; exact el _ _ (e4 _ _ z)
    · rw [List.map_append,pr.key,List.take_add_one,hp,List.map_append]; rfl
    · rw [valV_snoc _ _ _ _ hno]
      by_cases y : z = p
      · rw [if_pos (by rw [y]),if_pos y]
      · rw [if_neg fun w => y (inlI w),if_neg y]
        rcases (mem_take_succ hp).mp hz with h | h
        · exact pr.val z h
        · exact absurd h y
    · by_cases y : z = p
      · rw [if_pos y]; exact ⟨nback e4 hl,hdl⟩
      · rw [if_neg y]
        rcases (mem_take_succ hp).mp hz with h | h
        · exact pr.new z h
        · exact absurd h y
    · rcases (mem_take_succ hp).mp hy with h1 | h1 <;> rcases (mem_take_succ hp).mp hz with h2 | h2
      · have n1 : y≠p:=fun w => hnt (w ▸ h1)
        have n2 : z≠p:=fun w => hnt (w ▸ h2)
        rw [if_neg n1,if_neg n2]; exact pr.inj y h1 z h2
      · have n1 : y≠p:=fun w => hnt (w ▸ h1)
        rw [if_neg n1,if_pos h2]; exact fun w => absurd w (hls y h1)
      · have n2 : z≠p:=fun w => hnt (w ▸ h2)
        rw [if_pos h1,if_neg n2]; exact fun w => absurd w.symm (hls z h2)
      · exact fun _ => h1.trans h2.symm
    · show upd _ d _ (if z = p then l else ls z) = _
      by_cases y : z = p
      · rw [if_pos y,upd_ne hdl,upd_same]
      · rw [if_neg y]
        rcases (mem_take_succ hp).mp hz with h | h
        · rw [upd_ne (pr.new z h).2]; exact el _ _ (hem z h)
        · exact absurd h y
  rintro σ H4 ⟨r7,r8,r9,kvs,ls,rfl,e4,pr,hem⟩
  rw [hLl,List.take_length] at pr hem
  have nlsD : ∀ p∈os,H2 (ls p) = none:=fun p hp => (pr.new p hp).1
  have r4 : RwAt H H4 (fun a => ∃ p∈os,a = ls p) D0 nn 1 X := by
    obtain ⟨rvs,k1,k2,k3⟩:=r1
    refine ⟨rvs,e4 _ _ (e2 _ _ k1),k2,fun u hu => ?_⟩
    obtain ⟨a,j1,j2,j3,_⟩:=k3 u hu
    refine ⟨a,j1,e4 _ _ (e2 _ _ j2),j3,?_⟩
    rintro ⟨p,hp,rfl⟩
    have:=e2 _ _ j2
    rw [nlsD p hp] at this; cases this
  have nD0 : ∀ p∈os,ls p≠D0:=fun p hp z => by
    obtain ⟨rvs,k1,_⟩:=r1
    have:=e2 _ _ k1
    rw [← z,nlsD p hp] at this; cases this
  have hem4 : ∀ p∈os,H4 (ls p) = some (.lst ((seqL (ser X p) 0).map V.int)):=hem
  clear hem
  refine ⟨_,rfl,(most : Int),rfl,by lia,by lia,for_range (n:=(most : Int).toNat) (fun k σ H' => ∃ (Ra : Addr) (r7 r8 r9 : Option V),σ = [some (.ref C),some (.ref S),some (.int (most : Nat)),some (.int F),some (.ref Ra),some (.ref O),some (.ref d),r7,r8,r9]∧Same H2 H'∧H' d = some (.dT kvs)∧RwAt H H' (fun a => ∃ p∈os,a = ls p) Ra nn (k + 1) X∧H Ra = none∧(∀ p∈os,ls p≠Ra)∧∀ p∈os,H' (ls p) = some (.lst ((seqL (ser X p) k).map V.int))) ?_ ?_ ?_⟩
  · exact ⟨D0,_,_,_,rfl,e4,pr.at_,r4,hD0,nD0,hem4⟩
  · rintro k σ H5 hk ⟨Ra,r7,r8,r9,rfl,e5,hd5,r5,hRa,nRa,pl5⟩
    have hkm : k < most := by lia
    have hk0 : (0 : Int) + (k : Nat) = (k : Nat) := by lia
    rw [hk0]
    refine ⟨_,rfl,O,rfl,⟨_,SqL.of (e5 _ _ hO2)⟩,for_list (xs:=ov) (fun i σ H' => ∃ (r7 r9 : Option V),σ = [some (.ref C),some (.ref S),some (.int (most : Nat)),some (.int F),some (.ref Ra),some (.ref O),some (.ref d),r7,some (.int (k : Nat)),r9]∧Same H2 H'∧H' d = some (.dT kvs)∧RwAt H H' (fun a => ∃ p∈os,a = ls p) Ra nn (k + 1) X∧∀ p∈os,H' (ls p) = some (.lst ((seqL (ser X p) (if p∈os.take i then k + 1 else k)).map V.int))) ?_ ?_ ?_ ?_⟩
    · exact ⟨_,_,rfl,e5,hd5,r5,fun p hp => by rw [if_neg (by simp)]; exact pl5 p hp⟩
    · rintro i σ H' _ ⟨r7,r9,rfl,e,_⟩
      exact SqL.of (e _ _ hO2)
    · rintro i x σ H6 hx ⟨r7,r9,rfl,e6,hd6,r6,pl6⟩
      have hi : i < os.length := by rw [← hLl]; exact (List.getElem?_eq_some_iff.mp hx).1
      have hp : os[i]? = some os[i] := by simp [hi]
      obtain ⟨a,k1,k2⟩:=hLo i _ hp
      have hnt:=nd_take ord.nd hp
      have hpm:=List.mem_of_getElem? hp
      generalize os[i] = p at hp k2 hnt hpm
      rw [hx] at k1
      cases k1
      have hpo:=ord.ok p hpm
      have l6:=pl6 p hpm
      rw [if_neg hnt] at l6
      have hg : DGet H6 d (.ref a) (some (.ref (ls p))) := by
        have:=DGet.t (k:=lwI p) hd6 (by rw [kV_ints]; exact e6 _ _ k2)
        rw [pr.val p hpm] at this
        exact this
      obtain ⟨rvs,q1,q2,q3⟩:=r6
      refine ⟨_,rfl,_,rfl,d,.ref (ls p),rfl,hg,.inl ⟨rfl,_,SqL.of l6⟩,_,rfl,_,rfl,_,rfl,_,rfl,d,Ra,a,k,k + 1,k + 1,nn,m,X,p,kvs,rvs,rfl,q1,fun u hu => ?_,by lia,e6 _ _ k2,hpo,nn4,hd6,fun h0 => ?_,by lia,fun u j hu hj => hxs u j hu (by lia),fun h0 j hj => hser _ (hpo.low h0) j (by lia),by lia,fun H7 e7 => ?_⟩
      · obtain ⟨a,j1,j2,_⟩:=q3 u hu
        exact ⟨a,j1,j2⟩
      · have hlo:=idx_low ord hp h0
        have hlm:=ord.low p hpm h0
        refine ⟨ls (lessP p (fu p)),pr.val _ hlm,?_,by lia⟩
        have:=pl6 _ hlm
        rw [if_pos hlo] at this
        exact this
      refine ⟨ls p,_,_,rfl,rfl,e7 _ _ l6,sz60 (n:=60) (by rw [List.length_map,seq_len]; lia) (by decide),?_⟩
      refine ⟨_,_,rfl,fun b o z => ?_,?_,⟨rvs,?_,q2,fun u hu => ?_⟩,fun z hz => ?_⟩
      · rw [upd_ne (ne_of_none z (nlsD p hpm))]; exact e7 _ _ (e6 _ _ z)
      · rw [upd_ne (Ne.symm (pr.new p hpm).2)]; exact e7 _ _ hd6
      · rw [upd_ne (Ne.symm (nRa p hpm))]; exact e7 _ _ q1
      · obtain ⟨b,j1,j2,j3,j4⟩:=q3 u hu
        exact ⟨b,j1,by rw [upd_ne (fun z => j4 ⟨p,hpm,z⟩)]; exact e7 _ _ j2,j3,j4⟩
      · by_cases y : z = p
        · subst y
          rw [upd_same,if_pos ((mem_take_succ hp).mpr (.inr rfl)),seq_snoc,List.map_append]; rfl
        · have h9:=e7 _ _ (pl6 z hz)
          rw [upd_ne (fun w => y (pr.inj z hz p hpm w))]
          by_cases h : z∈os.take i
          · rw [if_pos h] at h9
            rw [if_pos ((mem_take_succ hp).mpr (.inl h))]
            exact h9
          · rw [if_neg h] at h9
            rw [if_neg fun h' => h (((mem_take_succ hp).mp h').resolve_right y)]
            exact h9
    rintro σ H6 ⟨r7,r9,rfl,e6,hd6,r6,pl6⟩
    rw [hLl,List.take_length] at pl6
    have pl6 : ∀ p∈os,H6 (ls p) = some (.lst ((seqL (ser X p) (k + 1)).map V.int)):=fun p hp => by
      have:=pl6 p hp
      rw [if_pos hp] at this
      exact this
    refine ⟨_,rfl,C,rfl,⟨_,SqL.of (e6 _ _ (E2 _ _ hC))⟩,fun D1 hD1 => comp_by (n:=cs.length) (fun i ys H' => Same H6 H'∧ys = ((uss.take i).map fun us => spd X us k).map V.int) ⟨same_new hD1 _,rfl⟩ ?_ ?_⟩
    · rintro i ys H7 hi ⟨e7,rfl⟩ hD7
      have E7:=e6.trans e7
      have hu : uss[i]? = some (uss[i]'(by lia)):=List.getElem?_eq_getElem _
      obtain ⟨a,xs,k1,k2,k3⟩:=chg_get dc hu
      have hmem:=List.mem_of_getElem? hu
      generalize uss[i]'(by lia) = us at hu k3 hmem
      refine ⟨⟨cs,.ref a,SqL.of (E7 _ _ (E2 _ _ hC)),k1⟩,sz60 (n:=60) (by rw [List.length_map,List.length_map,List.length_take]; lia) (by decide),fun x H' y => ?_⟩
      obtain ⟨rfl,y⟩:=y
      have hx:=y cs (SqL.of (E7 _ _ (E2 _ _ hC)))
      rw [k1] at hx
      cases hx
      unfold tNoIf
      refine iteT ⟨_,rfl,_,rfl,_,rfl,a,d,xs,us,kvs,X,k,k + 1,m,rfl,E7 _ _ (E2 _ _ k2),k3.same (E2.trans E7),hfew us hmem,e7 _ _ hd6,fun z hz => ⟨⟨ls z.1,pr.val _ (ord.has us hmem z hz),e7 _ _ (pl6 _ (ord.has us hmem z hz))⟩,hnum us hmem z hz,hser _ (hpw us hmem z hz) k hkm⟩,by lia,by lia,fun H8 e8 => ?_⟩
      refine ⟨e8 _ _ hD7,cw_next hi ⟨fun b o z => ?_,?_⟩⟩
      · rw [upd_ne (ne_of_none z hD1)]; exact e8 _ _ (e7 _ _ z)
      · rw [List.take_add_one,hu,List.map_append,List.map_append]; rfl
    rintro ys H7 ⟨e7,rfl⟩ hD7
    rw [hcl,List.take_length] at hD7
    have E7:=e6.trans e7
    refine ⟨⟨cs,SqL.of (E7 _ _ (E2 _ _ hC)),Nat.le_refl _⟩,?_⟩
    obtain ⟨rvs,q1,q2,q3⟩:=r6
    refine ⟨_,rfl,_,rfl,false,false,Ra,D1,rfl,⟨_,e7 _ _ q1⟩,⟨_,hD7⟩,fun D2 hD2 => comp_by2 (n:=nn) (RwMk H H7 (fun a => ∃ p∈os,a = ls p) D2 (k + 2) X) ⟨same_new hD2 _,rfl,fun u hu => absurd hu (by lia)⟩ ?_ ?_⟩
    · rintro i ys H8 hi ⟨e8,hyl,hy⟩ hD8
      obtain ⟨ra,j1,j2,j3,j4⟩:=q3 i hi
      have hu : uss[i]? = some (uss[i]'(by lia)):=List.getElem?_eq_getElem _
      have hsp : ((uss.map fun us => spd X us k).map V.int)[i]? = some (.int (spd X (uss[i]'(by lia)) k)) := by rw [List.getElem?_map,List.getElem?_map,hu]; rfl
      have hmem:=List.mem_of_getElem? hu
      have hgs : X i (k + 1) = spd X (uss[i]'(by lia)) k * F.fdiv ((k : Int) + 1) := by
        rw [← hX,grow_succ,List.getD_eq_getElem?_getD,hu]; rfl
      generalize uss[i]'(by lia) = us at hu hsp hmem hgs
      refine ⟨⟨_,_,_,_,e8 _ _ (e7 _ _ q1),e8 _ _ hD7,j1,hsp⟩,sz60 (n:=60) (by lia) (by decide),fun v H' y => ?_⟩
      obtain ⟨p,x,z,rfl,np,rfl,k1,k2⟩:=y
      have hx':=k1 _ (e8 _ _ (e7 _ _ q1))
      have hy':=k2 _ (e8 _ _ hD7)
      rw [j1] at hx'
      rw [hsp] at hy'
      cases hx'
      cases hy'
      have ep:=same_new np (.tup [.ref ra,.int (spd X us k)])
      refine ⟨p,_,_,rfl,SqT.of upd_same,?_⟩
      unfold tNoIf
      have hdv : (F.fdiv ((k : Int) + 1)).natAbs < 2 ^ m:=Nat.lt_of_le_of_lt (FM.natAbs_fdiv_le' _ _) hF
      refine iteT ⟨_,rfl,_,rfl,_,rfl,_,rfl,_,_,rfl,rfl,_,_,rfl,rfl,⟨by lia,5,by decide,by show ((k : Int) + 1).natAbs < 32; lia⟩,_,_,rfl,rfl,mulW (hspd us hmem k hkm) hdv (by lia),sz60' (show 1≤60 by decide),fun t ht => ?_⟩
      generalize hH : upd (upd H8 p _) t _ = H9
      have e9 : Same H8 H9 := by rw [← hH]; exact ep.trans (same_new ht _)
      have ht9 : H9 t = some (.lst [V.int (spd X us k * F.fdiv ((k : Int) + 1))]) := by rw [← hH]; exact upd_same
      clear hH
      refine ⟨ra,t,_,_,rfl,rfl,e9 _ _ (e8 _ _ (e7 _ _ j2)),ht9,sz60' (by rw [List.length_map,seq_len,List.length_singleton]; lia),fun b hb => ?_⟩
      have eb:=same_new hb (.lst ((seqL (X i) (k + 1)).map V.int ++ [V.int (spd X us k * F.fdiv ((k : Int) + 1))]))
      have hD9:=e9 _ _ hD8
      have nbD : b≠D2:=fun z => by subst z; rw [hD9] at hb; cases hb
      have nb7 : H7 b = none:=nback (e8.trans e9) hb
      refine ⟨eb _ _ hD9,cw_next hi (rwMk_step hD2 (e8.trans (e9.trans eb)) (eb _ _ hD9) hyl (fun u hu => ?_) ?_ (nback (E2.trans E7) nb7) ?_ nbD)⟩
      · obtain ⟨a,w1,w2,w3⟩:=hy u hu
        exact ⟨a,w1,eb _ _ (e9 _ _ w2),w3⟩
      · rw [upd_same,seq_snoc (X i) (k + 1),hgs,List.map_append]; rfl
      · rintro ⟨p,hp,rfl⟩
        rw [e7 _ _ (pl6 p hp)] at nb7; cases nb7
    rintro ys H8 mk hD8
    have e8:=mk.1
    have hq2 : rvs.length = nn:=q2
    refine ⟨⟨_,_,e8 _ _ (e7 _ _ q1),e8 _ _ hD7,.inl hq2.symm⟩,D2,_,_,_,rfl,E7.trans e8,e8 _ _ (e7 _ _ hd6),rwMk_end mk hD8,nback (E2.trans E7) hD2,fun p hp z => ?_,fun p hp => e8 _ _ (e7 _ _ (pl6 p hp))⟩
    rw [← z,e7 _ _ (pl6 p hp)] at hD2; cases hD2
  · rintro σ H5 ⟨Ra,r7,r8,r9,rfl,e5,hd5,r5,hRa,nRa,pl5⟩
    refine ⟨_,rfl,q Ra H5 (E2.trans e5) hRa ?_⟩
    obtain ⟨rvs,k1,k2,k3⟩:=r5
    rw [show (most : Int).toNat = most by lia] at k3
    exact ⟨rvs,k1,k2,fun u hu => let ⟨a,j1,j2,j3,_⟩:=k3 u hu; ⟨a,j1,j2,j3,fun z => z⟩⟩
end
mutual
theorem du_DU {H : Hp} : ∀ {d : PyData} {v : V},d.canLay0 = true→Du H d v→DU H d v
  | .none,_,_,h => by rw [Du] at h; subst h; exact .non
  | .bool _,_,_,h => by rw [Du] at h; subst h; exact .bool
  | .int _,_,_,h => by rw [Du] at h; subst h; exact .int
  | .str _,_,_,h => by rw [Du] at h; subst h; exact .str
  | .tuple _,_,c,h => by
    rw [Du] at h
    obtain ⟨a,xs,rfl,h1,h2⟩:=h
    exact .tup h1 (duA_DUs (by simpa only [PyData.canLay0] using c) h2)
  | .list _,_,c,h => by
    rw [Du] at h
    obtain ⟨a,xs,rfl,h1,h2⟩:=h
    exact .lst h1 (duA_DUs (by simpa only [PyData.canLay0] using c) h2)
  | .dict _,_,c,h => by simp [PyData.canLay0] at c
theorem duA_DUs {H : Hp} : ∀ {ds : List PyData} {xs : List V},PyData.canLayAll0 ds = true→DuA H ds xs→DUs H ds xs
  | [],_,_,h => by rw [h.nil_eq]; exact .nil
  | _ :: _,_,c,h => by
    obtain ⟨x,r,rfl,h1,h2⟩:=h.un
    simp only [PyData.canLayAll0,Bool.and_eq_true] at c
    exact .cons (du_DU c.1 h1) (duA_DUs c.2 h2)
end
mutual
theorem dt_Du {l : Addr} {H : Hp} : ∀ {d : PyData} {v : V},Dt l H d v→Du H d v
  | .none,_,h => by rw [Dt] at h; rw [Du]; exact h
  | .bool _,_,h => by rw [Dt] at h; rw [Du]; exact h
  | .int _,_,h => by rw [Dt] at h; rw [Du]; exact h
  | .str _,_,h => by rw [Dt] at h; rw [Du]; exact h
  | .tuple _,_,h => by
    rw [Dt] at h; rw [Du]
    obtain ⟨a,xs,rfl,n,h1,h2⟩:=h
    exact ⟨a,xs,rfl,h1,dtA_DuA h2⟩
  | .list _,_,h => by
    rw [Dt] at h; rw [Du]
    obtain ⟨a,xs,rfl,n,h1,h2⟩:=h
    exact ⟨a,xs,rfl,h1,dtA_DuA h2⟩
  | .dict _,_,h => by rw [Dt] at h; exact h.elim
theorem dtA_DuA {l : Addr} {H : Hp} : ∀ {ds : List PyData} {xs : List V},DtAll l H ds xs→DuA H ds xs
  | [],_,h => by rw [DtAll] at h; subst h; exact .nil
  | _ :: _,_,h => by
    rw [DtAll] at h
    obtain ⟨x,r,rfl,h1,h2⟩:=h
    exact .cons (dt_Du h1) (dtA_DuA h2)
end
theorem DU.du {H : Hp} {d : PyData} {v : V} (h : DU H d v) : Du H d v:=let ⟨N,k⟩:=h; dt_Du (k N (Nat.le_refl _))
theorem tellT {G H H' : Hp} {l : Addr} {vs : List V} {ds : List PyData} (e0 : Same G H) (e : Same H H') (hl : H' l = some (.tup vs)) (d : DuA G ds vs) : ∃ G',Same G G'∧Nw G H G'∧Same G' H'∧Du G' (.tuple ds) (.ref l) := by
  have e1 : Same G (upd G l (.tup vs)):=fun a o h => by
    by_cases ha : a = l
    · subst ha
      have:=e _ _ (e0 _ _ h)
      rw [hl] at this; rw [upd_same]; exact this
    · rw [upd_ne ha]; exact h
  refine ⟨upd G l (.tup vs),e1,fun a u h => ?_,fun a u h => ?_,?_⟩
  · by_cases ha : a = l
    · subst ha; rw [upd_same] at h; cases h; exact .inr (.inr ⟨_,rfl⟩)
    · rw [upd_ne ha] at h; exact .inl h
  · by_cases ha : a = l
    · subst ha; rw [upd_same] at h; rw [hl]; exact h
    · rw [upd_ne ha] at h; exact e _ _ (e0 _ _ h)
  · rw [Du]; exact ⟨l,vs,rfl,upd_same,d.same e1⟩
theorem duA_ints {G : Hp} : ∀ ps : List Int,DuA G (ps.map .int) (ps.map V.int)
  | [] => .nil
  | p :: ps => .cons (by rw [Du]) (duA_ints ps)
theorem can_ints : ∀ ps : List Int,PyData.canLayAll0 (ps.map .int) = true
  | [] => by simp [PyData.canLayAll0]
  | p :: ps => by rw [List.map_cons]; simp only [PyData.canLayAll0,PyData.canLay0]; rw [can_ints ps]; rfl
theorem canAll_of {ds : List PyData} (h : ∀ d∈ds,d.canLay0 = true) : PyData.canLayAll0 ds = true := by
  induction ds with
  | nil => simp [PyData.canLayAll0]
  | cons d ds ih => simp only [PyData.canLayAll0]; rw [h d (.head _),ih fun e he => h e (.tail _ he)]; rfl
theorem can_l {ds : List PyData} (h : ∀ d∈ds,d.canLay0 = true) : (PyData.list ds).canLay0 = true := by simp only [PyData.canLay0]; exact canAll_of h
theorem can_t {ds : List PyData} (h : ∀ d∈ds,d.canLay0 = true) : (PyData.tuple ds).canLay0 = true := by simp only [PyData.canLay0]; exact canAll_of h
def newG (G H H' : Hp) : Hp:=fun b => match H' b with
  | some (.tup xs) => some (.tup xs)
  | some o => if H b = none then some o else G b
  | none => none
theorem newG_t {G H H' : Hp} {a : Addr} {xs : List V} (h : H' a = some (.tup xs)) : newG G H H' a = some (.tup xs) := by unfold newG; rw [h]
theorem newG_l {G H H' : Hp} {a : Addr} {xs : List V} (h : H' a = some (.lst xs)) (h0 : H a = none) : newG G H H' a = some (.lst xs) := by unfold newG; rw [h]; exact if_pos h0
theorem newG_ok {G H H' : Hp} (e0 : Same G H) (e : Same H H') : Same G (newG G H H')∧Nw G H (newG G H H')∧Same (newG G H H') H' := by
  refine ⟨fun a o h => ?_,fun a o h => ?_,fun a o h => ?_⟩
  · have h1:=e0 _ _ h
    have h2:=e _ _ h1
    unfold newG
    rw [h2]
    cases o with
    | tup xs => rfl
    | _ => simp only [h1]; exact h
  · unfold newG at h
    split at h
    · cases h; exact .inr (.inr ⟨_,rfl⟩)
    · split at h
      · rename_i z; exact .inr (.inl z)
      · exact .inl h
    · cases h
  · unfold newG at h
    cases z : H' a with
    | none => rw [z] at h; cases h
    | some u =>
      rw [z] at h
      cases u with
      | tup xs => exact h
      | _ =>
        simp only at h
        split at h
        · exact h
        · rw [← z]; exact e _ _ (e0 _ _ h)
theorem fracs_newG {G H H' : Hp} : ∀ {qs : List Rat} {xs : List V},DUs H' (fracsD qs) xs→DuA (newG G H H') (fracsD qs) xs
  | [],xs,h => by
    have:=h.len
    have e : xs = []:=List.eq_nil_of_length_eq_zero (by simpa [fracsD] using this)
    rw [e]; exact .nil
  | q :: qs,xs,h => by
    obtain ⟨x,r,rfl,h1,h2⟩:=DUs.unC (d:=ratD q) (ds:=fracsD qs) h
    obtain ⟨p,rfl,hp⟩:=h1.rat
    refine .cons ?_ (fracs_newG h2)
    unfold ratD
    rw [Du]
    exact ⟨p,_,rfl,newG_t hp,duA_ints [q.num,(q.den : Int)]⟩
def prodTo : Nat→Int
  | 0 => 1
  | n + 1 => prodTo n * ((n : Int) + 1)
def seqQ (f : Nat→Rat) (n : Nat) : List Rat:=(List.range n).map f
theorem seqQ_snoc (f : Nat→Rat) (n : Nat) : seqQ f (n + 1) = seqQ f n ++ [f n] := by unfold seqQ; rw [List.range_succ,List.map_append]; rfl
theorem seqQ_len (f : Nat→Rat) (n : Nat) : (seqQ f n).length = n := by unfold seqQ; simp
def spPUT : Sp:=fun vs H Q _ => ∃ (n : Nat),vs = [.int (n : Nat)]∧n≤20∧Q (.int (prodTo n)) H
theorem prodTo_nb : ∀ n,n≤20→1≤prodTo n∧(prodTo n).natAbs < 2 ^ 100 := by decide +kernel
def spWS : Sp:=fun vs H Q _ => ∃ (a : Addr) (xs : List V) (rs : List Rat) (B : Int) (n m : Nat),vs = [.ref a,.int B]∧H a = some (.lst xs)∧DUs H (fracsD rs) xs∧rs.length≤50∧(∀ r∈rs,FM.Fits r n)∧B.natAbs < 2 ^ m∧n + m≤4000 ∧
  ∀ D H' zs,Same H H'→H D = none→H' D = some (.lst zs)→DUs H' ((topsL rs B).map whD) zs→Q (.ref D) H'
def rowF (f : Nat→Int) (pace g : Int) (k : Nat) : Rat:=Rat.divInt (f k) (g * pace ^ k)
def spROF : Sp:=fun vs H Q _ => ∃ (a : Addr) (f : Nat→Int) (n : Nat) (pace g : Int) (b : Nat),vs = [.ref a,.int pace,.int g]∧H a = some (.lst ((seqL f n).map V.int))∧n≤20∧pace≠0∧g≠0∧g.natAbs < 2 ^ b∧pace.natAbs < 2 ^ b∧b≤400 ∧
  ∀ D H' zs,Same H H'→H D = none→H' D = some (.lst zs)→DUs H' (fracsD (seqQ (rowF f pace g) n)) zs→Q (.ref D) H'
def spRTM : Sp:=fun vs H Q _ => ∃ n : Nat,vs = [.int (n : Nat)]∧n≤7∧Q .non H
theorem pow_nz {b : Int} (h : b≠0) (n : Nat) : b ^ n≠0 := by
  induction n with
  | zero => simp
  | succ n ih => rw [Int.pow_succ]; exact Int.mul_ne_zero ih h
theorem bot_nb {g pace : Int} {b k n : Nat} (h1 : g.natAbs < 2 ^ b) (h2 : pace.natAbs < 2 ^ b) (hk : k≤n) : (g * pace ^ k).natAbs < 2 ^ (b + (b * n + 1)):=FM.nb_mul h1 (pow_nb h2 hk)
section
variable {P : Program} {w : World} {K : PySem.W.Frag} {mg : Str→Option Value} {base : Heap} {f g : Addr} {fd gd : FuncData}
theorem sc_product_up_to : FnScope ["many", "product", "factor"] ["many"] (defScope s_product_up_to):=⟨rfl,rfl,rfl,by decide +kernel,rfl,by decide +kernel,by decide +kernel⟩
theorem ok_product_up_to (F : Fn K mg "product_up_to" s_product_up_to ["many"] f fd) (z_range : mg "range" = none) : FnOk P w K mg base CX0 1 f fd ["many"] spPUT := by
  have sc:=sc_product_up_to
  refine F.F.ok (k:=0) sc (fun vs H Q E h => ?_) (fun cdv A outer s H vs Q E hr h => ?_)
  · obtain ⟨n,rfl,_⟩:=h
    rfl
  obtain ⟨n,rfl,hn,q⟩:=h
  refine ⟨_,(pss_cons (ps_set (i:=1) sc.nd rfl (Or.inl rfl) pe_int)
  (pss_cons (ps_for PassesOwn.never rfl (pi_range2 rfl z_range (pa_cons pe_int (pa_cons (pe_op op_add (pv 0) pe_int) pa_nil))) (pg_name (i:=2) sc.nd rfl (Or.inl rfl))
    (pss_one (ps_set (i:=1) sc.nd rfl (Or.inl rfl) (pe_op op_mulW (pv 1) (pv 2)))))
  (pss_one (ps_ret (pv 1))))),?_⟩
  refine ⟨_,rfl,_,_,rfl,rfl,2,(n : Int) + 1,rfl,⟨by decide,by decide,by lia,by lia⟩,for_range (lo:=2) (n:=((n : Int) + 1 - 2).toNat) (fun i σ H' => ∃ (r2 : Option V),σ = [some (.int (n : Nat)),some (.int (prodTo (i + 1))),r2]∧H = H') ⟨_,rfl,rfl⟩ ?_ ?_⟩
  · rintro i σ H' hi ⟨r2,rfl,rfl⟩
    have h5 : ((2 : Int) + (i : Nat)).natAbs < 2 ^ 100:=Nat.lt_of_le_of_lt (show ((2 : Int) + (i : Nat)).natAbs≤32 by lia) (by decide)
    refine ⟨_,rfl,_,rfl,_,_,rfl,rfl,mulW (prodTo_nb (i + 1) (by lia)).2 h5 (by decide),some (.int (2 + (i : Nat))),?_,rfl⟩
    show [_,some (V.int (prodTo (i + 1) * (2 + (i : Nat)))),_] = [_,some (V.int (prodTo (i + 1) * (((i + 1 : Nat) : Int) + 1))),_]
    rw [show (2 : Int) + (i : Nat) = ((i + 1 : Nat) : Int) + 1 by lia]
  · rintro σ H' ⟨r2,rfl,rfl⟩
    refine ⟨_,rfl,?_⟩
    show Q (V.int (prodTo _)) _
    cases n with
    | zero => exact q
    | succ n =>
      rw [show (((n + 1 : Nat) : Int) + 1 - 2).toNat = n by lia]
      exact q
theorem sc_whole_start : FnScope ["start", "grain"] ["start", "grain"] (defScope s_whole_start):=⟨rfl,rfl,rfl,by decide +kernel,rfl,by decide +kernel,by decide +kernel⟩
theorem ok_whole_start (F : Fn K mg "whole_start" s_whole_start ["start", "grain"] f fd) (T_tops_over : Fn K mg "tops_over" s_tops_over ["some", "bottom"] g gd) (G_tops_over : FnOk P w K mg base CX0 1 g gd ["some", "bottom"] spTops) : FnOk P w K mg base CX0 2 f fd ["start", "grain"] spWS := by
  have sc:=sc_whole_start
  refine F.F.ok (k:=1) sc (fun vs H Q E h => ?_) (fun cdv A outer s H vs Q E hr h => ?_)
  · obtain ⟨a,xs,rs,B,n,m,rfl,_⟩:=h
    rfl
  obtain ⟨a,xs,rs,B,n,m,rfl,ha,dx,h50,hf,hB,hm,q⟩:=h
  refine ⟨_,(pss_one (ps_ret (pe_compr [".0", "top"] 1 [none,none] (pi_list (pe_fn T_tops_over G_tops_over hr rfl (pa_cons (pv 0) (pa_cons (pv 1) pa_nil)))) (fun _ _ _ _ _ => pif_nil) (fun _ _ _ _ _ => (pe_tup (pa_cons (pv 1) (pa_cons pe_int pa_nil))))))),?_⟩
  refine ⟨_,rfl,_,rfl,a,xs,rs,B,n,m,rfl,ha,dx,h50,hf,hB,hm,fun T H1 e1 hT hT1 => ?_⟩
  have htl : (topsL rs B).length = rs.length := by unfold topsL; simp
  refine ⟨T,rfl,⟨_,SqL.of hT1⟩,fun D hD => comp_by (n:=(topsL rs B).length) (fun i ys H' => Same H1 H'∧ys.length = i∧DtAll D H' (((topsL rs B).take i).map whD) ys) ⟨same_new hD _,rfl,.nil⟩ ?_ ?_⟩
  · rintro i ys H2 hi ⟨e2,hyl,dy⟩ hD2
    have hx : (topsL rs B)[i]? = some ((topsL rs B)[i]'hi):=List.getElem?_eq_getElem _
    have hv : ((topsL rs B).map V.int)[i]? = some (.int ((topsL rs B)[i]'hi)) := by rw [List.getElem?_map,hx]; rfl
    generalize (topsL rs B)[i]'hi = t at hx hv
    refine ⟨⟨_,_,SqL.of (e2 _ _ hT1),hv⟩,sz60 (n:=60) (by lia) (by decide),fun x H' y => ?_⟩
    obtain ⟨rfl,y⟩:=y
    have hx':=y _ (SqL.of (e2 _ _ hT1))
    rw [hv] at hx'
    cases hx'
    unfold tNoIf
    refine iteT ⟨_,rfl,sz60' (show 2≤60 by decide),fun p hp => ?_⟩
    have ep:=same_new hp (.tup [V.int t,V.int 1])
    have npD : p≠D:=fun z => by subst z; rw [hD2] at hp; cases hp
    refine ⟨ep _ _ hD2,cw_next hi ⟨fun b o z => ?_,by simp [hyl],?_⟩⟩
    · rw [upd_ne (ne_of_none z hD)]; exact ep _ _ (e2 _ _ z)
    · rw [List.take_add_one,hx,List.map_append]
      exact .but .upd ((dy.same ep).app (.cons (.tup npD upd_same (.cons .int (.cons .int .nil))) .nil))
  · rintro ys H2 ⟨e2,hyl,dy⟩ hD2
    rw [List.take_length] at dy
    exact ⟨⟨_,SqL.of (e2 _ _ hT1),by rw [List.length_map]; exact Nat.le_refl _⟩,q D H2 ys (e1.trans e2) (nback e1 hD) hD2 (dtAll_du dy)⟩
theorem sc_row_of_fractions : FnScope ["row", "pace", "grain", "fractions", "bottom", "number"] ["row", "pace", "grain"] (defScope s_row_of_fractions):=⟨rfl,rfl,rfl,by decide +kernel,rfl,by decide +kernel,by decide +kernel⟩
theorem ok_row_of_fractions (F : Fn K mg "row_of_fractions" s_row_of_fractions ["row", "pace", "grain"] f fd) (T_fraction_of : Fn K mg "fraction_of" s_fraction_of ["top", "bottom"] g gd) (G_fraction_of : FnOk P w K mg base CX0 2 g gd ["top", "bottom"] spFr) : FnOk P w K mg base CX0 3 f fd ["row", "pace", "grain"] spROF := by
  have sc:=sc_row_of_fractions
  refine F.F.ok (k:=2) sc (fun vs H Q E h => ?_) (fun cdv A outer s H vs Q E hr h => ?_)
  · obtain ⟨a,f,n,pace,g,b,rfl,_⟩:=h
    rfl
  obtain ⟨a,f,n,pace,g,b,rfl,ha,hn,hp0,hg0,hgb,hpb,hb,q⟩:=h
  refine ⟨_,(pss_cons (ps_set (i:=3) sc.nd rfl (Or.inl rfl) (pe_lst pa_nil))
  (pss_cons (ps_set (i:=4) sc.nd rfl (Or.inl rfl) (pv 2))
  (pss_cons (ps_for PassesOwn.never rfl (pi_list (pv 0)) (pg_name (i:=5) sc.nd rfl (Or.inl rfl))
    (pss_cons (ps_expr (pe_bm PySem.F.plainAttrs_list PySem.F.slot_list_append PySem.F.type_list_append mt_append (pv 3) (pa_cons (pe_fn T_fraction_of G_fraction_of hr rfl (pa_cons (pv 5) (pa_cons (pv 4) pa_nil))) pa_nil)))
    (pss_one (ps_set (i:=4) sc.nd rfl (Or.inl rfl) (pe_op op_mulW (pv 4) (pv 1))))))
  (pss_one (ps_ret (pv 3)))))),?_⟩
  refine ⟨sz60' (show 0≤60 by decide),fun D hD => ?_⟩
  have e1:=same_new hD (.lst [])
  have hD1 : upd H D (.lst []) D = some (.lst []):=upd_same
  generalize upd H D (.lst []) = H1 at e1 hD1
  have hbn : b * 20≤8000 := by lia
  refine ⟨_,rfl,_,rfl,a,rfl,⟨_,SqL.of (e1 _ _ ha)⟩,for_list (xs:=(seqL f n).map V.int) (fun i σ H' => ∃ (r5 : Option V) (zs : List V),σ = [some (.ref a),some (.int pace),some (.int g),some (.ref D),some (.int (g * pace ^ i)),r5]∧Same H H'∧H' D = some (.lst zs)∧DUs H' (fracsD (seqQ (rowF f pace g) i)) zs) ?_ ?_ ?_ ?_⟩
  · exact ⟨_,[],by simp; rfl,e1,hD1,.nil⟩
  · rintro i σ H' _ ⟨r5,zs,rfl,e,_⟩
    exact SqL.of (e _ _ ha)
  · rintro i x σ H2 hx ⟨r5,zs,rfl,e2,hD2,dz⟩
    have hi : i < n := by have:=(List.getElem?_eq_some_iff.mp hx).1; rw [List.length_map,seq_len] at this; exact this
    have hxi : x = .int (f i) := by
      unfold seqL at hx
      simp [hi] at hx
      exact hx.symm
    subst hxi
    have hzl : zs.length = i := by rw [dz.len]; unfold fracsD; rw [List.length_map,seqQ_len]
    have nb : (g * pace ^ i).natAbs < 2 ^ (b + (b * 20 + 1)) := bot_nb hgb hpb (by lia)
    refine ⟨_,rfl,.inl ⟨rfl,_,SqL.of hD2⟩,_,rfl,_,rfl,f i,g * pace ^ i,b + (b * 20 + 1),rfl,Int.mul_ne_zero hg0 (pow_nz hp0 i),by lia,nb,fun l H3 e3 hl => ?_⟩
    have hD3:=e3 _ _ hD2
    refine ⟨D,zs,_,rfl,rfl,hD3,sz60 (n:=60) (by lia) (by decide),?_⟩
    refine ⟨_,rfl,_,rfl,_,_,rfl,rfl,mulW nb hpb (by lia),some (.int (f i)),zs ++ [.ref l],?_,fun b o z => ?_,upd_same,?_⟩
    · show [_,_,_,_,some (V.int (g * pace ^ i * pace)),_] = [_,_,_,_,some (V.int (g * pace ^ (i + 1))),_]
      rw [Int.pow_succ,Int.mul_assoc]
    · rw [upd_ne (ne_of_none z hD)]; exact e3 _ _ (e2 _ _ z)
    · have dn : DUs H3 (fracsD (seqQ (rowF f pace g) (i + 1))) (zs ++ [.ref l]) := by
        rw [seqQ_snoc]
        unfold fracsD
        rw [List.map_append]
        exact (dz.same e3).app (.cons (.tup hl (.cons .int (.cons .int .nil))) .nil)
      exact dtAll_du (.but .upd (fracs_at hD3 dn))
  · rintro σ H2 ⟨r5,zs,rfl,e2,hD2,dz⟩
    rw [List.length_map,seq_len] at dz
    exact ⟨_,rfl,q D H2 zs e2 hD hD2 dz⟩
theorem sc_refuse_too_many : FnScope ["most"] ["most"] (defScope s_refuse_too_many):=⟨rfl,rfl,rfl,by decide +kernel,rfl,by decide +kernel,by decide +kernel⟩
theorem ok_refuse_too_many {tk : Tok} (F : Fn K mg "refuse_too_many" s_refuse_too_many ["most"] f fd) (m_MOST_POWER : mg "MOST_POWER" = some (.int 7 tk)) : FnOk P w K mg base CX0 1 f fd ["most"] spRTM := by
  have sc:=sc_refuse_too_many
  refine F.F.ok (k:=0) sc (fun vs H Q E h => ?_) (fun cdv A outer s H vs Q E hr h => ?_)
  · obtain ⟨n,rfl,_⟩:=h
    rfl
  obtain ⟨n,rfl,hn,q⟩:=h
  refine ⟨_,(pss_one (ps_if (PW.pt (pw_or (pt_cmpR op_lt (pv 0) pe_int (nomark _)) (pw_or1 (pt_cmpR op_gt (pv 0) (pe_glob (v:=.int 7) rfl m_MOST_POWER ⟨_,rfl⟩) (nomark _)))))
    (pss_one ps_never)
    pss_nil)),?_⟩
  refine ⟨_,rfl,_,_,rfl,rfl,_,rfl,ite2 (fun c => ?_) (fun _ => ⟨_,rfl,_,_,rfl,rfl,_,rfl,ite2 (fun c => ?_) (fun _ => q)⟩)⟩
  · have:=of_decide_eq_true c
    lia
  · have:=of_decide_eq_true c
    lia
end
theorem sum_nb {M : Nat} : ∀ {l : List Int},(∀ x∈l,x.natAbs≤M)→l.sum.natAbs≤l.length * M
  | [],_ => by simp
  | x :: l,h => by
    have h1:=h x (.head _)
    have h2:=sum_nb (l:=l) fun y hy => h y (.tail _ hy)
    rw [List.sum_cons,List.length_cons,Nat.succ_mul]
    have:=Int.natAbs_add_le x l.sum
    lia
theorem conv_nb {f g : Nat→Int} {k A B b : Nat} (hk : k≤7) (hf : ∀ j,j≤k→(f j).natAbs≤2 ^ (A + b * j)) (hg : ∀ j,j≤k→(g j).natAbs≤2 ^ (B + b * j)) : (conv f g k).natAbs≤2 ^ (A + B + 3 + b * k) := by
  unfold conv
  have h1 : ∀ x∈seqL (fun j => f j * g (k - j)) (k + 1),x.natAbs≤2 ^ (A + B + b * k):=fun x hx => by
    unfold seqL at hx
    obtain ⟨j,hj,rfl⟩:=List.mem_map.mp hx
    have hj : j < k + 1:=List.mem_range.mp hj
    rw [Int.natAbs_mul]
    refine Nat.le_trans (Nat.mul_le_mul (hf j (by lia)) (hg (k - j) (by lia))) ?_
    rw [← Nat.pow_add]
    refine Nat.pow_le_pow_right (by decide) ?_
    have : b * k = b * j + b * (k - j) := by rw [← Nat.mul_add]; congr 1; lia
    lia
  have h2:=sum_nb h1
  rw [seq_len] at h2
  refine Nat.le_trans h2 ?_
  rw [show A + B + 3 + b * k = 3 + (A + B + b * k) by lia,Nat.pow_add 2 3]
  exact Nat.mul_le_mul_right _ (by lia)
theorem ser_nb {X : Nat→Nat→Int} {nn k a b : Nat} (hk : k≤7) (h : ∀ u j,u < nn→j≤k→(X u j).natAbs≤2 ^ (a + b * j)) : ∀ (n : Nat) (ps : List Int),PwOk nn ps→ps.sum = (n : Int)→∀ j,j≤k→(ser X ps j).natAbs≤2 ^ ((a + 3) * n + b * j)
  | 0,ps,o,hs,j,hj => by
    rw [ser_zero (by lia)]
    split
    · exact Nat.one_le_two_pow
    · exact Nat.zero_le _
  | n + 1,ps,o,hs,j,hj => by
    have h0 : ps.sum≠0 := by lia
    obtain ⟨f1,_⟩:=fu_lt h0
    rw [ser_succ o h0]
    have:=conv_nb (A:=(a + 3) * n) (B:=a) (b := b) (k:=j) (by lia) (fun i hi => ser_nb hk h n _ (o.low h0) (by rw [sum_set _ _ f1]; lia) i (by lia)) (fun i hi => h (fu ps) i (by rw [← o.len]; exact f1) (by lia))
    rw [show (a + 3) * (n + 1) + b * j = (a + 3) * n + a + 3 + b * j by rw [Nat.mul_succ]; lia]
    exact this
theorem ser_nb3 {X : Nat→Nat→Int} {nn k a b : Nat} (hk : k≤7) (h : ∀ u j,u < nn→j≤k→(X u j).natAbs≤2 ^ (a + b * j)) {ps : List Int} (o : PwOk nn ps) : (ser X ps k).natAbs≤2 ^ (3 * (a + 3) + b * k) := by
  have h0:=sum_nonneg o.nn
  have h3:=o.s3
  refine Nat.le_trans (ser_nb hk h ps.sum.toNat ps o (by lia) k (Nat.le_refl _)) (Nat.pow_le_pow_right (by decide) ?_)
  have : (a + 3) * ps.sum.toNat≤(a + 3) * 3:=Nat.mul_le_mul_left _ (by lia)
  lia
theorem spd_nb {X : Nat→Nat→Int} {nn k a b c : Nat} (hk : k≤7) (h : ∀ u j,u < nn→j≤k→(X u j).natAbs≤2 ^ (a + b * j)) {us : List Mono} (hl : us.length≤16) (hu : ∀ z∈us,PwOk nn z.1∧z.2.num.natAbs≤2 ^ c) : (spd X us k).natAbs≤2 ^ (13 + c + 3 * a + b * k) := by
  unfold spd
  have h1 : ∀ x∈us.map fun m => m.2.num * ser X m.1 k,x.natAbs≤2 ^ (c + (3 * (a + 3) + b * k)):=fun x hx => by
    obtain ⟨z,hz,rfl⟩:=List.mem_map.mp hx
    obtain ⟨o,hc⟩:=hu z hz
    rw [Int.natAbs_mul,Nat.pow_add]
    exact Nat.mul_le_mul hc (ser_nb3 hk h o)
  have h2:=sum_nb h1
  rw [List.length_map] at h2
  refine Nat.le_trans h2 ?_
  rw [show 13 + c + 3 * a + b * k = 4 + (c + (3 * (a + 3) + b * k)) by lia,Nat.pow_add 2 4]
  exact Nat.mul_le_mul_right _ hl
theorem grow_nb {x0 : Nat→Int} {uss : List (List Mono)} {F : Int} {nn a b c f : Nat} (hl : uss.length = nn) (hx : ∀ u,u < nn→(x0 u).natAbs≤2 ^ a) (hus : ∀ us∈uss,us.length≤16∧∀ z∈us,PwOk nn z.1∧z.2.num.natAbs≤2 ^ c)
    (hF : F.natAbs≤2 ^ f) (hb : 13 + c + f + 2 * a≤b) : ∀ k,k≤8→∀ u j,u < nn→j≤k→(grow x0 uss F u j).natAbs≤2 ^ (a + b * j)
  | 0,_,u,j,hu,hj => by
    rw [Nat.le_zero.mp hj]
    exact hx u hu
  | k + 1,hk,u,j,hu,hj => by
    rcases Nat.lt_or_eq_of_le hj with h | h
    · exact grow_nb hl hx hus hF hb k (by lia) u j hu (by lia)
    · subst h
      have hum : uss.getD u []∈uss := by rw [List.getD_eq_getElem?_getD,List.getElem?_eq_getElem (show u < uss.length by lia)]; exact List.getElem_mem _
      obtain ⟨l16,hz⟩:=hus _ hum
      have h1:=spd_nb (X:=grow x0 uss F) (k:=k) (by lia) (fun u j hu hj => grow_nb hl hx hus hF hb k (by lia) u j hu hj) l16 hz
      rw [grow_succ,Int.natAbs_mul]
      refine Nat.le_trans (Nat.mul_le_mul h1 (Nat.le_trans (FM.natAbs_fdiv_le' _ _) hF)) ?_
      rw [← Nat.pow_add]
      refine Nat.pow_le_pow_right (by decide) ?_
      rw [Nat.mul_succ]
      lia
theorem pow_lt_of {x m n : Nat} (h : x≤2 ^ m) (hm : m < n) : x < 2 ^ n:=Nat.lt_of_le_of_lt h (Nat.pow_lt_pow_right (by decide) hm)
theorem wr_ok {uss : List (List Mono)} {x0 : List Int} {F : Int} {most nn a c f : Nat} (n4 : nn≤4) (hl : uss.length = nn) (hxl : x0.length = nn) (hm : most≤7) (hx : ∀ x∈x0,x.natAbs≤2 ^ a) (hus : ∀ us∈uss,us.length≤12∧∀ z∈us,PwOk nn z.1∧z.2.num.natAbs≤2 ^ c)
    (hF : F.natAbs≤2 ^ f) (hsz : 14 + c + 3 * a + 8 * (13 + c + f + 2 * a) + f≤4000) : WrOk uss x0 F most nn (14 + c + 3 * a + 8 * (13 + c + f + 2 * a) + f) := by
  have hg:=grow_nb (x0:=(x0.getD · 0)) (b:=13 + c + f + 2 * a) hl (fun u hu => by
    show (x0.getD u 0).natAbs≤_
    rw [List.getD_eq_getElem?_getD,List.getElem?_eq_getElem (show u < x0.length by lia)]
    exact hx _ (List.getElem_mem _)) (fun us hu => ⟨by have:=(hus us hu).1; lia,(hus us hu).2⟩) hF (Nat.le_refl _) 8 (Nat.le_refl _)
  have hb7 : ∀ k,k≤7→(13 + c + f + 2 * a) * k≤7 * (13 + c + f + 2 * a):=fun k hk => by rw [Nat.mul_comm]; exact Nat.mul_le_mul_right _ hk
  have h7 : ∀ k,k≤7→∀ u j,u < nn→j≤k→(grow (x0.getD · 0) uss F u j).natAbs≤2 ^ (a + (13 + c + f + 2 * a) * j):=fun k hk u j hu hj => hg u j hu (by lia)
  refine ⟨n4,hl,hxl,by lia,fun us hu => by have:=(hus us hu).1; lia,fun us hu z hz => ((hus us hu).2 z hz).1,fun us hu z hz => pow_lt_of ((hus us hu).2 z hz).2 (by lia),fun u k hu hk => pow_lt_of (hg u k hu (by lia)) ?_,fun ps o k hk => pow_lt_of (ser_nb3 (k:=k) (by lia) (h7 k (by lia)) o) ?_,fun us hu k hk => pow_lt_of (spd_nb (k:=k) (by lia) (h7 k (by lia)) (by have:=(hus us hu).1; lia) (hus us hu).2) ?_,pow_lt_of hF (by lia),hsz⟩
  · have:=hb7 k (by lia); lia
  · have:=hb7 k (by lia); lia
  · have:=hb7 k (by lia); lia
def powI : PyData→Bool
  | .int i => decide (0≤i)
  | _ => false
def powD (n : Int) : PyData→Bool
  | .tuple ds => decide ((ds.length : Int) = n) && ds.all powI
  | _ => false
def topD : PyData→Int
  | .tuple (.int a :: _) => a
  | _ => 0
def termD (n : Int) : PyData→Bool
  | .tuple [p,f] => powD n p && (isFrD f && !decide (topD f = 0))
  | _ => false
def intD : PyData→Int
  | .int i => i
  | _ => 0
def intsD : PyData→List Int
  | .tuple ds => ds.map intD
  | _ => []
def pwD : PyData→List Int
  | .tuple (p :: _) => intsD p
  | _ => []
def termAt (n : Int) (ds : List PyData) (k : Nat) : Bool:=match ds[k]? with
  | some d => termD n d && (decide (k = 0) || (match ds[k - 1]? with
    | some e => IT.lt (pwD d) (pwD e)
    | none => true))
  | none => true
def isPoD (n : Int) : PyData→Bool
  | .list ds => (List.range ds.length).all (termAt n ds)
  | _ => false
def chgD : PyData→Bool
  | .list ds => !decide (ds.length = 0) && ds.all (isPoD ds.length)
  | _ => false
theorem powD_no {n : Int} {d : PyData} (h : isTupD d = false) : powD n d = false := by cases d <;> first | rfl | exact absurd h (by simp [isTupD])
theorem termD_no {n : Int} {d : PyData} (h : isTupD d = false) : termD n d = false := by cases d <;> first | rfl | exact absurd h (by simp [isTupD])
theorem polyD_no {n : Int} {d : PyData} (h : isLstD d = false) : isPoD n d = false := by cases d <;> first | rfl | exact absurd h (by simp [isLstD])
theorem chgD_no {d : PyData} (h : isLstD d = false) : chgD d = false := by cases d <;> first | rfl | exact absurd h (by simp [isLstD])
theorem termD_len {n : Int} {ds : List PyData} (h : ds.length≠2) : termD n (.tuple ds) = false := by
  match ds,h with
  | [],_ => rfl
  | [_],_ => rfl
  | [_,_],h => exact absurd rfl h
  | _ :: _ :: _ :: _,_ => rfl
def spPw : Sp:=fun vs H Q _ => ∃ l d v n,vs = [v,.int n]∧Dt l H d v∧Q (.bl (powD n d)) H
def spTm : Sp:=fun vs H Q _ => ∃ l d v n,vs = [v,.int n]∧Dt l H d v∧Q (.bl (termD n d)) H
def spPo : Sp:=fun vs H Q _ => ∃ l d v n,vs = [v,.int n]∧Dt l H d v∧∀ H',Same H H'→Q (.bl (isPoD n d)) H'
def spChg : Sp:=fun vs H Q _ => ∃ l d v,vs = [v]∧Dt l H d v∧∀ H',Same H H'→Q (.bl (chgD d)) H'
section
variable {P : Program} {w : World} {K : PySem.W.Frag} {mg : Str→Option Value} {base : Heap} {f g1 g2 : Addr} {fd gd1 gd2 : FuncData}
theorem sc_are_powers : FnScope ["thing", "unknowns", "power"] ["thing", "unknowns"] (defScope s_are_powers):=⟨rfl,rfl,rfl,by decide +kernel,rfl,by decide +kernel,by decide +kernel⟩
theorem ok_are_powers (F : Fn K mg "are_powers" s_are_powers ["thing", "unknowns"] f fd) (T_is_whole : Fn K mg "is_whole" s_is_whole ["thing"] g1 gd1)
    (G_is_whole : FnOk P w K mg base CX0 1 g1 gd1 ["thing"] spIsWh) (z_isinstance : mg "isinstance" = none) (z_tuple : mg "tuple" = none) (z_len : mg "len" = none) : FnOk P w K mg base CX0 2 f fd ["thing", "unknowns"] spPw := by
  have sc:=sc_are_powers
  refine F.F.ok (k:=1) sc (fun vs H Q E h => ?_) (fun cdv A outer s H vs Q E hr h => ?_)
  · obtain ⟨l,d,v,n,rfl,_⟩:=h
    rfl
  obtain ⟨l,d,v,n,rfl,hd,q⟩:=h
  refine ⟨_,(pss_cons (ps_if (PW.pt (pw_or (pt_not (pt_val (pe_callB call_isi rfl z_isinstance PyProof.Rows.boot_isinstance (pa_cons (pv 0) (pa_cons (pe_bltn (v:=.ty "tuple") rfl z_tuple PyProof.Rows.boot_tuple rfl) pa_nil))))) (pw_or1 (pt_cmpR op_ne (pe_callB call_len_seq rfl z_len PySem.boot_len (pa_cons (pv 0) pa_nil)) (pv 1) (nomark _)))))
    (pss_one (ps_ret pe_bl))
    pss_nil)
  (pss_cons (ps_for PassesOwn.never rfl (pi_tup (pv 0)) (pg_name (i:=2) sc.nd rfl (Or.inl rfl))
    (pss_one (ps_if (PW.pt (pw_or (pt_not (pt_val (pe_fn T_is_whole G_is_whole hr rfl (pa_cons (pv 2) pa_nil)))) (pw_or1 (pt_cmpR op_lt (pv 2) pe_int (nomark _)))))
      (pss_one (ps_ret pe_bl))
      pss_nil)))
  (pss_one (ps_ret pe_bl)))),?_⟩
  refine ⟨_,rfl,_,_,_,_,rfl,nnt,hd.ty,kit_tupD K d hd.nodict,_,rfl,?_⟩
  by_cases hL : isTupD d = false
  · rw [hL]
    rw [powD_no hL] at q
    exact iteT (iteT q)
  have hL : isTupD d = true := by simpa using hL
  rw [hL]
  refine iteF ?_
  obtain ⟨ds,rfl⟩:=isTup_of hL
  rw [Dt] at hd
  obtain ⟨a,xs,rfl,na,ha,ht⟩:=hd
  have hlen:=ht.len
  refine ⟨_,rfl,a,xs,rfl,.inr (SqT.of ha),_,rfl,rfl,_,rfl,ite2 (fun c => ?_) (fun c => ?_)⟩
  · have hne : ¬ (ds.length : Int) = n := by
      rw [← hlen]
      intro z
      rw [z] at c
      simp at c
    rw [powD,decide_eq_false hne,Bool.false_and] at q
    exact q
  have hn : (ds.length : Int) = n := by
    rw [← hlen]
    by_cases z : (xs.length : Int) = n
    · exact z
    · exact absurd (by simp [z]) c
  rw [powD,decide_eq_true hn,Bool.true_and] at q
  refine ⟨_,rfl,a,rfl,⟨_,SqT.of ha⟩,for_tup (xs:=xs) (fun i σ H' => ∃ r1,σ = [some (.ref a),some (.int n),r1]∧H = H'∧∀ j c,j < i→ds[j]? = some c→powI c = true) ?_ ?_ ?_ ?_⟩
  · exact ⟨_,rfl,rfl,fun j c h => absurd h (Nat.not_lt_zero _)⟩
  · rintro i σ H' _ ⟨r1,rfl,rfl,_⟩
    exact SqT.of ha
  · rintro i x σ H' hx ⟨r1,rfl,rfl,hf⟩
    obtain ⟨c,hc,tc⟩:=ht.get hx
    have no : powI c = false→ds.all powI = false:=fun z => Bool.eq_false_iff.mpr fun y => by
      rw [List.all_eq_true] at y
      rw [y c (List.mem_of_getElem? hc)] at z
      cases z
    have next : powI c = true→∃ r1,[some (V.ref a),some (V.int n),some x] = [some (.ref a),some (.int n),r1]∧H = H∧∀ j c,j < i + 1→ds[j]? = some c→powI c = true:=fun hb => by
      refine ⟨_,rfl,rfl,fun j e hj he => ?_⟩
      by_cases z : j = i
      · subst z; rw [hc] at he; cases he; exact hb
      · exact hf j e (by lia) he
    refine ⟨_,rfl,l,c,x,rfl,tc,_,rfl,ite2 (fun b => ?_) (fun b => ?_)⟩
    · have : powI c = false := by cases c <;> first | rfl | (simp [isIntD,isBoolD] at b)
      rw [no this] at q
      exact iteT q
    · obtain ⟨i',rfl⟩:=whole_int (d:=c) (by simpa using b)
      rw [Dt] at tc
      subst tc
      refine ⟨_,rfl,_,_,rfl,rfl,_,rfl,ite2 (fun b => ?_) (fun b => ?_)⟩
      · have : powI (.int i') = false := by
          have:=of_decide_eq_true b
          rw [powI]; exact decide_eq_false (by lia)
        rw [no this] at q
        exact q
      · have : powI (.int i') = true := by
          have:=of_decide_eq_false (Bool.eq_false_iff.mpr b)
          rw [powI]; exact decide_eq_true (by lia)
        exact next this
  · rintro σ H' ⟨r1,rfl,rfl,hf⟩
    have e : ds.all powI = true := by
      rw [List.all_eq_true]
      intro c hc
      obtain ⟨j,hj⟩:=List.getElem?_of_mem hc
      exact hf j c (by rw [hlen]; exact (List.getElem?_eq_some_iff.mp hj).1) hj
    rw [e] at q
    exact q
theorem sc_is_term : FnScope ["thing", "unknowns"] ["thing", "unknowns"] (defScope s_is_term):=⟨rfl,rfl,rfl,by decide +kernel,rfl,by decide +kernel,by decide +kernel⟩
theorem ok_is_term (F : Fn K mg "is_term" s_is_term ["thing", "unknowns"] f fd) (T_are_powers : Fn K mg "are_powers" s_are_powers ["thing", "unknowns"] g1 gd1) (T_is_fraction : Fn K mg "is_fraction" s_is_fraction ["thing"] g2 gd2)
    (G_are_powers : FnOk P w K mg base CX0 2 g1 gd1 ["thing", "unknowns"] spPw) (G_is_fraction : FnOk P w K mg base CX0 2 g2 gd2 ["thing"] spIsFr) (z_isinstance : mg "isinstance" = none) (z_tuple : mg "tuple" = none) (z_len : mg "len" = none) : FnOk P w K mg base CX0 3 f fd ["thing", "unknowns"] spTm := by
  have sc:=sc_is_term
  refine F.F.ok (k:=2) sc (fun vs H Q E h => ?_) (fun cdv A outer s H vs Q E hr h => ?_)
  · obtain ⟨l,d,v,n,rfl,_⟩:=h
    rfl
  obtain ⟨l,d,v,n,rfl,hd,q⟩:=h
  refine ⟨_,(pss_cons (ps_if (PW.pt (pw_or (pt_not (pt_val (pe_callB call_isi rfl z_isinstance PyProof.Rows.boot_isinstance (pa_cons (pv 0) (pa_cons (pe_bltn (v:=.ty "tuple") rfl z_tuple PyProof.Rows.boot_tuple rfl) pa_nil))))) (pw_or (pt_cmpR op_ne (pe_callB call_len_seq rfl z_len PySem.boot_len (pa_cons (pv 0) pa_nil)) pe_int (nomark _)) (pw_or1 (pt_not (pt_val (pe_fn T_are_powers G_are_powers hr rfl (pa_cons (pe_ix ix_tup (pv 0) pe_int (fun _ _ => rfl)) (pa_cons (pv 1) pa_nil)))))))))
    (pss_one (ps_ret pe_bl))
    pss_nil)
  (pss_one (ps_ret (pe_and (pe_fn T_is_fraction G_is_fraction hr rfl (pa_cons (pe_ix ix_tup (pv 0) pe_int (fun _ _ => rfl)) pa_nil)) (pe_one (pe_cmpR op_ne (pe_ix ix_tup (pe_ix ix_tup (pv 0) pe_int (fun _ _ => rfl)) pe_int (fun _ _ => rfl)) pe_int (nomark _))))))),?_⟩
  refine ⟨_,rfl,_,_,_,_,rfl,nnt,hd.ty,kit_tupD K d hd.nodict,_,rfl,?_⟩
  by_cases hL : isTupD d = false
  · rw [hL]
    rw [termD_no hL] at q
    exact iteT (iteT q)
  have hL : isTupD d = true := by simpa using hL
  rw [hL]
  refine iteF ?_
  obtain ⟨ds,rfl⟩:=isTup_of hL
  rw [Dt] at hd
  obtain ⟨a,xs,rfl,na,ha,hx⟩:=hd
  have hlen:=hx.len
  have s1 : SqT K H a xs:=SqT.of ha
  refine ⟨_,rfl,a,xs,rfl,.inr s1,rfl,_,rfl,ite2 (fun c => ?_) (fun c => ?_)⟩
  · have : ds.length≠2 := by
      rw [← hlen]
      intro z
      rw [z] at c
      exact absurd c (by decide)
    rw [termD_len this] at q
    exact iteT q
  have h2 : xs.length = 2 := by
    by_cases z : xs.length = 2
    · exact z
    · exfalso
      refine c ?_
      have : ¬ (V.int (xs.length : Nat) = V.int 2) := by simp; lia
      rw [decide_eq_false this]; rfl
  obtain ⟨d0,d1,rfl⟩ : ∃ d0 d1,ds = [d0,d1] := by
    match ds,(show ds.length = 2 by lia) with
    | [x,y],_ => exact ⟨x,y,rfl⟩
  rw [DtAll] at hx
  obtain ⟨x0,r,rfl,hx0,hx⟩:=hx
  rw [DtAll] at hx
  obtain ⟨x1,r,rfl,hx1,hx⟩:=hx
  rw [DtAll] at hx
  subst hx
  rw [termD] at q
  refine ⟨_,rfl,_,_,_,_,rfl,rfl,s1,rfl,_,rfl,l,d0,x0,n,rfl,hx0,_,rfl,ite2 (fun c0 => ?_) (fun c0 => ?_)⟩
  · have : powD n d0 = false := by simpa using c0
    rw [this,Bool.false_and] at q
    exact q
  have hp : powD n d0 = true := by simpa using c0
  rw [hp,Bool.true_and] at q
  refine ⟨_,rfl,_,_,_,_,rfl,rfl,s1,rfl,l,d1,x1,rfl,hx1,_,rfl,ite2 (fun c1 => ?_) (fun c1 => ?_)⟩
  · rw [c1,Bool.true_and] at q
    obtain ⟨i,j,rfl⟩ : ∃ i j,d1 = .tuple [.int i,.int j] := by
      unfold isFrD at c1
      split at c1
      · exact ⟨_,_,rfl⟩
      · cases c1
    rw [Dt] at hx1
    obtain ⟨b,ys,rfl,nb,hb,hy⟩:=hx1
    rw [DtAll] at hy
    obtain ⟨y0,r,rfl,hy0,hy⟩:=hy
    rw [DtAll] at hy
    obtain ⟨y1,r,rfl,hy1,hy⟩:=hy
    rw [DtAll] at hy
    subst hy
    rw [Dt] at hy0
    subst hy0
    refine ⟨_,rfl,_,_,_,_,rfl,rfl,s1,rfl,_,_,_,_,rfl,rfl,SqT.of hb,rfl,rfl,?_⟩
    rw [topD] at q
    have e : decide (V.int i = V.int 0) = decide (i = 0) := by rw [Bool.eq_iff_iff]; simp
    show Q (.bl (!decide (V.int i = V.int 0))) H
    rw [e]
    exact q
  · rw [Bool.eq_false_iff.mpr c1,Bool.false_and] at q
    exact q
theorem sc_is_poly : FnScope ["thing", "unknowns", "k", "term"] ["thing", "unknowns"] (defScope s_is_poly):=⟨rfl,rfl,rfl,by decide +kernel,rfl,by decide +kernel,by decide +kernel⟩
theorem powD_ints {l : Addr} {H : Hp} {n : Int} {d : PyData} {v : V} (h : Dt l H d v) (k : powD n d = true) : ∃ a,v = .ref a∧H a = some (.tup ((intsD d).map V.int)) := by
  cases d with
  | tuple ds =>
    rw [powD,Bool.and_eq_true] at k
    rw [Dt] at h
    obtain ⟨a,xs,rfl,na,ha,hx⟩:=h
    refine ⟨a,rfl,?_⟩
    rw [ha]
    congr 2
    rw [intsD]
    clear ha
    replace k:=k.2
    induction ds generalizing xs with
    | nil => rw [DtAll] at hx; subst hx; rfl
    | cons d ds ih =>
      rw [DtAll] at hx
      obtain ⟨x,r,rfl,h1,h2⟩:=hx
      rw [List.all_cons,Bool.and_eq_true] at k
      rw [List.map_cons,List.map_cons,← ih r h2 k.2]
      congr 1
      cases d <;> first | (rw [Dt] at h1; subst h1; rfl) | (have:=k.1; simp [powI] at this)
  | none => simp [powD] at k
  | bool _ => simp [powD] at k
  | int _ => simp [powD] at k
  | str _ => simp [powD] at k
  | list _ => simp [powD] at k
  | dict _ => simp [powD] at k
theorem termD_pw {l : Addr} {H : Hp} {n : Int} {d : PyData} {v : V} (h : Dt l H d v) (k : termD n d = true) : ∃ a b c,v = .ref a∧H a = some (.tup [.ref b,c])∧H b = some (.tup ((pwD d).map V.int)) := by
  unfold termD at k
  split at k
  · rename_i p f
    rw [Bool.and_eq_true] at k
    rw [Dt] at h
    obtain ⟨a,xs,rfl,na,ha,hx⟩:=h
    rw [DtAll] at hx
    obtain ⟨x0,r,rfl,hx0,hx⟩:=hx
    rw [DtAll] at hx
    obtain ⟨x1,r,rfl,hx1,hx⟩:=hx
    rw [DtAll] at hx
    subst hx
    obtain ⟨b,rfl,hb⟩:=powD_ints hx0 k.1
    exact ⟨a,b,x1,rfl,ha,hb⟩
  · cases k
theorem ok_is_poly (F : Fn K mg "is_poly" s_is_poly ["thing", "unknowns"] f fd) (T_is_term : Fn K mg "is_term" s_is_term ["thing", "unknowns"] g1 gd1)
    (G_is_term : FnOk P w K mg base CX0 3 g1 gd1 ["thing", "unknowns"] spTm) (z_isinstance : mg "isinstance" = none) (z_list : mg "list" = none) (z_enumerate : mg "enumerate" = none) : FnOk P w K mg base CX0 4 f fd ["thing", "unknowns"] spPo := by
  have sc:=sc_is_poly
  refine F.F.ok (k:=3) sc (fun vs H Q E h => ?_) (fun cdv A outer s H vs Q E hr h => ?_)
  · obtain ⟨l,d,v,n,rfl,_⟩:=h
    rfl
  obtain ⟨l,d,v,n,rfl,hd,q⟩:=h
  refine ⟨_,(pss_cons (ps_if (pt_not (pt_val (pe_callB call_isi rfl z_isinstance PyProof.Rows.boot_isinstance (pa_cons (pv 0) (pa_cons (pe_bltn (v:=.ty "list") rfl z_list PyProof.Rows.boot_list rfl) pa_nil)))))
    (pss_one (ps_ret pe_bl))
    pss_nil)
  (pss_cons (ps_for PassesOwn.never rfl (pi_enumL rfl z_enumerate (pa_cons (pv 0) pa_nil)) (pg_tup rfl (pgs_cons (pg_name (i:=2) sc.nd rfl (Or.inl rfl)) (pgs_cons (pg_name (i:=3) sc.nd rfl (Or.inl rfl)) pgs_nil)))
    (pss_one (ps_if (PW.pt (pw_or (pt_not (pt_val (pe_fn T_is_term G_is_term hr rfl (pa_cons (pv 3) (pa_cons (pv 1) pa_nil))))) (pw_or1 (PW.pt (pw_and (pt_cmpR op_gt (pv 2) pe_int (nomark _)) (pw_and1 (pt_cmpR (op_geT (by have:=hr.units; exact this)) (pe_ix ix_tup (pv 3) pe_int (fun _ _ => rfl)) (pe_ix ix_tup (pe_ix ix_list (pv 0) (pe_op op_sub (pv 2) pe_int) (fun _ _ => rfl)) pe_int (fun _ _ => rfl)) (nomark _))))))))
      (pss_one (ps_ret pe_bl))
      pss_nil)))
  (pss_one (ps_ret pe_bl)))),?_⟩
  refine ⟨_,rfl,_,_,_,_,rfl,nnt,hd.ty,kit_lstD K d hd.nodict,_,rfl,?_⟩
  by_cases hL : isLstD d = false
  · rw [hL]
    have:=q H (.refl H)
    rw [polyD_no hL] at this
    exact iteT this
  have hL : isLstD d = true := by simpa using hL
  rw [hL]
  refine iteF ?_
  obtain ⟨ds,rfl⟩:=isLst_of hL
  rw [Dt] at hd
  obtain ⟨a,xs,rfl,na,ha,ht⟩:=hd
  have hlen:=ht.len
  refine ⟨_,rfl,a,rfl,⟨_,SqL.of ha⟩,for_enumL (xs:=xs) (fun i σ H' => ∃ r1 r2,σ = [some (.ref a),some (.int n),r1,r2]∧Same H H'∧∀ j,j < i→termAt n ds j = true) ?_ ?_ ?_ ?_⟩
  · exact ⟨_,_,rfl,.refl _,fun j h => absurd h (Nat.not_lt_zero _)⟩
  · rintro i σ H' _ ⟨r1,r2,rfl,e,_⟩
    exact SqL.of (e _ _ ha)
  · rintro i x σ H0 hx ⟨r1,r2,rfl,e0,hf⟩ p hp
    obtain ⟨c,hc,tc⟩:=ht.get hx
    have hi : i < ds.length:=(List.getElem?_eq_some_iff.mp hc).1
    have s1:=same_new hp (.tup [.int (i : Nat),x])
    have e1:=e0.trans s1
    have hp' : (upd H0 p (.tup [.int (i : Nat),x])) p = some (.tup [.int (i : Nat),x]):=upd_same
    generalize upd H0 p (.tup [.int (i : Nat),x]) = H1 at s1 e1 hp'
    have tc:=tc.same e1
    have no : termAt n ds i = false→Q (.bl false) H1:=fun z => by
      have:=q H1 e1
      have e : isPoD n (.list ds) = false:=Bool.eq_false_iff.mpr fun y => by
        rw [isPoD,List.all_eq_true] at y
        rw [y i (List.mem_range.mpr hi)] at z
        cases z
      rw [e] at this
      exact this
    have next : termAt n ds i = true→∃ r1 r2,[some (V.ref a),some (V.int n),some (V.int (i : Nat)),some x] = [some (.ref a),some (.int n),r1,r2]∧Same H H1∧∀ j,j < i + 1→termAt n ds j = true:=fun z => by
      refine ⟨_,_,rfl,e1,fun j hj => ?_⟩
      by_cases zz : j = i
      · subst zz; exact z
      · exact hf j (by lia)
    have tA : termAt n ds i = (termD n c && (decide (i = 0) || (match ds[i - 1]? with
        | some e => IT.lt (pwD c) (pwD e)
        | none => true))) := by unfold termAt; rw [hc]; all_goals rfl
    refine ⟨p,_,rfl,SqT.of hp',rfl,_,_,rfl,_,_,rfl,rfl,?_⟩
    refine ⟨_,rfl,_,rfl,l,c,x,n,rfl,tc,_,rfl,ite2 (fun b => ?_) (fun b => ?_)⟩
    · have hb : termD n c = false := by simpa using b
      exact iteT (no (by rw [tA,hb,Bool.false_and]))
    have hb : termD n c = true := by simpa using b
    rw [hb,Bool.true_and] at tA
    refine ⟨_,rfl,_,_,rfl,rfl,_,rfl,ite2 (fun b => ?_) (fun b => ?_)⟩
    · have hi0 : 0 < i := by have:=of_decide_eq_true b; lia
      rw [decide_eq_false (show ¬ i = 0 by lia),Bool.false_or] at tA
      have hx' : xs[i - 1]? = some (xs[i - 1]'(by lia)) := by simp [show i - 1 < xs.length by lia]
      obtain ⟨e,he,te⟩:=ht.get hx'
      have hpe : termD n e = true := by
        have:=hf (i - 1) (by lia)
        unfold termAt at this
        rw [he] at this
        rw [Bool.and_eq_true] at this
        exact this.1
      generalize xs[i - 1]'(by lia) = v1 at hx' te
      obtain ⟨a1,b1,c1,rfl,ha1,hb1⟩:=termD_pw (te.same e1) hpe
      obtain ⟨a2,b2,c2,rfl,ha2,hb2⟩:=termD_pw tc hb
      have hat : atI xs ((i : Int) - 1) = some (.ref a1) := by
        have:=atI_nat (xs:=xs) (j:=i - 1) hx'
        rwa [show ((i - 1 : Nat) : Int) = (i : Int) - 1 by lia] at this
      rw [he] at tA
      refine ⟨_,rfl,_,_,_,_,rfl,rfl,SqT.of ha2,rfl,_,rfl,_,rfl,_,_,rfl,rfl,_,_,_,_,rfl,rfl,SqL.of (e1 _ _ ha),hat,_,_,_,_,rfl,rfl,SqT.of ha1,rfl,b2,b1,_,_,rfl,rfl,hb2,hb1,_,rfl,ite2 (fun z => ?_) (fun z => ?_)⟩
      · exact no (by rw [tA]; simpa using z)
      · exact next (by rw [tA]; simpa using z)
    · have hi0 : i = 0 := by have:=of_decide_eq_false (Bool.eq_false_iff.mpr b); lia
      exact iteF (next (by rw [tA,decide_eq_true hi0,Bool.true_or]))
  · rintro σ H' ⟨r1,r2,rfl,e1,hf⟩
    have:=q H' e1
    have e : isPoD n (.list ds) = true := by
      rw [isPoD,List.all_eq_true]
      intro j hj
      exact hf j (by rw [hlen]; exact List.mem_range.mp hj)
    rw [e] at this
    exact this
theorem sc_is_change : FnScope ["thing", "some"] ["thing"] (defScope s_is_change):=⟨rfl,rfl,rfl,by decide +kernel,rfl,by decide +kernel,by decide +kernel⟩
theorem ok_is_change (F : Fn K mg "is_change" s_is_change ["thing"] f fd) (T_is_poly : Fn K mg "is_poly" s_is_poly ["thing", "unknowns"] g1 gd1)
    (G_is_poly : FnOk P w K mg base CX0 4 g1 gd1 ["thing", "unknowns"] spPo) (z_isinstance : mg "isinstance" = none) (z_list : mg "list" = none) (z_len : mg "len" = none) : FnOk P w K mg base CX0 5 f fd ["thing"] spChg := by
  have sc:=sc_is_change
  refine F.F.ok (k:=4) sc (fun vs H Q E h => ?_) (fun cdv A outer s H vs Q E hr h => ?_)
  · obtain ⟨l,d,v,rfl,_⟩:=h
    rfl
  obtain ⟨l,d,v,rfl,hd,q⟩:=h
  refine ⟨_,(pss_cons (ps_if (PW.pt (pw_or (pt_not (pt_val (pe_callB call_isi rfl z_isinstance PyProof.Rows.boot_isinstance (pa_cons (pv 0) (pa_cons (pe_bltn (v:=.ty "list") rfl z_list PyProof.Rows.boot_list rfl) pa_nil))))) (pw_or1 (pt_cmpR op_eq (pe_callB call_len_seq rfl z_len PySem.boot_len (pa_cons (pv 0) pa_nil)) pe_int (nomark _)))))
    (pss_one (ps_ret pe_bl))
    pss_nil)
  (pss_cons (ps_for PassesOwn.never rfl (pi_list (pv 0)) (pg_name (i:=1) sc.nd rfl (Or.inl rfl))
    (pss_one (ps_if (pt_not (pt_val (pe_fn T_is_poly G_is_poly hr rfl (pa_cons (pv 1) (pa_cons (pe_callB call_len_seq rfl z_len PySem.boot_len (pa_cons (pv 0) pa_nil)) pa_nil)))))
      (pss_one (ps_ret pe_bl))
      pss_nil)))
  (pss_one (ps_ret pe_bl)))),?_⟩
  refine ⟨_,rfl,_,_,_,_,rfl,nnt,hd.ty,kit_lstD K d hd.nodict,_,rfl,?_⟩
  by_cases hL : isLstD d = false
  · rw [hL]
    have:=q H (.refl H)
    rw [chgD_no hL] at this
    exact iteT (iteT this)
  have hL : isLstD d = true := by simpa using hL
  rw [hL]
  refine iteF ?_
  obtain ⟨ds,rfl⟩:=isLst_of hL
  rw [Dt] at hd
  obtain ⟨a,xs,rfl,na,ha,ht⟩:=hd
  have hlen:=ht.len
  refine ⟨_,rfl,a,xs,rfl,.inl (SqL.of ha),rfl,_,rfl,ite2 (fun c => ?_) (fun c => ?_)⟩
  · have : ds.length = 0 := by rw [← hlen]; have:=of_decide_eq_true c; simpa using this
    have q:=q H (.refl H)
    rw [chgD,decide_eq_true this,Bool.not_true,Bool.false_and] at q
    exact q
  have h0 : ¬ ds.length = 0 := by
    rw [← hlen]
    intro z
    exact c (by simp [z])
  rw [chgD,decide_eq_false h0,Bool.not_false,Bool.true_and] at q
  refine ⟨_,rfl,a,rfl,⟨_,SqL.of ha⟩,for_list (xs:=xs) (fun i σ H' => ∃ r1,σ = [some (.ref a),r1]∧Same H H'∧∀ j c,j < i→ds[j]? = some c→isPoD ds.length c = true) ?_ ?_ ?_ ?_⟩
  · exact ⟨_,rfl,.refl _,fun j c h => absurd h (Nat.not_lt_zero _)⟩
  · rintro i σ H' _ ⟨r1,rfl,e,_⟩
    exact SqL.of (e _ _ ha)
  · rintro i x σ H1 hx ⟨r1,rfl,e1,hf⟩
    obtain ⟨c,hc,tc⟩:=ht.get hx
    refine ⟨_,rfl,_,rfl,a,xs,rfl,.inl (SqL.of (e1 _ _ ha)),l,c,x,_,rfl,tc.same e1,fun H2 e2 => ⟨_,rfl,ite2 (fun b => ?_) (fun b => ?_)⟩⟩
    · have hb : isPoD ds.length c = false := by rw [← hlen]; simpa using b
      have:=q H2 (e1.trans e2)
      have e : ds.all (isPoD ds.length) = false:=Bool.eq_false_iff.mpr fun y => by
        rw [List.all_eq_true] at y
        rw [y c (List.mem_of_getElem? hc)] at hb
        cases hb
      rw [e] at this
      exact this
    · have hb : isPoD ds.length c = true := by rw [← hlen]; simpa using b
      refine ⟨_,rfl,e1.trans e2,fun j e hj he => ?_⟩
      by_cases z : j = i
      · subst z; rw [hc] at he; cases he; exact hb
      · exact hf j e (by lia) he
  · rintro σ H' ⟨r1,rfl,e1,hf⟩
    have e : ds.all (isPoD ds.length) = true := by
      rw [List.all_eq_true]
      intro c hc
      obtain ⟨j,hj⟩:=List.getElem?_of_mem hc
      exact hf j c (by rw [hlen]; exact (List.getElem?_eq_some_iff.mp hj).1) hj
    have:=q H' e1
    rw [e] at this
    exact this
end
def spRefChg : Sp:=fun vs H Q _ => ∃ (v : V) (d : PyData),vs = [v]∧DU H d v∧chgD d = true∧∀ H',Same H H'→Q .non H'
def spRefStart : Sp:=fun vs H Q _ => ∃ (S : Addr) (xs : List V) (rs : List Rat),vs = [.ref S,.int (rs.length : Nat)]∧H S = some (.lst xs)∧DUs H (fracsD rs) xs∧Q .non H
theorem pe_no {X : Cx} {e : Expr} : PE X e (fun _ _ _ => False):=fun _ _ _ _ _ _ z => z.elim
section
variable {P : Program} {w : World} {K : PySem.W.Frag} {mg : Str→Option Value} {base : Heap} {f g1 : Addr} {fd gd1 : FuncData}
theorem sc_refuse_no_change : FnScope ["thing"] ["thing"] (defScope s_refuse_no_change):=⟨rfl,rfl,rfl,by decide +kernel,rfl,by decide +kernel,by decide +kernel⟩
theorem ok_refuse_no_change (F : Fn K mg "refuse_no_change" s_refuse_no_change ["thing"] f fd) (T_is_change : Fn K mg "is_change" s_is_change ["thing"] g1 gd1)
    (G_is_change : FnOk P w K mg base CX0 6 g1 gd1 ["thing"] spChg) : FnOk P w K mg base CX0 7 f fd ["thing"] spRefChg := by
  have sc:=sc_refuse_no_change
  refine F.F.ok (k:=6) sc (fun vs H Q E h => ?_) (fun cdv A outer s H vs Q E hr h => ?_)
  · obtain ⟨v,d,rfl,_⟩:=h
    rfl
  obtain ⟨v,d,rfl,⟨N,b⟩,hd,q⟩:=h
  refine ⟨_,(pss_one (ps_if (pt_not (pt_val (pe_fn T_is_change G_is_change hr rfl (pa_cons (pv 0) pa_nil))))
    (pss_one ps_never)
    pss_nil)),?_⟩
  refine ⟨_,rfl,N,d,v,rfl,b N (Nat.le_refl _),fun H' e => ?_⟩
  rw [hd]
  exact ⟨_,rfl,iteF (q H' e)⟩
theorem sc_refuse_no_start : FnScope ["thing", "unknowns"] ["thing", "unknowns"] (defScope s_refuse_no_start):=⟨rfl,rfl,rfl,by decide +kernel,rfl,by decide +kernel,by decide +kernel⟩
theorem ok_refuse_no_start (F : Fn K mg "refuse_no_start" s_refuse_no_start ["thing", "unknowns"] f fd) (T_are_fractions : Fn K mg "are_fractions" s_are_fractions ["thing"] g1 gd1)
    (G_are_fractions : FnOk P w K mg base CX0 4 g1 gd1 ["thing"] spAreFr) (z_len : mg "len" = none) : FnOk P w K mg base CX0 5 f fd ["thing", "unknowns"] spRefStart := by
  have sc:=sc_refuse_no_start
  refine F.F.ok (k:=4) sc (fun vs H Q E h => ?_) (fun cdv A outer s H vs Q E hr h => ?_)
  · obtain ⟨S,xs,rs,rfl,_⟩:=h
    rfl
  obtain ⟨S,xs,rs,rfl,hS,dx,q⟩:=h
  have hxl : xs.length = rs.length := by rw [dx.len,fracs_len]
  refine ⟨_,(pss_one (ps_if (PW.pt (pw_or (pt_not (pt_val (pe_fn T_are_fractions G_are_fractions hr rfl (pa_cons (pv 0) pa_nil)))) (pw_or1 (pt_cmpR op_ne (pe_callB call_len_seq rfl z_len PySem.boot_len (pa_cons (pv 0) pa_nil)) (pv 1) (nomark _)))))
    (pss_one (ps_expr pe_no))
    pss_nil)),?_⟩
  obtain ⟨N,b⟩:=DU.lst hS dx
  have ha : areFrD (.list (fracsD rs)) = true := by rw [areFrD,List.all_eq_true]; exact fracs_fr rs
  refine ⟨_,rfl,N,.list (fracsD rs),.ref S,rfl,b N (Nat.le_refl _),?_⟩
  rw [ha]
  refine ⟨_,rfl,iteF ⟨_,rfl,S,xs,rfl,.inl (SqL.of hS),_,rfl,rfl,_,rfl,?_⟩⟩
  rw [hxl,show (!decide (V.int (rs.length : Nat) = V.int (rs.length : Nat))) = false by simp]
  exact iteF q
end
abbrev paceG (uss : List (List Mono)) (rs : List Rat) (most : Nat) : Int:=paceC uss (grainL rs) * prodTo most
def growX (uss : List (List Mono)) (rs : List Rat) (most : Nat) : Nat→Nat→Int:=grow ((topsL rs (grainL rs)).getD · 0) (wholeC (grainL rs) uss) (prodTo most)
def growR (uss : List (List Mono)) (rs : List Rat) (most : Nat) : List (List Rat):=(List.range uss.length).map fun u => seqQ (rowF (growX uss rs most u) (paceG uss rs most) (grainL rs)) (most + 1)
structure GrOk (uss : List (List Mono)) (rs : List Rat) (most nn : Nat) : Prop where
  n4 : nn≤4
  len : uss.length = nn
  slen : rs.length = nn
  mst : most≤7
  fit : ∀ us∈uss,us.length≤12∧∀ m∈us,FM.Fits m.2 4
  pw : ∀ us∈uss,∀ m∈us,PwOk nn m.1
  sfit : ∀ r∈rs,FM.Fits r 4
  good : chgD (.list (uss.map polyD)) = true
theorem GrOk.sum {uss : List (List Mono)} {rs : List Rat} {most nn : Nat} (o : GrOk uss rs most nn) : ∀ us∈uss,∀ m∈us,0≤sumP m∧sumP m≤3:=fun us hu m hm => ⟨sum_nonneg (o.pw us hu m hm).nn,(o.pw us hu m hm).s3⟩
theorem GrOk.grain {uss : List (List Mono)} {rs : List Rat} {most nn : Nat} (o : GrOk uss rs most nn) : 1≤grainL rs∧(grainL rs).natAbs < 2 ^ 17∧∀ r∈rs,(r.den : Int) ∣ grainL rs := by
  obtain ⟨a,b,c⟩:=comL_ok (dens_ok o.sfit)
  refine ⟨a,FM.nb_mono b ?_,fun r hr => c _ (List.mem_map.mpr ⟨r,hr,rfl⟩)⟩
  rw [List.length_map,o.slen]
  have:=o.n4
  lia
theorem natAbs_le_of_lt {x : Int} {n : Nat} (h : x.natAbs < 2 ^ n) : x.natAbs≤2 ^ n:=Nat.le_of_lt h
theorem GrOk.bnd {uss : List (List Mono)} {rs : List Rat} {most nn : Nat} (o : GrOk uss rs most nn) : (∀ x∈topsL rs (grainL rs),x.natAbs≤2 ^ 21)∧(∀ us∈wholeC (grainL rs) uss,us.length≤12∧∀ z∈us,PwOk nn z.1∧z.2.num.natAbs≤2 ^ 250)∧(prodTo most).natAbs≤2 ^ 13 := by
  obtain ⟨g1,g2,_⟩:=o.grain
  obtain ⟨b1,b2,_⟩:=speedsB_ok (by rw [o.len]; exact o.n4) o.fit
  refine ⟨fun x hx => ?_,fun us hu => ?_,?_⟩
  · unfold topsL at hx
    obtain ⟨r,hr,rfl⟩:=List.mem_map.mp hx
    have h1:=(o.sfit r hr).1
    have h2 : ((grainL rs).fdiv (r.den : Int)).natAbs < 2 ^ 17:=Nat.lt_of_le_of_lt (FM.natAbs_fdiv_le' _ _) g2
    exact natAbs_le_of_lt (FM.nb_mul h1 h2)
  · unfold wholeC at hu
    obtain ⟨vs,hv,rfl⟩:=List.mem_map.mp hu
    refine ⟨by unfold wholeP; rw [List.length_map]; exact (o.fit vs hv).1,fun z hz => ?_⟩
    unfold wholeP at hz
    obtain ⟨m,hm,rfl⟩:=List.mem_map.mp hz
    refine ⟨o.pw vs hv m hm,?_⟩
    have h1:=((o.fit vs hv).2 m hm).1
    have h2 : ((speedsB uss).fdiv (m.2.den : Int)).natAbs < 2 ^ 193:=Nat.lt_of_le_of_lt (FM.natAbs_fdiv_le' _ _) b2
    obtain ⟨_,g3,_⟩:=great_ok (uss:=uss) (c:=3) (by decide) fun us hus m hm => (o.sum us hus m hm).2
    have h3 : ((grainL rs) ^ (greatN uss - (sumP m).toNat)).natAbs < 2 ^ (17 * 3 + 1):=pow_nb (p:=3) g2 (by unfold greatN; lia)
    have h4:=FM.nb_mul (FM.nb_mul h1 h2) h3
    show ((wholeM (speedsB uss) (grainL rs) (greatN uss) m).2.num).natAbs≤_
    unfold wholeM
    rw [show ((m.2.num * (speedsB uss).fdiv (m.2.den : Int) * grainL rs ^ (greatN uss - (sumP m).toNat) : Int) : Rat).num = m.2.num * (speedsB uss).fdiv (m.2.den : Int) * grainL rs ^ (greatN uss - (sumP m).toNat) from rfl]
    exact natAbs_le_of_lt (FM.nb_mono h4 (by decide))
  · have : ∀ n,n≤7→(prodTo n).natAbs≤2 ^ 13 := by decide
    exact this most o.mst
theorem GrOk.wl {uss : List (List Mono)} {rs : List Rat} {most nn : Nat} (o : GrOk uss rs most nn) : (wholeC (grainL rs) uss).length = nn∧(topsL rs (grainL rs)).length = nn:=⟨by unfold wholeC; rw [List.length_map]; exact o.len,by unfold topsL; rw [List.length_map]; exact o.slen⟩
theorem GrOk.wr {uss : List (List Mono)} {rs : List Rat} {most nn : Nat} (o : GrOk uss rs most nn) : ∃ m,WrOk (wholeC (grainL rs) uss) (topsL rs (grainL rs)) (prodTo most) most nn m := by
  obtain ⟨h1,h2,h3⟩:=o.bnd
  exact ⟨_,wr_ok (a:=21) (c:=250) (f:=13) o.n4 o.wl.1 o.wl.2 o.mst h1 h2 h3 (by decide)⟩
theorem pow_one_le {g : Int} (h : 1≤g) : ∀ n : Nat,1≤g ^ n
  | 0 => by simp
  | n + 1 => by rw [Int.pow_succ]; exact Int.mul_pos (show 0 < g ^ n from pow_one_le h n) (show 0 < g from h)
theorem GrOk.pace {uss : List (List Mono)} {rs : List Rat} {most nn : Nat} (o : GrOk uss rs most nn) : 1≤paceC uss (grainL rs)∧(paceC uss (grainL rs)).natAbs < 2 ^ 300∧(paceG uss rs most).natAbs < 2 ^ 400∧1≤paceG uss rs most := by
  obtain ⟨g1,g2,_⟩:=o.grain
  obtain ⟨b1,b2,_⟩:=speedsB_ok (by rw [o.len]; exact o.n4) o.fit
  obtain ⟨_,g3,_⟩:=great_ok (uss:=uss) (c:=3) (by decide) fun us hus m hm => (o.sum us hus m hm).2
  have h3 : ((grainL rs) ^ (greatN uss - 1)).natAbs < 2 ^ (17 * 3 + 1):=pow_nb (p:=3) g2 (by unfold greatN; lia)
  have h1 : (paceC uss (grainL rs)).natAbs < 2 ^ 300:=FM.nb_mono (FM.nb_mul b2 h3) (by decide)
  have hp:=prodTo_nb most (by have:=o.mst; lia)
  have gr0 : 1≤grainL rs:=g1
  have h0 : 1≤(grainL rs) ^ (greatN uss - 1):=pow_one_le gr0 _
  have h5 : 1≤paceC uss (grainL rs):=Int.mul_pos (show 0 < _ by lia) (show 0 < _ by lia)
  exact ⟨h5,h1,FM.nb_mul h1 hp.2,Int.mul_pos (show 0 < _ by lia) (show 0 < _ by lia)⟩
def spGR : Sp:=fun vs H Q _ => ∃ (C S : Addr) (cs ss : List V) (uss : List (List Mono)) (rs : List Rat) (most nn : Nat),vs = [.ref C,.ref S,.int (most : Nat)]∧H C = some (.lst cs)∧DUs H (uss.map polyD) cs∧H S = some (.lst ss)∧DUs H (fracsD rs) ss∧GrOk uss rs most nn ∧
  ∀ D H' zs,Same H H'→H D = none→H' D = some (.lst zs)→DUs H' (rowsD (growR uss rs most)) zs→(∀ z∈zs,∃ a,z = .ref a∧H a = none)→Q (.ref D) H'
section
variable {P : Program} {w : World} {K : PySem.W.Frag} {mg : Str→Option Value} {base : Heap} {f g1 g2 g3 g4 g5 g6 g7 g8 g9 g10 : Addr} {fd gd1 gd2 gd3 gd4 gd5 gd6 gd7 gd8 gd9 gd10 : FuncData}
theorem sc_growth_rows : FnScope ["change", "start", "most", "grain", "finer", "rows", "pace"] ["change", "start", "most"] (defScope s_growth_rows):=⟨rfl,rfl,rfl,by decide +kernel,rfl,by decide +kernel,by decide +kernel⟩
theorem ok_growth_rows (F : Fn K mg "growth_rows" s_growth_rows ["change", "start", "most"] f fd) (T_refuse_no_change : Fn K mg "refuse_no_change" s_refuse_no_change ["thing"] g1 gd1) (T_refuse_no_start : Fn K mg "refuse_no_start" s_refuse_no_start ["thing", "unknowns"] g2 gd2) (T_refuse_too_many : Fn K mg "refuse_too_many" s_refuse_too_many ["most"] g3 gd3) (T_grain_of : Fn K mg "grain_of" s_grain_of ["start"] g4 gd4) (T_product_up_to : Fn K mg "product_up_to" s_product_up_to ["many"] g5 gd5)
    (T_whole_change : Fn K mg "whole_change" s_whole_change ["change", "grain"] g6 gd6) (T_whole_start : Fn K mg "whole_start" s_whole_start ["start", "grain"] g7 gd7) (T_whole_rows : Fn K mg "whole_rows" s_whole_rows ["change", "start", "most", "finer"] g8 gd8) (T_pace_of : Fn K mg "pace_of" s_pace_of ["change", "grain"] g9 gd9) (T_row_of_fractions : Fn K mg "row_of_fractions" s_row_of_fractions ["row", "pace", "grain"] g10 gd10)
    (G_refuse_no_change : FnOk P w K mg base CX0 7 g1 gd1 ["thing"] spRefChg) (G_refuse_no_start : FnOk P w K mg base CX0 7 g2 gd2 ["thing", "unknowns"] spRefStart) (G_refuse_too_many : FnOk P w K mg base CX0 7 g3 gd3 ["most"] spRTM) (G_grain_of : FnOk P w K mg base CX0 7 g4 gd4 ["start"] spGrain) (G_product_up_to : FnOk P w K mg base CX0 7 g5 gd5 ["many"] spPUT)
    (G_whole_change : FnOk P w K mg base CX0 7 g6 gd6 ["change", "grain"] spWC) (G_whole_start : FnOk P w K mg base CX0 7 g7 gd7 ["start", "grain"] spWS) (G_whole_rows : FnOk P w K mg base CX0 7 g8 gd8 ["change", "start", "most", "finer"] spWR) (G_pace_of : FnOk P w K mg base CX0 7 g9 gd9 ["change", "grain"] spPace) (G_row_of_fractions : FnOk P w K mg base CX0 7 g10 gd10 ["row", "pace", "grain"] spROF) (z_len : mg "len" = none) : FnOk P w K mg base CX0 8 f fd ["change", "start", "most"] spGR := by
  have sc:=sc_growth_rows
  refine F.F.ok (k:=7) sc (fun vs H Q E h => ?_) (fun cdv A outer s H vs Q E hr h => ?_)
  · obtain ⟨C,S,cs,ss,uss,rs,most,nn,rfl,_⟩:=h
    rfl
  obtain ⟨C,S,cs,ss,uss,rs,most,nn,rfl,hC,dc,hS,ds,ok,q⟩:=h
  have hcl : cs.length = nn := by rw [dc.len,List.length_map]; exact ok.len
  obtain ⟨gr1,gr2,_⟩:=ok.grain
  obtain ⟨pc1,pc2,pc3,pc4⟩:=ok.pace
  have hpt:=prodTo_nb most (by have:=ok.mst; lia)
  have chg : ∀ H',Same H H'→Chg H' C cs uss 4:=fun H' e => ⟨e _ _ hC,dc.same e,by rw [ok.len]; exact ok.n4,ok.fit⟩
  refine ⟨_,(pss_cons (ps_expr (pe_fn T_refuse_no_change G_refuse_no_change hr rfl (pa_cons (pv 0) pa_nil)))
  (pss_cons (ps_expr (pe_fn T_refuse_no_start G_refuse_no_start hr rfl (pa_cons (pv 1) (pa_cons (pe_callB call_len_seq rfl z_len PySem.boot_len (pa_cons (pv 0) pa_nil)) pa_nil))))
  (pss_cons (ps_expr (pe_fn T_refuse_too_many G_refuse_too_many hr rfl (pa_cons (pv 2) pa_nil)))
  (pss_cons (ps_set (i:=3) sc.nd rfl (Or.inr rfl) (pe_fn T_grain_of G_grain_of hr rfl (pa_cons (pv 1) pa_nil)))
  (pss_cons (ps_set (i:=4) sc.nd rfl (Or.inl rfl) (pe_fn T_product_up_to G_product_up_to hr rfl (pa_cons (pv 2) pa_nil)))
  (pss_cons (ps_set (i:=5) sc.nd rfl (Or.inl rfl) (pe_fn T_whole_rows G_whole_rows hr rfl (pa_cons (pe_fn T_whole_change G_whole_change hr rfl (pa_cons (pv 0) (pa_cons (pv 3) pa_nil))) (pa_cons (pe_fn T_whole_start G_whole_start hr rfl (pa_cons (pv 1) (pa_cons (pv 3) pa_nil))) (pa_cons (pv 2) (pa_cons (pv 4) pa_nil))))))
  (pss_cons (ps_set (i:=6) sc.nd rfl (Or.inr rfl) (pe_op op_mulW (pe_fn T_pace_of G_pace_of hr rfl (pa_cons (pv 0) (pa_cons (pv 3) pa_nil))) (pv 4)))
  (pss_one (ps_ret (pe_compr [".0", "row", "pace", "grain"] 1 [none,none,some 6,some 3] (pi_list (pv 5)) (fun _ _ _ _ _ => pif_nil) (fun _ _ _ _ _ => (pe_fn T_row_of_fractions G_row_of_fractions hr rfl (pa_cons (pv 1) (pa_cons (pv 2) (pa_cons (pv 3) pa_nil))))))))))))))),?_⟩
  refine ⟨_,rfl,.ref C,_,rfl,DU.lst hC dc,ok.good,fun H1 e1 => ?_⟩
  refine ⟨_,rfl,_,rfl,C,cs,rfl,.inl (SqL.of (e1 _ _ hC)),S,ss,rs,by rw [hcl,ok.slen]; rfl,e1 _ _ hS,ds.same e1,?_⟩
  refine ⟨_,rfl,most,rfl,ok.mst,?_⟩
  refine ⟨_,rfl,S,ss,rs,4,rfl,e1 _ _ hS,ds.same e1,by have:=ok.slen; have:=ok.n4; lia,ok.sfit,by have:=ok.slen; have:=ok.n4; lia,fun H2 e2 => ?_⟩
  have E2:=e1.trans e2
  refine ⟨_,rfl,most,rfl,by have:=ok.mst; lia,?_⟩
  refine ⟨_,rfl,_,rfl,C,cs,uss,grainL rs,17,rfl,chg H2 E2,ok.sum,gr2,by decide,fun W H3 ws e3 hW hW3 dW => ?_⟩
  have E3:=E2.trans e3
  refine ⟨_,rfl,_,rfl,S,ss,rs,grainL rs,4,17,rfl,E3 _ _ hS,ds.same E3,by have:=ok.slen; have:=ok.n4; lia,ok.sfit,gr2,by decide,fun T H4 ts e4 hT hT4 dT => ?_⟩
  have E4:=E3.trans e4
  obtain ⟨m,wr⟩:=ok.wr
  refine ⟨_,rfl,_,rfl,W,T,ws,ts,wholeC (grainL rs) uss,topsL rs (grainL rs),prodTo most,most,nn,m,rfl,e4 _ _ hW3,dW.same e4,hT4,dT,wr,fun R H5 e5 hR rw5 => ?_⟩
  have E5:=E4.trans e5
  refine ⟨_,rfl,_,rfl,C,cs,uss,grainL rs,17,rfl,chg H5 E5,ok.sum,gr2,by decide,fun H6 e6 => ?_⟩
  have E6:=E5.trans e6
  refine ⟨_,rfl,_,_,rfl,rfl,mulW pc2 hpt.2 (by decide),?_⟩
  obtain ⟨rvs,k1,k2,k3⟩:=rw5
  have hk1:=e6 _ _ k1
  have n4:=ok.n4
  refine ⟨_,rfl,R,rfl,⟨_,SqL.of hk1⟩,fun D hD => comp_by (n:=rvs.length) (fun i ys H' => Same H6 H'∧ys.length = i∧DtAll D H' (rowsD ((List.range i).map fun u => seqQ (rowF (growX uss rs most u) (paceG uss rs most) (grainL rs)) (most + 1))) ys∧∀ z∈ys,∃ a,z = .ref a∧H a = none) ⟨same_new hD _,rfl,.nil,(fun _ z => by cases z)⟩ ?_ ?_⟩
  · rintro i ys H7 hi ⟨e7,hyl,dy,ny⟩ hD7
    obtain ⟨a,j1,j2,j3,_⟩:=k3 i (by lia)
    refine ⟨⟨rvs,.ref a,SqL.of (e7 _ _ hk1),j1⟩,sz60 (n:=60) (by lia) (by decide),fun x H' y => ?_⟩
    obtain ⟨rfl,y⟩:=y
    have hx:=y rvs (SqL.of (e7 _ _ hk1))
    rw [j1] at hx
    cases hx
    unfold tNoIf
    refine iteT ⟨_,rfl,_,rfl,_,rfl,a,growX uss rs most i,most + 1,paceG uss rs most,grainL rs,400,rfl,e7 _ _ (e6 _ _ j2),by have:=ok.mst; lia,by lia,by lia,FM.nb_mono gr2 (show 17≤400 by decide),pc3,by decide,fun Z H8 zs e8 hZ hZ8 dz => ?_⟩
    have hD8:=e8 _ _ hD7
    have nZ : Z≠D:=fun z => by subst z; rw [hD7] at hZ; cases hZ
    refine ⟨hD8,cw_next hi ⟨fun b o z => ?_,by simp [hyl],?_,fun z hz => ?_⟩⟩
    · rw [upd_ne (ne_of_none z hD)]; exact e8 _ _ (e7 _ _ z)
    · rw [List.range_succ,List.map_append]
      unfold rowsD at dy ⊢
      rw [List.map_append]
      exact .but .upd ((dy.same e8).app (.cons (.lst nZ hZ8 (fracs_at hD8 dz)) .nil))
    · rcases List.mem_append.mp hz with h | h
      · exact ny z h
      · exact ⟨Z,List.mem_singleton.mp h,nback (E6.trans e7) hZ⟩
  · rintro ys H7 ⟨e7,hyl,dy,ny⟩ hD7
    rw [k2] at dy
    refine ⟨⟨rvs,SqL.of (e7 _ _ hk1),Nat.le_refl _⟩,q D H7 ys (E6.trans e7) (nback E6 hD) hD7 ?_ ny⟩
    unfold growR
    rw [ok.len]
    exact dtAll_du dy
end
def convQ (f g : Nat→Rat) (k : Nat) : Rat:=(seqQ (fun j => f j * g (k - j)) (k + 1)).sum
def serNQ (X : Nat→Nat→Rat) : Nat→List Int→Nat→Rat
  | 0,_ => fun k => if k = 0 then 1 else 0
  | n + 1,ps => convQ (serNQ X n (lessP ps (fu ps))) (X (fu ps))
def serQ (X : Nat→Nat→Rat) (ps : List Int) : Nat→Rat:=serNQ X ps.sum.toNat ps
def spdQ (X : Nat→Nat→Rat) (us : List Mono) (k : Nat) : Rat:=(us.map fun m => m.2 * serQ X m.1 k).sum
theorem seqQ_congr {f g : Nat→Rat} {n : Nat} (h : ∀ j,j < n→f j = g j) : seqQ f n = seqQ g n:=List.map_congr_left fun j hj => h j (List.mem_range.mp hj)
theorem convQ_congr {f g f' g' : Nat→Rat} {k : Nat} (h1 : ∀ j,j≤k→f j = f' j) (h2 : ∀ j,j≤k→g j = g' j) : convQ f g k = convQ f' g' k := by
  unfold convQ
  rw [seqQ_congr fun j hj => by rw [h1 j (by lia),h2 (k - j) (by lia)]]
theorem serNQ_congr {X Y : Nat→Nat→Rat} {nn k : Nat} (h : ∀ u j,u < nn→j≤k→X u j = Y u j) : ∀ (n : Nat) (ps : List Int),PwOk nn ps→ps.sum = (n : Int)→∀ (j : Nat),j≤k→serNQ X n ps j = serNQ Y n ps j
  | 0,_,_,_,_,_ => rfl
  | n + 1,ps,o,hs,j,hj => by
    have h0 : ps.sum≠0 := by lia
    obtain ⟨f1,_⟩:=fu_lt h0
    exact convQ_congr (fun i hi => serNQ_congr h n _ (o.low h0) (by rw [sum_set _ _ f1]; lia) i (by lia)) fun i hi => h _ i (by rw [← o.len]; exact f1) (by lia)
theorem serQ_congr {X Y : Nat→Nat→Rat} {nn k : Nat} (h : ∀ u j,u < nn→j≤k→X u j = Y u j) {ps : List Int} (o : PwOk nn ps) : serQ X ps k = serQ Y ps k:=serNQ_congr h _ _ o (by have:=sum_nonneg o.nn; lia) _ (Nat.le_refl _)
theorem spdQ_congr {X Y : Nat→Nat→Rat} {nn k : Nat} (h : ∀ u j,u < nn→j≤k→X u j = Y u j) {us : List Mono} (o : ∀ z∈us,PwOk nn z.1) : spdQ X us k = spdQ Y us k := by
  unfold spdQ
  congr 1
  exact List.map_congr_left fun m hm => by rw [serQ_congr h (o m hm)]
theorem int_by {B : Int} (hB : B≠0) (t : Int) : (t : Rat) = (B : Rat) * Rat.divInt t B := by
  have h : (B : Rat)≠0 := by simpa using hB
  rw [Rat.divInt_eq_div]
  grind
theorem part_whole {S : Int} {r : Rat} (h : (r.den : Int) ∣ S) : ((r.num * S.fdiv (r.den : Int) : Int) : Rat) = (S : Rat) * r := by
  obtain ⟨c,rfl⟩:=h
  have hd : (r.den : Int)≠0 := by have:=r.den_nz; lia
  rw [FM.fdiv_exact hd rfl,Rat.intCast_mul,Rat.intCast_mul]
  have e : (r.num : Rat) = ((r.den : Int) : Rat) * r := by
    have:=int_by hd r.num
    rw [FM.divInt_self] at this
    exact this
  rw [e]
  grind
theorem cast_pow (b : Int) : ∀ n : Nat,((b ^ n : Int) : Rat) = (b : Rat) ^ n
  | 0 => by simp
  | n + 1 => by rw [Int.pow_succ,Rat.intCast_mul,cast_pow b n,Rat.pow_succ]
theorem cast_sum : ∀ l : List Int,((l.sum : Int) : Rat) = (l.map fun x : Int => (x : Rat)).sum
  | [] => by simp
  | x :: l => by rw [List.sum_cons,Rat.intCast_add,cast_sum l,List.map_cons,List.sum_cons]
theorem sum_mul {α : Type} (c : Rat) (f : α→Rat) : ∀ l : List α,(l.map fun x => c * f x).sum = c * (l.map f).sum
  | [] => by simp
  | x :: l => by rw [List.map_cons,List.sum_cons,sum_mul c f l,List.map_cons,List.sum_cons,Rat.mul_add]
theorem rpow_add' (x : Rat) (m : Nat) : ∀ n,x ^ (m + n) = x ^ m * x ^ n
  | 0 => by simp
  | n + 1 => by rw [← Nat.add_assoc,Rat.pow_succ,Rat.pow_succ,rpow_add' x m n,Rat.mul_assoc]
theorem ser_scale {X : Nat→Nat→Int} {x : Nat→Nat→Rat} {g P : Rat} {nn k : Nat} (h : ∀ u j,u < nn→j≤k→((X u j : Int) : Rat) = g * P ^ j * x u j) : ∀ (n : Nat) (ps : List Int),PwOk nn ps→ps.sum = (n : Int)→∀ j,j≤k→((ser X ps j : Int) : Rat) = g ^ n * P ^ j * serNQ x n ps j
  | 0,ps,o,hs,j,hj => by
    rw [ser_zero (by lia)]
    show _ = g ^ 0 * P ^ j * (if j = 0 then 1 else 0)
    by_cases z : j = 0
    · subst z; simp
    · rw [if_neg z,if_neg z]; simp
  | n + 1,ps,o,hs,j,hj => by
    have h0 : ps.sum≠0 := by lia
    obtain ⟨f1,_⟩:=fu_lt h0
    rw [ser_succ o h0]
    show _ = g ^ (n + 1) * P ^ j * convQ (serNQ x n (lessP ps (fu ps))) (x (fu ps)) j
    unfold conv convQ seqQ
    rw [cast_sum,← sum_mul]
    unfold seqL
    rw [List.map_map]
    congr 1
    refine List.map_congr_left fun i hi => ?_
    have hi : i < j + 1:=List.mem_range.mp hi
    show ((ser X (lessP ps (fu ps)) i * X (fu ps) (j - i) : Int) : Rat) = _
    rw [Rat.intCast_mul,ser_scale h n _ (o.low h0) (by rw [sum_set _ _ f1]; lia) i (by lia),h (fu ps) (j - i) (by rw [← o.len]; exact f1) (by lia),Rat.pow_succ]
    have e : P ^ j = P ^ i * P ^ (j - i) := by rw [← rpow_add']; congr 1; lia
    rw [e]
    grind
theorem spd_scale {X : Nat→Nat→Int} {x : Nat→Nat→Rat} {g : Int} {P : Rat} {nn k gr : Nat} {B : Int} (h : ∀ u j,u < nn→j≤k→((X u j : Int) : Rat) = (g : Rat) * P ^ j * x u j) {us : List Mono} (hu : ∀ m∈us,PwOk nn m.1∧sumP m≤gr∧(m.2.den : Int) ∣ B) :
    ((spd X (wholeP B g gr us) k : Int) : Rat) = (B : Rat) * (g : Rat) ^ gr * P ^ k * spdQ x us k := by
  unfold spd wholeP spdQ
  rw [cast_sum,← sum_mul,List.map_map,List.map_map]
  congr 1
  refine List.map_congr_left fun m hm => ?_
  obtain ⟨o,hs,hd⟩:=hu m hm
  have s0:=sum_nonneg o.nn
  show (((wholeM B g gr m).2.num * ser X (wholeM B g gr m).1 k : Int) : Rat) = _
  unfold wholeM
  show (((m.2.num * B.fdiv (m.2.den : Int) * g ^ (gr - (sumP m).toNat)) * ser X m.1 k : Int) : Rat) = _
  rw [Rat.intCast_mul,Rat.intCast_mul,part_whole hd,cast_pow,ser_scale h m.1.sum.toNat m.1 o (by lia) k (Nat.le_refl _)]
  have e : (g : Rat) ^ gr = (g : Rat) ^ (gr - (sumP m).toNat) * (g : Rat) ^ m.1.sum.toNat := by
    rw [← rpow_add']
    congr 1
    unfold sumP at hs ⊢
    lia
  rw [e]
  show _ = _ * (m.2 * serNQ x m.1.sum.toNat m.1 k)
  grind
def rowsNQ (rs : List Rat) (uss : List (List Mono)) : Nat→Nat→Nat→Rat
  | 0 => fun u _ => rs.getD u 0
  | k + 1 => fun u j => if j≤k then rowsNQ rs uss k u j else spdQ (rowsNQ rs uss k) (uss.getD u []) k / ((k + 1 : Nat) : Rat)
def growQ (rs : List Rat) (uss : List (List Mono)) (u j : Nat) : Rat:=rowsNQ rs uss j u j
theorem rowsQ_eq {rs : List Rat} {uss : List (List Mono)} : ∀ {k j : Nat} (u : Nat),j≤k→rowsNQ rs uss k u j = growQ rs uss u j
  | 0,j,u,h => by rw [Nat.le_zero.mp h]; rfl
  | k + 1,j,u,h => by
    by_cases hk : j≤k
    · show (if j≤k then _ else _) = _
      rw [if_pos hk]; exact rowsQ_eq u hk
    · rw [show j = k + 1 by lia]; rfl
theorem growQ_succ {rs : List Rat} {uss : List (List Mono)} {nn : Nat} (hp : ∀ us∈uss,∀ z∈us,PwOk nn z.1) (u k : Nat) : growQ rs uss u (k + 1) = spdQ (growQ rs uss) (uss.getD u []) k / ((k + 1 : Nat) : Rat) := by
  show (if k + 1≤k then _ else _) = _
  rw [if_neg (by lia),spdQ_congr (nn:=nn) fun u j _ hj => rowsQ_eq u hj]
  intro z hz
  rw [List.getD_eq_getElem?_getD] at hz
  cases h : uss[u]? with
  | none => rw [h] at hz; cases hz
  | some us => rw [h] at hz; exact hp us (List.mem_of_getElem? h) z hz
theorem prodTo_dvd : ∀ n k : Nat,n≤7→k < n→((k : Int) + 1) ∣ prodTo n := by
  have : ∀ n,n≤7→∀ k,k < n→(prodTo n) % ((k : Int) + 1) = 0 := by decide
  exact fun n k h1 h2 => Int.dvd_of_emod_eq_zero (this n h1 k h2)
theorem wholeC_at {uss : List (List Mono)} {G : Int} {u : Nat} : (wholeC G uss).getD u [] = wholeP (speedsB uss) G (greatN uss) (uss.getD u []) := by
  unfold wholeC
  rw [List.getD_eq_getElem?_getD,List.getElem?_map,List.getD_eq_getElem?_getD]
  cases uss[u]? <;> rfl
theorem grow_is {uss : List (List Mono)} {rs : List Rat} {most nn : Nat} (o : GrOk uss rs most nn) : ∀ k,k≤most→∀ u j,u < nn→j≤k→((growX uss rs most u j : Int) : Rat) = ((grainL rs : Int) : Rat) * ((paceG uss rs most : Int) : Rat) ^ j * growQ rs uss u j
  | 0,_,u,j,hu,hj => by
    rw [Nat.le_zero.mp hj]
    obtain ⟨_,_,g3⟩:=o.grain
    have hl:=o.slen
    have hr : rs[u]? = some (rs[u]'(by lia)):=List.getElem?_eq_getElem _
    show (((topsL rs (grainL rs)).getD u 0 : Int) : Rat) = _ * _ ^ 0 * rs.getD u 0
    unfold topsL
    rw [List.getD_eq_getElem?_getD,List.getElem?_map,hr,List.getD_eq_getElem?_getD,hr]
    show ((_ * _ : Int) : Rat) = _ * _ * rs[u]
    rw [part_whole (g3 _ (List.getElem_mem _))]
    simp
  | k + 1,hk,u,j,hu,hj => by
    rcases Nat.lt_or_eq_of_le hj with h | h
    · exact grow_is o k (by lia) u j hu (by lia)
    · subst h
      have hm7:=o.mst
      obtain ⟨g1,_,_⟩:=o.grain
      obtain ⟨b1,_,b3⟩:=speedsB_ok (by rw [o.len]; exact o.n4) o.fit
      obtain ⟨p1,_,_,p4⟩:=o.pace
      obtain ⟨gr1,_,gr2⟩:=great_ok (uss:=uss) (c:=3) (by decide) fun us hus m hm => (o.sum us hus m hm).2
      have hum : uss.getD u []∈uss := by rw [List.getD_eq_getElem?_getD,List.getElem?_eq_getElem (show u < uss.length by rw [o.len]; exact hu)]; exact List.getElem_mem _
      have h1:=spd_scale (X:=growX uss rs most) (x:=growQ rs uss) (g:=grainL rs) (P:=((paceG uss rs most : Int) : Rat)) (gr:=greatN uss) (B:=speedsB uss) (fun u j hu hj => grow_is o k (by lia) u j hu hj) (us:=uss.getD u []) fun m hm => ⟨o.pw _ hum m hm,by unfold greatN; have:=gr2 _ hum m hm; lia,b3 _ hum m hm⟩
      have e : growX uss rs most u (k + 1) = spd (growX uss rs most) (wholeP (speedsB uss) (grainL rs) (greatN uss) (uss.getD u [])) k * (prodTo most).fdiv ((k : Int) + 1) := by
        unfold growX
        rw [grow_succ,wholeC_at]
      obtain ⟨c,hc⟩:=prodTo_dvd most k hm7 (by lia)
      have hf : (prodTo most).fdiv ((k : Int) + 1) = c := by rw [hc]; exact Int.mul_fdiv_cancel_left _ (by lia)
      rw [e,hf,Rat.intCast_mul,h1,growQ_succ o.pw]
      have hP : ((paceG uss rs most : Int) : Rat) = (speedsB uss : Rat) * ((grainL rs : Int) : Rat) ^ (greatN uss - 1) * ((k + 1 : Nat) : Rat) * (c : Rat) := by
        show ((speedsB uss * grainL rs ^ (greatN uss - 1) * prodTo most : Int) : Rat) = _
        rw [Rat.intCast_mul,Rat.intCast_mul,cast_pow,hc,Rat.intCast_mul,show (((k : Int) + 1 : Int) : Rat) = ((k + 1 : Nat) : Rat) by rw [← Rat.intCast_natCast]; rfl]
        grind
      have hG : ((grainL rs : Int) : Rat) ^ greatN uss = ((grainL rs : Int) : Rat) ^ (greatN uss - 1) * ((grainL rs : Int) : Rat) := by
        rw [← Rat.pow_succ]
        congr 1
        unfold greatN
        lia
      have hk0 : ((k + 1 : Nat) : Rat)≠0 := by
        rw [← Rat.intCast_natCast]
        exact fun z => by have:=Rat.intCast_inj.mp (z.trans Rat.intCast_zero.symm); lia
      rw [hG,Rat.pow_succ]
      generalize ((paceG uss rs most : Int) : Rat) ^ k = Pk
      generalize ((grainL rs : Int) : Rat) ^ (greatN uss - 1) = G at hP
      rw [hP]
      generalize ((k + 1 : Nat) : Rat) = kk at hk0
      grind
theorem growR_is {uss : List (List Mono)} {rs : List Rat} {most nn : Nat} (o : GrOk uss rs most nn) : growR uss rs most = (List.range nn).map fun u => seqQ (growQ rs uss u) (most + 1) := by
  obtain ⟨g1,_,_⟩:=o.grain
  obtain ⟨_,_,_,p4⟩:=o.pace
  unfold growR
  rw [o.len]
  refine List.map_congr_left fun u hu => seqQ_congr fun j hj => ?_
  have hu : u < nn:=List.mem_range.mp hu
  unfold rowF
  have h:=grow_is o most (Nat.le_refl _) u j hu (by lia)
  have hb : grainL rs * paceG uss rs most ^ j≠0:=Int.mul_ne_zero (by lia) (pow_nz (by lia) _)
  have h2:=int_by hb (growX uss rs most u j)
  rw [h,Rat.intCast_mul (grainL rs),cast_pow] at h2
  have n1 : ((grainL rs : Int) : Rat) * ((paceG uss rs most : Int) : Rat) ^ j≠0 := by
    rw [← cast_pow,← Rat.intCast_mul]
    exact fun z => hb (Rat.intCast_inj.mp (z.trans Rat.intCast_zero.symm))
  generalize ((grainL rs : Int) : Rat) * ((paceG uss rs most : Int) : Rat) ^ j = z at h2 n1
  generalize Rat.divInt _ _ = q at h2 ⊢
  generalize growQ rs uss u j = p at h2 ⊢
  grind
def ratOf : PyData→Rat
  | .tuple [.int a,.int b] => Rat.divInt a b
  | _ => 0
theorem ratOf_is (r : Rat) : ratOf (ratD r) = r:=FM.divInt_self r
theorem can_rat (r : Rat) : (ratD r).canLay0 = true := by unfold ratD; simp only [PyData.canLay0]; exact can_ints [r.num,(r.den : Int)]
section
variable {P : Program} {w : World} {K : PySem.W.Frag} {mg : Str→Option Value} {base : Heap} {CX : CXT} {k : Nat} {f : Addr} {fd : FuncData} {ps : List Str}
def mFr (ds : List PyData) : Option PyData:=match ds with
  | [.int t,.int b] => if b≠0∧b.natAbs < 2 ^ 400 then some (ratD (Rat.divInt t b)) else none
  | _ => none
theorem toFr (F : FnOk P w K mg base CX k f fd ps spFr) : FnOk P w K mg base CX k f fd ps (spD mFr) :=
  spD_imp F fun ds x hm G H vs Q E d e kk => by
    unfold mFr at hm
    split at hm
    · split at hm
      · rename_i hh
        cases hm
        obtain ⟨v1,v2,rfl,d1,d2⟩:=d.un2
        rw [Du] at d1 d2
        subst d1 d2
        refine ⟨_,_,400,rfl,hh.1,by decide,hh.2,fun l H' e' hl' => ?_⟩
        obtain ⟨G',n1,n2,n3,n4⟩:=tellT e e' hl' (duA_ints [(Rat.divInt _ _).num,((Rat.divInt _ _).den : Int)])
        exact kk _ G' H' n1 n2 n3 e' n4
      · cases hm
    · cases hm
end
theorem eq_ints (x y : Int) : dEq false (.int x) (.int y) = some (.bool (decide (x = y))) := by
  have h : SeqAt.shaped (.int x) = true∧SeqAt.shaped (.int y) = true:=⟨(Ok.int (n:=0)).shaped (by decide),(Ok.int (n:=0)).shaped (by decide)⟩
  refine (if_pos h).trans ?_
  simp [PyData.eqv]
  exact Bool.eq_iff_iff.mpr (by simp)
theorem mul9 {i j : Int} {n : Nat} (h1 : i.natAbs < 2 ^ n) (h2 : j.natAbs < 2 ^ n) (hn : n≤9000) : dMul (.int i) (.int j) = some (.int (i * j)):=mul_ok (by
  unfold mulOk
  rw [fit_of (n:=9000) (Nat.lt_of_lt_of_le h1 (Nat.pow_le_pow_right (by decide) hn)),fit_of (n:=9000) (Nat.lt_of_lt_of_le h2 (Nat.pow_le_pow_right (by decide) hn))]; simp)
theorem mFr_is {t b : Int} (h : b≠0) (h2 : b.natAbs < 2 ^ 400) : mFr [.int t,.int b] = some (ratD (Rat.divInt t b)):=if_pos ⟨h,h2⟩
def NumD : Nat→PyData→Prop
  | 0,d => ∃ i,d = .int i
  | n + 1,d => (∃ i,d = .int i)∨∃ ds,(d = .tuple ds∨d = .list ds)∧ds.length≤60∧∀ e∈ds,NumD n e
theorem num_un_l {n : Nat} {ds : List PyData} (h : NumD (n + 1) (.list ds)) : ds.length≤60∧∀ e∈ds,NumD n e := by
  rcases h with ⟨i,z⟩ | ⟨cs,h1,h2,h3⟩
  · cases z
  · rcases h1 with h1 | h1
    · cases h1
    · cases h1; exact ⟨h2,h3⟩
theorem num_un_t {n : Nat} {ds : List PyData} (h : NumD (n + 1) (.tuple ds)) : ds.length≤60∧∀ e∈ds,NumD n e := by
  rcases h with ⟨i,z⟩ | ⟨cs,h1,h2,h3⟩
  · cases z
  · rcases h1 with h1 | h1
    · cases h1; exact ⟨h2,h3⟩
    · cases h1
def spSame (n : Nat) : Sp:=fun vs H Q _ => ∃ d v1 v2 m,vs = [v1,v2]∧n = m + 1∧NumD m d∧DU H d v1∧DU H d v2∧∀ H',Same H H'→Q (.bl true) H'
section
variable {P : Program} {w : World} {K : PySem.W.Frag} {mg : Str→Option Value} {base : Heap} {f : Addr} {fd : FuncData}
theorem sc__law_same : FnScope ["_law_found", "_law_due"] ["_law_found", "_law_due"] (defScope s__law_same):=⟨rfl,rfl,rfl,by decide +kernel,rfl,by decide +kernel,by decide +kernel⟩
theorem ok__law_same (T__law_same : Fn K mg "_law_same" s__law_same ["_law_found", "_law_due"] f fd) (z_isinstance : mg "isinstance" = none) (z_list : mg "list" = none) (z_tuple : mg "tuple" = none) (z_int : mg "int" = none) (z_bool : mg "bool" = none) (z_len : mg "len" = none) (z_all : mg "all" = none) (z_zip : mg "zip" = none) :
    ∀ n,FnOk P w K mg base CX0 n f fd ["_law_found", "_law_due"] (spSame n)
  | 0 => ⟨fun _ _ _ _ ⟨_,_,_,_,_,h,_⟩ => absurd h (Nat.succ_ne_zero _).symm,fun _ _ _ _ _ _ _ _ _ _ _ _ _ ⟨_,_,_,_,_,h,_⟩ => absurd h (Nat.succ_ne_zero _).symm⟩
  | n + 1 => by
    have sc:=sc__law_same
    have G__law_same:=ok__law_same T__law_same z_isinstance z_list z_tuple z_int z_bool z_len z_all z_zip n
    refine T__law_same.F.ok (k:=n) sc (fun vs H Q E h => ?_) (fun cdv A outer s H vs Q E hr h => ?_)
    · obtain ⟨d,v1,v2,m,rfl,_⟩:=h
      rfl
    obtain ⟨d,v1,v2,m,rfl,hm,hn,d1,d2,q⟩:=h
    have hm : n = m := by lia
    subst hm
    refine ⟨_,(pss_cons (ps_if (PW.pt (pw_or (pt_val (pe_callB call_isi rfl z_isinstance PyProof.Rows.boot_isinstance (pa_cons (pv 1) (pa_cons (pe_bltn (v:=.ty "list") rfl z_list PyProof.Rows.boot_list rfl) pa_nil)))) (pw_or1 (pt_val (pe_callB call_isi rfl z_isinstance PyProof.Rows.boot_isinstance (pa_cons (pv 1) (pa_cons (pe_bltn (v:=.ty "tuple") rfl z_tuple PyProof.Rows.boot_tuple rfl) pa_nil)))))))
    (pss_cons (ps_if (PW.pt (pw_or (pt_cmpR op_ne (pe_callB call_isi rfl z_isinstance PyProof.Rows.boot_isinstance (pa_cons (pv 0) (pa_cons (pe_bltn (v:=.ty "list") rfl z_list PyProof.Rows.boot_list rfl) pa_nil))) (pe_callB call_isi rfl z_isinstance PyProof.Rows.boot_isinstance (pa_cons (pv 1) (pa_cons (pe_bltn (v:=.ty "list") rfl z_list PyProof.Rows.boot_list rfl) pa_nil))) (nomark _)) (pw_or1 (pt_cmpR op_ne (pe_callB call_isi rfl z_isinstance PyProof.Rows.boot_isinstance (pa_cons (pv 0) (pa_cons (pe_bltn (v:=.ty "tuple") rfl z_tuple PyProof.Rows.boot_tuple rfl) pa_nil))) (pe_callB call_isi rfl z_isinstance PyProof.Rows.boot_isinstance (pa_cons (pv 1) (pa_cons (pe_bltn (v:=.ty "tuple") rfl z_tuple PyProof.Rows.boot_tuple rfl) pa_nil))) (nomark _)))))
      (pss_one (ps_ret pe_bl))
      pss_nil)
    (pss_cons (ps_if (pt_cmpR op_ne (pe_callB call_len_seq rfl z_len PySem.boot_len (pa_cons (pv 0) pa_nil)) (pe_callB call_len_seq rfl z_len PySem.boot_len (pa_cons (pv 1) pa_nil)) (nomark _))
      (pss_one (ps_ret pe_bl))
      pss_nil)
    (pss_one (ps_ret (pe_callB (call_all rfl) rfl z_all PyProof.Rows.boot_all (pa_cons (pe_compr2 [".0", "_law_one", "_law_other"] 1 2 [none,none,none] (pi_zip rfl z_zip (pa_cons (pv 0) (pa_cons (pv 1) pa_nil))) (fun _ _ _ _ _ => pif_nil) (fun _ _ _ _ _ => (pe_fn T__law_same G__law_same hr rfl (pa_cons (pv 1) (pa_cons (pv 2) pa_nil))))) pa_nil))))))
    pss_nil)
  (pss_cons (ps_if (pt_cmpR op_isN (pv 1) pe_non (nomark _))
    (pss_one (ps_ret (pe_cmpR op_isN (pv 0) pe_non (nomark _))))
    pss_nil)
  (pss_one (ps_ret (pe_and (pe_callB call_isi rfl z_isinstance PyProof.Rows.boot_isinstance (pa_cons (pv 0) (pa_cons (pe_bltn (v:=.ty "int") rfl z_int PyProof.Rows.boot_int rfl) pa_nil))) (pe_and (pe_not (pe_callB call_isi rfl z_isinstance PyProof.Rows.boot_isinstance (pa_cons (pv 0) (pa_cons (pe_bltn (v:=.ty "bool") rfl z_bool PyProof.Rows.boot_bool rfl) pa_nil)))) (pe_one (pe_cmpR op_eq (pv 0) (pv 1) (nomark _))))))))),?_⟩
    have kind : (∃ i,d = .int i)∨(∃ ds,d = .list ds)∨∃ ds,d = .tuple ds := by
      cases n with
      | zero => exact .inl hn
      | succ n =>
        rcases hn with h | ⟨ds,h | h,_⟩
        · exact .inl h
        · exact .inr (.inr ⟨ds,h⟩)
        · exact .inr (.inl ⟨ds,h⟩)
    rcases kind with ⟨i,rfl⟩ | ⟨ds,rfl⟩ | ⟨ds,rfl⟩
    · obtain ⟨N1,h1⟩:=d1
      obtain ⟨N2,h2⟩:=d2
      replace h1:=h1 N1 (Nat.le_refl _)
      replace h2:=h2 N2 (Nat.le_refl _)
      have e1:=h1
      have e2:=h2
      rw [Dt] at e1 e2
      subst e1 e2
      refine ⟨_,rfl,_,_,_,_,rfl,nnt,h2.ty,kit_lstD K _ h2.nodict,_,rfl,iteF ⟨_,rfl,_,_,_,_,rfl,nnt,h2.ty,kit_tupD K _ h2.nodict,_,rfl,iteF ?_⟩⟩
      refine ⟨_,rfl,rfl,_,rfl,iteF ?_⟩
      refine ⟨_,rfl,_,_,_,_,rfl,nnt,h1.ty,kit_intD K _ h1.nodict,_,rfl,iteT ⟨_,rfl,_,_,_,_,rfl,nnt,h1.ty,kit_boolD K _ h1.nodict,_,rfl,_,rfl,iteT ⟨_,rfl,_,rfl,rfl,?_⟩⟩⟩
      have:=q H (.refl H)
      have ed : decide (V.int i = V.int i) = true:=decide_eq_true rfl
      rw [← ed] at this
      exact this
    ·
      obtain ⟨m',rfl⟩ : ∃ m',n = m' + 1 := by
        cases n with
        | zero => obtain ⟨_,z⟩:=hn; cases z
        | succ m' => exact ⟨m',rfl⟩
      obtain ⟨hlen60,hall⟩:=num_un_l hn
      obtain ⟨N1,h1⟩:=d1
      obtain ⟨N2,h2⟩:=d2
      have d1 : DU H (.list ds) v1:=⟨N1,h1⟩
      have d2 : DU H (.list ds) v2:=⟨N2,h2⟩
      replace h1:=h1 N1 (Nat.le_refl _)
      replace h2:=h2 N2 (Nat.le_refl _)
      refine ⟨_,rfl,_,_,_,_,rfl,nnt,h2.ty,kit_lstD K _ h2.nodict,_,rfl,iteT (iteT ?_)⟩
      refine ⟨_,rfl,_,_,_,_,rfl,nnt,h1.ty,kit_lstD K _ h1.nodict,_,rfl,_,_,_,_,rfl,nnt,h2.ty,kit_lstD K _ h2.nodict,rfl,_,rfl,iteF ⟨_,rfl,_,_,_,_,rfl,nnt,h1.ty,kit_tupD K _ h1.nodict,_,rfl,_,_,_,_,rfl,nnt,h2.ty,kit_tupD K _ h2.nodict,rfl,_,rfl,iteF ?_⟩⟩
      obtain ⟨a1,xs,rfl,ha1,k1⟩:=d1.unL
      obtain ⟨a2,ys,rfl,ha2,k2⟩:=d2.unL
      have l1:=k1.len
      have l2:=k2.len
      refine ⟨_,rfl,a1,xs,rfl,.inl (SqL.of ha1),_,rfl,a2,ys,rfl,.inl (SqL.of ha2),rfl,_,rfl,?_⟩
      have el : (!decide (V.int (xs.length : Nat) = V.int (ys.length : Nat))) = false := by rw [l1,l2]; simp
      rw [el]
      refine iteF ⟨_,rfl,_,rfl,false,false,a1,a2,rfl,⟨_,ha1⟩,⟨_,ha2⟩,fun D hD => comp_by2 (n:=xs.length) (fun i zs H' => Same H H'∧zs = (List.replicate i true).map V.bl) ?_ ?_ ?_⟩
      · exact ⟨same_new hD _,rfl⟩
      · rintro i zs H1 hi ⟨e1,rfl⟩ hD1
        have e1a:=e1 _ _ ha1
        have e1b:=e1 _ _ ha2
        have hx:=List.getElem?_eq_getElem hi
        have hy:=List.getElem?_eq_getElem (l:=ys) (i:=i) (by lia)
        refine ⟨⟨_,_,_,_,e1a,e1b,hx,hy⟩,Nat.lt_of_lt_of_le (show ((List.replicate i true).map V.bl).length < 60 by rw [List.length_map,List.length_replicate]; lia) (by rw [sizeLine_eq]; decide),fun v H' y => ?_⟩
        obtain ⟨p,x,z,rfl,np,rfl,q1,q2⟩:=y
        have hx':=q1 _ e1a
        have hy':=q2 _ e1b
        rw [hx] at hx'
        rw [hy] at hy'
        cases hx'
        cases hy'
        obtain ⟨e,he⟩ : ∃ e,ds[i]? = some e:=⟨ds[i]'(by lia),by simp [show i < ds.length by lia]⟩
        obtain ⟨u1,w1,w2⟩:=k1.get he
        obtain ⟨u2,w3,w4⟩:=k2.get he
        rw [hx] at w1
        rw [hy] at w3
        cases w1
        cases w3
        have sp:=same_new np (.tup [xs[i],ys[i]'(by lia)])
        refine ⟨p,_,_,rfl,SqT.of upd_same,?_⟩
        have E:=e1.trans sp
        unfold tNoIf
        refine iteT ⟨_,rfl,_,rfl,e,_,_,m',rfl,rfl,hall e (List.mem_of_getElem? he),w2.same E,w4.same E,fun H2 e2 => ⟨e2 _ _ (sp _ _ hD1),cw_next hi ⟨fun c o zz => ?_,?_⟩⟩⟩
        · rw [upd_ne (ne_of_none zz hD)]
          exact e2 _ _ (E _ _ zz)
        · rw [List.replicate_succ',List.map_append]; rfl
      · rintro zs H1 ⟨e1,rfl⟩ hD1
        refine ⟨⟨_,_,e1 _ _ ha1,e1 _ _ ha2,.inl rfl⟩,D,_,rfl,SqL.of hD1,?_⟩
        have:=q H1 e1
        have ea : (List.replicate xs.length true).all id = true := by simp
        rw [← ea] at this
        exact this
    ·
      obtain ⟨m',rfl⟩ : ∃ m',n = m' + 1 := by
        cases n with
        | zero => obtain ⟨_,z⟩:=hn; cases z
        | succ m' => exact ⟨m',rfl⟩
      obtain ⟨hlen60,hall⟩:=num_un_t hn
      obtain ⟨N1,h1⟩:=d1
      obtain ⟨N2,h2⟩:=d2
      have d1 : DU H (.tuple ds) v1:=⟨N1,h1⟩
      have d2 : DU H (.tuple ds) v2:=⟨N2,h2⟩
      replace h1:=h1 N1 (Nat.le_refl _)
      replace h2:=h2 N2 (Nat.le_refl _)
      refine ⟨_,rfl,_,_,_,_,rfl,nnt,h2.ty,kit_lstD K _ h2.nodict,_,rfl,iteF ⟨_,rfl,_,_,_,_,rfl,nnt,h2.ty,kit_tupD K _ h2.nodict,_,rfl,iteT ?_⟩⟩
      refine ⟨_,rfl,_,_,_,_,rfl,nnt,h1.ty,kit_lstD K _ h1.nodict,_,rfl,_,_,_,_,rfl,nnt,h2.ty,kit_lstD K _ h2.nodict,rfl,_,rfl,iteF ⟨_,rfl,_,_,_,_,rfl,nnt,h1.ty,kit_tupD K _ h1.nodict,_,rfl,_,_,_,_,rfl,nnt,h2.ty,kit_tupD K _ h2.nodict,rfl,_,rfl,iteF ?_⟩⟩
      obtain ⟨a1,xs,rfl,ha1,k1⟩:=d1.unT
      obtain ⟨a2,ys,rfl,ha2,k2⟩:=d2.unT
      have l1:=k1.len
      have l2:=k2.len
      refine ⟨_,rfl,a1,xs,rfl,.inr (SqT.of ha1),_,rfl,a2,ys,rfl,.inr (SqT.of ha2),rfl,_,rfl,?_⟩
      have el : (!decide (V.int (xs.length : Nat) = V.int (ys.length : Nat))) = false := by rw [l1,l2]; simp
      rw [el]
      refine iteF ⟨_,rfl,_,rfl,true,true,a1,a2,rfl,⟨_,ha1⟩,⟨_,ha2⟩,fun D hD => comp_by2 (n:=xs.length) (fun i zs H' => Same H H'∧zs = (List.replicate i true).map V.bl) ?_ ?_ ?_⟩
      · exact ⟨same_new hD _,rfl⟩
      · rintro i zs H1 hi ⟨e1,rfl⟩ hD1
        have e1a:=e1 _ _ ha1
        have e1b:=e1 _ _ ha2
        have hx:=List.getElem?_eq_getElem hi
        have hy:=List.getElem?_eq_getElem (l:=ys) (i:=i) (by lia)
        refine ⟨⟨_,_,_,_,e1a,e1b,hx,hy⟩,Nat.lt_of_lt_of_le (show ((List.replicate i true).map V.bl).length < 60 by rw [List.length_map,List.length_replicate]; lia) (by rw [sizeLine_eq]; decide),fun v H' y => ?_⟩
        obtain ⟨p,x,z,rfl,np,rfl,q1,q2⟩:=y
        have hx':=q1 _ e1a
        have hy':=q2 _ e1b
        rw [hx] at hx'
        rw [hy] at hy'
        cases hx'
        cases hy'
        obtain ⟨e,he⟩ : ∃ e,ds[i]? = some e:=⟨ds[i]'(by lia),by simp [show i < ds.length by lia]⟩
        obtain ⟨u1,w1,w2⟩:=k1.get he
        obtain ⟨u2,w3,w4⟩:=k2.get he
        rw [hx] at w1
        rw [hy] at w3
        cases w1
        cases w3
        have sp:=same_new np (.tup [xs[i],ys[i]'(by lia)])
        refine ⟨p,_,_,rfl,SqT.of upd_same,?_⟩
        have E:=e1.trans sp
        unfold tNoIf
        refine iteT ⟨_,rfl,_,rfl,e,_,_,m',rfl,rfl,hall e (List.mem_of_getElem? he),w2.same E,w4.same E,fun H2 e2 => ⟨e2 _ _ (sp _ _ hD1),cw_next hi ⟨fun c o zz => ?_,?_⟩⟩⟩
        · rw [upd_ne (ne_of_none zz hD)]
          exact e2 _ _ (E _ _ zz)
        · rw [List.replicate_succ',List.map_append]; rfl
      · rintro zs H1 ⟨e1,rfl⟩ hD1
        refine ⟨⟨_,_,e1 _ _ ha1,e1 _ _ ha2,.inl rfl⟩,D,_,rfl,SqL.of hD1,?_⟩
        have:=q H1 e1
        have ea : (List.replicate xs.length true).all id = true := by simp
        rw [← ea] at this
        exact this
end
abbrev polysD (uss : List (List Mono)) : PyData:=.list (uss.map polyD)
def intOf : PyData→Int
  | .int i => i
  | _ => 0
def monoOf : PyData→Mono
  | .tuple [.tuple ps,r] => (ps.map intOf,ratOf r)
  | _ => ([],0)
def polyOf : PyData→List Mono
  | .list ts => ts.map monoOf
  | _ => []
def polysOf : PyData→List (List Mono)
  | .list xs => xs.map polyOf
  | _ => []
theorem ints_back : ∀ ps : List Int,(ps.map PyData.int).map intOf = ps
  | [] => rfl
  | p :: ps => by rw [List.map_cons,List.map_cons,ints_back ps]; rfl
theorem monoOf_is (m : Mono) : monoOf (monoD m) = m := by
  show ((m.1.map PyData.int).map intOf,ratOf (ratD m.2)) = m
  rw [ints_back,ratOf_is]
theorem map_back {α β : Type} {f : α→β} {g : β→α} (h : ∀ a,g (f a) = a) : ∀ l : List α,(l.map f).map g = l
  | [] => rfl
  | a :: l => by rw [List.map_cons,List.map_cons,map_back h l,h]
theorem polyOf_is (us : List Mono) : polyOf (polyD us) = us:=map_back monoOf_is us
theorem polysOf_is (uss : List (List Mono)) : polysOf (polysD uss) = uss:=map_back polyOf_is uss
theorem can_mono (m : Mono) : (monoD m).canLay0 = true:=can_t fun d hd => by
  rcases List.mem_cons.mp hd with rfl | hd
  · exact can_t fun d hd => by obtain ⟨p,_,rfl⟩:=List.mem_map.mp hd; simp [PyData.canLay0]
  · rw [List.mem_singleton.mp hd]; exact can_rat _
theorem can_poly (us : List Mono) : (polyD us).canLay0 = true:=can_l fun d hd => by obtain ⟨p,_,rfl⟩:=List.mem_map.mp hd; exact can_mono p
theorem can_fracs (rs : List Rat) : PyData.canLayAll0 (fracsD rs) = true:=canAll_of fun d hd => by
  unfold fracsD at hd
  obtain ⟨p,_,rfl⟩:=List.mem_map.mp hd
  exact can_rat p
open Classical in
noncomputable def mGR (ds : List PyData) : Option PyData:=match ds with
  | [x,.list ys,.int n] => if x = polysD (polysOf x)∧ys = fracsD (ys.map ratOf)∧0≤n∧∃ nn,GrOk (polysOf x) (ys.map ratOf) n.toNat nn then some (.list (rowsD (growR (polysOf x) (ys.map ratOf) n.toNat))) else none
  | _ => none
theorem mGR_is {uss : List (List Mono)} {rs : List Rat} {most nn : Nat} (o : GrOk uss rs most nn) : mGR [polysD uss,.list (fracsD rs),.int (most : Nat)] = some (.list (rowsD ((List.range nn).map fun u => seqQ (growQ rs uss u) (most + 1)))) := by
  rw [← growR_is o]
  have e1 : (fracsD rs).map ratOf = rs:=map_back ratOf_is rs
  have e2:=polysOf_is uss
  unfold mGR
  refine (if_pos ⟨by rw [e2],by rw [e1],Int.natCast_nonneg _,nn,by rw [e2,e1]; exact o⟩).trans ?_
  rw [e2,e1]
  rfl
theorem rows_newG {G H H' : Hp} : ∀ {rs : List (List Rat)} {xs : List V},DUs H' (rowsD rs) xs→(∀ z∈xs,∃ a,z = .ref a∧H a = none)→DuA (newG G H H') (rowsD rs) xs
  | [],xs,h,_ => by
    have:=h.len
    have e : xs = []:=List.eq_nil_of_length_eq_zero (by simpa [rowsD] using this)
    rw [e]; exact .nil
  | q :: qs,xs,h,hn => by
    obtain ⟨x,r,rfl,h1,h2⟩:=DUs.unC (d:=rowD q) (ds:=rowsD qs) h
    obtain ⟨a,ys,e,ha,dy⟩:=h1.unL
    obtain ⟨b,e2,hb⟩:=hn x (.head _)
    rw [e] at e2
    cases e2
    subst e
    refine .cons ?_ (rows_newG h2 fun z hz => hn z (.tail _ hz))
    show Du _ (.list (fracsD q)) _
    rw [Du]
    exact ⟨a,ys,rfl,newG_l ha hb,fracs_newG dy⟩
theorem num_can : ∀ {n : Nat} {d : PyData},NumD n d→d.canLay0 = true
  | 0,d,⟨i,h⟩ => by rw [h]; simp [PyData.canLay0]
  | n + 1,d,h => by
    rcases h with ⟨i,h⟩ | ⟨ds,h,_,h2⟩
    · rw [h]; simp [PyData.canLay0]
    · rcases h with h | h
      · rw [h]; exact can_t fun e he => num_can (h2 e he)
      · rw [h]; exact can_l fun e he => num_can (h2 e he)
open Classical in
noncomputable def mSame (n : Nat) (ds : List PyData) : Option PyData:=match ds with
  | [d,e] => if d = e∧NumD n d then some (.bool true) else none
  | _ => none
theorem mSame_is {n : Nat} {d e : PyData} (h : d = e) (hn : NumD n d) : mSame n [d,e] = some (.bool true):=if_pos ⟨h,hn⟩
section
variable {P : Program} {w : World} {K : PySem.W.Frag} {mg : Str→Option Value} {base : Heap} {CX : CXT} {k : Nat} {f : Addr} {fd : FuncData} {ps : List Str}
theorem toGR (F : FnOk P w K mg base CX k f fd ps spGR) : FnOk P w K mg base CX k f fd ps (spD mGR) :=
  spD_imp F fun ds x hm G H vs Q E d e kk => by
    unfold mGR at hm
    split at hm
    · rename_i x ys n
      split at hm
      · rename_i hh
        obtain ⟨h1,h2,h3,nn,h4⟩:=hh
        cases hm
        generalize polysOf x = uss at h1 h4 kk
        generalize ys.map ratOf = rs at h2 h4 kk
        subst h1 h2
        obtain ⟨v1,r,rfl,d1,d⟩:=d.un
        obtain ⟨v2,v3,rfl,d2,d3⟩:=d.un2
        rw [Du] at d3
        subst d3
        have d1:=du_DU (can_l fun d hd => by obtain ⟨p,_,rfl⟩:=List.mem_map.mp hd; exact can_poly p) (d1.same e)
        have d2:=du_DU (by simp only [PyData.canLay0]; exact can_fracs _) (d2.same e)
        obtain ⟨C,cs,rfl,hC,dc⟩:=d1.unL
        obtain ⟨S,ss,rfl,hS,dS⟩:=d2.unL
        refine ⟨C,S,cs,ss,uss,rs,n.toNat,nn,by rw [Int.toNat_of_nonneg h3],hC,dc,hS,dS,h4,fun D H' zs e' hD hD' dz nz => ?_⟩
        obtain ⟨n1,n2,n3⟩:=newG_ok e e'
        refine kk (.ref D) _ H' n1 n2 n3 e' ?_
        rw [Du]
        exact ⟨D,zs,rfl,newG_l hD' hD,rows_newG dz nz⟩
      · cases hm
    · cases hm
theorem toSame {n : Nat} (F : FnOk P w K mg base CX k f fd ps (spSame (n + 1))) : FnOk P w K mg base CX k f fd ps (spD (mSame n)) :=
  spD_imp F fun ds x hm G H vs Q E d e kk => by
    unfold mSame at hm
    split at hm
    · split at hm
      · rename_i hh
        obtain ⟨h1,h2⟩:=hh
        cases hm
        subst h1
        obtain ⟨v1,v2,rfl,d1,d2⟩:=d.un2
        refine ⟨_,v1,v2,n,rfl,rfl,h2,du_DU (num_can h2) (d1.same e),du_DU (num_can h2) (d2.same e),fun H' e' => ?_⟩
        exact kk (.bl true) G H' (.refl _) Nw.refl (e.trans e') e' (by rw [Du])
      · cases hm
    · cases hm
end
section
variable {P : Program} {w : World} {K : PySem.W.Frag} {mg : Str→Option Value} {base : Heap} {f : Addr} {fd : FuncData}
theorem sy__law_by : FnScope ["_law_one", "_law_other"] ["_law_one", "_law_other"] (defScope s__law_by):=⟨rfl,rfl,rfl,by decide +kernel,rfl,by decide +kernel,by decide +kernel⟩
def F__law_by (m__law_frac : List PyData→Option PyData) : DF :=
  (sRet (fCall m__law_frac (fCons (op2 dMul (op2 dIx (nm 0) (fC (.int 0))) (op2 dIx (nm 1) (fC (.int 0)))) (fCons (op2 dMul (op2 dIx (nm 0) (fC (.int 1))) (op2 dIx (nm 1) (fC (.int 1)))) fNil))))
def m__law_by (m__law_frac : List PyData→Option PyData) : List PyData→Option PyData:=retD ["_law_one", "_law_other"] ["_law_one", "_law_other"] (F__law_by m__law_frac)
theorem ob__law_by {k : Nat} {m__law_frac : List PyData→Option PyData}
    {f__law_frac : Addr} {fd__law_frac : FuncData} (T__law_frac : Fn K mg "_law_frac" s__law_frac ["_law_top", "_law_bottom"] f__law_frac fd__law_frac) (G__law_frac : FnOk P w K mg base CX0 k f__law_frac fd__law_frac ["_law_top", "_law_bottom"] (spD m__law_frac)) (cdv : Value) (A : Around) (outer : List Env) (s : Shared) (H : Hp) (E : XK) (hr : Room k (A.deeper (PyProof.Rows.envOfC "_law_by" (defScope s__law_by) s.heap.objs.size f cdv))) :
    DSs (cxOf CX0 P w K mg base ["_law_one", "_law_other"] "_law_by" (defScope s__law_by) f cdv A outer s H E).nox (defBody s__law_by) (F__law_by m__law_frac) := by
  have sc:=sy__law_by
  exact (dss_one (ds_ret (de_call T__law_frac G__law_frac hr rfl (da_cons (de_op do_mul (de_ix (de_var (pv 0)) de_int (fun _ _ => rfl)) (de_ix (de_var (pv 1)) de_int (fun _ _ => rfl))) (da_cons (de_op do_mul (de_ix (de_var (pv 0)) de_int (fun _ _ => rfl)) (de_ix (de_var (pv 1)) de_int (fun _ _ => rfl))) da_nil)))))
theorem od__law_by {k : Nat} {m__law_frac : List PyData→Option PyData} (F : Fn K mg "_law_by" s__law_by ["_law_one", "_law_other"] f fd)
    {f__law_frac : Addr} {fd__law_frac : FuncData} (T__law_frac : Fn K mg "_law_frac" s__law_frac ["_law_top", "_law_bottom"] f__law_frac fd__law_frac) (G__law_frac : FnOk P w K mg base CX0 k f__law_frac fd__law_frac ["_law_top", "_law_bottom"] (spD m__law_frac)) :
    FnOk P w K mg base CX0 (k + 1) f fd ["_law_one", "_law_other"] (spD (m__law_by m__law_frac)):=okD F sy__law_by (ob__law_by T__law_frac G__law_frac)
theorem sy__law_power : FnScope ["_law_part_here", "_law_many", "_law_found", "_law_k"] ["_law_part_here", "_law_many"] (defScope s__law_power):=⟨rfl,rfl,rfl,by decide +kernel,rfl,by decide +kernel,by decide +kernel⟩
def F__law_power (m__law_by : List PyData→Option PyData) : DF :=
  (seqD (sSet 2 (fTup (fCons (fC (.int 1)) (fCons (fC (.int 1)) fNil))))
  (seqD (sFor (iCall rng1 (fCons (nm 1) fNil)) (setN 3)
    (sSet 2 (fCall m__law_by (fCons (nm 2) (fCons (nm 0) fNil)))))
  (sRet (nm 2))))
def m__law_power (m__law_by : List PyData→Option PyData) : List PyData→Option PyData:=retD ["_law_part_here", "_law_many"] ["_law_part_here", "_law_many", "_law_found", "_law_k"] (F__law_power m__law_by)
theorem ob__law_power {k : Nat} {m__law_by : List PyData→Option PyData}
    {f__law_by : Addr} {fd__law_by : FuncData} (T__law_by : Fn K mg "_law_by" s__law_by ["_law_one", "_law_other"] f__law_by fd__law_by) (G__law_by : FnOk P w K mg base CX0 k f__law_by fd__law_by ["_law_one", "_law_other"] (spD m__law_by)) (z_range : mg "range" = none) (cdv : Value) (A : Around) (outer : List Env) (s : Shared) (H : Hp) (E : XK) (hr : Room k (A.deeper (PyProof.Rows.envOfC "_law_power" (defScope s__law_power) s.heap.objs.size f cdv))) :
    DSs (cxOf CX0 P w K mg base ["_law_part_here", "_law_many", "_law_found", "_law_k"] "_law_power" (defScope s__law_power) f cdv A outer s H E).nox (defBody s__law_power) (F__law_power m__law_by) := by
  have sc:=sy__law_power
  exact (dss_cons (ds_set (i:=2) sc.nd rfl (Or.inl rfl) (de_tup (da_cons de_int (da_cons de_int da_nil))))
  (dss_cons (ds_for PassesOwn.never rfl (di_range1 rfl z_range (da_cons (de_var (pv 1)) da_nil)) (dg_name (pg_name (i:=3) sc.nd rfl (Or.inl rfl)))
    (dss_one (ds_set (i:=2) sc.nd rfl (Or.inl rfl) (de_call T__law_by G__law_by hr rfl (da_cons (de_var (pv 2)) (da_cons (de_var (pv 0)) da_nil))))))
  (dss_one (ds_ret (de_var (pv 2))))))
theorem od__law_power {k : Nat} {m__law_by : List PyData→Option PyData} (F : Fn K mg "_law_power" s__law_power ["_law_part_here", "_law_many"] f fd)
    {f__law_by : Addr} {fd__law_by : FuncData} (T__law_by : Fn K mg "_law_by" s__law_by ["_law_one", "_law_other"] f__law_by fd__law_by) (G__law_by : FnOk P w K mg base CX0 k f__law_by fd__law_by ["_law_one", "_law_other"] (spD m__law_by)) (z_range : mg "range" = none) :
    FnOk P w K mg base CX0 (k + 1) f fd ["_law_part_here", "_law_many"] (spD (m__law_power m__law_by)):=okD F sy__law_power (ob__law_power T__law_by G__law_by z_range)
theorem sy__law_through : FnScope ["_law_many", "_law_found", "_law_k"] ["_law_many"] (defScope s__law_through):=⟨rfl,rfl,rfl,by decide +kernel,rfl,by decide +kernel,by decide +kernel⟩
def F__law_through : DF :=
  (seqD (sSet 1 (fC (.int 1)))
  (seqD (sFor (iCall rng2 (fCons (fC (.int 1)) (fCons (op2 dAdd (nm 0) (fC (.int 1))) fNil))) (setN 2)
    (sSet 1 (op2 dMul (nm 1) (nm 2))))
  (sRet (fTup (fCons (fC (.int 1)) (fCons (nm 1) fNil))))))
def m__law_through : List PyData→Option PyData:=retD ["_law_many"] ["_law_many", "_law_found", "_law_k"] (F__law_through)
theorem ob__law_through {k : Nat} (z_range : mg "range" = none) (cdv : Value) (A : Around) (outer : List Env) (s : Shared) (H : Hp) (E : XK) (hr : Room k (A.deeper (PyProof.Rows.envOfC "_law_through" (defScope s__law_through) s.heap.objs.size f cdv))) :
    DSs (cxOf CX0 P w K mg base ["_law_many", "_law_found", "_law_k"] "_law_through" (defScope s__law_through) f cdv A outer s H E).nox (defBody s__law_through) (F__law_through) := by
  have sc:=sy__law_through
  exact (dss_cons (ds_set (i:=1) sc.nd rfl (Or.inl rfl) de_int)
  (dss_cons (ds_for PassesOwn.never rfl (di_range2 rfl z_range (da_cons de_int (da_cons (de_op do_add (de_var (pv 0)) de_int) da_nil))) (dg_name (pg_name (i:=2) sc.nd rfl (Or.inl rfl)))
    (dss_one (ds_set (i:=1) sc.nd rfl (Or.inl rfl) (de_op do_mul (de_var (pv 1)) (de_var (pv 2))))))
  (dss_one (ds_ret (de_tup (da_cons de_int (da_cons (de_var (pv 1)) da_nil)))))))
theorem od__law_through {k : Nat} (F : Fn K mg "_law_through" s__law_through ["_law_many"] f fd) (z_range : mg "range" = none) :
    FnOk P w K mg base CX0 (k + 1) f fd ["_law_many"] (spD (m__law_through)):=okD F sy__law_through (ob__law_through z_range)
theorem sc_law : FnScope ["_law_script", "_law_pile", "_law_x", "_law_y", "_law_rate", "_law_most", "_law_size", "_law_grown_so", "_law_linear", "_law_square", "_law_turning", "_law_rounds", "_law_due", "_law_falling_so", "_law_noughts", "_law_even"] ["_law_script"] (defScope s_law):=⟨rfl,rfl,rfl,by decide +kernel,rfl,by decide +kernel,by decide +kernel⟩
def F_law_5 (m__law_by : List PyData→Option PyData) (m__law_power : List PyData→Option PyData) (m__law_same : List PyData→Option PyData) (m__law_through : List PyData→Option PyData) (m_growth_rows : List PyData→Option PyData) : DF :=
  (seqD (sSet 6 (op2 dAdd (nm 5) (fC (.int 1))))
  (seqD (sSet 7 (compD (set1 1) bYes (fCall m__law_by (fCons (fCall m__law_by (fCons (nm 2) (fCons (fCall m__law_power (fCons (nm 3) (fCons (nm 1) fNil))) fNil))) (fCons (fCall m__law_through (fCons (nm 1) fNil)) fNil))) [none,none,some 2,some 4] (iCall rng1 (fCons (nm 6) fNil))))
  (seqD (sSet 8 (fLst (fCons (fLst (fCons (fTup (fCons (fTup (fCons (fC (.int 1)) fNil)) (fCons (nm 4) fNil))) fNil)) fNil)))
  (seqD (sIf (bCmp (dEq false) (op2 dIx (nm 4) (fC (.int 0))) (fC (.int 0)))
    (sSet 8 (fLst (fCons (fLst fNil) fNil)))
    sNext)
  (seqD (sIf (bNot (bVal (fCall m__law_same (fCons (fCall m_growth_rows (fCons (nm 8) (fCons (fLst (fCons (nm 2) fNil)) (fCons (nm 5) fNil)))) (fCons (fLst (fCons (nm 7) fNil)) fNil)))))
    (sRet (fC (.bool false)))
    sNext)
  (seqD (sSet 9 (fLst (fCons (fLst (fCons (fTup (fCons (fTup (fCons (fC (.int 2)) fNil)) (fCons (fTup (fCons (fC (.int 1)) (fCons (fC (.int 1)) fNil))) fNil))) fNil)) fNil)))
  (seqD (sIf (bNot (bVal (fCall m__law_same (fCons (fCall m_growth_rows (fCons (nm 9) (fCons (fLst (fCons (nm 2) fNil)) (fCons (nm 5) fNil)))) (fCons (fLst (fCons (compD (set1 1) bYes (fCall m__law_power (fCons (nm 2) (fCons (op2 dAdd (nm 1) (fC (.int 1))) fNil))) [none,none,some 2] (iCall rng1 (fCons (nm 6) fNil))) fNil)) fNil)))))
    (sRet (fC (.bool false)))
    sNext)
  (seqD (sSet 10 (fLst (fCons (fLst (fCons (fTup (fCons (fTup (fCons (fC (.int 0)) (fCons (fC (.int 1)) fNil))) (fCons (fTup (fCons (fC (.int 1)) (fCons (fC (.int 1)) fNil))) fNil))) fNil)) (fCons (fLst (fCons (fTup (fCons (fTup (fCons (fC (.int 1)) (fCons (fC (.int 0)) fNil))) (fCons (fTup (fCons (fNeg (fC (.int 1))) (fCons (fC (.int 1)) fNil))) fNil))) fNil)) fNil))))
  (seqD (sSet 11 (fLst (fCons (fLst (fCons (nm 2) (fCons (nm 3) (fCons (fCall m__law_by (fCons (nm 2) (fCons (fTup (fCons (fNeg (fC (.int 1))) (fCons (fC (.int 1)) fNil))) fNil))) (fCons (fCall m__law_by (fCons (nm 3) (fCons (fTup (fCons (fNeg (fC (.int 1))) (fCons (fC (.int 1)) fNil))) fNil))) fNil))))) (fCons (fLst (fCons (nm 3) (fCons (fCall m__law_by (fCons (nm 2) (fCons (fTup (fCons (fNeg (fC (.int 1))) (fCons (fC (.int 1)) fNil))) fNil))) (fCons (fCall m__law_by (fCons (nm 3) (fCons (fTup (fCons (fNeg (fC (.int 1))) (fCons (fC (.int 1)) fNil))) fNil))) (fCons (nm 2) fNil))))) fNil))))
  (seqD (sSet 12 (compD (set1 1) bYes (compD (set1 1) bYes (fCall m__law_by (fCons (op2 dIx (nm 2) (op2 iMod (nm 1) (fC (.int 4)))) (fCons (fCall m__law_through (fCons (nm 1) fNil)) fNil))) [none,none,some 1] (iCall rng1 (fCons (nm 2) fNil))) [none,none,some 6] (iSeq (nm 11))))
  (seqD (sIf (bNot (bVal (fCall m__law_same (fCons (fCall m_growth_rows (fCons (nm 10) (fCons (fLst (fCons (nm 2) (fCons (nm 3) fNil))) (fCons (nm 5) fNil)))) (fCons (nm 12) fNil)))))
    (sRet (fC (.bool false)))
    sNext)
  (seqD (sSet 13 (fLst (fCons (fLst (fCons (fTup (fCons (fTup (fCons (fC (.int 0)) (fCons (fC (.int 1)) fNil))) (fCons (fTup (fCons (fC (.int 1)) (fCons (fC (.int 1)) fNil))) fNil))) fNil)) (fCons (fLst (fCons (fTup (fCons (fTup (fCons (fC (.int 0)) (fCons (fC (.int 0)) fNil))) (fCons (fTup (fCons (fC (.int 1)) (fCons (fC (.int 1)) fNil))) fNil))) fNil)) fNil))))
  (seqD (sSet 14 (compD (set1 1) bYes (fTup (fCons (fC (.int 0)) (fCons (fC (.int 1)) fNil))) [none,none] (iCall rng1 (fCons (fC (.int 7)) fNil))))
  (seqD (sSet 12 (fLst (fCons (fCut (op2 dAdd (fLst (fCons (nm 2) (fCons (nm 3) (fCons (fTup (fCons (fC (.int 1)) (fCons (fC (.int 2)) fNil))) fNil)))) (nm 14)) oNone (oSome (nm 6))) (fCons (fCut (op2 dAdd (fLst (fCons (nm 3) (fCons (fTup (fCons (fC (.int 1)) (fCons (fC (.int 1)) fNil))) fNil))) (nm 14)) oNone (oSome (nm 6))) fNil))))
  (seqD (sIf (bNot (bVal (fCall m__law_same (fCons (fCall m_growth_rows (fCons (nm 13) (fCons (fLst (fCons (nm 2) (fCons (nm 3) fNil))) (fCons (nm 5) fNil)))) (fCons (nm 12) fNil)))))
    (sRet (fC (.bool false)))
    sNext)
  (seqD (sSet 15 (fLst (fCons (fLst (fCons (fTup (fCons (fTup (fCons (fC (.int 0)) fNil)) (fCons (nm 4) fNil))) fNil)) fNil)))
  (seqD (sIf (bCmp (dEq false) (op2 dIx (nm 4) (fC (.int 0))) (fC (.int 0)))
    (sSet 15 (fLst (fCons (fLst fNil) fNil)))
    sNext)
  (sRet (fCall m__law_same (fCons (fCall m_growth_rows (fCons (nm 15) (fCons (fLst (fCons (nm 2) fNil)) (fCons (nm 5) fNil)))) (fCons (fLst (fCons (fCut (op2 dAdd (fLst (fCons (nm 2) (fCons (nm 4) fNil))) (nm 14)) oNone (oSome (nm 6))) fNil)) fNil)))))))))))))))))))))
theorem os_law_5 {k : Nat} {m__law_by : List PyData→Option PyData} {m__law_power : List PyData→Option PyData} {m__law_same : List PyData→Option PyData} {m__law_through : List PyData→Option PyData} {m_growth_rows : List PyData→Option PyData}
    {f__law_by : Addr} {fd__law_by : FuncData} (T__law_by : Fn K mg "_law_by" s__law_by ["_law_one", "_law_other"] f__law_by fd__law_by) (G__law_by : FnOk P w K mg base CX0 k f__law_by fd__law_by ["_law_one", "_law_other"] (spD m__law_by))
    {f__law_power : Addr} {fd__law_power : FuncData} (T__law_power : Fn K mg "_law_power" s__law_power ["_law_part_here", "_law_many"] f__law_power fd__law_power) (G__law_power : FnOk P w K mg base CX0 k f__law_power fd__law_power ["_law_part_here", "_law_many"] (spD m__law_power))
    {f__law_same : Addr} {fd__law_same : FuncData} (T__law_same : Fn K mg "_law_same" s__law_same ["_law_found", "_law_due"] f__law_same fd__law_same) (G__law_same : FnOk P w K mg base CX0 k f__law_same fd__law_same ["_law_found", "_law_due"] (spD m__law_same))
    {f__law_through : Addr} {fd__law_through : FuncData} (T__law_through : Fn K mg "_law_through" s__law_through ["_law_many"] f__law_through fd__law_through) (G__law_through : FnOk P w K mg base CX0 k f__law_through fd__law_through ["_law_many"] (spD m__law_through))
    {f_growth_rows : Addr} {fd_growth_rows : FuncData} (T_growth_rows : Fn K mg "growth_rows" s_growth_rows ["change", "start", "most"] f_growth_rows fd_growth_rows) (G_growth_rows : FnOk P w K mg base CX0 k f_growth_rows fd_growth_rows ["change", "start", "most"] (spD m_growth_rows)) (z_range : mg "range" = none) (cdv : Value) (A : Around) (outer : List Env) (s : Shared) (H : Hp) (E : XK) (hr : Room k (A.deeper (PyProof.Rows.envOfC "law" (defScope s_law) s.heap.objs.size f cdv))) :
    DSs (cxOf CX0 P w K mg base ["_law_script", "_law_pile", "_law_x", "_law_y", "_law_rate", "_law_most", "_law_size", "_law_grown_so", "_law_linear", "_law_square", "_law_turning", "_law_rounds", "_law_due", "_law_falling_so", "_law_noughts", "_law_even"] "law" (defScope s_law) f cdv A outer s H E).nox ((defBody s_law).drop 5) (F_law_5 m__law_by m__law_power m__law_same m__law_through m_growth_rows) := by
  have sc:=sc_law
  exact (dss_cons (ds_set (i:=6) sc.nd rfl (Or.inr rfl) (de_op do_add (de_var (pv 5)) de_int))
  (dss_cons (ds_setComp (i:=7) [".0", "_law_k", "_law_x", "_law_rate"] 1 [none,none,some 2,some 4] sc.nd rfl rfl (di_range1 rfl z_range (da_cons (de_var (pv 6)) da_nil)) (fun _ _ _ _ _ => dif_nil) (fun _ _ _ _ _ => (de_call T__law_by G__law_by hr rfl (da_cons (de_call T__law_by G__law_by hr rfl (da_cons (de_var (pv 2)) (da_cons (de_call T__law_power G__law_power hr rfl (da_cons (de_var (pv 3)) (da_cons (de_var (pv 1)) da_nil))) da_nil))) (da_cons (de_call T__law_through G__law_through hr rfl (da_cons (de_var (pv 1)) da_nil)) da_nil)))))
  (dss_cons (ds_set (i:=8) sc.nd rfl (Or.inl rfl) (de_lst (da_cons (de_lst (da_cons (de_tup (da_cons (de_tup (da_cons de_int da_nil)) (da_cons (de_var (pv 4)) da_nil))) da_nil)) da_nil)))
  (dss_cons (ds_if (dt_cmp (do_eq (by have:=hr.units; exact this)) (de_ix (de_var (pv 4)) de_int (fun _ _ => rfl)) de_int (nomark _))
    (dss_one (ds_set (i:=8) sc.nd rfl (Or.inl rfl) (de_lst (da_cons (de_lst da_nil) da_nil))))
    dss_nil)
  (dss_cons (ds_if (dt_not (dt_val (de_call T__law_same G__law_same hr rfl (da_cons (de_call T_growth_rows G_growth_rows hr rfl (da_cons (de_var (pv 8)) (da_cons (de_lst (da_cons (de_var (pv 2)) da_nil)) (da_cons (de_var (pv 5)) da_nil)))) (da_cons (de_lst (da_cons (de_var (pv 7)) da_nil)) da_nil)))))
    (dss_one (ds_ret de_bl))
    dss_nil)
  (dss_cons (ds_set (i:=9) sc.nd rfl (Or.inl rfl) (de_lst (da_cons (de_lst (da_cons (de_tup (da_cons (de_tup (da_cons de_int da_nil)) (da_cons (de_tup (da_cons de_int (da_cons de_int da_nil))) da_nil))) da_nil)) da_nil)))
  (dss_cons (ds_if (dt_not (dt_val (de_call T__law_same G__law_same hr rfl (da_cons (de_call T_growth_rows G_growth_rows hr rfl (da_cons (de_var (pv 9)) (da_cons (de_lst (da_cons (de_var (pv 2)) da_nil)) (da_cons (de_var (pv 5)) da_nil)))) (da_cons (de_lst (da_cons (de_comp [".0", "_law_k", "_law_x"] 1 [none,none,some 2] (di_range1 rfl z_range (da_cons (de_var (pv 6)) da_nil)) (fun _ _ _ _ _ => dif_nil) (fun _ _ _ _ _ => (de_call T__law_power G__law_power hr rfl (da_cons (de_var (pv 2)) (da_cons (de_op do_add (de_var (pv 1)) de_int) da_nil))))) da_nil)) da_nil)))))
    (dss_one (ds_ret de_bl))
    dss_nil)
  (dss_cons (ds_set (i:=10) sc.nd rfl (Or.inl rfl) (de_lst (da_cons (de_lst (da_cons (de_tup (da_cons (de_tup (da_cons de_int (da_cons de_int da_nil))) (da_cons (de_tup (da_cons de_int (da_cons de_int da_nil))) da_nil))) da_nil)) (da_cons (de_lst (da_cons (de_tup (da_cons (de_tup (da_cons de_int (da_cons de_int da_nil))) (da_cons (de_tup (da_cons (de_neg de_int) (da_cons de_int da_nil))) da_nil))) da_nil)) da_nil))))
  (dss_cons (ds_set (i:=11) sc.nd rfl (Or.inl rfl) (de_lst (da_cons (de_lst (da_cons (de_var (pv 2)) (da_cons (de_var (pv 3)) (da_cons (de_call T__law_by G__law_by hr rfl (da_cons (de_var (pv 2)) (da_cons (de_tup (da_cons (de_neg de_int) (da_cons de_int da_nil))) da_nil))) (da_cons (de_call T__law_by G__law_by hr rfl (da_cons (de_var (pv 3)) (da_cons (de_tup (da_cons (de_neg de_int) (da_cons de_int da_nil))) da_nil))) da_nil))))) (da_cons (de_lst (da_cons (de_var (pv 3)) (da_cons (de_call T__law_by G__law_by hr rfl (da_cons (de_var (pv 2)) (da_cons (de_tup (da_cons (de_neg de_int) (da_cons de_int da_nil))) da_nil))) (da_cons (de_call T__law_by G__law_by hr rfl (da_cons (de_var (pv 3)) (da_cons (de_tup (da_cons (de_neg de_int) (da_cons de_int da_nil))) da_nil))) (da_cons (de_var (pv 2)) da_nil))))) da_nil))))
  (dss_cons (ds_setCompK (i:=12) [".0", "_law_row", "_law_size"] 1 [none,none,some 6] sc.nd rfl rfl (di_seq (de_var (pv 11))) (fun _ _ _ _ _ => dif_nil) (fun _ _ _ _ _ => (de_comp [".0", "_law_k", "_law_row"] 1 [none,none,some 1] (di_range1 rfl z_range (da_cons (de_var (pv 2)) da_nil)) (fun _ _ _ _ _ => dif_nil) (fun _ _ _ _ _ => (de_call T__law_by G__law_by hr rfl (da_cons (de_ix (de_var (pv 2)) (de_op do_iMod (de_var (pv 1)) de_int) (fun _ _ => rfl)) (da_cons (de_call T__law_through G__law_through hr rfl (da_cons (de_var (pv 1)) da_nil)) da_nil)))))))
  (dss_cons (ds_if (dt_not (dt_val (de_call T__law_same G__law_same hr rfl (da_cons (de_call T_growth_rows G_growth_rows hr rfl (da_cons (de_var (pv 10)) (da_cons (de_lst (da_cons (de_var (pv 2)) (da_cons (de_var (pv 3)) da_nil))) (da_cons (de_var (pv 5)) da_nil)))) (da_cons (de_var (pv 12)) da_nil)))))
    (dss_one (ds_ret de_bl))
    dss_nil)
  (dss_cons (ds_set (i:=13) sc.nd rfl (Or.inl rfl) (de_lst (da_cons (de_lst (da_cons (de_tup (da_cons (de_tup (da_cons de_int (da_cons de_int da_nil))) (da_cons (de_tup (da_cons de_int (da_cons de_int da_nil))) da_nil))) da_nil)) (da_cons (de_lst (da_cons (de_tup (da_cons (de_tup (da_cons de_int (da_cons de_int da_nil))) (da_cons (de_tup (da_cons de_int (da_cons de_int da_nil))) da_nil))) da_nil)) da_nil))))
  (dss_cons (ds_setComp (i:=14) [".0", "_law_k"] 1 [none,none] sc.nd rfl rfl (di_range1 rfl z_range (da_cons de_int da_nil)) (fun _ _ _ _ _ => dif_nil) (fun _ _ _ _ _ => (de_tup (da_cons de_int (da_cons de_int da_nil)))))
  (dss_cons (ds_set (i:=12) sc.nd rfl (Or.inl rfl) (de_lst (da_cons (de_slice (de_op do_add (de_lst (da_cons (de_var (pv 2)) (da_cons (de_var (pv 3)) (da_cons (de_tup (da_cons de_int (da_cons de_int da_nil))) da_nil)))) (de_var (pv 14))) do_none (do_some (de_var (pv 6)))) (da_cons (de_slice (de_op do_add (de_lst (da_cons (de_var (pv 3)) (da_cons (de_tup (da_cons de_int (da_cons de_int da_nil))) da_nil))) (de_var (pv 14))) do_none (do_some (de_var (pv 6)))) da_nil))))
  (dss_cons (ds_if (dt_not (dt_val (de_call T__law_same G__law_same hr rfl (da_cons (de_call T_growth_rows G_growth_rows hr rfl (da_cons (de_var (pv 13)) (da_cons (de_lst (da_cons (de_var (pv 2)) (da_cons (de_var (pv 3)) da_nil))) (da_cons (de_var (pv 5)) da_nil)))) (da_cons (de_var (pv 12)) da_nil)))))
    (dss_one (ds_ret de_bl))
    dss_nil)
  (dss_cons (ds_set (i:=15) sc.nd rfl (Or.inl rfl) (de_lst (da_cons (de_lst (da_cons (de_tup (da_cons (de_tup (da_cons de_int da_nil)) (da_cons (de_var (pv 4)) da_nil))) da_nil)) da_nil)))
  (dss_cons (ds_if (dt_cmp (do_eq (by have:=hr.units; exact this)) (de_ix (de_var (pv 4)) de_int (fun _ _ => rfl)) de_int (nomark _))
    (dss_one (ds_set (i:=15) sc.nd rfl (Or.inl rfl) (de_lst (da_cons (de_lst da_nil) da_nil))))
    dss_nil)
  (dss_one (ds_ret (de_call T__law_same G__law_same hr rfl (da_cons (de_call T_growth_rows G_growth_rows hr rfl (da_cons (de_var (pv 15)) (da_cons (de_lst (da_cons (de_var (pv 2)) da_nil)) (da_cons (de_var (pv 5)) da_nil)))) (da_cons (de_lst (da_cons (de_slice (de_op do_add (de_lst (da_cons (de_var (pv 2)) (da_cons (de_var (pv 4)) da_nil))) (de_var (pv 14))) do_none (do_some (de_var (pv 6)))) da_nil)) da_nil))))))))))))))))))))))
end
def fct : Nat→Nat
  | 0 => 1
  | n + 1 => fct n * (n + 1)
theorem fct_pos : ∀ n,0 < fct n
  | 0 => by decide
  | n + 1 => Nat.mul_pos (fct_pos n) (Nat.succ_pos n)
theorem fct_ne (n : Nat) : ((fct n : Nat) : Rat)≠0 := by
  have:=fct_pos n
  intro h
  have : ((fct n : Nat) : Rat) = ((0 : Nat) : Rat):=h
  have:=Rat.natCast_inj.mp this
  lia
theorem suc_ne (n : Nat) : ((n + 1 : Nat) : Rat)≠0 := by
  intro h
  have : ((n + 1 : Nat) : Rat) = ((0 : Nat) : Rat):=h
  have:=Rat.natCast_inj.mp this
  lia
theorem fct_succ (n : Nat) : ((fct (n + 1) : Nat) : Rat) = ((fct n : Nat) : Rat) * ((n + 1 : Nat) : Rat) := by
  show ((fct n * (n + 1) : Nat) : Rat) = _
  rw [Rat.natCast_mul]
abbrev dlt (k : Nat) : Rat:=if k = 0 then 1 else 0
theorem sum_zero : ∀ l : List Nat,(l.map fun _ => (0 : Rat)).sum = 0
  | [] => rfl
  | _ :: l => by rw [List.map_cons,List.sum_cons,sum_zero l,Rat.add_zero]
theorem sum_same (c : Rat) : ∀ n : Nat,(seqQ (fun _ => c) n).sum = (n : Rat) * c
  | 0 => by simp [seqQ]
  | n + 1 => by
    unfold seqQ
    rw [List.range_succ,List.map_append,List.sum_append]
    have:=sum_same c n
    unfold seqQ at this
    rw [this]
    simp only [List.map_cons,List.map_nil,List.sum_cons,List.sum_nil,Rat.natCast_add]
    grind
theorem conv_dlt (g : Nat→Rat) (k : Nat) : convQ (fun k => if k = 0 then 1 else 0) g k = g k := by
  unfold convQ seqQ
  rw [List.range_succ_eq_map,List.map_cons,List.sum_cons,List.map_map]
  have e : ((List.range k).map ((fun j => (if j = 0 then (1 : Rat) else 0) * g (k - j)) ∘ Nat.succ)) = (List.range k).map fun _ => (0 : Rat):=List.map_congr_left fun j _ => by simp
  rw [e,sum_zero,Rat.add_zero]
  simp
theorem ser_1 (X : Nat→Nat→Rat) (k : Nat) : serQ X [1] k = X 0 k:=conv_dlt (X 0) k
theorem ser_2 (X : Nat→Nat→Rat) (k : Nat) : serQ X [2] k = convQ (X 0) (X 0) k := by
  show convQ (serNQ X 1 [1]) (X 0) k = _
  exact convQ_congr (fun j _ => ser_1 X j) fun _ _ => rfl
theorem ser_01 (X : Nat→Nat→Rat) (k : Nat) : serQ X [0,1] k = X 1 k:=conv_dlt (X 1) k
theorem ser_10 (X : Nat→Nat→Rat) (k : Nat) : serQ X [1,0] k = X 0 k:=conv_dlt (X 0) k
theorem ser_0 (X : Nat→Nat→Rat) (k : Nat) : serQ X [0] k = dlt k:=rfl
theorem ser_00 (X : Nat→Nat→Rat) (k : Nat) : serQ X [0,0] k = dlt k:=rfl
theorem spd_one (X : Nat→Nat→Rat) (ps : List Int) (r : Rat) (k : Nat) : spdQ X [(ps,r)] k = r * serQ X ps k := by
  unfold spdQ
  simp [Rat.add_zero]
def pw1 : PwOk 1 [1]:=⟨rfl,by decide,by decide⟩
def pw2 : PwOk 1 [2]:=⟨rfl,by decide,by decide⟩
def pw0 : PwOk 1 [0]:=⟨rfl,by decide,by decide⟩
def pw01 : PwOk 2 [0,1]:=⟨rfl,by decide,by decide⟩
def pw10 : PwOk 2 [1,0]:=⟨rfl,by decide,by decide⟩
def pw00 : PwOk 2 [0,0]:=⟨rfl,by decide,by decide⟩
theorem one_pw {nn : Nat} {ps : List Int} {r : Rat} (h : PwOk nn ps) : ∀ us∈[[(ps,r)]],∀ z∈us,PwOk nn z.1:=fun us hu z hz => by
  rw [List.mem_singleton.mp hu] at hz
  rw [List.mem_singleton.mp hz]
  exact h
theorem none_pw : ∀ us∈([[]] : List (List Mono)),∀ z∈us,PwOk 1 z.1:=fun us hu z hz => by
  rw [List.mem_singleton.mp hu] at hz
  cases hz
theorem two_pw {nn : Nat} {ps qs : List Int} {r q : Rat} (h : PwOk nn ps) (g : PwOk nn qs) : ∀ us∈[[(ps,r)],[(qs,q)]],∀ z∈us,PwOk nn z.1:=fun us hu z hz => by
  rcases List.mem_cons.mp hu with rfl | hu
  · rw [List.mem_singleton.mp hz]; exact h
  · rw [List.mem_singleton.mp hu] at hz
    rw [List.mem_singleton.mp hz]
    exact g
def lin (r : Rat) : List (List Mono):=if r = 0 then [[]] else [[([1],r)]]
def evn (r : Rat) : List (List Mono):=if r = 0 then [[]] else [[([0],r)]]
theorem zdiv (a : Rat) : (0 : Rat) / a = 0 := by rw [Rat.div_def,Rat.zero_mul]
theorem lin_is (x r : Rat) : ∀ k,growQ [x] (lin r) 0 k = x * r ^ k * (1 / ((fct k : Nat) : Rat))
  | 0 => by
    show x = x * r ^ 0 * (1 / ((1 : Nat) : Rat))
    simp
    grind
  | k + 1 => by
    by_cases h : r = 0
    · subst h
      unfold lin
      rw [if_pos rfl,growQ_succ none_pw]
      show (0 : Rat) / _ = _
      rw [zdiv,Rat.pow_succ]
      simp
    · have ih:=lin_is x r k
      unfold lin at ih ⊢
      rw [if_neg h] at ih ⊢
      rw [growQ_succ (one_pw pw1)]
      show spdQ _ [([1],r)] k / _ = _
      rw [spd_one,ser_1,ih,fct_succ,Rat.pow_succ]
      have h1:=fct_ne k
      have h2:=suc_ne k
      generalize ((fct k : Nat) : Rat) = F at *
      generalize ((k + 1 : Nat) : Rat) = S at *
      generalize r ^ k = p
      grind
theorem sq_is (x : Rat) : ∀ k j,j≤k→growQ [x] [[([2],1)]] 0 j = x ^ (j + 1)
  | 0,j,h => by
    have : j = 0 := by lia
    subst this
    show x = x ^ 1
    rw [Rat.pow_succ,Rat.pow_zero,Rat.one_mul]
  | k + 1,j,h => by
    by_cases e : j≤k
    · exact sq_is x k j e
    have : j = k + 1 := by lia
    subst this
    rw [growQ_succ (one_pw pw2)]
    show spdQ _ [([2],1)] k / _ = _
    rw [spd_one,ser_2,Rat.one_mul]
    have : convQ (growQ [x] [[([2],1)]] 0) (growQ [x] [[([2],1)]] 0) k = ((k + 1 : Nat) : Rat) * x ^ (k + 2) := by
      unfold convQ
      rw [seqQ_congr (g:=fun _ => x ^ (k + 2)) fun j hj => by
        rw [sq_is x k j (by lia),sq_is x k (k - j) (by lia),← rpow_add']
        congr 1
        lia]
      exact sum_same _ _
    rw [this]
    have h2:=suc_ne k
    show _ = x ^ (k + 2)
    generalize ((k + 1 : Nat) : Rat) = S at *
    generalize x ^ (k + 2) = p
    grind
abbrev rd0 (x y : Rat) : List Rat:=[x,y,x * -1,y * -1]
abbrev rd1 (x y : Rat) : List Rat:=[y,x * -1,y * -1,x]
theorem rd_next (x y : Rat) (k : Nat) : (rd0 x y).getD ((k + 1) % 4) 0 = (rd1 x y).getD (k % 4) 0∧(rd1 x y).getD ((k + 1) % 4) 0 = (rd0 x y).getD (k % 4) 0 * -1 := by
  have h : k % 4 = 0∨k % 4 = 1∨k % 4 = 2∨k % 4 = 3 := by lia
  rcases h with h | h | h | h
  · rw [show (k + 1) % 4 = 1 by lia,h]; exact ⟨rfl,rfl⟩
  · rw [show (k + 1) % 4 = 2 by lia,h]; exact ⟨rfl,rfl⟩
  · rw [show (k + 1) % 4 = 3 by lia,h]
    refine ⟨rfl,?_⟩
    show x = x * -1 * -1
    grind
  · rw [show (k + 1) % 4 = 0 by lia,h]
    refine ⟨rfl,?_⟩
    show y = y * -1 * -1
    grind
abbrev trn : List (List Mono):=[[([0,1],1)],[([1,0],-1)]]
theorem trn_is (x y : Rat) : ∀ k,growQ [x,y] trn 0 k = (rd0 x y).getD (k % 4) 0 * (1 / ((fct k : Nat) : Rat))∧growQ [x,y] trn 1 k = (rd1 x y).getD (k % 4) 0 * (1 / ((fct k : Nat) : Rat))
  | 0 => by
    refine ⟨?_,?_⟩
    · show x = x * (1 / ((1 : Nat) : Rat))
      simp
      grind
    · show y = y * (1 / ((1 : Nat) : Rat))
      simp
      grind
  | k + 1 => by
    obtain ⟨i1,i2⟩:=trn_is x y k
    obtain ⟨r1,r2⟩:=rd_next x y k
    have h1:=fct_ne k
    have h2:=suc_ne k
    rw [growQ_succ (two_pw pw01 pw10),growQ_succ (two_pw pw01 pw10),r1,r2]
    show spdQ _ [([0,1],1)] k / _ = _∧spdQ _ [([1,0],-1)] k / _ = _
    rw [spd_one,spd_one,ser_01,ser_10,i1,i2,fct_succ]
    generalize ((fct k : Nat) : Rat) = F at *
    generalize ((k + 1 : Nat) : Rat) = S at *
    generalize (rd0 x y).getD (k % 4) 0 = p
    generalize (rd1 x y).getD (k % 4) 0 = q
    constructor <;> grind
abbrev fal : List (List Mono):=[[([0,1],1)],[([0,0],1)]]
theorem fal1_is (x y : Rat) : ∀ k,growQ [x,y] fal 1 k = ([y,1] : List Rat).getD k 0
  | 0 => rfl
  | k + 1 => by
    rw [growQ_succ (two_pw pw01 pw00)]
    show spdQ _ [([0,0],1)] k / _ = _
    rw [spd_one,ser_00]
    cases k with
    | zero => show (1 : Rat) * 1 / ((1 : Nat) : Rat) = 1; simp; grind
    | succ k => show (1 : Rat) * 0 / _ = 0; rw [Rat.mul_zero,zdiv]
theorem fal0_is (x y : Rat) : ∀ k,growQ [x,y] fal 0 k = ([x,y,1 / 2] : List Rat).getD k 0
  | 0 => rfl
  | k + 1 => by
    rw [growQ_succ (two_pw pw01 pw00)]
    show spdQ _ [([0,1],1)] k / _ = _
    rw [spd_one,ser_01,fal1_is]
    match k with
    | 0 => show (1 : Rat) * y / ((1 : Nat) : Rat) = y; simp; grind
    | 1 => show (1 : Rat) * 1 / ((2 : Nat) : Rat) = 1 / 2; rw [Rat.one_mul]; rfl
    | k + 2 => show (1 : Rat) * 0 / _ = 0; rw [Rat.mul_zero,zdiv]
theorem evn_is (x r : Rat) : ∀ k,growQ [x] (evn r) 0 k = ([x,r] : List Rat).getD k 0
  | 0 => rfl
  | k + 1 => by
    by_cases h : r = 0
    · subst h
      unfold evn
      rw [if_pos rfl,growQ_succ none_pw]
      show (0 : Rat) / _ = _
      rw [zdiv]
      cases k <;> rfl
    · unfold evn
      rw [if_neg h,growQ_succ (one_pw pw0)]
      show spdQ _ [([0],r)] k / _ = _
      rw [spd_one,ser_0]
      cases k with
      | zero => show r * 1 / ((1 : Nat) : Rat) = r; simp; grind
      | succ k => show r * 0 / _ = 0; rw [Rat.mul_zero,zdiv]
abbrev mBy : List PyData→Option PyData:=m__law_by mFr
abbrev mPw : List PyData→Option PyData:=m__law_power mBy
theorem by_is {a b : Rat} {n : Nat} (ha : FM.Fits a n) (hb : FM.Fits b n) (hn : n≤200) : mBy [ratD a,ratD b] = some (ratD (a * b)) := by
  refine retD_rt rfl ?_
  unfold F__law_by
  refine sRet_is (fCall_is (fCons_is (op2_is (x:=.int a.num) (y:=.int b.num) rfl rfl (mul9 ha.1 hb.1 (by lia))) (fCons_is (op2_is (x:=.int (a.den : Int)) (y:=.int (b.den : Int)) rfl rfl (mul9 ha.d hb.d (by lia))) rfl)) ((mFr_is (FM.prod_ne a b) (FM.nb_mono (FM.dd ha hb) (by lia))).trans ?_))
  rw [FM.times_eq]
theorem fits_pow {r : Rat} {n : Nat} (h : FM.Fits r n) : ∀ k,FM.Fits (r ^ k) (n * k + 1)
  | 0 => by rw [Rat.pow_zero,Nat.mul_zero]; exact ⟨by decide,by decide⟩
  | k + 1 => by
    rw [Rat.pow_succ]
    have:=(fits_pow h k).times h
    rw [show n * (k + 1) + 1 = n * k + 1 + n by rw [Nat.mul_succ]; lia]
    exact this
theorem pow_is {r : Rat} {n : Nat} (h : FM.Fits r n) {k : Nat} (hk : k≤8) (hn : n≤20) : mPw [ratD r,.int (k : Nat)] = some (ratD (r ^ k)) := by
  refine retD_rt rfl ?_
  unfold F__law_power
  refine seqD_nx (sSet_is (y:=ratD (r ^ 0)) (by rw [Rat.pow_zero]; rfl)) ?_
  obtain ⟨δ',q1,e,rfl⟩:=sFor_inv (xs:=rngD 0 ((k : Int)).toNat) (set:=setN 3) (F:=sSet 2 (fCall mBy (fCons (nm 2) (fCons (nm 0) fNil)))) (fs:=iCall rng1 (fCons (nm 1) fNil)) (δ:=[.d (ratD r),.d (.int (k : Nat)),.d (ratD (r ^ 0)),.no])
    (fun s δ => ∃ e : L,δ = [.d (ratD r),.d (.int (k : Nat)),.d (ratD (r ^ s)),e]) (rng_is (j:=(k : Int)) rfl (by lia) (by lia)) ⟨_,rfl⟩ (by
    rintro s y δ hy ⟨e,rfl⟩
    obtain ⟨rfl,hs⟩:=rng_get hy
    refine ⟨_,_,rfl,sSet_is (fCall_is rfl (by_is (n:=200) ((fits_pow h s).mono ?_) (h.mono (by lia)) (by decide))),.d (.int (0 + (s : Nat))),?_⟩
    · have : n * s≤20 * 8:=Nat.mul_le_mul hn (by lia)
      lia
    · rw [Rat.pow_succ]; rfl)
  refine seqD_nx q1 ?_
  have hl : (rngD 0 ((k : Int)).toNat).length = k := by unfold rngD; simp
  rw [hl]
  exact sRet_is rfl
theorem thr_is {k : Nat} (hk : k≤7) : m__law_through [.int (k : Nat)] = some (ratD (1 / ((fct k : Nat) : Rat))) := by
  have : k = 0∨k = 1∨k = 2∨k = 3∨k = 4∨k = 5∨k = 6∨k = 7 := by lia
  rcases this with rfl | rfl | rfl | rfl | rfl | rfl | rfl | rfl <;> kernel_rfl
theorem fits_thr {k : Nat} (hk : k≤7) : FM.Fits (1 / ((fct k : Nat) : Rat)) 20 := by
  have : k = 0∨k = 1∨k = 2∨k = 3∨k = 4∨k = 5∨k = 6∨k = 7 := by lia
  rcases this with rfl | rfl | rfl | rfl | rfl | rfl | rfl | rfl <;> exact ⟨by decide +kernel,by decide +kernel⟩
theorem comp_mapR {α : Type} {i : Nat} {f : Dv→Option PyData} {fs : Dv→Option (List PyData)} {δ : Dv} {fr : List (Option Nat)} {zs : List α} {a g : α→PyData} (hx : fs δ = some (zs.map a)) (hl : zs.length≤dMax)
    (h : ∀ z∈zs,f ((carryD fr δ).set i (.d (a z))) = some (g z)) : compL (set1 i) bYes f fr fs δ = some (zs.map g) := by
  unfold compL
  rw [hx,Option.bind_some]
  have : ∀ zs : List α,(∀ z∈zs,f ((carryD fr δ).set i (.d (a z))) = some (g z))→L2.collect (oneD (set1 i) bYes f (carryD fr δ)) (zs.map a) = some (zs.map g):=fun zs => by
    induction zs with
    | nil => intro _; rfl
    | cons z zs ih =>
      intro h
      rw [List.map_cons,List.map_cons]
      unfold L2.collect
      rw [ih fun y hy => h y (.tail _ hy)]
      have e : oneD (set1 i) bYes f (carryD fr δ) (a z) = some (some (g z)) := by
        unfold oneD set1
        rw [Option.bind_some]
        show (some true).bind _ = _
        rw [Option.bind_some,if_pos rfl,h z (.head _)]
        rfl
      rw [e]; rfl
  rw [this zs h,Option.bind_some,few,if_pos (by rw [List.length_map]; exact hl)]
theorem num_rat (r : Rat) {n : Nat} (h : 1≤n) : NumD n (ratD r) := by
  obtain ⟨m,rfl⟩ : ∃ m,n = m + 1:=⟨n - 1,by lia⟩
  have hi : ∀ i : Int,NumD m (.int i):=fun i => by cases m with | zero => exact ⟨i,rfl⟩ | succ m => exact .inl ⟨i,rfl⟩
  refine .inr ⟨_,.inl rfl,by simp,fun e he => ?_⟩
  rcases List.mem_cons.mp he with rfl | he
  · exact hi _
  · rw [List.mem_singleton.mp he]; exact hi _
theorem cut_hi {xs : List PyData} {n : Nat} (h : n≤xs.length) : dCut (.list xs) none (some (n : Int)) = some (.list (xs.take n)) := by
  show some (PyData.list (cutD xs none (some (n : Int)))) = _
  unfold cutD
  rw [show HT.sIx xs.length 0 none = 0 from rfl]
  simp only [HT.sIx_nat,List.drop_zero,Nat.sub_zero]
  rw [Nat.min_eq_left h]
theorem row_seq (f : Nat→Rat) (n : Nat) : fracsD (seqQ f n) = (List.range n).map fun t => ratD (f t) := by unfold fracsD seqQ; rw [List.map_map]; rfl
abbrev grD (uss : List (List Mono)) (rs : List Rat) (nn n : Nat) : PyData:=.list (rowsD ((List.range nn).map fun u => seqQ (growQ rs uss u) n))
theorem num_rows {n : Nat} (hn : n≤60) {rs : List (List Rat)} (h : ∀ r∈rs,r.length≤60) (hl : rs.length≤60) : NumD 3 (.list (rowsD rs)) := by
  refine .inr ⟨_,.inr rfl,by unfold rowsD; rw [List.length_map]; exact hl,fun e he => ?_⟩
  unfold rowsD at he
  obtain ⟨r,hr,rfl⟩:=List.mem_map.mp he
  refine .inr ⟨_,.inr rfl,by unfold fracsD; rw [List.length_map]; exact h r hr,fun e he => ?_⟩
  unfold fracsD at he
  obtain ⟨q,_,rfl⟩:=List.mem_map.mp he
  exact num_rat q (by decide)
theorem same_go {uss : List (List Mono)} {rs : List Rat} {most nn : Nat} (o : GrOk uss rs most nn) {δ : Dv} {fA fB fC' fD : Dv→Option PyData} (h1 : fA δ = some (polysD uss)) (h2 : fB δ = some (.list (fracsD rs))) (h3 : fC' δ = some (.int (most : Nat))) (h4 : fD δ = some (grD uss rs nn (most + 1))) :
    fCall (mSame 3) (fCons (fCall mGR (fCons fA (fCons fB (fCons fC' fNil)))) (fCons fD fNil)) δ = some (.bool true) := by
  have:=o.n4
  have:=o.mst
  refine fCall_is (fCons_is (fCall_is (fCons_is h1 (fCons_is h2 (fCons_is h3 rfl))) (mGR_is o)) (fCons_is h4 rfl)) (mSame_is rfl (num_rows (n:=0) (by lia) (fun r hr => ?_) (by simp; lia)))
  obtain ⟨u,_,rfl⟩:=List.mem_map.mp hr
  unfold seqQ
  simp
  lia
theorem same_is {uss : List (List Mono)} {rs : List Rat} {most nn : Nat} (o : GrOk uss rs most nn) {δ : Dv} {fA fB fC' fD : Dv→Option PyData} (h1 : fA δ = some (polysD uss)) (h2 : fB δ = some (.list (fracsD rs))) (h3 : fC' δ = some (.int (most : Nat))) (h4 : fD δ = some (grD uss rs nn (most + 1))) :
    bNot (bVal (fCall (mSame 3) (fCons (fCall mGR (fCons fA (fCons fB (fCons fC' fNil)))) (fCons fD fNil)))) δ = some false := bNot_is (bVal_is (same_go o h1 h2 h3 h4))
theorem po_one {n : Int} {ps : List Int} {r : Rat} (hp : powD n (.tuple (ps.map .int)) = true) (hr : r≠0) : isPoD n (polyD [(ps,r)]) = true := by
  show ((powD n (.tuple (ps.map .int)) && (isFrD (ratD r) && !decide (r.num = 0))) && (decide (0 = 0) || _) && true) = true
  rw [hp,rat_fr,decide_eq_false (fun z => hr (Rat.num_eq_zero.mp z))]
  rfl
theorem fits1 : FM.Fits (1 : Rat) 4:=⟨by decide,by decide⟩
theorem fitsm : FM.Fits (-1 : Rat) 4:=⟨by decide,by decide⟩
theorem gr1 {x r : Rat} {ps : List Int} {most : Nat} (hx : FM.Fits x 4) (hr : FM.Fits r 4) (hm : most≤7) (hp : PwOk 1 ps) (hq : powD 1 (.tuple (ps.map .int)) = true) (h0 : r≠0) : GrOk [[(ps,r)]] [x] most 1 :=
  ⟨by decide,rfl,rfl,hm,fun us hu => by
    rw [List.mem_singleton.mp hu]
    exact ⟨by simp,fun m hm => by rw [List.mem_singleton.mp hm]; exact hr⟩,one_pw hp,fun q hq => by rw [List.mem_singleton.mp hq]; exact hx,by
    show (true && (isPoD 1 (polyD [(ps,r)]) && true)) = true
    rw [po_one hq h0]; rfl⟩
theorem gr0 {x : Rat} {most : Nat} (hx : FM.Fits x 4) (hm : most≤7) : GrOk [[]] [x] most 1 :=
  ⟨by decide,rfl,rfl,hm,fun us hu => by
    rw [List.mem_singleton.mp hu]
    exact ⟨by decide,fun m hm => by cases hm⟩,none_pw,fun q hq => by rw [List.mem_singleton.mp hq]; exact hx,rfl⟩
theorem gr2 {x y r q : Rat} {ps qs : List Int} {most : Nat} (hx : FM.Fits x 4) (hy : FM.Fits y 4) (hr : FM.Fits r 4) (hq : FM.Fits q 4) (hm : most≤7) (hp : PwOk 2 ps) (hp' : PwOk 2 qs) (hw : powD 2 (.tuple (ps.map .int)) = true) (hw' : powD 2 (.tuple (qs.map .int)) = true) (h0 : r≠0) (h0' : q≠0) : GrOk [[(ps,r)],[(qs,q)]] [x,y] most 2 :=
  ⟨by decide,rfl,rfl,hm,fun us hu => by
    rcases List.mem_cons.mp hu with rfl | hu
    · exact ⟨by simp,fun m hm => by rw [List.mem_singleton.mp hm]; exact hr⟩
    · rw [List.mem_singleton.mp hu]
      exact ⟨by simp,fun m hm => by rw [List.mem_singleton.mp hm]; exact hq⟩,two_pw hp hp',fun z hz => by
    rcases List.mem_cons.mp hz with rfl | hz
    · exact hx
    · rw [List.mem_singleton.mp hz]; exact hy,by
    show (true && (isPoD 2 (polyD [(ps,r)]) && (isPoD 2 (polyD [(qs,q)]) && true))) = true
    rw [po_one hw h0,po_one hw' h0']; rfl⟩
theorem ok_lin {x r : Rat} {most : Nat} (hx : FM.Fits x 4) (hr : FM.Fits r 4) (hm : most≤7) : GrOk (lin r) [x] most 1 := by
  unfold lin
  split
  · exact gr0 hx hm
  · rename_i h
    exact gr1 hx hr hm pw1 rfl h
theorem ok_evn {x r : Rat} {most : Nat} (hx : FM.Fits x 4) (hr : FM.Fits r 4) (hm : most≤7) : GrOk (evn r) [x] most 1 := by
  unfold evn
  split
  · exact gr0 hx hm
  · rename_i h
    exact gr1 hx hr hm pw0 rfl h
theorem gr_one {uss : List (List Mono)} {x : Rat} {n : Nat} {g : Nat→Rat} (h : ∀ k,k < n→growQ [x] uss 0 k = g k) : grD uss [x] 1 n = .list [.list ((List.range n).map fun k => ratD (g k))] := by
  show PyData.list [.list (fracsD (seqQ (growQ [x] uss 0) n))] = _
  rw [row_seq]
  congr 3
  exact List.map_congr_left fun k hk => by rw [h k (List.mem_range.mp hk)]
theorem gr_two {uss : List (List Mono)} {x y : Rat} {n : Nat} {g g' : Nat→Rat} (h : ∀ k,k < n→growQ [x,y] uss 0 k = g k) (h' : ∀ k,k < n→growQ [x,y] uss 1 k = g' k) : grD uss [x,y] 2 n = .list [.list ((List.range n).map fun k => ratD (g k)),.list ((List.range n).map fun k => ratD (g' k))] := by
  show PyData.list [.list (fracsD (seqQ (growQ [x,y] uss 0) n)),.list (fracsD (seqQ (growQ [x,y] uss 1) n))] = _
  rw [row_seq,row_seq]
  congr 2
  · congr 1
    exact List.map_congr_left fun k hk => by rw [h k (List.mem_range.mp hk)]
  · congr 2
    exact List.map_congr_left fun k hk => by rw [h' k (List.mem_range.mp hk)]
theorem take_noughts (l : List Rat) {n : Nat} (h : n≤l.length + 7) : ((l.map ratD) ++ (List.range 7).map fun _ => ratD 0).take n = (List.range n).map fun k => ratD (l.getD k 0) := by
  apply List.ext_getElem?
  intro j
  rw [List.getElem?_take,List.getElem?_map]
  by_cases hj : j < n
  · rw [if_pos hj,List.getElem?_range hj,List.getElem?_append]
    by_cases hl : j < l.length
    · rw [if_pos (by simpa using hl),List.getElem?_map,List.getElem?_eq_getElem hl]
      simp [hl]
    · rw [if_neg (by simpa using hl),List.getElem?_map,List.length_map,List.getElem?_range (by lia)]
      simp [hl]
  · rw [if_neg hj,List.getElem?_eq_none (by simpa using hj)]
    rfl
theorem le8 {n : Nat} (h : n≤8) : n≤dMax:=Nat.le_trans h (by decide)
theorem half_is : ratD (1 / 2) = .tuple [.int 1,.int 2] := by kernel_rfl
theorem rng_map {δ : Dv} {f : Dv→Option PyData} {n : Nat} (h : f δ = some (.int ((n : Nat) : Int))) (hn : n≤1000) : iCall rng1 (fCons f fNil) δ = some ((List.range n).map fun k => PyData.int ((k : Nat) : Int)) := by
  rw [rng_is h (by lia) (by lia)]
  unfold rngD
  simp
theorem comp_rows {f : Dv→Option PyData} {fs : Dv→Option (List PyData)} {δ : Dv} {fr : List (Option Nat)} {n : Nat} {g : Nat→Rat} (hx : fs δ = some ((List.range n).map fun k => PyData.int ((k : Nat) : Int))) (hl : n≤8)
    (h : ∀ k,k < n→f ((carryD fr δ).set 1 (.d (.int ((k : Nat) : Int)))) = some (ratD (g k))) : compD (set1 1) bYes f fr fs δ = some (.list ((List.range n).map fun k => ratD (g k))) := by
  unfold compD
  rw [comp_mapR (zs:=List.range n) (a:=fun k => PyData.int ((k : Nat) : Int)) (g:=fun k => ratD (g k)) hx (by rw [List.length_range]; exact Nat.le_trans hl (by decide)) fun k hk => h k (List.mem_range.mp hk)]
  rfl
theorem ix4 (a b c d : Rat) (k : Nat) : dIx (.list [ratD a,ratD b,ratD c,ratD d]) (.int ((k : Int) % 4)) = some (ratD (([a,b,c,d] : List Rat).getD (k % 4) 0)) := by
  have h : k % 4 = 0∨k % 4 = 1∨k % 4 = 2∨k % 4 = 3 := by lia
  rcases h with h | h | h | h
  · rw [show ((k : Int) % 4) = 0 by lia,h]; rfl
  · rw [show ((k : Int) % 4) = 1 by lia,h]; rfl
  · rw [show ((k : Int) % 4) = 2 by lia,h]; rfl
  · rw [show ((k : Int) % 4) = 3 by lia,h]; rfl
theorem fits_neg {x : Rat} (h : FM.Fits x 4) : FM.Fits (x * -1) 8:=h.times fitsm
theorem get_fits {a b c d : Rat} (ha : FM.Fits a 8) (hb : FM.Fits b 8) (hc : FM.Fits c 8) (hd : FM.Fits d 8) (k : Nat) : FM.Fits (([a,b,c,d] : List Rat).getD (k % 4) 0) 8 := by
  have h : k % 4 = 0∨k % 4 = 1∨k % 4 = 2∨k % 4 = 3 := by lia
  rcases h with h | h | h | h <;> rw [h] <;> assumption
theorem round_is {a b c d : Rat} (ha : FM.Fits a 8) (hb : FM.Fits b 8) (hc : FM.Fits c 8) (hd : FM.Fits d 8) {n : Nat} (hn : n≤8) {l : L} : compD (set1 1) bYes (fCall mBy (fCons (op2 dIx (nm 2) (op2 iMod (nm 1) (fC (.int 4)))) (fCons (fCall m__law_through (fCons (nm 1) fNil)) fNil))) [none,none,some 1] (iCall rng1 (fCons (nm 2) fNil)) [l,.d (.list [ratD a,ratD b,ratD c,ratD d]),.d (.int ((n : Nat) : Int))] =
    some (.list ((List.range n).map fun k => ratD (([a,b,c,d] : List Rat).getD (k % 4) 0 * (1 / ((fct k : Nat) : Rat))))) := by
  refine comp_rows (rng_map rfl (by lia)) hn fun k hk => ?_
  refine fCall_is (fCons_is (op2_is (x:=.list [ratD a,ratD b,ratD c,ratD d]) (y:=.int ((k : Int) % 4)) rfl (op2_is (x:=.int (k : Int)) (y:=.int 4) rfl rfl (mod_is (by decide))) (ix4 a b c d k)) (fCons_is (fCall_is rfl (thr_is (by lia))) rfl)) ?_
  exact by_is (n:=20) ((get_fits ha hb hc hd k).mono) (fits_thr (by lia)) (by decide)
theorem neg_is {x : Rat} (h : FM.Fits x 4) : mBy [ratD x,.tuple [.int (-1),.int 1]] = some (ratD (x * -1)) := by_is (b:=-1) h fitsm (by decide)
theorem law_is {x y r : Rat} (hx : FM.Fits x 4) (hy : FM.Fits y 4) (hr : FM.Fits r 4) {most : Nat} (hm : most≤7) {l0 l1 : L} : F_law_5 mBy mPw (mSame 3) m__law_through mGR [l0,l1,.d (ratD x),.d (ratD y),.d (ratD r),.d (.int (most : Nat)),.no,.no,.no,.no,.no,.no,.no,.no,.no,.no] = some (.rt (.bool true)) := by
  have ez : ((most : Int) + 1) = ((most + 1 : Nat) : Int) := by lia
  unfold F_law_5
  have s1 : op2 dAdd (nm 5) (fC (.int 1)) [l0,l1,.d (ratD x),.d (ratD y),.d (ratD r),.d (.int (most : Nat)),.no,.no,.no,.no,.no,.no,.no,.no,.no,.no] = some (.int ((most + 1 : Nat) : Int)) := by rw [← ez]; rfl
  refine seqD_nx (sSet_is s1) ?_
  have s2 : compD (set1 1) bYes (fCall mBy (fCons (fCall mBy (fCons (nm 2) (fCons (fCall mPw (fCons (nm 3) (fCons (nm 1) fNil))) fNil))) (fCons (fCall m__law_through (fCons (nm 1) fNil)) fNil))) [none,none,some 2,some 4] (iCall rng1 (fCons (nm 6) fNil)) [l0,l1,.d (ratD x),.d (ratD y),.d (ratD r),.d (.int (most : Nat)),.d (.int ((most + 1 : Nat) : Int)),.no,.no,.no,.no,.no,.no,.no,.no,.no] =
      some (.list ((List.range (most + 1)).map fun k => ratD (x * r ^ k * (1 / ((fct k : Nat) : Rat))))) := by
    refine comp_rows (rng_map rfl (by lia)) (by lia) fun k hk => ?_
    have fp:=fits_pow hr k
    have hb : 4 * k + 1≤40 := by lia
    refine fCall_is (fCons_is (fCall_is (fCons_is rfl (fCons_is (fCall_is rfl (pow_is hr (by lia) (by decide))) rfl)) (by_is (n:=40) (hx.mono) (fp.mono hb) (by decide))) (fCons_is (fCall_is rfl (thr_is (by lia))) rfl)) ?_
    exact by_is (n:=80) ((hx.times fp).mono (by lia)) ((fits_thr (by lia)).mono) (by decide)
  refine seqD_nx (sSet_is s2) ?_
  refine seqD_nx (sSet_is rfl) ?_
  refine seqD_nx (δ':=[l0,l1,.d (ratD x),.d (ratD y),.d (ratD r),.d (.int (most : Nat)),.d (.int ((most + 1 : Nat) : Int)),.d (.list ((List.range (most + 1)).map fun k => ratD (x * r ^ k * (1 / ((fct k : Nat) : Rat))))),.d (polysD (lin r)),.no,.no,.no,.no,.no,.no,.no]) ?_ ?_
  · unfold lin
    by_cases h : r = 0
    · rw [if_pos h]
      exact sIf_t (bCmp_is (x:=.int r.num) (y:=.int 0) rfl rfl ((eq_ints _ _).trans (by rw [decide_eq_true (Rat.num_eq_zero.mpr h)]))) rfl
    · rw [if_neg h]
      exact sIf_f (bCmp_is (x:=.int r.num) (y:=.int 0) rfl rfl ((eq_ints _ _).trans (by rw [decide_eq_false fun z => h (Rat.num_eq_zero.mp z)]))) rfl
  refine seqD_nx (sIf_f (same_is (ok_lin hx hr hm) rfl rfl rfl (by rw [gr_one fun k _ => lin_is x r k]; rfl)) rfl) ?_
  refine seqD_nx (sSet_is rfl) ?_
  refine seqD_nx (sIf_f (same_is (gr1 hx fits1 hm pw2 rfl (by decide)) rfl rfl rfl (by
    rw [gr_one fun k _ => sq_is x k k (Nat.le_refl _)]
    refine fLst_is (fCons_is (comp_rows (rng_map rfl (by lia)) (by lia) fun k hk => ?_) rfl) (le8 (by simp))
    refine fCall_is (fCons_is rfl (fCons_is (x:=.int ((k + 1 : Nat) : Int)) ?_ rfl)) (pow_is hx (by lia) (by decide))
    rw [show ((k + 1 : Nat) : Int) = (k : Int) + 1 by lia]
    rfl)) rfl) ?_
  refine seqD_nx (sSet_is rfl) ?_
  refine seqD_nx (sSet_is (y:=.list [.list [ratD x,ratD y,ratD (x * -1),ratD (y * -1)],.list [ratD y,ratD (x * -1),ratD (y * -1),ratD x]]) ?_) ?_
  · exact fLst_is (fCons_is (fLst_is (fCons_is rfl (fCons_is rfl (fCons_is (fCall_is rfl (neg_is hx)) (fCons_is (fCall_is rfl (neg_is hy)) rfl)))) (le8 (by simp))) (fCons_is (fLst_is (fCons_is rfl (fCons_is (fCall_is rfl (neg_is hx)) (fCons_is (fCall_is rfl (neg_is hy)) (fCons_is rfl rfl)))) (le8 (by simp))) rfl)) (le8 (by simp))
  have hx8:=hx.mono (show 4≤8 by decide)
  have hy8:=hy.mono (show 4≤8 by decide)
  refine seqD_nx (sSet_is (y:=grD trn [x,y] 2 (most + 1)) ?_) ?_
  · rw [gr_two (fun k _ => (trn_is x y k).1) fun k _ => (trn_is x y k).2]
    unfold compD
    rw [comp_mapR (zs:=[rd0 x y,rd1 x y]) (a:=fun l => .list (l.map ratD)) (g:=fun l => .list ((List.range (most + 1)).map fun k => ratD (l.getD (k % 4) 0 * (1 / ((fct k : Nat) : Rat))))) rfl (le8 (by simp)) fun l hl => ?_]
    · rfl
    · rcases List.mem_cons.mp hl with rfl | hl
      · exact round_is hx8 hy8 (fits_neg hx) (fits_neg hy) (by lia)
      · rw [List.mem_singleton.mp hl]
        exact round_is hy8 (fits_neg hx) (fits_neg hy) hx8 (by lia)
  refine seqD_nx (sIf_f (same_is (gr2 hx hy fits1 fitsm hm pw01 pw10 rfl rfl (by decide) (by decide)) rfl rfl rfl rfl) rfl) ?_
  refine seqD_nx (sSet_is rfl) ?_
  refine seqD_nx (sSet_is (y:=.list ((List.range 7).map fun _ => ratD 0)) rfl) ?_
  refine seqD_nx (sSet_is (y:=grD fal [x,y] 2 (most + 1)) ?_) ?_
  · rw [gr_two (fun k _ => fal0_is x y k) fun k _ => fal1_is x y k,← take_noughts [x,y,1 / 2] (by simp; lia),← take_noughts [y,1] (by simp; lia)]
    refine fLst_is (fCons_is ?_ (fCons_is ?_ rfl)) (le8 (by simp))
    · refine Eq.trans (cut_hi (n:=most + 1) (xs:=[ratD x,ratD y,.tuple [.int 1,.int 2]] ++ (List.range 7).map fun _ => ratD 0) (by simp; lia)) ?_
      rw [← half_is]
      rfl
    · exact cut_hi (n:=most + 1) (xs:=[y,1].map ratD ++ (List.range 7).map fun _ => ratD 0) (by simp; lia)
  refine seqD_nx (sIf_f (same_is (gr2 hx hy fits1 fits1 hm pw01 pw00 rfl rfl (by decide) (by decide)) rfl rfl rfl rfl) rfl) ?_
  refine seqD_nx (sSet_is rfl) ?_
  refine seqD_nx (δ':=[l0,l1,.d (ratD x),.d (ratD y),.d (ratD r),.d (.int (most : Nat)),.d (.int ((most + 1 : Nat) : Int)),.d (.list ((List.range (most + 1)).map fun k => ratD (x * r ^ k * (1 / ((fct k : Nat) : Rat))))),.d (polysD (lin r)),.d (polysD [[([2],1)]]),.d (polysD trn),.d (.list [.list [ratD x,ratD y,ratD (x * -1),ratD (y * -1)],.list [ratD y,ratD (x * -1),ratD (y * -1),ratD x]]),.d (grD fal [x,y] 2 (most + 1)),.d (polysD fal),.d (.list ((List.range 7).map fun _ => ratD 0)),.d (polysD (evn r))]) ?_ ?_
  · unfold evn
    by_cases h : r = 0
    · rw [if_pos h]
      exact sIf_t (bCmp_is (x:=.int r.num) (y:=.int 0) rfl rfl ((eq_ints _ _).trans (by rw [decide_eq_true (Rat.num_eq_zero.mpr h)]))) rfl
    · rw [if_neg h]
      exact sIf_f (bCmp_is (x:=.int r.num) (y:=.int 0) rfl rfl ((eq_ints _ _).trans (by rw [decide_eq_false fun z => h (Rat.num_eq_zero.mp z)]))) rfl
  refine sRet_is (same_go (ok_evn hx hr hm) rfl rfl rfl ?_)
  rw [gr_one fun k _ => evn_is x r k,← take_noughts [x,r] (by simp; lia)]
  exact fLst_is (fCons_is (cut_hi (n:=most + 1) (xs:=[x,r].map ratD ++ (List.range 7).map fun _ => ratD 0) (by simp; lia)) rfl) (le8 (by simp))
def spLaw (K : PySem.W.Frag) : Sp:=fun vs H Q _ => ∃ (a : Addr) (ns : List Int),vs = [.ref a]∧SqL K H a (ns.map V.int)∧ns.length≤63∧∀ H',Q (.bl true) H'
theorem fits_drawn {r : Rat} (h1 : r.num.natAbs≤6) (h2 : r.den≤6) : FM.Fits r 4:=⟨Nat.lt_of_le_of_lt h1 (by decide),Nat.lt_of_le_of_lt h2 (by decide)⟩
theorem pre5 {X : Cx} {sts : List Stmt} {F : DF} {s1 : Stmt} {t1 : TS} {s2 : Stmt} {t2 : TS} {s3 : Stmt} {t3 : TS} {s4 : Stmt} {t4 : TS} {s5 : Stmt} {t5 : TS} (d : DSs X sts F) (p1 : PS X s1 t1) (p2 : PS X s2 t2) (p3 : PS X s3 t3) (p4 : PS X s4 t4) (p5 : PS X s5 t5) {Pz : TS→Prop} (k : ∀ u : TS,(∀ δ r,F δ = some r→∀ G0 H0 G H σ D,Rw G0 H0 G H σ δ []→Fin G0 H0 D r→u D σ H)→Pz (tSeq t1 (tSeq t2 (tSeq t3 (tSeq t4 (tSeq t5 u)))))) : ∃ t,PSs X (s1 :: s2 :: s3 :: s4 :: s5 :: sts) t∧Pz t := by
  obtain ⟨t,pt,kt⟩:=d
  exact ⟨_,(pss_cons p1 (pss_cons p2 (pss_cons p3 (pss_cons p4 (pss_cons p5 pt))))),k t kt⟩
section
variable {P : Program} {w : World} {K : PySem.W.Frag} {mg : Str→Option Value} {base : Heap} {f g1 g2 g3 g4 g5 g6 g7 : Addr} {fd gd1 gd2 gd3 gd4 gd5 gd6 gd7 : FuncData}
theorem ok_law {k : Nat} (F : Fn K mg "law" s_law ["_law_script"] f fd) (T__law_cell : Fn K mg "_law_cell" s__law_cell ["_law_script", "_law_k"] g1 gd1) (T__law_part : Fn K mg "_law_part" s__law_part ["_law_pile"] g2 gd2) (T__law_by : Fn K mg "_law_by" s__law_by ["_law_one", "_law_other"] g3 gd3) (T__law_power : Fn K mg "_law_power" s__law_power ["_law_part_here", "_law_many"] g4 gd4) (T__law_same : Fn K mg "_law_same" s__law_same ["_law_found", "_law_due"] g5 gd5) (T__law_through : Fn K mg "_law_through" s__law_through ["_law_many"] g6 gd6) (T_growth_rows : Fn K mg "growth_rows" s_growth_rows ["change", "start", "most"] g7 gd7)
    (G__law_cell : FnOk P w K mg base CX0 k g1 gd1 ["_law_script", "_law_k"] (spCellP K)) (G__law_part : FnOk P w K mg base CX0 k g2 gd2 ["_law_pile"] spDrawn) (G__law_by : FnOk P w K mg base CX0 k g3 gd3 ["_law_one", "_law_other"] (spD mBy)) (G__law_power : FnOk P w K mg base CX0 k g4 gd4 ["_law_part_here", "_law_many"] (spD mPw)) (G__law_same : FnOk P w K mg base CX0 k g5 gd5 ["_law_found", "_law_due"] (spD (mSame 3))) (G__law_through : FnOk P w K mg base CX0 k g6 gd6 ["_law_many"] (spD m__law_through)) (G_growth_rows : FnOk P w K mg base CX0 k g7 gd7 ["change", "start", "most"] spGR)
    (z_range : mg "range" = none) : FnOk P w K mg base CX0 (k + 1) f fd ["_law_script"] (spLaw K) := by
  have sc:=sc_law
  refine F.F.ok (k:=k) sc (fun vs H Q E h => ?_) (fun cdv A outer s H vs Q E hr h => ?_)
  · obtain ⟨a,ns,rfl,_⟩:=h
    rfl
  obtain ⟨a,ns,rfl,hSc,h63,q⟩:=h
  refine' pre5 (os_law_5 T__law_by G__law_by T__law_power G__law_power T__law_same G__law_same T__law_through G__law_through T_growth_rows (toGR G_growth_rows) z_range cdv A outer s H E hr) ?p1 ?p2 ?p3 ?p4 ?p5 ?kk
  case p1 => exact (ps_set (i:=1) sc.nd rfl (Or.inl rfl) (pe_lst (pa_cons (pe_fn T__law_cell G__law_cell hr rfl (pa_cons (pv 0) (pa_cons pe_int pa_nil))) pa_nil)))
  case p2 => exact (ps_set (i:=2) sc.nd rfl (Or.inr rfl) (pe_fn T__law_part G__law_part hr rfl (pa_cons (pv 1) pa_nil)))
  case p3 => exact (ps_set (i:=3) sc.nd rfl (Or.inl rfl) (pe_fn T__law_part G__law_part hr rfl (pa_cons (pv 1) pa_nil)))
  case p4 => exact (ps_set (i:=4) sc.nd rfl (Or.inr rfl) (pe_fn T__law_part G__law_part hr rfl (pa_cons (pe_lst (pa_cons (pe_fn T__law_cell G__law_cell hr rfl (pa_cons (pv 0) (pa_cons pe_int pa_nil))) pa_nil)) pa_nil)))
  case p5 => exact (ps_set (i:=5) sc.nd rfl (Or.inl rfl) (pe_op op_mod (pe_fn T__law_cell G__law_cell hr rfl (pa_cons (pv 0) (pa_cons pe_int pa_nil))) pe_int))
  intro u kt
  refine ⟨_,rfl,a,ns,0,rfl,hSc,by decide,by decide,fun c0 => ⟨sz60' (show 1≤60 by decide),fun L hL => ?_⟩⟩
  refine ⟨_,rfl,L,c0,rfl,upd_same,fun p1 x y1 H1 e1 hp1 n1 d1 => ?_⟩
  have hL1:=e1 _ _ upd_same
  have E1 : Same H H1:=fun b o z => e1 _ _ (by rw [upd_ne (ne_of_none z hL),upd_ne (ne_of_none z hL)]; exact z)
  refine ⟨_,rfl,L,y1,rfl,hL1,fun p2 y y2 H2 e2 hp2 n2 d2 => ?_⟩
  have E2 : Same H H2:=fun b o z => e2 _ _ (by rw [upd_ne (ne_of_none z hL)]; exact E1 _ _ z)
  have hp1 : H2 p1 = some (.tup (ratV x)):=e2 _ _ (by rw [upd_ne (fun z => by rw [z,hL1] at hp1; cases hp1)]; exact hp1)
  refine ⟨_,rfl,a,ns,1,rfl,E2.seq hSc,by decide,by decide,fun c1 => ⟨sz60' (show 1≤60 by decide),fun L2 hL2 => ?_⟩⟩
  refine ⟨L2,c1,rfl,upd_same,fun p3 r y3 H3 e3 hp3 n3 d3 => ?_⟩
  have E3 : Same H2 H3:=fun b o z => e3 _ _ (by rw [upd_ne (ne_of_none z hL2),upd_ne (ne_of_none z hL2)]; exact z)
  refine ⟨_,rfl,a,ns,2,rfl,(E2.trans E3).seq hSc,by decide,by decide,fun c2 => ⟨_,_,rfl,rfl,(by show (0 : Int) < 8; decide),?_⟩⟩
  obtain ⟨most,hm,em⟩ : ∃ most : Nat,most≤7∧c2 % 8 = (most : Int):=⟨(c2 % 8).toNat,by lia,by lia⟩
  have b1:=du_rat (E3 _ _ hp1)
  have b2:=du_rat (E3 _ _ hp2)
  have b3:=du_rat hp3
  refine kt _ _ (law_is (l0:=.no) (l1:=.no) (fits_drawn n1 d1) (fits_drawn n2 d2) (fits_drawn n3 d3) hm) H3 H3 H3 H3 _ _ ⟨.refl _,Nw.refl,.refl _,.refl _,rfl,fun i z h => ?_,fun i xs h => ?_,fun i j xs ys _ h => ?_,fun q hq => by cases hq⟩ fun v G' H' _ _ _ _ dv => ?_
  · rcases i with _ | _ | _ | _ | _ | _ | _ | _ | _ | _ | _ | _ | _ | _ | _ | _ | i
    all_goals first | (cases h; done) | (simp at h; done) | skip
    · cases h; exact ⟨_,rfl,b1.du⟩
    · cases h; exact ⟨_,rfl,b2.du⟩
    · cases h; exact ⟨_,rfl,b3.du⟩
    · cases h; exact ⟨_,rfl,by rw [Du]; exact congrArg V.int em⟩
  · rcases i with _ | _ | _ | _ | _ | _ | _ | _ | _ | _ | _ | _ | _ | _ | _ | _ | i
    all_goals first | (cases h; done) | (simp at h)
  · rcases i with _ | _ | _ | _ | _ | _ | _ | _ | _ | _ | _ | _ | _ | _ | _ | _ | i
    all_goals first | (cases h; done) | (simp at h)
  · rw [Du] at dv
    subst dv
    exact q H'
end
section
open PySem.W
theorem fnX {w : World} {mg : Str→Option Value} {h : Heap} (X : (kH w.params).In h) (G : h.Ns mainGlobals mg) (n : String) (i : Nat) (m : String) (t c f : Nat) (ps : List Str)
    (ha : nsIn (kH w.params) mainGlobals (Str.ofString n) = some (some (.ref f)) := by kernel_rfl) (hl : (kH w.params).lookup f = some (fO n i m t c) := by kernel_rfl) (hc : codeIn (kH w.params) (.ref c) (Str.ofString n) = true := by kernel_rfl) (hk : keepIn (kH w.params) (.ref f) = true := by kernel_rfl)
    (hb : ∀ (kV doc pm : Value) (an : Option Addr) (cdv ct : Value) (us : List Value),us.length = ps.length→bindArgs (fnOf (Str.ofString n) (Str.ofString n) (defArgs (top i)) (defBody (top i)) (defScope (top i)) .none kV doc pm an cdv ct) ⟨us,[]⟩ = pure (ps.zip us) := by first | (exact fun _ _ _ _ _ _ us hl => match us,hl with | [_],_ => rfl) | (exact fun _ _ _ _ _ _ us hl => match us,hl with | [_,_],_ => rfl) | (exact fun _ _ _ _ _ _ us hl => match us,hl with | [_,_,_],_ => rfl) | (exact fun _ _ _ _ _ _ us hl => match us,hl with | [_,_,_,_],_ => rfl) | (exact fun _ _ _ _ _ _ us hl => match us,hl with | [_,_,_,_,_],_ => rfl) | (exact fun _ _ _ _ _ _ us hl => match us,hl with | [],_ => rfl)) :
    Fn (kH w.params) mg (Str.ofString n) (top i) ps f (fnOf (Str.ofString n) (Str.ofString n) (defArgs (top i)) (defBody (top i)) (defScope (top i)) .none .none .none (.str (Str.ofString m) t) none (.ref c) .none) :=
  ⟨fun_mk hl hc hk,(fun_mk (st:=top i) hl hc hk).binds hb,mg_of X G ha⟩
set_option maxHeartbeats 4000000 in
theorem allX (w : World) (mg : Str→Option Value) (fa : Addr) (h : Heap) (X : (kH w.params).In h) (G : h.Ns mainGlobals mg) (hfa : mg "law" = some (.ref fa)) :
    ∃ fd : FuncData,(∀ (s : Shared) (v : Value),BindsTo s fd ⟨[v],[]⟩ [("_law_script",v)])∧∀ base : Heap,(kH w.params).In base→base.Ns mainGlobals mg→FnOk rwX.prog w (kH w.params) mg base CX0 9 fa fd ["_law_script"] (spLaw (kH w.params)) := by
  have e:=hfa.symm.trans (mg_of X G (v:=.ref 354) (by kernel_rfl))
  cases e
  have T_fraction_of:=fnX X G "fraction_of" 7 "stepgrove.fracs" 271 81 82 ["top", "bottom"]
  have T_is_fraction:=fnX X G "is_fraction" 8 "stepgrove.fracs" 271 88 89 ["thing"]
  have T_are_fractions:=fnX X G "are_fractions" 9 "stepgrove.fracs" 271 95 96 ["thing"]
  have T_is_whole:=fnX X G "is_whole" 10 "stepgrove.fracs" 271 102 103 ["thing"]
  have T_greatest_divisor:=fnX X G "greatest_divisor" 11 "stepgrove.fracs" 271 109 110 ["one", "other"]
  have T_common_bottom:=fnX X G "common_bottom" 12 "stepgrove.fracs" 271 116 117 ["bottoms"]
  have T_power_of:=fnX X G "power_of" 13 "stepgrove.fracs" 271 123 124 ["base", "power"]
  have T_is_poly:=fnX X G "is_poly" 15 "stepgrove.polys" 335 130 131 ["thing", "unknowns"]
  have T_is_term:=fnX X G "is_term" 16 "stepgrove.polys" 335 137 138 ["thing", "unknowns"]
  have T_are_powers:=fnX X G "are_powers" 17 "stepgrove.polys" 335 144 145 ["thing", "unknowns"]
  have T_refuse_no_start:=fnX X G "refuse_no_start" 18 "stepgrove.polys" 335 151 152 ["thing", "unknowns"]
  have T_refuse_start:=fnX X G "refuse_start" 19 "stepgrove.polys" 335 158 159 []
  have T_one_less:=fnX X G "one_less" 20 "stepgrove.polys" 335 165 166 ["powers", "k"]
  have T_product_up_to:=fnX X G "product_up_to" 22 "stepgrove.trees" 386 172 173 ["many"]
  have T_grain_of:=fnX X G "grain_of" 24 "stepgrove.wholes" 397 177 178 ["start"]
  have T_pace_of:=fnX X G "pace_of" 25 "stepgrove.wholes" 397 184 185 ["change", "grain"]
  have T_whole_start:=fnX X G "whole_start" 26 "stepgrove.wholes" 397 189 190 ["start", "grain"]
  have T_tops_over:=fnX X G "tops_over" 27 "stepgrove.wholes" 397 194 195 ["some", "bottom"]
  have T_whole_change:=fnX X G "whole_change" 28 "stepgrove.wholes" 397 199 200 ["change", "grain"]
  have T_whole_poly:=fnX X G "whole_poly" 29 "stepgrove.wholes" 397 206 207 ["some", "bottom", "grain", "greatest"]
  have T_speeds_bottom:=fnX X G "speeds_bottom" 30 "stepgrove.wholes" 397 211 212 ["change"]
  have T_greatest_power:=fnX X G "greatest_power" 31 "stepgrove.wholes" 397 218 219 ["change"]
  have T_is_change:=fnX X G "is_change" 33 "stepgrove.changes" 462 225 226 ["thing"]
  have T_refuse_no_change:=fnX X G "refuse_no_change" 34 "stepgrove.changes" 462 232 233 ["thing"]
  have T_growth_rows:=fnX X G "growth_rows" 37 "stepgrove.growth" 479 237 238 ["change", "start", "most"]
  have T_refuse_too_many:=fnX X G "refuse_too_many" 38 "stepgrove.growth" 479 244 245 ["most"]
  have T_row_of_fractions:=fnX X G "row_of_fractions" 39 "stepgrove.growth" 479 251 252 ["row", "pace", "grain"]
  have T_whole_rows:=fnX X G "whole_rows" 40 "stepgrove.growth" 479 256 257 ["change", "start", "most", "finer"]
  have T_powers_needed:=fnX X G "powers_needed" 41 "stepgrove.growth" 479 263 264 ["change"]
  have T_first_unknown:=fnX X G "first_unknown" 42 "stepgrove.growth" 479 270 271 ["powers"]
  have T_product_at:=fnX X G "product_at" 43 "stepgrove.growth" 479 275 276 ["products", "rows", "powers", "k"]
  have T_speed_at:=fnX X G "speed_at" 44 "stepgrove.growth" 479 280 281 ["some", "products", "k"]
  have T__law_cell:=fnX X G "_law_cell" 46 "law_stepgrove_k25_known_growth" 546 287 288 ["_law_script", "_law_k"]
  have T__law_take:=fnX X G "_law_take" 47 "law_stepgrove_k25_known_growth" 546 294 295 ["_law_pile", "_law_size"]
  have T__law_shared:=fnX X G "_law_shared" 48 "law_stepgrove_k25_known_growth" 546 301 302 ["_law_one", "_law_other"]
  have T__law_frac:=fnX X G "_law_frac" 49 "law_stepgrove_k25_known_growth" 546 308 309 ["_law_top", "_law_bottom"]
  have T__law_by:=fnX X G "_law_by" 51 "law_stepgrove_k25_known_growth" 546 322 323 ["_law_one", "_law_other"]
  have T__law_part:=fnX X G "_law_part" 52 "law_stepgrove_k25_known_growth" 546 329 330 ["_law_pile"]
  have T__law_same:=fnX X G "_law_same" 53 "law_stepgrove_k25_known_growth" 546 334 335 ["_law_found", "_law_due"]
  have T__law_power:=fnX X G "_law_power" 54 "law_stepgrove_k25_known_growth" 546 341 342 ["_law_part_here", "_law_many"]
  have T__law_through:=fnX X G "_law_through" 55 "law_stepgrove_k25_known_growth" 546 348 349 ["_law_many"]
  have T_law:=fnX X G "law" 56 "law_stepgrove_k25_known_growth" 546 353 354 ["_law_script"]
  have z_len : mg "len" = none:=mg_none_of X G (by kernel_rfl)
  have z_range : mg "range" = none:=mg_none_of X G (by kernel_rfl)
  have z_abs : mg "abs" = none:=mg_none_of X G (by kernel_rfl)
  have z_isinstance : mg "isinstance" = none:=mg_none_of X G (by kernel_rfl)
  have z_int : mg "int" = none:=mg_none_of X G (by kernel_rfl)
  have z_bool : mg "bool" = none:=mg_none_of X G (by kernel_rfl)
  have z_tuple : mg "tuple" = none:=mg_none_of X G (by kernel_rfl)
  have z_list : mg "list" = none:=mg_none_of X G (by kernel_rfl)
  have z_enumerate : mg "enumerate" = none:=mg_none_of X G (by kernel_rfl)
  have z_sum : mg "sum" = none:=mg_none_of X G (by kernel_rfl)
  have z_zip : mg "zip" = none:=mg_none_of X G (by kernel_rfl)
  have z_sorted : mg "sorted" = none:=mg_none_of X G (by kernel_rfl)
  have z_all : mg "all" = none:=mg_none_of X G (by kernel_rfl)
  have z_max : mg "max" = none:=mg_none_of X G (by kernel_rfl)
  have a_MP : nsIn (kH w.params) mainGlobals "MOST_POWER" = some (some (.int 7 481)) := by kernel_rfl
  refine ⟨fnOf (Str.ofString "law") (Str.ofString "law") (defArgs (top 56)) (defBody (top 56)) (defScope (top 56)) .none .none .none (.str (Str.ofString "law_stepgrove_k25_known_growth") 546) none (.ref 353) .none,fun s v => .of_eq rfl,fun base _ _ => ?_⟩
  have m_MOST_POWER:=PySem.W.mg_of X G a_MP
  have g_gd:=ok_greatest_divisor (P:=rwX.prog) (w:=w) (base := base) T_greatest_divisor z_abs
  have g_fr:=ok_fraction_of T_fraction_of T_greatest_divisor g_gd
  have g_wh:=ok_is_whole (P:=rwX.prog) (w:=w) (base := base) T_is_whole z_isinstance z_int z_bool
  have g_isfr:=ok_is_fraction T_is_fraction T_is_whole T_greatest_divisor g_wh g_gd z_isinstance z_tuple z_len
  have g_af:=ok_are_fractions T_are_fractions T_is_fraction g_isfr z_isinstance z_list
  have g_apw:=ok_are_powers T_are_powers T_is_whole g_wh z_isinstance z_tuple z_len
  have g_tm:=ok_is_term T_is_term T_are_powers T_is_fraction g_apw g_isfr z_isinstance z_tuple z_len
  have g_po:=ok_is_poly T_is_poly T_is_term g_tm z_isinstance z_list z_enumerate
  have g_ch:=ok_is_change T_is_change T_is_poly g_po z_isinstance z_list z_len
  have g_rc:=ok_refuse_no_change T_refuse_no_change T_is_change (g_ch.mono)
  have g_rs:=ok_refuse_no_start T_refuse_no_start T_are_fractions (g_af.mono) z_len
  have g_tmy:=ok_refuse_too_many (P:=rwX.prog) (w:=w) (base := base) T_refuse_too_many m_MOST_POWER
  have g_cb:=ok_common_bottomF T_common_bottom T_greatest_divisor g_gd
  have g_pow:=ok_power_of (P:=rwX.prog) (w:=w) (base := base) T_power_of
  have g_to:=ok_tops_over (P:=rwX.prog) (w:=w) (base := base) T_tops_over
  have g_gr:=ok_grain_of T_grain_of T_common_bottom g_cb
  have g_sb:=ok_speeds_bottom T_speeds_bottom T_common_bottom g_cb
  have g_gp:=ok_greatest_power (P:=rwX.prog) (w:=w) (base := base) T_greatest_power z_max z_sum
  have g_wp:=ok_whole_poly T_whole_poly T_power_of g_pow z_sum
  have g_wc:=ok_whole_change T_whole_change T_speeds_bottom T_greatest_power T_whole_poly g_sb (g_gp.mono) (g_wp.mono)
  have g_pa:=ok_pace_of T_pace_of T_speeds_bottom T_greatest_power T_power_of g_sb (g_gp.mono) (g_pow.mono)
  have g_ol:=ok_one_less (P:=rwX.prog) (w:=w) (base := base) T_one_less
  have g_fu:=ok_first_unknown (P:=rwX.prog) (w:=w) (base := base) T_first_unknown
  have g_pn:=ok_powers_needed T_powers_needed T_first_unknown T_one_less g_fu g_ol z_sum z_sorted
  have g_pat:=ok_product_at T_product_at T_first_unknown T_one_less g_fu g_ol z_sum z_range
  have g_sa:=ok_speed_at (P:=rwX.prog) (w:=w) (base := base) T_speed_at z_sum
  have g_wr:=ok_whole_rows T_whole_rows T_powers_needed T_product_at T_speed_at g_pn g_pat g_sa z_range z_zip
  have g_put:=ok_product_up_to (P:=rwX.prog) (w:=w) (base := base) T_product_up_to z_range
  have g_ws:=ok_whole_start T_whole_start T_tops_over g_to
  have g_rof:=ok_row_of_fractions T_row_of_fractions T_fraction_of g_fr
  have g_grow:=ok_growth_rows T_growth_rows T_refuse_no_change T_refuse_no_start T_refuse_too_many T_grain_of T_product_up_to T_whole_change T_whole_start T_whole_rows T_pace_of T_row_of_fractions g_rc (g_rs.mono) (g_tmy.mono) (g_gr.mono) (g_put.mono) (g_wc.mono) (g_ws.mono) (g_wr.mono) (g_pa.mono) (g_rof.mono) z_len
  have g_take:=ok__law_take (P:=rwX.prog) (w:=w) (base := base) T__law_take
  have g_shared:=ok__law_shared (P:=rwX.prog) (w:=w) (base := base) T__law_shared z_abs
  have g_frac:=ok__law_frac T__law_frac T__law_shared g_shared
  have g_cell:=ok__law_cell (P:=rwX.prog) (w:=w) (base := base) T__law_cell z_len z_range
  have g_part:=ok__law_part T__law_part T__law_take T__law_frac (g_take.mono) g_frac
  have g_same:=ok__law_same (P:=rwX.prog) (w:=w) (base := base) T__law_same z_isinstance z_list z_tuple z_int z_bool z_len z_all z_zip 4
  have G__law_frac:=toFr g_frac
  have G__law_same:=toSame (n:=3) g_same
  have G__law_by:=od__law_by (P:=rwX.prog) (w:=w) (base := base) (k:=2) T__law_by T__law_frac (G__law_frac.mono)
  have G__law_power:=od__law_power (P:=rwX.prog) (w:=w) (base := base) (k:=3) T__law_power T__law_by (G__law_by.mono) z_range
  have G__law_through:=od__law_through (P:=rwX.prog) (w:=w) (base := base) (k:=0) T__law_through z_range
  exact ok_law (k:=8) T_law T__law_cell T__law_part T__law_by T__law_power T__law_same T__law_through T_growth_rows (g_cell.mono) (g_part.mono) (G__law_by.mono) (G__law_power.mono) (G__law_same.mono) (G__law_through.mono) g_grow z_range
theorem walkX : WalkO qX [] (XL qX []) hX.says rwX.row.toRowW dX [] (fun f vs => PySem.call f vs) :=
  L2.walk_of (l:=rwX) (n:=63) (k:=9) (x := "_law_script") (CX:=fun _ => CX0) (K:=kH) (sp:=fun w => spLaw (kH w.params)) rfl (by decide) rfl ⟨rfl,by decide,by decide⟩ (fun w mg h X G H d e => by rw [mg_none_of X G (by kernel_rfl)] at e; cases e) (fun w h Y => kIn_of Y) allX (fun _ _ a ns hl _ hS => ⟨a,ns,rfl,hS,hl,fun _ => rfl⟩) fun _ _ _ _ _ z => z
end
end Q25
open PySem PySem.W PyProof.Rows
set_option maxRecDepth 100000 in
theorem PySem.Challenge.cw_stepgrove_k25_known_growth_holds : PySem.Challenge.rw_stepgrove_k25_known_growth.Holds := by
  refine Q25.openX ?hw Q25.walkX
  w_witness2
#print axioms PySem.Challenge.cw_stepgrove_k25_known_growth_holds
