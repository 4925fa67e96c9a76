import PyProof.Rows.All
import Wide.All
import OpenK.AllK
import Wide.FinOn
import Lean
import PyProof.EqAt
import PyProof.EqKinds
import PyProof.TupleCall
import PySem.Challenge.RW_stepgrove_k79_tables_as_texts
set_option Elab.async false
set_option linter.all false
set_option maxRecDepth 100000
set_option maxHeartbeats 4000000
abbrev aA:=@Option.bind_eq_some_iff
abbrev aB:=@Option.map_eq_some_iff
abbrev aC:=@PySem.wpAny_bind
abbrev aD:=@PySem.wpAny_pure
abbrev aE:=@List.getElem?_eq_some_iff
abbrev aF:=@PySem.Heap.lt_size
abbrev aG:=@Nat.lt_of_lt_of_le
abbrev aH:=@Nat.le_trans
abbrev aI:=@PySem.Heap.get?_push_of_some
abbrev aJ:=@Nat.le_refl
abbrev aK:=@PySem.wpAny_mono
abbrev aL:=@List.mem_cons
abbrev aM:=@congrArg
abbrev aN:=@PySem.boot_len
abbrev aO:=@Bool.false_ne_true
abbrev aP:=@List.mem_append_right
abbrev aQ:=@Nat.ne_of_lt
abbrev aR:=@List.mem_map
abbrev aT:=@List.mem_append
abbrev aU:=@Option.some.inj
abbrev aV:=@List.mem_cons_of_mem
abbrev aW:=@List.mem_of_getElem?
abbrev aX:=@PySem.F.plainAttrs_list
abbrev aY:=@PyProof.Rows.boot_isinstance
abbrev aZ:=@PySem.wpAny_standAt
abbrev aa:=@List.getElem?_eq_getElem
abbrev ae:=@List.all_eq_true
abbrev af:=@decide_eq_false
abbrev ag:=@of_decide_eq_true
abbrev ah:=@PySem.W.kia_one
abbrev ak:=@PySem.wpAny_holding
abbrev ao:=@decide_eq_true
abbrev aq:=@PyProof.Rows.boot_int
abbrev ar:=@List.mem_of_mem_drop
abbrev au:=@List.takeWhile_append_dropWhile
abbrev av:=@PyProof.Rows.boot_list
abbrev ax:=@PySem.wpAny_newObj_type
abbrev ay:=@Bool.eq_false_iff
abbrev az:=@PySem.PassesOwn.never
abbrev bA:=@List.mem_or_eq_of_mem_set
abbrev bC:=@List.mem_of_mem_take
abbrev bD:=@PySem.wpAny_execs_nil
abbrev bE:=@PySem.W.hideAll_get
abbrev bF:=@PySem.F.plainAttrs_str
abbrev bG:=@Classical.byContradiction
abbrev bH:=@List.getElem?_of_mem
abbrev bI:=@List.mem_range
abbrev bJ:=@decide_eq_decide
abbrev bK:=@Nat.zero_le
abbrev bL:=@PyProof.Rows.boot_abs
namespace Opn
open PySem PySem.W PyProof.Rows PySem.Calls
noncomputable def q0:Pos:=⟨0,0,0,0⟩
noncomputable def ik:Obj:={ cls:=.type "tuple",data:=.seq #[]}
noncomputable def ib:Obj:={ cls:=.none,data:=.fields #[]}
noncomputable def iZ:Obj:={ cls:=.type "code",data:=.fields #[.str (Str.ofString "<module>") 182,.str (Str.ofString "<module>") 183,.str (Str.ofString "/claim/cut.py") 184,.int 1 0,.int 0 0,.int 0 0,.int 0 0,.int 0 0,.ref 11,.bool false,.int 181 0,.ref 12,.none,.none,.none,.none,.int 185 0,.int 1 0,.str (Str.ofString "/claim/cut.py") 186]}
noncomputable def ie:Obj:={ cls:=.type "frame",slots:=#[some (.ref 13),some (.ref 3),some (.ref 3),none,some (.str (Str.ofString "__main__") 164),none,some (.ref 0)]}
noncomputable def gV(P:Params):List Obj:=(boot_heap P).objs.toList++[ik,ib,iZ,ie]
noncomputable def nN(P:Params)(o:Params→Obj)(l r:BT):BT:=.node (o P) l r
noncomputable def lN(P:Params)(o:Params→Obj):BT:=.node (o P) .nil .nil
noncomputable def g6(P:Params):BT :=
 nN P boot_o_0 (nN P boot_o_1 (nN P boot_o_3 (lN P boot_o_7) (.node ik .nil .nil)) (nN P boot_o_5 (lN P boot_o_9) (.node iZ .nil .nil)))
  (nN P boot_o_2 (nN P boot_o_4 (lN P boot_o_8) (.node ib .nil .nil)) (nN P boot_o_6 (lN P boot_o_10) (.node ie .nil .nil)))
noncomputable def Y9:Life:=Life.mk [] [] [] 0 [] [] false #[] [] 0 false false false 0 [2000,10,10] false 0 true [] [] 0 false
noncomputable def sA(w:World)(os:OsState):Shared:=⟨⟨⟨gV w.params⟩,Y9⟩,#[],boot_drawn,187,os⟩
noncomputable def sB(w:World)(os:OsState):SharedT:=⟨g6 w.params,15,Y9,#[],boot_drawn,187,os⟩
noncomputable def Nl(p:Program):Env:={ scope:=p.main.scope,locals:=mainNs,globals:=mainNs,cells:=[],code:=.ref 13,frame:=some 14}
noncomputable def cB(p:Program):Code:=.body (behindTheImports p) (Nl p)
noncomputable abbrev IY:Option Value:=some (.ref 6)
noncomputable abbrev bB:List Frame:=[topFrame q0]
noncomputable def VY(p:Program)(M:Nat)(w:World)(os:OsState):Option (Flow×SharedT×Code×Pos) :=
 PySem.W.Fast.tw10110043849684766642 PySem.W.Fast.tw14364793385576792824 p w 11 IY 1 M (sB w os) (piecesOf (behindTheImports p) (Nl p) (cB p) q0 bB)
noncomputable def Um(p:Program)(M:Nat)(w:World)(os:OsState):SharedT:=match VY p M w os with|some (_,s,_)=>s|none=>sB w os
theorem bp{p:Program}{M:Nat}{w:World}{os:OsState}{r:Option (Flow×SharedT×Code×Pos)}(h:VY p M w os=r) :
  segRunT treeTable p w 11 IY 1 M (sB w os) (piecesOf (behindTheImports p) (Nl p) (cB p) q0 bB)=r:=by
 have e:segRunT treeTable=PySem.W.Fast.tw10110043849684766642 PySem.W.Fast.tw14364793385576792824:=congr PySem.W.Fast.te10110043849684766642 PySem.W.Fast.te14364793385576792824;rw[e];exact h
theorem cT{p:Program}{M M0:Nat}{posE:Pos}{w:World}{os:OsState}
 (pre:topGo treeTable p w 11 IY 12 ⟨boot_heap w.params,#[],boot_drawn,boot_toks,os⟩ (topStub p)=some (sA w os,⟨denote treeTable (cB p),cB p,q0,bB⟩))
 (blk:segRun treeTable p w 11 IY 1 1 (sA w os) (blockOf (behindTheImports p) (Nl p) (cB p) q0 bB)=some (.next,(sB w os).abs,cB p,q0))
 (seg:VY p M w os=some (.next,Um p M w os,cB p,posE))
 (fin:∀s,topRun treeTable p w 11 IY 2 s (restOf [] (Nl p) (cB p) posE bB)=some s)(hM:M0=12+(1+(M+2))) :
  topRun treeTable p w 11 IY M0 ⟨boot_heap w.params,#[],boot_drawn,boot_toks,os⟩ (topStub p)=some (Um p M w os).abs:=by
 subst hM;refine go_top pre (piece_block blk ?_);have h:=piece_app (rest:=[]) (segRun_of (bp seg)) (fin _);rw[List.append_nil]at h;exact h
theorem Zx{p q:Program}{loose:List Str}{Xt:Shared→Bool}{α:Type}{Yf:Shared→α}{Ya:World→α}{N M:Nat}{S:World→OsState→Shared}
 (open_:∀w:World,(fencedOpening treeTable p w N).map (fun s=>(s.heap,s.gens,s.drawn,s.toks))=some (boot_heap w.params,#[],boot_drawn,boot_toks))
 (size:∀w:World,((boot_heap w.params).isNs mainGlobals&&(#[]:Array GenState).size==0,(boot_heap w.params).objs.size,(boot_heap w.params).nsMap mainGlobals "__annotations__")=(true,11,IY))
 (run:∀w os,topRun treeTable p w 11 IY M ⟨boot_heap w.params,#[],boot_drawn,boot_toks,os⟩ (topStub p)=some (S w os))(le:Nat.ble M N=true)
 (ok:∀w os,(staticsOk (importedModules p.main.body) (boot_heap w.params) (S w os).heap&&namesBound p (S w os).heap&&gensDone (S w os)&&laidKept (boot_heap w.params) (S w os).heap)=true)
 (seen:∀w os,openSeen q loose (importedModules p.main.body) Xt true (S w os)=openGood q loose)
 (hY:∀w os,Yf (S w os)=Ya w):LeftO p q loose Xt Yf Ya N:=fun w=>by
 obtain⟨⟨h,gs,d,k,os⟩,e,e'⟩:=aB.mp (open_ w);obtain⟨rfl,rfl,rfl,rfl⟩:h=boot_heap w.params∧gs=#[]∧d=boot_drawn∧k=boot_toks:=by simpa using e'
 obtain⟨z1,z2,z3⟩:_∧_∧_:=by simpa only[Prod.mk.injEq]using size w
 have l1:=ok w os;have r:=topRun_mono (N-M) _ _ _ _ (run w os);rw[show M+(N-M)=N by have:=Nat.le_of_ble_eq_true le;lia]at r;have t:topFrom treeTable p w N ⟨boot_heap w.params,#[],boot_drawn,boot_toks,os⟩=some (S w os):=by
  unfold topFrom;dsimp only;rw[z1,z2,z3,r];show(match staticsOk (importedModules p.main.body) (boot_heap w.params) (S w os).heap&&namesBound p (S w os).heap&&gensDone (S w os)&&laidKept (boot_heap w.params) (S w os).heap with|true=>_|false=>_)=_;rw[l1]
 unfold openEnds;rw[e];show(topFrom treeTable p w N _).map _=_;rw[t];exact aM some (Prod.ext (seen w os) (hY w os))
theorem gy(w:World):((boot_heap w.params).isNs mainGlobals&&(#[]:Array GenState).size==0,(boot_heap w.params).objs.size,(boot_heap w.params).nsMap mainGlobals "__annotations__")=(true,11,IY):=by kernel_rfl
end Opn
namespace Q79
open PySem
def top(i:Nat):Stmt:=PySem.Challenge.pw_stepgrove_k79_tables_as_texts.main.body.getD i (.Pass ⟨0,0,0,0⟩)
end Q79
namespace L2
open PySem
def Fs(s:Stmt):Arguments:=match s with
 |.FunctionDef _ a _ _ _ _ _ _ _ _=>a
 |_=>{ posonlyargs:=[],args:=[],vararg:=none,kwonlyargs:=[],kw_defaults:=[],kwarg:=none,defaults:=[]}
def B5(s:Stmt):List Stmt:=match s with
 |.FunctionDef _ _ b _ _ _ _ _ _ _=>b
 |_=>[]
def AN(s:Stmt):Scope:=match s with
 |.FunctionDef _ _ _ _ _ _ sc _ _ _=>sc
 |_=>{ kind:=.function,names:=[],isGenerator:=false,isCoroutine:=false}
end L2
namespace Q79
open PySem L2
section
open PySem.W PyProof.Rows PySem.Calls
abbrev EW:Program:=PySem.Challenge.pw_stepgrove_k79_tables_as_texts
abbrev CH:OpenLaw:=PySem.Challenge.rw_stepgrove_k79_tables_as_texts
noncomputable abbrev dE(P:Params)(x:String)(t:Nat)(v:Value):DictEntry:=⟨PyData.keyHash P (Str.ofString x),.str (Str.ofString x) t,v⟩
noncomputable abbrev sV(x:String)(t:Nat):Value:=.str (Str.ofString x) t
noncomputable abbrev fO(n:String)(i:Nat)(m:String)(t c:Nat):Obj:=⟨.type "function",none,.func (fnOf n n (Fs (top i)) (B5 (top i)) (AN (top i)) .none .none .none (.str (Str.ofString m) t) none (.ref c) .none),#[]⟩
noncomputable abbrev cO(n:String)(t l a k r:Nat)(b:Bool)(r2:Nat)(v1 v2 v3 v4:Value)(t2:Nat):Obj:=⟨.type "code",none,.fields #[sV n t,sV n (t+1),sV "/claim/cut.py" (t+2),.int l 0,.int a 0,.int 0 0,.int 0 0,.int k 0,.ref r,.bool b,.int 181 0,.ref r2,v1,v2,v3,v4,.int t2 0,.int l 0,sV "/claim/cut.py" (t2+1)],#[]⟩
noncomputable abbrev Pw:String×Nat:=("stepgrove.fracs",399)
noncomputable abbrev Ue:String×Nat:=("stepgrove.tables",434)
noncomputable abbrev Jv:String×Nat:=("stepgrove.texts",461)
noncomputable abbrev CU:String×Nat:=("law_stepgrove_k79_tables_as_texts",518)
noncomputable def oC(P:Params)(K:Frag):Nat→List String→Frag
 |_,[]=>K
 |k,x::xs=>(16+12*k,⟨.type "tuple",none,.seq #[.ref 24] 0,#[]⟩)::(23+12*k,⟨.type "tuple",none,.seq #[] 0,#[]⟩) ::
  (24+12*k,⟨.type "dict",none,.dict #[dE P "__module__" (198+16*k) (sV "stepgrove.errors" 187),dE P "__firstlineno__" (202+16*k) (.int (Int.ofNat (2+2*k)) (201+16*k)),dE P "__static_attributes__" (203+16*k) (.ref (23+12*k)),dE P "__doc__" (204+16*k) .none] 2,#[]⟩) ::
  (25+12*k,⟨.type "type",none,.cls ⟨Str.ofString x,[.ref 24],[.ref (25+12*k),.ref 24,.type "ValueError",.type "Exception",.type "BaseException",.type "object"],24+12*k,Str.ofString x,true,[],[],false,none,false⟩,#[some (.ref (16+12*k)),none,some (sV x (191+16*k)),some (sV x (199+16*k)),some (.builtin "ValueError.__new__"),some (.bool true)]⟩)::oC P K (k+1) xs
noncomputable def oW(m:String×Nat)(n:String)(t l a r t2 i:Nat)(K:Frag):Frag:=(r+5,cO n t l a 3 r true (r+1) .none (.ref (r+2)) (.ref (r+3)) (.ref (r+4)) t2)::(r+6,fO n i m.1 m.2 (r+5))::K
noncomputable def oN(m:String×Nat)(n:String)(t l a r t2 i:Nat)(K:Frag):Frag:=(r+3,cO n t l a 3 r true (r+1) .none .none .none (.ref (r+2)) t2)::(r+4,fO n i m.1 m.2 (r+3))::K
def SD:Nat→List Nat→List Nat
 |_,[]=>[]
 |a,d::ds=>(a+d)::SD (a+d) ds
noncomputable abbrev dR(P:Params)(x:String)(t a:Nat):DictEntry:=dE P x t (.ref a)
noncomputable def kH:Params→Frag:=fun P =>
 (nat_lit 2,⟨.none,none,(.dict #[] 0),#[]⟩) ::
 (nat_lit 3,⟨(.type "dict"),none,(.dict #[dE P "__name__" 165 (sV "law_stepgrove_k79_tables_as_texts" 518),dE P "__doc__" 166 .none,dE P "__package__" 167 .none,dE P "__loader__" 168 (.builtin "__main__.__loader__#opaque"),dE P "__spec__" 169 .none,dR P "__annotations__" 170 6,dR P "__builtins__" 171 4,dE P "__file__" 173 (sV "/claim/cut.py" 172),dE P "__cached__" 174 .none,dR P "GroveError" 206 24,dR P "NoBottom" 222 37,dR P "NoTree" 238 49,dR P "NoChange" 254 61,dR P "NoStart" 270 73,dR P "NoTable" 286 85,dR P "NoName" 302 97,dR P "NoWeighing" 318 109,dR P "NotAlike" 334 121,dR P "NoParts" 350 133,dR P "TooMany" 366 145,dR P "NoText" 382 157,dR P "NoLine" 398 169,dR P "is_fraction" 407 178,dR P "are_fractions" 415 185,dR P "is_whole" 422 192,dR P "greatest_divisor" 433 199,dE P "MOST_ROWS" 437 (.int 40 436),dR P "is_table" 444 206,dR P "refuse_no_table" 451 213,dR P "are_rows" 460 220,dE P "MOST_FIGURES" 464 (.int 40 463),dR P "shown_table" 470 225,dR P "read_table" 476 230,dR P "fraction_text" 485 237,dR P "fraction_texts" 491 242,dR P "fraction_in" 503 249,dR P "fractions_in" 509 254,dR P "whole_in" 517 261,dR P "_law_cell_at" 527 268,dR P "_law_mixed" 536 275,dR P "_law_rest" 546 282,dR P "_law_ratio" 556 289,dR P "_law_sum" 564 296,dR P "_law_times" 572 303,dR P "_law_table" 589 310,dR P "_law_copy" 595 315,dR P "_law_row" 601 320,dR P "_law_good" 607 325,dR P "_law_part" 614 332,dR P "_law_number" 623 339,dR P "_law_fraction" 634 346,dR P "_law_bent" 647 353,dR P "_law_bent_lines" 660 360,dR P "_law_alone" 666 365,dR P "_law_lines" 672 370,dR P "_law_reader" 678 375,dR P "_law_long" 684 380,dR P "_law_read" 695 387,dR P "_law_refused" 704 394,dR P "law" 721 401] 60),#[]⟩) ::
 (nat_lit 15,⟨(.type "tuple"),none,(.seq #[(.type "ValueError")] 0),#[]⟩) ::
 (nat_lit 22,⟨(.type "tuple"),none,(.seq #[] 0),#[]⟩) ::
 (nat_lit 23,⟨(.type "dict"),none,(.dict #[dE P "__module__" 196 (sV "stepgrove.errors" 187),dE P "__firstlineno__" 200 (.int 2 199),dR P "__static_attributes__" 201 22,dR P "__weakref__" 203 25,dE P "__doc__" 204 .none] 3),#[]⟩) ::
 (nat_lit 24,⟨(.type "type"),none,(.cls ⟨Str.ofString "GroveError",[(.type "ValueError")],[(.ref 24),(.type "ValueError"),(.type "Exception"),(.type "BaseException"),(.type "object")],23,Str.ofString "GroveError",true,[],[(.ref 37),(.ref 49),(.ref 61),(.ref 73),(.ref 85),(.ref 97),(.ref 109),(.ref 121),(.ref 133),(.ref 145),(.ref 157),(.ref 169)],false,none,false⟩),#[some (.ref 15),none,some (sV "GroveError" 189),some (sV "GroveError" 197),some (.builtin "ValueError.__new__"),some (.bool true)]⟩) ::
 (nat_lit 25,⟨(.type "getset_descriptor"),none,(.fields #[(sV "__weakref__" 202),(.ref 24),(.builtin "ExceptionGroup.__weakref__"),.none]),#[]⟩) ::
 oC P (
 oW Pw "is_fraction" 401 29 1 172 405 15 (
 oW Pw "are_fractions" 408 35 1 179 413 16 (
 oW Pw "is_whole" 416 42 1 186 420 17 (
 oW Pw "greatest_divisor" 423 44 2 193 431 18 (
 oW Ue "is_table" 438 54 1 200 442 21 (
 oW Ue "refuse_no_table" 445 58 1 207 449 22 (
 oW Ue "are_rows" 452 61 1 214 458 23 (
 oN Jv "shown_table" 465 70 1 221 468 26 (
 oN Jv "read_table" 471 75 1 226 474 27 (
 oW Jv "fraction_text" 477 83 1 231 483 28 (
 oN Jv "fraction_texts" 486 87 1 238 489 29 (
 oW Jv "fraction_in" 492 89 2 243 501 30 (
 oN Jv "fractions_in" 504 99 2 250 507 31 (
 oW Jv "whole_in" 510 101 2 255 515 32 (
 oW CU "_law_cell_at" 520 109 2 262 525 34 (
 oW CU "_law_mixed" 528 113 2 269 534 35 (
 oW CU "_law_rest" 537 117 2 276 544 36 (
 oW CU "_law_ratio" 547 123 2 283 554 37 (
 oW CU "_law_sum" 557 131 2 290 562 38 (
 oW CU "_law_table" 573 135 2 304 587 40 (
 oN CU "_law_copy" 590 153 1 311 593 41 (
 oN CU "_law_row" 596 155 2 316 599 42 (
 oN CU "_law_good" 602 164 2 321 605 43 (
 oW CU "_law_part" 608 170 1 326 612 44 (
 oW CU "_law_number" 615 172 1 333 621 45 (
 oW CU "_law_fraction" 624 179 1 340 632 46 (
 oW CU "_law_bent" 635 193 3 347 645 47 (
 oW CU "_law_bent_lines" 648 211 3 354 658 48 (
 oN CU "_law_alone" 661 231 1 361 664 49 (
 oN CU "_law_lines" 667 239 1 366 670 50 (
 oN CU "_law_reader" 673 242 1 371 676 51 (
 oN CU "_law_long" 679 256 1 376 682 52 (
 oW CU "_law_read" 685 259 1 381 693 53 (
 oW CU "_law_refused" 696 274 1 388 702 54 (
 oW CU "law" 705 281 1 395 719 55 (
 [])))))))))))))))))))))))))))))))))))) 1 ["NoBottom", "NoTree", "NoChange", "NoStart", "NoTable", "NoName", "NoWeighing", "NotAlike", "NoParts", "TooMany", "NoText", "NoLine"]
abbrev qX:Program:=view EW [1,2,3,4,5,6,7,8,9,10,11,12,13,15,16,17,18,20,21,22,23,25,26,27,28,29,30,31,32,34,35,36,37,38,39,40,41,42,43,44,45,46,47,48,49,50,51,52,53,54,55]
noncomputable abbrev hX:Hook:=kHook kH (SD 0 [2,1,12,7,1,1,1,3,7,1,1,3,7,1,1,3,7,1,1,3,7,1,1,3,7,1,1,3,7,1,1,3,7,1,1,3,7,1,1,3,7,1,1,3,7,1,1,3,7,1,1,3,7,1,1,8,1,6,1,6,1,6,1,6,1,6,1,6,1,4,1,4,1,6,1,4,1,6,1,4,1,6,1,6,1,6,1,6,1,6,1,6,1,13,1,4,1,4,1,4,1,6,1,6,1,6,1,6,1,6,1,4,1,4,1,4,1,4,1,6,1,6,1,6,1]) (fun _=>by kernel_rfl)
noncomputable def dX:DefRec:=⟨Str.ofString "law",Fs (top 55),B5 (top 55),AN (top 55),⟨281,0,304,59⟩⟩
theorem hW:CH.wellSaid=true:=(congrFun PySem.W.Fast.te9446332074065402090 _).trans (by kernel_rfl)
theorem jH(w:World)(os:OsState):topGo treeTable EW w 11 Opn.IY 12 ⟨boot_heap w.params,#[],boot_drawn,boot_toks,os⟩ (topStub EW)=some (Opn.sA w os,⟨denote treeTable (Opn.cB EW),Opn.cB EW,Opn.q0,Opn.bB⟩):=by kernel_rfl
theorem jG(w:World)(os:OsState):segRun treeTable EW w 11 Opn.IY 1 1 (Opn.sA w os) (blockOf (behindTheImports EW) (Opn.Nl EW) (Opn.cB EW) Opn.q0 Opn.bB)=some (.next,(Opn.sB w os).abs,Opn.cB EW,Opn.q0):=by kernel_rfl
theorem ji(w:World)(s:Shared):topRun treeTable EW w 11 Opn.IY 2 s (restOf [] (Opn.Nl EW) (Opn.cB EW) ⟨281,0,304,59⟩ Opn.bB)=some s:=by kernel_rfl
theorem jh(w:World)(os:OsState):Opn.VY EW 3887 w os=some (.next,Opn.Um EW 3887 w os,Opn.cB EW,⟨281,0,304,59⟩):=by kernel_rfl
noncomputable abbrev sX(w:World)(os:OsState):Shared:=(Opn.Um EW 3887 w os).abs
theorem jg(w:World)(os:OsState):(staticsOk (importedModules EW.main.body) (boot_heap w.params) (sX w os).heap&&namesBound EW (sX w os).heap&&gensDone (sX w os)&&laidKept (boot_heap w.params) (sX w os).heap)=true:=by kernel_rfl
theorem gx(w:World)(os:OsState):hX.obs (sX w os)=hX.val w:=by kernel_rfl
noncomputable abbrev UQ:Shared→Bool:=fun s=>xlAt qX [] s&&recOk (RowW.records CH.row.toRowW) s
theorem iI(w:World)(os:OsState):(openSeen qX [] (importedModules EW.main.body) UQ true (sX w os)).1=(openGood qX []).1:=by kernel_rfl
theorem gP(w:World)(os:OsState):(openSeen qX [] (importedModules EW.main.body) UQ true (sX w os)).2.1=(openGood qX []).2.1:=by kernel_rfl
theorem iQ(w:World)(os:OsState):(openSeen qX [] (importedModules EW.main.body) UQ true (sX w os)).2.2=(openGood qX []).2.2:=by kernel_rfl
theorem gR(w:World)(os:OsState):openSeen qX [] (importedModules EW.main.body) UQ true (sX w os)=openGood qX []:=Prod.ext (iI w os) (Prod.ext (gP w os) (iQ w os))
theorem hV(w:World):(fencedOpening treeTable EW w 7898).map (fun s=>(s.heap,s.gens,s.drawn,s.toks))=some (boot_heap w.params,#[],boot_drawn,boot_toks):=boot_open (p:=EW) (N:=7898) (by kernel_rfl) (by kernel_rfl) (fun _=>by kernel_rfl) w
theorem gp:LeftO EW qX [] UQ hX.obs hX.val 7898:=Opn.Zx (M:=3902) (S:=sX) hV Opn.gy (fun w os=>Opn.cT (jH w os) (jG w os) (jh w os) (ji w) (by kernel_rfl)) (by kernel_rfl) jg gR gx
theorem i3:defOf qX CH.row.name=some (dX,[]):=by kernel_rfl
theorem i7:EW.theDef CH.row.name=some (dX.params,dX.body,dX.scope):=by kernel_rfl
theorem js:kwWritten? dX.params.kwonlyargs dX.params.kw_defaults=some []:=by kernel_rfl
theorem jX:(chainsOk qX&&opensWell CH.row.prog&&(frees CH.row.toRowW&&CH.row.within.isEmpty))=true:=by kernel_rfl
theorem iK:EW.bare:=⟨rfl,rfl,rfl,rfl,rfl,by decide +kernel⟩
end
end Q79
namespace L2
open PySem PySem.Spec PyProof.Rows
abbrev Key:=Sum Int Str
def Yv:Key→Value→Bool
 |.inl k,v=>Value.isInt k v
 |.inr x,v=>Value.isStrOf x v
def jV(w:World):Key→Int
 |.inl k=>hashInt k
 |.inr x=>hashStr w x
theorem DH:∀ {k:Key} {v:Value},Yv k v=true→(∃i t,k=Sum.inl i∧v=Value.int i t)∨(∃x t,k=Sum.inr x∧v=Value.str x t)
 |.inl i,v,h=>by
  obtain⟨t,e⟩:=Value.isInt_shape (k:=i) (v:=v) h;exact .inl ⟨i,t,rfl,e⟩
 |.inr x,v,h=>by
  obtain⟨t,e⟩:=Value.isStrOf_shape (x:=x) (v:=v) h;exact .inr ⟨x,t,rfl,e⟩
theorem eR(a b:Int):decide ((Sum.inl a:Key)=Sum.inl b)=(a==b):=by
 by_cases e:a=b
 ·subst e;simp
 ·have h:¬(Sum.inl a:Key)=Sum.inl b:=fun q=>e (Sum.inl.inj q);rw[decide_eq_false h];exact(beq_eq_false_iff_ne.mpr e).symm
theorem bx(a b:Str):decide ((Sum.inr a:Key)=Sum.inr b)=decide (a=b):=by
 by_cases e:a=b
 ·subst e;simp
 ·have h:¬(Sum.inr a:Key)=Sum.inr b:=fun q=>e (Sum.inr.inj q);rw[decide_eq_false h,decide_eq_false e]
theorem b6(a:Int)(b:Str):decide ((Sum.inl a:Key)=Sum.inr b)=false:=af (fun q=>nomatch q)
theorem fN(a:Str)(b:Int):decide ((Sum.inr a:Key)=Sum.inl b)=false:=af (fun q=>nomatch q)
def Tt(prog:Program)(w:World):PySem.KeyKind prog w Key where
 is:=Yv
 hash:=jV w
 inj:=fun v a b ha hb=>by
  rcases DH ha with ⟨i,t,rfl,rfl⟩|⟨x,t,rfl,rfl⟩
  ·rcases DH hb with ⟨j,u,rfl,e⟩|⟨y,u,rfl,e⟩
   ·injection e with e1 _;rw[e1]
   ·exact nomatch e
  ·rcases DH hb with ⟨j,u,rfl,e⟩|⟨y,u,rfl,e⟩
   ·exact nomatch e
   ·injection e with e1 _;rw[e1]
 byValue:=fun k v h=>by
  rcases DH h with ⟨i,t,rfl,rfl⟩|⟨x,t,rfl,rfl⟩<;>rfl
 pyHash:=fun hv h=>by
  rcases DH hv with ⟨i,t,rfl,rfl⟩|⟨x,t,rfl,rfl⟩
  ·exact wpAny_pyHash_int h
  ·exact wpAny_pyHash_str h
 eqBool:=fun hu hv h=>by
  rcases DH hu with ⟨i,t,rfl,rfl⟩|⟨x,t,rfl,rfl⟩
  ·rcases DH hv with ⟨j,u,rfl,rfl⟩|⟨y,u,rfl,rfl⟩
   ·rw[eR]at h;exact wpAny_eqBool_int h
   ·rw[b6]at h;exact SeqAt.EqAt.int_str i t y u _ _ _ _ h
  ·rcases DH hv with ⟨j,u,rfl,rfl⟩|⟨y,u,rfl,rfl⟩
   ·rw[fN]at h;exact SeqAt.EqAt.str_int x t j u _ _ _ _ h
   ·rw[bx]at h;exact wpAny_eqBool_str h
 «strs»:=fun k x t v h=>by
  rcases DH h with ⟨i,u,rfl,e⟩|⟨y,u,rfl,e⟩
  ·exact nomatch e
  ·injection e with e1 _
   subst e1;cases v<;>rfl
inductive V where
 |BM|bl (b:Bool)|int (i:Int)|str (x:Str)|Me (b:Array UInt8)|Ua (b:UInt64)|ref (a:Addr)|ty (n:String)
 deriving DecidableEq
def RelV:V→Value→Prop
 |.BM,u=>u=Value.none
 |.bl b,u=>u=Value.bool b
 |.int i,u=>∃t,u=Value.int i t
 |.str x,u=>∃t,u=Value.str x t
 |.Me b,u=>∃t,u=Value.bytes b t
 |.Ua b,u=>∃t,u=Value.float b t
 |.ref a,u=>u=Value.ref a
 |.ty n,u=>u=Value.type n
abbrev Vals:List V→List Value→Prop:=Paired RelV
theorem Vals.length{xs:List V}{us:List Value}(r:Vals xs us):xs.length=us.length:=Paired.length r
theorem Vals.get:∀ {xs:List V} {us:List Value} {i:Nat} {x:V},Vals xs us→xs[i]? = some x→∃u,us[i]? = some u∧RelV x u
 |_,_,_,_,.nil,e=>by simp at e
 |_,_,0,_,.cons r _,e=>by simp at e;subst e;exact⟨_,rfl,r⟩
 |_,_,i+1,x,.cons _ t,e=>by
  obtain⟨u,h1,h2⟩:=Vals.get (i:=i) (x:=x) t (by simpa using e);exact⟨u,by simpa using h1,h2⟩
theorem Vals.set{x:V}{u:Value}(r:RelV x u):∀ {xs:List V} {us:List Value} (i:Nat),Vals xs us→Vals (xs.set i x) (us.set i u)
 |_,_,_,.nil=>.nil
 |_,_,0,.cons _ t=>.cons r t
 |_,_,i+1,.cons q t=>.cons q (Vals.set r i t)
theorem Vals.append:∀ {xs ys:List V} {us ws:List Value},Vals xs us→Vals ys ws→Vals (xs++ys) (us++ws)
 |_,_,_,_,.nil,s=>s
 |_,_,_,_,.cons r t,s=>.cons r (Vals.append t s)
theorem Vals.take:∀ {xs:List V} {us:List Value} (n:Nat),Vals xs us→Vals (xs.take n) (us.take n)
 |_,_,0,_=>.nil
 |_,_,_+1,.nil=>.nil
 |_,_,n+1,.cons r t=>.cons r (Vals.take n t)
theorem Vals.drop:∀ {xs:List V} {us:List Value} (n:Nat),Vals xs us→Vals (xs.drop n) (us.drop n)
 |_,_,0,r=>r
 |_,_,_+1,.nil=>.nil
 |_,_,n+1,.cons _ t=>Vals.drop n t
def Xp:Option V→Option Value→Prop
 |some v,some u=>RelV v u
 |none,none=>True
 |_,_=>False
def KV{κ:Type}:List (κ×V)→List (κ×Value)→Prop:=Paired fun(p:κ×V) (q:κ×Value)=>p.1=q.1∧RelV p.2 q.2
def kV:Key→V
 |.inl i=>.int i
 |.inr x=>.str x
inductive HO where
 |lst (xs:List V)
 |tup (xs:List V)
 |dK (kvs:List (Key×V))|dT (kvs:List (List Key×V))
 |set (S:Int→Bool) (n:Nat)
 |ins (C dx:Addr) (fs:List (Str×V))
 |own (x:Addr)
 |xd (fs:List (Str×V))
 |met (f x:Addr)
 |Y1 (lo hi:Int)
 |E1 (o:Obj) (u:HO)
 |Kg (ps:Array Value)
 |ext (φ:Heap→Prop)
abbrev Hp:=Addr→Option HO
def upd(H:Hp)(a:Addr)(o:HO):Hp:=fun b=>if b=a then some o else H b
theorem Ad{H:Hp}{a:Addr}{o:HO}:upd H a o a=some o:=by unfold upd;rw[if_pos rfl]
theorem AW{H:Hp}{a b:Addr}{o:HO}(h:b≠a):upd H a o b=H b:=by unfold upd;rw[if_neg h]
theorem ZO{H:Hp}{a:Addr}{o u:HO}:upd (upd H a o) a u=upd H a u:=by
 funext b;unfold upd;split<;>rfl
theorem BG{H:Hp}{a b:Addr}{o:HO}(h:H a=some o)(h':H b=none):a≠b:=by
 intro e;subst e;rw[h]at h';cases h'
section
variable(P:Program)(w:World)
def C2(H:Hp)(h:Heap)(a:Addr):HO→Prop
 |.lst xs=>xs.length≤sizeLine∧∃(its:List Value) (n:Nat),Vals xs its∧h.get? a=some { cls:=.type "list",data:=.seq its.toArray n}
 |.tup xs=>xs.length≤sizeLine∧∃its:List Value,Vals xs its∧IsTup h a its.toArray
 |.dK kvs=>kvs.length≤sizeLine∧(a==sysModules)=false∧∃vs,KV kvs vs∧h.DictOf (Tt P w) a vs
 |.dT kvs=>kvs.length≤sizeLine∧(a==sysModules)=false∧∃xs:List (List Key×Addr×Value),
   Paired (fun(p:List Key×V) (q:List Key×Addr×Value)=>p.1=q.1∧H q.2.1=some (.tup (p.1.map kV))∧RelV p.2 q.2.2) kvs xs ∧
   ∃o es ep,h.get? a=some o∧o.ExactDict∧o.data=.dict es ep∧es.toList=xs.map (entryOfKey (tupleKind (Tt P w)))∧(xs.map (·.1)).Nodup
 |.set S n=>h.SetOf (intKind P w) a S n
 |.ins C dx fs=>H dx=some (.own a)∧fs.length≤1000∧dx≠a∧h.get? a=some (PySem.W.instObj C dx) ∧
   ∃mA,h.Ns1 dx mA∧(∀f,Xp (fs.lookup f) (mA f))∧PySem.Within mA (fs.map (·.1))
 |.own _=>∃o,h.get? a=some o
 |.xd fs=>∃mA,h.Ns1 a mA∧∀f,Xp (fs.lookup f) (mA f)
 |.Y1 lo hi=>∃t u v,h.get? a=some { cls:=.type "range",data:=.fields #[.int lo t,.int hi u,.int 1 v]}
 |.E1 o u=>h.get? a=some o∧C2 H h a u
 |.Kg ps=>h.get? a=some { cls:=.none,data:=.fields ps}
 |.met f x=>h.get? a=some (PySem.W.methodObj (.ref f) (.ref x))
 |.ext φ=>φ h∧(∃o,h.get? a=some o)∧∀h1 h2:Heap,φ h1→(∀o,h1.get? a=some o→h2.get? a=some o)→φ h2
def D6(H:Hp)(h:Heap):Prop:=∀a o,H a=some o→C2 P w H h a o
end
section
variable{P:Program}{w:World}{H H':Hp}{h h':Heap}{a:Addr}{o:HO}
theorem C2.lt(x:C2 P w H h a o):a<h.objs.size:=by
 cases o with
 |lst xs=>obtain⟨_,_,_,_,e⟩:=x;exact aF e
 |tup xs=>obtain⟨_,_,_,p⟩:=x;exact p.lt
 |dK kvs=>obtain⟨_,_,_,_,o,_,_,e,_⟩:=x;exact aF e
 |dT kvs=>obtain⟨_,_,_,_,o,_,_,e,_⟩:=x;exact aF e
 |set S n=>obtain⟨o,_,_,_,e,_⟩:=x;exact aF e
 |ins C dx fs=>obtain⟨_,_,_,e,_⟩:=x;exact aF e
 |own y=>obtain⟨_,e⟩:=x;exact aF e
 |xd fs=>obtain⟨_,⟨_,_,_,e,_⟩,_⟩:=x;exact aF e
 |Y1 lo hi=>obtain⟨_,_,_,e⟩:=x;exact aF e
 |E1 ob u=>obtain⟨e,_⟩:=x;exact aF e
 |Kg ps=>exact aF (show h.get? a=some _ from x)
 |met f y=>exact aF (show h.get? a=some _ from x)
 |ext φ=>obtain⟨_,⟨_,e⟩,_⟩:=x;exact aF e
theorem Paired.eJ{α β:Type}{F G:α→β→Prop}:∀ {l₁:List α} {l₂:List β},Paired F l₁ l₂→(∀a b,F a b→G a b)→Paired G l₁ l₂
 |_,_,.nil,_=>.nil
 |_,_,.cons r t,f=>.cons (f _ _ r) (Paired.eJ t f)
theorem C2.Ia(x:C2 P w H h a o)(k:∀b u,(b=a∨H b=some (.own a))→h.get? b=some u→h'.get? b=some u)
 (ho:∀b,H b=some (.own a)→H' b=some (.own a))(ht:∀b xs,H b=some (.tup xs)→H' b=some (.tup xs)):C2 P w H' h' a o:=by
 induction o with
 |lst xs=>obtain⟨z,its,n,r,e⟩:=x;exact⟨z,its,n,r,k _ _ (.inl rfl) e⟩
 |tup xs=>obtain⟨z,its,r,ob,e,c⟩:=x;exact⟨z,its,r,ob,k _ _ (.inl rfl) e,c⟩
 |dK kvs=>obtain⟨z,y,vs,r,ob,es,ep,e,c⟩:=x;exact⟨z,y,vs,r,ob,es,ep,k _ _ (.inl rfl) e,c⟩
 |dT kvs =>
  obtain⟨z,y,xs,r,ob,es,ep,e,c⟩:=x;exact⟨z,y,xs,Paired.eJ r fun p q z=>⟨z.1,ht _ _ z.2.1,z.2.2⟩,ob,es,ep,k _ _ (.inl rfl) e,c⟩
 |set S n=>obtain⟨ob,es,ep,t,e,c⟩:=x;exact⟨ob,es,ep,t,k _ _ (.inl rfl) e,c⟩
 |ins C dx fs =>
  obtain⟨d,z,ne,e,mA,⟨od,es,ep,e2,c⟩,r⟩:=x;exact⟨ho _ d,z,ne,k _ _ (.inl rfl) e,mA,⟨od,es,ep,k _ _ (.inr d) e2,c⟩,r⟩
 |own y=>obtain⟨ob,e⟩:=x;exact⟨ob,k _ _ (.inl rfl) e⟩
 |xd fs=>obtain⟨mA,⟨od,es,ep,e,c⟩,r⟩:=x;exact⟨mA,⟨od,es,ep,k _ _ (.inl rfl) e,c⟩,r⟩
 |Y1 lo hi=>obtain⟨t,u,v,e⟩:=x;exact⟨t,u,v,k _ _ (.inl rfl) e⟩
 |E1 ob u ih=>obtain⟨e,q⟩:=x;exact⟨k _ _ (.inl rfl) e,ih q⟩
 |Kg ps =>
  have e:h.get? a=some { cls:=.none,data:=.fields ps}:=x;show h'.get? a=some { cls:=.none,data:=.fields ps};exact k a _ (.inl rfl) e
 |met f y =>
  have e:h.get? a=some (PySem.W.methodObj (.ref f) (.ref y)):=x;show h'.get? a=some (PySem.W.methodObj (.ref f) (.ref y));exact k a _ (.inl rfl) e
 |ext φ=>obtain⟨p,⟨o,e⟩,st⟩:=x;exact⟨st _ _ p fun o q=>k _ _ (.inl rfl) q,⟨o,k _ _ (.inl rfl) e⟩,st⟩
theorem D6.lt(x:D6 P w H h)(e:H a=some o):a<h.objs.size:=(x a o e).lt
theorem D6.fresh(x:D6 P w H h)(e:h.objs.size≤a):H a=none:=by
 cases q:H a with
 |none=>rfl
 |some u=>exact absurd (aG (x.lt q) e) (Nat.lt_irrefl _)
theorem D6.kept(x:D6 P w H h)(k:∀b u,h.get? b=some u→h'.get? b=some u):D6 P w H h':=fun a o e =>
 (x a o e).Ia (fun b u _ q=>k b u q) (fun _ q=>q) fun _ _ q=>q
theorem D6.laid(x:D6 P w H h)(k:∀b u,h.get? b=some u→h'.get? b=some u)(hp:h.objs.size≤a)(new:C2 P w (upd H a o) h' a o):D6 P w (upd H a o) h':=fun b u e=>by
 have hn:=x.fresh hp;by_cases hb:b=a
 ·subst hb;rw[Ad]at e;cases e;exact new
 ·rw[AW hb]at e;exact(x b u e).Ia (fun c v _ q=>k c v q) (fun c q=>by rw[AW (BG q hn)];exact q) fun c xs q=>by rw[AW (BG q hn)];exact q
end
def Rd(H:Hp)(a:Addr)(u:HO):Prop:=H a=some u∨∃o,H a=some (.E1 o u)
theorem Rd.ok{P:Program}{w:World}{H:Hp}{h:Heap}{a:Addr}{u:HO}(r:Rd H a u)(x:D6 P w H h):C2 P w H h a u:=by
 rcases r with r|⟨o,r⟩
 ·exact x a u r
 ·obtain⟨_,q⟩:=x a _ r;exact q
def Yg:Option HO→Prop
 |some (.lst _)=>True
 |some (.dK _)=>True
 |some (.dT _)=>True
 |some (.set _ _)=>True
 |some (.ins _ _ _)=>True
 |some (.ext _)=>True
 |_=>False
section
variable{P:Program}{w:World}{H:Hp}{h h':Heap}{x e:Addr}{o':HO}
theorem D6.write(ok:D6 P w H h)(mu:Yg (H x))(he:e=x∨H e=some (.own x))(k:∀b u,b≠e→h.get? b=some u→h'.get? b=some u)(heo:∃u,h'.get? e=some u)
 (new:C2 P w (upd H x o') h' x o'):D6 P w (upd H x o') h':=fun b u q=>by
 have nown:∀c y,H c=some (.own y)→c≠x:=fun c y r z=>by subst z;rw[r]at mu;exact mu
 have Ui:∀c xs,H c=some (.tup xs)→c≠x:=fun c xs r z=>by subst z;rw[r]at mu;exact mu
 by_cases hb:b=x
 ·subst hb;rw[Ad]at q;cases q;exact new
 ·rw[AW hb]at q;by_cases hbe:b=e
  ·have q':H b=some (.own x):=by
    rcases he with z|z
    ·exact absurd (hbe.trans z) hb
    ·rw[hbe];exact z
   rw[q]at q';cases q';obtain⟨v,hv⟩:=heo;exact⟨v,by rw[hbe];exact hv⟩
  ·refine(ok b u q).Ia (fun c v hc r=>k c v ?_ r) (fun c r=>by rw[AW (nown c b r)];exact r) fun c xs r=>by rw[AW (Ui c xs r)];exact r
   rcases hc with rfl|hc
   ·exact hbe
   ·rintro rfl;rcases he with z|z
    ·exact nown c b hc z
    ·rw[hc]at z;cases z;exact hb rfl
end
structure Un(fs ex:List Addr)(H H':Hp)(h h':Heap):Prop where
 keep:∀b o,h.get? b=some o→H b=none→b ∉ fs→b ∉ ex→h'.get? b=some o
 slot:∀b o,h.get? b=some o→H b=none→b∈fs→b ∉ ex→∃sl,h'.get? b=some {o with slots:=sl}
 free:∀b o,h.get? b=some o→H b=none→b ∉ ex→H' b=none
 there:∀b o,h.get? b=some o→b ∉ ex→∃o',h'.get? b=some o'
 EB:∀b xs,H b=some (.tup xs)→H' b=some (.tup xs)
 Eo:∀b o u,H b=some (.E1 o u)→H' b=some (.E1 o u)
 FR:∀b ps,H b=some (.Kg ps)→∃more,H' b=some (.Kg (ps++more))
 FT:∀b xs o,H b=some (.tup xs)→h.get? b=some o→b ∉ ex→h'.get? b=some o
section
variable{fs ex:List Addr}{H H1:Hp}{h h1 h':Heap}{a x e:Addr}{o:HO}
theorem Un.any(u:Un fs ex H H1 h h1){b:Addr}{ob:Obj}(q:h.get? b=some ob)(n:H b=none)(hx:b ∉ ex):∃sl,h1.get? b=some {ob with slots:=sl}:=by
 by_cases hb:b∈fs
 ·exact u.slot b ob q n hb hx
 ·exact⟨ob.slots,u.keep b ob q n hb hx⟩
theorem Un.kept(k:∀b u,h.get? b=some u→h'.get? b=some u):Un fs ex H H h h' :=
 ⟨fun b ob q _ _ _=>k b ob q,fun b ob q _ _ _=>⟨ob.slots,k b ob q⟩,fun _ _ _ n _=>n,fun b ob q _=>⟨ob,k b ob q⟩,fun _ _ q=>q,fun _ _ _ q=>q,fun _ ps q=>⟨#[],by rw[q];simp⟩,fun _ _ ob _ e _=>k _ ob e⟩
theorem Un.refl:Un fs ex H H h h:=Un.kept fun _ _ q=>q
theorem Un.laid(k:∀b u,h.get? b=some u→h'.get? b=some u)(hp:h.objs.size≤a)(hn:H a=none):Un fs ex H (upd H a o) h h' where
 keep:=fun b u q _ _ _=>k b u q
 slot:=fun b u q _ _ _=>⟨u.slots,k b u q⟩
 free:=fun b u q n _=>by rw[AW (aQ (aG (aF q) hp))];exact n
 there:=fun b u q _=>⟨u,k b u q⟩
 EB:=fun b xs q=>by rw[AW (BG q hn)];exact q
 Eo:=fun b u xs q=>by rw[AW (BG q hn)];exact q
 FR:=fun b ps q=>⟨#[],by rw[AW (BG q hn),q];simp⟩
 FT:=fun b _ u _ e _=>k b u e
theorem Un.write(mu:Yg (H x))(he:e=x∨H e=some (.own x))(k:∀b u,b≠e→h.get? b=some u→h'.get? b=some u)(heo:∃u,h'.get? e=some u):Un fs ex H (upd H x o) h h':=by
 have hx:∀b,H b=none→b≠x:=fun b n z=>by subst z;rw[n]at mu;exact mu
 have hb:∀b,H b=none→b≠e:=fun b n z=>by
  subst z;rcases he with r|r
  ·exact hx b n r
  ·rw[n]at r;cases r
 have hm:∀b u,H b=some u→¬Yg (some u)→b≠x:=fun b u q nm z=>by subst z;rw[q]at mu;exact nm mu
 refine⟨fun b u q n _ _=>k b u (hb b n) q,fun b u q n _ _=>⟨u.slots,k b u (hb b n) q⟩,fun b u q n _=>by rw[AW (hx b n)];exact n,fun b u q _=>?_,
  fun b xs q=>by rw[AW (hm b _ q fun z=>z)];exact q,fun b u xs q=>by rw[AW (hm b _ q fun z=>z)];exact q,fun b ps q=>⟨#[],by rw[AW (hm b _ q fun z=>z),q];simp⟩,fun b xs u q e _=>k b u (fun z=>by
   rcases he with r|r
   ·exact hm b _ q (fun z=>z) (z.trans r)
   ·rw[←z,q]at r;cases r) e⟩
 by_cases hbe:b=e
 ·subst hbe;exact heo
 ·exact⟨u,k b u hbe q⟩
end
def RG(h:Heap)(H:Hp):List Addr:=(List.range h.objs.size).filter fun a=>(H a).isSome
def LF(h:Heap)(H:Hp):Heap:=PySem.W.hideAll h (RG h H)
theorem V0(h:Heap)(H:Hp):(LF h H).objs.size=h.objs.size:=PySem.W.hideAll_size _ _
theorem Xg{h:Heap}{H:Hp}{b:Addr}{o:Obj}(e:h.get? b=some o)(n:H b=none):(LF h H).get? b=some o :=
 bE _ e fun hm=>by
  have q:(H b).isSome=true:=(List.mem_filter.mp hm).2;rw[n]at q;simp at q
theorem Zh{h:Heap}{H:Hp}{b:Addr}{o:Obj}(e:(LF h H).get? b=some o):h.get? b=some o∧H b=none:=by
 have e':h.get? b=some o:=PySem.W.of_hideAll (RG h H) e;refine⟨e',?_⟩;cases q:H b with
 |none=>rfl
 |some x =>
  have hm:b∈RG h H:=List.mem_filter.mpr ⟨bI.mpr (aF e'),by simp[q]⟩;have z:(LF h H).get? b=none:=PySem.W.hideAll_none (RG h H) hm;rw[z]at e;cases e
structure Mod(K:PySem.W.Frag)(mg:Str→Option Value)(base:Heap):Prop where
 MF:K.In base
 glob:base.Ns mainGlobals mg
 blt:∃mb,base.Ns builtinsNs mb∧∀x:Str,x ≠ "__name__" → mb x=bootBuiltins x
 nolimit:base.NoLimit
def jl(d:Nat):List (List V):=[[],[.ref (d+1)],[.int 1,.int 1],[.ref (d+3)],[.ref (d+2),.ref (d+4)],[],[.int 1,.int 2],[.ref (d+7)],[.ref (d+6),.ref (d+8)],[.int 0,.int 1],[.int 1,.int 1],[.ref (d+10),.ref (d+11)],[.ref (d+9),.ref (d+12)],[],[.int 1,.int 1],[.ref (d+15)],[.ref (d+14),.ref (d+16)],[.int 1,.int 2],[.int 1,.int 2],[.ref (d+18),.ref (d+19)],[.ref (d+17),.ref (d+20)],[],[.int 1,.int 3],[.ref (d+23)],[.int 0,.int 1],[.int 2,.int 3],[.ref (d+25),.ref (d+26)],[.ref (d+22),.ref (d+24),.ref (d+27)],[.int 1,.int 4],[.int 0,.int 1],[.int 3,.int 4],[.ref (d+29),.ref (d+30),.ref (d+31)],[.ref (d+28),.ref (d+32)],[],[.int 1,.int 2],[.ref (d+35)],[.int 0,.int 1],[.int 1,.int 2],[.ref (d+37),.ref (d+38)],[.int 0,.int 1],[.int 0,.int 1],[.int 1,.int 1],[.ref (d+40),.ref (d+41),.ref (d+42)],[.ref (d+34),.ref (d+36),.ref (d+39),.ref (d+43)],[.int 1,.int 6],[.int 1,.int 3],[.int 1,.int 3],[.int 1,.int 6],[.ref (d+45),.ref (d+46),.ref (d+47),.ref (d+48)],[.ref (d+44),.ref (d+49)]]
def jr(d:Nat):List (Key×V):=[(.inr "plain",.ref (d+5)),(.inr "middle",.ref (d+13)),(.inr "heel",.ref (d+21)),(.inr "third",.ref (d+33)),(.inr "fourth",.ref (d+50))]
def jS:List V:=[.str "x",.str "y",.str "z",.str "w"]
structure KTb(mg:Str→Option Value)(H:Hp):Prop where
 ju:∀d:Addr,mg "NAMED_TABLES" = some (.ref d)→(∃o,H d=some (.E1 o (.dK (jr d))))∧∀j xs,(jl d)[j]? = some xs→H (d+1+j)=some (.tup xs)
 jo:∀d:Addr,mg "UNKNOWNS" = some (.ref d)→H d=some (.tup jS)
theorem KTb.un{mg:Str→Option Value}{fs ex:List Addr}{H H':Hp}{h h':Heap}(k:KTb mg H)(u:Un fs ex H H' h h'):KTb mg H':=⟨fun d e =>
 let⟨⟨o,h1⟩,h2⟩:=k.ju d e
 ⟨⟨o,u.Eo _ _ _ h1⟩,fun j xs q=>u.EB _ _ (h2 j xs q)⟩,fun d e=>u.EB _ _ (k.jo d e)⟩
theorem KTb.no{mg:Str→Option Value}(h1:mg "NAMED_TABLES" = none)(h2:mg "UNKNOWNS" = none)(H:Hp):KTb mg H:=⟨fun d e=>(by rw[h1]at e;cases e),fun d e=>by rw[h2]at e;cases e⟩
structure Cx where
 prog:Program
 w:World
 K:PySem.W.Frag
 mg:Str→Option Value
 base:Heap
 A:Around
 N:List Str
 s₀:Shared
 H₀:Hp
 env:Env
 outer:List Env
 stack:List Env
 ex:List Addr
 fn:Str→Bool
 calm:Bool
 pn:List (Addr×Obj)
 xe:Value→Shared→Prop
def Ew(l:List Env):List Addr:=l.filterMap (·.frame)
abbrev Cx.fs(X:Cx):List Addr:=Ew X.outer
def dZ(sc:Scope)(x:Str):Prop:=sc.names.lookup x=some .local∨sc.names.lookup x=some .cell∨sc.names.lookup x=some .free
def Loc(sc:Scope)(x:Str):Prop:=sc.names.lookup x=some .local∨sc.names.lookup x=some .cell
def Look(env:Env)(h:Heap)(m:Str→Option Value)(x:Str)(u:Value):Prop :=
 (env.kindOf x=some .local∧m x=some u)∨((env.kindOf x=some .cell∨env.kindOf x=some .free)∧∃c,env.cells.lookup x=some c∧h.IsCell c (some u))
structure Cx.Ok(X:Cx):Prop where
 mod:Mod X.K X.mg X.base
 kind:X.env.scope.kind=.function
 glob:X.env.globals=mainGlobals
 blt:X.env.builtins=builtinsNs
 above:X.s₀.heap.objs.size≤X.env.locals
 inj:∀x y c,X.env.cells.lookup x=some c→X.env.cells.lookup y=some c→x=y
 has:∀x,(X.env.kindOf x=some .cell∨X.env.kindOf x=some .free)→∃c,X.env.cells.lookup x=some c
 SU:∀x c,X.fn x=true→X.env.cells.lookup x=some c→X.s₀.heap.objs.size≤c
 hd:X.calm=true→X.A.handled=none
 frames:X.A.frames=some X.stack
 Vz:X.stack=X.outer∨(X.stack=X.env::X.outer∧X.env.frame=some X.env.locals)
 cH:∀b∈X.ex,b≠X.env.locals∧∀x c,X.env.cells.lookup x=some c→c≠b
 bs:∀b o,X.base.get? b=some o→X.s₀.heap.get? b=some o∧X.H₀ b=none
 MB:X.base.objs.size≤X.s₀.heap.objs.size
 Nt:∀b o,X.base.get? b=some o→b ∉ X.ex
 Np:∀b∈X.ex,b ∉ X.fs
 HM:X.s₀.heap.FunFrames X.base X.outer
 Oh:∀b∈X.fs,X.H₀ b=none
 kt:KTb X.mg X.H₀
structure Inv(X:Cx)(pins:List (Addr×Obj))(σ:List (Option V))(H:Hp)(s:Shared):Prop where
 ok:X.Ok
 os:s.os=X.s₀.os
 bare:AllBare s.gens
 base:Un X.fs X.ex X.H₀ H X.s₀.heap s.heap
 loc:∃m,s.heap.Ns X.env.locals m∧∀(i:Nat) (x:Str) (v:V),X.N[i]? = some x→σ[i]? = some (some v)→dZ X.env.scope x→∃u,RelV v u∧Look X.env s.heap m x u
 cell:∀x c,X.env.cells.lookup x=some c→∃v,s.heap.IsCell c v
 free:H X.env.locals=none
 Er:∀x c,X.env.cells.lookup x=some c→H c=none
 pin:∀p∈X.pn++pins,s.heap.get? p.1=some p.2∧H p.1=none∧p.1≠X.env.locals∧p.1 ∉ X.fs∧∀v,p.2.data≠.cell v
 A7:D6 X.prog X.w H s.heap
 len:σ.length=X.N.length
theorem Inv.kt{X:Cx}{pins:List (Addr×Obj)}{σ:List (Option V)}{H:Hp}{s:Shared}(I:Inv X pins σ H s):KTb X.mg H:=I.ok.kt.un I.base
section
variable{X:Cx}{pins:List (Addr×Obj)}{σ:List (Option V)}{H H':Hp}{s:Shared}{h':Heap}
theorem Cx.Ok.iz(ok:X.Ok){b:Addr}{o:Obj}(e:X.base.get? b=some o):b ∉ X.fs:=fun hb=>by
 have:=(ok.HM.mem hb).1;rw[e]at this;cases this
theorem Inv.bs(I:Inv X pins σ H s):∀b o,X.base.get? b=some o→s.heap.get? b=some o∧H b=none:=fun b o e =>
 ⟨I.base.keep b o (I.ok.bs b o e).1 (I.ok.bs b o e).2 (I.ok.iz e) (I.ok.Nt b o e),I.base.free b o (I.ok.bs b o e).1 (I.ok.bs b o e).2 (I.ok.Nt b o e)⟩
theorem Inv.bk(I:Inv X pins σ H s):∀b o,X.base.get? b=some o→s.heap.get? b=some o:=fun b o e=>(I.bs b o e).1
theorem Inv.mod(I:Inv X pins σ H s):Mod X.K X.mg X.base:=I.ok.mod
theorem Inv.FQ(I:Inv X pins σ H s):X.K.In s.heap:=I.ok.mod.MF.keeps I.bk
theorem Inv.lt(I:Inv X pins σ H s):X.env.locals<s.heap.objs.size:=let⟨_,hn,_⟩:=I.loc;hn.lt
theorem Inv.sz(I:Inv X pins σ H s):X.s₀.heap.objs.size≤s.heap.objs.size:=aH I.ok.above (Nat.le_of_lt I.lt)
theorem Inv.jO(I:Inv X pins σ H s){a:Addr}(h:s.heap.objs.size≤a):a ∉ X.fs:=fun hb=>by
 obtain⟨_,o,ho,_⟩:=I.ok.HM.mem hb;exact absurd (aG (aF ho) (aH I.sz h)) (Nat.lt_irrefl _)
theorem Inv.OA(I:Inv X pins σ H s):∀x c,X.env.cells.lookup x=some c→c≠X.env.locals:=fun x c e z=>by
 obtain⟨v,o,ho,hd⟩:=I.cell x c e;obtain⟨m,⟨o',es,ep,ho',hd',_⟩,_⟩:=I.loc;rw[z,ho']at ho;cases ho;rw[hd']at hd;cases hd
theorem Inv.HM(I:Inv X pins σ H s):s.heap.FunFrames X.base X.outer:=by
 have all:∀(l:List Env),(∀b∈Ew l,b∈X.fs)→X.s₀.heap.FunFrames X.base l→s.heap.FunFrames X.base l:=by
  intro l
  induction l with
  |nil=>intro _ _;trivial
  |cons env r ih =>
   intro hs hl;obtain⟨hk,⟨L,o,hf,hn,ho,hd⟩,hr⟩:=hl;have hL:L∈X.fs:=hs L (by unfold Ew;rw[List.filterMap_cons,hf];exact List.mem_cons_self);obtain⟨sl,e⟩:=I.base.slot L o ho (I.ok.Oh L hL) hL fun z=>I.ok.Np L z hL;exact⟨hk,⟨L,_,hf,hn,e,hd⟩,ih (fun b hb=>hs b (by unfold Ew;rw[List.filterMap_cons,hf];exact aV _ hb)) hr⟩
 exact all X.outer (fun _ hb=>hb) I.ok.HM
theorem Inv.stack(I:Inv X pins σ H s):s.heap.FunFrames X.base X.stack:=by
 rcases I.ok.Vz with e|⟨e,hf⟩
 ·rw[e];exact I.HM
 ·rw[e];obtain⟨m,hn,_⟩:=I.loc;refine .cons (by rw[I.ok.kind];decide) hf hn ?_ I.HM;exact Heap.get?_none_of_le (aH I.ok.MB I.ok.above)
theorem Inv.Kt(I:Inv X pins σ H s):∀b∈Ew X.stack,b∈X.env.locals::X.fs:=fun b hb=>by
 rcases I.ok.Vz with e|⟨e,hf⟩
 ·rw[e]at hb;exact aV _ hb
 ·rw[e]at hb;unfold Ew at hb;rw[List.filterMap_cons,hf]at hb;exact hb
theorem Inv.Ky(I:Inv X pins σ H s):∀b∈Ew X.stack,H b=none:=fun b hb=>by
 rcases aL.mp (I.Kt b hb) with e|hb
 ·rw[e];exact I.free
 ·obtain⟨_,o,ho,_⟩:=I.ok.HM.mem hb;exact I.base.free b o ho (I.ok.Oh b hb) fun z=>I.ok.Np b z hb
theorem Inv.step{g':Array GenState}{t':Nat}{d':Drawn}{ch:List Addr}(I:Inv X pins σ H s)
 (hch:∀b∈ch,(b∈X.ex∨X.s₀.heap.objs.size≤b)∧b≠X.env.locals∧(∀x c,X.env.cells.lookup x=some c→c≠b)∧∀p∈X.pn++pins,p.1≠b)
 (keep:∀b o,b≠X.env.locals→b ∉ X.fs→b ∉ ch→s.heap.get? b=some o→H b=none→h'.get? b=some o)
 (slot:∀b o,b≠X.env.locals→b∈X.fs→b ∉ ch→s.heap.get? b=some o→H b=none→∃sl,h'.get? b=some {o with slots:=sl})(free:∀b o,b ∉ ch→s.heap.get? b=some o→H b=none→H' b=none)
 (there:∀b o,b ∉ ch→s.heap.get? b=some o→∃o',h'.get? b=some o')
 (EB:∀b xs,H b=some (.tup xs)→H' b=some (.tup xs))(Eo:∀b o u,H b=some (.E1 o u)→H' b=some (.E1 o u))(FR:∀b ps,H b=some (.Kg ps)→∃more,H' b=some (.Kg (ps++more)))
 (FT:∀b xs o,b ∉ ch→H b=some (.tup xs)→s.heap.get? b=some o→h'.get? b=some o)
 (ns:∀m,s.heap.Ns X.env.locals m→h'.Ns X.env.locals m)(A7:D6 X.prog X.w H' h')(hg:AllBare g') :
  Inv X pins σ H' {s with heap:=h',gens:=g',drawn:=d',toks:=t'}:=by
 have neL:∀b o,X.s₀.heap.get? b=some o→b≠X.env.locals:=fun b o e=>aQ (aG (aF e) I.ok.above);have neC:∀b o,X.s₀.heap.get? b=some o→b ∉ X.ex→b ∉ ch:=fun b o e hx hb=>by
  rcases(hch b hb).1 with z|z
  ·exact hx z
  ·exact absurd (aG (aF e) z) (Nat.lt_irrefl _)
 have cellK:∀x c,X.env.cells.lookup x=some c→∀v,s.heap.IsCell c v→h'.IsCell c v:=fun x c e v ⟨o,ho,hd⟩=>by
  have nch:c ∉ ch:=fun z=>(hch c z).2.2.1 x c e rfl;by_cases hc:c∈X.fs
  ·obtain⟨sl,q⟩:=slot c o (I.OA x c e) hc nch ho (I.Er x c e);exact⟨_,q,hd⟩
  ·exact⟨o,keep c o (I.OA x c e) hc nch ho (I.Er x c e),hd⟩
 refine⟨I.ok,I.os,hg,⟨fun b o e n hb hx=>?_,fun b o e n hb hx=>?_,fun b o e n hx=>?_,fun b o e hx=>?_,fun b xs e=>EB b xs (I.base.EB b xs e),fun b o xs e=>Eo b o xs (I.base.Eo b o xs e),fun b ps e=>?_,fun b xs o q e hx=>FT b xs o (neC b o e hx) (I.base.EB b xs q) (I.base.FT b xs o q e hx)⟩,?_,fun x c e=>?_,?_,fun x c e=>?_,fun p hp=>?_,A7,I.len⟩
 ·exact keep b o (neL b o e) hb (neC b o e hx) (I.base.keep b o e n hb hx) (I.base.free b o e n hx)
 ·obtain⟨sl,e1⟩:=I.base.slot b o e n hb hx;obtain⟨sl',e2⟩:=slot b _ (neL b o e) hb (neC b o e hx) e1 (I.base.free b o e n hx);exact⟨sl',e2⟩
 ·obtain⟨o',e1⟩:=I.base.there b o e hx;exact free b o' (neC b o e hx) e1 (I.base.free b o e n hx)
 ·obtain⟨o',e1⟩:=I.base.there b o e hx;exact there b o' (neC b o e hx) e1
 ·obtain⟨m1,e1⟩:=I.base.FR b ps e;obtain⟨m2,e2⟩:=FR b _ e1;exact⟨m1++m2,by rw[e2,Array.append_assoc]⟩
 ·obtain⟨m,hn,hl⟩:=I.loc;refine⟨m,ns m hn,fun i x v e1 e2 e3=>?_⟩;obtain⟨u,r,l⟩:=hl i x v e1 e2 e3;refine⟨u,r,?_⟩;rcases l with l|⟨k,c,e,z⟩
  ·exact .inl l
  ·exact .inr ⟨k,c,e,cellK x c e _ z⟩
 ·obtain⟨v,z⟩:=I.cell x c e;exact⟨v,cellK x c e v z⟩
 ·obtain⟨m,⟨o,_,_,ho,_⟩,_⟩:=I.loc;exact free _ o (fun z=>(hch _ z).2.1 rfl) ho I.free
 ·obtain⟨v,o,ho,hd⟩:=I.cell x c e;exact free c o (fun z=>(hch c z).2.2.1 x c e rfl) ho (I.Er x c e)
 ·obtain⟨e,n,ne,nf,d⟩:=I.pin p hp;have nch:p.1 ∉ ch:=fun z=>(hch p.1 z).2.2.2 p hp rfl;exact⟨keep p.1 p.2 ne nf nch e n,free p.1 p.2 nch e n,ne,nf,d⟩
theorem Inv.un{t':Nat}(I:Inv X pins σ H s)(u:Un X.fs [] H H' s.heap h')(A7:D6 X.prog X.w H' h'):Inv X pins σ H' {s with heap:=h',toks:=t'}:=by
 obtain⟨m,⟨o,es,ep,ho,r⟩,_⟩:=id I.loc;obtain⟨sl,hL⟩:=u.any ho I.free (by simp);exact I.step (g':=s.gens) (d':=s.drawn) (ch:=[]) (fun _ z=>nomatch z) (fun b o _ hb _ e n=>u.keep b o e n hb (by simp)) (fun b o _ hb _ e n=>u.slot b o e n hb (by simp)) (fun b o _ e n=>u.free b o e n (by simp)) (fun b o _ e=>u.there b o e (by simp)) u.EB u.Eo u.FR (fun b xs o _ q e=>u.FT b xs o q e (by simp)) (fun m' hm=>by
  obtain⟨o',es',ep',ho',r'⟩:=hm;rw[ho]at ho';cases ho';exact⟨_,es',ep',hL,r'⟩) A7 I.bare
theorem Inv.call{g':Array GenState}{t':Nat}{d':Drawn}{ch:List Addr}(I:Inv X pins σ H s)(u:Un (Ew X.stack) ch H H' s.heap h')(A7:D6 X.prog X.w H' h')(hg:AllBare g')
 (hch:∀b∈ch,(b∈X.ex∨X.s₀.heap.objs.size≤b)∧b≠X.env.locals∧(∀x c,X.env.cells.lookup x=some c→c≠b)∧∀p∈X.pn++pins,p.1≠b) :
  Inv X pins σ H' {s with heap:=h',gens:=g',drawn:=d',toks:=t'}:=by
 obtain⟨m,⟨o,es,ep,ho,r⟩,_⟩:=id I.loc;obtain⟨sl,hL⟩:=u.any ho I.free fun z=>(hch _ z).2.1 rfl;exact I.step (ch:=ch) hch (fun b o hL hb hc e n=>u.keep b o e n (fun z=>(aL.mp (I.Kt b z)).elim hL hb) hc) (fun b o _ _ hc e n=>u.any e n hc) (fun b o hc e n=>u.free b o e n hc) (fun b o hc e=>u.there b o e hc) u.EB u.Eo u.FR (fun b xs o hc q e=>u.FT b xs o q e hc) (fun m' hm=>by
  obtain⟨o',es',ep',ho',r'⟩:=hm;rw[ho]at ho';cases ho';exact⟨_,es',ep',hL,r'⟩) A7 hg
theorem Inv.turned{t':Nat}{it:Addr}(I:Inv X pins σ H s)(k:∀b o,b≠it→s.heap.get? b=some o→h'.get? b=some o)(hn:H it=none)(hL:it≠X.env.locals)
 (h1:it∈X.ex∨X.s₀.heap.objs.size≤it)(h2:∀x c,X.env.cells.lookup x=some c→c≠it)(h3:∀p∈X.pn++pins,p.1≠it):Inv X pins σ H {s with heap:=h',toks:=t'}:=by
 have nit:∀b u,H b=some u→b≠it:=fun b u e z=>by rw[z,hn]at e;cases e
 refine I.step (g':=s.gens) (d':=s.drawn) (ch:=[it]) (fun b hb=>?_) (fun b o _ _ hc e _=>k b o (fun z=>hc (by simp[z])) e) (fun b o _ _ hc e _=>⟨o.slots,k b o (fun z=>hc (by simp[z])) e⟩) (fun _ _ _ _ n=>n)
  (fun b o hc e=>⟨o,k b o (fun z=>hc (by simp[z])) e⟩) (fun _ _ e=>e) (fun _ _ _ e=>e) (fun b ps e=>⟨#[],by rw[e];simp⟩) (fun b xs o hc _ e=>k b o (fun z=>hc (by simp[z])) e) (fun m hm=>?_) (fun b u e=>?_) I.bare
 ·have e:b=it:=by simpa using hb
  subst e;exact⟨h1,hL,h2,h3⟩
 ·obtain⟨o,es,ep,ho,r⟩:=hm;exact⟨o,es,ep,k _ o (Ne.symm hL) ho,r⟩
 ·refine(I.A7 b u e).Ia (fun c v hc q=>k c v ?_ q) (fun _ q=>q) fun _ _ q=>q;rcases hc with z|z
  ·rw[z];exact nit b u e
  ·exact nit c _ z
theorem Inv.tok(I:Inv X pins σ H s)(t:Nat):Inv X pins σ H {s with toks:=t}:=I.un (h':=s.heap) (t':=t) Un.refl I.A7
theorem Inv.kept{t':Nat}(I:Inv X pins σ H s)(k:∀b u,s.heap.get? b=some u→h'.get? b=some u):Inv X pins σ H {s with heap:=h',toks:=t'}:=I.un (Un.kept k) (I.A7.kept k)
theorem Inv.laid{a:Addr}{o:HO}{t':Nat}(I:Inv X pins σ H s)(k:∀b u,s.heap.get? b=some u→h'.get? b=some u)(hp:s.heap.objs.size≤a)(new:C2 X.prog X.w (upd H a o) h' a o) :
  Inv X pins σ (upd H a o) {s with heap:=h',toks:=t'}:=I.un (Un.laid k hp (I.A7.fresh hp)) (I.A7.laid k hp new)
theorem Inv.write{x e:Addr}{o:HO}{t':Nat}(I:Inv X pins σ H s)(mu:Yg (H x))(he:e=x∨H e=some (.own x))(k:∀b u,b≠e→s.heap.get? b=some u→h'.get? b=some u)(heo:∃u,h'.get? e=some u)
 (new:C2 X.prog X.w (upd H x o) h' x o):Inv X pins σ (upd H x o) {s with heap:=h',toks:=t'}:=I.un (Un.write mu he k heo) (I.A7.write mu he k heo new)
theorem Inv.UO{pins':List (Addr×Obj)}(I:Inv X pins σ H s)(h:∀p∈pins',s.heap.get? p.1=some p.2∧H p.1=none∧p.1≠X.env.locals∧p.1 ∉ X.fs∧∀v,p.2.data≠.cell v):Inv X pins' σ H s :=
 ⟨I.ok,I.os,I.bare,I.base,I.loc,I.cell,I.free,I.Er,fun p hp=>(aT.mp hp).elim (fun z=>I.pin p (List.mem_append_left _ z)) (h p),I.A7,I.len⟩
theorem Nj{N:List Str}(hN:N.Nodup){i j:Nat}{x:Str}(a:N[i]? = some x)(b:N[j]? = some x):i=j:=by
 obtain⟨h1,e1⟩:=aE.mp a;obtain⟨h2,e2⟩:=aE.mp b;exact(List.getElem_inj hN).mp (e1.trans e2.symm)
theorem MG{M:Model}{A:Around}{E:Value→Shared→Prop}{i:Nat}{x:Str}{v:V}{u:Value}{Q:Unit→Shared→Prop}(I:Inv X pins σ H s)(hN:X.N.Nodup)(hi:X.N[i]? = some x)(hx:Loc X.env.scope x)(r:RelV v u)
 (h:∀s',Inv X pins (σ.set i (some v)) H s'→(∃a,Heap.SameBut a s.heap s'.heap∧(a=X.env.locals∨X.env.cells.lookup x=some a))→Q () s')(hf:X.fn x=true∨X.env.scope.names.lookup x=some .local:=by first|exact .inl rfl|exact .inr rfl|assumption):wpAny M A (storeName X.env x u) Q E s:=by
 obtain⟨m,hn,hl⟩:=id I.loc;have hcls:(X.env.scope.kind==.class||(X.env.scope.kind==.module&&X.env.locals != X.env.globals))=false:=by rw[I.ok.kind];rfl
 have hiσ:i<σ.length:=by rw[I.len];exact(aE.mp hi).1
 have OA:=I.OA;have tracked:∀ {a:Addr} {h':Heap},(∃o,s.heap.get? a=some o∧H a=none)→Heap.SameBut a s.heap h'→D6 X.prog X.w H h':=fun {a h'} ha hs b ob e=>by
  obtain⟨_,_,hfree⟩:=ha;refine(I.A7 b ob e).Ia (fun c w' hc q=>(hs.2 c ?_).trans q) (fun _ q=>q) fun _ _ q=>q;rintro rfl;rcases hc with rfl|hc
  ·rw[hfree]at e;cases e
  ·rw[hfree]at hc;cases hc
 rcases hx with hk|hk
 ·refine wpAny_storeName_local hk hn (fun h' hn' hs=>?_) hcls;obtain⟨oL,_,_,hoL,_⟩:=id hn;refine h _ ⟨I.ok,I.os,I.bare,⟨fun b o e n hb hx=>?_,fun b o e n hb hx=>?_,I.base.free,fun b o e hx=>?_,I.base.EB,I.base.Eo,I.base.FR,fun b xs o q e hx=>(hs.2 b (aQ (aG (aF e) I.ok.above))).trans (I.base.FT b xs o q e hx)⟩,⟨_,hn',fun j y v' e1 e2 e3=>?_⟩,fun y c e=>?_,I.free,I.Er,fun p hp=>?_,tracked ⟨oL,hoL,I.free⟩ hs,by simpa using I.len⟩ ⟨_,hs,.inl rfl⟩
  ·exact(hs.2 b (aQ (aG (aF e) I.ok.above))).trans (I.base.keep b o e n hb hx)
  ·obtain⟨sl,e1⟩:=I.base.slot b o e n hb hx;exact⟨sl,(hs.2 b (aQ (aG (aF e) I.ok.above))).trans e1⟩
  ·obtain⟨o',e1⟩:=I.base.there b o e hx;exact⟨o',(hs.2 b (aQ (aG (aF e) I.ok.above))).trans e1⟩
  ·by_cases hj:j=i
   ·subst hj;rw[hi]at e1;cases e1;rw[List.getElem?_set_self hiσ]at e2;cases e2;exact⟨u,r,.inl ⟨hk,by simp⟩⟩
   ·rw[List.getElem?_set_ne (Ne.symm hj)]at e2;obtain⟨u',r',q⟩:=hl j y v' e1 e2 e3;refine⟨u',r',?_⟩;rcases q with ⟨k,e⟩|⟨k,c,e,z⟩
    ·refine .inl ⟨k,?_⟩;have:y≠x:=fun e=>hj (Nj hN e1 (e ▸ hi));simp[this,e]
    ·exact .inr ⟨k,c,e,z.sameBut hs (OA y c e)⟩
  ·obtain⟨w',z⟩:=I.cell y c e;exact⟨w',z.sameBut hs (OA y c e)⟩
  ·obtain⟨e,n,ne,nf,d⟩:=I.pin p hp;exact⟨(hs.2 p.1 ne).trans e,n,ne,nf,d⟩
 ·have hfn:X.fn x=true:=by
   rcases hf with z|z
   ·exact z
   ·rw[z]at hk;cases hk
  obtain⟨c,hc⟩:=I.ok.has x (.inl hk);obtain⟨w',z⟩:=I.cell x c hc;refine wpAny_storeName_cell I.ok.kind hk hc z (fun h' hc' hs=>?_);obtain⟨oc,hoc,hocd⟩:=id z;refine h {s with heap:=h'} ⟨I.ok,I.os,I.bare,⟨fun b o e n hb hx=>?_,fun b o e n hb hx=>?_,I.base.free,fun b o e hx=>?_,I.base.EB,I.base.Eo,I.base.FR,fun b xs o q e hx=>(hs.2 b (aQ (aG (aF e) (I.ok.SU x c hfn hc)))).trans (I.base.FT b xs o q e hx)⟩,⟨m,hn.sameBut hs (Ne.symm (OA x c hc)),fun j y v' e1 e2 e3=>?_⟩,fun y c' e=>?_,I.free,I.Er,fun p hp=>?_,tracked ⟨oc,hoc,I.Er x c hc⟩ hs,by simpa using I.len⟩ ⟨c,hs,.inr hc⟩
  ·exact(hs.2 b (aQ (aG (aF e) (I.ok.SU x c hfn hc)))).trans (I.base.keep b o e n hb hx)
  ·obtain⟨sl,e1⟩:=I.base.slot b o e n hb hx;exact⟨sl,(hs.2 b (aQ (aG (aF e) (I.ok.SU x c hfn hc)))).trans e1⟩
  ·obtain⟨o',e1⟩:=I.base.there b o e hx;exact⟨o',(hs.2 b (aQ (aG (aF e) (I.ok.SU x c hfn hc)))).trans e1⟩
  ·by_cases hj:j=i
   ·subst hj;rw[hi]at e1;cases e1;rw[List.getElem?_set_self hiσ]at e2;cases e2;exact⟨u,r,.inr ⟨.inl hk,c,hc,hc'⟩⟩
   ·rw[List.getElem?_set_ne (Ne.symm hj)]at e2;obtain⟨u',r',q⟩:=hl j y v' e1 e2 e3;refine⟨u',r',?_⟩;rcases q with q|⟨k,c',e,z'⟩
    ·exact .inl q
    ·refine .inr ⟨k,c',e,z'.sameBut hs ?_⟩;rintro rfl;exact hj (Nj hN e1 (I.ok.inj _ _ _ e hc ▸ hi))
  ·by_cases hcc:c'=c
   ·subst hcc;exact⟨_,hc'⟩
   ·obtain⟨w2,z2⟩:=I.cell y c' e;exact⟨w2,z2.sameBut hs hcc⟩
  ·obtain⟨e,n,ne,nf,d⟩:=I.pin p hp;refine⟨(hs.2 p.1 ?_).trans e,n,ne,nf,d⟩;intro q;rw[q,hoc]at e;have q':oc=p.2:=aU e;exact d w' (by rw[←q'];exact hocd)
theorem GQ{M:Model}{A:Around}{E:Value→Shared→Prop}{i:Nat}{x:Str}{v:V}{u:Value}{Q:Unit→Shared→Prop}(I:Inv X pins σ H s)(hN:X.N.Nodup)(hi:X.N[i]? = some x)(hx:Loc X.env.scope x)(r:RelV v u)
 (h:∀s',Inv X pins (σ.set i (some v)) H s'→Q () s')(hf:X.fn x=true∨X.env.scope.names.lookup x=some .local:=by first|exact .inl rfl|exact .inr rfl|assumption):wpAny M A (storeName X.env x u) Q E s :=
 MG I hN hi hx r (fun s' I' _=>h s' I') hf
theorem Inv.VV{s':Shared}{ch:List Addr}(I:Inv X pins σ H s)(ho:s'.os=s.os)(u:Un (Ew X.stack) ch H H' s.heap s'.heap)(A7:D6 X.prog X.w H' s'.heap)(hg:AllBare s'.gens)
 (hch:∀b∈ch,(b∈X.ex∨X.s₀.heap.objs.size≤b)∧b≠X.env.locals∧(∀x c,X.env.cells.lookup x=some c→c≠b)∧∀p∈X.pn++pins,p.1≠b):Inv X pins σ H' s':=by
 obtain⟨h',g',d',t',o'⟩:=s';have e:o'=s.os:=ho;subst e;exact I.call (g':=g') (t':=t') (d':=d') u A7 hg hch
end
abbrev XK:=Value→Option Addr→Hp→Prop
abbrev St:=List (Option V)
abbrev VK:=V→Hp→Prop
abbrev TE:=St→Hp→VK→Prop
abbrev TT:=St→Hp→(Bool→Hp→Prop)→Prop
abbrev TA:=St→Hp→(List V→Hp→Prop)→Prop
structure Ends where
 nx:St→Hp→Prop
 rt:VK
 bk:St→Hp→Prop:=fun _ _=>False
 ct:St→Hp→Prop:=fun _ _=>False
abbrev TS:=Ends→St→Hp→Prop
def EP(X:Cx)(pins:List (Addr×Obj))(σ:St)(Q:VK)(u:Value)(s':Shared):Prop:=∃v H',Inv X pins σ H' s'∧RelV v u∧Q v H'
def TP(X:Cx)(pins:List (Addr×Obj))(σ:St)(Q:Bool→Hp→Prop)(b:Bool)(s':Shared):Prop:=∃H',Inv X pins σ H' s'∧Q b H'
def AP(X:Cx)(pins:List (Addr×Obj))(σ:St)(Q:List V→Hp→Prop)(us:List Value)(s':Shared):Prop:=∃vs H',Inv X pins σ H' s'∧Vals vs us∧Q vs H'
def SP(X:Cx)(pins:List (Addr×Obj))(D:Ends)(f:Flow)(s':Shared):Prop :=
 match f with
 |.next=>∃σ' H',Inv X pins σ' H' s'∧D.nx σ' H'
 |.brk=>∃σ' H',Inv X pins σ' H' s'∧D.bk σ' H'
 |.cont=>∃σ' H',Inv X pins σ' H' s'∧D.ct σ' H'
 |.ret u=>∃v σ' H',Inv X pins σ' H' s'∧RelV v u∧D.rt v H'
def PE(X:Cx)(e:Expr)(t:TE):Prop :=
 ∀(pins:List (Addr×Obj)) (s:Shared) (σ:St) (H:Hp) (Q:VK),Inv X pins σ H s→t σ H Q→wpAny (model X.prog X.w) X.A (eval e X.env) (EP X pins σ Q) X.xe s
def PT(X:Cx)(e:Expr)(t:TT):Prop :=
 ∀(pins:List (Addr×Obj)) (s:Shared) (σ:St) (H:Hp) (Q:Bool→Hp→Prop),Inv X pins σ H s→t σ H Q→wpAny (model X.prog X.w) X.A (isTrue e X.env (eval e X.env)) (TP X pins σ Q) X.xe s
def PW(X:Cx)(e:Expr)(t:TT):Prop :=
 ∀(whole:Sem Value) (pins:List (Addr×Obj)) (s:Shared) (σ:St) (H:Hp) (Q:Bool→Hp→Prop),Inv X pins σ H s→t σ H Q→wpAny (model X.prog X.w) X.A (isTrue e X.env whole) (TP X pins σ Q) X.xe s
theorem PW.pt{X:Cx}{e:Expr}{t:TT}(h:PW X e t):PT X e t:=h _
def PA(X:Cx)(es:List Expr)(t:TA):Prop :=
 ∀(pos:Pos) (pins:List (Addr×Obj)) (s:Shared) (σ:St) (H:Hp) (Q:List V→Hp→Prop),Inv X pins σ H s→t σ H Q→wpAny (model X.prog X.w) X.A (spliced (backTo pos (starEach es X.env))) (AP X pins σ Q) X.xe s
def PS(X:Cx)(st:Stmt)(t:TS):Prop :=
 ∀(pins:List (Addr×Obj)) (s:Shared) (σ:St) (H:Hp) (D:Ends),Inv X pins σ H s→t D σ H→wpAny (model X.prog X.w) X.A (exec st X.env) (SP X pins D) X.xe s
def Gj(X:Cx)(st:List Stmt)(t:TS):Prop :=
 ∀(pins:List (Addr×Obj)) (s:Shared) (σ:St) (H:Hp) (D:Ends),Inv X pins σ H s→t D σ H→wpAny (model X.prog X.w) X.A (execs st X.env) (SP X pins D) X.xe s
theorem BD{α:Type}{t:Sem α}{Q Q':α→Shared→Prop}{M:Model}{A:Around}{E:Value→Shared→Prop}{s:Shared}(h:wpAny M A t Q E s)(hQ:∀a s,Q a s→Q' a s):wpAny M A t Q' E s:=aK h hQ fun _ _ x=>x
section
variable{X:Cx}
def D0(i:Nat):TE:=fun σ H Q=>∃v,σ[i]? = some (some v)∧Q v H
def tC(v:V):TE:=fun _ H Q=>Q v H
theorem SS{i:Nat}{x:Str}{pos:Pos}(hN:X.N[i]? = some x)(hv:dZ X.env.scope x)(hd:(x==("__debug__" : Str))=false:=by decide)(hcd:(x==("__classdict__" : Str))=false:=by decide):PE X (.Name x pos) (D0 i):=by
 intro pins s σ H Q I h;obtain⟨v,e,h⟩:=h;obtain⟨m,hn,hl⟩:=I.loc;obtain⟨u,r,l⟩:=hl i x v hN e hv;have fin:EP X pins σ Q u s:=⟨v,H,I,r,h⟩;rcases l with ⟨hk,hm⟩|⟨hk,c,hc,hcell⟩
 ·exact wpAny_Name (wpAny_loadName_local I.ok.kind hk hn hm fin) hd
 ·rcases hk with hk|hk
  ·exact wpAny_Name (wpAny_loadName_cell I.ok.kind hk hc hcell fin) hd
  ·exact wpAny_Name (wpAny_loadName_free I.ok.kind hk hc hcell fin hcd) hd
theorem Ah{i j pos}:PE X (.Constant (.int i) j pos) (tC (.int i)):=fun _ _ _ H _ I h=>wpAny_Constant_int ⟨.int i,H,I.tok _,⟨_,rfl⟩,h⟩
theorem IE{b j pos}:PE X (.Constant (.bool b) j pos) (tC (.bl b)):=fun _ _ _ H _ I h=>Constant_bool ⟨.bl b,H,I,rfl,h⟩
theorem cA{j pos}:PE X (.Constant .none j pos) (tC .BM):=fun _ _ _ H _ I h=>Constant_none ⟨.BM,H,I,rfl,h⟩
theorem dc{x j pos}:PE X (.Constant (.str x) j pos) (tC (.str x)):=fun _ _ _ H _ I h=>Calls.Constant_str ⟨.str x,H,I.tok _,⟨_,rfl⟩,h⟩
def Gl(X:Cx)(x:Str):Prop:=X.env.kindOf x=some .globalImplicit
theorem JD{E:Value→Shared→Prop}{pins:List (Addr×Obj)}{s:Shared}{σ:St}{H:Hp}{x:Str}{u:Value}{pos:Pos}{Q:Value→Shared→Prop}(I:Inv X pins σ H s)(hg:Gl X x)(hm:X.mg x=some u)(h:Q u s)
 (hd:(x==("__debug__" : Str))=false:=by decide):wpAny (model X.prog X.w) X.A (eval (.Name x pos) X.env) Q E s :=
 Calls.Name_function_global I.ok.kind hg (Calls.loadGlobal_global (by rw[I.ok.glob];exact I.mod.glob.keeps I.bk) hm h) hd
theorem Je{E:Value→Shared→Prop}{pins:List (Addr×Obj)}{s:Shared}{σ:St}{H:Hp}{x:Str}{u:Value}{pos:Pos}{Q:Value→Shared→Prop}(I:Inv X pins σ H s)(hg:Gl X x)(hm:X.mg x=none)(hv:bootBuiltins x=some u)(h:Q u s)
 (hn:x ≠ "__name__" := by decide)(hd:(x==("__debug__" : Str))=false:=by decide):wpAny (model X.prog X.w) X.A (eval (.Name x pos) X.env) Q E s:=by
 obtain⟨mb,h1,h2⟩:=I.mod.blt;exact Calls.Name_function_global I.ok.kind hg (Calls.loadGlobal_builtin (by rw[I.ok.glob];exact I.mod.glob.keeps I.bk) hm (by rw[I.ok.blt];exact h1.keeps I.bk) ((h2 x hn).trans hv) h) hd
theorem DB{x:Str}{v:V}{u:Value}{pos:Pos}(hg:Gl X x)(hm:X.mg x=some u)(r:RelV v u)(hd:(x==("__debug__" : Str))=false:=by decide):PE X (.Name x pos) (tC v) :=
 fun _ _ _ H _ I h=>JD I hg hm ⟨v,H,I,r,h⟩ hd
theorem Gi{x:Str}{v:V}{u:Value}{pos:Pos}(hg:Gl X x)(hm:X.mg x=none)(hv:bootBuiltins x=some u)(r:RelV v u)(hn:x ≠ "__name__" := by decide)(hd:(x==("__debug__" : Str))=false:=by decide):PE X (.Name x pos) (tC v) :=
 fun _ _ _ H _ I h=>Je I hg hm hv ⟨v,H,I,r,h⟩ hn hd
variable{a b:Expr}{ta tb:TE}{pos:Pos}
def tB(t:TE):TT:=fun σ H Q=>t σ H fun x H1=>∃c,x=.bl c∧Q c H1
theorem HC{e : Expr}{t : TE}(h : PE X e t)(he : ∀ whole,isTrue e X.env whole = (do let v ← whole; standAt e.pos; holding [v] (truthy v)) := by intro _; rfl) : PT X e (tB t) := by
  intro pins s σ H Q I hw
  refine isTrue_plain (BD (h pins s σ H _ I hw) fun v s1 ⟨x,H1,I1,r1,q1⟩ => ?_) (he _)
  obtain ⟨d,rfl,q⟩:=q1
  cases r1
  exact wpAny_truthy_bool ⟨H1,I1,q⟩
variable{tA tB':TT}{rest:List Expr}
def cC(t u:TT):TT:=fun σ H Q=>t σ H fun c H1=>if c=true then u σ H1 Q else Q false H1
def iq(t u:TT):TT:=fun σ H Q=>t σ H fun c H1=>if c=true then Q true H1 else u σ H1 Q
def di(t:TT):TT:=fun σ H Q=>t σ H fun c H1=>Q (!c) H1
theorem ZP(ha:PT X a tA):PW X (.BoolOp .And [a] pos) tA:=by
 intro wh pins s σ H Q I h;refine isTrue_and (BD (ha pins s σ H Q I h) fun c s1 e=>?_);cases c with
 |true=>exact isTrue_and_nil e
 |false=>exact e
theorem Ki(ha:PT X a tA):PW X (.BoolOp .Or [a] pos) tA:=by
 intro wh pins s σ H Q I h;refine isTrue_or (BD (ha pins s σ H Q I h) fun c s1 e=>?_);cases c with
 |false=>exact isTrue_or_nil e
 |true=>exact e
theorem fm(ha:PT X a tA)(hb:PW X (.BoolOp .And (b::rest) pos) tB'):PW X (.BoolOp .And (a::b::rest) pos) (cC tA tB'):=by
 intro wh pins s σ H Q I h;refine isTrue_and (BD (ha pins s σ H _ I h) fun c s1 ⟨H1,I1,q1⟩=>?_);cases c with
 |true=>exact hb wh pins s1 σ H1 Q I1 q1
 |false=>exact⟨H1,I1,q1⟩
theorem LY(ha:PT X a tA)(hb:PW X (.BoolOp .Or (b::rest) pos) tB'):PW X (.BoolOp .Or (a::b::rest) pos) (iq tA tB'):=by
 intro wh pins s σ H Q I h;refine isTrue_or (BD (ha pins s σ H _ I h) fun c s1 ⟨H1,I1,q1⟩=>?_);cases c with
 |true=>exact⟨H1,I1,q1⟩
 |false=>exact hb wh pins s1 σ H1 Q I1 q1
theorem HK(ha:PT X a tA):PT X (.UnaryOp .Not a pos) (di tA):=by
 intro pins s σ H Q I h;exact isTrue_not (ha pins s σ H (fun c H1=>Q (!c) H1) I h)
def iH(ta tb:TE):TE:=fun σ H Q=>ta σ H fun x H1=>∃c,x=.bl c∧if c=true then tb σ H1 Q else Q (.bl false) H1
def gJ(ta:TE):TE:=fun σ H Q=>ta σ H fun x H1=>∃c,x=.bl c∧Q (.bl (!c)) H1
theorem SK{op}{t:TE}(h:PE X a t):PE X (.BoolOp op [a] pos) t:=fun pins s σ H Q I hw=>BoolOp_one (h pins s σ H Q I hw)
theorem OB(ha:PE X a ta)(hb:PE X (.BoolOp .And (b::rest) pos) tb):PE X (.BoolOp .And (a::b::rest) pos) (iH ta tb):=by
 intro pins s σ H Q I h;refine BoolOp_and (BD (ha pins s σ H _ I h) fun v s1 ⟨x,H1,I1,r1,q1⟩=>?_);obtain⟨c,rfl,q1⟩:=q1;cases r1;refine wpAny_truthy_bool ?_;cases c with
 |true=>exact hb pins s1 σ H1 Q I1 q1
 |false=>exact⟨.bl false,H1,I1,rfl,q1⟩
theorem b8(ha:PE X a ta):PE X (.UnaryOp .Not a pos) (gJ ta):=by
 intro pins s σ H Q I h;refine UnaryOp_ (BD (ha pins s σ H _ I h) fun v s1 ⟨x,H1,I1,r1,q1⟩=>?_);obtain⟨c,rfl,q1⟩:=q1;cases r1;exact not_of (wpAny_truthy_bool ⟨.bl (!c),H1,I1,rfl,q1⟩)
def jt(t:TT)(ta tb:TE):TE:=fun σ H Q=>t σ H fun c H1=>if c=true then ta σ H1 Q else tb σ H1 Q
theorem X3{c:Expr}(hc:PT X c tA)(ha:PE X a ta)(hb:PE X b tb):PE X (.IfExp c a b pos) (jt tA ta tb):=by
 intro pins s σ H Q I h;refine wpAny_IfExp (BD (hc pins s σ H _ I h) fun d s1 ⟨H1,I1,q1⟩=>?_);cases d with
 |true=>exact ha pins s1 σ H1 Q I1 q1
 |false=>exact hb pins s1 σ H1 Q I1 q1
end
def BI(K:PySem.W.Frag)(H:Hp)(a:Addr)(xs:List V):Prop :=
 Rd H a (.lst xs) ∨
  ∃(o:Obj) (its:Array Value) (n:Nat),K.lookup a=some o∧o.cls=.type "list" ∧ o.dict=none∧o.data=.seq its n∧its.size≤sizeLine∧Vals xs its.toList
def CS(K:PySem.W.Frag)(H:Hp)(a:Addr)(xs:List V):Prop :=
 Rd H a (.tup xs) ∨
  ∃(o:Obj) (its:Array Value) (n:Nat),K.lookup a=some o∧o.cls=.type "tuple" ∧ o.data=.seq its n∧its.size≤sizeLine∧Vals xs its.toList
def jj:Value→Option V
 |.none=>some .BM
 |.bool b=>some (.bl b)
 |.int i _=>some (.int i)
 |.str x _=>some (.str x)
 |.bytes b _=>some (.Me b)
 |.float b _=>some (.Ua b)
 |.ref a=>some (.ref a)
 |.type n=>some (.ty n)
 |_=>none
theorem RelV.abs{x:V}{u:Value}(r:RelV x u):jj u=some x:=by
 cases x with
 |BM=>cases r;rfl
 |bl _=>cases r;rfl
 |int _=>obtain⟨t,rfl⟩:=r;rfl
 |str _=>obtain⟨t,rfl⟩:=r;rfl
 |Me _=>obtain⟨t,rfl⟩:=r;rfl
 |Ua _=>obtain⟨t,rfl⟩:=r;rfl
 |ref _=>cases r;rfl
 |ty _=>cases r;rfl
theorem RelV.inj{x y:V}{u:Value}(r:RelV x u)(q:RelV y u):x=y:=aU (r.abs.symm.trans q.abs)
theorem Vals.inj:∀ {xs ys:List V} {us:List Value},Vals xs us→Vals ys us→xs=ys
 |_,_,_,.nil,.nil=>rfl
 |_,_,_,.cons r t,.cons r' t'=>by rw[r.inj r',Vals.inj t t']
section
variable{X:Cx}{pins:List (Addr×Obj)}{σ:St}{H:Hp}{s:Shared}{a:Addr}{xs ys:List V}
theorem BI.of{K:PySem.W.Frag}(h:H a=some (.lst xs)):BI K H a xs:=.inl (.inl h)
theorem CS.of{K:PySem.W.Frag}(h:H a=some (.tup xs)):CS K H a xs:=.inl (.inl h)
theorem Inv.list(I:Inv X pins σ H s)(h:BI X.K H a xs):∃its:List Value,Vals xs its∧PlainL s.heap a its.toArray∧xs.length≤sizeLine:=by
 rcases h with h|⟨o,its,n,hk,hc,hd,hs,hz,r⟩
 ·obtain⟨z,its,n,r,e⟩:=h.ok I.A7;exact⟨its,r,⟨_,n,e,rfl,rfl,rfl⟩,z⟩
 ·refine⟨its.toList,r,⟨o,n,I.FQ a o hk,hc,hd,by simpa using hs⟩,?_⟩;have e:=r.length;simp only[Array.length_toList]at e
  lia
theorem Inv.tuple(I:Inv X pins σ H s)(h:CS X.K H a xs):∃its:List Value,Vals xs its∧IsTup s.heap a its.toArray∧xs.length≤sizeLine:=by
 rcases h with h|⟨o,its,n,hk,hc,hs,hz,r⟩
 ·obtain⟨z,its,r,p⟩:=h.ok I.A7;exact⟨its,r,p,z⟩
 ·refine⟨its.toList,r,⟨o,I.FQ a o hk,hc,n,by simpa using hs⟩,?_⟩;have e:=r.length;simp only[Array.length_toList]at e
  lia
theorem Inv.SV(I:Inv X pins σ H s)(h:BI X.K H a xs)(h':BI X.K H a ys):xs=ys:=by
 obtain⟨its,r,⟨o,n,e,_,_,d⟩,_⟩:=I.list h;obtain⟨its',r',⟨o',n',e',_,_,d'⟩,_⟩:=I.list h';rw[e]at e';cases e';rw[d]at d'
 injection d' with d1 _
 have:its=its':=by simpa using aM Array.toList d1
 subst this;exact r.inj r'
theorem Inv.Vf(I:Inv X pins σ H s)(h:CS X.K H a xs)(h':CS X.K H a ys):xs=ys:=by
 obtain⟨its,r,⟨o,e,_,n,d⟩,_⟩:=I.tuple h;obtain⟨its',r',⟨o',e',_,n',d'⟩,_⟩:=I.tuple h';rw[e]at e';cases e';rw[d]at d'
 injection d' with d1 _
 have:its=its':=by simpa using aM Array.toList d1
 subst this;exact r.inj r'
end
abbrev Cx.Ds(X:Cx)(E:Value→Shared→Prop):Cx:={X with xe:=E}
abbrev Cx.DV(X:Cx):Cx:=X.Ds fun _ _=>False
theorem Cx.Ok.Ds{X:Cx}(ok:X.Ok)(E:Value→Shared→Prop):(X.Ds E).Ok :=
 ⟨ok.mod,ok.kind,ok.glob,ok.blt,ok.above,ok.inj,ok.has,ok.SU,ok.hd,ok.frames,ok.Vz,ok.cH,ok.bs,ok.MB,ok.Nt,ok.Np,ok.HM,ok.Oh,ok.kt⟩
theorem Cx.Ok.Cp{X:Cx}{E:Value→Shared→Prop}(ok:(X.Ds E).Ok):X.Ok :=
 ⟨ok.mod,ok.kind,ok.glob,ok.blt,ok.above,ok.inj,ok.has,ok.SU,ok.hd,ok.frames,ok.Vz,ok.cH,ok.bs,ok.MB,ok.Nt,ok.Np,ok.HM,ok.Oh,ok.kt⟩
section
variable{X:Cx}{pins:List (Addr×Obj)}{σ:St}{H:Hp}{s:Shared}{E:Value→Shared→Prop}
theorem Inv.Ds(I:Inv X pins σ H s)(E:Value→Shared→Prop):Inv (X.Ds E) pins σ H s:=⟨I.ok.Ds E,I.os,I.bare,I.base,I.loc,I.cell,I.free,I.Er,I.pin,I.A7,I.len⟩
theorem Inv.Cp(I:Inv (X.Ds E) pins σ H s):Inv X pins σ H s:=⟨I.ok.Cp,I.os,I.bare,I.base,I.loc,I.cell,I.free,I.Er,I.pin,I.A7,I.len⟩
theorem SP.Cp{D:Ends}{f:Flow}{s':Shared}(h:SP (X.Ds E) pins D f s'):SP X pins D f s':=by
 cases f with
 |next=>obtain⟨σ',H',I,q⟩:=h;exact⟨σ',H',I.Cp,q⟩
 |brk=>obtain⟨σ',H',I,q⟩:=h;exact⟨σ',H',I.Cp,q⟩
 |cont=>obtain⟨σ',H',I,q⟩:=h;exact⟨σ',H',I.Cp,q⟩
 |ret u=>obtain⟨v,σ',H',I,r,q⟩:=h;exact⟨v,σ',H',I.Cp,r,q⟩
theorem Gj.DV{st:List Stmt}{t:TS}(h:Gj X.DV st t):Gj X st t:=fun pins s σ H D I hw =>
 aK (h pins s σ H D (I.Ds _) hw) (fun _ _ q=>q.Cp) fun _ _ z=>False.elim z
end
section
variable{X:Cx}{st:Stmt}{rest:List Stmt}{t u:TS}{e:Expr}{te:TE}{pos:Pos}
def gS:TS:=fun D σ H=>D.nx σ H
def Pe(t u:TS):TS:=fun D σ H=>t {D with nx:=u D} σ H
theorem DQ:Gj X [] gS:=fun _ _ σ H _ I h=>bD ⟨σ,H,I,h⟩
theorem A4(h1:PS X st t)(h2:Gj X rest u):Gj X (st::rest) (Pe t u):=by
 intro pins s σ H D I h;refine wpAny_execs_cons (BD (h1 pins s σ H {D with nx:=u D} I h) fun f s1 q=>?_);cases f with
 |next =>
  obtain⟨σ',H',I',q⟩:=q;exact h2 pins s1 σ' H' D I' q
 |ret v=>exact q
 |brk=>exact q
 |cont=>exact q
theorem BH(h1:PS X st t):Gj X [st] t:=by
 intro pins s σ H D I h;refine wpAny_execs_cons (BD (h1 pins s σ H D I h) fun f s1 q=>?_);cases f with
 |next=>exact bD q
 |ret v=>exact q
 |brk=>exact q
 |cont=>exact q
theorem Inv.quiet{pins:List (Addr×Obj)}{σ:St}{H:Hp}{s:Shared}(I:Inv X pins σ H s):interactive X.env=false:=by simp[interactive,I.ok.kind]
def LW(te:TE):TS:=fun D σ H=>te σ H fun _ H1=>D.nx σ H1
theorem E7(he:PE X e te)(hs:swapsWith e none pos.line X.env=pure false:=by rfl):PS X (.Expr e pos) (LW te):=by
 intro pins s σ H D I h;exact wpAny_Expr_any (BD (he pins s σ H _ I h) fun v s1 ⟨x,H1,I1,r1,q1⟩=>⟨σ,H1,I1,q1⟩) I.quiet hs
def fx(te:TE):TS:=fun D σ H=>te σ H D.rt
theorem Cs(he:PE X e te):PS X (.Return (some e) pos) (fx te):=by
 intro pins s σ H D I h;exact wpAny_Return_some (BD (he pins s σ H _ I h) fun v s1 ⟨x,H1,I1,r1,q1⟩=>⟨x,σ,H1,I1,r1,q1⟩)
def fT(c:TT)(t u:TS):TS:=fun D σ H=>c σ H fun b H1=>if b=true then t D σ H1 else u D σ H1
theorem FL{c:Expr}{a b:List Stmt}{tc:TT}(hc:PT X c tc)(ha:Gj X a t)(hb:Gj X b u):PS X (.If c a b pos) (fT tc t u):=by
 intro pins s σ H D I h;refine wpAny_If (BD (hc pins s σ H _ I h) fun d s1 ⟨H1,I1,q1⟩=>?_);cases d with
 |true=>exact ha pins s1 σ H1 D I1 q1
 |false=>exact hb pins s1 σ H1 D I1 q1
end
abbrev TG:=V→St→Hp→(St→Hp→Prop)→Prop
abbrev RL:=List V→St→Hp→(St→Hp→Prop)→Prop
def PG(X:Cx)(target:Expr)(t:TG):Prop :=
 ∀(pins:List (Addr×Obj)) (s:Shared) (σ:St) (H:Hp) (v:V) (u:Value) (Q:St→Hp→Prop),Inv X pins σ H s→RelV v u→t v σ H Q →
  wpAny (model X.prog X.w) X.A (assign target X.env u) (fun _ s'=>∃σ' H',Inv X pins σ' H' s'∧Q σ' H') X.xe s
def Yh(X:Cx)(ts:List Expr)(t:RL):Prop :=
 ∀(pins:List (Addr×Obj)) (s:Shared) (σ:St) (H:Hp) (vs:List V) (us:List Value) (Q:St→Hp→Prop),Inv X pins σ H s→Vals vs us→t vs σ H Q →
  wpAny (model X.prog X.w) X.A (assignInOrder ((assignEach ts X.env).map (·.2)) us) (fun _ s'=>∃σ' H',Inv X pins σ' H' s'∧Q σ' H') X.xe s
abbrev YA:=V→V→V→Hp→(Hp→Prop)→Prop
def cU(X:Cx)(t:YA):Prop :=
 ∀(pins:List (Addr×Obj)) (s:Shared) (σ:St) (H:Hp) (o i v:V) (ov iv u:Value) (Q:Hp→Prop),Inv X pins σ H s→RelV o ov→RelV i iv→RelV v u→t o i v H Q →
  wpAny (model X.prog X.w) X.A (setItem ov iv u) (fun _ s'=>∃H',Inv X pins σ H' s'∧Q H') X.xe s
section
variable{X:Cx}{pos:Pos}
def Fe(i:Nat):TG:=fun v σ H Q=>Q (σ.set i (some v)) H
theorem El{i:Nat}{x:Str}(hN:X.N.Nodup)(hi:X.N[i]? = some x)(hx:Loc X.env.scope x)(hf:X.fn x=true∨X.env.scope.names.lookup x=some .local:=by first|exact .inl rfl|exact .inr rfl|assumption):PG X (.Name x pos) (Fe i):=by
 intro pins s σ H v u Q I r h;exact wpAny_assign_Name (GQ I hN hi hx r (fun s' I'=>⟨_,H,I',h⟩) hf)
def fy:RL:=fun vs σ H Q=>vs=[]∧Q σ H
def VZ(t:TG)(u:RL):RL:=fun vs σ H Q=>∃v r,vs=v::r∧t v σ H fun σ' H'=>u r σ' H' Q
theorem T7:Yh X [] fy:=by
 intro pins s σ H vs us Q I r h;obtain⟨e,h⟩:=h;subst e;cases r;exact assignInOrder_nil ⟨σ,H,I,h⟩
theorem LG{e:Expr}{es:List Expr}{t:TG}{u:RL}(h1:PG X e t)(h2:Yh X es u)
 (hs:(assignEach (e::es) X.env).map (·.2)=assign e X.env::(assignEach es X.env).map (·.2):=by rfl):Yh X (e::es) (VZ t u):=by
 intro pins s σ H vs us Q I r h;obtain⟨v,vr,e1,h⟩:=h;subst e1;cases r with
 |cons r rr =>
  rw[hs];refine assignInOrder_cons (BD (h1 pins s σ H _ _ _ I r h) fun _ s1 ⟨σ1,H1,I1,q1⟩=>?_);exact h2 pins s1 σ1 H1 _ _ Q I1 rr q1
def eC(K:PySem.W.Frag)(n:Nat)(t:RL):TG:=fun v σ H Q=>∃a xs,v=.ref a∧CS K H a xs∧xs.length=n∧t xs σ H Q
theorem Vg{es:List Expr}{k:Nat}{t:RL}{n:Nat}(hc:X.calm=true)(h:Yh X es t)
 (hn:(assignEach es X.env).length=n:=by rfl)(hst:(assignEach es X.env).findIdx? (·.1)=none:=by rfl):PG X (.Tuple es k pos) (eC X.K n t):=by
 intro pins s σ H v u Q I r hw;obtain⟨a,xs,e1,hq,hl,hw⟩:=hw;subst e1;cases r;obtain⟨its,rv,ht,hz⟩:=I.tuple hq;refine assign_Tuple_tuple (I.ok.hd hc) ht (by simp[hn,←hl,rv.length]) hst fun h' hx=>?_;have I1:Inv X pins σ H {s with heap:=h'}:=I.kept (t':=s.toks) fun b o e=>hx b o (aQ (aF e)) e;exact h pins _ σ H xs _ Q I1 (by simpa using rv) hw
def Uk(to ti:TE)(t:YA):TG:=fun v σ H Q=>to σ H fun o H1=>ti σ H1 fun i H2=>t o i v H2 fun H3=>Q σ H3
theorem K2{o i:Expr}{to ti:TE}{t:YA}(ho:PE X o to)(hi:PE X i ti)(hs:cU X t)
 (ha:∀v,assign (.Subscript o i pos) X.env v=(do
      let ov ←holding [v] (eval o X.env)
      let iv ←holding [v,ov] (eval i X.env)
      standAt pos
      holding [v,ov,iv] (setItem ov iv v)
      release [v,ov,iv] []):=by intro _;rfl):PG X (.Subscript o i pos) (Uk to ti t):=by
  intro pins s σ H v u Q I r h
  rw[ha]
  refine aC (ak (BD (ho pins s σ H _ I h) fun ov s1 ⟨x,H1,I1,r1,q1⟩=>?_))
  refine aC (ak (BD (hi pins s1 σ H1 _ I1 q1) fun iv s2 ⟨y,H2,I2,r2,q2⟩=>?_))
  refine aC (aZ (aC (ak (BD (hs pins s2 σ H2 x y v ov iv u _ I2 r1 r2 r q2) fun _ s3 ⟨H3,I3,q3⟩=>?_))))
  exact wpAny_release ⟨σ,H3,I3,q3⟩
def Jj(te:TE)(g:TG):TS:=fun D σ H=>te σ H fun x H1=>g x σ H1 D.nx
theorem L8{tg e:Expr}{te:TE}{g:TG}(he:PE X e te)(hg:PG X tg g)(hs:swapsWithSole [tg] e pos.line X.env=pure false:=by rfl)(hw:swappedStores [tg] e X.env=pure none:=by rfl)
 (h1:(assignEach [tg] X.env).map (·.2)=[assign tg X.env]:=by rfl):PS X (.Assign [tg] e pos) (Jj te g):=by
 intro pins s σ H D I h;refine wpAny_Assign_stores (BD (he pins s σ H _ I h) fun v s1 ⟨x,H1,I1,r1,q1⟩=>?_) hs hw;rw[h1];exact BD (hg pins s1 σ H1 x v _ I1 r1 q1) fun _ s2 q=>q
theorem Bp{i:Nat}{x:Str}{e:Expr}{te:TE}{pos':Pos}(hN:X.N.Nodup)(hi:X.N[i]? = some x)(hx:Loc X.env.scope x)(he:PE X e te)(hs:swapsWith e (some (.Name x pos')) pos.line X.env=pure false:=by rfl)(hf:X.fn x=true∨X.env.scope.names.lookup x=some .local:=by first|exact .inl rfl|exact .inr rfl|assumption) :
  PS X (.Assign [.Name x pos'] e pos) (Jj te (Fe i)):=by
 intro pins s σ H D I h;refine wpAny_Assign_Name (BD (he pins s σ H _ I h) fun v s1 ⟨y,H1,I1,r1,q1⟩=>?_) hs;exact GQ I1 hN hi hx r1 (fun s2 I2=>⟨_,H1,I2,q1⟩) hf
def jQ(i j:Nat)(ta:TA):TS:=fun D σ H=>ta σ H fun vs H1=>∃v w,vs=[v,w]∧D.nx ((σ.set i (some v)).set j (some w)) H1
theorem dC{i j:Nat}{x y:Str}{a b:Expr}{ta:TA}{px py pt:Pos}{kt k2 pt2}(hc:X.calm=true)(hN:X.N.Nodup)(hi:X.N[i]? = some x)(hj:X.N[j]? = some y)(hij:i≠j)
 (hx:X.env.scope.names.lookup x=some .local)(hy:X.env.scope.names.lookup y=some .local)(ha:PA X [a,b] ta)
 (hw:swappedStores [.Tuple [.Name x px,.Name y py] kt pt] (.Tuple [a,b] k2 pt2) X.env=pure (some [x,y]))
 (hs:swapsWithSole [.Tuple [.Name x px,.Name y py] kt pt] (.Tuple [a,b] k2 pt2) pos.line X.env=pure false:=by rfl) :
  PS X (.Assign [.Tuple [.Name x px,.Name y py] kt pt] (.Tuple [a,b] k2 pt2) pos) (jQ i j ta):=by
 intro pins s σ H D I h;rw[exec_Assign_arm];refine aC (aZ ?_);rw[hs];refine aC (aD ?_);rw[if_neg (by decide)];refine aC (Tuple_ (BD (ha _ pins s σ H _ I h) fun us s1 ⟨vs,H1,I1,r1,q1⟩=>?_));obtain⟨v,w,e1,q1⟩:=q1;subst e1;obtain⟨u1,u2,rfl,rv,rw'⟩:∃u1 u2,us=[u1,u2]∧RelV v u1∧RelV w u2:=by
  cases r1 with
  |cons p q =>
   cases q with
   |cons p' q' =>
    cases q';exact⟨_,_,rfl,p,p'⟩
 refine ax ?_ (by show 2≤sizeLine;decide);have I2:Inv X pins σ H1 {s1 with heap:=s1.heap.push { cls:=.type "tuple",data:=.seq [u1,u2].toArray} }:=I1.kept (t':=s1.toks) fun b o e=>aI _ e;rw[hw];refine aC (aD ?_);show wpAny (model X.prog X.w) X.A (do rule "assign.swapped-stores"; let items ←unpackItems (.ref s1.heap.objs.size) 2 none;assignInOrder [fun v=>bindName X.env y v,fun v=>bindName X.env x v] items.reverse;pure Flow.next) _ _ _;refine aC (wpAny_rule (aC (unpackItems_tuple (items:=#[u1,u2]) (I.ok.hd hc) (IsTup.new s1.heap _) fun h' hx'=>?_)));have I3:=I2.kept (h':=h') (t':=s1.toks) fun b o e=>hx' b o (aQ (aF e)) e;show wpAny _ _ (assignInOrder [fun v=>bindName X.env y v,fun v=>bindName X.env x v] [u2,u1]>>=fun _=>pure Flow.next) _ _ _;refine aC (assignInOrder_cons (wpAny_bindName (GQ I3 hN hj (.inl hy) rw' (fun s2 I4=>?_) (.inr hy))));refine assignInOrder_cons (wpAny_bindName (GQ I4 hN hi (.inl hx) rv (fun s3 I5=>assignInOrder_nil (aD ?_)) (.inr hx)));rw[List.set_comm _ _ (Ne.symm hij)]at I5;exact⟨_,H1,I5,q1⟩
end
section
variable{X:Cx}{pos:Pos}
def Wb(c:TT)(tb:TS):TS:=fun D σ H=>∃W:Nat→St→Hp→Prop,(∃m,W m σ H)∧∀m σ H,W m σ H →
 c σ H fun b H1=>if b=true then ∃N:St→Hp→Prop,(∀σ' H',N σ' H'→∃m',m'<m∧W m' σ' H')∧tb {D with nx:=N,ct:=N,bk:=D.nx} σ H1 else D.nx σ H1
theorem Sb{c:Expr}{body:List Stmt}{tc:TT}{tb:TS}(hp:PassesOwn (model X.prog X.w) X.A X.env X.xe)(hc:PT X c tc)(hb:Gj X body tb):PS X (.While c body [] pos) (Wb tc tb):=by
 intro pins s σ H D I h;obtain⟨W,⟨m0,w0⟩,turn⟩:=h;refine wpAny_While (codeAny_whileLoop (fun n s'=>∃σ' H',Inv X pins σ' H' s'∧W n σ' H') ?_ m0 ⟨σ,H,I,w0⟩);rintro n s1 ⟨σ1,H1,I1,w1⟩;refine wpAny_passesOwn hp (BD (hc pins s1 σ1 H1 _ I1 (turn n σ1 H1 w1)) fun b s2 ⟨H2,I2,q2⟩=>?_);cases b with
 |true =>
  obtain⟨N,hN,q2⟩:=q2;rw[if_pos rfl];refine wpAny_passesOwn hp (BD (hb pins s2 σ1 H2 _ I2 q2) fun f s3 q3=>?_);cases f with
  |next =>
   obtain⟨σ3,H3,I3,n3⟩:=q3;obtain⟨m',hm,w3⟩:=hN σ3 H3 n3;exact⟨m',hm,σ3,H3,I3,w3⟩
  |cont =>
   obtain⟨σ3,H3,I3,n3⟩:=q3;obtain⟨m',hm,w3⟩:=hN σ3 H3 n3;exact⟨m',hm,σ3,H3,I3,w3⟩
  |brk=>exact q3
  |ret v=>exact q3
 |false =>
  rw[if_neg aO];exact bD ⟨σ1,H2,I2,q2⟩
end
structure It where
 go:Nat→Hp→Prop
 Gb:Nat→Hp→V→Hp→Prop
 stop:Nat→Hp→Prop
def Hn(X:Cx)(pins:List (Addr×Obj))(H:Hp)(b:Addr):Prop :=
 H b=none∧b≠X.env.locals∧b ∉ X.fs∧(b∈X.ex∨X.s₀.heap.objs.size≤b)∧(∀x c,X.env.cells.lookup x=some c→c≠b)∧∀p∈X.pn++pins,p.1≠b
theorem Inv.Rg{X:Cx}{pins:List (Addr×Obj)}{σ:St}{H H':Hp}{s:Shared}{b:Addr}(I:Inv X pins σ H s)(hb:s.heap.objs.size≤b)(hn:H' b=none):Hn X pins H' b:=by
 refine⟨hn,Nat.ne_of_gt (aG I.lt hb),I.jO hb,.inr (aH I.sz hb),fun x c e z=>?_,fun p hp z=>?_⟩
 ·obtain⟨v,q⟩:=I.cell x c e;exact absurd (aG q.lt (by rw[z];exact hb)) (Nat.lt_irrefl _)
 ·exact absurd (aG (aF (I.pin p hp).1) (by rw[z];exact hb)) (Nat.lt_irrefl _)
structure Turn(P:Program)(w:World)(K:PySem.W.Frag)(tg:Expr)(J:It)(fp:List Addr)(it:Addr)(tn:Nat→Heap→Prop):Prop where
 mem:it∈fp
 obj:∀i h,tn i h→∀b∈fp,∃o,h.get? b=some o∧∀v,o.data≠.cell v
 keep:∀i h h',tn i h→(∀b∈fp,∀o,h.get? b=some o→h'.get? b=some o)→tn i h'
 item:∀(X:Cx),X.prog=P→X.w=w→X.K=K→X.calm=true→∀(i:Nat) (pins:List (Addr×Obj)) (s:Shared) (σ:St) (H:Hp) (E:Value→Shared→Prop),Inv X pins σ H s→(∀b∈fp,Hn X pins H b)→tn i s.heap→J.go i H →
  wpAny (model P w) X.A (pyNext (.ref it)) (fun r s1=>∃u,r=some u ∧
   wpAny (model P w) X.A (letOwnedTupleGo tg (.ref it) u) (fun _ s2=>∃x H',Inv X pins σ H' s2∧RelV x u∧J.Gb i H x H'∧tn (i+1) s2.heap∧∀b∈fp,H' b=none) E s1) E s
 done:∀(X:Cx),X.prog=P→X.w=w→X.K=K→X.calm=true→∀(i:Nat) (pins:List (Addr×Obj)) (s:Shared) (σ:St) (H:Hp) (E:Value→Shared→Prop),Inv X pins σ H s→(∀b∈fp,Hn X pins H b)→tn i s.heap→J.stop i H →
  wpAny (model P w) X.A (pyNext (.ref it)) (fun r s1=>r=none∧Inv X pins σ H s1) E s
 self:∀(A:Around) (i:Nat) (s:Shared) (Q:Value→Shared→Prop) (E:Value→Shared→Prop),tn i s.heap→Q (.ref it) s→wpAny (model P w) A (pyIter (.ref it)) Q E s
abbrev TI:=St→Hp→(It→Hp→Prop)→Prop
def ip(X:Cx)(pins:List (Addr×Obj))(σ:St)(tg:Expr)(R:It→Hp→Prop)(itv:Value)(s2:Shared):Prop :=
 ∃(it:Addr) (fp:List Addr) (tn:Nat→Heap→Prop) (J:It) (H':Hp),itv=.ref it∧Inv X pins σ H' s2∧Turn X.prog X.w X.K tg J fp it tn∧tn 0 s2.heap∧(∀b∈fp,Hn X pins H' b)∧R J H'
def PI(X:Cx)(tg iter:Expr)(wi:TI):Prop :=
 ∀(pins:List (Addr×Obj)) (s:Shared) (σ:St) (H:Hp) (R:It→Hp→Prop),Inv X pins σ H s→wi σ H R →
  wpAny (model X.prog X.w) X.A (eval iter X.env) (fun v s1=>wpAny (model X.prog X.w) X.A (pyIter v) (ip X pins σ tg R) X.xe s1) X.xe s
theorem Qa{M:Model}{A:Around}{E:Value→Shared→Prop}{s:Shared}{tg:Expr}{it:Addr}{u:Value}{o:Obj}{n:String}{vs:Array Value}{Q:Unit→Shared→Prop}(ho:s.heap.get? it=some o)(hc:o.cls=.type n)(hd:o.data=.fields vs)
 (hn:["enumerate", "zip", "dict_itemiterator", "dict_reverseitemiterator", "odict_iterator", "itertools.zip_longest", "itertools.pairwise"].contains n=false)(hQ:Q () s):wpAny M A (letOwnedTupleGo tg (.ref it) u) Q E s:=by
 unfold letOwnedTupleGo;cases tg<;>first
  |exact aD hQ
  |(cases u<;>first
    |exact aD hQ
    |(refine aC (wpAny_load ho ?_)
      rw[hc,hd];show wpAny M A (if(["enumerate", "zip", "dict_itemiterator", "dict_reverseitemiterator", "odict_iterator", "itertools.zip_longest", "itertools.pairwise"].contains n&&vs[0]? == some (rawInt _))=true then _ else _) Q E s;rw[if_neg (by intro h;rw[hn,Bool.false_and]at h;cases h)];exact aD hQ))
def UK(K:PySem.W.Frag)(a:Addr):It :=
 ⟨fun i H=>∃xs x,BI K H a xs∧xs[i]? = some x,fun i H x H'=>H'=H∧∀xs,BI K H a xs→xs[i]? = some x,fun i H=>∃xs,BI K H a xs∧xs.length≤i⟩
def ff(K:PySem.W.Frag)(a:Addr):It :=
 ⟨fun i H=>∃xs x,CS K H a xs∧xs[i]? = some x,fun i H x H'=>H'=H∧∀xs,CS K H a xs→xs[i]? = some x,fun i H=>∃xs,CS K H a xs∧xs.length≤i⟩
def SX(lo:Int)(n:Nat):It:=⟨fun i _=>i<n,fun i H x H'=>H'=H∧x=.int (lo+i),fun i _=>n≤i⟩
theorem WJ{P:Program}{w:World}{K:PySem.W.Frag}{tg:Expr}(a it:Addr):Turn P w K tg (UK K a) [it] it (fun i h=>h.IsListIter it a i) where
 mem:=by simp
 obj:=fun i h st b hb=>by
  have e:b=it:=by simpa using hb
  subst e;obtain⟨o,e,c,d⟩:=st;exact⟨o,e,fun v z=>by rw[d]at z;cases z⟩
 keep:=fun i h h' st k=>st.at fun o e=>k it (by simp) o e
 item:=by
  intro X hP hw hK hc i pins s σ H E I hf st hg;subst hP hw hK;obtain⟨xs,x,hq,hx⟩:=hg;obtain⟨its,rv,p,hz⟩:=I.list hq;obtain⟨u,hu,ru⟩:=rv.get hx;obtain⟨f0,f1,f2,f3,f4,f5⟩:=hf it (by simp);refine wpAny_pyNext_list_item st p.isList (x:=u) (by simpa using hu) fun h' st' sb=>?_;have I1:Inv X pins σ H {s with heap:=h'}:=I.turned (t':=s.toks) (fun b o hb e=>(sb.2 b hb).trans e) f0 f1 f3 f4 f5;obtain⟨o,e,c,d⟩:=id st';exact⟨u,rfl,Qa (s:={s with heap:=h'}) e c d (by decide) ⟨x,H,I1,ru,⟨rfl,fun ys hy=>by rw[I.SV hy hq];exact hx⟩,st',fun b hb=>(hf b hb).1⟩⟩
 done:=by
  intro X hP hw hK hc i pins s σ H E I hf st hg;subst hP hw hK;obtain⟨xs,hq,hx⟩:=hg;obtain⟨its,rv,p,hz⟩:=I.list hq;obtain⟨f0,f1,f2,f3,f4,f5⟩:=hf it (by simp);have hl:=rv.length;exact wpAny_pyNext_list_end (I.ok.hd hc) st p.isList (by simp;lia) fun h' eb=>⟨rfl,I.turned (t':=s.toks) (fun b o hb e=>eb b o hb e) f0 f1 f3 f4 f5⟩
 self:=fun _ _ _ _ _ st h=>wpAny_pyIter_listiter st h
theorem U9{P:Program}{w:World}{K:PySem.W.Frag}{tg:Expr}(a it:Addr):Turn P w K tg (ff K a) [it] it (fun i h=>h.IsTupleIter it a i) where
 mem:=by simp
 obj:=fun i h st b hb=>by
  have e:b=it:=by simpa using hb
  subst e;obtain⟨o,e,c,d⟩:=st;exact⟨o,e,fun v z=>by rw[d]at z;cases z⟩
 keep:=fun i h h' st k=>st.at fun o e=>k it (by simp) o e
 item:=by
  intro X hP hw hK hc i pins s σ H E I hf st hg;subst hP hw hK;obtain⟨xs,x,hq,hx⟩:=hg;obtain⟨its,rv,p,hz⟩:=I.tuple hq;obtain⟨u,hu,ru⟩:=rv.get hx;obtain⟨f0,f1,f2,f3,f4,f5⟩:=hf it (by simp);refine wpAny_pyNext_tuple_item st (show s.heap.IsTuple a its.toArray from p) (x:=u) (by simpa using hu) fun h' st' sb=>?_;have I1:Inv X pins σ H {s with heap:=h'}:=I.turned (t':=s.toks) (fun b o hb e=>(sb.2 b hb).trans e) f0 f1 f3 f4 f5;obtain⟨o,e,c,d⟩:=id st';exact⟨u,rfl,Qa (s:={s with heap:=h'}) e c d (by decide) ⟨x,H,I1,ru,⟨rfl,fun ys hy=>by rw[I.Vf hy hq];exact hx⟩,st',fun b hb=>(hf b hb).1⟩⟩
 done:=by
  intro X hP hw hK hc i pins s σ H E I hf st hg;subst hP hw hK;obtain⟨xs,hq,hx⟩:=hg;obtain⟨its,rv,p,hz⟩:=I.tuple hq;obtain⟨f0,f1,f2,f3,f4,f5⟩:=hf it (by simp);have hl:=rv.length;exact wpAny_pyNext_tuple_end (I.ok.hd hc) st (show s.heap.IsTuple a its.toArray from p) (by simp;lia) fun h' eb=>⟨rfl,I.turned (t':=s.toks) (fun b o hb e=>eb b o hb e) f0 f1 f3 f4 f5⟩
 self:=fun _ _ _ _ _ st h=>wpAny_pyIter_tupleiter st h
theorem U2{P:Program}{w:World}{K:PySem.W.Frag}{tg:Expr}(it:Addr)(lo:Int)(n:Nat):Turn P w K tg (SX lo n) [it] it (fun i h=>IsRangeIter h it (lo+(i:Nat)*1) ((n:Int)-(i:Nat)) 1) where
 mem:=by simp
 obj:=fun i h st b hb=>by
  have e:b=it:=by simpa using hb
  subst e;exact⟨_,st,fun v z=>by
   have z':Data.fields _=Data.cell v:=z;cases z'⟩
 keep:=fun i h h' st k=>k it (by simp) _ st
 item:=by
  intro X hP hw hK hc i pins s σ H E I hf st hg;subst hP hw hK;obtain⟨f0,f1,f2,f3,f4,f5⟩:=hf it (by simp);have W:=Walks.range (prog:=X.prog) (w:=X.w) (I.ok.hd hc) it lo 1 n;refine W.item i s _ _ hg st fun v h' tk hv st' kk=>?_;obtain⟨t,rfl⟩:=hv;have I1:Inv X pins σ H {s with heap:=h',toks:=tk}:=I.turned (fun b o hb e=>kk b o (by simpa using hb) e) f0 f1 f3 f4 f5;refine⟨_,rfl,Qa (s:={s with heap:=h',toks:=tk}) (n := "range_iterator") st' rfl rfl (by decide) ⟨.int (lo+i),H,I1,⟨t,?_⟩,⟨rfl,rfl⟩,st',fun b hb=>(hf b hb).1⟩⟩;rw[Int.mul_one]
 done:=by
  intro X hP hw hK hc i pins s σ H E I hf st hg;subst hP hw hK;obtain⟨f0,f1,f2,f3,f4,f5⟩:=hf it (by simp);exact wpAny_pyNext_range_end (I.ok.hd hc) st (by have:n≤i:=hg;lia) fun h' eb=>⟨rfl,I.turned (t':=s.toks) (fun b o hb e=>eb b o hb e) f0 f1 f3 f4 f5⟩
 self:=fun _ _ _ _ _ st h=>wpAny_pyIter_rangeiter st h
section
variable{X:Cx}{tg:Expr}
def iG(K:PySem.W.Frag)(tl:TE):TI:=fun σ H R=>tl σ H fun x H1=>∃a,x=.ref a∧(∃xs,BI K H1 a xs)∧R (UK K a) H1
def jN(K:PySem.W.Frag)(tl:TE):TI:=fun σ H R=>tl σ H fun x H1=>∃a,x=.ref a∧(∃xs,CS K H1 a xs)∧R (ff K a) H1
theorem PU{l:Expr}{tl:TE}(hl:PE X l tl):PI X tg l (iG X.K tl):=by
 intro pins s σ H R I h;refine BD (hl pins s σ H _ I h) fun v s1 ⟨x,H1,I1,r1,q1⟩=>?_;obtain⟨a,e,⟨xs,hq⟩,q⟩:=q1;subst e;cases r1;obtain⟨its,rv,p,hz⟩:=I1.list hq;refine wpAny_pyIter_list p.isList ?_;refine⟨s1.heap.objs.size,[s1.heap.objs.size],_,_,H1,rfl,I1.kept (t':=s1.toks) fun b o e=>aI _ e,WJ a _,⟨_,Heap.get?_push_size _ rfl,rfl,rfl⟩,fun b hb=>?_,q⟩;have e:b=s1.heap.objs.size:=by simpa using hb
 subst e;exact I1.Rg (aJ _) (I1.A7.fresh (aJ _))
theorem gH{l:Expr}{tl:TE}(hl:PE X l tl):PI X tg l (jN X.K tl):=by
 intro pins s σ H R I h;refine BD (hl pins s σ H _ I h) fun v s1 ⟨x,H1,I1,r1,q1⟩=>?_;obtain⟨a,e,⟨xs,hq⟩,q⟩:=q1;subst e;cases r1;obtain⟨its,rv,p,hz⟩:=I1.tuple hq;refine wpAny_pyIter_tuple (show s1.heap.IsTuple a its.toArray from p) ?_;refine⟨s1.heap.objs.size,[s1.heap.objs.size],_,_,H1,rfl,I1.kept (t':=s1.toks) fun b o e=>aI _ e,U9 a _,⟨_,Heap.get?_push_size _ rfl,rfl,rfl⟩,fun b hb=>?_,q⟩;have e:b=s1.heap.objs.size:=by simpa using hb
 subst e;exact I1.Rg (aJ _) (I1.A7.fresh (aJ _))
theorem Xd{pins:List (Addr×Obj)}{σ:St}{H:Hp}{s:Shared}{R:It→Hp→Prop}{E:Value→Shared→Prop}{lo hi:Int}{t u v:Tok}{tk:Nat}(I:Inv X pins σ H s)(h1:-(2^62)≤lo)(h2:lo<2^62)(h3:-(2^62)≤hi)(h4:hi<2^62)
 (q:R (SX lo (hi-lo).toNat) H):wpAny (model X.prog X.w) X.A (pyIter (.ref s.heap.objs.size)) (ip X pins σ tg R) E {s with heap:=s.heap.push { cls:=.type "range",data:=.fields #[.int lo t,.int hi u,.int 1 v]},toks:=tk}:=by
 refine wpAny_pyIter_range (IsRange.new ..) (small_one h1 h2 h3 h4) ?_;have I1:Inv X pins σ H {s with heap:=s.heap.push { cls:=.type "range",data:=.fields #[.int lo t,.int hi u,.int 1 v]},toks:=tk}:=I.kept fun b o e=>aI _ e;refine⟨(s.heap.push { cls:=.type "range",data:=.fields #[.int lo t,.int hi u,.int 1 v]}).objs.size,[(s.heap.push { cls:=.type "range",data:=.fields #[.int lo t,.int hi u,.int 1 v]}).objs.size],_,_,H,rfl,
  I1.kept (t':=tk) fun b o e=>aI _ e,U2 _ lo (hi-lo).toNat,?_,fun b hb=>?_,q⟩
 ·have e1:lo+((0:Nat):Int)*1=lo:=by simp
  have e2:(((hi-lo).toNat:Nat):Int)-((0:Nat):Int)=Builtin.Range.rangeSize lo hi 1:=by rw[rangeSize_one];split<;>lia
  show IsRangeIter _ _ (lo+((0:Nat):Int)*1) ((((hi-lo).toNat:Nat):Int)-((0:Nat):Int)) 1;rw[e1,e2];exact Heap.get?_push_size _ rfl
 ·have e:b=(s.heap.push { cls:=.type "range",data:=.fields #[.int lo t,.int hi u,.int 1 v]}).objs.size:=by simpa using hb
  subst e;exact I1.Rg (aJ _) (I1.A7.fresh (aJ _))
def iD(ta:TA):TI:=fun σ H R=>ta σ H fun vs H1=>∃j:Int,vs=[.int j]∧-(2^62)≤j∧j<2^62∧R (SX 0 j.toNat) H1
theorem Mh{a:Expr}{ta:TA}{p pos:Pos}(hg:Gl X "range")(hm:X.mg "range" = none)(ha:PA X [a] ta)(hs:starEach [a] X.env=[(false,eval a X.env)]:=by rfl):PI X tg (.Call (.Name "range" p) [a] [] pos) (iD ta):=by
 intro pins s σ H R I h;refine Call_ (Je I hg hm boot_range (PyProof.Rows.callWith_type1 (BD (ha pos pins s σ H _ I h) fun us s1 ⟨vs,H1,I1,r1,q1⟩=>?_) hs rfl));obtain⟨j,e,q1,q2,q⟩:=q1;subst e;cases r1 with
 |cons r rr =>
  cases rr;obtain⟨t,rfl⟩:=r;exact call_range_1 (Xd I1 (by lia) (by lia) q1 q2 (by simpa using q))
def jb(wi:TI)(g:TG)(tb:TS):TS:=fun D σ H=>wi σ H fun J H1=>∃W:Nat→Nat→St→Hp→Prop,(∃m,W 0 m σ H1)∧∀i m σ H,W i m σ H →
 (J.stop i H∧D.nx σ H)∨(J.go i H∧∃N:St→Hp→Prop,(∀σ' H',N σ' H'→∃m',m'<m∧W (i+1) m' σ' H')∧∀x H',J.Gb i H x H'→g x σ H' fun σ2 H2=>tb {D with nx:=N,ct:=N,bk:=D.nx} σ2 H2)
def K6(fp:List Addr)(h:Heap):List (Addr×Obj):=fp.filterMap fun b=>(h.get? b).map fun o=>(b,o)
theorem Fw{fp:List Addr}{h:Heap}{b:Addr}{o:Obj}(hb:b∈fp)(e:h.get? b=some o):(b,o)∈K6 fp h:=List.mem_filterMap.mpr ⟨b,hb,by rw[e];rfl⟩
theorem WO{fp:List Addr}{h:Heap}{p:Addr×Obj}(hp:p∈K6 fp h):p.1∈fp∧h.get? p.1=some p.2:=by
 obtain⟨b,hb,e⟩:=List.mem_filterMap.mp hp;cases q:h.get? b with
 |none=>rw[q]at e;cases e
 |some o =>
  rw[q]at e;have e':(b,o)=p:=aU e;subst e';exact⟨hb,q⟩
theorem Inv.pinned{pins:List (Addr×Obj)}{σ:St}{H:Hp}{s:Shared}{fp:List Addr}(I:Inv X pins σ H s)(hf:∀b∈fp,Hn X pins H b)(ho:∀b∈fp,∃o,s.heap.get? b=some o∧∀v,o.data≠.cell v):Inv X (pins++K6 fp s.heap) σ H s :=
 I.UO fun p hp=>(aT.mp hp).elim (fun z=>I.pin p (aP _ z)) fun z=>by
  obtain⟨hb,e⟩:=WO z;obtain⟨f0,f1,f2,_⟩:=hf p.1 hb;obtain⟨o,e',d⟩:=ho p.1 hb;rw[e]at e';cases e';exact⟨e,f0,f1,f2,d⟩
theorem Inv.JU{pins pl:List (Addr×Obj)}{σ:St}{H:Hp}{s:Shared}(I:Inv X (pins++pl) σ H s):Inv X pins σ H s:=I.UO fun p hp=>I.pin p (aP _ (List.mem_append_left _ hp))
theorem Ko{iter:Expr}{body:List Stmt}{wi:TI}{g:TG}{tb:TS}{pos:Pos}(hp:PassesOwn (model X.prog X.w) X.A X.env X.xe)(hc:X.calm=true)(hi:PI X tg iter wi)(hg:PG X tg g)(hb:Gj X body tb)
 (hs:∀x,foldedSetIterable iter X.env x=pure x:=by intro _;rfl):PS X (.For tg iter body [] pos) (jb wi g tb):=by
 intro pins s σ H D I h;refine wpAny_For (BD (hi pins s σ H _ I h) fun v s1 h1=>BD h1 fun itv s2 h2=>?_) hs;obtain⟨it,fp,tn,J,H2,e,I2,T,st2,f2,W,⟨m0,w0⟩,turn⟩:=h2;subst e;have stat:∀ {H':Hp},(∀b∈fp,H' b=none)→∀b∈fp,Hn X pins H' b:=fun hn b hb=>⟨hn b hb,(f2 b hb).2⟩;refine codeAny_forLoop_any (fun n s'=>∃i σ' H',Inv X pins σ' H' s'∧tn i s'.heap∧(∀b∈fp,H' b=none)∧W i n σ' H') ?_ m0 ⟨0,σ,H2,I2,st2,fun b hb=>(f2 b hb).1,w0⟩;rintro n s3 ⟨i,σ3,H3,I3,st3,fr3,w3⟩;rcases turn i n σ3 H3 w3 with ⟨stop,qn⟩|⟨go,N,hN,step⟩
 ·refine wpAny_passesOwn hp (BD (T.done X rfl rfl rfl hc i pins s3 σ3 H3 X.xe I3 (stat fr3) st3 stop) fun r s4 ⟨hr,I4⟩=>?_);subst hr;exact bD ⟨σ3,H3,I4,qn⟩
 ·refine wpAny_passesOwn hp (BD (T.item X rfl rfl rfl hc i pins s3 σ3 H3 X.xe I3 (stat fr3) st3 go) fun r s4 ⟨u,hr,h4⟩=>?_);subst hr;refine wpAny_passesOwn hp (BD h4 fun _ s5 ⟨x,H5,I5,r5,y5,st5,fr5⟩=>?_);have I5':=I5.pinned (stat fr5) (T.obj _ _ st5);refine wpAny_passesOwn hp (BD (hg _ s5 σ3 H5 x u _ I5' r5 (step x H5 y5)) fun _ s6 ⟨σ6,H6,I6,q6⟩=>?_);refine wpAny_passesOwn hp (BD (hb _ s6 σ6 H6 _ I6 q6) fun f s7 q7=>?_);have again:∀ {σ7:St} {H7:Hp},Inv X (pins++K6 fp s5.heap) σ7 H7 s7→N σ7 H7→∃m,m<n∧∃i σ' H',Inv X pins σ' H' s7∧tn i s7.heap∧(∀b∈fp,H' b=none)∧W i m σ' H':=fun {σ7 H7} I7 n7=>by
   obtain⟨m',hm,w7⟩:=hN σ7 H7 n7;refine⟨m',hm,i+1,σ7,H7,I7.JU,T.keep _ _ _ st5 fun b hb o e=>(I7.pin (b,o) (aP _ (aP _ (Fw hb e)))).1,fun b hb=>?_,w7⟩;obtain⟨o,e,d⟩:=T.obj _ _ st5 b hb;exact(I7.pin (b,o) (aP _ (aP _ (Fw hb e)))).2.1
  cases f with
  |next=>obtain⟨σ7,H7,I7,n7⟩:=q7;exact again I7 n7
  |cont=>obtain⟨σ7,H7,I7,n7⟩:=q7;exact again I7 n7
  |brk=>obtain⟨σ7,H7,I7,q7⟩:=q7;exact⟨σ7,H7,I7.JU,q7⟩
  |ret v=>obtain⟨x7,σ7,H7,I7,r7,q7⟩:=q7;exact⟨x7,σ7,H7,I7.JU,r7,q7⟩
end
theorem Q6{K:PySem.W.Frag}{a:Addr}{xs:List V}{g:TG}{tb:TS}{D:Ends}{σ:St}{H:Hp}(Pv:Nat→St→Hp→Prop)(h0:Pv 0 σ H)(hl:∀i σ H,i≤xs.length→Pv i σ H→BI K H a xs)
 (hs:∀i x σ H,xs[i]? = some x→Pv i σ H→g x σ H fun σ2 H2=>tb {D with nx:=Pv (i+1),ct:=Pv (i+1),bk:=D.nx} σ2 H2)(hd:∀σ H,Pv xs.length σ H→D.nx σ H) :
  ∃W:Nat→Nat→St→Hp→Prop,(∃m,W 0 m σ H)∧∀i m σ H,W i m σ H →
   ((UK K a).stop i H∧D.nx σ H)∨((UK K a).go i H∧∃N:St→Hp→Prop,(∀σ' H',N σ' H'→∃m',m'<m∧W (i+1) m' σ' H')∧∀x H',(UK K a).Gb i H x H'→g x σ H' fun σ2 H2=>tb {D with nx:=N,ct:=N,bk:=D.nx} σ2 H2):=by
 refine⟨fun i m σ H=>m=xs.length-i∧i≤xs.length∧Pv i σ H,⟨xs.length,by simp,Nat.zero_le _,h0⟩,?_⟩;rintro i m σ H ⟨rfl,hi,p⟩;have q:=hl i σ H hi p;by_cases hlt:i<xs.length
 ·refine .inr ⟨⟨xs,xs[i],q,by simp[hlt]⟩,Pv (i+1),fun σ' H' p'=>⟨xs.length-(i+1),by lia,rfl,hlt,p'⟩,fun x H' y=>?_⟩;obtain⟨e,y⟩:=y;subst e;exact hs i x σ _ (y xs q) p
 ·have e:i=xs.length:=by lia
  subst e;exact .inl ⟨⟨xs,q,Nat.le_refl _⟩,hd σ H p⟩
theorem QN{lo:Int}{n:Nat}{g:TG}{tb:TS}{D:Ends}{σ:St}{H:Hp}(Pv:Nat→St→Hp→Prop)(h0:Pv 0 σ H)
 (hs:∀i σ H,i<n→Pv i σ H→g (.int (lo+i)) σ H fun σ2 H2=>tb {D with nx:=Pv (i+1),ct:=Pv (i+1),bk:=D.nx} σ2 H2)(hd:∀σ H,Pv n σ H→D.nx σ H) :
  ∃W:Nat→Nat→St→Hp→Prop,(∃m,W 0 m σ H)∧∀i m σ H,W i m σ H →
   ((SX lo n).stop i H∧D.nx σ H)∨((SX lo n).go i H∧∃N:St→Hp→Prop,(∀σ' H',N σ' H'→∃m',m'<m∧W (i+1) m' σ' H')∧∀x H',(SX lo n).Gb i H x H'→g x σ H' fun σ2 H2=>tb {D with nx:=N,ct:=N,bk:=D.nx} σ2 H2):=by
 refine⟨fun i m σ H=>m=n-i∧i≤n∧Pv i σ H,⟨n,by simp,Nat.zero_le _,h0⟩,?_⟩;rintro i m σ H ⟨rfl,hi,p⟩;by_cases hlt:i<n
 ·refine .inr ⟨hlt,Pv (i+1),fun σ' H' p'=>⟨n-(i+1),by lia,rfl,hlt,p'⟩,fun x H' y=>?_⟩;obtain⟨e,y⟩:=y;subst e y;exact hs i σ _ hlt p
 ·have e:i=n:=by lia
  subst e;exact .inl ⟨aJ _,hd σ H p⟩
theorem RI{c:TT}{tb:TS}{D:Ends}{σ:St}{H:Hp}(Pv:St→Hp→Prop)(μ:St→Hp→Nat)(h0:Pv σ H)
 (hs:∀σ H,Pv σ H→c σ H fun b H1=>if b=true then tb {D with nx:=fun σ' H'=>Pv σ' H'∧μ σ' H'<μ σ H,ct:=fun σ' H'=>Pv σ' H'∧μ σ' H'<μ σ H,bk:=D.nx} σ H1 else D.nx σ H1)
 (mono:∀σ H Q Q',(∀b H1,Q b H1→Q' b H1)→c σ H Q→c σ H Q'):Wb c tb D σ H:=by
 refine⟨fun m σ H=>m=μ σ H∧Pv σ H,⟨_,rfl,h0⟩,?_⟩;rintro m σ H ⟨rfl,p⟩;refine mono σ H _ _ (fun b H1 q=>?_) (hs σ H p);cases b with
 |true=>exact⟨_,fun σ' H' ⟨p',l⟩=>⟨_,l,rfl,p'⟩,q⟩
 |false=>exact q
abbrev R2:=V→V→Hp→VK→Prop
def Cm(X:Cx)(f:Value→Value→Sem Value)(r:R2):Prop :=
 ∀(pins:List (Addr×Obj)) (s:Shared) (σ:St) (H:Hp) (x y:V) (v u:Value) (Q:VK),Inv X pins σ H s→RelV x v→RelV y u→r x y H Q →
  wpAny (model X.prog X.w) X.A (f v u) (EP X pins σ Q) X.xe s
def cS(X:Cx)(f:Value→Sem Value)(r:V→Hp→VK→Prop):Prop :=
 ∀(pins:List (Addr×Obj)) (s:Shared) (σ:St) (H:Hp) (x:V) (v:Value) (Q:VK),Inv X pins σ H s→RelV x v→r x H Q →
  wpAny (model X.prog X.w) X.A (f v) (EP X pins σ Q) X.xe s
def Fp(X:Cx)(f:Value)(r:List V→Hp→VK→Prop):Prop :=
 ∀(pins:List (Addr×Obj)) (s:Shared) (σ:St) (H:Hp) (xs:List V) (us:List Value) (Q:VK),Inv X pins σ H s→Vals xs us→r xs H Q →
  wpAny (model X.prog X.w) X.A (call f us) (EP X pins σ Q) X.xe s
def P7(r:R2)(ta tb:TE):TE:=fun σ H Q=>ta σ H fun x H1=>tb σ H1 fun y H2=>r x y H2 Q
def jq(r:V→Hp→VK→Prop)(ta:TE):TE:=fun σ H Q=>ta σ H fun x H1=>r x H1 Q
def rI(C:Int→Int→Prop)(g:Int→Int→V):R2:=fun x y H Q=>∃i j,x=.int i∧y=.int j∧C i j∧Q (g i j) H
def P5(g:Int→Int→V):R2:=fun x y H Q=>∃i j,x=.int i∧y=.int j∧Q (g i j) H
def rU(g:Int→V):V→Hp→VK→Prop:=fun x H Q=>∃i,x=.int i∧Q (g i) H
section
variable{X:Cx}{a b:Expr}{ta tb:TE}{pos:Pos}
theorem YM(ha:PE X a ta)(hb:PE X b tb){pins:List (Addr×Obj)}{s:Shared}{σ:St}{H:Hp}{R:V→V→Hp→Prop}(I:Inv X pins σ H s)
 (h:ta σ H fun x H1=>tb σ H1 fun y H2=>R x y H2){Q:Value→Shared→Prop}{f:Value→Value→Sem Value}
 (hf:∀v u s2 x y H2,Inv X pins σ H2 s2→RelV x v→RelV y u→R x y H2→wpAny (model X.prog X.w) X.A (f v u) Q X.xe s2) :
  wpAny (model X.prog X.w) X.A (eval a X.env) (fun v s₁=>wpAny (model X.prog X.w) X.A (eval b X.env) (fun u s₂=>wpAny (model X.prog X.w) X.A (f v u) Q X.xe s₂) X.xe s₁) X.xe s:=by
 refine BD (ha pins s σ H _ I h) fun v s1 ⟨x,H1,I1,r1,q1⟩=>?_;refine BD (hb pins s1 σ H1 _ I1 q1) fun u s2 ⟨y,H2,I2,r2,q2⟩=>?_;exact hf v u s2 x y H2 I2 r1 r2 q2
theorem Bn{op:Operator}{r:R2}(ho:Cm X (binaryOp op) r)(ha:PE X a ta)(hb:PE X b tb):PE X (.BinOp a op b pos) (P7 r ta tb):=by
 intro pins s σ H Q I h;exact wpAny_BinOp (YM ha hb I h fun v u s2 x y H2 I2 rx ry q=>ho pins s2 σ H2 x y v u Q I2 rx ry q)
theorem Ur{op:UnaryOp}{r:V→Hp→VK→Prop}(ho:cS X (unaryOp op) r)(ha:PE X a ta):PE X (.UnaryOp op a pos) (jq r ta):=by
 intro pins s σ H Q I h;exact UnaryOp_ (BD (ha pins s σ H _ I h) fun v s1 ⟨x,H1,I1,r1,q1⟩=>ho pins s1 σ H1 x v Q I1 r1 q1)
theorem Tq{f:Value→Value→Sem Value}{C:Int→Int→Prop}{g:Int→Int→Int}
 (rule:∀(i j:Int) (t u:Tok) (s:Shared) (Q:Value→Shared→Prop) (E:Value→Shared→Prop),C i j→Q (.int (g i j) s.toks) {s with toks:=s.toks+1}→wpAny (model X.prog X.w) X.A (f (.int i t) (.int j u)) Q E s) :
  Cm X f (rI C fun i j=>.int (g i j)):=by
 intro pins s σ H x y v u Q I rx ry h;obtain⟨i,j,rfl,rfl,hc,q⟩:=h;obtain⟨t,rfl⟩:=rx;obtain⟨t',rfl⟩:=ry;exact rule i j t t' s _ _ hc ⟨.int (g i j),H,I.tok _,⟨_,rfl⟩,q⟩
theorem eS{f:Value→Value→Sem Value}{g:Int→Int→Int}
 (rule:∀(i j:Int) (t u:Tok) (s:Shared) (Q:Value→Shared→Prop) (E:Value→Shared→Prop),Q (.int (g i j) s.toks) {s with toks:=s.toks+1}→wpAny (model X.prog X.w) X.A (f (.int i t) (.int j u)) Q E s) :
  Cm X f (P5 fun i j=>.int (g i j)):=by
 intro pins s σ H x y v u Q I rx ry h;obtain⟨i,j,rfl,rfl,q⟩:=h;obtain⟨t,rfl⟩:=rx;obtain⟨t',rfl⟩:=ry;exact rule i j t t' s _ _ ⟨.int (g i j),H,I.tok _,⟨_,rfl⟩,q⟩
theorem YY{f:Value→Value→Sem Value}{g:Int→Int→Bool}
 (rule:∀(i j:Int) (t u:Tok) (s:Shared) (Q:Value→Shared→Prop) (E:Value→Shared→Prop),Q (.bool (g i j)) s→wpAny (model X.prog X.w) X.A (f (.int i t) (.int j u)) Q E s) :
  Cm X f (P5 fun i j=>.bl (g i j)):=by
 intro pins s σ H x y v u Q I rx ry h;obtain⟨i,j,rfl,rfl,q⟩:=h;obtain⟨t,rfl⟩:=rx;obtain⟨t',rfl⟩:=ry;exact rule i j t t' s _ _ ⟨.bl (g i j),H,I,rfl,q⟩
def jF(i j:Int):Prop:=0<j∧j<1073741824
def jC(i j:Int):Prop:=0≤j∧j≤1000000∧i.natAbs<2^64
def Sg(i j:Int):Prop:=(-(2^64)<i∧i<2^64)∨(-(2^64)<j∧j<2^64)
theorem Sg.ok{i j:Int}(h:Sg i j):IntMulOk i j:=by
 rcases h with ⟨h1,h2⟩|⟨h1,h2⟩
 ·exact .of_left (intBits_le_64 h1 h2)
 ·exact .of_right (intBits_le_64 h1 h2)
theorem Ke:Cm X (binaryOp .Add) (P5 fun i j=>.int (i+j)):=eS fun _ _ _ _ _ _ _ q=>add_int q
theorem N7:Cm X (binaryOp .Sub) (P5 fun i j=>.int (i-j)):=eS fun _ _ _ _ _ _ _ q=>sub_int q
theorem Kh:Cm X (binaryOp .FloorDiv) (rI jF fun i j=>.int (i / j)):=Tq fun i j _ _ _ _ _ hc q=>by
 have h1:(0:Int)<j:=hc.1;have h2:j<1073741824:=hc.2;exact floordiv_int (by lia) (by rw[Int.fdiv_eq_ediv_of_nonneg i (by lia)];exact q) (.inl (PyProof.noPylong_small (by lia)))
theorem OD:Cm X (binaryOp .Mod) (rI (fun _ j=>0<j) fun i j=>.int (i % j)):=Tq fun i j _ _ _ _ _ hc q=>by
 have h1:(0:Int)<j:=hc;exact mod_int' (by lia) (by rw[Int.fmod_eq_emod_of_nonneg i (by lia)];exact q)
theorem JI:Cm X (binaryOp .Mod) (rI (fun _ j=>j≠0) fun i j=>.int (i.fmod j)):=Tq fun _ _ _ _ _ _ _ hc q=>mod_int' hc q
theorem Vv:Cm X (binaryOp .Pow) (rI jC fun i j=>.int (i^j.toNat)):=Tq fun _ _ _ _ _ _ _ hc q=>pow_int_small hc.1 hc.2.1 hc.2.2 q
theorem jz{f:Value→Sem Value}{g:Int→Int}
 (rule:∀(i:Int) (t:Tok) (s:Shared) (Q:Value→Shared→Prop) (E:Value→Shared→Prop),Q (.int (g i) s.toks) {s with toks:=s.toks+1}→wpAny (model X.prog X.w) X.A (f (.int i t)) Q E s) :
  cS X f (rU fun i=>.int (g i)):=by
 intro pins s σ H x v Q I rx h;obtain⟨i,rfl,q⟩:=h;obtain⟨t,rfl⟩:=rx;exact rule i t s _ _ ⟨.int (g i),H,I.tok _,⟨_,rfl⟩,q⟩
theorem SE:cS X (unaryOp .USub) (rU fun i=>.int (-i)):=jz fun _ _ _ _ _ q=>neg_int q
end
def dP:V→V→Bool
 |.BM,.BM=>true|.BM,.int _=>true|.int _,.BM=>true|.BM,.bl _=>true|.bl _,.BM=>true|.BM,.str _=>true|.str _,.BM=>true
 |.int _,.int _=>true|.bl _,.bl _=>true|.str _,.str _=>true|.Me _,.Me _=>true
 |.int _,.str _=>true|.str _,.int _=>true|.bl _,.str _=>true|.str _,.bl _=>true
 |_,_=>false
def jn:R2:=fun x y H Q=>dP x y=true∧Q (.bl (decide (x=y))) H
def jy:R2:=fun x y H Q=>dP x y=true∧Q (.bl (!decide (x=y))) H
theorem UR{i j:Int}:decide (V.int i=V.int j)=(i==j):=by
 rw[Bool.eq_iff_iff];simp
theorem Wc{i j:Bool}:decide (V.bl i=V.bl j)=(i==j):=by
 rw[Bool.eq_iff_iff];simp
theorem US{i j:Str}:decide (V.str i=V.str j)=(i==j):=by
 rw[Bool.eq_iff_iff];simp
theorem UT{i j:Array UInt8}:decide (V.Me i=V.Me j)=(i.toList==j.toList):=by
 rw[Bool.eq_iff_iff];cases i;cases j;simp
section
variable{X:Cx}{a b c:Expr}{ta tb:TE}{pos:Pos}
theorem BN{pins:List (Addr×Obj)}{σ:St}{H:Hp}{s:Shared}{Q:VK}{k k':Bool}(I:Inv X pins σ H s)(q:Q (.bl k) H)(e:k=k'):EP X pins σ Q (.bool k') s:=by
 subst e;exact⟨.bl k,H,I,rfl,q⟩
theorem Us:Cm X (compareOp .Eq) jn:=by
 intro pins s σ H x y v u Q I rx ry h;obtain⟨hs,q⟩:=h;cases x with
 |BM =>
  cases rx;cases y with
  |BM=>cases ry;exact PySem.EqNone.eq_none_none (BN I q (by simp))
  |bl j=>cases ry;exact PySem.EqNone.eq_none_bool (BN I q (by simp))
  |int j=>obtain⟨t',rfl⟩:=ry;exact PySem.EqNone.eq_none_int (BN I q (by simp))
  |str j=>obtain⟨t',rfl⟩:=ry;exact PySem.EqNone.eq_none_str (BN I q (by simp))
  |_=>exact absurd (show false=true from hs) aO
 |bl i =>
  cases rx;cases y with
  |BM=>cases ry;exact PySem.EqNone.eq_bool_none (BN I q (by simp))
  |bl j=>cases ry;exact eq_bool (BN I q Wc)
  |str j=>obtain⟨t',rfl⟩:=ry;exact PySem.EqMixed.eq_bool_str (BN I q (by simp))
  |_=>exact absurd (show false=true from hs) aO
 |int i =>
  obtain⟨t,rfl⟩:=rx;cases y with
  |BM=>cases ry;exact PySem.EqNone.eq_int_none (BN I q (by simp))
  |int j=>obtain⟨t',rfl⟩:=ry;exact eq_int (BN I q UR)
  |str j=>obtain⟨t',rfl⟩:=ry;exact PySem.EqMixed.eq_int_str (BN I q (by simp))
  |_=>exact absurd (show false=true from hs) aO
 |str i =>
  obtain⟨t,rfl⟩:=rx;cases y with
  |BM=>cases ry;exact PySem.EqNone.eq_str_none (BN I q (by simp))
  |bl j=>cases ry;exact PySem.EqMixed.eq_str_bool (BN I q (by simp))
  |int j=>obtain⟨t',rfl⟩:=ry;exact PySem.EqMixed.eq_str_int (BN I q (by simp))
  |str j=>obtain⟨t',rfl⟩:=ry;exact eq_str (BN I q US)
  |_=>exact absurd (show false=true from hs) aO
 |Me i =>
  obtain⟨t,rfl⟩:=rx;cases y with
  |Me j=>obtain⟨t',rfl⟩:=ry;exact PySem.W.eq_bytes (BN I q UT)
  |_=>exact absurd (show false=true from hs) aO
 |_=>cases y<;>exact absurd (show false=true from hs) aO
theorem Qo:Cm X (compareOp .NotEq) jy:=by
 intro pins s σ H x y v u Q I rx ry h;obtain⟨hs,q⟩:=h;cases x with
 |BM =>
  cases rx;cases y with
  |BM=>cases ry;exact PySem.EqNone.ne_none_none (BN I q (by simp))
  |bl j=>cases ry;exact PySem.EqNone.ne_none_bool (BN I q (by simp))
  |int j=>obtain⟨t',rfl⟩:=ry;exact PySem.EqNone.ne_none_int (BN I q (by simp))
  |str j=>obtain⟨t',rfl⟩:=ry;exact PySem.EqNone.ne_none_str (BN I q (by simp))
  |_=>exact absurd (show false=true from hs) aO
 |bl i =>
  cases rx;cases y with
  |BM=>cases ry;exact PySem.EqNone.ne_bool_none (BN I q (by simp))
  |bl j=>cases ry;exact ne_bool (BN I q (aM not Wc))
  |str j=>obtain⟨t',rfl⟩:=ry;exact PySem.EqMixed.ne_bool_str (BN I q (by simp))
  |_=>exact absurd (show false=true from hs) aO
 |int i =>
  obtain⟨t,rfl⟩:=rx;cases y with
  |BM=>cases ry;exact PySem.EqNone.ne_int_none (BN I q (by simp))
  |int j=>obtain⟨t',rfl⟩:=ry;exact ne_int (BN I q (aM not UR))
  |str j=>obtain⟨t',rfl⟩:=ry;exact PySem.EqMixed.ne_int_str (BN I q (by simp))
  |_=>exact absurd (show false=true from hs) aO
 |str i =>
  obtain⟨t,rfl⟩:=rx;cases y with
  |BM=>cases ry;exact PySem.EqNone.ne_str_none (BN I q (by simp))
  |bl j=>cases ry;exact PySem.EqMixed.ne_str_bool (BN I q (by simp))
  |int j=>obtain⟨t',rfl⟩:=ry;exact PySem.EqMixed.ne_str_int (BN I q (by simp))
  |str j=>obtain⟨t',rfl⟩:=ry;exact ne_str (BN I q (aM not US))
  |_=>exact absurd (show false=true from hs) aO
 |Me i =>
  obtain⟨t,rfl⟩:=rx;cases y with
  |Me j=>obtain⟨t',rfl⟩:=ry;exact PySem.W.ne_bytes (BN I q (aM not UT))
  |_=>exact absurd (show false=true from hs) aO
 |_=>cases y<;>exact absurd (show false=true from hs) aO
theorem Uv:Cm X (compareOp .Lt) (P5 fun i j=>.bl (decide (i<j))):=YY fun _ _ _ _ _ _ _ q=>lt_int q
theorem Qg:Cm X (compareOp .Gt) (P5 fun i j=>.bl (decide (j<i))):=YY fun _ _ _ _ _ _ _ q=>gt_int q
theorem Yp:Cm X (compareOp .GtE) (P5 fun i j=>.bl (decide (j≤i))):=YY fun _ _ _ _ _ _ _ q=>ge_int q
theorem cE:Cm X (compareOp .Is) (fun x y H Q=>y=.BM∧Q (.bl (decide (x=.BM))) H):=by
 intro pins s σ H x y v u Q I rx ry h;obtain⟨rfl,q⟩:=h;cases ry;refine is_none_gen (BN I q ?_);cases x<;>first
  |(cases rx;rfl)
  |(obtain⟨t,rfl⟩:=rx;rfl)
theorem bZ:Cm X (compareOp .IsNot) (fun x y H Q=>y=.BM∧Q (.bl (!decide (x=.BM))) H):=by
 intro pins s σ H x y v u Q I rx ry h;obtain⟨rfl,q⟩:=h;cases ry;refine isnot_none_gen (BN I q ?_);cases x<;>first
  |(cases rx;rfl)
  |(obtain⟨t,rfl⟩:=rx;rfl)
theorem Cm.or{f:Value→Value→Sem Value}{r r':R2}(h:Cm X f r)(h':Cm X f r'):Cm X f (fun x y H Q=>r x y H Q∨r' x y H Q):=by
 intro pins s σ H x y v u Q I rx ry q;rcases q with q|q
 ·exact h pins s σ H x y v u Q I rx ry q
 ·exact h' pins s σ H x y v u Q I rx ry q
theorem Ae(b:Expr){op:CmpOp}(h:op≠.In:=by decide)(h2:op≠.NotIn:=by decide):behindInMarks op b=false:=by
 have e1:(op==CmpOp.In)=false:=by cases op<;>first|rfl|exact absurd rfl h
 have e2:(op==CmpOp.NotIn)=false:=by cases op<;>first|rfl|exact absurd rfl h2
 cases b<;>simp[behindInMarks,e1,e2]
theorem M1{op:CmpOp}{r:R2}(ho:Cm X (compareOp op) r)(ha:PE X a ta)(hb:PE X b tb)(hm:behindInMarks op b=false):PE X (.Compare a [op] [b] pos) (P7 r ta tb):=by
 intro pins s σ H Q I h;exact wpAny_Compare1 (YM ha hb I h fun v u s2 x y H2 I2 rx ry q=>ho pins s2 σ H2 x y v u Q I2 rx ry q) hm
def iJ(t:TE):TT:=fun σ H Q=>t σ H fun x H'=>∃k,x=.bl k∧Q k H'
theorem Ek{op:CmpOp}{r:R2}(ho:Cm X (compareOp op) r)(ha:PE X a ta)(hb:PE X b tb)(hm:behindInMarks op b=false):PT X (.Compare a [op] [b] pos) (iJ (P7 r ta tb)):=by
 intro pins s σ H Q I h;refine wpAny_isTrue_Compare1 (BD (ha pins s σ H _ I h) fun v s1 ⟨x,H1,I1,r1,q1⟩=>BD (hb pins s1 σ H1 _ I1 q1) fun u s2 ⟨y,H2,I2,r2,q2⟩ =>
  BD (ho pins s2 σ H2 x y v u _ I2 r1 r2 q2) fun c s3 ⟨z,H3,I3,r3,k,e,q3⟩=>?_) hm
 subst e;cases r3;exact wpAny_truthy_bool ⟨H3,I3,q3⟩
theorem Ks:(sizeLine:Nat)<2^63:=by rw[sizeLine_eq];decide
theorem VT:Cm X (binaryOp .Add) (fun x y H Q=>∃i j,x=.str i∧y=.str j∧i.length+j.length≤sizeLine∧Q (.str (i++j)) H):=by
 intro pins s σ H x y v u Q I rx ry h;obtain⟨i,j,rfl,rfl,hz,q⟩:=h;obtain⟨t,rfl⟩:=rx;obtain⟨t',rfl⟩:=ry;exact add_str (fun t' tk=>⟨.str (i++j),H,I.tok _,⟨_,rfl⟩,q⟩) hz
theorem vals1{x:V}{us:List Value}(r:Vals [x] us):∃u,us=[u]∧RelV x u:=by
 cases r with
 |cons r1 r2=>cases r2;exact⟨_,rfl,r1⟩
theorem vals2{x y:V}{us:List Value}(r:Vals [x,y] us):∃u w',us=[u,w']∧RelV x u∧RelV y w':=by
 cases r with
 |cons r1 r2 =>
  cases r2 with
  |cons r3 r4=>cases r4;exact⟨_,_,rfl,r1,r3⟩
theorem Jc:Fp X (.builtin "abs") (fun xs H Q=>∃i,xs=[.int i]∧Q (.int (if i<0 then -i else i)) H):=by
 intro pins s σ H xs us Q I r h;obtain⟨i,rfl,q⟩:=h;obtain⟨u,rfl,t,rfl⟩:=vals1 r;exact call_abs_int fun u tk=>⟨.int (if i<0 then -i else i),H,I.tok _,⟨_,rfl⟩,q⟩
theorem WB(hc:X.calm=true):Fp X (.builtin "min") (fun xs H Q=>∃i j,xs=[.int i,.int j]∧Q (.int (if j<i then j else i)) H):=by
 intro pins s σ H xs us Q I r h;obtain⟨i,j,rfl,q⟩:=h;obtain⟨u,w',rfl,⟨t,rfl⟩,⟨t',rfl⟩⟩:=vals2 r;refine min_two_ints (I.ok.hd hc) fun h' tk k=>⟨_,H,I.kept k,?_,q⟩;by_cases hj:j<i
 ·rw[if_pos hj,if_pos hj];exact⟨_,rfl⟩
 ·rw[if_neg hj,if_neg hj];exact⟨_,rfl⟩
theorem XH:Fp X (.type "int") (fun xs H Q=>(∃i,xs=[.int i]∧Q (.int i) H)∨∃k,xs=[.bl k]∧Q (.int (if k then 1 else 0)) H):=by
 intro pins s σ H xs us Q I r h;rcases h with ⟨i,rfl,q⟩|⟨k,rfl,q⟩
 ·obtain⟨u,rfl,t,rfl⟩:=vals1 r;exact call_int_int ⟨.int i,H,I,⟨_,rfl⟩,q⟩
 ·obtain⟨u,rfl,r1⟩:=vals1 r;cases r1;exact call_int_bool ⟨.int (if k then 1 else 0),H,I.tok _,⟨_,rfl⟩,q⟩
end
structure X5(h:Heap)(x dx C:Addr)(mA:Str→Option Value):Prop where
 obj:h.get? x=some (PySem.W.instObj C dx)
 ns:h.Ns1 dx mA
 ne:dx≠x
theorem Wz{h:Heap}{dx:Addr}{mA:Str→Option Value}(n:h.Ns1 dx mA):∃od,h.get? dx=some od∧∀name,PySem.W.lookIn name od=some (mA name):=by
 obtain⟨o,es,ep,ho,hd,hk,_,hm⟩:=n;refine⟨o,ho,fun name=>?_⟩;have e:=hm name;unfold nsFind findBy at e;rw[←Array.find?_toList]at e;unfold PySem.W.lookIn;rw[hd];dsimp only;split
 ·rename_i y q;rw[q]at e;exact aM some e
 ·rename_i q;rw[q]at e;have a:es.toList.any (·.refKey)=false:=by
   rw[List.any_eq_false];intro y hy;obtain⟨z,t,hkey⟩:=hk y (Array.mem_toList_iff.mp hy);simp[DictEntry.refKey,hkey]
  have a':¬es.toList.any (·.refKey)=true:=by rw[a];exact aO
  rw[if_neg a'];exact aM some e
theorem X5.look{h:Heap}{x dx C:Addr}{mA:Str→Option Value}(I:X5 h x dx C mA):∃od,PySem.W.InstAt h x (PySem.W.instObj C dx) C (some od)∧∀name,PySem.W.lookIn name od=some (mA name) :=
 let⟨od,ho,hl⟩:=Wz I.ns
 ⟨od,⟨I.obj,rfl,rfl,ho⟩,hl⟩
section
variable{P:Program}{w:World}{H:Hp}{h:Heap}{a C dx:Addr}{fs:List (Str×V)}
theorem a7(A7:D6 P w H h)(e:H a=some (.ins C dx fs)):∃mA,X5 h a dx C mA∧(∀f,Xp (fs.lookup f) (mA f))∧PySem.Within mA (fs.map (·.1))∧fs.length≤1000∧H dx=some (.own a):=by
 obtain⟨d,z,ne,ob,mA,n,r,q⟩:=(show C2 P w H h a (.ins C dx fs) from A7 a _ e);exact⟨mA,⟨ob,n,ne⟩,r,q,z,d⟩
end
structure gG(K:PySem.W.Frag)(C:Addr):Prop where
 pg:PySem.W.plainGet K C Str.empty=true
 hd:PySem.W.hasDictIn K C=true
 po:PySem.W.plainOver K C=true
 sa:PySem.W.findIn K (.ref C) "__setattr__" = some (some (.builtin "object.__setattr__"))
theorem gG.get{K:PySem.W.Frag}{C:Addr}(c:gG K C)(f:Str):PySem.W.plainGet K C f=true:=c.pg
section
variable{X:Cx}{pins:List (Addr×Obj)}{σ:St}{H:Hp}{s:Shared}{A:Around}{E:Value→Shared→Prop}{Q:Value→Shared→Prop}{c:Value}{b:Bool}
inductive GR(K:PySem.W.Frag)(H:Hp):V→Value→Prop where
 |BM:GR K H .BM (.type "NoneType")
 |bl (x:Bool):GR K H (.bl x) (.type "bool")
 |int (i:Int):GR K H (.int i) (.type "int")
 |str (x:Str):GR K H (.str x) (.type "str")
 |Ua (x:UInt64):GR K H (.Ua x) (.type "float")
 |lst {a:Addr} {xs:List V} (e:H a=some (.lst xs)):GR K H (.ref a) (.type "list")
 |E1 {a:Addr} {o:Obj} {xs:List V} (e:H a=some (.E1 o (.lst xs))):GR K H (.ref a) (.type "list")
 |tup {a:Addr} {xs:List V} (e:H a=some (.tup xs)):GR K H (.ref a) (.type "tuple")
 |dK {a:Addr} {kvs:List (Key×V)} (e:H a=some (.dK kvs)):GR K H (.ref a) (.type "dict")
 |dT {a:Addr} {kvs:List (List Key×V)} (e:H a=some (.dT kvs)):GR K H (.ref a) (.type "dict")
 |ins {a C dx:Addr} {fs:List (Str×V)} (e:H a=some (.ins C dx fs)) (cl:gG K C) (ha:PySem.W.findIn K (.ref C) "__class__" = some (some (.builtin "object.__class__")))
   (hn:PySem.W.specialIn K (.builtin "object.__class__") "__get__" = some (some (.builtin "getset_descriptor.__get__"))) (htk:PySem.W.takesIn K (.builtin "object.__class__")=some true)
   (hm:PySem.W.mroIn K C (.type "object")=some true):GR K H (.ref a) (.ref C)
theorem XI{x:V}{u t:Value}(I:Inv X pins σ H s)(rx:RelV x u)(ty:GR X.K H x t)(e:PySem.W.kitOne X.K t c=some b)(h:∀tk,Q (.bool b) {s with toks:=tk}) :
  wpAny (model X.prog X.w) A (call (.builtin "isinstance") [u,c]) Q E s:=by
 cases ty with
 |BM=>cases (show u=Value.none from rx);exact ah PySem.W.kitx_none I.FQ True.intro e (fun z=>nomatch z) h
 |bl y=>cases (show u=Value.bool y from rx);exact ah PySem.W.kitx_bool I.FQ True.intro e (fun z=>nomatch z) h
 |int i=>obtain⟨t,q⟩:=(show ∃t,u=Value.int i t from rx);cases q;exact ah PySem.W.kitx_int I.FQ True.intro e (fun z=>nomatch z) h
 |str y=>obtain⟨t,q⟩:=(show ∃t,u=Value.str y t from rx);cases q;exact ah PySem.W.kitx_str I.FQ True.intro e (fun z=>nomatch z) h
 |Ua y=>obtain⟨t,q⟩:=(show ∃t,u=Value.float y t from rx);cases q;exact ah PySem.W.kitx_float I.FQ True.intro e (fun z=>nomatch z) h
 | @lst a xs ea =>
  cases (show u=Value.ref a from rx);obtain⟨_,_,n,_,h1⟩:=(show C2 X.prog X.w H s.heap a (.lst xs) from I.A7 a _ ea);exact ah PySem.W.kitx_list I.FQ ⟨_,h1,rfl⟩ e (fun z=>nomatch z) h
 | @E1 a ob xs ea =>
  cases (show u=Value.ref a from rx);obtain⟨_,_,_,n,_,h1⟩:=(show C2 X.prog X.w H s.heap a (.E1 ob (.lst xs)) from I.A7 a _ ea);exact ah PySem.W.kitx_list I.FQ ⟨_,h1,rfl⟩ e (fun z=>nomatch z) h
 | @tup a xs ea =>
  cases (show u=Value.ref a from rx);obtain⟨_,_,_,p⟩:=(show C2 X.prog X.w H s.heap a (.tup xs) from I.A7 a _ ea);obtain⟨o,h1,h2,_⟩:=p;exact ah PySem.W.kitx_tuple I.FQ ⟨o,h1,h2⟩ e (fun z=>nomatch z) h
 | @dK a kvs ea =>
  cases (show u=Value.ref a from rx);obtain⟨_,_,vs,_,p⟩:=(show C2 X.prog X.w H s.heap a (.dK kvs) from I.A7 a _ ea);obtain⟨o,es,ep,h1,h2,_⟩:=p;exact ah PySem.W.kitx_dict I.FQ ⟨o,h1,h2.1⟩ e (fun z=>nomatch z) h
 | @dT a kvs ea =>
  cases (show u=Value.ref a from rx);obtain⟨_,_,xs,_,o,es,ep,h1,h2,_⟩:=(show C2 X.prog X.w H s.heap a (.dT kvs) from I.A7 a _ ea);exact ah PySem.W.kitx_dict I.FQ ⟨o,h1,h2.1⟩ e (fun z=>nomatch z) h
 | @ins a C dx fs ea cl ha hn htk hm =>
  cases (show u=Value.ref a from rx);obtain⟨mA,O,_⟩:=a7 I.A7 ea;obtain⟨od,J,_⟩:=O.look;exact ah (PySem.W.kitx_own (cl.get _) cl.hd ha hn htk hm) I.FQ J e (fun z=>nomatch z) h
end
structure Bf(k:Nat)(A:Around):Prop where
 hd:A.handled=none
 dp:A.depth+3*k+5<recursionLimit
 un:A.units+16*k+200<cLine
theorem Bf.mono{j k:Nat}{A:Around}(r:Bf k A)(h:j≤k:=by decide):Bf j A:=⟨r.hd,by have:=r.dp;lia,by have:=r.un;lia⟩
theorem Bf.deeper{k:Nat}{A:Around}(r:Bf (k+1) A)(env:Env):Bf k (A.deeper env) :=
 ⟨r.hd,by have:=r.dp;show A.depth+1+3*k+5<_;lia,by have:=r.un;show A.units+3+16*k+200<_;lia⟩
theorem Bf.depth{k:Nat}{A:Around}(r:Bf k A):A.depth<recursionLimit:=by have:=r.dp;lia
theorem Bf.units{k:Nat}{A:Around}(r:Bf k A):A.units+64<cLine:=by have:=r.un;lia
def Rh:TA:=fun _ H Q=>Q [] H
def LK(ta:TE)(tr:TA):TA:=fun σ H Q=>ta σ H fun x H1=>tr σ H1 fun xs H2=>Q (x::xs) H2
section
variable{X:Cx}{e:Expr}{es:List Expr}{te:TE}{t:TA}{pos:Pos}
theorem Af:PA X [] Rh:=fun _ _ _ _ H Q I h=>Calls.spliced_nil ⟨[],H,I,.nil,h⟩
theorem AM(ha:PE X e te)(hr:PA X es t)(hs:starEach (e::es) X.env=(false,eval e X.env)::starEach es X.env:=by rfl):PA X (e::es) (LK te t):=by
 intro pos pins s σ H Q I h;rw[hs];show wpAny _ _ (spliced ((false,eval e X.env)::backTo pos (starEach es X.env))) _ _ s;refine Calls.spliced_cons (BD (ha pins s σ H _ I h) fun u s1 ⟨x,H1,I1,r1,q1⟩=>?_);exact BD (hr pos pins s1 σ H1 _ I1 q1) fun us s2 ⟨xs,H2,I2,r2,q2⟩=>⟨x::xs,H2,I2,.cons r1 r2,q2⟩
def fK(t:TA):TE:=fun σ H Q=>t σ H fun xs H1=>xs.length≤sizeLine∧∀p,H1 p=none→Q (.ref p) (upd H1 p (.tup xs))
def jM(t:TA):TE:=fun σ H Q=>t σ H fun xs H1=>xs.length≤sizeLine∧∀p,H1 p=none→Q (.ref p) (upd H1 p (.lst xs))
theorem Jn{x1}(h:PA X es t):PE X (.Tuple es x1 pos) (fK t):=by
 intro pins s σ H Q I hq;refine wpAny_Tuple_spliced (BD (h pos pins s σ H _ I hq) fun us s1 ⟨xs,H1,I1,r,z,q⟩=>⟨by rw[←r.length];exact z,?_⟩);have hf:H1 s1.heap.objs.size=none:=I1.A7.fresh (aJ _);refine⟨.ref s1.heap.objs.size,upd H1 s1.heap.objs.size (.tup xs),I1.laid (t':=s1.toks) (fun b u e=>aI _ e) (aJ _) ?_,rfl,q _ hf⟩;exact⟨z,us,r,⟨_,Heap.get?_push_size _ rfl,rfl,_,rfl⟩⟩
theorem O0(h:PA X es t):PE X (.List es pos) (jM t):=by
 intro pins s σ H Q I hq;refine wpAny_List_spliced (BD (h pos pins s σ H _ I hq) fun us s1 ⟨xs,H1,I1,r,z,q⟩=>⟨by rw[←r.length];exact z,?_⟩);have hf:H1 s1.heap.objs.size=none:=I1.A7.fresh (aJ _);refine⟨.ref s1.heap.objs.size,upd H1 s1.heap.objs.size (.lst xs),I1.laid (t':=s1.toks) (fun b u e=>aI _ e) (aJ _) ?_,rfl,q _ hf⟩;exact⟨z,us,0,r,Heap.get?_push_size _ rfl⟩
end
abbrev Sp:=List V→Hp→VK→XK→Prop
abbrev F0:=List Env→Hp→Shared→XK→Value→Shared→Prop
structure Q3(P:Program)(w:World)(K:PySem.W.Frag)(mg:Str→Option Value)(base:Heap)(A:Around)(outer:List Env)(s:Shared)(H:Hp):Prop where
 frames:A.frames=some outer
 mod:Mod K mg base
 bs:∀b o,base.get? b=some o→s.heap.get? b=some o∧H b=none
 MB:base.objs.size≤s.heap.objs.size
 HM:s.heap.FunFrames base outer
 Oh:∀b∈Ew outer,H b=none
 A7:D6 P w H s.heap
 bare:AllBare s.gens
 kt:KTb mg H
def CE(outer:List Env)(P:Program)(w:World)(H:Hp)(s:Shared)(Q:VK)(u:Value)(s':Shared):Prop :=
 ∃v H',s'.os=s.os∧AllBare s'.gens∧Un (Ew outer) [] H H' s.heap s'.heap∧D6 P w H' s'.heap∧RelV v u∧Q v H'
def CR(CX:F0)(outer:List Env)(P:Program)(w:World)(H:Hp)(s:Shared)(Q:VK)(E:XK)(r:Result)(s':Shared):Prop :=
 match r with
 |.ok (.ret u)=>CE outer P w H s Q u s'
 |.ok _=>False
 |.error e=>CX outer H s E e s'
structure Ab(P:Program)(w:World)(K:PySem.W.Frag)(mg:Str→Option Value)(base:Heap)(CX:F0)(k:Nat)(f:Addr)(fd:FuncData)(ps:List Str)(sp:Sp):Prop where
 len:∀vs H Q E,sp vs H Q E→vs.length=ps.length
 run:∀(A:Around) (outer:List Env) (s:Shared) (H:Hp) (args:Args) (us:List Value) (vs:List V) (Q:VK) (E:XK),Bf k A→Q3 P w K mg base A outer s H→BindsTo s fd args (ps.zip us)→Vals vs us→sp vs H Q E →
  codeAny (model P w) A (.call (.ref f) args) (CR CX outer P w H s Q E) s
theorem Ab.mono{P:Program}{w:World}{K:PySem.W.Frag}{mg:Str→Option Value}{base:Heap}{CX:F0}{j k:Nat}{f:Addr}{fd:FuncData}{ps:List Str}{sp:Sp}(F:Ab P w K mg base CX j f fd ps sp)(h:j≤k:=by decide) :
  Ab P w K mg base CX k f fd ps sp:=⟨F.len,fun A outer s H args us vs Q E hr=>F.run A outer s H args us vs Q E (hr.mono h)⟩
theorem Ab.imp{P:Program}{w:World}{K:PySem.W.Frag}{mg:Str→Option Value}{base:Heap}{CX:F0}{k:Nat}{f:Addr}{fd:FuncData}{ps:List Str}{sp sp':Sp}(F:Ab P w K mg base CX k f fd ps sp)
 (h:∀vs H Q E,sp' vs H Q E→sp vs H Q E):Ab P w K mg base CX k f fd ps sp' :=
 ⟨fun vs H Q E q=>F.len vs H Q E (h _ _ _ _ q),fun A outer s H args us vs Q E hr he hb hv hs=>F.run A outer s H args us vs Q E hr he hb hv (h _ _ _ _ hs)⟩
section
variable{X:Cx}{pins:List (Addr×Obj)}{σ:St}{H:Hp}{s s':Shared}
theorem Inv.Xi(I:Inv X pins σ H s):Q3 X.prog X.w X.K X.mg X.base X.A X.stack s H :=
 ⟨I.ok.frames,I.ok.mod,I.bs,Nat.le_trans I.ok.MB I.sz,I.stack,I.Ky,I.A7,I.bare,I.kt⟩
theorem Inv.after{Q:VK}{u:Value}(I:Inv X pins σ H s)(h:CE X.stack X.prog X.w H s Q u s'):EP X pins σ Q u s':=by
 obtain⟨v,H',os,bare,un,A7,r,q⟩:=h;obtain⟨hh,g,d,t,os'⟩:=s';obtain rfl:os'=s.os:=os;exact⟨v,H',I.call (h':=hh) (g':=g) (d':=d) (t':=t) (ch:=[]) un A7 bare (fun b z=>absurd z (by simp)),r,q⟩
end
def LJ(sp:Sp)(dvs:List V)(E:XK)(t:TA):TE:=fun σ H Q=>t σ H fun vs H1=>sp (vs++dvs) H1 Q E
def Binds(K:PySem.W.Frag)(fd:FuncData)(ps:List Str)(ds:List Value):Prop :=
 ∀(s:Shared) (us:List Value),K.In s.heap→(us++ds).length=ps.length→BindsTo s fd ⟨us,[]⟩ (ps.zip (us++ds))
theorem Binds.all{K:PySem.W.Frag}{fd:FuncData}{ps:List Str}(h:∀us:List Value,us.length=ps.length→bindArgs fd ⟨us,[]⟩=pure (ps.zip us)):Binds K fd ps []:=fun s us _ hl=>by
 rw[List.append_nil]at hl ⊢;exact .of_eq (h us hl)
def Passes(CX:F0)(X:Cx)(E:XK):Prop:=∀(pins:List (Addr×Obj)) (σ:St) (H:Hp) (s:Shared) (e:Value) (s':Shared),Inv X pins σ H s→CX X.stack H s E e s'→X.xe e s'
section
variable{X:Cx}{CX:F0}{k:Nat}{f:Addr}{fd:FuncData}{ps:List Str}{sp:Sp}{dvs:List V}{ds:List Value}{E:XK}{x:Str}{p pos:Pos}{e:Expr}{es:List Expr}{t:TA}
theorem gI{pins:List (Addr×Obj)}{σ:St}{H:Hp}{s:Shared}{Q:VK}{us:List Value}{vs:List V}(F:Ab X.prog X.w X.K X.mg X.base CX k f fd ps sp)(hr:Bf k X.A)(hb:Binds X.K fd ps ds)(hd:Vals dvs ds)(hx:Passes CX X E)
 (I:Inv X pins σ H s)(r:Vals vs us)(h:sp (vs++dvs) H Q E):wpAny (model X.prog X.w) X.A (call (.ref f) us) (EP X pins σ Q) X.xe s:=by
 have r2:Vals (vs++dvs) (us++ds):=r.append hd;have hl:(us++ds).length=ps.length:=by rw[←r2.length];exact F.len _ _ _ _ h
 refine wpAny_call (codeAny_mono (F.run X.A X.stack s H ⟨us,[]⟩ (us++ds) (vs++dvs) Q E hr I.Xi (hb s us I.FQ hl) r2 h) fun r s' hq=>?_);cases r with
 |error e=>exact hx pins σ H s e s' I hq
 |ok fl =>
  cases fl with
  |ret u=>exact I.after hq
  |next=>exact False.elim hq
  |brk=>exact False.elim hq
  |cont=>exact False.elim hq
theorem UP(F:Ab X.prog X.w X.K X.mg X.base CX k f fd ps sp)(hr:Bf k X.A)(hg:Gl X x)(hm:X.mg x=some (.ref f))(hk:PySem.W.keepIn X.K (.ref f)=true)(hb:Binds X.K fd ps ds)(hd:Vals dvs ds)(hx:Passes CX X E)
 (ha:PA X (e::es) t)(hdb:(x==("__debug__" : Str))=false:=by decide)(he:starEach (e::es) X.env=(false,eval e X.env)::starEach es X.env:=by rfl)(hpl:(backTo pos (starEach es X.env)).any (·.1)=false:=by rfl) :
  PE X (.Call (.Name x p) (e::es) [] pos) (LJ sp dvs E t):=by
 intro pins s σ H Q I h;refine wpAny_Call_Name_kw (JD I hg hm ?_ hdb);refine PySem.W.callWith_K (h₀:=X.base) I.ok.mod.MF hk (BD (ha pos pins s σ H _ I h) fun us s1 ⟨vs,H1,I1,r,q⟩=>⟨I1.FQ,?_⟩) he hpl;exact gI F hr hb hd hx I1 r q
end
structure Al(N P:List Str)(sc:Scope):Prop where
 kind:sc.kind=.function
 co:sc.isCoroutine=false
 gen:sc.isGenerator=false
 nd:N.Nodup
 pre:N.take P.length=P
 par:∀x∈P,sc.names.lookup x=some .local∨sc.names.lookup x=some .cell
 cj:∀y∈sc.names,y.2≠.free
theorem P9{kindOf:Str→Option NameKind}{x:Str}:∀ {binds:List (Str×Value)} {m:Str→Option Value},(∀v,(x,v) ∉ binds)→bindL kindOf binds m x=m x
 |[],_,_=>rfl
 |(n,v)::r,m,h=>by
  unfold bindL;rw[P9 fun w hw=>h w (aV _ hw)];split
  ·have:x≠n:=by rintro rfl;exact h v List.mem_cons_self
   simp[this]
  ·rfl
theorem QH{kindOf:Str→Option NameKind}{x:Str}:∀ {binds:List (Str×Value)} {m:Str→Option Value},(∀v,(x,v) ∉ binds)→bindC kindOf binds m x=m x
 |[],_,_=>rfl
 |(n,v)::r,m,h=>by
  unfold bindC;rw[QH fun w hw=>h w (aV _ hw)];split
  ·rfl
  ·have:x≠n:=by rintro rfl;exact h v List.mem_cons_self
   simp[this]
theorem QA{kindOf:Str→Option NameKind}{x:Str}{v:Value}:∀ {P:List Str} {vs:List Value} {i:Nat} {m:Str→Option Value},P.Nodup→P[i]? = some x→vs[i]? = some v→kindOf x=some .local →
  bindL kindOf (P.zip vs) m x=some v
 |[],_,_,_,_,h,_,_=>by simp at h
 |_::_,[],_,_,_,_,h,_=>by simp at h
 |p::P,w::vs,0,m,nd,h1,h2,hk=>by
  simp at h1 h2;subst h1;subst h2;show bindL kindOf ((p,w)::P.zip vs) m p=_;unfold bindL;rw[P9 fun v hv=>(List.nodup_cons.mp nd).1 (List.of_mem_zip hv).1,if_pos hk];simp
 |p::P,w::vs,i+1,m,nd,h1,h2,hk=>by
  show bindL kindOf ((p,w)::P.zip vs) m x=_;unfold bindL;exact QA (i:=i) (List.nodup_cons.mp nd).2 (by simpa using h1) (by simpa using h2) hk
theorem P2{kindOf:Str→Option NameKind}{x:Str}{v:Value}:∀ {P:List Str} {vs:List Value} {i:Nat} {m:Str→Option Value},P.Nodup→P[i]? = some x→vs[i]? = some v→kindOf x≠some .local →
  bindC kindOf (P.zip vs) m x=some v
 |[],_,_,_,_,h,_,_=>by simp at h
 |_::_,[],_,_,_,_,h,_=>by simp at h
 |p::P,w::vs,0,m,nd,h1,h2,hk=>by
  simp at h1 h2;subst h1;subst h2;show bindC kindOf ((p,w)::P.zip vs) m p=_;unfold bindC;rw[QH fun v hv=>(List.nodup_cons.mp nd).1 (List.of_mem_zip hv).1,if_neg hk];simp
 |p::P,w::vs,i+1,m,nd,h1,h2,hk=>by
  show bindC kindOf ((p,w)::P.zip vs) m x=_;unfold bindC;exact P2 (i:=i) (List.nodup_cons.mp nd).2 (by simpa using h1) (by simpa using h2) hk
def start(N:List Str)(vs:List V):St:=vs.map some++List.replicate (N.length-vs.length) none
def Bq(CX:F0)(P:Program)(w:World)(K:PySem.W.Frag)(mg:Str→Option Value)(base:Heap)(N:List Str)(qual:Str)(scope:Scope)(f:Addr)(cd:Value)(A:Around)(outer:List Env)(s:Shared)(H:Hp)(E:XK):Cx where
 prog:=P
 w:=w
 K:=K
 mg:=mg
 base:=base
 A:=A.deeper (envOfC qual scope s.heap.objs.size f cd)
 N:=N
 s₀:=s
 H₀:=H
 env:=envOfC qual scope s.heap.objs.size f cd
 outer:=outer
 stack:=envOfC qual scope s.heap.objs.size f cd::outer
 ex:=[]
 calm:=true
 fn:=fun _=>true
 pn:=[]
 xe:=fun e s'=>wpAny (model P w) (A.deeper (envOfC qual scope s.heap.objs.size f cd)) (leaving (envOfC qual scope s.heap.objs.size f cd) e) (fun _ s''=>CX outer H s E e s'') (fun e' s''=>CX outer H s E e' s'') s'
theorem RQ{sc:Scope}{n:Nat}{x:Str}(h:sc.names.lookup x=some .cell):∃c,(cellsFrom n sc.names []).lookup x=some c:=by
 have q:=PySem.W.cellsFrom_some sc.names n [] (.inl h);exact Option.isSome_iff_exists.mp q
theorem P4{CX:F0}{P:Program}{w:World}{K:PySem.W.Frag}{mg:Str→Option Value}{base:Heap}{N ps:List Str}{qual:Str}{scope:Scope}{f:Addr}{cd:Value}{A:Around}{outer:List Env}{s s1:Shared}{H:Hp}{E:XK}{us:List Value}{vs:List V}
 (S:Al N ps scope)(hd:A.handled=none)(e0:Q3 P w K mg base A outer s H)(hl:vs.length=ps.length)(r:Vals vs us)
 (x:InCallC s s.heap.objs.size (bindL (envOfC qual scope s.heap.objs.size f cd).kindOf (ps.zip us) fun _=>none) (cellsFrom (s.heap.objs.size+1) scope.names []) (bindC (envOfC qual scope s.heap.objs.size f cd).kindOf (ps.zip us) fun _=>none) s1) :
  Inv (Bq CX P w K mg base N qual scope f cd A outer s H E) [] (start N vs) H s1:=by
 have hpl:ps.length≤N.length:=by have:=aM List.length S.pre;rw[List.length_take]at this;lia
 obtain⟨h1,tk,rfl,hk⟩:=x.done;have noA:∀b:Addr,b ∉ (Bq CX P w K mg base N qual scope f cd A outer s H E).ex:=fun b z=>absurd (show b∈([]:List Addr) from z) (by simp);refine⟨⟨e0.mod,S.kind,rfl,rfl,Nat.le_refl _,fun y z c h1 h2=>?_,fun y hy=>?_,fun y c _ h=>?_,fun _=>hd,Around.frames_deeper e0.frames,.inr ⟨rfl,rfl⟩,fun b z=>absurd z (noA b),e0.bs,e0.MB,fun b _ _=>noA b,fun b z=>absurd z (noA b),e0.HM,e0.Oh,e0.kt⟩,
  rfl,e0.bare,Un.kept hk,⟨_,x.toInCall.ns,fun i y v h1 h2 h3=>?_⟩,fun y c h=>⟨_,x.cell y c h⟩,e0.A7.fresh (aJ _),fun y c h=>?_,fun p hp=>absurd (show p∈([]:List (Addr×Obj)) from hp) (by simp),e0.A7.kept hk,?_⟩
 ·exact name_of_addr x.apart (PySem.mem_of_lookup h1) (PySem.mem_of_lookup h2)
 ·have hy:scope.names.lookup y=some .cell∨scope.names.lookup y=some .free:=hy;rcases hy with hy|hy
  ·exact RQ hy
  ·exact absurd rfl (S.cj _ (PySem.mem_of_lookup hy))
 ·exact Nat.le_of_lt (x.above y c (PySem.mem_of_lookup h))
 ·have hi:i<vs.length:=by
   unfold start at h2;by_cases hi:i<vs.length
   ·exact hi
   ·rw[List.getElem?_append_right (by simpa using hi)]at h2;rw[List.getElem?_replicate]at h2;split at h2<;>cases h2
  have ha:vs[i]? = some v:=by
   unfold start at h2;rw[List.getElem?_append_left (by simpa using hi),List.getElem?_map]at h2;cases e:vs[i]? with
   |none=>rw[e]at h2;cases h2
   |some a=>rw[e]at h2;cases h2;rfl
  obtain⟨u,hu,rv⟩:=r.get ha;have hp:ps[i]? = some y:=by
   rw[←S.pre,List.getElem?_take_of_lt (by lia)];exact h1
  have ndP:ps.Nodup:=by rw[←S.pre];exact S.nd.sublist (List.take_sublist _ _)
  refine⟨u,rv,?_⟩;rcases S.par y (aW hp) with k|k
  ·exact .inl ⟨k,QA ndP hp hu k⟩
  ·obtain⟨c,e⟩:=RQ (n:=s.heap.objs.size+1) k;refine .inr ⟨.inl k,c,e,?_⟩;have q:=x.cell y c e;rw[P2 ndP hp hu (by show scope.names.lookup y≠_;rw[k];decide)]at q;exact q
 ·exact e0.A7.fresh (Nat.le_of_lt (x.above y c (PySem.mem_of_lookup h)))
 ·unfold start;show _=N.length;rw[List.length_append,List.length_map,List.length_replicate]
  lia
theorem Yr{CX:F0}{P:Program}{w:World}{K:PySem.W.Frag}{mg:Str→Option Value}{base:Heap}{k:Nat}{f:Addr}{name qual:Str}{params:Arguments}{body:List Stmt}{scope:Scope}{dV kV doc pm cdv ct oc:Value}{an od:Option Addr}
 {osl:Array (Option Value)}{N ps:List Str}{sp:Sp}(lk:K.lookup f=some ⟨oc,od,.func (PySem.W.fnOf name qual params body scope dV kV doc pm an cdv ct),osl⟩)(hcd:PySem.W.codeIn K cdv qual=true)(S:Al N ps scope)
 (len:∀vs H Q E,sp vs H Q E→vs.length=ps.length)
 (hbody:∀(A:Around) (outer:List Env) (s:Shared) (H:Hp) (vs:List V) (Q:VK) (E:XK),Bf k (A.deeper (envOfC qual scope s.heap.objs.size f cdv))→sp vs H Q E →
   ∃t,Gj (Bq CX P w K mg base N qual scope f cdv A outer s H E) body t∧t { nx:=fun _ H'=>Q .BM H',rt:=Q} (start N vs) H) :
  Ab P w K mg base CX (k+1) f (PySem.W.fnOf name qual params body scope dV kV doc pm an cdv ct) ps sp:=by
 refine⟨len,fun A outer s H args us vs Q E hr e0 hb r hsp=>?_⟩;have hl:=len _ _ _ _ hsp;have KX:K.In s.heap:=e0.mod.MF.keeps fun b o e=>(e0.bs b o e).1;have lim:s.heap.NoLimit:=e0.mod.nolimit.keeps fun b o e=>(e0.bs b o e).1;have hkind:∀y∈ps.zip us,scope.names.lookup y.1=some .local∨(scope.names.lookup y.1=some .cell∧((cellsFrom (s.heap.objs.size+1) scope.names []).lookup y.1).isSome=true):=fun⟨n,v⟩ hy=>by
  rcases S.par n (List.of_mem_zip hy).1 with q|q
  ·exact .inl q
  ·exact .inr ⟨q,PySem.W.cellsFrom_some _ _ _ (.inl q)⟩
 refine codeAny_call_function hr.depth (KX _ _ lk) rfl S.co S.gen rfl (PySem.W.codeRec_of KX hcd) (hb _ _ _ _ ?_);refine wpAny_newFunctionEnv_cells S.kind hkind fun env he s1 x=>?_;subst he;refine⟨lim.keeps x.toInCall.keep,codeAny_func ?_⟩;obtain⟨t,ht,hq⟩:=hbody A outer s H vs Q E (hr.deeper _) hsp;have I:Inv (Bq CX P w K mg base N qual scope f cdv A outer s H E) [] (start N vs) H s1:=P4 S hr.hd e0 hl r x;refine aK (ht [] s1 (start N vs) H _ I hq) (fun fl s' hs=>?_) fun e s' hs=>hs;have fin:∀ {σ':St} {H':Hp} {v:V} {u:Value},Inv (Bq CX P w K mg base N qual scope f cdv A outer s H E) [] σ' H' s'→RelV v u→Q v H'→CE outer P w H s Q u s' :=
  fun {σ' H' v u} J rv q=>⟨v,H',J.os,J.bare,J.base,J.A7,rv,q⟩
 cases fl with
 |ret u =>
  obtain⟨v,σ',H',J,rv,q⟩:=hs;exact fin J rv q
 |next =>
  obtain⟨σ',H',J,q⟩:=hs;exact fin (v:=V.BM) (u:=Value.none) J rfl q
 |brk =>
  obtain⟨_,_,_,q⟩:=hs;exact False.elim q
 |cont =>
  obtain⟨_,_,_,q⟩:=hs;exact False.elim q
section
variable{X:Cx}{x:Str}{p pos:Pos}{e:Expr}{es:List Expr}{t:TA}{id T:String}{r:List V→Hp→VK→Prop}
def ir(r:List V→Hp→VK→Prop)(t:TA):TE:=fun σ H Q=>t σ H fun vs H1=>r vs H1 Q
theorem BV(hc:Fp X (.builtin id) r)(hg:Gl X x)(hm:X.mg x=none)(hv:bootBuiltins x=some (.builtin id))(ha:PA X (e::es) t)(hn:x ≠ "__name__" := by decide)(hdb:(x==("__debug__" : Str))=false:=by decide)
 (he:starEach (e::es) X.env=(false,eval e X.env)::starEach es X.env:=by rfl)(hpl:(backTo pos (starEach es X.env)).any (·.1)=false:=by rfl):PE X (.Call (.Name x p) (e::es) [] pos) (ir r t):=by
 intro pins s σ H Q I h;refine wpAny_Call_Name_kw (Je I hg hm hv ?_ hn hdb);exact PyProof.Rows.callWith_builtin1 (BD (ha pos pins s σ H _ I h) fun us s1 ⟨vs,H1,I1,r1,q1⟩=>hc pins s1 σ H1 vs us Q I1 r1 q1) he hpl
theorem Pr(hc:Fp X (.type T) r)(hg:Gl X x)(hm:X.mg x=none)(hv:bootBuiltins x=some (.type T))(ha:PA X (e::es) t)(hn:x ≠ "__name__" := by decide)(hdb:(x==("__debug__" : Str))=false:=by decide)
 (he:starEach (e::es) X.env=(false,eval e X.env)::starEach es X.env:=by rfl)(hpl:(backTo pos (starEach es X.env)).any (·.1)=false:=by rfl):PE X (.Call (.Name x p) (e::es) [] pos) (ir r t):=by
 intro pins s σ H Q I h;refine wpAny_Call_Name_kw (Je I hg hm hv ?_ hn hdb);exact PyProof.Rows.callWith_type1 (BD (ha pos pins s σ H _ I h) fun us s1 ⟨vs,H1,I1,r1,q1⟩=>hc pins s1 σ H1 vs us Q I1 r1 q1) he hpl
end
end L2
namespace HT
open PySem PyProof.Rows
section
variable{prog:Program}{w:World}{A:Around}{E:Value→Shared→Prop}{s:Shared}
theorem bX{t b:Addr}{vs ws:List Value}{Q:Value→Shared→Prop}(ht:IsTup s.heap t vs.toArray)(hb:IsTup s.heap b ws.toArray)(hv:vs≠[])
 (h1:ws=[]→Q (.ref t) s)(h2:ws≠[]→Q (.ref s.heap.objs.size) {s with heap:=s.heap.push { cls:=.type "tuple",data:=.seq (vs++ws).toArray} })
 (hsz:vs.length+ws.length≤sizeLine):wpAny (model prog w) A (binaryOp .Add (.ref t) (.ref b)) Q E s:=by
 obtain⟨⟨cls,dd,data,sl⟩,ho,hc,n,hd⟩:=id ht;obtain⟨⟨cls2,dd2,data2,sl2⟩,ho2,hc2,n2,hd2⟩:=id hb;simp only at hc hd hc2 hd2;subst hc hd hc2 hd2;have e:vs.toArray++ws.toArray=(vs++ws).toArray:=by simp
 by_cases hw:ws=[]
 ·exact concat_meets ⟨_,ho,rfl⟩ ⟨_,ho2,rfl⟩ noFill_tuple_add seq_tuple_add PySem.F.slot_tuple_add PySem.F.entry_tuple_add (PySem.F.args_tuple_add_2 _ _)
   (tuple_addW1 t b vs.toArray ws.toArray n n2 dd dd2 sl sl2 (by simpa using hv) (by simp[hw])) ⟨ho,ho2,h1 hw⟩
 ·refine concat_meets ⟨_,ho,rfl⟩ ⟨_,ho2,rfl⟩ noFill_tuple_add seq_tuple_add PySem.F.slot_tuple_add PySem.F.entry_tuple_add (PySem.F.args_tuple_add_2 _ _)
   (tuple_addW2 t b vs.toArray ws.toArray n n2 dd dd2 sl sl2 (by simpa using hv) (by simpa using hw) (by rw[List.size_toArray,List.size_toArray];exact hsz)) ⟨ho,ho2,?_⟩
  rw[e];exact h2 hw
def Ba(n d:Nat):Option Int→Nat
 |none=>d
 |some v=>if v<0 then(v+(n:Int)).toNat else min v.toNat n
theorem R7(n d:Nat):Ba n d none=d:=rfl
theorem Zy(n d k:Nat):Ba n d (some (k:Int))=min k n:=by
 show(if(k:Int)<0 then((k:Int)+(n:Int)).toNat else min (k:Int).toNat n)=min k n;rw[if_neg (by lia),Int.toNat_natCast]
theorem dU(n d:Nat)(hd:d≤n)(o:Option Int):Ba n d o≤n:=by
 cases o with
 |none=>exact hd
 |some v =>
  show(if v<0 then(v+(n:Int)).toNat else min v.toNat n)≤n;by_cases hv:v<0
  ·rw[if_pos hv];lia
  ·rw[if_neg hv];exact Nat.min_le_right _ _
theorem Uh(v:Int)(n d:Nat):(if v<0 then max (v+(n:Int)) 0 else min v (n:Int))=((Ba n d (some v):Nat):Int):=by
 show(if v<0 then max (v+(n:Int)) 0 else min v (n:Int))=(((if v<0 then(v+(n:Int)).toNat else min v.toNat n):Nat):Int);by_cases hv:v<0
 ·simp only[if_pos hv];lia
 ·simp only[if_neg hv];lia
theorem U1(lo hi:Option Int)(n:Nat):Builtin.Slice.sliceAdjust lo hi 1 (n:Int)=(((Ba n 0 lo:Nat):Int),((Ba n n hi:Nat):Int)):=by
 have h1:¬((1:Int)<0):=by lia
 unfold Builtin.Slice.sliceAdjust;simp only[h1,if_false];refine Prod.ext ?_ ?_
 ·cases lo with
  |none=>rfl
  |some v=>exact Uh v n 0
 ·cases hi with
  |none=>rfl
  |some v=>exact Uh v n n
theorem VQ(i j:Nat):Builtin.Slice.slicePlaces (i:Int) (j:Int) 1=j-i:=by
 unfold Builtin.Slice.slicePlaces;have h1:(1:Int) > 0:=by lia
 simp only[h1,if_true,Int.ediv_one];split<;>lia
theorem OQ{v:Value}{o:Option Int}{Q:Option Int→Shared→Prop}(p:IsPart v o)(h:Q o s):wpAny (model prog w) A (Builtin.Slice.slicePartIndex v) Q E s:=by
 cases p with
 |none=>exact slicePart_none h
 |int i t=>exact slicePart_int h
theorem Nn{sl:Addr}{vl vu:Value}{lo hi:Option Int}{n:Nat}{Q:Int×Int×Nat→Shared→Prop}(hs:s.heap.IsSliceOf sl vl vu .none)(pl:IsPart vl lo)(pu:IsPart vu hi)
 (h:Q (((Ba n 0 lo:Nat):Int),1,Ba n n hi-Ba n 0 lo) s):wpAny (model prog w) A (Builtin.Slice.sliceApplied (.ref sl) (pure (n:Int))) Q E s:=by
 obtain⟨os,hos,hcs,Gg⟩:=id hs;unfold Builtin.Slice.sliceApplied Builtin.Slice.sliceFields;refine aC (aC (wpAny_field hos Gg (x:=vl) rfl (aC (wpAny_field hos Gg (x:=vu) rfl (aC (wpAny_field hos Gg (x:=.none) rfl (aD ?_)))))));refine aC (slicePart_none ?_);show wpAny _ _ (if((1:Int)==0)=true then _ else _) _ _ s;rw[if_neg (by decide)];refine aC (OQ pl (aC (OQ pu (aC (aD ?_)))));show wpAny _ _ (match Builtin.Slice.sliceAdjust lo hi 1 (n:Int) with|(lo,hi)=>pure (lo,(1:Int),Builtin.Slice.slicePlaces lo hi 1)) _ _ s;rw[U1 lo hi n];show wpAny _ _ (pure (((Ba n 0 lo:Nat):Int),(1:Int),Builtin.Slice.slicePlaces ((Ba n 0 lo:Nat):Int) ((Ba n n hi:Nat):Int) 1)) _ _ s;rw[VQ];exact aD h
theorem Xm(xs:Array Value)(i k:Nat):((List.range k).filterMap fun(m:Nat)=>xs[((i:Int)+(m:Int)*1).toNat]?).toArray=((xs.toList.drop i).take k).toArray:=by
 have e:(fun(m:Nat)=>xs[((i:Int)+(m:Int)*1).toNat]?)=fun m=>xs[i+m]? := by
  funext m
  have:((i:Int)+(m:Int)*1).toNat=i+m:=by lia
  rw[this]
 rw[e];have:=pick_run xs i k;rw[List.filterMap_map]at this;have e2:((fun x=>xs[x]?) ∘ fun x=>i+x)=fun m=>xs[i+m]?:=rfl;rw[e2]at this;rw[this]
theorem NH{t sl:Addr}{items:Array Value}{vl vu:Value}{lo hi:Option Int}{Q:Value→Shared→Prop}(ht:IsTup s.heap t items)(hs:s.heap.IsSliceOf sl vl vu .none)(pl:IsPart vl lo)(pu:IsPart vu hi)
 (hw:¬(Ba items.size 0 lo=0∧Ba items.size items.size hi=items.size))
 (h:Q (.ref s.heap.objs.size) {s with heap:=s.heap.push { cls:=.type "tuple",data:=.seq ((items.toList.drop (Ba items.size 0 lo)).take (Ba items.size items.size hi-Ba items.size 0 lo)).toArray} })
 (hsz:items.size≤sizeLine):wpAny (model prog w) A (getItem (.ref t) (.ref sl)) Q E s:=by
 have htake:sizeOk (.seq ((items.toList.drop (Ba items.size 0 lo)).take (Ba items.size items.size hi-Ba items.size 0 lo)).toArray):=by
  show((items.toList.drop (Ba items.size 0 lo)).take (Ba items.size items.size hi-Ba items.size 0 lo)).toArray.size≤sizeLine;rw[List.size_toArray,List.length_take,List.length_drop,Array.length_toList]
  lia
 have hj:Ba items.size items.size hi≤items.size:=dU _ _ (aJ _) hi;obtain⟨os,hos,hcs,Gg⟩:=id hs;have hTs:s.TypeIs (.ref sl) "slice" := ⟨os,hos,hcs⟩;unfold getItem
 try with_reducible refine ak ?_
 first|refine aC (aD ?_)|skip
 refine aC (wpAny_sequenceKey ht.typeIs (by decide) ?_);refine aC (wpAny_callSpecial?_slot (name:=Str.ofString "__getitem__") ht.typeIs PyProof.Rows.slot_tuple_getitem
  (wpAny_call_entry PyProof.Rows.slot_tuple_getitem ht.typeIs entry_tuple_getitem ?_ (args_tuple_getitem _ _)))
 show wpAny _ _ (Builtin.Tuple.tupleItemsOf (.ref t)>>=_) _ _ s;refine aC (tupleItemsOf_ ht ?_);refine aC (wpAny_typeOf hTs ?_);rw[if_pos (by decide)];refine aC (Nn hs pl pu ?_);have hno:¬((((Ba items.size 0 lo:Nat):Int)==0&&(1:Int)==1&&(Ba items.size items.size hi-Ba items.size 0 lo)==items.size)=true):=by
  intro q;rw[Bool.and_eq_true,Bool.and_eq_true]at q;have q1:((Ba items.size 0 lo:Nat):Int)=0:=eq_of_beq q.1.1;have q2:Ba items.size items.size hi-Ba items.size 0 lo=items.size:=eq_of_beq q.2;exact hw ⟨by lia,by lia⟩
 show wpAny _ _ (if(((Ba items.size 0 lo:Nat):Int)==0&&(1:Int)==1&&(Ba items.size items.size hi-Ba items.size 0 lo)==items.size)=true then _ else _) _ _ s;rw[if_neg hno,Xm]
 first
  |exact aC (m:=Builtin.Tuple.tupleExact _) (ax (aD ⟨_,rfl,wpAny_pure h⟩) htake)
  |exact aC (m:=Builtin.Tuple.tupleExact _) (ax (aC (aD (aD ⟨_,rfl,wpAny_pure h⟩))) htake)
  |exact aC (aC (m:=Builtin.Tuple.tupleExact _) (ax (aD (aD ⟨_,rfl,wpAny_pure h⟩)) htake))
  |exact aC (aC (m:=Builtin.Tuple.tupleExact _) (ax (aD ⟨_,rfl,wpAny_pure h⟩) htake))
end
end HT
namespace L2
open PySem PySem.Spec PyProof.Rows
abbrev TO:=St→Hp→(Option Int→Hp→Prop)→Prop
def PO(X:Cx)(e:Option Expr)(t:TO):Prop :=
 ∀(pins:List (Addr×Obj)) (s:Shared) (σ:St) (H:Hp) (Q:Option Int→Hp→Prop),Inv X pins σ H s→t σ H Q →
  wpAny (model X.prog X.w) X.A (evalPart e X.env) (fun u s'=>∃o H',Inv X pins σ H' s'∧IsPart u o∧Q o H') X.xe s
def Zi:TO:=fun _ H Q=>Q none H
def iB(t:TE):TO:=fun σ H Q=>t σ H fun x H1=>∃i,x=.int i∧Q (some i) H1
section
variable{X:Cx}{e:Expr}{te:TE}{lo hi:Option Expr}{tl th:TO}{pos p2:Pos}
theorem Te:PO X none Zi:=by
 intro pins s σ H Q I h;rw[evalPart_none];exact aD ⟨none,H,I,.none,h⟩
theorem UJ(h:PE X e te):PO X (some e) (iB te):=by
 intro pins s σ H Q I hw;rw[evalPart_some];refine BD (h pins s σ H _ I hw) fun u s1 ⟨x,H1,I1,r1,q1⟩=>?_;obtain⟨i,rfl,q⟩:=q1;obtain⟨t,rfl⟩:=r1;exact⟨some i,H1,I1,.int i t,q⟩
def SW(X:Cx)(r:V→Option Int→Option Int→Hp→VK→Prop):Prop :=
 ∀(pins:List (Addr×Obj)) (s:Shared) (σ:St) (H:Hp) (x:V) (v vl vu:Value) (lo hi:Option Int) (sl:Addr) (Q:VK),Inv X pins σ H s→RelV x v→s.heap.IsSliceOf sl vl vu .none→IsPart vl lo→IsPart vu hi→r x lo hi H Q →
  ∃T id,typeLookup (.type T) "__getitem__" = pure (some (.builtin id))∧s.TypeIs v T∧wpAny (model X.prog X.w) X.A (getItem v (.ref sl)) (EP X pins σ Q) X.xe s
theorem SW.or{r r':V→Option Int→Option Int→Hp→VK→Prop}(h:SW X r)(h':SW X r'):SW X (fun x lo hi H Q=>r x lo hi H Q∨r' x lo hi H Q):=by
 intro pins s σ H x v vl vu lo hi sl Q I rx hs pl pu q;rcases q with q|q
 ·exact h pins s σ H x v vl vu lo hi sl Q I rx hs pl pu q
 ·exact h' pins s σ H x v vl vu lo hi sl Q I rx hs pl pu q
def jv(r:V→Option Int→Option Int→Hp→VK→Prop)(te:TE)(tl th:TO):TE:=fun σ H Q=>te σ H fun x H1=>tl σ H1 fun l H2=>th σ H2 fun u H3=>r x l u H3 Q
theorem RH{r:V→Option Int→Option Int→Hp→VK→Prop}(hr:SW X r)(he:PE X e te)(hl:PO X lo tl)(hu:PO X hi th):PE X (.Subscript e (.Slice lo hi none p2) pos) (jv r te tl th):=by
 intro pins s σ H Q I h;refine Subscript_ (BD (he pins s σ H _ I h) fun v s1 ⟨x,H1,I1,r1,q1⟩=>?_);refine wpAny_Slice (BD (hl pins s1 σ H1 _ I1 q1) fun vl s2 ⟨l,H2,I2,pl,q2⟩=>BD (hu pins s2 σ H2 _ I2 q2) fun vu s3 ⟨u,H3,I3,pu,q3⟩=>?_);rw[evalPart_none];refine aD ?_;have I4:Inv X pins σ H3 {s3 with heap:=s3.heap.push { cls:=.type "slice",data:=.fields #[vl,vu,.none]} }:=I3.kept (t':=s3.toks) fun b ob q=>aI _ q;obtain⟨T,id,hT,ht,hg⟩:=hr pins {s3 with heap:=s3.heap.push { cls:=.type "slice",data:=.fields #[vl,vu,.none]} } σ H3 x v vl vu l u s3.heap.objs.size Q I4 r1 (Heap.IsSliceOf.new ..) pl pu q3;show wpAny (model X.prog X.w) X.A (subscriptTail e (.Slice lo hi none p2) v (.ref s3.heap.objs.size)) (EP X pins σ Q) X.xe {s3 with heap:=s3.heap.push { cls:=.type "slice",data:=.fields #[vl,vu,.none]} };exact tail_any (ops:=[.ref s3.heap.objs.size,v]) ht hT hg (by with_unfolding_all rfl)
def Ih(xs:List V)(lo hi:Option Int):List V:=(xs.drop (HT.Ba xs.length 0 lo)).take (HT.Ba xs.length xs.length hi-HT.Ba xs.length 0 lo)
theorem KO(xs:List V)(lo hi:Option Int):(Ih xs lo hi).length≤xs.length:=by
 unfold Ih;rw[List.length_take,List.length_drop]
 lia
def jI(K:PySem.W.Frag):V→Option Int→Option Int→Hp→VK→Prop:=fun x lo hi H Q=>∃a xs,x=.ref a∧CS K H a xs ∧
 ¬(HT.Ba xs.length 0 lo=0∧HT.Ba xs.length xs.length hi=xs.length)∧∀p,H p=none→Q (.ref p) (upd H p (.tup (Ih xs lo hi)))
theorem dS:SW X (jI X.K):=by
 intro pins s σ H x v vl vu lo hi sl Q I rx hs pl pu h;obtain⟨a,xs,rfl,hx,hw,q⟩:=h;cases rx;obtain⟨its,r,ht,hz⟩:=I.tuple hx;have hlen:its.toArray.size=xs.length:=by rw[List.size_toArray];exact r.length.symm
 refine⟨"tuple",_,PyProof.Rows.slot_tuple_getitem.lookup,ht.typeIs,?_⟩;refine HT.NH ht hs pl pu (by rw[hlen];exact hw) ?_ (by rw[hlen];exact hz);rw[hlen];refine⟨.ref s.heap.objs.size,_,I.laid (t':=s.toks) (o:=.tup (Ih xs lo hi)) (fun b ob q=>aI _ q) (aJ _) ?_,rfl,q _ (I.A7.fresh (aJ _))⟩;exact⟨aH (KO xs lo hi) hz,_,(r.drop (HT.Ba xs.length 0 lo)).take (HT.Ba xs.length xs.length hi-HT.Ba xs.length 0 lo),IsTup.new _ _⟩
theorem Vals.Ug{xs:List V}{us:List Value}(r:Vals xs us):us=[] ↔ xs=[]:=by
 cases r with
 |nil=>simp
 |cons _ _=>simp
end
def HU(n:Nat)(i:Int):Option Nat:=if 0≤i then(if i<n then some i.toNat else none) else if -(n:Int)≤i then some (i+n).toNat else none
def C3{α:Type}(xs:List α)(i:Int):Option α:=(HU xs.length i).bind fun j=>xs[j]?
theorem UE{n:Nat}{i:Int}{j:Nat}(h:HU n i=some j):seqIndex? i n=some j∧j<n∧-(n:Int)≤i∧i<n:=by
 unfold HU at h;by_cases h0:0≤i
 ·rw[if_pos h0]at h;by_cases h1:i<n
  ·rw[if_pos h1]at h;have e:i.toNat=j:=aU h;exact⟨by rw[seqIndex_of h0 h1,e],by lia,by lia,h1⟩
  ·rw[if_neg h1]at h;cases h
 ·rw[if_neg h0]at h;by_cases h1:-(n:Int)≤i
  ·rw[if_pos h1]at h;have e:(i+n).toNat=j:=aU h;exact⟨by rw[seqIndex_neg (by lia) h1,e],by lia,h1,by lia⟩
  ·rw[if_neg h1]at h;cases h
theorem Pn{α:Type}{xs:List α}{i:Int}{v:α}(h:C3 xs i=some v):∃j,seqIndex? i xs.length=some j∧xs[j]? = some v∧j<xs.length∧-(xs.length:Int)≤i∧i<xs.length:=by
 unfold C3 at h;cases e:HU xs.length i with
 |none=>rw[e]at h;cases h
 |some j =>
  rw[e]at h;obtain⟨h1,h2,h3,h4⟩:=UE e;exact⟨j,h1,h,h2,h3,h4⟩
theorem Zl{α:Type}{xs:List α}{j:Nat}{v:α}(h:xs[j]? = some v):C3 xs (j:Int)=some v:=by
 have hj:j<xs.length:=(aE.mp h).1;have e:HU xs.length (j:Int)=some j:=by
  unfold HU;rw[if_pos (by lia),if_pos (by lia)];simp
 unfold C3;rw[e];exact h
def PK(b:Expr):Prop:=∀o i,subscripted b false o i=operate [o,i] (getItem o i)
def OZ(X:Cx)(r:R2):Prop :=
 ∀(value slice:Expr) (pins:List (Addr×Obj)) (s:Shared) (σ:St) (H:Hp) (x y:V) (v u:Value) (Q:VK),Inv X pins σ H s→RelV x v→RelV y u→r x y H Q →
  subscripted slice false v u=operate [v,u] (getItem v u)→wpAny (model X.prog X.w) X.A (subscriptTail value slice v u) (EP X pins σ Q) X.xe s
def SR(X:Cx)(id:String)(r:V→List V→Hp→VK→Prop):Prop :=
 ∀(pins:List (Addr×Obj)) (s:Shared) (σ:St) (H:Hp) (x:V) (xs:List V) (v:Value) (us:List Value) (Q:VK),Inv X pins σ H s→RelV x v→Vals xs us→r x xs H Q →
  wpAny (model X.prog X.w) X.A (call (.builtin id) (v::us)) (EP X pins σ Q) X.xe s
section
variable{X:Cx}{a b:Expr}{ta tb:TE}{pos:Pos}
theorem OZ.or{r r':R2}(h:OZ X r)(h':OZ X r'):OZ X (fun x y H Q=>r x y H Q∨r' x y H Q):=by
 intro value slice pins s σ H x y v u Q I rx ry q hs;rcases q with q|q
 ·exact h value slice pins s σ H x y v u Q I rx ry q hs
 ·exact h' value slice pins s σ H x y v u Q I rx ry q hs
theorem CM{r:R2}(hr:OZ X r)(ha:PE X a ta)(hb:PE X b tb)(hs:PK b):PE X (.Subscript a b pos) (P7 r ta tb):=by
 intro pins s σ H Q I h;exact Subscript_ (YM ha hb I h fun v u s2 x y H2 I2 rx ry q=>hr a b pins s2 σ H2 x y v u Q I2 rx ry q (hs _ _))
def VL(K:PySem.W.Frag):R2:=fun x y H Q=>∃p xs i v,x=.ref p∧y=.int i∧BI K H p xs∧C3 xs i=some v∧Q v H
def U8(K:PySem.W.Frag):R2:=fun x y H Q=>∃p xs i v,x=.ref p∧y=.int i∧CS K H p xs∧C3 xs i=some v∧Q v H
def cu:R2:=fun x y H Q=>∃z i c,x=.str z∧y=.int i∧z.length≤sizeLine∧C3 z.cps.toList i=some c∧Q (.str ⟨#[c]⟩) H
theorem M8:OZ X (VL X.K):=by
 intro value slice pins s σ H x y v u Q I rx ry h hs;obtain⟨p,xs,i,z,rfl,rfl,hq,he,q⟩:=h;cases rx;obtain⟨t,rfl⟩:=ry;obtain⟨its,r,pl,hz⟩:=I.list hq;obtain⟨j,h1,h2,h3,h4,h5⟩:=Pn he;obtain⟨w,ew,rw'⟩:=r.get h2;have hl:=r.length;have hn:=Ks;have fin:EP X pins σ Q w s:=⟨z,H,I,rw',q⟩;by_cases h0:0≤i
 ·have hj:i.toNat=j:=by
   rw[seqIndex_of h0 h5]at h1;exact aU h1
  exact item_listR pl.isList h0 (by lia) (by rw[hj];simpa using ew) fin hs
 ·have hj:(i+(its.toArray.size:Int)).toNat=j:=by
   rw[seqIndex_neg (by lia) h4]at h1;rw[List.size_toArray,←hl];exact aU h1
  exact subscriptTail_builtinR (x:=w) pl.isList.typeIs slot_list_getitem.lookup
   (wpAny_getItem_list_neg (Q:=fun r s'=>r=w∧EP X pins σ Q r s') pl.isList (by lia) (by rw[List.size_toArray]<;>lia) (by lia) (by rw[hj];simpa using ew) ⟨rfl,fin⟩) hs
theorem CD:OZ X (U8 X.K):=by
 intro value slice pins s σ H x y v u Q I rx ry h hs;obtain⟨p,xs,i,z,rfl,rfl,hq,he,q⟩:=h;cases rx;obtain⟨t,rfl⟩:=ry;obtain⟨its,r,pl,hz⟩:=I.tuple hq;obtain⟨j,h1,h2,h3,h4,h5⟩:=Pn he;obtain⟨w,ew,rw'⟩:=r.get h2;have hl:=r.length;have hn:=Ks;have fin:EP X pins σ Q w s:=⟨z,H,I,rw',q⟩;exact subscriptTail_builtinR (x:=w) pl.typeIs slot_tuple_getitem.lookup
  (getItem_tuple (j:=j) (Q:=fun r s'=>r=w∧EP X pins σ Q r s') pl (by lia) (by lia) (by rw[List.size_toArray,←hl];exact h1) (by simpa using ew) ⟨rfl,fin⟩) hs
theorem fw:OZ X cu:=by
 intro value slice pins s σ H x y v u Q I rx ry h hs;obtain⟨z,i,c,rfl,rfl,hz,he,q⟩:=h;obtain⟨t,rfl⟩:=rx;obtain⟨t',rfl⟩:=ry;obtain⟨j,h1,h2,h3,h4,h5⟩:=Pn he;have hl:z.cps.toList.length=z.length:=by simp[Str.length]
 rw[hl]at h1 h4 h5;have hn:=Ks;exact tail_any (typeIs_str s z t) slot_str_getitem.lookup (getItem_str (c:=c) (by
  have e1:decide (i < -(2^63:Int))=false:=af (by lia);have e2:decide (i ≥ 2^63)=false:=af (by lia);rw[e1,e2,Bool.or_false]) (by rw[h1];simpa using h2) ⟨.str ⟨#[c]⟩,H,I.tok _,⟨_,rfl⟩,q⟩) hs
def jm(K:PySem.W.Frag):R2:=fun x y H Q=>VL K x y H Q∨U8 K x y H Q∨cu x y H Q
theorem eV:OZ X (jm X.K):=M8.or (CD.or fw)
theorem VB(its:List Value)(n j:Nat)(u:Value):Obj.mapSeq (·.setIfInBounds j u) { cls:=.type "list",data:=.seq its.toArray n}={ cls:=.type "list",data:=.seq (its.set j u).toArray n}:=by
 simp[Obj.mapSeq]
theorem Inv.lst{pins:List (Addr×Obj)}{σ:St}{H:Hp}{s:Shared}{p:Addr}{xs:List V}(I:Inv X pins σ H s)(h:H p=some (.lst xs)) :
  ∃(its:List Value) (n:Nat),Vals xs its∧s.heap.get? p=some { cls:=.type "list",data:=.seq its.toArray n}∧xs.length≤sizeLine:=by
 obtain⟨z,its,n,r,e⟩:=I.A7 p _ h;exact⟨its,n,r,e,z⟩
theorem Inv.cF{pins:List (Addr×Obj)}{σ:St}{H:Hp}{s:Shared}{p:Addr}{xs ys:List V}{its its':List Value}{n n':Nat}{f:Obj→Obj}(I:Inv X pins σ H s)(h:H p=some (.lst xs))
 (ho:s.heap.get? p=some { cls:=.type "list",data:=.seq its.toArray n})(hf:f { cls:=.type "list",data:=.seq its.toArray n}={ cls:=.type "list",data:=.seq its'.toArray n'})(r:Vals ys its')(hz:ys.length≤sizeLine)(t:Nat) :
  Inv X pins σ (upd H p (.lst ys)) {s with heap:=s.heap.update p f,toks:=t}:=by
 have e:(s.heap.update p f).get? p=some { cls:=.type "list",data:=.seq its'.toArray n'}:=by
  rw[Heap.get?_update_self f ho (by rw[hf]<;>rfl),hf]
 refine I.write (x:=p) (e:=p) (by rw[h];trivial) (.inl rfl) (fun b u hb q=>(Heap.get?_update_other _ _ (Ne.symm hb)).trans q) ⟨_,e⟩ ?_;exact⟨hz,its',n',r,e⟩
def Qi:V→V→V→Hp→(Hp→Prop)→Prop:=fun o i v H Q=>∃p xs k j,o=.ref p∧i=.int k∧H p=some (.lst xs)∧HU xs.length k=some j∧Q (upd H p (.lst (xs.set j v)))
theorem set_list:cU X Qi:=by
 intro pins s σ H o i v ov iv u Q I ro ri rv h;obtain⟨p,xs,k,j,rfl,rfl,hp,hj,q⟩:=h;cases ro;obtain⟨t,rfl⟩:=ri;obtain⟨its,n,r,ho,hz⟩:=I.lst hp;obtain⟨h1,h2,h3,h4⟩:=UE hj;have hl:=r.length;have hn:=Ks;have I':Inv X pins σ (upd H p (.lst (xs.set j v))) {s with heap:=s.heap.update p (Obj.mapSeq (·.setIfInBounds j u))} :=
  I.cF hp ho (VB its n j u) (r.set rv j) (by rw[List.length_set];exact hz) s.toks
 by_cases h0:0≤k
 ·have hk:k.toNat=j:=by
   rw[seqIndex_of h0 h4]at h1;exact aU h1
  exact PySem.W.ki_setAt ho h0 (by lia) (by rw[List.size_toArray,←hl];exact h4) (by rw[hk];exact⟨_,I',q⟩)
 ·have hk:(k+(its.toArray.size:Int)).toNat=j:=by
   rw[seqIndex_neg (by lia) h3]at h1;rw[List.size_toArray,←hl];exact aU h1
  exact PySem.W.ki_setBack ho (by lia) (by rw[List.size_toArray,←hl];exact h3) (by lia) (by rw[hk];exact⟨_,I',q⟩)
theorem Sa(lo hi:Option Int)(n:Nat):(sliceBounds lo hi none n).1=((HT.Ba n 0 lo:Nat):Int)∧(sliceBounds lo hi none n).2.1=((HT.Ba n n hi:Nat):Int)∧(sliceBounds lo hi none n).2.2=1:=by
 refine⟨?_,?_,rfl⟩
 ·cases lo with
  |none=>simp[sliceBounds,HT.Ba]
  |some i =>
   simp only[sliceBounds,HT.Ba,Option.getD_none,show(1:Int) > 0 by decide,if_true];by_cases h:i<0
   ·simp only[h,if_true]<;>lia
   ·simp only[h,if_false]<;>lia
 ·cases hi with
  |none=>simp[sliceBounds,HT.Ba]
  |some i =>
   simp only[sliceBounds,HT.Ba,Option.getD_none,show(1:Int) > 0 by decide,if_true];by_cases h:i<0
   ·simp only[h,if_true]<;>lia
   ·simp only[h,if_false]<;>lia
theorem QT(its:List Value)(lo hi:Option Int):slicePick its.toArray lo hi none=((its.drop (HT.Ba its.length 0 lo)).take (HT.Ba its.length its.length hi-HT.Ba its.length 0 lo)).toArray:=by
 obtain⟨h1,h2,h3⟩:=Sa lo hi its.toArray.size;unfold slicePick;rw[h1,h2,h3];simp only[sliceRange_one,pick_run,List.size_toArray]<;>rfl
def jP(K:PySem.W.Frag):V→Option Int→Option Int→Hp→VK→Prop:=fun x lo hi H Q=>∃a xs,x=.ref a∧BI K H a xs∧∀p,H p=none→Q (.ref p) (upd H p (.lst (Ih xs lo hi)))
theorem TY:SW X (jP X.K):=by
 intro pins s σ H x v vl vu lo hi sl Q I rx hs pl pu h;obtain⟨a,xs,rfl,hx,q⟩:=h;cases rx;obtain⟨its,r,ht,hz⟩:=I.list hx;have hlen:=r.length;refine⟨"list",_,slot_list_getitem.lookup,ht.isList.typeIs,?_⟩;refine wpAny_getItem_list_slice ht.isList hs pl pu .none (by simp) ?_ (by rw[List.size_toArray]<;>lia);rw[QT,←hlen];refine⟨.ref s.heap.objs.size,_,I.laid (t':=s.toks) (o:=.lst (Ih xs lo hi)) (fun b ob q=>aI _ q) (aJ _) ?_,rfl,q _ (I.A7.fresh (aJ _))⟩;exact⟨aH (KO xs lo hi) hz,_,0,(r.drop (HT.Ba xs.length 0 lo)).take (HT.Ba xs.length xs.length hi-HT.Ba xs.length 0 lo),Heap.get?_push_size _ rfl⟩
theorem CL:Fp X (.builtin "len") (fun xs H Q=>∃p ys,xs=[.ref p]∧(BI X.K H p ys∨CS X.K H p ys)∧Q (.int ys.length) H):=by
 intro pins s σ H xs us Q I r h;obtain⟨p,ys,rfl,hq,q⟩:=h;obtain⟨u,rfl,rx⟩:=vals1 r;cases rx;have hn:=Ks;rcases hq with hq|hq
 ·obtain⟨its,r',pl,hz⟩:=I.list hq;have hlen:=r'.length;exact Calls.call_len_list pl.isList (by simp only[List.size_toArray]<;>lia) ⟨.int ys.length,H,I.tok _,⟨s.toks+1,by rw[List.size_toArray,hlen]⟩,q⟩
 ·obtain⟨its,r',pl,hz⟩:=I.tuple hq;have hlen:=r'.length;exact len_tuple pl (by simp only[List.size_toArray]<;>lia) ⟨.int ys.length,H,I.tok _,⟨s.toks+1,by rw[List.size_toArray,hlen]⟩,q⟩
theorem Se:Fp X (.builtin "len") (fun xs H Q=>∃z,xs=[.str z]∧z.length≤sizeLine∧Q (.int z.length) H):=by
 intro pins s σ H xs us Q I r h;obtain⟨z,rfl,hz,q⟩:=h;obtain⟨u,rfl,t,rfl⟩:=vals1 r;have hn:=Ks;exact len_str (by lia) ⟨.int z.length,H,I.tok _,⟨_,rfl⟩,q⟩
theorem MD:Fp X (.type "list") (fun xs H Q=>∃p ys,xs=[.ref p]∧(BI X.K H p ys∨CS X.K H p ys)∧∀l,H l=none→Q (.ref l) (upd H l (.lst ys))):=by
 intro pins s σ H xs us Q I r h;obtain⟨p,ys,rfl,hq,q⟩:=h;obtain⟨u,rfl,rx⟩:=vals1 r;cases rx;have fin:∀(its:List Value),Vals ys its→ys.length≤sizeLine→∀(h':Heap) (c':Nat),(∀b o',s.heap.get? b=some o'→h'.get? b=some o') →
   h'.get? s.heap.objs.size=some { cls:=.type "list",dict:=none,data:=.seq its.toArray c',slots:=#[]}→EP X pins σ Q (.ref s.heap.objs.size) {s with heap:=h'}:=fun its r' hz h' c' kp e =>
  ⟨.ref s.heap.objs.size,_,I.laid (t':=s.toks) kp (aJ _) (show C2 X.prog X.w _ h' _ (.lst ys) from⟨hz,its,c',r',e⟩),rfl,q _ (I.A7.fresh (aJ _))⟩
 rcases hq with hq|hq
 ·obtain⟨its,r',pl,hz⟩:=I.list hq;have hlen:=r'.length;obtain⟨o,ho,hc,n,hd⟩:=pl.isList;exact call_list_seq p (.inl rfl) ho hc hd (fun h' c' kp e=>fin its r' hz h' c' kp e) (by simp only[List.size_toArray]<;>lia)
 ·obtain⟨its,r',pl,hz⟩:=I.tuple hq;have hlen:=r'.length;obtain⟨o,ho,hc,n,hd⟩:=pl;exact call_list_seq p (.inr rfl) ho hc hd (fun h' c' kp e=>fin its r' hz h' c' kp e) (by simp only[List.size_toArray]<;>lia)
def fW(K:PySem.W.Frag)(T:String)(x:V)(H:Hp):Prop:=match x with
 |.str _=>T = "str"
 |.int _=>T = "int"
 |.ref p=>(T = "list" ∧ ∃xs,BI K H p xs)∨(T = "tuple" ∧ ∃o,K.lookup p=some o∧o.cls=.type "tuple" ∧ o.dict=none) ∨
   (T = "dict" ∧((∃kvs,H p=some (.dK kvs))∨∃kvs,H p=some (.dT kvs)))∨(T = "set" ∧ ∃S n,H p=some (.set S n))
 |_=>False
theorem WQ{pins:List (Addr×Obj)}{σ:St}{H:Hp}{s:Shared}{T:String}{x:V}{v:Value}(I:Inv X pins σ H s)(r:RelV x v)(ty:fW X.K T x H) :
  s.TypeIs v T∧∀a,v=.ref a→∃ob,s.heap.get? a=some ob∧ob.dict=none:=by
 cases x with
 |str z =>
  obtain⟨t,rfl⟩:=r;cases (show T = "str" from ty);exact⟨typeIs_str s z t,fun _ e=>nomatch e⟩
 |int i =>
  obtain⟨t,rfl⟩:=r;cases (show T = "int" from ty);exact⟨typeIs_int s i t,fun _ e=>nomatch e⟩
 |ref p =>
  cases r;rcases ty with ⟨rfl,xs,hq⟩|⟨rfl,o,hk,hc,hd⟩|⟨rfl,hk⟩|⟨rfl,S,n,hk⟩
  ·obtain⟨its,_,pl,_⟩:=I.list hq;refine⟨pl.isList.typeIs,fun a e=>?_⟩;cases e;obtain⟨o,n,e,c,hd,_⟩:=pl;exact⟨o,e,hd⟩
  ·refine⟨⟨o,I.FQ p o hk,hc⟩,fun a e=>?_⟩;cases e;exact⟨o,I.FQ _ o hk,hd⟩
  ·have z:∃o,s.heap.get? p=some o∧o.ExactDict:=by
    rcases hk with ⟨kvs,hk⟩|⟨kvs,hk⟩
    ·obtain⟨_,_,_,_,o,_,_,e,ex,_⟩:=I.A7 p _ hk;exact⟨o,e,ex⟩
    ·obtain⟨_,_,_,_,o,_,_,e,ex,_⟩:=I.A7 p _ hk;exact⟨o,e,ex⟩
   obtain⟨o,e,ex⟩:=z;refine⟨⟨o,e,ex.1⟩,fun a e2=>?_⟩;cases e2;exact⟨o,e,ex.2.1⟩
  ·obtain⟨o,_,_,_,e,ex,_⟩:=I.A7 p _ hk;refine⟨⟨o,e,ex.1⟩,fun a e2=>?_⟩;cases e2;exact⟨o,e,ex.2.1⟩
 |_=>exact False.elim ty
def Xu(K:PySem.W.Frag)(T:String)(r:V→List V→Hp→VK→Prop)(to:TE):TE:=fun σ H Q=>to σ H fun x H1=>fW K T x H1∧r x [] H1 Q
def XE(K:PySem.W.Frag)(T:String)(r:V→List V→Hp→VK→Prop)(to:TE)(t:TA):TE:=fun σ H Q=>to σ H fun x H1=>fW K T x H1∧t σ H1 fun xs H2=>r x xs H2 Q
variable{o e:Expr}{es:List Expr}{to:TE}{t:TA}{name:Str}{apos cpos:Pos}{T id:String}{r:V→List V→Hp→VK→Prop}
theorem Qr(pa:PlainAttrs T)(slot:Slot T name id)(hty:typeOf (.builtin id)=pure (.type "method_descriptor"))(hm:SR X id r)(ho:PE X o to)
 (hbase:attributeBase o name X.env (eval o X.env)=eval o X.env:=by rfl)(hline:(apos.endLine==cpos.line)=true:=by rfl):PE X (.Call (.Attribute o name apos) [] [] cpos) (Xu X.K T r to):=by
 intro pins s σ H Q I h;refine wpAny_Call_method0_late hbase hline (BD (ho pins s σ H _ I h) fun v s1 ⟨x,H1,I1,r1,ty,q1⟩=>?_);obtain⟨h1,h2⟩:=WQ I1 r1 ty;exact⟨T,id,pa,slot,hty,h1,h2,Calls.callWith_builtin rfl (PySem.evalArgs_none (hm pins s1 σ H1 x [] v [] Q I1 r1 .nil q1))⟩
theorem Fl(pa:PlainAttrs T)(slot:Slot T name id)(hty:typeOf (.builtin id)=pure (.type "method_descriptor"))(hm:SR X id r)(ho:PE X o to)(ha:PA X (e::es) t)
 (hbase:attributeBase o name X.env (eval o X.env)=eval o X.env:=by rfl)
 (hfew:((backTo cpos (starEach (e::es) X.env)).all (fun x=>!x.1)&&(backToKw cpos (keywordEach [] X.env)).all (fun x=>x.1.isSome)
   && decide ((e::es).length+([]:List Keyword).length+(if([]:List Keyword).isEmpty then 0 else 1)<30))=true:=by rfl)
 (hline:(apos.endLine==cpos.line)=true:=by rfl)(hs:starEach (e::es) X.env=(false,eval e X.env)::starEach es X.env:=by rfl)(hplain:(backTo cpos (starEach es X.env)).any (·.1)=false:=by rfl) :
  PE X (.Call (.Attribute o name apos) (e::es) [] cpos) (XE X.K T r to t):=by
 intro pins s σ H Q I h;refine wpAny_Call_method_late hbase hfew hline rfl (BD (ho pins s σ H _ I h) fun v s1 ⟨x,H1,I1,r1,ty,q1⟩=>?_);obtain⟨h1,h2⟩:=WQ I1 r1 ty;refine⟨T,id,pa,slot,hty,h1,h2,?_⟩;have hA:=ha cpos pins s1 σ H1 _ I1 q1;rw[hs]at hA ⊢;refine Calls.callWith_builtin (by show(false||(backTo cpos (starEach es X.env)).any (·.1))=false;rw[hplain]<;>rfl) (Calls.evalArgs_plain ?_);exact BD hA fun us s2 ⟨vs,H2,I2,r2,q2⟩=>hm pins s2 σ H2 x vs v us Q I2 r1 r2 q2
end
def WH(X:Cx)(id:String)(r:V→List V→Hp→VK→Prop):Prop :=
 ∀(pins:List (Addr×Obj)) (s:Shared) (σ:St) (H:Hp) (x:V) (xs:List V) (v:Value) (us:List Value) (Q:VK),Inv X pins σ H s→RelV x v→Vals xs us→r x xs H Q →
  wpAny (model X.prog X.w) X.A (call (.builtin id) (v::us)) (EP X pins σ Q) X.xe s
theorem Vals.one:∀ {x:V} {us:List Value},Vals [x] us→∃u,us=[u]∧RelV x u
 |_,_,.cons r .nil=>⟨_,rfl,r⟩
theorem Vals.two:∀ {x y:V} {us:List Value},Vals [x,y] us→∃u v,us=[u,v]∧RelV x u∧RelV y v
 |_,_,_,.cons r (.cons q .nil)=>⟨_,_,rfl,r,q⟩
theorem Vals.zero:∀ {us:List Value},Vals [] us→us=[]
 |_,.nil=>rfl
theorem Vals.dropLast{xs:List V}{us:List Value}(h:Vals xs us):Vals xs.dropLast us.dropLast:=by
 induction h with
 |nil=>exact .nil
 |cons r t ih =>
  cases t with
  |nil=>exact .nil
  |cons q t'=>exact .cons r ih
theorem Vals.eraseIdx:∀ {xs:List V} {us:List Value} (i:Nat),Vals xs us→Vals (xs.eraseIdx i) (us.eraseIdx i)
 |_,_,_,.nil=>.nil
 |_,_,0,.cons _ t=>t
 |_,_,i+1,.cons r t=>.cons r (Vals.eraseIdx i t)
theorem Vals.rep{xs:List V}{us:List Value}(h:Vals xs us):∀k:Nat,Vals (List.replicate k xs).flatten (List.replicate k us).flatten
 |0=>.nil
 |k+1=>by
  rw[List.replicate_succ,List.replicate_succ,List.flatten_cons,List.flatten_cons];exact Vals.append h (Vals.rep h k)
theorem VW{α:Type}(l:List α):l.eraseIdx (l.length-1)=l.dropLast:=by
 induction l with
 |nil=>rfl
 |cons a r ih =>
  cases r with
  |nil=>rfl
  |cons b r =>
   have e:(a::b::r).length-1=((b::r).length-1)+1:=by
    have h1:(a::b::r).length=r.length+2:=rfl;have h2:(b::r).length=r.length+1:=rfl
    lia
   rw[e,List.eraseIdx_cons_succ,ih]
   all_goals rfl
theorem QE{α:Type}:∀(l:List α) (i:Nat),(l.eraseIdx i).length≤l.length
 |[],_=>aJ _
 |_::_,0=>Nat.le_succ _
 |_::r,i+1=>Nat.succ_le_succ (QE r i)
theorem foldl_rep(its:List Value):∀(k:Nat) (acc:List Value),
  List.foldl (fun x1 x2=>x1++x2) acc.toArray (List.replicate k its.toArray)=(acc++(List.replicate k its).flatten).toArray
 |0,acc=>by simp
 |k+1,acc=>by
  have e:acc.toArray++its.toArray=(acc++its).toArray:=by simp
  have e2:(acc++its)++(List.replicate k its).flatten=acc++(List.replicate (k+1) its).flatten:=by
   rw[List.replicate_succ,List.flatten_cons,List.append_assoc]
  rw[←e2,←foldl_rep its k (acc++its),←e,List.replicate_succ,List.foldl_cons]
section
variable{X:Cx}{pins:List (Addr×Obj)}{σ:St}{H:Hp}{s:Shared}{l:Addr}{xs ys:List V}
theorem Inv.SQ{its its':List Value}{n:Nat}{f:Array Value→Array Value}{t':Nat}(I:Inv X pins σ H s)(hH:H l=some (.lst xs))
 (e:s.heap.get? l=some { cls:=.type "list",data:=.seq its.toArray n})(hf:f its.toArray=its'.toArray)(hv:Vals ys its')(hz:ys.length≤sizeLine) :
  Inv X pins σ (upd H l (.lst ys)) {s with heap:=s.heap.update l (Obj.mapSeq f),toks:=t'}:=by
 have q:=PySem.IsL.update e f;rw[hf]at q;refine I.write (x:=l) (e:=l) (by rw[hH];exact trivial) (.inl rfl) (fun b' u hb hu=>(Heap.get?_update_other s.heap (Obj.mapSeq f) (Ne.symm hb)).trans hu) ⟨_,q⟩ ?_;exact⟨hz,its',_,hv,q⟩
theorem Inv.dB{its:List Value}{t':Nat}(I:Inv X pins σ H s)(hv:Vals ys its)(hz:ys.length≤sizeLine) :
  Inv X pins σ (upd H s.heap.objs.size (.lst ys)) {s with heap:=s.heap.push { cls:=.type "list",data:=.seq its.toArray},toks:=t'} :=
 I.laid (fun _ _ q=>aI _ q) (aJ _) ⟨hz,its,0,hv,Heap.get?_push_size _ rfl⟩
theorem Inv.fresh(I:Inv X pins σ H s):H s.heap.objs.size=none:=I.A7.fresh (aJ _)
theorem Inv.L7(I:Inv X pins σ H s)(hH:H l=some (.lst xs)):xs.length≤sizeLine∧∃(its:List Value) (n:Nat),Vals xs its∧xs.length=its.length∧s.heap.get? l=some { cls:=.type "list",data:=.seq its.toArray n}:=by
 obtain⟨z,its,n,r,e⟩:=I.A7 l _ hH;exact⟨z,its,n,r,r.length,e⟩
theorem YG{n:Nat}(h:n≤sizeLine):Builtin.List.listTooLong n=false:=by
 unfold Builtin.List.listTooLong;exact af (by lia)
end
section
variable{X:Cx}
def UH:V→List V→Hp→VK→Prop:=fun x vs H Q=>∃l xs y,x=.ref l∧vs=[y]∧H l=some (.lst xs)∧xs.length<sizeLine∧Q .BM (upd H l (.lst (xs++[y])))
theorem Ge:WH X "list.append" UH:=by
 intro pins s σ H x vs v us Q I rx rv h;obtain⟨l,xs,y,rfl,rfl,hH,hz,q⟩:=h;cases rx;obtain⟨u,rfl,ru⟩:=rv.one;obtain⟨z,its,n,r,hl,e⟩:=I.L7 hH;refine call_meets F.slot_list_append ⟨_,e,rfl⟩ F.entry_list_append (F.args_list_append_2 _ _) (PySem.list_append l its.toArray n u (by rw[List.size_toArray];lia)) ⟨e,?_⟩;refine⟨.BM,_,I.SQ (its':=its++[u]) hH e (by simp) (r.append (.cons ru .nil)) ?_,rfl,q⟩;rw[List.length_append,List.length_singleton]
 lia
def jW:V→List V→Hp→VK→Prop:=fun x vs H Q=>∃l xs y,x=.ref l∧vs=[]∧H l=some (.lst xs)∧xs[xs.length-1]? = some y∧Q y (upd H l (.lst xs.dropLast))
theorem gA:WH X "list.pop" jW:=by
 intro pins s σ H x vs v us Q I rx rv h;obtain⟨l,xs,y,rfl,rfl,hH,hy,q⟩:=h;cases rx;have hus:=rv.zero;subst hus;obtain⟨z,its,n,r,hl,e⟩:=I.L7 hH;obtain⟨u,hu,ru⟩:=r.get hy;have hy':its.toArray[its.toArray.size-1]? = some u:=by
  show its.toArray[its.length-1]? = some u;rw[←Array.getElem?_toList,←hl];exact hu
 refine call_meets F.slot_list_pop ⟨_,e,rfl⟩ F.entry_list_pop (F.args_list_pop_1 _) (MeetsSeq.list_pop_last l its.toArray n u hy' (by rw[List.size_toArray];lia)) ⟨e,?_⟩;refine⟨y,_,I.SQ (its':=its.dropLast) hH e ?_ r.dropLast ?_,ru,q⟩
 ·show its.toArray.eraseIdxIfInBounds (its.toArray.size-1)=its.dropLast.toArray;rw[List.size_toArray,List.eraseIdxIfInBounds_toArray,VW]
 ·rw[List.length_dropLast]
  lia
def Vp:V→List V→Hp→VK→Prop:=fun x vs H Q=>∃l xs i k y,x=.ref l∧vs=[.int i]∧H l=some (.lst xs)∧-(2^63)≤i∧i<2^63∧seqIndex? i xs.length=some k∧xs[k]? = some y∧Q y (upd H l (.lst (xs.eraseIdx k)))
theorem YZ:WH X "list.pop" Vp:=by
 intro pins s σ H x vs v us Q I rx rv h;obtain⟨l,xs,i,k,y,rfl,rfl,hH,h1,h2,hk,hy,q⟩:=h;cases rx;obtain⟨u,rfl,ru⟩:=rv.one;obtain⟨t,rfl⟩:=ru;obtain⟨z,its,n,r,hl,e⟩:=I.L7 hH;obtain⟨w,hw,rw'⟩:=r.get hy;refine call_meets F.slot_list_pop ⟨_,e,rfl⟩ F.entry_list_pop (F.args_list_pop_2 _ _)
  (MeetsSeq.list_pop_at l its.toArray n i t k w (fitsIndex_both h1 h2) (by rw[List.size_toArray,←hl];exact hk) (by rw[←Array.getElem?_toList];exact hw) (by rw[List.size_toArray];lia)) ⟨e,?_⟩
 refine⟨y,_,I.SQ (its':=its.eraseIdx k) hH e ?_ (r.eraseIdx k) ?_,rw',q⟩
 ·show its.toArray.eraseIdxIfInBounds k=(its.eraseIdx k).toArray;rw[List.eraseIdxIfInBounds_toArray]
 ·have:=QE xs k
  lia
def Sl:V→List V→Hp→VK→Prop:=fun x vs H Q=>∃l xs,x=.ref l∧vs=[]∧H l=some (.lst xs)∧Q .BM (upd H l (.lst []))
theorem RU:WH X "list.clear" Sl:=by
 intro pins s σ H x vs v us Q I rx rv h;obtain⟨l,xs,rfl,rfl,hH,q⟩:=h;cases rx;have hus:=rv.zero;subst hus;obtain⟨z,its,n,r,hl,e⟩:=I.L7 hH;refine call_meets F.slot_list_clear ⟨_,e,rfl⟩ F.entry_list_clear (F.args_list_clear_1 _) (AutoSeq1.list_clear_list_0 l its.toArray n (by rw[List.size_toArray];lia)) ⟨e,?_⟩;exact⟨.BM,_,I.SQ (its':=[]) (ys:=[]) hH e rfl .nil (bK _),rfl,q⟩
def ja:R2:=fun x y H Q=>∃l b xs zs,x=.ref l∧y=.ref b∧H l=some (.lst xs)∧H b=some (.lst zs)∧xs.length+zs.length≤sizeLine∧∀p,H p=none→Q (.ref p) (upd H p (.lst (xs++zs)))
theorem fv:Cm X (binaryOp .Add) ja:=by
 intro pins s σ H x y v u Q I rx ry h;obtain⟨l,b,xs,zs,rfl,rfl,hH,hB,hz,q⟩:=h;cases rx;cases ry;obtain⟨z,its,n,r,hl,e⟩:=I.L7 hH;obtain⟨z2,its2,n2,r2,hl2,e2⟩:=I.L7 hB;refine PySem.P.add_list e e2 ?_ (by rw[List.size_toArray,List.size_toArray];lia);have ea:its.toArray++its2.toArray=(its++its2).toArray:=by simp
 rw[ea];exact⟨.ref _,_,I.dB (t':=s.toks) (r.append r2) (by rw[List.length_append];lia),rfl,q _ I.fresh⟩
def i4:R2:=fun x y H Q=>∃l k xs,x=.ref l∧y=.int k∧H l=some (.lst xs)∧-(2^63)≤k∧k<2^63∧xs.length*k.toNat≤sizeLine ∧
 ∀p,H p=none→Q (.ref p) (upd H p (.lst (List.replicate k.toNat xs).flatten))
theorem len_rep{α:Type}(xs:List α)(k:Nat):(List.replicate k xs).flatten.length=k*xs.length:=by
 induction k with
 |zero=>simp
 |succ k ih=>rw[List.replicate_succ,List.flatten_cons,List.length_append,ih,Nat.succ_mul,Nat.add_comm]
theorem cq:Cm X (binaryOp .Mult) i4:=by
 intro pins s σ H x y v u Q I rx ry h;obtain⟨l,k,xs,rfl,rfl,hH,h1,h2,hz,q⟩:=h;cases rx;obtain⟨t,rfl⟩:=ry;obtain⟨z,its,n,r,hl,e⟩:=I.L7 hH;have hlen:its.toArray.size*k.toNat≤sizeLine:=by rw[List.size_toArray,←hl];exact hz
 have hcap:¬its.toArray.size*k.toNat > (2^63-1) / 8:=by
  have:(sizeLine:Nat)≤(2^63-1) / 8:=by decide
  lia
 have hfit:¬(!Builtin.List.listFitsIndex k)=true:=by
  rw[fitsIndex_both h1 h2];exact aO
 have hlong:¬Builtin.List.listTooLong (its.toArray.size*k.toNat)=true:=by
  rw[YG hlen];exact aO
 have hnew:List.foldl (fun x1 x2=>x1++x2) #[] (List.replicate (if its.toArray.isEmpty=true then 0 else k.toNat) its.toArray)=(List.replicate k.toNat its).flatten.toArray:=by
  have f0:∀m:Nat,List.foldl (fun x1 x2=>x1++x2) #[] (List.replicate m its.toArray)=(List.replicate m its).flatten.toArray:=fun m=>by
   have:=foldl_rep its m [];rw[List.nil_append]at this;exact this
  rw[f0];cases its with
  |nil=>simp
  |cons a r'=>rw[if_neg (by simp)]
 refine wpAny_binaryOp_repeat_ref (T := "list") (U := "int") (by decide) ⟨_,e,rfl⟩ (fun s'=>typeIs_int s' k t) noFill_list_mul F.fills_int_mul F.slot_int_rmul repeat_list F.slot_int_index.lookup
  (call_meets F.slot_int_rmul (typeIs_int s k t) F.entry_int_rmul (F.args_int_rmul_2 _ _) (int___rmul___int_list k t l its.toArray n)
   ⟨e,rfl,⟨_,e,rfl⟩,call_meets F.slot_list_mul ⟨_,e,rfl⟩ F.entry_list_mul (F.args_list_mul_2 _ _) (AutoListH.list___mul___list_int_3 l its.toArray n k t hfit hcap hlong) ⟨e,?_⟩⟩)
 rw[hnew];exact⟨.ref _,_,I.dB (t':=s.toks) (r.rep k.toNat) (by rw[len_rep,Nat.mul_comm];exact hz),rfl,q _ I.fresh⟩
end
end L2
namespace Att
open PySem PySem.W PySem.Calls PyProof.Rows
theorem OP{P:Params}{h:Heap}:∀(ns:List Int) (vs:List Value),WellAll P h vs (ns.map WData.int)→IntsAre vs ns:=by
 intro ns
 induction ns with
 |nil =>
  intro vs w;rw[List.map_nil]at w;cases w;exact .nil
 |cons n ns ih =>
  intro vs w;rw[List.map_cons]at w;cases w with
  |cons a b =>
   cases a;exact .cons _ _ (ih _ b)
theorem W8{l:OpenLaw}{n:Nat}(hn:l.most=some n){P:Params}{h:Heap}{args:List WData}{vals:List Value}
 (hpre:l.row.toRowW.claim.pre args=true)(hwl:WellAll P h vals args) :
  ∃a vs ns,vals=[Value.ref a]∧args=[WData.list (ns.map WData.int)]∧h.get? a=some { cls:=.type "list",data:=.seq vs.toArray}∧IntsAre vs ns∧ns.length≤n:=by
 have hsh:WShape.hasAll [] args [.list .int]=true:=(pre_splitW hpre).1;have hc:l.pre.holds [] { args:=args}=true:=(pre_splitW hpre).2;obtain⟨d,r,rfl,h1,h2⟩:=hasAllW_cons hsh;obtain rfl:=hasAllW_nil h2;obtain⟨xs,rfl,h3⟩:=hasW_list h1;obtain⟨ns,rfl⟩:=items_int h3;have hlen:ns.length≤n:=by
  unfold OpenLaw.pre at hc;have h4:(WTm.not (.lt (.lit (.int (n:Int))) (.len (.arg 0)))).holds [] { args:=[.list (ns.map .int)]}=true:=by
   have h4:=(holds_andW hc).1;rw[hn]at h4;exact h4
  have h5:=condW_of h4 (w_not (w_lt w_lit (w_len_list (w_arg rfl))));rw[List.length_map]at h5;refine Nat.le_of_not_lt fun q=>?_;have q':(n:Int)<((ns.length:Nat):Int):=by lia
  first
   |(rw[decide_eq_true q']at h5;exact absurd h5 (by decide))
   |(simp at h5;lia)
 cases hwl with
 |cons w1 w2 =>
  cases w2;cases w1 with
  |list ho hall=>exact⟨_,_,ns,rfl,rfl,ho,OP ns _ hall,hlen⟩
theorem WS(l:OpenLaw)(args:List WData):l.row.toRowW.claim.post args (.bool true) args=true :=
 postW_of (r:=l.row.toRowW) (X:=(true==true))
  (show WShape.has [] (.bool true) .bool=true by first|rfl|decide|simp[WShape.has,WShape.arms,WShape.armsAll])
  (show(WTm.eq .res (.lit (.bool true))).value [] { args:=args,res:=some (.bool true),after:=args}=some (.bool (true==true)) from w_eq_bool (w_res rfl) w_lit) rfl
end Att
namespace L2
open PySem PySem.Spec PyProof.Rows
theorem QJ:∀ {vs:List Value} {ns:List Int},IntsAre vs ns→Vals (ns.map V.int) vs
 |_,_,.nil=>.nil
 |_,_,.cons n t h=>.cons ⟨t,rfl⟩ (QJ h)
def YS(H:Hp):Prop:=∀b,H b=none∨∃o xs,H b=some (.E1 o (.lst xs))
end L2
namespace L2
open PySem PySem.Spec PyProof.Rows
abbrev Ao:F0:=fun _ _ _ _ _ _=>False
abbrev E0:XK:=fun _ _ _=>False
theorem ZI{X:Cx}:Passes Ao X E0:=fun _ _ _ _ _ _ _ h=>h.elim
structure Lo(K:PySem.W.Frag)(x qual:Str)(st:Stmt)(f:Addr)(fd:FuncData):Prop where
 ex:∃(oc:Value) (od:Option Addr) (kV doc pm:Value) (an:Option Addr) (cdv ct:Value) (osl:Array (Option Value)),
  fd=PySem.W.fnOf x qual (Fs st) (B5 st) (AN st) .none kV doc pm an cdv ct∧K.lookup f=some ⟨oc,od,.func fd,osl⟩∧PySem.W.codeIn K cdv qual=true
 kp:PySem.W.keepIn K (.ref f)=true
section
variable{P:Program}{w:World}{K:PySem.W.Frag}{mg:Str→Option Value}{base:Heap}
theorem Lo.ok{x qual:Str}{st:Stmt}{f:Addr}{fd:FuncData}{N ps:List Str}{k:Nat}{sp:Sp}(F:Lo K x qual st f fd)(S:Al N ps (AN st))(len:∀vs H Q E,sp vs H Q E→vs.length=ps.length)
 (hbody:∀(cdv:Value) (A:Around) (outer:List Env) (s:Shared) (H:Hp) (vs:List V) (Q:VK) (E:XK),Bf k (A.deeper (envOfC qual (AN st) s.heap.objs.size f cdv))→sp vs H Q E →
   ∃t,Gj (Bq Ao P w K mg base N qual (AN st) f cdv A outer s H E).DV (B5 st) t∧t { nx:=fun _ H'=>Q .BM H',rt:=Q} (start N vs) H):Ab P w K mg base Ao (k+1) f fd ps sp:=by
 obtain⟨oc,od,kV,doc,pm,an,cdv,ct,osl,rfl,lk,hcd⟩:=F.ex;refine Yr lk hcd S len fun A outer s H vs Q E hr hsp=>?_;obtain⟨t,h,q⟩:=hbody cdv A outer s H vs Q E hr hsp;exact⟨t,h.DV,q⟩
theorem Lo.binds{x qual:Str}{st:Stmt}{f:Addr}{fd:FuncData}{ps:List Str}(F:Lo K x qual st f fd)
 (h:∀(kV doc pm:Value) (an:Option Addr) (cdv ct:Value) (us:List Value),us.length=ps.length→bindArgs (PySem.W.fnOf x qual (Fs st) (B5 st) (AN st) .none kV doc pm an cdv ct) ⟨us,[]⟩=pure (ps.zip us)):Binds K fd ps []:=by
 obtain⟨oc,od,kV,doc,pm,an,cdv,ct,osl,rfl,lk,hcd⟩:=F.ex;exact .all (h kV doc pm an cdv ct)
theorem Vl{x qual:Str}{st:Stmt}{f:Addr}{oc:Value}{od an:Option Addr}{osl:Array (Option Value)}{kV doc pm cdv ct:Value}(l:K.lookup f=some ⟨oc,od,.func (PySem.W.fnOf x qual (Fs st) (B5 st) (AN st) .none kV doc pm an cdv ct),osl⟩)
 (c:PySem.W.codeIn K cdv qual=true)(k:PySem.W.keepIn K (.ref f)=true):Lo K x qual st f (PySem.W.fnOf x qual (Fs st) (B5 st) (AN st) .none kV doc pm an cdv ct):=⟨⟨oc,od,kV,doc,pm,an,cdv,ct,osl,rfl,l,c⟩,k⟩
end
theorem QL{n:Nat}(h:n≤1000):n<sizeLine:=Nat.lt_of_le_of_lt h (by decide)
section
variable{X:Cx}
theorem pv(i:Nat){x:Str}{pos:Pos}(hN:X.N[i]? = some x:=by rfl)(hv:dZ X.env.scope x:=by first|exact Or.inl rfl|exact Or.inr (Or.inl rfl)|exact Or.inr (Or.inr rfl))(hd:(x==("__debug__" : Str))=false:=by decide)
 (hcd:(x==("__classdict__" : Str))=false:=by decide):PE X (.Name x pos) (D0 i):=SS hN hv hd hcd
end
theorem VX{A B:Prop}(h:B):if false=true then A else B:=by
 rw[if_neg aO];exact h
theorem LB{A B:Prop}(h:A):if true=true then A else B:=by
 rw[if_pos rfl];exact h
theorem FE{c A B:Prop}[Decidable c](h1:c→A)(h2:¬c→B):if c then A else B:=by
 by_cases h:c
 ·rw[if_pos h];exact h1 h
 ·rw[if_neg h];exact h2 h
def AU(H H':Hp):Prop:=∀b o,H b=some o→H' b=some o
theorem AU.refl(H:Hp):AU H H:=fun _ _ h=>h
theorem AU.trans{H H1 H2:Hp}(a:AU H H1)(b:AU H1 H2):AU H H2:=fun c o h=>b c o (a c o h)
theorem AU.seq{K:PySem.W.Frag}{H H':Hp}{a:Addr}{xs:List V}(e:AU H H')(h:BI K H a xs):BI K H' a xs:=by
 rcases h with (h|⟨o,h⟩)|h
 ·exact .inl (.inl (e _ _ h))
 ·exact .inl (.inr ⟨o,e _ _ h⟩)
 ·exact .inr h
section
variable{X:Cx}
def N4(i j:Int):Prop:=∃m:Nat,m≤1000000∧i.natAbs<2^m∧j.natAbs<2^m
theorem N4.ok{i j:Int}(h:N4 i j):IntMulOk i j:=by
 obtain⟨m,hm,h1,h2⟩:=h;exact IntMulOk.of_le (intBits_le_iff.mpr h1) (intBits_le_iff.mpr h2) (by lia)
theorem Kr:Cm X (binaryOp .Mult) (rI (fun i j=>Sg i j∨N4 i j) fun i j=>.int (i*j)) :=
 Tq fun _ _ _ _ _ _ _ hc q=>mul_int q (hc.elim (fun z=>z.ok) fun z=>z.ok)
def gm(_i j:Int):Prop:=j≠0∧∃m:Nat,m≤9000∧j.natAbs<2^m
theorem JQ:Cm X (binaryOp .FloorDiv) (rI gm fun i j=>.int (i.fdiv j)):=Tq fun i j _ _ _ _ _ hc q=>by
 obtain⟨h0,m,hm,h1⟩:=hc;refine floordiv_int h0 q (.inl (PyProof.noPylong_of_log2 ?_));have hne:j.natAbs≠0:=by lia
 have:j.natAbs.log2<m:=(Nat.log2_lt hne).mpr h1
 lia
mutual
def Br(K:PySem.W.Frag)(H:Hp):PyData→V→Prop
 |.none,v=>v=.BM
 |.bool b,v=>v=.bl b
 |.int i,v=>v=.int i
 |.str x,v=>v=.str x
 |.tuple ds,v=>∃a xs,v=.ref a∧CS K H a xs∧Fm K H ds xs
 |.list ds,v=>∃a xs,v=.ref a∧BI K H a xs∧Fm K H ds xs
 |.dict _,_=>False
def Fm(K:PySem.W.Frag)(H:Hp):List PyData→List V→Prop
 |[],xs=>xs=[]
 |d::ds,xs=>∃x r,xs=x::r∧Br K H d x∧Fm K H ds r
end
theorem AU.tup{K:PySem.W.Frag}{H H':Hp}{a:Addr}{xs:List V}(e:AU H H')(h:CS K H a xs):CS K H' a xs:=by
 rcases h with (h|⟨o,h⟩)|h
 ·exact .inl (.inl (e _ _ h))
 ·exact .inl (.inr ⟨o,e _ _ h⟩)
 ·exact .inr h
mutual
theorem Br.reads{pins:List (Addr×Obj)}{σ:St}{H:Hp}{s:Shared}(I:Inv X pins σ H s):∀ {d:PyData} {v:V} {u:Value},Br X.K H d v→RelV v u→∃as,Reads s.heap u d as
 |.none,_,u,h,r=>by rw[Br]at h;subst h;cases r;exact⟨_,.none⟩
 |.bool b,_,u,h,r=>by rw[Br]at h;subst h;cases r;exact⟨_,.bool b⟩
 |.int i,_,u,h,r=>by rw[Br]at h;subst h;obtain⟨t,rfl⟩:=r;exact⟨_,.int i t⟩
 |.str x,_,u,h,r=>by rw[Br]at h;subst h;obtain⟨t,rfl⟩:=r;exact⟨_,.str x t⟩
 |.tuple ds,_,u,h,r=>by
  rw[Br]at h;obtain⟨a,xs,e1,h1,h2⟩:=h;subst e1;cases r;obtain⟨its,rv,⟨o,e,c,n,hd⟩,_⟩:=I.tuple h1;obtain⟨as,ra⟩:=Fm.reads I h2 rv;exact⟨_,.tuple e c hd (by simpa using ra)⟩
 |.list ds,_,u,h,r=>by
  rw[Br]at h;obtain⟨a,xs,e1,h1,h2⟩:=h;subst e1;cases r;obtain⟨its,rv,⟨o,n,e,c,_,hd⟩,_⟩:=I.list h1;obtain⟨as,ra⟩:=Fm.reads I h2 rv;exact⟨_,.list e c hd (by simpa using ra)⟩
 |.dict _,_,_,h,_=>by rw[Br]at h;exact h.elim
theorem Fm.reads{pins:List (Addr×Obj)}{σ:St}{H:Hp}{s:Shared}(I:Inv X pins σ H s):∀ {ds:List PyData} {xs:List V} {us:List Value},Fm X.K H ds xs→Vals xs us→∃as,ReadsAll s.heap us ds as
 |[],_,us,h,r=>by rw[Fm]at h;subst h;cases r;exact⟨_,.nil⟩
 |_::_,_,us,h,r=>by
  rw[Fm]at h;obtain⟨x,q,e1,h1,h2⟩:=h;subst e1;cases r with
  |cons r1 r2 =>
   obtain⟨as,ra⟩:=Br.reads I h1 r1;obtain⟨bs,rb⟩:=Fm.reads I h2 r2;exact⟨_,.cons ra rb⟩
end
def YW(K:PySem.W.Frag)(neg:Bool):R2:=fun x y H Q=>∃d e,Br K H d x∧Br K H e y∧SeqAt.shaped d=true∧SeqAt.shaped e=true∧Q (.bl (if neg then !PyData.eqv d e else PyData.eqv d e)) H
theorem cZ(hu:X.A.units+64<cLine):Cm X (compareOp .Eq) (YW X.K false):=by
 intro pins s σ H x y v u Q I rx ry h;obtain⟨d,e,h1,h2,s1,s2,q⟩:=h;obtain⟨as,ra⟩:=Br.reads I h1 rx;obtain⟨bs,rb⟩:=Br.reads I h2 ry;exact eq_dataH ra rb s1 s2 hu ⟨.bl _,H,I,rfl,q⟩
theorem eO(hu:X.A.units+64<cLine):Cm X (compareOp .NotEq) (YW X.K true):=by
 intro pins s σ H x y v u Q I rx ry h;obtain⟨d,e,h1,h2,s1,s2,q⟩:=h;obtain⟨as,ra⟩:=Br.reads I h1 rx;obtain⟨bs,rb⟩:=Br.reads I h2 ry;exact ne_dataH ra rb s1 s2 hu ⟨.bl _,H,I,rfl,q⟩
end
def Jh(X:Cx)(ifs:List Expr)(t:TT):Prop :=
 ∀(pins:List (Addr×Obj)) (s:Shared) (σ:St) (H:Hp) (Q:Bool→Hp→Prop),Inv X pins σ H s→t σ H Q →
  wpAny (model X.prog X.w) X.A (forIn ifs true fun c r=>if r=true then do let ok ←isTrue c X.env (eval c X.env);pure (ForInStep.yield ok) else pure (ForInStep.yield r)) (TP X pins σ Q) X.xe s
def iM:TT:=fun _ H Q=>Q true H
theorem bt{X:Cx}:Jh X [] iM:=fun _ _ σ H _ I h=>wpAny_tests_nil ⟨H,I,h⟩
theorem bT{X:Cx}{c:Expr}{t:TT}(h:PT X c t):Jh X [c] t:=by
 intro pins s σ H Q I hw;simp only[List.forIn_cons,List.forIn_nil,if_true];refine aC (aC (BD (h pins s σ H Q I hw) fun b s1 q=>?_));exact aD (aD q)
def D3(N XN:List Str)(sc xsc:Scope):List (Option Nat)→Nat→Bool
 |[],_=>true
 |none::r,i=>D3 N XN sc xsc r (i+1)
 |some j::r,i=>(match N[i]?,XN[j]? with
   |some n,some m=>n==m&&sc.names.lookup n==some .free&&xsc.names.lookup n==some .cell
   |_,_=>false)&&D3 N XN sc xsc r (i+1)
theorem Le{N XN:List Str}{sc xsc:Scope}:∀ {fr:List (Option Nat)} {k:Nat},D3 N XN sc xsc fr k=true→∀ {i j:Nat},fr[i]? = some (some j) →
  ∃n,N[k+i]? = some n∧XN[j]? = some n∧sc.names.lookup n=some .free∧xsc.names.lookup n=some .cell
 |[],_,_,i,j,e=>by simp at e
 |none::r,k,h,0,j,e=>by simp at e
 |none::r,k,h,i+1,j,e=>by
  have q:=Le (fr:=r) (k:=k+1) h (i:=i) (j:=j) (by simpa using e);have z:k+(i+1)=k+1+i:=by lia
  rw[z];exact q
 |some j'::r,k,h,0,j,e=>by
  have e':j'=j:=by simpa using e
  subst e';rw[D3,Bool.and_eq_true]at h;have h1:=h.1;split at h1
  ·rename_i n m hn hm;simp only[Bool.and_eq_true,beq_iff_eq]at h1;obtain⟨⟨rfl,h2⟩,h3⟩:=h1;exact⟨n,by simpa using hn,hm,h2,h3⟩
  ·cases h1
 |some j'::r,k,h,i+1,j,e=>by
  rw[D3,Bool.and_eq_true]at h;have q:=Le (fr:=r) (k:=k+1) h.2 (i:=i) (j:=j) (by simpa using e);have z:k+(i+1)=k+1+i:=by lia
  rw[z];exact q
def carry(fr:List (Option Nat))(σ:St):St:=fr.map fun o=>match o with
 |some j=>(σ[j]?).join
 |none=>none
theorem Pq{fr:List (Option Nat)}{σ:St}{i:Nat}{v:V}(h:(carry fr σ)[i]? = some (some v)):∃j,fr[i]? = some (some j)∧σ[j]? = some (some v):=by
 unfold carry at h;rw[List.getElem?_map]at h;cases e:fr[i]? with
 |none=>rw[e]at h;cases h
 |some o =>
  rw[e]at h;cases o with
  |none=>simp at h
  |some j =>
   refine⟨j,rfl,?_⟩;simp only[Option.map_some,Option.some.injEq]at h;cases q:σ[j]? with
   |none=>rw[q]at h;cases h
   |some w=>rw[q]at h;simp at h;rw[h]
theorem Fx{env:Env}:∀(names:List (Str×NameKind)) (cs:List (Str×Addr)),(∀x∈names,x.2=NameKind.free→∃c,env.cells.lookup x.1=some c)→(∀x c,cs.lookup x=some c→env.cells.lookup x=some c) →
  ∃cl,(forIn names cs (fun(x:Str×NameKind) (r:List (Str×Addr))=>do if(x.2==NameKind.free)=true then do let a ←cellOf env x.1;pure (ForInStep.yield ((x.1,a)::r)) else pure (ForInStep.yield r)):Sem (List (Str×Addr)))=pure cl ∧
   (∀x c,cl.lookup x=some c→env.cells.lookup x=some c)∧(∀x,(∃c,cs.lookup x=some c)→∃c,cl.lookup x=some c)∧∀x∈names,x.2=NameKind.free→∃c,cl.lookup x.1=some c
 |[],cs,_,h2=>⟨cs,rfl,h2,fun _ q=>q,fun _ z=>(by cases z)⟩
 |(n,k)::r,cs,h1,h2=>by
  rw[List.forIn_cons];by_cases hk:(k==NameKind.free)=true
  ·obtain⟨c,hc⟩:=h1 (n,k) List.mem_cons_self (by simpa using hk);have h2':∀x c',((n,c)::cs).lookup x=some c'→env.cells.lookup x=some c':=fun x c' e=>by
    rw[List.lookup_cons]at e;cases hx:x==n with
    |true=>rw[hx]at e;have:=beq_iff_eq.mp hx;subst this;simp at e;rw[←e];exact hc
    |false=>rw[hx]at e;exact h2 x c' e
   obtain⟨cl,q1,q2,q3,q4⟩:=Fx r ((n,c)::cs) (fun x hx=>h1 x (aV _ hx)) h2';have hn:∃c',cl.lookup n=some c':=q3 n ⟨c,by rw[List.lookup_cons,beq_self_eq_true]⟩;refine⟨cl,?_,q2,fun x hx=>?_,fun x hx hf=>?_⟩
   ·simp only[hk,if_true];unfold cellOf;rw[hc];exact q1
   ·refine q3 x ?_;rw[List.lookup_cons];cases hxn:x==n with
    |true=>exact⟨c,rfl⟩
    |false=>exact hx
   ·rcases aL.mp hx with e|hx
    ·subst e;exact hn
    ·exact q4 x hx hf
  ·obtain⟨cl,q1,q2,q3,q4⟩:=Fx r cs (fun x hx=>h1 x (aV _ hx)) h2;refine⟨cl,?_,q2,q3,fun x hx hf=>?_⟩
   ·simp only[hk];exact q1
   ·rcases aL.mp hx with e|hx
    ·subst e;exact absurd (by simpa using hf) hk
    ·exact q4 x hx hf
def Ai(X:Cx)(scope:Scope)(cl:List (Str×Addr))(N:List Str)(C:Addr)(s₀:Shared)(H₀:Hp)(fp:List Addr):Cx where
 prog:=X.prog
 w:=X.w
 K:=X.K
 mg:=X.mg
 base:=X.base
 A:=X.A
 N:=N
 s₀:=s₀
 H₀:=H₀
 env:=compEnvC scope cl C X.env
 outer:=X.stack
 stack:=X.stack
 ex:=fp
 fn:=fun _=>false
 calm:=X.calm
 pn:=[]
 xe:=fun _ _=>False
def Hw(wi:TI)(fr:List (Option Nat))(ix:Nat)(tif:TT)(te:TE):TE:=fun σ H Q=>wi σ H fun J H1=>∀D,H1 D=none→∃W:Nat→Nat→List V→Hp→Prop,(∃m,W 0 m [] (upd H1 D (.lst []))) ∧
 ∀i m ys H,W i m ys H→H D=some (.lst ys)∧((J.stop i H∧Q (.ref D) H)∨(J.go i H∧ys.length<sizeLine∧∀x H',J.Gb i H x H' →
  tif ((carry fr σ).set ix (some x)) H' fun b H2=>if b=true then te ((carry fr σ).set ix (some x)) H2 fun y H3=>H3 D=some (.lst ys)∧∃m',m'<m∧W (i+1) m' (ys++[y]) (upd H3 D (.lst (ys++[y])))
   else ∃m',m'<m∧W (i+1) m' ys H2))
structure EH(scope:Scope)(N:List Str)(x:Str)(ix:Nat):Prop where
 kind:scope.kind=.function
 cell:∀y∈scope.names,y.2≠.cell
 names:∀y∈scope.names,y.2=.local→scope.names.lookup y.1=some .local
 free:∀y∈scope.names,y.2=.free→scope.names.lookup y.1=some .free
 loc:scope.names.lookup x=some .local
 nd:N.Nodup
 at_:N[ix]? = some x
theorem lookup_mem{names:List (Str×NameKind)}{n:Str}{k:NameKind}:names.lookup n=some k→(n,k)∈names:=by
 induction names with
 |nil=>intro h;cases h
 |cons y r ih =>
  intro h;obtain⟨m,j⟩:=y;rw[List.lookup_cons]at h;cases e:n==m with
  |true=>rw[e]at h;have:=beq_iff_eq.mp e;subst this;simp at h;subst h;exact List.mem_cons_self
  |false=>rw[e]at h;exact aV _ (ih h)
theorem MS{scope:Scope}{env:Env}(hc:∀y∈scope.names,y.2≠.cell){n:Str}(h:(relabel scope env).names.lookup n=some .cell∨(relabel scope env).names.lookup n=some .free):∃k,(n,k)∈scope.names∧k=NameKind.free:=by
 have key:∀k',(relabel scope env).names.lookup n=some k'→(k'=.cell∨k'=.free)→∃k,(n,k)∈scope.names∧k=NameKind.free:=fun k' h hk=>by
  have hm:=lookup_mem h;unfold relabel at hm;obtain⟨⟨m,k⟩,hy,e⟩:=aR.mp hm;dsimp only at e;by_cases hcond:(k==NameKind.free&&env.scope.kind==.function&&env.kindOf m==some .cell)=true
  ·rw[if_pos hcond]at e
   injection e with e1 e2
   subst e1;refine⟨k,hy,?_⟩;simp only[Bool.and_eq_true,beq_iff_eq]at hcond;exact hcond.1.1
  ·rw[if_neg hcond]at e
   injection e with e1 e2
   subst e1 e2;rcases hk with rfl|rfl
   ·exact absurd rfl (hc _ hy)
   ·exact⟨_,hy,rfl⟩
 rcases h with h|h
 ·exact key _ h (.inl rfl)
 ·exact key _ h (.inr rfl)
section
variable{X:Cx}{elt iter:Expr}{x:Str}{px pos:Pos}{ifs:List Expr}{scope:Scope}{wi:TI}{fr:List (Option Nat)}{ix:Nat}{tif:TT}{te:TE}{N:List Str}
theorem Jq{prog:Program}{w:World}{A:Around}{R:Result→Shared→Prop}{s:Shared}{elt target iter:Expr}{ifs:List Expr}{scope:Scope}{pos:Pos}{it acc:Value}{env:Env}(I:Nat→Shared→Prop)
 (turn:∀n s,I n s→wpAny (model prog w) A (pyNext it) (fun r s₁=>match r with
   |none=>R (.ok .next) s₁
   |some v=>wpAny (model prog w) A (letOwnedTupleGo target it v>>=fun _=>assign target env v) (fun _ s₂ =>
     wpAny (model prog w) A (forIn ifs true fun c r=>if r=true then do let ok ←isTrue c env (eval c env);pure (ForInStep.yield ok) else pure (ForInStep.yield r)) (fun ok s₃ =>
      if ok=true then wpAny (model prog w) A (eval elt env) (fun x s₄ =>
       wpAny (model prog w) A (call (.builtin "list.append") [acc,x]) (fun _ s₅=>∃m,m<n∧I m s₅) (notedBy (model prog w) A env fun e s'=>R (.error e) s') s₄) (notedBy (model prog w) A env fun e s'=>R (.error e) s') s₃
      else ∃m,m<n∧I m s₃) (notedBy (model prog w) A env fun e s'=>R (.error e) s') s₂) (notedBy (model prog w) A env fun e s'=>R (.error e) s') s₁) (notedBy (model prog w) A env fun e s'=>R (.error e) s') s)
 (n:Nat)(h:I n s) :
  codeAny (model prog w) A (.compLoop (.ListComp elt [⟨target,iter,ifs,0⟩] scope pos) 0 it acc env) R s:=by
 refine codeAny_loop rfl I (fun n s hI=>?_) n h;show wpAny _ A ((compTurn (.ListComp elt [⟨target,iter,ifs,0⟩] scope pos) 0 it acc env).onRaise (fun x=>do noteFrame x env;theTreesLotGoes x)) _ _ s;refine wpAny_noted ?_;rw[compTurn_list];refine aC (aZ (aC (aK (turn n s hI) (fun r s₁ h₁=>?_) fun _ _ h'=>h')));cases r with
 |none=>exact aD h₁
 |some v =>
  show wpAny (model prog w) A (letOwnedTupleGo target it v>>=fun _=>assign target env v>>=_) _ _ s₁;rw[←bind_assoc];refine aC (aK h₁ (fun _ s₂ h₂=>aC (aK h₂ (fun ok s₃ h₃=>?_) fun _ _ h'=>h')) fun _ _ h'=>h');cases ok with
  |false=>exact aD ⟨rfl,h₃⟩
  |true =>
   exact aC (aC (aK h₃ (fun x s₄ h₄=>aC (aK h₄ (fun _ s₅ h₅=>aD (aD ⟨rfl,h₅⟩)) fun _ _ h'=>h')) fun _ _ h'=>h'))
theorem TK{pins:List (Addr×Obj)}{σ:St}{H2:Hp}{s2:Shared}{Q:VK}{it:Addr}{fp:List Addr}{tn:Nat→Heap→Prop}{J:It}{cl:List (Str×Addr)}{E:Value→Shared→Prop}{RR:Value→Addr→Result→Shared→Prop}
 (S:EH scope N x ix)(hcalm:X.calm=true){tgE:Expr}{g:TG}(Rv:St→Prop)(r0:Rv (carry fr σ))(hpg:∀C,PG (Ai X scope cl N C s2 H2 fp) tgE g)(hfr:D3 N X.N scope X.env.scope fr 0=true)(hlen:fr.length=N.length)
 (hif:∀cl C s₀ H₀ fp,Jh (Ai X scope cl N C s₀ H₀ fp) ifs tif)(he:∀cl C s₀ H₀ fp,PE (Ai X scope cl N C s₀ H₀ fp) elt te)
 (I2:Inv X pins σ H2 s2)(T:Turn X.prog X.w X.K tgE J fp it tn)(st2:tn 0 s2.heap)(f2:∀b∈fp,Hn X pins H2 b)
 (c1:∀x c,cl.lookup x=some c→X.env.cells.lookup x=some c)(c2:∀x∈scope.names,x.2=NameKind.free→∃c,cl.lookup x.1=some c)
 (W:∀D,H2 D=none→∃W:Nat→Nat→List V→Hp→Prop,(∃m,W 0 m [] (upd H2 D (.lst []))) ∧
   ∀i m ys H,W i m ys H→H D=some (.lst ys)∧((J.stop i H∧Q (.ref D) H)∨(J.go i H∧ys.length<sizeLine∧∀x H',J.Gb i H x H'→∀σ',Rv σ'→g x σ' H' fun σ6 H6=>Rv σ6 ∧
    tif σ6 H6 fun b H2=>if b=true then te σ6 H2 fun y H3=>H3 D=some (.lst ys)∧∃m',m'<m∧W (i+1) m' (ys++[y]) (upd H3 D (.lst (ys++[y])))
     else ∃m',m'<m∧W (i+1) m' ys H2)))
 (fin:∀(D C:Addr) (s':Shared) (H':Hp) m,s'.heap.Ns C m→Q (.ref D) H'→(∀h',Heap.SameBut C s'.heap h'→Inv X pins σ H' { s' with heap:=h'})→C≠D→(∀b o,s2.heap.get? b=some o→b≠C)→H' C=none→s2.heap.objs.size≤C→RR (.ref D) C (.ok .next) s') :
  wpAny (model X.prog X.w) X.A (newList []) (fun acc s₃=>wpAny (model X.prog X.w) X.A (newFunctionEnv scope X.env.globals cl [] X.env.qual none .none (some X.env)) (fun cenv s₄ =>
   codeAny (model X.prog X.w) X.A (.compStart (.ListComp elt [⟨tgE,iter,ifs,0⟩] scope pos) 0 (.ref it) acc {cenv with scope:=relabel scope X.env}) (RR acc cenv.locals) s₄) E s₃) E s2:=by
 refine ax (wpAny_newFunctionEnv S.cell (by intro y hy;simp at hy) (fun h₁ hns₁ hsb₁=>?_) S.kind);dsimp only at hns₁ hsb₁ ⊢;generalize hHp:s2.heap.push { cls:=.type "list",dict:=none,data:=.seq ([]:List Value).toArray}=Hq at hns₁ hsb₁ ⊢;have hC:Hq.objs.size=s2.heap.objs.size+1:=by rw[←hHp,Heap.size_push]
 have hDC:s2.heap.objs.size≠Hq.objs.size:=by rw[hC];exact aQ (Nat.lt_succ_self _)
 have below:∀b,b<s2.heap.objs.size→b≠Hq.objs.size∧b≠s2.heap.objs.size:=fun b hb=>⟨by rw[hC];exact aQ (Nat.lt_succ_of_lt hb),Nat.ne_of_lt hb⟩;have old:∀b o,s2.heap.get? b=some o→h₁.get? b=some o:=fun b o e=>hsb₁.extBut b o (below b (aF e)).1 (aI _ (hHp ▸ aI _ e));have hacc:h₁.get? s2.heap.objs.size=some { cls:=.type "list",data:=.seq ([]:List Value).toArray}:=hsb₁.extBut _ _ hDC (aI _ (hHp ▸ Heap.get?_push_size _ rfl));have hD2:H2 s2.heap.objs.size=none:=I2.A7.fresh (aJ _);have hC2:H2 Hq.objs.size=none:=I2.A7.fresh (by rw[hC];exact Nat.le_succ _);have fpo:∀b∈fp,b<s2.heap.objs.size:=fun b hb=>by
  obtain⟨o,e,_⟩:=T.obj _ _ st2 b hb;exact aF e
 obtain⟨W,⟨m0,w0⟩,turn⟩:=W s2.heap.objs.size hD2;have ok:(Ai X scope cl N Hq.objs.size s2 H2 fp).Ok:=by
  refine⟨I2.ok.mod,S.kind,I2.ok.glob,I2.ok.blt,by show s2.heap.objs.size≤Hq.objs.size;rw[hC];exact Nat.le_succ _,?_,?_,?_,fun _=>I2.ok.hd hcalm,I2.ok.frames,.inl rfl,?_,I2.bs,Nat.le_trans I2.ok.MB I2.sz,?_,?_,I2.stack,I2.Ky,I2.kt⟩
  ·exact fun a b c h1 h2=>I2.ok.inj a b c (c1 _ _ h1) (c1 _ _ h2)
  ·intro y hy;obtain⟨k,hm,rfl⟩:=MS S.cell hy;exact c2 _ hm rfl
  ·intro y c hf;cases hf
  ·intro b hb;refine⟨(below b (fpo b hb)).1,fun y c e=>?_⟩;obtain⟨_,_,_,_,f5,_⟩:=f2 b hb;exact f5 y c (c1 _ _ e)
  ·intro b o e hb;obtain⟨_,_,_,f4,_,_⟩:=f2 b hb;rcases f4 with z|z
   ·exact I2.ok.Nt b o e z
   ·exact absurd (aG (aF e) (aH I2.ok.MB z)) (Nat.lt_irrefl _)
  ·intro b hb hs;obtain⟨_,f1,f3,_⟩:=f2 b hb;rcases aL.mp (I2.Kt b hs) with z|z
   ·exact f1 z
   ·exact f3 z
 have I4:Inv (Ai X scope cl N Hq.objs.size s2 H2 fp) [] (carry fr σ) (upd H2 s2.heap.objs.size (.lst [])) {s2 with heap:=h₁,toks:=s2.toks+([]:List (Str×Value)).length}:=by
  refine⟨ok,rfl,I2.bare,Un.laid old (aJ _) hD2,⟨_,hns₁,fun i y v h1 h2 h3=>?_⟩,fun y c e=>?_,?_,fun y c e=>?_,fun p hp=>(by cases hp),I2.A7.laid old (aJ _) ⟨bK _,[],0,.nil,hacc⟩,?_⟩
  ·obtain⟨j,e1,e2⟩:=Pq h2;obtain⟨n,n1,n2,n3,n4⟩:=Le hfr e1;rw[Nat.zero_add]at n1;have:y=n:=by
    have h1':N[i]? = some y:=h1;rw[h1']at n1;exact aU n1
   subst this;obtain⟨m,hn,hl⟩:=I2.loc;obtain⟨u,ru,lk⟩:=hl j y v n2 e2 (.inr (.inl n4));refine⟨u,ru,?_⟩;obtain⟨c,hc⟩:=c2 _ (lookup_mem n3) rfl;rcases lk with ⟨k1,_⟩|⟨_,c',hc',hcell⟩
   ·have k1':X.env.scope.names.lookup y=some .local:=k1;rw[n4]at k1';cases k1'
   ·have:=c1 _ _ hc;rw[hc']at this;cases this;refine .inr ⟨?_,c,hc,hcell.keeps old⟩;rcases h3 with z|z|z
    ·obtain⟨k,hm⟩:∃k,(y,k)∈scope.names∧k=NameKind.local:=by
      have hm:=lookup_mem z;have hm':(y,NameKind.local)∈(relabel scope X.env).names:=hm;unfold relabel at hm';obtain⟨⟨m',k⟩,hy,e⟩:=aR.mp hm';dsimp only at e;by_cases hcond:(k==NameKind.free&&X.env.scope.kind==.function&&X.env.kindOf m'==some .cell)=true
      ·rw[if_pos hcond]at e;injection e with _ e2';cases e2'
      ·rw[if_neg hcond]at e;injection e with e1' e2';subst e1' e2';exact⟨_,hy,rfl⟩
     obtain⟨hm,rfl⟩:=hm;have:=S.names _ hm rfl;rw[n3]at this;cases this
    ·exact .inl z
    ·exact .inr z
  ·obtain⟨v,z⟩:=I2.cell y c (c1 _ _ e);exact⟨v,z.keeps old⟩
  ·show upd H2 s2.heap.objs.size _ Hq.objs.size=none;rw[AW (Ne.symm hDC)];exact hC2
  ·obtain⟨v,o,ho,_⟩:=I2.cell y c (c1 _ _ e);rw[AW (below c (aF ho)).2];exact I2.Er y c (c1 _ _ e)
  ·show(carry fr σ).length=N.length;unfold carry;rw[List.length_map];exact hlen
 have fpX:∀(p:List (Addr×Obj)) (H':Hp),(∀q∈p,q.1∈fp→False)→(∀b∈fp,H' b=none)→∀b∈fp,Hn (Ai X scope cl N Hq.objs.size s2 H2 fp) p H' b:=fun p H' hp hn b hb=>by
  obtain⟨_,f1,f3,f4,f5,_⟩:=f2 b hb;refine⟨hn b hb,(below b (fpo b hb)).1,fun hs=>ok.Np b hb hs,.inl hb,fun y c e=>f5 y c (c1 _ _ e),fun q hq e=>?_⟩;exact hp q hq (e ▸ hb)
 have hxv:(relabel scope X.env).names.lookup x=some .local:=lookup_relabel_local S.loc;have loop:∀s₃:Shared,s₃={s2 with heap:=h₁,toks:=s2.toks+([]:List (Str×Value)).length} →
   codeAny (model X.prog X.w) X.A (.compLoop (.ListComp elt [⟨tgE,iter,ifs,0⟩] scope pos) 0 (.ref it) (.ref s2.heap.objs.size) (compEnvC scope cl Hq.objs.size X.env)) (RR (.ref s2.heap.objs.size) Hq.objs.size) s₃:=by
  rintro s₃ rfl;refine Jq (fun n s'=>∃i ys σ' H',Inv (Ai X scope cl N Hq.objs.size s2 H2 fp) [] σ' H' s'∧Rv σ'∧tn i s'.heap∧(∀b∈fp,H' b=none)∧W i n ys H') ?_ m0
   ⟨0,[],carry fr σ,_,I4,r0,T.keep _ _ _ st2 fun b _ o e=>old b o e,fun b hb=>by rw[AW (below b (fpo b hb)).2];exact(f2 b hb).1,w0⟩
  rintro n s3 ⟨i,ys,σ3,H3,I3,hσ,st3,fr3,w3⟩;obtain⟨hD3,way⟩:=turn i n ys H3 w3;rcases way with ⟨stop,qn⟩|⟨go,hsz,step⟩
  ·refine aK (T.done (Ai X scope cl N Hq.objs.size s2 H2 fp) rfl rfl rfl hcalm i [] s3 σ3 H3 (fun _ _=>False) I3 (fpX [] H3 (fun _ z=>by cases z) fr3) st3 stop) (fun r s4 ⟨hr,I5⟩=>?_) fun _ _ z=>z.elim;subst hr;obtain⟨m,hn,_⟩:=id I5.loc;refine fin _ _ s4 H3 m hn qn (fun h' hs'=>?_) (Ne.symm hDC) (fun b o e=>(below b (aF e)).1) I5.free (by rw[hC];exact Nat.le_succ _);have nC:∀b u,H3 b=some u→b≠Hq.objs.size:=fun b u e z=>by
    have:=I5.free;rw[show(Ai X scope cl N Hq.objs.size s2 H2 fp).env.locals=Hq.objs.size from rfl,←z,e]at this;cases this
   have keepU:Un (Ew X.stack) fp H2 H3 s2.heap h':=by
    have u:=I5.base;refine⟨fun b o e n hb hx=>?_,fun b o e n hb hx=>?_,fun b o e n hx=>u.free b o e n hx,fun b o e hx=>?_,u.EB,u.Eo,u.FR,fun b xs o q e hx=>(hs'.2 b (below b (aF e)).1).trans (u.FT b xs o q e hx)⟩
    ·exact(hs'.2 b (below b (aF e)).1).trans (u.keep b o e n hb hx)
    ·obtain⟨sl,e1⟩:=u.slot b o e n hb hx;exact⟨sl,(hs'.2 b (below b (aF e)).1).trans e1⟩
    ·obtain⟨o',e1⟩:=u.there b o e hx;exact⟨o',(hs'.2 b (below b (aF e)).1).trans e1⟩
   have hok':D6 X.prog X.w H3 h':=fun b u e=>(I5.A7 b u e).Ia (fun c v hc q=>(hs'.2 c (by
    rcases hc with rfl|hc
    ·exact nC _ _ e
    ·exact nC _ _ hc)).trans q) (fun _ q=>q) fun _ _ q=>q
   refine I2.VV (s':={s4 with heap:=h'}) (ch:=fp) I5.os keepU hok' I5.bare fun b hb=>?_;obtain⟨_,f1,_,f4,f5,f6⟩:=f2 b hb;exact⟨f4,f1,f5,f6⟩
  ·refine aK (T.item (Ai X scope cl N Hq.objs.size s2 H2 fp) rfl rfl rfl hcalm i [] s3 σ3 H3 (fun _ _=>False) I3 (fpX [] H3 (fun _ z=>by cases z) fr3) st3 go) (fun r s4 ⟨u,hr,h4⟩=>?_) fun _ _ z=>z.elim;subst hr;show wpAny (model X.prog X.w) X.A (letOwnedTupleGo tgE (.ref it) u>>=fun _=>assign tgE (compEnvC scope cl Hq.objs.size X.env) u) _ _ s4;refine aC (aK h4 (fun _ s5 ⟨xv,H5,I5,r5,y5,st5,fr5⟩=>?_) fun _ _ z=>z.elim);have I5':=I5.pinned (fpX [] H5 (fun _ z=>by cases z) fr5) (T.obj _ _ st5);refine aK (hpg _ _ s5 σ3 H5 xv u _ I5' r5 (step xv H5 y5 σ3 hσ)) (fun _ s6 ⟨σ6,H6,I6,rv6,step5⟩=>?_) fun _ _ z=>z.elim;refine aK (hif _ _ _ _ _ _ s6 _ H6 _ I6 step5) (fun b s7 ⟨H7,I7,q7⟩=>?_) fun _ _ z=>z.elim;have again:∀ {s8:Shared} {H8:Hp} {k:Nat} {zs:List V},Inv (Ai X scope cl N Hq.objs.size s2 H2 fp) ([]++K6 fp s5.heap) σ6 H8 s8→W (i+1) k zs H8→k<n →
     ∃m,m<n∧∃i ys σ' H',Inv (Ai X scope cl N Hq.objs.size s2 H2 fp) [] σ' H' s8∧Rv σ'∧tn i s8.heap∧(∀b∈fp,H' b=none)∧W i m ys H':=fun {s8 H8 k zs} I8 w8 hk=>by
    refine⟨k,hk,i+1,zs,_,H8,I8.JU,rv6,T.keep _ _ _ st5 fun b hb o e=>(I8.pin (b,o) (aP _ (aP _ (Fw hb e)))).1,fun b hb=>?_,w8⟩;obtain⟨o,e,d⟩:=T.obj _ _ st5 b hb;exact(I8.pin (b,o) (aP _ (aP _ (Fw hb e)))).2.1
   cases b with
   |false =>
    rw[if_neg aO]at q7 ⊢;obtain⟨k,hk,w7⟩:=q7;exact again I7 w7 hk
   |true =>
    rw[if_pos rfl]at q7 ⊢;refine aK (he _ _ _ _ _ _ s7 _ H7 _ I7 q7) (fun yv s8 ⟨y,H8,I8,r8,hD8,k,hk,w8⟩=>?_) fun _ _ z=>z.elim;refine aK (Ge (X:=Ai X scope cl N Hq.objs.size s2 H2 fp) _ s8 _ H8 (.ref s2.heap.objs.size) [y] (.ref s2.heap.objs.size) [yv] (fun _ H9=>H9=upd H8 s2.heap.objs.size (.lst (ys++[y]))) I8 rfl (.cons r8 .nil) ⟨_,ys,y,rfl,rfl,hD8,hsz,rfl⟩) (fun _ s9 ⟨_,H9,I9,_,e9⟩=>?_) fun _ _ z=>z.elim;subst e9;exact again I9 w8 hk
 exact codeAny_compStart_list (loop _ rfl) (T.self X.A 0 _ _ _ (T.keep _ _ _ st2 fun b _ o e=>old b o e) (loop _ rfl))
theorem O3{pins:List (Addr×Obj)}{σ:St}{H2:Hp}{s2:Shared}{Q:VK}{it:Addr}{fp:List Addr}{tn:Nat→Heap→Prop}{J:It}{cl:List (Str×Addr)}{E:Value→Shared→Prop}{RR:Value→Addr→Result→Shared→Prop}
 (S:EH scope N x ix)(hcalm:X.calm=true)(hfr:D3 N X.N scope X.env.scope fr 0=true)(hlen:fr.length=N.length)
 (hif:∀cl C s₀ H₀ fp,Jh (Ai X scope cl N C s₀ H₀ fp) ifs tif)(he:∀cl C s₀ H₀ fp,PE (Ai X scope cl N C s₀ H₀ fp) elt te)
 (I2:Inv X pins σ H2 s2)(T:Turn X.prog X.w X.K (.Name x px) J fp it tn)(st2:tn 0 s2.heap)(f2:∀b∈fp,Hn X pins H2 b)
 (c1:∀x c,cl.lookup x=some c→X.env.cells.lookup x=some c)(c2:∀x∈scope.names,x.2=NameKind.free→∃c,cl.lookup x.1=some c)
 (W:∀D,H2 D=none→∃W:Nat→Nat→List V→Hp→Prop,(∃m,W 0 m [] (upd H2 D (.lst []))) ∧
   ∀i m ys H,W i m ys H→H D=some (.lst ys)∧((J.stop i H∧Q (.ref D) H)∨(J.go i H∧ys.length<sizeLine∧∀x H',J.Gb i H x H' →
    tif ((carry fr σ).set ix (some x)) H' fun b H2=>if b=true then te ((carry fr σ).set ix (some x)) H2 fun y H3=>H3 D=some (.lst ys)∧∃m',m'<m∧W (i+1) m' (ys++[y]) (upd H3 D (.lst (ys++[y])))
     else ∃m',m'<m∧W (i+1) m' ys H2)))
 (fin:∀(D C:Addr) (s':Shared) (H':Hp) m,s'.heap.Ns C m→Q (.ref D) H'→(∀h',Heap.SameBut C s'.heap h'→Inv X pins σ H' { s' with heap:=h'})→C≠D→(∀b o,s2.heap.get? b=some o→b≠C)→H' C=none→s2.heap.objs.size≤C→RR (.ref D) C (.ok .next) s') :
  wpAny (model X.prog X.w) X.A (newList []) (fun acc s₃=>wpAny (model X.prog X.w) X.A (newFunctionEnv scope X.env.globals cl [] X.env.qual none .none (some X.env)) (fun cenv s₄ =>
   codeAny (model X.prog X.w) X.A (.compStart (.ListComp elt [⟨.Name x px,iter,ifs,0⟩] scope pos) 0 (.ref it) acc {cenv with scope:=relabel scope X.env}) (RR acc cenv.locals) s₄) E s₃) E s2:=by
 have hxv:(relabel scope X.env).names.lookup x=some .local:=lookup_relabel_local S.loc;refine TK S hcalm (fun σ'=>∀v,σ'.set ix v=(carry fr σ).set ix v) (fun _=>rfl) (fun C=>El (X:=Ai X scope cl N C s2 H2 fp) S.nd S.at_ (.inl hxv) (.inr hxv)) hfr hlen hif he I2 T st2 f2 c1 c2 (fun D hD=>?_) fin;obtain⟨W,w0,st⟩:=W D hD;refine⟨W,w0,fun i m ys H w=>?_⟩;obtain⟨h1,h2|⟨h2,h3,h4⟩⟩:=st i m ys H w
 ·exact⟨h1,.inl h2⟩
 ·refine⟨h1,.inr ⟨h2,h3,fun x H' hy σ' hr=>?_⟩⟩;have:=h4 x H' hy;rw[←hr]at this;exact⟨fun v=>by rw[List.set_set,hr],this⟩
theorem Zb(S:EH scope N x ix)(hcalm:X.calm=true)(hfr:D3 N X.N scope X.env.scope fr 0=true)(hlen:fr.length=N.length)(hfree:∀y∈scope.names,y.2=.free→X.env.scope.names.lookup y.1=some .cell∨X.env.scope.names.lookup y.1=some .free)
 (hi:PI X (.Name x px) iter wi)(hif:∀cl C s₀ H₀ fp,Jh (Ai X scope cl N C s₀ H₀ fp) ifs tif)(he:∀cl C s₀ H₀ fp,PE (Ai X scope cl N C s₀ H₀ fp) elt te)
 (hs:∀x,foldedSetIterable iter X.env x=pure x:=by intro _;rfl):PE X (.ListComp elt [⟨.Name x px,iter,ifs,0⟩] scope pos) (Hw wi fr ix tif te):=by
 intro pins s σ H Q I hw;obtain⟨cl,hclos,c1,_,c2⟩:=Fx (env:=X.env) scope.names [] (fun y hy hf=>I.ok.has y.1 (hfree y hy hf)) (fun y c z=>by cases z);have hclos':closureFor scope X.env=pure cl:=by
  have e:closureFor scope X.env=((forIn scope.names [] (fun(x:Str×NameKind) (r:List (Str×Addr))=>do if(x.2==NameKind.free)=true then do let a ←cellOf X.env x.1;pure (ForInStep.yield ((x.1,a)::r)) else pure (ForInStep.yield r)):Sem (List (Str×Addr)))>>=fun cs=>pure cs):=rfl;rw[e,hclos]
  rfl
 rw[eval_ListComp];refine wpAny_comprehension_free (use:=none) rfl hs hclos' S.kind S.names (BD (hi pins s σ H _ I hw) fun v s1 h1=>BD h1 fun itv s2 h2=>?_);obtain⟨it,fp,tn,J,H2,e,I2,T,st2,f2,W⟩:=h2;subst e;refine O3 (RR:=fun acc C=>compPost (model X.prog X.w) X.A X.xe none (EP X pins σ Q) acc C) S hcalm hfr hlen hif he I2 T st2 f2 c1 c2 W ?_;intro D C s' H' m hn q hI _ _ _ _;exact⟨m,hn,fun h' hs'=>⟨.ref D,H',hI h' hs',rfl,q⟩⟩
theorem VE{i : Nat}{y : Str}{py spos : Pos}(hN : X.N.Nodup)(hy : X.N[i]? = some y)(hly : X.env.scope.names.lookup y = some .local)(S : EH scope N x ix)(hcalm : X.calm = true)(hfr : D3 N X.N scope X.env.scope fr 0 = true)(hlen : fr.length = N.length)
 (hfree : ∀ y∈scope.names,y.2 = .free→X.env.scope.names.lookup y.1 = some .cell∨X.env.scope.names.lookup y.1 = some .free)
 (hi : PI X (.Name x px) iter wi)(hif : ∀ cl C s₀ H₀ fp,Jh (Ai X scope cl N C s₀ H₀ fp) ifs tif)(he : ∀ cl C s₀ H₀ fp,PE (Ai X scope cl N C s₀ H₀ fp) elt te)
 (hsw : swapsWith (.ListComp elt [⟨.Name x px,iter,ifs,0⟩] scope pos) (some (.Name y py)) spos.line X.env = pure true := by rfl)
 (hs : ∀ x,foldedSetIterable iter X.env x = pure x := by intro _; rfl) :
    PS X (.Assign [.Name y py] (.ListComp elt [⟨.Name x px,iter,ifs,0⟩] scope pos) spos) (Jj (Hw wi fr ix tif te) (Fe i)) := by
  intro pins s σ H D I hw
  obtain ⟨cl,hclos,c1,_,c2⟩:=Fx (env:=X.env) scope.names [] (fun y hy hf => I.ok.has y.1 (hfree y hy hf)) (fun y c z => by cases z)
  have hclos' : closureFor scope X.env = pure cl := by
    have e : closureFor scope X.env = ((forIn scope.names [] (fun (x : Str×NameKind) (r : List (Str×Addr)) => do if (x.2 == NameKind.free) = true then do let a ← cellOf X.env x.1; pure (ForInStep.yield ((x.1,a) :: r)) else pure (ForInStep.yield r)) : Sem (List (Str×Addr))) >>= fun cs => pure cs):=rfl
    rw [e,hclos]
    rfl
  rw [exec_Assign_Name_used _ _ _ _ hsw]
  refine aC (aZ (aC ?_))
  show wpAny _ X.A (do let _ ← comprehension (.ListComp elt [⟨.Name x px,iter,ifs,0⟩] scope pos) scope X.env _ (newList []) false (eval iter X.env) (some (assign (.Name y py) X.env))) _ _ s
  refine aC (aK (wpAny_comprehension_free (use:=some (assign (.Name y py) X.env)) (Q:=fun _ s' => SP X pins D .next s') rfl hs hclos' S.kind S.names
    (BD (hi pins s σ H _ I hw) fun v s1 h1 => BD h1 fun itv s2 h2 => ?_)) (fun _ s' hq => aD (aD hq)) fun _ _ e => e)
  obtain ⟨it,fp,tn,J,H2,e,I2,T,st2,f2,W⟩:=h2
  subst e
  refine O3 (Q:=fun x H1 => Fe i x σ H1 D.nx) (RR:=fun acc C => compPost (model X.prog X.w) X.A X.xe (some (assign (.Name y py) X.env)) (fun _ s' => SP X pins D .next s') acc C) S hcalm hfr hlen hif he I2 T st2 f2 c1 c2 W ?_
  intro D' C s' H' m hn q hI hCD hold hfreeC hsz
  have I5 : Inv X pins σ H' s':=hI s'.heap (Heap.SameBut.refl ..)
  refine wpAny_assign_Name (MG I5 hN hy (.inl hly) (v:=.ref D') rfl (fun s'' I6 ⟨a,hsb,ha⟩ => ?_) (.inr hly))
  have hL : C≠X.env.locals:=fun z => by
    obtain ⟨_,⟨o,_,_,e,_⟩,_⟩:=I2.loc
    exact hold _ _ e z.symm
  have hcl : ∀ z c,X.env.cells.lookup z = some c→c≠C:=fun z c e => by
    obtain ⟨_,o,ho,_⟩:=I2.cell z c e
    exact hold _ _ ho
  have hCa : C≠a := by
    rcases ha with z | z
    · rw [z]; exact hL
    · exact Ne.symm (hcl _ _ z)
  refine ⟨m,hn.sameBut hsb hCa,fun h' hs' => ⟨_,H',I6.turned (t':=s''.toks) (it:=C) (fun b o hb e => (hs'.2 b hb).trans e) hfreeC hL (.inr (aH I2.sz hsz)) hcl fun p hp => ?_,q⟩⟩
  obtain ⟨e,_⟩:=I2.pin p hp
  exact hold _ _ e
end
end L2
namespace FM
def gi(a b:Int):Int:=(Int.gcd a b:Int)
theorem Qu(a b:Int):Int.gcd b (a.fmod b)=Int.gcd a b:=by
 have e:a.fmod b=a-b*a.fdiv b:=Int.fmod_def a b;rw[e,Int.gcd_comm a b];exact Int.gcd_sub_mul_left_right b a (a.fdiv b)
theorem Pt(a b:Int)(hb:b≠0):(a.fmod b).natAbs<b.natAbs:=by
 rcases Int.lt_or_gt_of_ne hb with h|h
 ·have h1:-(a.fmod b)=(-a).fmod (-b):=by
   rw[Int.fmod_def,Int.fmod_def,Int.neg_fdiv_neg];have:-b*a.fdiv b=-(b*a.fdiv b):=Int.neg_mul _ _
   lia
  have h2:=Int.fmod_nonneg_of_pos (-a) (show 0 < -b by lia);have h3:=Int.fmod_lt_of_pos (-a) (show 0 < -b by lia)
  lia
 ·have h2:=Int.fmod_nonneg_of_pos a h;have h3:=Int.fmod_lt_of_pos a h
  lia
theorem O2{a b:Int}(hb:b≠0):0<gi a b:=by
 have:0<Int.gcd a b:=Int.gcd_pos_of_ne_zero_right a hb;unfold gi;lia
theorem iR{a b:Int}(hb:b≠0):(gi a b).natAbs≤b.natAbs:=by
 have h:Int.gcd a b ∣ b.natAbs:=by
  have:=Int.gcd_dvd_right a b;exact Int.natAbs_dvd_natAbs.mpr this
 have h2:0<b.natAbs:=by lia
 have:=Nat.le_of_dvd h2 h;unfold gi;lia
def gs(t b:Int):Int:=if b<0 then -gi t b else gi t b
theorem iT{t b:Int}(hb:b≠0):gs t b≠0:=by
 have:=O2 (a:=t) hb;unfold gs;split<;>lia
theorem iW{t b:Int}(hb:b≠0):(gs t b).natAbs≤b.natAbs:=by
 have:=iR (a:=t) hb;unfold gs;split<;>lia
theorem Ip{g x k:Int}(hg:g≠0)(e:x=g*k):x.fdiv g=k:=by
 subst e;exact Int.mul_fdiv_cancel_left k hg
theorem S9(a b:Int):gi a b ∣ a:=Int.gcd_dvd_left a b
theorem Q0(a b:Int):gi a b ∣ b:=Int.gcd_dvd_right a b
theorem XR{t b:Int}(hb:b≠0):t.fdiv (gs t b)=(Rat.divInt t b).num:=by
 have hp:=O2 (a:=t) hb;obtain⟨k,hk⟩:=S9 t b;rw[Rat.num_divInt,Int.gcd_comm b t];show t.fdiv (gs t b)=b.sign*t / gi t b;unfold gs;generalize gi t b=g at hp hk ⊢;rcases Int.lt_or_gt_of_ne hb with h|h
 ·rw[if_pos h,Int.sign_eq_neg_one_of_neg h,Ip (k:=-k) (by lia) (by rw[hk];simp[Int.mul_neg,Int.neg_mul])];have:-1*t=g*(-k):=by rw[hk];simp[Int.mul_neg]
  rw[this,Int.mul_ediv_cancel_left _ (by lia)]
 ·rw[if_neg (by lia),Int.sign_eq_one_of_pos h,Ip (k:=k) (by lia) hk,Int.one_mul,hk,Int.mul_ediv_cancel_left _ (by lia)]
theorem WE{t b:Int}(hb:b≠0):b.fdiv (gs t b)=((Rat.divInt t b).den:Int):=by
 have hp:=O2 (a:=t) hb;obtain⟨k,hk⟩:=Q0 t b;rw[Rat.den_divInt,if_neg hb,Int.gcd_comm b t];have e:(((b.natAbs / Int.gcd t b:Nat)):Int)=(b.natAbs:Int) / gi t b:=by unfold gi;simp
 rw[e];unfold gs;generalize gi t b=g at hp hk ⊢;rcases Int.lt_or_gt_of_ne hb with h|h
 ·rw[if_pos h,Ip (k:=-k) (by lia) (by rw[Int.neg_mul_neg];exact hk)];have:(b.natAbs:Int)=g*(-k):=by rw[Int.mul_neg,←hk];lia
  rw[this,Int.mul_ediv_cancel_left _ (by lia)]
 ·rw[if_neg (by lia),Ip (k:=k) (by lia) hk];have:(b.natAbs:Int)=g*k:=by rw[←hk];lia
  rw[this,Int.mul_ediv_cancel_left _ (by lia)]
theorem KG(a b:Int):(a.fdiv b).natAbs≤a.natAbs:=by
 cases a with
 |ofNat n =>
  cases n with
  |zero =>
   have e:Int.fdiv (.ofNat 0) b=0:=Int.zero_fdiv b;rw[e];exact bK _
  |succ k =>
   cases b with
   |ofNat j=>exact Nat.div_le_self (k+1) j
   |negSucc j=>exact Nat.succ_le_succ (Nat.div_le_self k (j+1))
 |negSucc k =>
  cases b with
  |ofNat j =>
   cases j with
   |zero=>exact bK _
   |succ j=>exact Nat.succ_le_succ (Nat.div_le_self k (j+1))
  |negSucc j=>exact Nat.div_le_self (k+1) (j+1)
theorem fH{t b:Int}(hb:b≠0):(Rat.divInt t b).num.natAbs≤t.natAbs:=by
 rw[←XR hb];exact KG _ _
theorem fE{t b:Int}(hb:b≠0):(Rat.divInt t b).den≤b.natAbs:=by
 have h:=KG b (gs t b);rw[WE hb]at h
 simpa using h
theorem Oo(p:Rat):(p.den:Int)≠0:=by
 have:=p.den_nz
 lia
theorem NQ(p:Rat):Rat.divInt p.num p.den=p:=Rat.num_divInt_den p
theorem XC(p q:Rat):Rat.divInt (p.num*q.den+q.num*p.den) (p.den*q.den)=p+q:=by
 rw[←Rat.divInt_add_divInt _ _ (Oo p) (Oo q),NQ,NQ]
theorem UZ(p q:Rat):(p.den:Int)*q.den≠0:=Int.mul_ne_zero (Oo p) (Oo q)
theorem R9{x y:Int}{m n:Nat}(hx:x.natAbs<2^m)(hy:y.natAbs<2^n):(x*y).natAbs<2^(m+n):=by
 rw[Int.natAbs_mul,Nat.pow_add];exact Nat.mul_lt_mul'' hx hy
theorem cf{x y:Int}{n:Nat}(hx:x.natAbs<2^n)(hy:y.natAbs<2^n):(x+y).natAbs<2^(n+1):=by
 rw[Nat.pow_succ];lia
theorem Ku{x:Nat}{m n:Nat}(hx:x<2^m)(h:m≤n):x<2^n:=aG hx (Nat.pow_le_pow_right (by decide) h)
def Fits(p:Rat)(n:Nat):Prop:=p.num.natAbs<2^n∧p.den<2^n
theorem Fits.mono{p:Rat}{m n:Nat}(h:Fits p m)(l:m≤n:=by decide):Fits p n:=⟨Ku h.1 l,Ku h.2 l⟩
theorem Fits.d{p:Rat}{n:Nat}(h:Fits p n):((p.den:Int)).natAbs<2^n:=by simpa using h.2
theorem Fits.W0{t b:Int}{n:Nat}(hb:b≠0)(h1:t.natAbs<2^n)(h2:b.natAbs<2^n):Fits (Rat.divInt t b) n :=
 ⟨Nat.lt_of_le_of_lt (fH hb) h1,Nat.lt_of_le_of_lt (fE hb) h2⟩
theorem Z6{p q:Rat}{m n:Nat}(h:Fits p m)(k:Fits q n):(p.num*q.den+q.num*p.den).natAbs<2^(m+n+1) :=
 cf (R9 h.1 k.d) (by have:=R9 k.1 h.d;rwa [Nat.add_comm n m]at this)
theorem dd{p q:Rat}{m n:Nat}(h:Fits p m)(k:Fits q n):((p.den:Int)*q.den).natAbs<2^(m+n):=R9 h.d k.d
theorem Fits.sum{p q:Rat}{m n:Nat}(h:Fits p m)(k:Fits q n):Fits (p+q) (m+n+1):=by
 rw[←XC];exact .W0 (UZ p q) (Z6 h k) (Ku (dd h k) (by lia))
end FM
namespace FM
theorem TU(a b:Int):Int.gcd (if a<0 then -a else a) (if b<0 then -b else b)=Int.gcd a b:=by
 split<;>split<;>simp[Int.gcd_neg,Int.neg_gcd]
theorem abs_nonneg(a:Int):0≤(if a<0 then -a else a):=by split<;>lia
theorem Vd{g a b:Int}(h:Int.gcd g 0=Int.gcd a b)(h0:0≤g):g=gi a b:=by
 unfold gi;rw[←h,Int.gcd_zero_right]
 lia
theorem fmod_nonneg{g l:Int}(hl:l≠0)(h:0≤l):0≤g.fmod l:=Int.fmod_nonneg_of_pos g (by lia)
end FM
namespace L2
open PySem PySem.Spec PyProof.Rows
structure Fn(K:PySem.W.Frag)(mg:Str→Option Value)(x:Str)(st:Stmt)(ps:List Str)(f:Addr)(fd:FuncData):Prop where
 F:Lo K x x st f fd
 b:Binds K fd ps []
 m:mg x=some (.ref f)
section
variable{X:Cx}{k:Nat}{f:Addr}{fd:FuncData}{ps:List Str}{sp:Sp}{x:Str}{st:Stmt}{p pos:Pos}{e:Expr}{es:List Expr}{t:TA}
theorem EN(T:Fn X.K X.mg x st ps f fd)(G:Ab X.prog X.w X.K X.mg X.base Ao k f fd ps sp)(hr:Bf k X.A)(hg:Gl X x)(ha:PA X (e::es) t)
 (hdb:(x==("__debug__" : Str))=false:=by decide)(he:starEach (e::es) X.env=(false,eval e X.env)::starEach es X.env:=by rfl)(hpl:(backTo pos (starEach es X.env)).any (·.1)=false:=by rfl) :
  PE X (.Call (.Name x p) (e::es) [] pos) (LJ sp [] E0 t):=UP G hr hg T.m T.F.kp T.b .nil ZI ha hdb he hpl
end
theorem YV{t u:TS}{D:Ends}{σ:St}{H:Hp}(P:St→Hp→Prop)(h1:∀nx:St→Hp→Prop,(∀σ' H',P σ' H'→nx σ' H')→t {D with nx:=nx} σ H)(h2:∀σ' H',P σ' H'→u D σ' H'):Pe t u D σ H:=h1 _ h2
theorem ia:2≤sizeLine:=by decide
theorem BP{H:Hp}{p:Addr}(h:H p=none)(o:HO):AU H (upd H p o):=fun b u q=>by rw[AW (BG q h)];exact q
def SameBut(l:Addr)(H H':Hp):Prop:=∀b o,b≠l→H b=some o→H' b=some o
theorem SameBut.of{l:Addr}{H H':Hp}(h:AU H H'):SameBut l H H':=fun b o _ q=>h b o q
theorem SameBut.upd{l:Addr}{H:Hp}{o:HO}:SameBut l H (upd H l o):=fun b u n q=>by rw[AW n];exact q
def Dh(p:Rat):List V:=[.int p.num,.int (p.den:Int)]
def Rt(K:PySem.W.Frag)(H:Hp)(p:Rat)(v:V):Prop:=∃a,v=.ref a∧CS K H a (Dh p)
theorem Rt.of{K:PySem.W.Frag}{H:Hp}{p:Rat}{a:Addr}(h:H a=some (.tup (Dh p))):Rt K H p (.ref a):=⟨a,rfl,.of h⟩
def Bt(p:Rat):PyData:=.tuple [.int p.num,.int (p.den:Int)]
theorem Xz{i j:Int}{m n:Nat}(h1:i.natAbs<2^m)(h2:j.natAbs<2^n)(h:m+n≤1000000):Sg i j∨N4 i j :=
 .inr ⟨m+n,h,FM.Ku h1 (Nat.le_add_right _ _),FM.Ku h2 (Nat.le_add_left _ _)⟩
theorem C2.get{P:Program}{w:World}{H:Hp}{h:Heap}{a:Addr}{o:HO}(x:C2 P w H h a o):∃u,h.get? a=some u:=by
 cases o with
 |lst xs=>obtain⟨_,_,_,_,e⟩:=x;exact⟨_,e⟩
 |tup xs=>obtain⟨_,_,_,o,e,_⟩:=x;exact⟨o,e⟩
 |dK kvs=>obtain⟨_,_,_,_,o,_,_,e,_⟩:=x;exact⟨o,e⟩
 |dT kvs=>obtain⟨_,_,_,_,o,_,_,e,_⟩:=x;exact⟨o,e⟩
 |set S n=>obtain⟨o,_,_,_,e,_⟩:=x;exact⟨o,e⟩
 |ins C dx fs=>obtain⟨_,_,_,e,_⟩:=x;exact⟨_,e⟩
 |own y=>obtain⟨o,e⟩:=x;exact⟨o,e⟩
 |xd fs=>obtain⟨_,⟨o,_,_,e,_⟩,_⟩:=x;exact⟨o,e⟩
 |Y1 lo hi=>obtain⟨_,_,_,e⟩:=x;exact⟨_,e⟩
 |E1 ob u=>obtain⟨e,_⟩:=x;exact⟨_,e⟩
 |Kg ps=>exact⟨_,(show h.get? a=some _ from x)⟩
 |met f y=>exact⟨_,(show h.get? a=some _ from x)⟩
 |ext φ=>obtain⟨_,⟨o,e⟩,_⟩:=x;exact⟨o,e⟩
structure U3(P:Program)(w:World)(outer:List Env)(H:Hp)(s:Shared)(ea:Addr)(cls a0:Value)(H':Hp)(s':Shared)(B:Heap):Prop where
 os:s'.os=s.os
 bare:AllBare s'.gens
 eT:Heap.FlyingW B outer ea cls a0 s'.heap
 keep:∀b o,s.heap.get? b=some o→H b=none→b ∉ Ew outer→B.get? b=some o
 there:∀b o,s.heap.get? b=some o→b ∉ Ew outer→∃o',B.get? b=some o'
 slot:∀b o,s.heap.get? b=some o→b∈Ew outer→∃sl,s'.heap.get? b=some {o with slots:=sl}
 free:∀b o,s.heap.get? b=some o→H b=none→H' b=none
 EB:∀b xs,H b=some (.tup xs)→H' b=some (.tup xs)
 Eo:∀b o u,H b=some (.E1 o u)→H' b=some (.E1 o u)
 FR:∀b ps,H b=some (.Kg ps)→∃more,H' b=some (.Kg (ps++more))
 FT:∀b xs o,H b=some (.tup xs)→s.heap.get? b=some o→B.get? b=some o
 A7:D6 P w H' B
 new:s.heap.get? ea=none
def Cy(P:Program)(w:World):F0:=fun outer H s E e s'=>∃ea cls a0 H' B,e=.ref ea∧U3 P w outer H s ea cls a0 H' s' B∧E cls none H'
theorem LZ{base h:Heap}{l:List Env}(F:h.FunFrames base l){b:Addr}(hb:b∈Ew l):∃o,h.get? b=some o∧∀vs,o.data≠.fields vs:=(F.mem hb).2
section
variable{P:Program}{w:World}{K:PySem.W.Frag}{mg:Str→Option Value}{base:Heap}{N:List Str}{qual:Str}{scope:Scope}{f:Addr}{cd:Value}{A:Around}{outer:List Env}{s:Shared}{H:Hp}{E:XK}
theorem bQ{pins:List (Addr×Obj)}{σ:St}{H1:Hp}{s1:Shared}{h':Heap}{ea:Addr}{cls:Value}{args:List Value}(I:Inv (Bq (Cy P w) P w K mg base N qual scope f cd A outer s H E) pins σ H1 s1)
 (hx:Heap.MadeExcOf s1.heap h' ea cls args)(hE:E cls none H1):(Bq (Cy P w) P w K mg base N qual scope f cd A outer s H E).xe (.ref ea) {s1 with heap:=h'}:=by
 show wpAny (model P w) (A.deeper (envOfC qual scope s.heap.objs.size f cd)) (leaving (envOfC qual scope s.heap.objs.size f cd) (.ref ea)) _ _ _;have FF:=I.stack;have hfr:(A.deeper (envOfC qual scope s.heap.objs.size f cd)).frames=some (envOfC qual scope s.heap.objs.size f cd::outer):=I.ok.frames;have hin:∀env∈(envOfC qual scope s.heap.objs.size f cd::outer),∀b,env.frame=some b→b∈(envOfC qual scope s.heap.objs.size f cd::outer).filterMap (·.frame):=fun env he b hb=>List.mem_filterMap.mpr ⟨env,he,hb⟩;have notL:∀b o,s.heap.get? b=some o→b≠s.heap.objs.size:=fun b o e=>aQ (aF e);have out:∀b,b≠s.heap.objs.size→b ∉ Ew outer→b ∉ (envOfC qual scope s.heap.objs.size f cd::outer).filterMap (·.frame):=fun b h1 h2 hm=>by
  rcases aL.mp (I.Kt b hm) with z|z
  ·exact h1 z
  ·exact h2 z
 have outT:∀b u,H1 b=some u→b ∉ (envOfC qual scope s.heap.objs.size f cd::outer).filterMap (·.frame):=fun b u e hm=>by
  have:=I.Ky b hm;rw[e]at this;cases this
 refine wpAny_leaves_madeW (base:=PySem.W.hideAll s1.heap ((envOfC qual scope s.heap.objs.size f cd::outer).filterMap (·.frame))) hfr rfl (fun b o q=>PySem.W.of_hideAll _ q) (PySem.W.funFrames_hide FF hin) hx fun h2 t fl _ _ up=>?_;have hokB:D6 P w H1 (PySem.W.hideAll s1.heap ((envOfC qual scope s.heap.objs.size f cd::outer).filterMap (·.frame))):=fun b u e =>
  (I.A7 b u e).Ia (fun c v hc q=>bE _ q (by
   rcases hc with rfl|hc
   ·exact outT _ _ e
   ·exact outT _ _ hc)) (fun _ q=>q) fun _ _ q=>q
 refine⟨ea,cls,.ref t,H1,_,rfl,⟨I.os,I.bare,fl,fun b o e n hb=>?_,fun b o e hb=>?_,fun b o e hb=>?_,fun b o e n=>I.base.free b o e n (by simp[Bq]),I.base.EB,I.base.Eo,I.base.FR,fun b xs o q e=>bE _ (I.base.FT b xs o q e (by simp[Bq])) (outT b _ (I.base.EB b xs q)),hokB,?_⟩,hE⟩
 ·exact bE _ (I.base.keep b o e n hb (by simp[Bq])) (out b (notL b o e) hb)
 ·obtain⟨o',e1⟩:=I.base.there b o e (by simp[Bq]);exact⟨o',PySem.W.hideAll_get _ e1 (out b (notL b o e) hb)⟩
 ·obtain⟨sl,e1⟩:=I.base.slot b o e (I.ok.Oh b hb) hb (by simp[Bq]);obtain⟨o',e2,hd⟩:=LZ I.HM hb;rw[e1]at e2;cases e2;obtain⟨sl',e3⟩:=up b _ (hx.keeps _ _ e1) hd;exact⟨sl',e3⟩
 ·cases q:s.heap.get? ea with
  |none=>rfl
  |some o =>
   obtain⟨o',e1⟩:=I.base.there ea o q (by simp[Bq]);have:=hx.new;rw[e1]at this;cases this
theorem gT{E':XK}(hE:∀c a H',E' c a H'→E c a H'):Passes (Cy P w) (Bq (Cy P w) P w K mg base N qual scope f cd A outer s H E) E':=by
 intro pins σ H1 s1 e s2 I ⟨ea,cls,a0,H2,B,ee,F,hq⟩;subst ee;show wpAny (model P w) (A.deeper (envOfC qual scope s.heap.objs.size f cd)) (leaving (envOfC qual scope s.heap.objs.size f cd) (.ref ea)) _ _ _;have notL:∀b o,s.heap.get? b=some o→b≠s.heap.objs.size:=fun b o e=>aQ (aF e);have out:∀b,b≠s.heap.objs.size→b ∉ Ew outer→b ∉ Ew (Bq (Cy P w) P w K mg base N qual scope f cd A outer s H E).stack:=fun b h1 h2 hm=>by
  rcases aL.mp (I.Kt b hm) with z|z
  ·exact h1 z
  ·exact h2 z
 refine wpAny_leaves_onW I.ok.frames rfl F.eT fun h3 fl up=>?_;refine⟨ea,cls,a0,H2,B,rfl,⟨F.os.trans I.os,F.bare,fl,fun b o e n hb=>?_,fun b o e hb=>?_,fun b o e hb=>?_,fun b o e n=>?_,fun b xs q=>F.EB b xs (I.base.EB b xs q),fun b o u q=>F.Eo b o u (I.base.Eo b o u q),fun b ps q=>?_,fun b xs o q e=>F.FT b xs o (I.base.EB b xs q) (I.base.FT b xs o q e (by simp[Bq])),F.A7,?_⟩,hE _ _ _ hq⟩
 ·exact F.keep b o (I.base.keep b o e n hb (by simp[Bq])) (I.base.free b o e n (by simp[Bq])) (out b (notL b o e) hb)
 ·obtain⟨o',e1⟩:=I.base.there b o e (by simp[Bq]);exact F.there b o' e1 (out b (notL b o e) hb)
 ·obtain⟨sl,e1⟩:=I.base.slot b o e (I.ok.Oh b hb) hb (by simp[Bq]);have hb':b∈Ew (Bq (Cy P w) P w K mg base N qual scope f cd A outer s H E).stack:=by
   show b∈Ew (envOfC qual scope s.heap.objs.size f cd::outer);unfold Ew;rw[List.filterMap_cons];exact aV _ hb
  obtain⟨sl2,e2⟩:=F.slot b _ e1 hb';obtain⟨o',e3,hd⟩:=LZ I.HM hb;rw[e1]at e3;cases e3;obtain⟨sl3,e4⟩:=up b _ e2 hd;exact⟨sl3,e4⟩
 ·obtain⟨o',e1⟩:=I.base.there b o e (by simp[Bq]);exact F.free b o' e1 (I.base.free b o e n (by simp[Bq]))
 ·obtain⟨m1,e1⟩:=I.base.FR b ps q;obtain⟨m2,e2⟩:=F.FR b _ e1;exact⟨m1++m2,by rw[e2,Array.append_assoc]⟩
 ·cases q:s.heap.get? ea with
  |none=>rfl
  |some o =>
   obtain⟨o',e1⟩:=I.base.there ea o q (by simp[Bq]);have:=F.new;rw[e1]at this;cases this
theorem Lo.jx{x:Str}{st:Stmt}{fd:FuncData}{ps:List Str}{k:Nat}{sp:Sp}(F:Lo K x x st f fd)(S:Al N ps (AN st))(len:∀vs H Q E,sp vs H Q E→vs.length=ps.length)
 (hbody:∀(cdv:Value) (A:Around) (outer:List Env) (s:Shared) (H:Hp) (vs:List V) (Q:VK) (E:XK),Bf k (A.deeper (envOfC x (AN st) s.heap.objs.size f cdv))→sp vs H Q E →
   ∃t,Gj (Bq (Cy P w) P w K mg base N x (AN st) f cdv A outer s H E) (B5 st) t∧t { nx:=fun _ H'=>Q .BM H',rt:=Q} (start N vs) H):Ab P w K mg base (Cy P w) (k+1) f fd ps sp:=by
 obtain⟨oc,od,kV,doc,pm,an,cdv,ct,osl,rfl,lk,hcd⟩:=F.ex;exact Yr lk hcd S len fun A outer s H vs Q E hr hsp=>hbody cdv A outer s H vs Q E hr hsp
end
structure Exc(K:PySem.W.Frag)(mg:Str→Option Value)(x:Str)(C:Addr):Prop where
 m:mg x=some (.ref C)
 q:PySem.W.excIn K C [.type "ValueError",.type "Exception",.type "BaseException",.type "object"] "ValueError.__new__" = true
theorem bN{K:PySem.W.Frag}{h:Heap}{C:Addr}{bB:List Value}{nid:String}(MF:K.In h)(hq:PySem.W.excIn K C bB nid=true) :
  ∃tl N nm qn bs hd sn sub ab col dd k0 k1 k2 k3 k5 mN,h.get? C=some (excClassObj nm qn C N bs tl hd sn sub ab col dd k0 k1 k2 k3 k5 nid)∧h.Ns N mN∧mN "__init__" = none∧OwnTail h bB tl:=by
 unfold PySem.W.excIn at hq;split at hq
 ·rename_i dd cd sl lk;split at hq
  ·rename_i C1 tl k0 k1 k2 k3 n1 k5 e1 e2;simp only[Bool.and_eq_true,beq_iff_eq,Bool.not_eq_true']at hq;obtain⟨⟨⟨⟨⟨y1,y2⟩,y3⟩,y4⟩,y5⟩,y6⟩:=hq;subst y1 y2;obtain⟨nm,bs,mro,N,qn,hd,sn,sub,ab,col,del⟩:=cd;dsimp only at e1 y3 y5 y6;subst e1 y3;have e3:sl=#[k0,k1,k2,k3,some (.builtin n1),k5]:=by
    cases sl with
    |mk l=>simp only at e2;rw[e2]
   subst e3;exact⟨tl,N,nm,qn,bs,hd,sn,sub,ab,col,dd,k0,k1,k2,k3,k5,_,MF _ _ lk,.of_isNs (PySem.W.isNs_of_in MF y5),PySem.W.nsMap_none_of_in MF y5 y6,PySem.W.tail_of_in MF y4⟩
  ·cases hq
 ·cases hq
section
variable{X:Cx}{x:Str}{C:Addr}{np cpos pos:Pos}{e:Expr}{te:TE}{E:XK}
def Lets(X:Cx)(E:XK):Prop:=∀(pins:List (Addr×Obj)) (σ:St) (H:Hp) (s:Shared) (h':Heap) (ea:Addr) (cls:Value) (args:List Value),Inv X pins σ H s→Heap.MadeExcOf s.heap h' ea cls args→E cls none H→X.xe (.ref ea) {s with heap:=h'}
def fD(C:Addr)(E:XK)(te:TE):TS:=fun _ σ H=>te σ H fun _ H1=>E (.ref C) none H1
theorem X2(T:Exc X.K X.mg x C)(hL:Lets X E)(hcalm:X.calm=true)(hg:Gl X x)(he:PE X e te)(hd:(x==("__debug__" : Str))=false:=by decide)
 (hst:starEach [e] X.env=[(false,eval e X.env)]:=by rfl):PS X (.Raise (some (.Call (.Name x np) [e] [] cpos)) none pos) (fD C E te):=by
 intro pins s σ H D I h;obtain⟨tl,N,nm,qn,bs,hdct,sn,sub,ab,col,dd,k0,k1,k2,k3,k5,mN,hC,hN,hni,TL⟩:=bN I.ok.mod.MF T.q;refine wpAny_Raise_call_subT (C:=C) (nm:=nm) (q:=qn) (N:=N) (bs:=bs) (bm:=tl) (hdct:=hdct) (sn:=sn) (sub:=sub) (ab:=ab) (col:=col) (dd:=dd) (k0:=k0) (k1:=k1) (k2:=k2) (k3:=k3) (k5:=k5)
  PySem.F.excBase_ValueError (mN:=mN) (TL.hasType (by decide)) (I.ok.hd hcalm) (by rw[hst];rfl) hni (JD I hg T.m ⟨rfl,?_⟩ hd)
 rw[hst];refine Calls.evalArgs_plain (Calls.spliced_cons (BD (he pins s σ H _ I h) fun u s1 ⟨v,H1,I1,r1,q1⟩=>Calls.spliced_nil ?_));exact⟨rfl,by show 1≤sizeLine;decide,I1.bk _ _ hC,hN.keeps I1.bk,TL.keeps I1.bk,fun h' ea hm=>hL pins σ H1 s1 h' ea _ _ I1 hm q1⟩
end
def Lg(X:Cx)(pins:List (Addr×Obj))(σ:St)(E:XK)(e:Value)(s':Shared):Prop:=∃H0 s0,Inv X pins σ H0 s0∧Cy X.prog X.w X.stack H0 s0 E e s'
abbrev TX:=St→Hp→VK→XK→Prop
def cN(X:Cx)(e:Expr)(t:TX):Prop :=
 ∀(pins:List (Addr×Obj)) (s:Shared) (σ:St) (H:Hp) (Q:VK) (E:XK),Inv X pins σ H s→t σ H Q E→wpAny (model X.prog X.w) X.A (eval e X.env) (EP X pins σ Q) (Lg X pins σ E) s
section
variable{X:Cx}{k:Nat}{f:Addr}{fd:FuncData}{ps:List Str}{sp:Sp}{x:Str}{st:Stmt}{p pos:Pos}{e:Expr}{es:List Expr}{t:TA}
def V8(sp:Sp)(t:TA):TX:=fun σ H Q E=>t σ H fun vs H1=>sp (vs++[]) H1 Q E
theorem ZK{pins:List (Addr×Obj)}{σ:St}{H:Hp}{s:Shared}{Q:VK}{E:XK}{us:List Value}{vs:List V}(F:Ab X.prog X.w X.K X.mg X.base (Cy X.prog X.w) k f fd ps sp)(hr:Bf k X.A)(hb:Binds X.K fd ps [])
 (I:Inv X pins σ H s)(r:Vals vs us)(h:sp (vs++[]) H Q E):wpAny (model X.prog X.w) X.A (call (.ref f) us) (EP X pins σ Q) (Lg X pins σ E) s:=by
 rw[List.append_nil]at h;have hl:(us++[]).length=ps.length:=by rw[List.append_nil,←r.length];exact F.len _ _ _ _ h
 have hb':=hb s us I.FQ hl;rw[List.append_nil]at hb';refine wpAny_call (codeAny_mono (F.run X.A X.stack s H ⟨us,[]⟩ us vs Q E hr I.Xi hb' r h) fun r s' hq=>?_);cases r with
 |error e=>exact⟨H,s,I,hq⟩
 |ok fl =>
  cases fl with
  |ret u=>exact I.after hq
  |next=>exact False.elim hq
  |brk=>exact False.elim hq
  |cont=>exact False.elim hq
theorem cc(T:Fn X.K X.mg x st ps f fd)(G:Ab X.prog X.w X.K X.mg X.base (Cy X.prog X.w) k f fd ps sp)(hr:Bf k X.A)(hg:Gl X x)(ha:PA X.DV (e::es) t)
 (hdb:(x==("__debug__" : Str))=false:=by decide)(he:starEach (e::es) X.env=(false,eval e X.env)::starEach es X.env:=by rfl)(hpl:(backTo pos (starEach es X.env)).any (·.1)=false:=by rfl) :
  cN X (.Call (.Name x p) (e::es) [] pos) (V8 sp t):=by
 intro pins s σ H Q E I h;refine wpAny_Call_Name_kw (JD I hg T.m ?_ hdb);refine PySem.W.callWith_K (h₀:=X.base) I.ok.mod.MF T.F.kp (aK (ha pos pins s σ H _ (I.Ds _) h) (fun us s1 ⟨vs,H1,I1,r,q⟩=>⟨I1.FQ,?_⟩) fun _ _ z=>z.elim) he hpl;exact ZK G hr T.b I1.Cp r q
end
theorem land{X:Cx}{pins:List (Addr×Obj)}{σ:St}{H0 H':Hp}{s0 s':Shared}{ea:Addr}{cls a0:Value}{B:Heap}(I:Inv X pins σ H0 s0)(F:U3 X.prog X.w X.stack H0 s0 ea cls a0 H' s' B)
 {h':Heap}{tk:Nat}(st:B.StaysIn h')(up:s'.heap.UpToSlots h'):Inv X pins σ H' { s' with heap:=h',toks:=tk}:=by
 have fdat:∀b o,s0.heap.get? b=some o→b∈Ew X.stack→∃sl,h'.get? b=some {o with slots:=sl}:=fun b o e hb=>by
  obtain⟨sl,e1⟩:=F.slot b o e hb;obtain⟨o',e2,hd⟩:=LZ I.stack hb;rw[e]at e2;cases e2;obtain⟨sl',e3⟩:=up b _ e1 hd;exact⟨sl',e3⟩
 refine I.VV (s':={ s' with heap:=h',toks:=tk}) (ch:=[]) F.os ⟨fun b o e n hb _=>st b o (F.keep b o e n hb),fun b o e n hb _=>fdat b o e hb,fun b o e n _=>F.free b o e n,fun b o e _=>?_,F.EB,F.Eo,F.FR,fun b xs o q e _=>st b o (F.FT b xs o q e)⟩ (F.A7.kept st) F.bare fun b z=>absurd z (by simp);by_cases hb:b∈Ew X.stack
 ·obtain⟨sl,e1⟩:=fdat b o e hb;exact⟨_,e1⟩
 ·obtain⟨o',e1⟩:=F.there b o e hb;exact⟨o',st _ _ e1⟩
def Hg(ea:Addr)(cls:Value):HO:=.ext fun h=>∃o vs,h.get? ea=some o∧o.cls=cls∧o.data=.fields vs
theorem gr{X:Cx}{pins:List (Addr×Obj)}{σ:St}{H0 H':Hp}{s0 s' s6:Shared}{ea:Addr}{cls a0:Value}{B:Heap}(I:Inv X pins σ H0 s0)(F:U3 X.prog X.w X.stack H0 s0 ea cls a0 H' s' B)
 (I6:Inv X pins σ H' s6)(ho:∃o vs,s6.heap.get? ea=some o∧o.cls=cls∧o.data=.fields vs):H' ea=none∧Inv X pins σ (upd H' ea (Hg ea cls)) s6:=by
 have hn:H' ea=none:=by
  cases q:H' ea with
  |none=>rfl
  |some u =>
   obtain⟨o,e⟩:=(F.A7 ea u q).get;rw[F.eT.2.1]at e;cases e
 have ne:∀b o,s0.heap.get? b=some o→b≠ea:=fun b o e z=>by rw[z,F.new]at e;cases e
 have up:∀b,b≠ea→upd H' ea (Hg ea cls) b=H' b:=fun b z=>AW z;have neT:∀b u,H' b=some u→b≠ea:=fun b u e z=>by rw[z,hn]at e;cases e
 refine⟨hn,I6.ok,I6.os,I6.bare,⟨I6.base.keep,I6.base.slot,fun b o e n hx=>?_,I6.base.there,fun b xs e=>?_,fun b o u e=>?_,fun b ps e=>?_,I6.base.FT⟩,I6.loc,I6.cell,?_,fun y c e=>?_,fun p hp=>?_,fun b u e=>?_,I6.len⟩
 ·obtain⟨o',e1⟩:=I.base.there b o e hx;rw[up b (ne b o' e1)];exact I6.base.free b o e n hx
 ·have:=I6.base.EB b xs e;rw[up b (neT _ _ this)];exact this
 ·have:=I6.base.Eo b o u e;rw[up b (neT _ _ this)];exact this
 ·obtain⟨m,e1⟩:=I6.base.FR b ps e;exact⟨m,by rw[up b (neT _ _ e1)];exact e1⟩
 ·obtain⟨m,⟨o,_,_,e,_⟩,_⟩:=I.loc;rw[up _ (ne _ o e)];exact I6.free
 ·obtain⟨v,o,e1,_⟩:=I.cell y c e;rw[up _ (ne _ o e1)];exact I6.Er y c e
 ·obtain⟨e1,e2,e3⟩:=I6.pin p hp;have e0:=(I.pin p hp).1;exact⟨e1,by rw[up _ (ne _ _ e0)];exact e2,e3⟩
 ·by_cases hb:b=ea
  ·subst hb;rw[Ad]at e;cases e;obtain⟨o,vs,e1,e2,e3⟩:=ho;exact⟨⟨o,vs,e1,e2,e3⟩,⟨o,e1⟩,fun h1 h2 ⟨o1,vs1,q1,q2⟩ k=>⟨o1,vs1,k _ q1,q2⟩⟩
  ·rw[up b hb]at e;exact(I6.A7 b u e).Ia (fun c v _ q=>q) (fun c q=>by rw[up c (neT _ _ q)];exact q) fun c xs q=>by rw[up c (neT _ _ q)];exact q
structure DP(K:PySem.W.Frag)(C G:Addr)(b:Bool):Prop where
 cl:(PySem.W.clsIn K G).isSome=true
 ty:PySem.W.typeIn K (.ref G)=some (.type "type")
 ex:PySem.W.subIn K (.ref G) (.type "BaseException")=some true
 sub:PySem.W.subIn K (.ref C) (.ref G)=some b
theorem X9{M:Model}{A:Around}{E:Value→Shared→Prop}{s:Shared}{K:PySem.W.Frag}{e C G:Addr}{oe:Obj}{b:Bool}{Q:Bool→Shared→Prop}(X:K.In s.heap)(he:s.heap.get? e=some oe)(hc:oe.cls=.ref C)(B:DP K C G b)
 (h:Q b s):wpAny M A (excMatches (.ref e) (.ref G)) Q E s:=by
 have l1:PySem.W.Looks M s.heap (isInstance (.ref G) (.type "tuple")) false:=(PySem.W.looks_typeIn X B.ty).andThen (PySem.W.Looks.of_pure tc_notTuple);have l2:PySem.W.Looks M s.heap (isType (.ref G)) true:=by
  have z:=B.cl;unfold PySem.W.clsIn at z;split at z
  ·rename_i c' d' cd' sl' ho;intro A' Q' E' s' k q;unfold isType loadHead;exact aC (wpAny_loadPart (k _ _ (X _ _ ho)) (aD q))
  ·cases z
 have l3:PySem.W.Looks M s.heap (isSubtype (.ref G) (.type "BaseException")) true:=PySem.W.looks_subIn X B.ex;have l4:PySem.W.Looks M s.heap (typeOf (.ref e)) (.ref C):=hc ▸ (PySem.W.Looks.ld he).andThen .now
 have l5:PySem.W.Looks M s.heap (isSubtype (.ref C) (.ref G)) b:=PySem.W.looks_subIn X B.sub;obtain⟨hp,g,d,tk,os⟩:=s;unfold excMatches isExcClass;refine aC (l1.at ?_);simp only[Bool.false_eq_true,if_false];refine aC (aD ?_);simp only[List.forIn_cons,List.forIn_nil];refine aC (aC (aC (aC (l2.at ?_))));simp only[if_true];refine l3.at ?_;simp only[Bool.not_true,Bool.false_eq_true,if_false];refine aD (aD (aC (l4.at (aC (aC (aC (l5.at ?_)))))));cases b with
 |true =>
  simp only[if_true];exact aD (aD (aD h))
 |false =>
  simp only[Bool.false_eq_true,if_false];exact aD (aD (aD h))
def Cx.held(X:Cx)(ea:Addr):Cx:={X with A:=X.A.mark (some (.ref ea)),calm:=false,xe:=fun _ _=>False}
theorem Inv.held{X:Cx}{pins:List (Addr×Obj)}{σ:St}{H:Hp}{s:Shared}(I:Inv X pins σ H s)(ea:Addr):Inv (X.held ea) pins σ H s :=
 ⟨⟨I.ok.mod,I.ok.kind,I.ok.glob,I.ok.blt,I.ok.above,I.ok.inj,I.ok.has,I.ok.SU,fun z=>(by cases z),I.ok.frames,I.ok.Vz,I.ok.cH,I.ok.bs,I.ok.MB,I.ok.Nt,I.ok.Np,I.ok.HM,I.ok.Oh,I.ok.kt⟩,I.os,I.bare,I.base,I.loc,I.cell,I.free,I.Er,I.pin,I.A7,I.len⟩
theorem Inv.eD{X:Cx}{pins:List (Addr×Obj)}{σ:St}{H:Hp}{s:Shared}{ea:Addr}(ok:X.Ok)(I:Inv (X.held ea) pins σ H s):Inv X pins σ H s :=
 ⟨ok,I.os,I.bare,I.base,I.loc,I.cell,I.free,I.Er,I.pin,I.A7,I.len⟩
theorem jT{X:Cx}{pins:List (Addr×Obj)}{σ:St}{H:Hp}{s:Shared}{M:Model}{A:Around}{E:Value→Shared→Prop}{i:Nat}{n:Str}{pos:Pos}{Q:Unit→Shared→Prop}(I:Inv X pins σ H s)(hN:X.N.Nodup)(hi:X.N[i]? = some n)
 (hl:X.env.scope.names.lookup n=some .local)(h:∀s',Inv X pins (σ.set i none) H s'→Q () s'):wpAny M A (do bindName X.env n .none;unbindBehindTheSuite X.env n pos) Q E s:=by
 obtain⟨m,hn,hlk⟩:=id I.loc;have hcls:(X.env.scope.kind==.class||(X.env.scope.kind==.module&&X.env.locals != X.env.globals))=false:=by rw[I.ok.kind];rfl
 refine wpAny_nameGoes_keeps hl hn hcls fun h' v hn' hs=>h _ ?_;have hiS:i<σ.length:=by rw[I.len];exact(aE.mp hi).1
 obtain⟨oL,_,_,hoL,_⟩:=id hn;have tr:D6 X.prog X.w H h':=fun b ob e=>(I.A7 b ob e).Ia (fun c w' hc q=>(hs.2 c (by
  rintro rfl;rcases hc with hc|hc
  ·rw[←hc,I.free]at e;cases e
  ·rw[I.free]at hc;cases hc)).trans q) (fun _ q=>q) fun _ _ q=>q
 refine⟨I.ok,I.os,I.bare,⟨fun b o e n hb hx=>?_,fun b o e n hb hx=>?_,I.base.free,fun b o e hx=>?_,I.base.EB,I.base.Eo,I.base.FR,fun b xs o q e hx=>(hs.2 b (aQ (aG (aF e) I.ok.above))).trans (I.base.FT b xs o q e hx)⟩,⟨_,hn',fun j y v' e1 e2 e3=>?_⟩,fun y c e=>?_,I.free,I.Er,fun p hp=>?_,tr,by simpa using I.len⟩
 ·exact(hs.2 b (aQ (aG (aF e) I.ok.above))).trans (I.base.keep b o e n hb hx)
 ·obtain⟨sl,e1⟩:=I.base.slot b o e n hb hx;exact⟨sl,(hs.2 b (aQ (aG (aF e) I.ok.above))).trans e1⟩
 ·obtain⟨o',e1⟩:=I.base.there b o e hx;exact⟨o',(hs.2 b (aQ (aG (aF e) I.ok.above))).trans e1⟩
 ·by_cases hj:j=i
  ·subst hj;rw[List.getElem?_set_self hiS]at e2;cases e2
  ·rw[List.getElem?_set_ne (Ne.symm hj)]at e2;obtain⟨u',r',q⟩:=hlk j y v' e1 e2 e3;refine⟨u',r',?_⟩;rcases q with ⟨k,e⟩|⟨k,c,e,z⟩
   ·refine .inl ⟨k,?_⟩;have:y≠n:=fun e=>hj (Nj hN e1 (e ▸ hi));simp[this,e]
   ·exact .inr ⟨k,c,e,z.sameBut hs (I.OA y c e)⟩
 ·obtain⟨w',z⟩:=I.cell y c e;exact⟨w',z.sameBut hs (I.OA y c e)⟩
 ·obtain⟨e,n',ne,nf,d⟩:=I.pin p hp;exact⟨(hs.2 p.1 ne).trans e,n',ne,nf,d⟩
section
variable{X:Cx}{t:TX}{x z n:Str}{G:Addr}{pz pn np tpos hpos:Pos}{i j k:Nat}
def V1(K:PySem.W.Frag)(G:Addr)(t:TX)(i j k:Nat):TS:=fun D σ H=>t σ H (fun v H1=>D.nx (σ.set i (some v)) H1) fun cls _ H'=>∃C,cls=.ref C∧DP K C G true ∧
 ∀ea,H' ea=none→D.nx (((σ.set k (some (.ref ea))).set j (some (.ref ea))).set k none) (upd H' ea (Hg ea cls))
theorem WD{pins:List (Addr×Obj)}{σ:St}{D:Ends}{ev:Value}{s1:Shared}(hN:X.N.Nodup)(hcalm:X.calm=true)(hj:X.N[j]? = some z)(hk:X.N[k]? = some n)(hlz:X.env.scope.names.lookup z=some .local)(hln:X.env.scope.names.lookup n=some .local)
 (hg:Gl X x)(hm:X.mg x=some (.ref G))(hkj:k≠j)(hstk:∃rest,X.stack=X.env::rest)(hfr:X.env.frame=some X.env.locals)
 (hf:Lg X pins σ (fun cls _ H'=>∃C,cls=.ref C∧DP X.K C G true∧∀ea,H' ea=none→D.nx (((σ.set k (some (.ref ea))).set j (some (.ref ea))).set k none) (upd H' ea (Hg ea cls))) ev s1)
 (hd:(x==("__debug__" : Str))=false)(hsw:swapsWith (.Name n pn) (some (.Name z pz)) tpos.line X.env=pure false)(hdn:(n==("__debug__" : Str))=false)(hcn:(n==("__classdict__" : Str))=false) :
  wpAny (model X.prog X.w) X.A (noteFrame ev X.env) (fun _ s₂=>wpAny (model X.prog X.w) X.A (setFlight ev none) (fun _ s₃=>wpAny (model X.prog X.w) X.A (handleBy ev X.env [.ExceptHandler (some (.Name x np)) (some n) [.Assign [.Name z pz] (.Name n pn) tpos] hpos]) (SP X pins D) X.xe s₃) X.xe s₂) X.xe s1:=by
 obtain⟨H0,s0,I,ea,cls,a0,H',B,ee,F,C,hc,hB,q⟩:=hf;subst ee hc;obtain⟨rest,hrest⟩:=hstk;have F1:=F.eT;rw[hrest]at F1;have hfrm:X.A.frames=some (X.env::rest):=by rw[←hrest];exact I.ok.frames
 refine wpAny_looks_onW hfrm hfr F1 fun h4 held4 up4=>?_;refine wpAny_landsW held4 fun h5 fl5 up5=>?_;have up05:=up4.trans up5;have I5:Inv X pins σ H' {s1 with heap:=h5,toks:=s1.toks}:=land I F fl5.1 up05;obtain⟨ob,hob,hobc⟩:=fl5.there;have hcls:(X.env.scope.kind==.class||(X.env.scope.kind==.module&&X.env.locals != X.env.globals))=false:=by rw[I.ok.kind];rfl
 refine wpAny_handleBy_cons (codeAny_handlers_test (JD (I5.held ea) hg hm ?_ hd)) (by intro q;cases q);refine X9 (K:=X.K) I5.FQ hob hobc hB (codeAny_handlers_suite_as ?_);refine lands_againW fl5 fun h6 fl6 up6=>?_;have I6:Inv X pins σ H' {s1 with heap:=h6,toks:=s1.toks}:=land I F fl6.1 (up05.trans up6);obtain⟨oe,ws,e1,e2,e3,_⟩:=fl6.first
 obtain⟨hfree,I7⟩:=gr I F I6 ⟨oe,ws,e1,e2,e3⟩;refine GQ (X:=X.held ea) (I7.held ea) hN hk (.inl hln) (v:=.ref ea) rfl (fun s8 I8=>?_) (.inr hln);have hbody:Gj (X.held ea) [.Assign [.Name z pz] (.Name n pn) tpos] (Jj (D0 k) (Fe j)):=BH (Bp (X:=X.held ea) hN hj (.inl hlz) (SS hk (.inl hln) hdn hcn) hsw (.inr hlz));have hkl:k<(σ.set k (some (V.ref ea))).length:=by
  rw[List.length_set];have:=(aE.mp hk).1;rw[I.len];exact this
 refine aK (hbody pins s8 _ _ { nx:=fun σ' H2=>σ'=(σ.set k (some (.ref ea))).set j (some (.ref ea))∧H2=upd H' ea (Hg ea (.ref C)),rt:=fun _ _=>False} I8 ⟨.ref ea,?_,rfl,rfl⟩) (fun fl s9 h9=>?_) fun _ _ z=>z.elim
 ·rw[List.getElem?_set_self (by rw[List.length_set]at hkl;exact hkl)]
 ·cases fl with
  |next =>
   obtain⟨σ9,H9,I9,e9,eH⟩:=h9;subst e9 eH;exact jT (I9.eD I.ok) hN hk hln fun s' I'=>⟨_,_,I',q ea hfree⟩
  |brk=>obtain⟨_,_,_,z⟩:=h9;exact z.elim
  |cont=>obtain⟨_,_,_,z⟩:=h9;exact z.elim
  |ret v=>obtain⟨_,_,_,_,_,z⟩:=h9;exact z.elim
end
open PySem PySem.Spec PyProof.Rows PySem.Builtin.ObjectAttr PySem.Builtin.Getset_descriptor
structure Cc(K:PySem.W.Frag)(C:Addr):Prop where
 cl:(PySem.W.clsIn K C).isSome=true
 ga:PySem.W.findIn K (.ref C) "__getattribute__" = some (some (.builtin "BaseException.__getattribute__"))
 gh:PySem.W.findIn K (.ref C) "__getattr__" = some none
 at_:PySem.W.findIn K (.ref C) "__class__" = some (some (.builtin "object.__class__"))
 gt:PySem.W.specialIn K (.builtin "object.__class__") "__get__" = some (some (.builtin "getset_descriptor.__get__"))
 tk:PySem.W.takesIn K (.builtin "object.__class__")=some true
 ob:PySem.W.mroIn K C (.type "object")=some true
 be:PySem.W.mroIn K C (.type "BaseException")=some true
def excAt(x C:Addr)(h:Heap):Prop:=∃o vs,h.get? x=some o∧o.cls=.ref C∧o.data=.fields vs
theorem excAt.ty{x C:Addr}{h:Heap}(p:excAt x C h)(M:Model):PySem.W.Looks M h (typeOf (.ref x)) (.ref C):=by
 obtain⟨o,_,e,c,_⟩:=p;exact c ▸ (PySem.W.Looks.ld e).andThen .now
theorem XZ{K:PySem.W.Frag}{C:Addr}{h:Heap}(X:K.In h)(z:(PySem.W.clsIn K C).isSome=true)(M:Model):PySem.W.Looks M h (isType (.ref C)) true:=by
 unfold PySem.W.clsIn at z;split at z
 ·rename_i c' d' cd' sl' ho;intro A' Q' E' s' k q;exact aC (wpAny_loadPart (k _ _ (X _ _ ho)) (aD q))
 ·cases z
section
variable{prog:Program}{w:World}{A:Around}{E:Value→Shared→Prop}{K:PySem.W.Frag}{x C:Addr}{h:Heap}{g:Array GenState}{d:Drawn}{t:Nat}{os:OsState}
theorem YO(X:K.In h)(F:Cc K C)(M:Model):PySem.W.Looks M h (find (.ref x) (.ref C) "__class__") (.bind (.builtin "getset_descriptor.__get__") (.builtin "object.__class__")):=by
 have a1:=PySem.W.looks_findIn (M:=M) X F.at_;have a2:PySem.W.Looks M h (getOf (some (.builtin "object.__class__"))) (some (.builtin "getset_descriptor.__get__")):=PySem.W.looks_specialIn X F.gt;have a3:=PySem.W.looks_takesIn (M:=M) X F.tk;exact a1.andThen (a2.andThen ((show PySem.W.Looks M h (dataDescriptor? (some (.builtin "object.__class__")) (some (.builtin "getset_descriptor.__get__"))) (some (.builtin "getset_descriptor.__get__",.builtin "object.__class__")) from a3.andThen .now).andThen (PySem.W.Looks.tag .now)))
theorem ZN{tp:Value}{R:Result→Shared→Prop}(X:K.In h)(F:Cc K C)(p:excAt x C h)(hR:R (.ok (.ret (.ref C))) ⟨h,g,d,t,os⟩) :
  codeAny (model prog w) A (.call (.builtin "getset_descriptor.__get__") ⟨[.builtin "object.__class__",.ref x,tp],[]⟩) R ⟨h,g,d,t,os⟩:=by
 have b0:=p.ty (model prog w);have b1:=PySem.W.looks_mroIn (M:=model prog w) X F.ob;refine codeAny_call_builtin PySem.W.KF.slot_gs.plain PySem.W.KF.entry_gs ?_;refine PySem.W.KF.slot_gs.check _ _ _ _ _ _ _ _ PySem.W.KF.type_class (PySem.W.KF.args_gs _ _ _) ?_;unfold Builtin.«getset_descriptor.__get__» descrGet;rw[PySem.W.dga_obj];refine aC (aD ?_);unfold descrGetter descrCheckInstance descrNameAndClass isInstance;simp only[PySem.W.KF.owner_class]
 repeat lk
 refine⟨Code.quiet_builtin _ (by decide +kernel),codeAny_builtin PySem.W.KF.entry_class ?_⟩;unfold Builtin.«object.__class__» shownTypeOf
 repeat lk
 exact hR
theorem Wl{tk:Tok}{Q:Fin→Shared→Prop}(X:K.In h)(F:Cc K C)(p:excAt x C h)(hQ:Q (.done (.ret (.ref C))) ⟨h,g,d,t,os⟩) :
  wpAny (model prog w) A (Builtin.«object.__getattribute__» ⟨[.ref x,.str "__class__" tk],[]⟩) Q E ⟨h,g,d,t,os⟩:=by
 have b0:=p.ty (model prog w);have b1:=YO (x:=x) X F (model prog w);unfold Builtin.«object.__getattribute__»
 repeat lk
 refine wpAny_run (ZN X F p ?_);exact aD (aD hQ)
theorem WY{nameV:Value}{Q:Unit→Shared→Prop}(X:K.In h)(F:Cc K C)(p:excAt x C h)(hQ:Q () ⟨h,g,d,t,os⟩) :
  wpAny (model prog w) A (checkBuiltinCall "BaseException.__getattribute__" ⟨[.ref x,nameV],[]⟩) Q E ⟨h,g,d,t,os⟩:=by
 have c1:builtinKind "BaseException.__getattribute__" = some .slot:=by decide +kernel
 have c2:splitId "BaseException.__getattribute__" = some ("BaseException", "__getattribute__"):=by decide +kernel
 have c3:=PySem.F.args_bexc_ga (.ref x) nameV;have b0:=p.ty (model prog w);have b1:=PySem.W.looks_mroIn (M:=model prog w) X F.be;simp only[checkBuiltinCall,c1,c2];refine aC ?_;unfold isInstance
 repeat lk
 exact hQ
theorem V9{Q:Option Value→Shared→Prop}(X:K.In h)(F:Cc K C)(p:excAt x C h)(hQ:Q (some (.ref C)) ⟨h,g,d,t+1,os⟩) :
  wpAny (model prog w) A (getAttr? (.ref x) "__class__") Q E ⟨h,g,d,t,os⟩:=by
 have b0:=p.ty (model prog w);have b1:=PySem.W.looks_findIn (M:=model prog w) X F.ga;have b2:=PySem.W.looks_findIn (M:=model prog w) X F.gh;unfold getAttr? getAttrBy? getAttrBy;refine aC (wpAny_mkText (aC (wpAny_attempt (ak (aC (b0.at (aC (b1.at ?_))))))));have c2:(Value.builtin "BaseException.__getattribute__" == Value.builtin "object.__getattribute__")=false:=by decide +kernel
 have c1:¬((onTheHeap (Value.ref C)&&Value.builtin "BaseException.__getattribute__" == Value.builtin "object.__getattribute__")=true):=by rw[c2,Bool.and_false];exact aO
 show wpAny _ _ (if(onTheHeap (Value.ref C)&&Value.builtin "BaseException.__getattribute__" == Value.builtin "object.__getattribute__")=true then _ else _) _ _ _;rw[if_neg c1];unfold getAttrByItsOwn;refine aC (show wpAny _ _ (typeLookup (Value.ref C) "__getattr__") _ _ _ from b2.at ?_);refine aC (wpAny_attempt (ak ?_));show wpAny _ _ (boundAndCalled _ _ _) _ _ _;unfold boundAndCalled;have f3:=(PySem.F.excAttr_ValueError).ga.bind (.ref x);refine aC (wpAny_of_eq f3 ?_);refine wpAny_call (codeAny_call_builtin (PySem.F.excAttr_ValueError).ga.plain PySem.F.entry_bexc_ga (WY X F p (Wl X F p ?_)));exact aD (aD hQ)
end
theorem Xl{K:PySem.W.Frag}{x C:Addr}(F:Cc K C):PySem.W.KitX K (.ref x) (.ref C) (excAt x C) where
 ty:=fun M h _ p=>p.ty M
 it:=fun M h X _=>XZ X F.cl M
 ne:=fun h tp dd its n sl X htp=>by
  have z:=F.cl;refine ay.mpr fun q=>?_;have e:C=tp:=Value.ref.inj (beq_iff_eq.mp q);subst e;unfold PySem.W.clsIn at z;split at z
  ·rename_i c' d' cd' sl' ho;have y:=(X _ _ ho).symm.trans htp;cases y
  ·cases z
 ca:=fun {prog w A E Q s} X p k=>by
  obtain⟨h,g,d,t,os⟩:=s;exact V9 X F p k
def Cd:V→Value
 |.ref C=>.ref C
 |.ty n=>.type n
 |_=>.none
theorem Ub{c:V}{u:Value}(r:RelV c u)(h:Cd c≠.none):u=Cd c:=by
 cases c with
 |ref C=>exact r
 |ty n=>exact r
 |_=>exact absurd rfl h
section
variable{X:Cx}
def jD(K:PySem.W.Frag):List V→Hp→VK→Prop:=fun xs H Q=>∃x c t b,xs=[x,c]∧Cd c≠.none∧GR K H x t∧PySem.W.kitOne K t (Cd c)=some b∧Q (.bl b) H
theorem GU:Fp X (.builtin "isinstance") (jD X.K):=by
 intro pins s σ H xs us Q I r h;obtain⟨x,c,t,b,rfl,hc,ty,e,q⟩:=h;obtain⟨u,v,rfl,r1,r2⟩:=r.two;rw[Ub r2 hc];exact XI I r1 ty e fun tk=>⟨.bl b,H,I.tok tk,rfl,q⟩
def iA(K:PySem.W.Frag):List V→Hp→VK→Prop:=fun xs H Q=>∃ea C c b,xs=[.ref ea,c]∧Cd c≠.none∧H ea=some (Hg ea (.ref C))∧Cc K C∧PySem.W.kitOne K (.ref C) (Cd c)=some b∧Q (.bl b) H
theorem Wi:Fp X (.builtin "isinstance") (iA X.K):=by
 intro pins s σ H xs us Q I r h;obtain⟨ea,C,c,b,rfl,hc,he,F,e,q⟩:=h;obtain⟨u,v,rfl,r1,r2⟩:=r.two;rw[Ub r2 hc];cases (show u=Value.ref ea from r1);obtain⟨p,_,_⟩:=(show C2 X.prog X.w H s.heap ea (Hg ea (.ref C)) from I.A7 ea _ he);exact ah (Xl F) I.FQ p e (fun z=>nomatch z) fun tk=>⟨.bl b,H,I.tok tk,rfl,q⟩
end
theorem fX(K:PySem.W.Frag):PySem.W.kitOne K (.type "tuple") (.type "tuple")=some true:=rfl
theorem gF(K:PySem.W.Frag):PySem.W.kitOne K (.type "int") (.type "int")=some true:=rfl
theorem fP(K:PySem.W.Frag):PySem.W.kitOne K (.type "bool") (.type "bool")=some true:=rfl
theorem eW(K:PySem.W.Frag):PySem.W.kitOne K (.type "int") (.type "bool")=some false:=by kernel_rfl
theorem dG(K:PySem.W.Frag):PySem.W.kitOne K (.type "bool") (.type "int")=some true:=by kernel_rfl
theorem fJ(K:PySem.W.Frag):PySem.W.kitOne K (.type "list") (.type "tuple")=some false:=by kernel_rfl
theorem cD(K:PySem.W.Frag):PySem.W.kitOne K (.type "tuple") (.type "list")=some false:=by kernel_rfl
theorem dY(K:PySem.W.Frag):PySem.W.kitOne K (.type "list") (.type "list")=some true:=rfl
theorem eX(K:PySem.W.Frag):PySem.W.kitOne K (.type "int") (.type "tuple")=some false:=by kernel_rfl
theorem d7(K:PySem.W.Frag):PySem.W.kitOne K (.type "bool") (.type "tuple")=some false:=by kernel_rfl
theorem fk(K:PySem.W.Frag):PySem.W.kitOne K (.type "NoneType") (.type "tuple")=some false:=by kernel_rfl
theorem cY(K:PySem.W.Frag):PySem.W.kitOne K (.type "str") (.type "tuple")=some false:=by kernel_rfl
theorem cI(K:PySem.W.Frag):PySem.W.kitOne K (.type "tuple") (.type "int")=some false:=by kernel_rfl
theorem ef(K:PySem.W.Frag):PySem.W.kitOne K (.type "list") (.type "int")=some false:=by kernel_rfl
theorem fU(K:PySem.W.Frag):PySem.W.kitOne K (.type "NoneType") (.type "int")=some false:=by kernel_rfl
theorem dH(K:PySem.W.Frag):PySem.W.kitOne K (.type "str") (.type "int")=some false:=by kernel_rfl
theorem f9(K:PySem.W.Frag):PySem.W.kitOne K (.type "int") (.type "list")=some false:=by kernel_rfl
theorem eM(K:PySem.W.Frag):PySem.W.kitOne K (.type "bool") (.type "list")=some false:=by kernel_rfl
theorem fY(K:PySem.W.Frag):PySem.W.kitOne K (.type "NoneType") (.type "list")=some false:=by kernel_rfl
theorem fc(K:PySem.W.Frag):PySem.W.kitOne K (.type "str") (.type "list")=some false:=by kernel_rfl
def freeOk(xsc:Scope)(names:List (Str×NameKind)):Bool:=names.all fun y=>y.2 != .free||xsc.names.lookup y.1==some .cell||xsc.names.lookup y.1==some .free
theorem J3{xsc:Scope}{names:List (Str×NameKind)}(h:freeOk xsc names=true):∀y∈names,y.2=.free→xsc.names.lookup y.1=some .cell∨xsc.names.lookup y.1=some .free:=fun y hy hf=>by
 have q:=ae.mp h y hy;rw[hf]at q;simp only[bne_self_eq_false,Bool.false_or,Bool.or_eq_true,beq_iff_eq]at q;exact q
def B7(scope:Scope)(N:List Str)(x:Str)(ix:Nat):Bool :=
 scope.kind==.function&&(scope.names.all fun y=>y.2 != .cell&&(y.2 != .local||scope.names.lookup y.1==some .local)&&(y.2 != .free||scope.names.lookup y.1==some .free))&&scope.names.lookup x==some .local&&decide N.Nodup&&N[ix]? == some x
theorem Gp{scope:Scope}{N:List Str}{x:Str}{ix:Nat}(h:B7 scope N x ix=true):EH scope N x ix:=by
 unfold B7 at h;simp only[Bool.and_eq_true,beq_iff_eq,decide_eq_true_eq,List.all_eq_true,bne_iff_ne,Bool.or_eq_true]at h;obtain⟨⟨⟨⟨h1,h2⟩,h3⟩,h4⟩,h5⟩:=h;exact⟨h1,fun y hy=>(h2 y hy).1.1,fun y hy hl=>(h2 y hy).1.2.resolve_left fun z=>z hl,fun y hy hl=>(h2 y hy).2.resolve_left fun z=>z hl,h3,h4,h5⟩
section
variable{X:Cx}{elt iter:Expr}{x:Str}{px pos:Pos}{ifs:List Expr}{scope:Scope}{wi:TI}{tif:TT}{te:TE}
theorem Rx(N:List Str)(ix:Nat)(fr:List (Option Nat))(hi:PI X (.Name x px) iter wi)(hif:∀cl C s₀ H₀ fp,Jh (Ai X scope cl N C s₀ H₀ fp) ifs tif)(he:∀cl C s₀ H₀ fp,PE (Ai X scope cl N C s₀ H₀ fp) elt te)
 (h1:B7 scope N x ix=true:=by decide +kernel)(h2:X.calm=true:=by rfl)(h3:D3 N X.N scope X.env.scope fr 0=true:=by rfl)(h4:fr.length=N.length:=by rfl)(h5:freeOk X.env.scope scope.names=true:=by rfl)
 (hs:∀x,foldedSetIterable iter X.env x=pure x:=by intro _;rfl):PE X (.ListComp elt [⟨.Name x px,iter,ifs,0⟩] scope pos) (Hw wi fr ix tif te) :=
 Zb (Gp h1) h2 h3 h4 (J3 h5) hi hif he hs
theorem NJ{i:Nat}{y:Str}{py spos:Pos}(N:List Str)(ix:Nat)(fr:List (Option Nat))(hN:X.N.Nodup)(hy:X.N[i]? = some y)(hly:X.env.scope.names.lookup y=some .local)
 (hi:PI X (.Name x px) iter wi)(hif:∀cl C s₀ H₀ fp,Jh (Ai X scope cl N C s₀ H₀ fp) ifs tif)(he:∀cl C s₀ H₀ fp,PE (Ai X scope cl N C s₀ H₀ fp) elt te)
 (h1:B7 scope N x ix=true:=by decide +kernel)(h2:X.calm=true:=by rfl)(h3:D3 N X.N scope X.env.scope fr 0=true:=by rfl)(h4:fr.length=N.length:=by rfl)(h5:freeOk X.env.scope scope.names=true:=by rfl)
 (hsw:swapsWith (.ListComp elt [⟨.Name x px,iter,ifs,0⟩] scope pos) (some (.Name y py)) spos.line X.env=pure true:=by rfl)
 (hs:∀x,foldedSetIterable iter X.env x=pure x:=by intro _;rfl):PS X (.Assign [.Name y py] (.ListComp elt [⟨.Name x px,iter,ifs,0⟩] scope pos) spos) (Jj (Hw wi fr ix tif te) (Fe i)) :=
 VE hN hy hly (Gp h1) h2 h3 h4 (J3 h5) hi hif he hsw hs
end
section
variable{X:Cx}{k:Nat}{f:Addr}{fd:FuncData}{ps:List Str}{sp:Sp}{x:Str}{st:Stmt}{p pos:Pos}{e:Expr}{es:List Expr}{t:TA}{E:XK}
theorem dk(T:Fn X.K X.mg x st ps f fd)(G:Ab X.prog X.w X.K X.mg X.base (Cy X.prog X.w) k f fd ps sp)(hr:Bf k X.A)(hg:Gl X x)(hP:Passes (Cy X.prog X.w) X E)(ha:PA X (e::es) t)
 (hdb:(x==("__debug__" : Str))=false:=by decide)(he:starEach (e::es) X.env=(false,eval e X.env)::starEach es X.env:=by rfl)(hpl:(backTo pos (starEach es X.env)).any (·.1)=false:=by rfl) :
  PE X (.Call (.Name x p) (e::es) [] pos) (LJ sp [] E t):=UP G hr hg T.m T.F.kp T.b .nil hP ha hdb he hpl
end
end L2
inductive Tr where
 |nil
 |cons (b r:Tr)
 deriving DecidableEq
namespace Tr
def deep:Tr→Nat
 |.nil=>0
 |.cons b r=>max (b.deep+1) r.deep
end Tr
namespace L2
open PySem PySem.Spec PyProof.Rows
section
variable{X:Cx}{pins:List (Addr×Obj)}{σ:St}{H:Hp}{s:Shared}{h':Heap}{tk:Nat}{ch:List Addr}
theorem Inv.cK(I:Inv X pins σ H s)(hf:∀b∈ch,Hn X pins H b)(keep:∀b o,b ∉ ch→s.heap.get? b=some o→h'.get? b=some o){xs:List V}{us:List Value}(hz:xs.length≤sizeLine)(rv:Vals xs us)
 (hT:h'.get? s.heap.objs.size=some { cls:=.type "tuple",data:=.seq us.toArray}):Inv X pins σ (upd H s.heap.objs.size (.tup xs)) {s with heap:=h',toks:=tk}:=by
 have hTn:H s.heap.objs.size=none:=I.A7.fresh (aJ _);have neT:∀b o,s.heap.get? b=some o→b≠s.heap.objs.size:=fun b o q=>aQ (aF q);have RG:∀b o,H b=some o→b ∉ ch:=fun b o q hb=>by rw[(hf b hb).1]at q;cases q
 show Inv X pins σ _ {s with heap:=h',gens:=s.gens,drawn:=s.drawn,toks:=tk};refine I.step (h':=h') (g':=s.gens) (d':=s.drawn) (t':=tk) (ch:=ch) (fun b hb=>?_) (fun b o _ _ hc q _=>keep b o hc q) (fun b o _ _ hc q _=>⟨o.slots,keep b o hc q⟩)
  (fun b o _ q n=>by rw[AW (neT b o q)];exact n) (fun b o hc q=>⟨o,keep b o hc q⟩) (fun b ys q=>by rw[AW (BG q hTn)];exact q) (fun b o u q=>by rw[AW (BG q hTn)];exact q)
  (fun b ps q=>⟨#[],by rw[AW (BG q hTn),q];simp⟩) (fun b _ o hc _ q=>keep b o hc q) (fun m hm=>?_) (fun b o q=>?_) I.bare
 ·obtain⟨_,f1,_,f3,f4,f5⟩:=hf b hb;exact⟨f3,f1,f4,f5⟩
 ·obtain⟨o,es,ep,ho,r⟩:=hm;exact⟨o,es,ep,keep _ o (fun hb=>(hf _ hb).2.1 rfl) ho,r⟩
 ·by_cases hb:b=s.heap.objs.size
  ·subst hb;rw[Ad]at q;cases q;exact⟨hz,us,rv,_,hT,rfl,_,rfl⟩
  ·rw[AW hb]at q;refine(I.A7 b o q).Ia (fun c w hc r=>keep c w ?_ r) (fun c r=>by rw[AW (BG r hTn)];exact r) fun c ys r=>by rw[AW (BG r hTn)];exact r
   rcases hc with rfl|hc
   ·exact RG _ _ q
   ·exact RG _ _ hc
end
def Ts(H:Hp):Tr→List V→Prop
 |.nil,xs=>xs=[]
 |.cons b r,xs=>∃(a:Addr) (ys zs:List V),xs=.ref a::zs∧H a=some (.tup ys)∧Ts H b ys∧Ts H r zs
def Tv(H:Hp)(t:Tr)(v:V):Prop:=∃(a:Addr) (ys:List V),v=.ref a∧H a=some (.tup ys)∧Ts H t ys
theorem Ts.same{H H':Hp}(e:AU H H'):∀ {t:Tr} {xs:List V},Ts H t xs→Ts H' t xs
 |.nil,xs,h=>by rw[Ts]at h ⊢;exact h
 |.cons b r,xs,h=>by
  rw[Ts]at h ⊢;obtain⟨a,ys,zs,e1,h1,h2,h3⟩:=h;exact⟨a,ys,zs,e1,e _ _ h1,h2.same e,h3.same e⟩
theorem Tv.same{H H':Hp}{t:Tr}{v:V}(h:Tv H t v)(e:AU H H'):Tv H' t v:=let⟨a,ys,e1,h1,h2⟩:=h;⟨a,ys,e1,e _ _ h1,h2.same e⟩
end L2
namespace Tim
open PySem PyProof.Rows
section pure
end pure
section
section pure
end pure
section pure
end pure
end
end Tim
namespace L2
open PySem PySem.Spec PyProof.Rows
def CW(Pv:Nat→List V→Hp→Prop)(n:Nat)(D:Addr):Nat→Nat→List V→Hp→Prop:=fun i m ys H=>m=n-i∧i≤n∧H D=some (.lst ys)∧Pv i ys H
theorem ba{Pv:Nat→List V→Hp→Prop}{n i:Nat}{D:Addr}{ys:List V}{y:V}{H:Hp}(hi:i<n)(p:Pv (i+1) (ys++[y]) (upd H D (.lst (ys++[y])))):∃m',m'<n-i∧CW Pv n D (i+1) m' (ys++[y]) (upd H D (.lst (ys++[y]))) :=
 ⟨n-(i+1),by lia,rfl,hi,Ad,p⟩
theorem ZR{Pv:Nat→List V→Hp→Prop}{n i:Nat}{D:Addr}{ys:List V}{H:Hp}(hi:i<n)(hD:H D=some (.lst ys))(p:Pv (i+1) ys H):∃m',m'<n-i∧CW Pv n D (i+1) m' ys H:=⟨n-(i+1),by lia,rfl,hi,hD,p⟩
theorem bw{J:It}{n:Nat}{D:Addr}{H1:Hp}{fr:List (Option Nat)}{σ:St}{ix:Nat}{tif:TT}{te:TE}{G:Hp→Prop}(Pv:Nat→List V→Hp→Prop)(h0:Pv 0 [] (upd H1 D (.lst [])))
 (hgo:∀i ys H,i<n→Pv i ys H→H D=some (.lst ys)→J.go i H∧ys.length<sizeLine∧∀x H',J.Gb i H x H' →
   tif ((carry fr σ).set ix (some x)) H' fun b H2=>if b=true then te ((carry fr σ).set ix (some x)) H2 fun y H3=>H3 D=some (.lst ys)∧∃m',m'<n-i∧CW Pv n D (i+1) m' (ys++[y]) (upd H3 D (.lst (ys++[y])))
    else ∃m',m'<n-i∧CW Pv n D (i+1) m' ys H2)
 (hstop:∀ys H,Pv n ys H→H D=some (.lst ys)→J.stop n H∧G H) :
  ∃W:Nat→Nat→List V→Hp→Prop,(∃m,W 0 m [] (upd H1 D (.lst []))) ∧
   ∀i m ys H,W i m ys H→H D=some (.lst ys)∧((J.stop i H∧G H)∨(J.go i H∧ys.length<sizeLine∧∀x H',J.Gb i H x H' →
    tif ((carry fr σ).set ix (some x)) H' fun b H2=>if b=true then te ((carry fr σ).set ix (some x)) H2 fun y H3=>H3 D=some (.lst ys)∧∃m',m'<m∧W (i+1) m' (ys++[y]) (upd H3 D (.lst (ys++[y])))
     else ∃m',m'<m∧W (i+1) m' ys H2)):=by
 refine⟨CW Pv n D,⟨n,by simp,Nat.zero_le _,Ad,h0⟩,?_⟩;rintro i m ys H ⟨rfl,hi,hH,p⟩;refine⟨hH,?_⟩;by_cases hlt:i<n
 ·exact .inr (hgo i ys H hlt p hH)
 ·have e:i=n:=by lia
  subst e;exact .inl (hstop ys H p hH)
section
variable{X:Cx}
theorem Xe(hc:X.calm=true):Fp X (.builtin "all") (fun xs H Q=>∃(p:Addr) (bs:List Bool),xs=[.ref p]∧BI X.K H p (bs.map V.bl)∧Q (.bl (bs.all id)) H):=by
 intro pins s σ H xs us Q I r h;obtain⟨p,bs,rfl,hq,q⟩:=h;obtain⟨u,rfl,r1⟩:=r.one;cases r1;obtain⟨its,rv,pl,hz⟩:=I.list hq;have hl:s.heap.IsList p its.toArray:=pl.isList;have hlt:p<s.heap.objs.size:=by obtain⟨_,e,_⟩:=hl;exact aF e
 have hlen:its.length=bs.length:=by rw[←rv.length,List.length_map]
 refine call_all_walk (wpAny_pyIter_list hl ?_);refine⟨s.heap.objs.size,[s.heap.objs.size,p],[s.heap.objs.size],its.toArray.size,_,_,fun i=>(bs[i]?).getD true,rfl,Walks.list (A:=X.A.in1) (I.ok.hd hc) _ p (aQ hlt) its.toArray,
  ⟨⟨_,Heap.get?_push_size _ rfl,rfl,rfl⟩,hl.push _⟩,fun i v s' Q' E' hP hQ=>?_,fun h' tk hk=>?_⟩
 ·have hv:its[i]? = some v:=by simpa using hP
  have hi:i<bs.length:=by rw[←hlen];exact(aE.mp hv).1
  obtain⟨u,h1,h2⟩:=rv.get (i:=i) (x:=.bl bs[i]) (by rw[List.getElem?_map,List.getElem?_eq_getElem hi];rfl);rw[hv]at h1;cases h1;cases h2;simp only[List.getElem?_eq_getElem hi,Option.getD_some]at hQ;exact wpAny_truthy_bool hQ
 ·have e:((List.range its.toArray.size).all fun i=>(bs[i]?).getD true)=bs.all id:=by
   rw[List.size_toArray,hlen];exact PyProof.Rows.LSm.range_all bs
  rw[e];exact⟨.bl _,H,I.kept (t':=tk) (PyProof.Rows.LSm.kept_iter hk),rfl,q⟩
end
mutual
def Dt(l:Addr)(H:Hp):PyData→V→Prop
 |.none,v=>v=.BM
 |.bool b,v=>v=.bl b
 |.int i,v=>v=.int i
 |.str x,v=>v=.str x
 |.tuple ds,v=>∃(a:Addr) (xs:List V),v=.ref a∧a≠l∧H a=some (.tup xs)∧Aj l H ds xs
 |.list ds,v=>∃(a:Addr) (xs:List V),v=.ref a∧a≠l∧H a=some (.lst xs)∧Aj l H ds xs
 |.dict _,_=>False
def Aj(l:Addr)(H:Hp):List PyData→List V→Prop
 |[],xs=>xs=[]
 |d::ds,xs=>∃x r,xs=x::r∧Dt l H d x∧Aj l H ds r
end
mutual
theorem Dt.but{l:Addr}{H H':Hp}(e:SameBut l H H'):∀ {d:PyData} {v:V},Dt l H d v→Dt l H' d v
 |.none,_,h=>by rw[Dt]at h ⊢;exact h
 |.bool _,_,h=>by rw[Dt]at h ⊢;exact h
 |.int _,_,h=>by rw[Dt]at h ⊢;exact h
 |.str _,_,h=>by rw[Dt]at h ⊢;exact h
 |.tuple _,_,h=>by
  rw[Dt]at h ⊢;obtain⟨a,xs,e1,n,h1,h2⟩:=h;exact⟨a,xs,e1,n,e _ _ n h1,Aj.but e h2⟩
 |.list _,_,h=>by
  rw[Dt]at h ⊢;obtain⟨a,xs,e1,n,h1,h2⟩:=h;exact⟨a,xs,e1,n,e _ _ n h1,Aj.but e h2⟩
 |.dict _,_,h=>by rw[Dt]at h;exact h.elim
theorem Aj.but{l:Addr}{H H':Hp}(e:SameBut l H H'):∀ {ds:List PyData} {xs:List V},Aj l H ds xs→Aj l H' ds xs
 |[],_,h=>by rw[Aj]at h ⊢;exact h
 |_::_,_,h=>by
  rw[Aj]at h ⊢;obtain⟨x,r,e1,h1,h2⟩:=h;exact⟨x,r,e1,Dt.but e h1,Aj.but e h2⟩
end
theorem Dt.same{l:Addr}{H H':Hp}{d:PyData}{v:V}(h:Dt l H d v)(e:AU H H'):Dt l H' d v:=Dt.but (.of e) h
theorem Aj.same{l:Addr}{H H':Hp}{d:List PyData}{v:List V}(h:Aj l H d v)(e:AU H H'):Aj l H' d v:=Aj.but (.of e) h
theorem Aj.len{l:Addr}{H:Hp}:∀ {ds:List PyData} {xs:List V},Aj l H ds xs→xs.length=ds.length
 |[],_,h=>by rw[Aj]at h;rw[h];rfl
 |_::_,_,h=>by
  rw[Aj]at h;obtain⟨x,r,rfl,_,h2⟩:=h;rw[List.length_cons,List.length_cons,Aj.len h2]
theorem Aj.get{l:Addr}{H:Hp}:∀ {ds:List PyData} {xs:List V} {i:Nat} {v:V},Aj l H ds xs→xs[i]? = some v→∃d,ds[i]? = some d∧Dt l H d v
 |[],_,i,v,h,e=>by rw[Aj]at h;subst h;simp at e
 |d::ds,_,i,v,h,e=>by
  rw[Aj]at h;obtain⟨x,r,rfl,h1,h2⟩:=h;cases i with
  |zero=>simp at e;subst e;exact⟨d,rfl,h1⟩
  |succ i =>
   obtain⟨c,q1,q2⟩:=h2.get (i:=i) (v:=v) (by simpa using e);exact⟨c,by simpa using q1,q2⟩
theorem Aj.nil{l:Addr}{H:Hp}:Aj l H [] []:=by rw[Aj]
theorem Aj.cons{l:Addr}{H:Hp}{d:PyData}{ds:List PyData}{x:V}{xs:List V}(h:Dt l H d x)(k:Aj l H ds xs):Aj l H (d::ds) (x::xs):=by
 rw[Aj];exact⟨x,xs,rfl,h,k⟩
theorem Aj.app{l:Addr}{H:Hp}:∀ {ds es:List PyData} {xs ys:List V},Aj l H ds xs→Aj l H es ys→Aj l H (ds++es) (xs++ys)
 |[],_,_,_,h,k=>by rw[Aj]at h;subst h;exact k
 |d::ds,es,_,ys,h,k=>by
  rw[Aj]at h;obtain⟨x,r,rfl,h1,h2⟩:=h;exact .cons h1 (h2.app k)
theorem Dt.int{l:Addr}{H:Hp}{i:Int}:Dt l H (.int i) (.int i):=by rw[Dt]
theorem Dt.bool{l:Addr}{H:Hp}{b:Bool}:Dt l H (.bool b) (.bl b):=by rw[Dt]
theorem Dt.BM{l:Addr}{H:Hp}:Dt l H .none .BM:=by rw[Dt]
theorem Dt.str{l:Addr}{H:Hp}{x:Str}:Dt l H (.str x) (.str x):=by rw[Dt]
theorem Dt.tup{l a:Addr}{H:Hp}{ds:List PyData}{xs:List V}(n:a≠l)(h:H a=some (.tup xs))(k:Aj l H ds xs):Dt l H (.tuple ds) (.ref a):=by rw[Dt];exact⟨a,xs,rfl,n,h,k⟩
theorem Dt.lst{l a:Addr}{H:Hp}{ds:List PyData}{xs:List V}(n:a≠l)(h:H a=some (.lst xs))(k:Aj l H ds xs):Dt l H (.list ds) (.ref a):=by rw[Dt];exact⟨a,xs,rfl,n,h,k⟩
mutual
theorem Sq:∀d:PyData,d.canLay0=true→PyData.eqv d d=true
 |.none,_=>by simp[PyData.eqv]
 |.bool _,_=>by simp[PyData.eqv]
 |.int _,_=>by simp[PyData.eqv]
 |.str _,_=>by simp[PyData.eqv]
 |.tuple ds,h=>by simp only[PyData.eqv];exact KH ds (by simpa only[PyData.canLay0]using h)
 |.list ds,h=>by simp only[PyData.eqv];exact KH ds (by simpa only[PyData.canLay0]using h)
 |.dict _,h=>by simp[PyData.canLay0]at h
theorem KH:∀ds:List PyData,PyData.canLayAll0 ds=true→PyData.eqvAll ds ds=true
 |[],_=>by simp[PyData.eqvAll]
 |d::ds,h=>by
  simp only[PyData.canLayAll0,Bool.and_eq_true]at h;simp only[PyData.eqvAll,Sq d h.1,KH ds h.2,Bool.and_self]
end
def MJ:PyData→String
 |.none => "NoneType"
 |.bool _ => "bool"
 |.int _ => "int"
 |.str _ => "str"
 |.tuple _ => "tuple"
 |.list _ => "list"
 |.dict _ => "dict"
theorem Dt.ty{K:PySem.W.Frag}{l:Addr}{H:Hp}:∀ {d:PyData} {v:V},Dt l H d v→GR K H v (.type (MJ d))
 |.none,_,h=>by rw[Dt]at h;subst h;exact .BM
 |.bool _,_,h=>by rw[Dt]at h;subst h;exact .bl _
 |.int _,_,h=>by rw[Dt]at h;subst h;exact .int _
 |.str _,_,h=>by rw[Dt]at h;subst h;exact .str _
 |.tuple _,_,h=>by rw[Dt]at h;obtain⟨a,xs,rfl,_,h1,_⟩:=h;exact .tup h1
 |.list _,_,h=>by rw[Dt]at h;obtain⟨a,xs,rfl,_,h1,_⟩:=h;exact .lst h1
 |.dict _,_,h=>by rw[Dt]at h;exact h.elim
def EJ:PyData→Bool
 |.tuple _=>true
 |_=>false
def Dk:PyData→Bool
 |.list _=>true
 |_=>false
def HL:PyData→Bool
 |.int _=>true
 |.bool _=>true
 |_=>false
def Fv:PyData→Bool
 |.bool _=>true
 |_=>false
theorem LX(K:PySem.W.Frag):∀d:PyData,(∀kv,d≠.dict kv)→PySem.W.kitOne K (.type (MJ d)) (.type "tuple")=some (EJ d)
 |.none,_=>fk K
 |.bool _,_=>d7 K
 |.int _,_=>eX K
 |.str _,_=>cY K
 |.tuple _,_=>fX K
 |.list _,_=>fJ K
 |.dict kv,h=>absurd rfl (h kv)
theorem LA(K:PySem.W.Frag):∀d:PyData,(∀kv,d≠.dict kv)→PySem.W.kitOne K (.type (MJ d)) (.type "list")=some (Dk d)
 |.none,_=>fY K
 |.bool _,_=>eM K
 |.int _,_=>f9 K
 |.str _,_=>fc K
 |.tuple _,_=>cD K
 |.list _,_=>dY K
 |.dict kv,h=>absurd rfl (h kv)
theorem ck(K:PySem.W.Frag):PySem.W.kitOne K (.type "NoneType") (.type "bool")=some false:=by kernel_rfl
theorem eF(K:PySem.W.Frag):PySem.W.kitOne K (.type "str") (.type "bool")=some false:=by kernel_rfl
theorem cX(K:PySem.W.Frag):PySem.W.kitOne K (.type "tuple") (.type "bool")=some false:=by kernel_rfl
theorem d8(K:PySem.W.Frag):PySem.W.kitOne K (.type "list") (.type "bool")=some false:=by kernel_rfl
theorem RC(K:PySem.W.Frag):∀d:PyData,(∀kv,d≠.dict kv)→PySem.W.kitOne K (.type (MJ d)) (.type "int")=some (HL d)
 |.none,_=>fU K
 |.bool _,_=>dG K
 |.int _,_=>gF K
 |.str _,_=>dH K
 |.tuple _,_=>cI K
 |.list _,_=>ef K
 |.dict kv,h=>absurd rfl (h kv)
theorem QI(K:PySem.W.Frag):∀d:PyData,(∀kv,d≠.dict kv)→PySem.W.kitOne K (.type (MJ d)) (.type "bool")=some (Fv d)
 |.none,_=>ck K
 |.bool _,_=>fP K
 |.int _,_=>eW K
 |.str _,_=>eF K
 |.tuple _,_=>cX K
 |.list _,_=>d8 K
 |.dict kv,h=>absurd rfl (h kv)
theorem Dt.nodict{l:Addr}{H:Hp}{d:PyData}{v:V}(h:Dt l H d v):∀kv,d≠.dict kv:=fun kv z=>by subst z;rw[Dt]at h;exact h
theorem Uw{X:Cx}{e lo:Expr}{te tl:TE}{pos p2:Pos}(he:PE X e te)(hl:PE X lo tl):PE X (.Subscript e (.Slice (some lo) none none p2) pos)
  (fun σ H Q=>te σ H fun x H1=>tl σ H1 fun z H2=>∃(y:Str) (i:Int),x=.str y∧z=.int i∧y.length≤sizeLine∧Q (.str (Txt.slice y (some i) none)) H2):=by
 intro pins s σ H Q I h;refine Subscript_ (BD (he pins s σ H _ I h) fun v s1 ⟨x,H1,I1,r1,q1⟩=>?_);refine wpAny_Slice ?_;rw[evalPart_some];refine BD (hl pins s1 σ H1 _ I1 q1) fun vk s3 ⟨z,H3,I3,r3,q3⟩=>?_;rw[evalPart_none];refine aD ?_;refine aD ?_;obtain⟨y,i,rfl,rfl,hz,q⟩:=q3;obtain⟨t1,rfl⟩:=r1;obtain⟨t3,rfl⟩:=r3;show wpAny (model X.prog X.w) X.A (subscriptTail e (.Slice (some lo) none none p2) (.str y t1) (.ref s3.heap.objs.size)) (EP X pins σ Q) X.xe {s3 with heap:=s3.heap.push { cls:=.type "slice",data:=.fields #[.int i t3,.none,.none]} };obtain⟨T,id,hT,ht,hg⟩:=SBH.sliceItem_sn (prog:=X.prog) (w:=X.w) (A:=X.A) (E:=X.xe) (s:=s3) (x:=y) (t:=t1) (ui:=t3) (P:=fun h'=>∀b o,s3.heap.get? b=some o→h'.get? b=some o) (Q:=EP X pins σ Q) (fun h o k b ob q=>aI _ (k b ob q)) (fun _ _ q=>q)
  (fun h' t' k kk=>⟨.str (Txt.slice y (some i) none),H3,I3.kept (t':=k) kk,⟨t',rfl⟩,q⟩) hz
 exact tail_any (ops:=[.ref s3.heap.objs.size,.str y t1]) ht hT hg (by with_unfolding_all rfl)
end L2
namespace L2
open PySem PySem.Spec PyProof.Rows
section
variable{X:Cx}
def Ti:V→List V→Hp→VK→Prop:=fun x vs H Q=>∃l xs y,∃i:Int,∃k:Nat,x=.ref l∧vs=[.int i,y]∧i=(k:Int)∧H l=some (.lst xs)∧k≤xs.length∧xs.length<1000∧Q .BM (upd H l (.lst (xs.take k++y::xs.drop k)))
theorem QB:WH X "list.insert" Ti:=by
 intro pins s σ H x vs v us Q I rx rv h;obtain⟨l,xs,y,i,k,rfl,rfl,hi,hH,hk,hz,q⟩:=h;subst hi;cases rx;obtain⟨u,u2,rfl,ru,ru2⟩:=rv.two;obtain⟨t,rfl⟩:=ru;obtain⟨z,its,n,r,hl,e⟩:=I.L7 hH;have hf:Builtin.List.listFitsIndex (k:Int)=true:=by
  unfold Builtin.List.listFitsIndex;simp only[Bool.and_eq_true,decide_eq_true_eq]
  lia
 have hsz:its.toArray.size≤sizeLine:=by rw[List.size_toArray];lia
 have hf':¬(!Builtin.List.listFitsIndex (k:Int))=true:=by rw[hf];decide
 generalize hx:(k:Int)=x at hf hf';have M:=PySem.AutoSeq1.list_insert_list_int_val_1 l its.toArray n x t u2 hf' hsz;refine call_meets F.slot_list_insert ⟨_,e,rfl⟩ F.entry_list_insert (F.args_list_insert_3 (.ref l) (.int x t) u2) M ⟨e,?_⟩;subst hx;refine⟨.BM,_,I.SQ (ys:=xs.take k++y::xs.drop k) (its':=its.take k++u2::its.drop k) hH e ?_ ((r.take k).append (.cons ru2 (r.drop k))) ?_,rfl,q⟩
 ·have h0:¬((k:Int)<0):=by lia
  have hm:min k its.length=k:=by lia
  simp only[h0,if_false,Int.toNat_natCast,List.size_toArray,hm];simp[List.extract];rw[List.take_of_length_le (by simp)]
 ·rw[List.length_append,List.length_cons,List.length_take,List.length_drop];have:1000<sizeLine:=by rw[sizeLine_eq];decide
  lia
def gW:R2:=fun x y H Q=>∃a b xs ys,x=.ref a∧y=.ref b∧H a=some (.tup xs)∧H b=some (.tup ys)∧xs.length+ys.length≤sizeLine∧∀p H',AU H H'→H' p=some (.tup (xs++ys))→Q (.ref p) H'
theorem ZS:Cm X (binaryOp .Add) gW:=by
 intro pins s σ H x y v u Q I rx ry h;obtain⟨a,b,xs,ys,rfl,rfl,ha,hb,hz,q⟩:=h;cases rx;cases ry;obtain⟨its,r1,p1,_⟩:=I.tuple (CS.of (K:=X.K) ha);obtain⟨its2,r2,p2,_⟩:=I.tuple (CS.of (K:=X.K) hb);by_cases hv:its=[]
 ·have hx:=r1.Ug.mp hv;subst hv hx;obtain⟨⟨cls,dd,data,sl⟩,ho,hc,n,hd⟩:=id p1;obtain⟨⟨cls2,dd2,data2,sl2⟩,ho2,hc2,n2,hd2⟩:=id p2;simp only at hc hd hc2 hd2;subst hc hd hc2 hd2;exact concat_meets ⟨_,ho,rfl⟩ ⟨_,ho2,rfl⟩ noFill_tuple_add seq_tuple_add PySem.F.slot_tuple_add PySem.F.entry_tuple_add (PySem.F.args_tuple_add_2 _ _)
   (tuple_addW0 a b _ _ n n2 dd dd2 sl sl2 (by simp)) ⟨ho,ho2,⟨.ref b,H,I,rfl,q b H (.refl H) (by simpa using hb)⟩⟩
 ·refine HT.bX p1 p2 hv (fun z=>?_) (fun z=>?_) (by rw[←r1.length,←r2.length];exact hz)
  ·have hy:=r2.Ug.mp z;subst hy;exact⟨.ref a,H,I,rfl,q a H (.refl H) (by simpa using ha)⟩
  ·refine⟨.ref s.heap.objs.size,_,I.laid (t':=s.toks) (o:=.tup (xs++ys)) (fun b ob q=>aI _ q) (aJ _) ?_,rfl,q _ _ (BP (I.A7.fresh (aJ _)) _) Ad⟩;exact⟨by rw[List.length_append];exact hz,_,r1.append r2,IsTup.new _ _⟩
end
end L2
set_option maxHeartbeats 0
set_option maxHeartbeats 4000000
namespace L2
open PySem PySem.Spec PyProof.Rows
def Vj(K:PySem.W.Frag)(a:Addr):It :=
 ⟨fun i H=>∃xs x,BI K H a xs∧xs[i]? = some x,fun i H v H'=>∃p x,v=.ref p∧H p=none∧H'=upd H p (.tup [.int i,x])∧∀xs,BI K H a xs→xs[i]? = some x,fun i H=>∃xs,BI K H a xs∧xs.length=i⟩
theorem Uq{P:Program}{w:World}{K:PySem.W.Frag}{elts:List Expr}{x1}{pos:Pos}(a e it:Addr)(hne:e≠it) :
  Turn P w K (.Tuple elts x1 pos) (Vj K a) [e,it] e (fun i h=>(∃old,IsEnum h e it (i:Nat) old)∧h.IsListIter it a i) where
 mem:=by simp
 obj:=fun i h st b hb=>by
  rcases aL.mp hb with rfl|hb
  ·obtain⟨⟨old,q⟩,_⟩:=st;exact⟨_,q,fun v z=>by cases z⟩
  ·have e2:b=it:=by simpa using hb
   subst e2;obtain⟨_,o,q,c,d⟩:=st;exact⟨o,q,fun v z=>by rw[d]at z;cases z⟩
 keep:=fun i h h' st k=>by
  obtain⟨⟨old,q⟩,o,q2,r⟩:=st;exact⟨⟨old,k e (by simp) _ q⟩,o,k it (by simp) _ q2,r⟩
 item:=by
  intro X hP hw hK hc i pins s σ H E I hf st hg;subst hP hw hK;obtain⟨xs,x,hq,hx⟩:=hg;obtain⟨its,rv,pL,hz⟩:=I.list hq;have p:=pL.isList;obtain⟨u,hu,ru⟩:=rv.get hx;obtain⟨⟨old,he⟩,hit⟩:=st;have hai:a≠it:=fun z=>by
   obtain⟨o,e1,c1,_⟩:=p;obtain⟨o2,e2,c2,_⟩:=hit;rw[z,e2]at e1;cases e1;rw[c1]at c2;exact absurd c2 (by decide)
  have hae:a≠e:=fun z=>by
   obtain⟨o,e1,c1,_⟩:=p;rw[z,he]at e1;cases e1;exact absurd (show Value.type "enumerate" = Value.type "list" from c1) (by decide)
  have hlt:i<its.length:=(aE.mp hu).1;have hE0:=hf e (by simp);have hI0:=hf it (by simp);refine wpAny_pyNext_enum_itemD (Draws.list (prog:=X.prog) (w:=X.w) (A:=X.A.in1) (I.ok.hd hc) it a hai its.toArray) he ⟨hit,p⟩ (by simpa using hlt) hne (by simp[hne,Ne.symm hae]) fun y h' tk hy ho hs' hT hsz hk=>⟨_,rfl,wpAny_letOwnedTupleGo_enum (s:={s with heap:=h',toks:=tk+1}) ho fun h'' he'' sb=>?_⟩;have hyu:y=u:=by
   have hy:its[i]? = some y:=by simpa using hy
   rw[hu]at hy;exact(aU hy).symm
  subst hyu;have keep:∀b o,b≠e→b≠it→s.heap.get? b=some o→h''.get? b=some o:=fun b o h1 h2 q=>(sb.2 b h1).trans (hk b o h1 h2 q);have hTe:s.heap.objs.size≠e:=Nat.ne_of_gt (aF he);have hTi:s.heap.objs.size≠it:=let⟨_,q,_⟩:=hit;Nat.ne_of_gt (aF q);have hT'':h''.get? s.heap.objs.size=some { cls:=.type "tuple",data:=.seq #[.int i tk,y]}:=(sb.2 _ hTe).trans hT;have hTn:H s.heap.objs.size=none:=I.A7.fresh (aJ _);refine⟨.ref s.heap.objs.size,upd H s.heap.objs.size (.tup [.int i,x]),?_,rfl,⟨_,x,rfl,hTn,rfl,fun ys hy=>by rw[I.SV hy hq];exact hx⟩,⟨⟨_,by simpa using he''⟩,?_⟩,fun b hb=>?_⟩
  ·exact I.cK (ch:=[e,it]) hf (fun b o hb q=>keep b o (fun z=>hb (by simp[z])) (fun z=>hb (by simp[z])) q) ia (.cons ⟨tk,rfl⟩ (.cons ru .nil)) hT''
  ·obtain⟨⟨o,q,r⟩,_⟩:=hs';exact⟨o,(sb.2 it (Ne.symm hne)).trans q,r⟩
  ·rcases aL.mp hb with rfl|hb
   ·rw[AW (Ne.symm hTe)];exact hE0.1
   ·have e2:b=it:=by simpa using hb
    subst e2;rw[AW (Ne.symm hTi)];exact hI0.1
 done:=by
  intro X hP hw hK hc i pins s σ H E I hf st hg;subst hP hw hK;obtain⟨xs,hq,hx⟩:=hg;obtain⟨its,rv,pL,hz⟩:=I.list hq;have p:=pL.isList;obtain⟨⟨old,he⟩,hit⟩:=st;have hai:a≠it:=fun z=>by
   obtain⟨o,e1,c1,_⟩:=p;obtain⟨o2,e2,c2,_⟩:=hit;rw[z,e2]at e1;cases e1;rw[c1]at c2;exact absurd c2 (by decide)
  have hl:its.length=i:=by rw[←rv.length];exact hx
  subst hl;obtain⟨f0,f1,f2,f3,f4,f5⟩:=hf it (by simp);exact wpAny_pyNext_enum_endD (Draws.list (prog:=X.prog) (w:=X.w) (A:=X.A.in1) (I.ok.hd hc) it a hai its.toArray) he ⟨hit,p⟩ fun h' eb=>⟨rfl,I.turned (t':=s.toks) (fun b o hb q=>eb b o hb q) f0 f1 f3 f4 f5⟩
 self:=fun _ _ _ _ _ st h=>by
  obtain⟨⟨old,he⟩,_⟩:=st;exact wpAny_pyIter_enum he h
def cm(K:PySem.W.Frag)(ta:TA):TI:=fun σ H R=>ta σ H fun vs H1=>∃a,vs=[.ref a]∧(∃xs,BI K H1 a xs)∧R (Vj K a) H1
theorem YR{X:Cx}{elts:List Expr}{x1}{tpos:Pos}{a:Expr}{ta:TA}{p pos:Pos}(hg:Gl X "enumerate")(hm:X.mg "enumerate" = none)(ha:PA X [a] ta)(hs:starEach [a] X.env=[(false,eval a X.env)]:=by rfl) :
  PI X (.Tuple elts x1 tpos) (.Call (.Name "enumerate" p) [a] [] pos) (cm X.K ta):=by
 intro pins s σ H R I h;refine Call_ (Je I hg hm boot_enumerate (PyProof.Rows.callWith_type1 (BD (ha pos pins s σ H _ I h) fun us s1 ⟨vs,H1,I1,r1,q1⟩=>?_) hs rfl));obtain⟨t,e,⟨xs,hq⟩,q⟩:=q1;subst e;cases r1 with
 |cons r rr =>
  cases rr;cases r;obtain⟨its,rv,p',hz⟩:=I1.list hq;refine call_enumerate_list (show s1.heap.IsList t its.toArray from p'.isList) fun h' he hit hsz hk=>wpAny_pyIter_enum he ?_;have I2:Inv X pins σ H1 {s1 with heap:=h'}:=I1.kept (t':=s1.toks) hk;have hn:s1.heap.objs.size+1≠s1.heap.objs.size:=by lia
  refine⟨s1.heap.objs.size+1,[s1.heap.objs.size+1,s1.heap.objs.size],_,_,H1,rfl,I2,Uq t _ _ hn,⟨⟨_,he⟩,hit⟩,fun b hb=>?_,q⟩;have hb':s1.heap.objs.size≤b:=by
   have hb2:b=s1.heap.objs.size+1∨b=s1.heap.objs.size:=by simpa using hb
   rcases hb2 with z|z
   ·rw[z];exact Nat.le_succ _
   ·rw[z];exact aJ _
  exact I1.Rg hb' (I1.A7.fresh hb')
theorem WW{K:PySem.W.Frag}{a:Addr}{xs:List V}{g:TG}{tb:TS}{D:Ends}{σ:St}{H:Hp}(Pv:Nat→St→Hp→Prop)(h0:Pv 0 σ H)(hl:∀i σ H,i≤xs.length→Pv i σ H→BI K H a xs)
 (hs:∀i x σ H,xs[i]? = some x→Pv i σ H→∀p,H p=none→g (.ref p) σ (upd H p (.tup [.int (i:Nat),x])) fun σ2 H2=>tb {D with nx:=Pv (i+1),ct:=Pv (i+1),bk:=D.nx} σ2 H2)(hd:∀σ H,Pv xs.length σ H→D.nx σ H) :
  ∃W:Nat→Nat→St→Hp→Prop,(∃m,W 0 m σ H)∧∀i m σ H,W i m σ H →
   ((Vj K a).stop i H∧D.nx σ H)∨((Vj K a).go i H∧∃N:St→Hp→Prop,(∀σ' H',N σ' H'→∃m',m'<m∧W (i+1) m' σ' H')∧∀x H',(Vj K a).Gb i H x H'→g x σ H' fun σ2 H2=>tb {D with nx:=N,ct:=N,bk:=D.nx} σ2 H2):=by
 refine⟨fun i m σ H=>m=xs.length-i∧i≤xs.length∧Pv i σ H,⟨xs.length,by simp,Nat.zero_le _,h0⟩,?_⟩;rintro i m σ H ⟨rfl,hi,p⟩;have q:=hl i σ H hi p;by_cases hlt:i<xs.length
 ·refine .inr ⟨⟨xs,xs[i],q,by simp[hlt]⟩,Pv (i+1),fun σ' H' p'=>⟨xs.length-(i+1),by lia,rfl,hlt,p'⟩,fun x H' y=>?_⟩;obtain⟨pp,x',rfl,hn,rfl,y⟩:=y;exact hs i x' σ _ (y xs q) p pp hn
 ·have e:i=xs.length:=by lia
  subst e;exact .inl ⟨⟨xs,q,rfl⟩,hd σ H p⟩
end L2
namespace TH
open PySem PyProof.Rows PySem.SeqAt
def Up:Tr→List Int
 |.nil=>[]
 |.cons b r=>reduceHash (Builtin.Tuple.tupleHashOf (Up b))::Up r
def hJ(t:Tr):Int:=reduceHash (Builtin.Tuple.tupleHashOf (Up t))
end TH
namespace TH
open PySem PyProof.Rows
def gZ:Option Tr→Int
 |none=>4238894112
 |some t=>hJ t
abbrev KE:=Option Tr×Value×Value
def jZ(x:KE):DictEntry:=⟨gZ x.1,x.2.1,x.2.2⟩
end TH
namespace L2
open PySem PySem.Spec PyProof.Rows
abbrev KR:=Option Tr×V×V
def jf(q:KR)(x:TH.KE):Prop:=x.1=q.1∧RelV q.2.1 x.2.1∧RelV q.2.2 x.2.2
def dN(d:Addr)(r:List KR):HO:=.ext fun h=>(d==sysModules)=false∧∃o es ep xs,h.get? d=some o∧o.ExactDict∧o.data=.dict es ep∧es.toList=xs.map TH.jZ∧PySem.Paired jf r xs
def Ux(H:Hp):Option Tr→V→Prop
 |none,v=>v=.BM
 |some t,v=>t.deep<8∧Tv H t v
theorem Ux.same{H H':Hp}{k:Option Tr}{v:V}(h:Ux H k v)(e:AU H H'):Ux H' k v:=by
 cases k with
 |none=>exact h
 |some t=>exact⟨h.1,h.2.same e⟩
section
variable{X:Cx}{e:Expr}{t:TX}{x z n:Str}{G:Addr}{pz pn np spos tpos hpos pos:Pos}{j k:Nat}
def V6(K:PySem.W.Frag)(G:Addr)(t:TX)(j k:Nat):TS:=fun D σ H=>t σ H (fun _ H1=>D.nx σ H1) fun cls _ H'=>∃C,cls=.ref C∧DP K C G true ∧
 ∀ea,H' ea=none→D.nx (((σ.set k (some (.ref ea))).set j (some (.ref ea))).set k none) (upd H' ea (Hg ea cls))
theorem YE(he:cN X e t)(hN:X.N.Nodup)(hcalm:X.calm=true)(hj:X.N[j]? = some z)(hk:X.N[k]? = some n)(hlz:X.env.scope.names.lookup z=some .local)(hln:X.env.scope.names.lookup n=some .local)
 (hg:Gl X x)(hm:X.mg x=some (.ref G))(hkj:k≠j)(hstk:∃rest,X.stack=X.env::rest)(hfr:X.env.frame=some X.env.locals)
 (hd:(x==("__debug__" : Str))=false:=by decide)(hsw:swapsWith (.Name n pn) (some (.Name z pz)) tpos.line X.env=pure false:=by rfl)(hdn:(n==("__debug__" : Str))=false:=by decide)(hcn:(n==("__classdict__" : Str))=false:=by decide)
 (hse:swapsWith e none spos.line X.env=pure false:=by rfl):PS X (.Try [.Expr e spos] [.ExceptHandler (some (.Name x np)) (some n) [.Assign [.Name z pz] (.Name n pn) tpos] hpos] [] [] pos) (V6 X.K G t j k):=by
 intro pins s σ H D I h;refine wpAny_Try_except (wpAny_execs_cons (wpAny_Expr_any (aK (he pins s σ H _ _ I h) (fun v s1 ⟨w,H1,I1,r1,q1⟩=>?_) fun ev s1 hf=>?_) I.quiet hse))
 ·exact bD (bD ⟨_,H1,I1,q1⟩)
 ·exact WD hN hcalm hj hk hlz hln hg hm hkj hstk hfr hf hd hsw hdn hcn
end
end L2
set_option maxHeartbeats 1000000
namespace L2
open PySem PySem.Spec PyProof.Rows
theorem Rd.same{H H':Hp}{a:Addr}{u:HO}(e:AU H H')(h:Rd H a u):Rd H' a u:=by
 rcases h with h|⟨o,h⟩
 ·exact .inl (e _ _ h)
 ·exact .inr ⟨o,e _ _ h⟩
def Dx:Tr→List PyData
 |.nil=>[]
 |.cons b r=>.tuple (Dx b)::Dx r
def eN:Option Tr→PyData
 |none=>.none
 |some t=>.tuple (Dx t)
mutual
def Du(H:Hp):PyData→V→Prop
 |.none,v=>v=.BM
 |.bool b,v=>v=.bl b
 |.int i,v=>v=.int i
 |.str x,v=>v=.str x
 |.tuple ds,v=>∃a xs,v=.ref a∧H a=some (.tup xs)∧Ax H ds xs
 |.list ds,v=>∃a xs,v=.ref a∧H a=some (.lst xs)∧Ax H ds xs
 |.dict kv,v=>(∃ea C:Addr,kv=[(.int (C:Nat),.none)]∧v=.ref ea∧H ea=some (Hg ea (.ref C)))∨(∃(a:Addr) (ns:List Int),kv=[(.none,.list (ns.map .int))]∧v=.ref a∧Rd H a (.lst (ns.map V.int)))∨Jt H kv v
def Ax(H:Hp):List PyData→List V→Prop
 |[],xs=>xs=[]
 |d::ds,xs=>∃x r,xs=x::r∧Du H d x∧Ax H ds r
def Jt(H:Hp):List (PyData×PyData)→V→Prop
 |[],_=>False
 |(k0,d0)::t,v=>k0=.bool true∧d0=.none∧∃a r,v=.ref a∧H a=some (dN a r)∧(r.map (·.1)).Nodup∧Kx H t r
def Kx(H:Hp):List (PyData×PyData)→List KR→Prop
 |[],r=>r=[]
 |(k,d)::t,r=>∃q r',r=q::r'∧k=eN q.1∧Ux H q.1 q.2.1∧Du H d q.2.2∧Kx H t r'
end
mutual
theorem Du.same{H H':Hp}(e:AU H H'):∀ {d:PyData} {v:V},Du H d v→Du H' d v
 |.none,_,h=>by rw[Du]at h ⊢;exact h
 |.bool _,_,h=>by rw[Du]at h ⊢;exact h
 |.int _,_,h=>by rw[Du]at h ⊢;exact h
 |.str _,_,h=>by rw[Du]at h ⊢;exact h
 |.tuple _,_,h=>by
  rw[Du]at h ⊢;obtain⟨a,xs,e1,h1,h2⟩:=h;exact⟨a,xs,e1,e _ _ h1,Ax.same e h2⟩
 |.list _,_,h=>by
  rw[Du]at h ⊢;obtain⟨a,xs,e1,h1,h2⟩:=h;exact⟨a,xs,e1,e _ _ h1,Ax.same e h2⟩
 |.dict _,_,h=>by
  rw[Du]at h ⊢;rcases h with ⟨ea,C,e1,e2,h1⟩|⟨a,ns,e1,e2,h1⟩|h
  ·exact .inl ⟨ea,C,e1,e2,e _ _ h1⟩
  ·exact .inr (.inl ⟨a,ns,e1,e2,h1.same e⟩)
  ·exact .inr (.inr (Jt.same e h))
theorem Ax.same{H H':Hp}(e:AU H H'):∀ {ds:List PyData} {xs:List V},Ax H ds xs→Ax H' ds xs
 |[],_,h=>by rw[Ax]at h ⊢;exact h
 |_::_,_,h=>by
  rw[Ax]at h ⊢;obtain⟨x,r,e1,h1,h2⟩:=h;exact⟨x,r,e1,Du.same e h1,Ax.same e h2⟩
theorem Jt.same{H H':Hp}(e:AU H H'):∀ {kv:List (PyData×PyData)} {v:V},Jt H kv v→Jt H' kv v
 |[],_,h=>by rw[Jt]at h;exact h.elim
 |(_,_)::_,_,h=>by
  rw[Jt]at h ⊢;obtain⟨h1,h2,a,r,h3,h4,h5,h6⟩:=h;exact⟨h1,h2,a,r,h3,e _ _ h4,h5,Kx.same e h6⟩
theorem Kx.same{H H':Hp}(e:AU H H'):∀ {kv:List (PyData×PyData)} {r:List KR},Kx H kv r→Kx H' kv r
 |[],_,h=>by rw[Kx]at h ⊢;exact h
 |(_,_)::_,_,h=>by
  rw[Kx]at h ⊢;obtain⟨q,r',h1,h2,h3,h4,h5⟩:=h;exact⟨q,r',h1,h2,h3.same e,Du.same e h4,Kx.same e h5⟩
end
mutual
theorem Du.br{K:PySem.W.Frag}{H:Hp}:∀ {d:PyData} {v:V},d.canLay0=true→Du H d v→Br K H d v
 |.none,_,_,h=>by rw[Du]at h;rw[Br];exact h
 |.bool _,_,_,h=>by rw[Du]at h;rw[Br];exact h
 |.int _,_,_,h=>by rw[Du]at h;rw[Br];exact h
 |.str _,_,_,h=>by rw[Du]at h;rw[Br];exact h
 |.tuple _,_,c,h=>by
  rw[Du]at h;rw[Br];obtain⟨a,xs,e1,h1,h2⟩:=h;exact⟨a,xs,e1,CS.of h1,Ax.br (by simp only[PyData.canLay0,Bool.and_eq_true]at c;first|exact c|exact c.2|exact c.1) h2⟩
 |.list _,_,c,h=>by
  rw[Du]at h;rw[Br];obtain⟨a,xs,e1,h1,h2⟩:=h;exact⟨a,xs,e1,BI.of h1,Ax.br (by simp only[PyData.canLay0,Bool.and_eq_true]at c;first|exact c|exact c.2|exact c.1) h2⟩
 |.dict _,_,c,h=>by simp[PyData.canLay0]at c
theorem Ax.br{K:PySem.W.Frag}{H:Hp}:∀ {ds:List PyData} {xs:List V},PyData.canLayAll0 ds=true→Ax H ds xs→Fm K H ds xs
 |[],_,_,h=>by rw[Ax]at h;rw[Fm];exact h
 |_::_,_,c,h=>by
  rw[Ax]at h;rw[Fm];obtain⟨x,r,e1,h1,h2⟩:=h;simp only[PyData.canLayAll0,Bool.and_eq_true]at c;exact⟨x,r,e1,Du.br c.1 h1,Ax.br c.2 h2⟩
end
theorem Ax.nil{H:Hp}:Ax H [] []:=by rw[Ax]
theorem Ax.cons{H:Hp}{d:PyData}{ds:List PyData}{x:V}{xs:List V}(h:Du H d x)(k:Ax H ds xs):Ax H (d::ds) (x::xs):=by rw[Ax];exact⟨x,xs,rfl,h,k⟩
theorem Ax.un{H:Hp}{d:PyData}{ds:List PyData}{xs:List V}(h:Ax H (d::ds) xs):∃x r,xs=x::r∧Du H d x∧Ax H ds r:=by rw[Ax]at h;exact h
theorem Ax.nil_eq{H:Hp}{xs:List V}(h:Ax H [] xs):xs=[]:=by rw[Ax]at h;exact h
theorem Ax.len{H:Hp}:∀ {ds:List PyData} {xs:List V},Ax H ds xs→xs.length=ds.length
 |[],_,h=>by rw[h.nil_eq];rfl
 |_::_,_,h=>by obtain⟨x,r,rfl,_,h2⟩:=h.un;simp[h2.len]
theorem Ax.get{H:Hp}:∀ {ds:List PyData} {xs:List V} {i:Nat} {d:PyData},Ax H ds xs→ds[i]? = some d→∃v,xs[i]? = some v∧Du H d v
 |[],_,i,_,_,e=>by simp at e
 |_::_,_,0,_,h,e=>by
  obtain⟨x,r,rfl,h1,_⟩:=h.un;simp at e;subst e;exact⟨x,rfl,h1⟩
 |_::_,_,i+1,_,h,e=>by
  obtain⟨x,r,rfl,_,h2⟩:=h.un;obtain⟨v,k1,k2⟩:=h2.get (i:=i) (by simpa using e);exact⟨v,by simpa using k1,k2⟩
theorem Ax.back{H:Hp}{ds:List PyData}{xs:List V}{i:Nat}{v:V}(h:Ax H ds xs)(e:xs[i]? = some v):∃d,ds[i]? = some d∧Du H d v:=by
 have hl:=h.len;have hi:i<ds.length:=by rw[←hl];exact(aE.mp e).1
 have hd:ds[i]? = some ds[i]:=by simp[hi]
 obtain⟨w,k1,k2⟩:=h.get hd;rw[e]at k1;cases k1;exact⟨_,hd,k2⟩
theorem Ax.app{H:Hp}:∀ {ds es:List PyData} {xs ys:List V},Ax H ds xs→Ax H es ys→Ax H (ds++es) (xs++ys)
 |[],_,_,_,h,k=>by rw[h.nil_eq];exact k
 |_::_,_,_,_,h,k=>by obtain⟨x,r,rfl,h1,h2⟩:=h.un;exact .cons h1 (h2.app k)
theorem Ax.take{H:Hp}:∀ {ds:List PyData} {xs:List V} (i:Nat),Ax H ds xs→Ax H (ds.take i) (xs.take i)
 |_,_,0,_=>by rw[List.take_zero,List.take_zero];exact .nil
 |[],_,i+1,h=>by rw[h.nil_eq];exact .nil
 |_::_,_,i+1,h=>by obtain⟨x,r,rfl,h1,h2⟩:=h.un;exact .cons h1 (h2.take i)
theorem Ax.drop{H:Hp}:∀ {ds:List PyData} {xs:List V} (i:Nat),Ax H ds xs→Ax H (ds.drop i) (xs.drop i)
 |_,_,0,h=>h
 |[],_,i+1,h=>by rw[h.nil_eq];exact .nil
 |_::_,_,i+1,h=>by obtain⟨x,r,rfl,h1,h2⟩:=h.un;exact h2.drop i
inductive Oc where
 |lst (xs:List PyData)|V4 (kvs:List (List Key×PyData))|SH (kvs:List (Option Tr×PyData))
inductive L where
 |no|d (x:PyData)|own (c:Oc)
abbrev Dv:=List L
def Pl(G:Hp):List (List Key×PyData)→List (List Key×V)→Prop
 |[],r=>r=[]
 |q::t,r=>∃v r',r=(q.1,v)::r'∧Du G q.2 v∧Pl G t r'
theorem Pl.same{G G':Hp}(e:AU G G'):∀ {t:List (List Key×PyData)} {r:List (List Key×V)},Pl G t r→Pl G' t r
 |[],r,h=>h
 |q::t,r,h=>by
  obtain⟨v,r',rfl,h1,h2⟩:=h;exact⟨v,r',rfl,h1.same e,Pl.same e h2⟩
abbrev Y2(kvs:List (Option Tr×PyData)):List (PyData×PyData):=kvs.map fun q=>(eN q.1,q.2)
abbrev Qb(kvs:List (Option Tr×PyData)):PyData:=.dict ((.bool true,.none)::Y2 kvs)
def Ho(G:Hp)(a:Addr):Oc→HO→Prop
 |.lst xs,o=>∃ys,o=.lst ys∧Ax G xs ys
 |.V4 kvs,o=>∃r,o=.dT r∧Pl G kvs r
 |.SH kvs,o=>∃r,o=dN a r∧(r.map (·.1)).Nodup∧Kx G (Y2 kvs) r
theorem Ho.same{G G':Hp}{a:Addr}{c:Oc}{o:HO}(h:Ho G a c o)(e:AU G G'):Ho G' a c o:=by
 cases c with
 |SH kvs=>obtain⟨r,h1,h2,h3⟩:=h;exact⟨r,h1,h2,Kx.same e h3⟩
 |lst xs=>obtain⟨ys,h1,h2⟩:=h;exact⟨ys,h1,h2.same e⟩
 |V4 kvs=>obtain⟨ys,h1,h2⟩:=h;exact⟨ys,h1,h2.same e⟩
theorem Ho.Ui{G:Hp}{a:Addr}{c:Oc}{xs:List V}(h:Ho G a c (.tup xs)):False:=by
 cases c with
 |SH kvs=>obtain⟨r,h1,h2,h3⟩:=h;unfold dN at h1;cases h1
 |lst xs=>obtain⟨ys,h1,h2⟩:=h;cases h1
 |V4 kvs=>obtain⟨ys,h1,h2⟩:=h;cases h1
def Nw(G0 H0 G:Hp):Prop:=∀a o,G a=some o→G0 a=some o∨H0 a=none∨∃xs,o=HO.tup xs
structure Rw(G0 H0 G H:Hp)(σ:St)(δ:Dv)(ts:List (PyData×V)):Prop where
 ext:AU G0 G
 new:Nw G0 H0 G
 ins:AU G H
 keep:AU H0 H
 len:σ.length=δ.length
 dat:∀(i:Nat) (x:PyData),δ[i]? = some (L.d x)→∃v,σ[i]? = some (some v)∧Du G x v
 own:∀(i:Nat) (xs:Oc),δ[i]? = some (L.own xs)→∃(a:Addr) (ys:HO),σ[i]? = some (some (V.ref a))∧G a=none∧H0 a=none∧H a=some ys∧Ho G a xs ys
 apart:∀(i j:Nat) (xs ys:Oc),i≠j→δ[i]? = some (L.own xs)→δ[j]? = some (L.own ys)→σ[i]?≠σ[j]?
 BE:∀p∈ts,Du G p.1 p.2
def DE(X:Cx)(e:Expr)(f:Dv→Option PyData):Prop:=∃t,PE X e t∧∀δ x,f δ=some x→∀G0 H0 G H σ ts (Q:VK),Rw G0 H0 G H σ δ ts→(∀v G' H',Rw G0 H0 G' H' σ δ ((x,v)::ts)→Q v H')→t σ H Q
def DA(X:Cx)(es:List Expr)(f:Dv→Option (List PyData)):Prop:=∃t,PA X es t∧∀δ xs,f δ=some xs→∀G0 H0 G H σ ts (Q:List V→Hp→Prop),Rw G0 H0 G H σ δ ts→(∀vs G' H',Rw G0 H0 G' H' σ δ (xs.zip vs++ts)→vs.length=xs.length→Q vs H')→t σ H Q
def DT(X:Cx)(e:Expr)(f:Dv→Option Bool):Prop:=∃t,PT X e t∧∀δ b,f δ=some b→∀G0 H0 G H σ ts (Q:Bool→Hp→Prop),Rw G0 H0 G H σ δ ts→(∀G' H',Rw G0 H0 G' H' σ δ ts→Q b H')→t σ H Q
section
variable{G0 H0 G H:Hp}{σ:St}{δ:Dv}{ts:List (PyData×V)}
theorem Rw.drop{p:PyData×V}(r:Rw G0 H0 G H σ δ (p::ts)):Rw G0 H0 G H σ δ ts:={r with BE:=fun q hq=>r.BE q (.tail _ hq)}
theorem Rw.less{us:List (PyData×V)}(r:Rw G0 H0 G H σ δ ts)(h:∀p∈us,p∈ts):Rw G0 H0 G H σ δ us:={r with BE:=fun q hq=>r.BE q (h q hq)}
theorem Rw.put{x:PyData}{v:V}(r:Rw G0 H0 G H σ δ ts)(h:Du G x v):Rw G0 H0 G H σ δ ((x,v)::ts):={r with BE:=fun q hq=>by rcases aL.mp hq with rfl|hq;exact h;exact r.BE q hq}
theorem Rw.newObj{p:Addr}{o:HO}(r:Rw G0 H0 G H σ δ ts)(hp:H p=none):Rw G0 H0 (upd G p o) (upd H p o) σ δ ts:=by
 have hG:G p=none:=by
  cases q:G p with
  |none=>rfl
  |some u=>rw[r.ins _ _ q]at hp;cases hp
 have h0:H0 p=none:=by
  cases q:H0 p with
  |none=>rfl
  |some u=>rw[r.keep _ _ q]at hp;cases hp
 have e:AU G (upd G p o):=BP hG o;refine⟨r.ext.trans e,fun a u h=>?_,fun a u h=>?_,r.keep.trans (BP hp o),r.len,fun i x h=>?_,fun i xs h=>?_,r.apart,fun q hq=>(r.BE q hq).same e⟩
 ·by_cases ha:a=p
  ·subst ha;exact .inr (.inl h0)
  ·rw[AW ha]at h;exact r.new _ _ h
 ·by_cases ha:a=p
  ·subst ha;rw[Ad]at h ⊢;exact h
  ·rw[AW ha]at h ⊢;exact r.ins _ _ h
 ·obtain⟨v,k1,k2⟩:=r.dat i x h;exact⟨v,k1,k2.same e⟩
 ·obtain⟨a,ys,k1,k2,k3,k4,k5⟩:=r.own i xs h;have ha:a≠p:=fun z=>by subst z;rw[k4]at hp;cases hp
  exact⟨a,ys,k1,by rw[AW ha];exact k2,k3,by rw[AW ha];exact k4,k5.same e⟩
theorem Rw.dm{p:Addr}{xs:List V}{H':Hp}(r:Rw G0 H0 G H σ δ ts)(e:AU H H')(hp:H' p=some (.tup xs)):Rw G0 H0 (upd G p (.tup xs)) H' σ δ ts:=by
 have e1:AU G (upd G p (.tup xs)):=fun a o h=>by
  by_cases ha:a=p
  ·subst ha;have:=e _ _ (r.ins _ _ h);rw[hp]at this;rw[Ad];exact this
  ·rw[AW ha];exact h
 refine⟨r.ext.trans e1,fun a u h=>?_,fun a u h=>?_,r.keep.trans e,r.len,fun i x h=>?_,fun i xs h=>?_,r.apart,fun q hq=>(r.BE q hq).same e1⟩
 ·by_cases ha:a=p
  ·subst ha;rw[Ad]at h;cases h;exact .inr (.inr ⟨_,rfl⟩)
  ·rw[AW ha]at h;exact r.new _ _ h
 ·by_cases ha:a=p
  ·subst ha;rw[Ad]at h;rw[hp];exact h
  ·rw[AW ha]at h;exact e _ _ (r.ins _ _ h)
 ·obtain⟨v,k1,k2⟩:=r.dat i x h;exact⟨v,k1,k2.same e1⟩
 ·obtain⟨a,ys,k1,k2,k3,k4,k5⟩:=r.own i xs h;have ha:a≠p:=fun z=>by subst z;rw[e _ _ k4]at hp;cases hp;exact k5.Ui
  exact⟨a,ys,k1,by rw[AW ha];exact k2,k3,e _ _ k4,k5.same e1⟩
theorem Rw.lift{G' H':Hp}(r:Rw G0 H0 G H σ δ ts)(h1:AU G G')(h2:Nw G H G')(h3:AU G' H')(h4:AU H H'):Rw G0 H0 G' H' σ δ ts:=by
 refine⟨r.ext.trans h1,fun a o h=>?_,h3,r.keep.trans h4,r.len,fun i x h=>?_,fun i xs h=>?_,r.apart,fun q hq=>(r.BE q hq).same h1⟩
 ·rcases h2 a o h with k|k|k
  ·exact r.new a o k
  ·right;left
   cases q:H0 a with
   |none=>rfl
   |some u=>rw[r.keep _ _ q]at k;cases k
  ·exact .inr (.inr k)
 ·obtain⟨v,k1,k2⟩:=r.dat i x h;exact⟨v,k1,k2.same h1⟩
 ·obtain⟨a,ys,k1,k2,k3,k4,k5⟩:=r.own i xs h;refine⟨a,ys,k1,?_,k3,h4 _ _ k4,k5.same h1⟩;cases q:G' a with
  |none=>rfl
  |some u =>
   rcases h2 a u q with z|z|⟨xs',z⟩
   ·rw[k2]at z;cases z
   ·rw[k4]at z;cases z
   ·have:=h3 _ _ q;rw[h4 _ _ k4,z]at this;cases this;exact k5.Ui.elim
end
section
variable{X:Cx}{a b e:Expr}{f g h:Dv→Option PyData}{pos:Pos}
theorem AG{i j pos}:DE X (.Constant (.int i) j pos) (fun _=>some (.int i)):=⟨_,Ah,fun δ x h G0 H0 G H σ ts Q r k=>by cases h;exact k _ _ _ (r.put (by rw[Du]))⟩
theorem HE{i j pos}:DE X (.Constant (.bool i) j pos) (fun _=>some (.bool i)):=⟨_,IE,fun δ x h G0 H0 G H σ ts Q r k=>by cases h;exact k _ _ _ (r.put (by rw[Du]))⟩
theorem DM{j pos}:DE X (.Constant .none j pos) (fun _=>some .none):=⟨_,cA,fun δ x h G0 H0 G H σ ts Q r k=>by cases h;exact k _ _ _ (r.put (by rw[Du]))⟩
theorem Ac{i j pos}:DE X (.Constant (.str i) j pos) (fun _=>some (.str i)):=⟨_,dc,fun δ x h G0 H0 G H σ ts Q r k=>by cases h;exact k _ _ _ (r.put (by rw[Du]))⟩
def nm(i:Nat)(δ:Dv):Option PyData:=match δ[i]? with|some (.d x)=>some x|_=>none
theorem QZ{i:Nat}{δ:Dv}{x:PyData}(h:nm i δ=some x):δ[i]? = some (.d x):=by
 unfold nm at h;split at h
 ·rename_i y e;cases h;exact e
 ·cases h
theorem AA{i:Nat}{x:Str}(h:PE X (.Name x pos) (D0 i)):DE X (.Name x pos) (nm i):=⟨_,h,fun δ y hy G0 H0 G H σ ts Q r k=>by
 obtain⟨v,h1,h2⟩:=r.dat _ _ (QZ hy);exact⟨v,h1,k _ _ _ (r.put h2)⟩⟩
def AE(o:PyData→PyData→Option PyData)(f g:Dv→Option PyData)(δ:Dv):Option PyData:=(f δ).bind fun x=>(g δ).bind fun y=>o x y
def Dj(X:Cx)(m:Value→Value→Sem Value)(o:PyData→PyData→Option PyData):Prop:=∃r:R2,Cm X m r∧∀x y z,o x y=some z→∀G0 H0 G H σ δ ts u v (Q:VK),Rw G0 H0 G H σ δ ts→Du G x u→Du G y v→(∀w G' H',Rw G0 H0 G' H' σ δ ((z,w)::ts)→Q w H')→r u v H Q
theorem two{x y:PyData}{f g:Dv→Option PyData}{δ:Dv}{o:PyData→PyData→Option PyData}{z:PyData}(h:AE o f g δ=some z):∃x y,f δ=some x∧g δ=some y∧o x y=some z:=by
 unfold AE at h;obtain⟨x,h1,h2⟩:=aA.mp h;obtain⟨y,h3,h4⟩:=aA.mp h2;exact⟨x,y,h1,h3,h4⟩
theorem AV{op:Operator}{o:PyData→PyData→Option PyData}(ho:Dj X (binaryOp op) o)(ha:DE X a f)(hb:DE X b g):DE X (.BinOp a op b pos) (AE o f g):=by
 obtain⟨r,hr,kr⟩:=ho;obtain⟨ta,pa,ka⟩:=ha;obtain⟨tb,pb,kb⟩:=hb;refine⟨_,Bn hr pa pb,fun δ z hz G0 H0 G H σ ts Q R0 k=>?_⟩;obtain⟨x,y,h1,h2,h3⟩:=two (x:=.none) (y:=.none) hz;refine ka δ x h1 G0 H0 G H σ ts _ R0 fun u G1 H1 R1=>?_;refine kb δ y h2 G0 H0 G1 H1 σ _ _ R1 fun v G2 H2 R2=>?_;exact kr x y z h3 G0 H0 G2 H2 σ δ ts u v Q (R2.drop.drop) (R2.BE (x,u) (.tail _ (.head _))) (R2.BE (y,v) (.head _)) k
theorem MR{op:CmpOp}{o:PyData→PyData→Option PyData}(ho:Dj X (compareOp op) o)(ha:DE X a f)(hb:DE X b g)(hm:behindInMarks op b=false):DE X (.Compare a [op] [b] pos) (AE o f g):=by
 obtain⟨r,hr,kr⟩:=ho;obtain⟨ta,pa,ka⟩:=ha;obtain⟨tb,pb,kb⟩:=hb;refine⟨_,M1 hr pa pb hm,fun δ z hz G0 H0 G H σ ts Q R0 k=>?_⟩;obtain⟨x,y,h1,h2,h3⟩:=two (x:=.none) (y:=.none) hz;refine ka δ x h1 G0 H0 G H σ ts _ R0 fun u G1 H1 R1=>?_;refine kb δ y h2 G0 H0 G1 H1 σ _ _ R1 fun v G2 H2 R2=>?_;exact kr x y z h3 G0 H0 G2 H2 σ δ ts u v Q (R2.drop.drop) (R2.BE (x,u) (.tail _ (.head _))) (R2.BE (y,v) (.head _)) k
end
section
variable{X:Cx}
def D7(o o':PyData→PyData→Option PyData)(x y:PyData):Option PyData:=match o x y with|some z=>some z|none=>o' x y
theorem Dj.or{m:Value→Value→Sem Value}{o o':PyData→PyData→Option PyData}(h:Dj X m o)(h':Dj X m o'):Dj X m (D7 o o'):=by
 obtain⟨r,hr,kr⟩:=h;obtain⟨r',hr',kr'⟩:=h';refine⟨_,Cm.or hr hr',fun x y z hz G0 H0 G H σ δ ts u v Q R0 du dv k=>?_⟩;unfold D7 at hz;split at hz
 ·rename_i z' e;cases hz;exact .inl (kr x y z e G0 H0 G H σ δ ts u v Q R0 du dv k)
 ·exact .inr (kr' x y z hz G0 H0 G H σ δ ts u v Q R0 du dv k)
theorem M4{m:Value→Value→Sem Value}{C:Int→Int→Prop}{gv:Int→Int→V}{o:Int→Int→Option PyData}(ho:Cm X m (rI C gv))(hC:∀i j z,o i j=some z→C i j∧∀H,Du H z (gv i j)) :
  Dj X m (fun x y=>match x,y with|.int i,.int j=>o i j|_,_=>none):=by
 refine⟨_,ho,fun x y z hz G0 H0 G H σ δ ts u v Q R0 du dv k=>?_⟩;dsimp only at hz;split at hz
 ·rename_i i j;rw[Du]at du dv;obtain⟨h1,h2⟩:=hC i j z hz;exact⟨i,j,du,dv,h1,k _ _ _ (R0.put (h2 _))⟩
 ·cases hz
theorem Jp{m:Value→Value→Sem Value}{gv:Int→Int→V}{o:Int→Int→PyData}(ho:Cm X m (P5 gv))(hC:∀i j H,Du H (o i j) (gv i j)) :
  Dj X m (fun x y=>match x,y with|.int i,.int j=>some (o i j)|_,_=>none):=by
 refine⟨_,ho,fun x y z hz G0 H0 G H σ δ ts u v Q R0 du dv k=>?_⟩;dsimp only at hz;split at hz
 ·rename_i i j;cases hz;rw[Du]at du dv;exact⟨i,j,du,dv,k _ _ _ (R0.put (hC _ _ _))⟩
 ·cases hz
def CG:Nat:=1000
theorem T2{n:Nat}(h:n≤CG):n<sizeLine:=QL h
theorem ED{n:Nat}(h:n≤CG):n≤sizeLine:=Nat.le_of_lt (QL h)
def Qx:PyData→PyData→Option PyData:=fun x y=>match x,y with|.int i,.int j=>some (.int (i+j))|_,_=>none
def En:PyData→PyData→Option PyData:=fun x y=>match x,y with|.int i,.int j=>some (.int (i-j))|_,_=>none
def HZ(n:Nat)(i:Int):Bool:=decide (i.natAbs<2^n)
def Ow(i j:Int):Bool:=HZ 64 i||HZ 64 j||(HZ 9000 i&&HZ 9000 j)
def U6:PyData→PyData→Option PyData:=fun x y=>match x,y with|.int i,.int j=>(if Ow i j=true then some (.int (i*j)) else none)|_,_=>none
def D1:PyData→PyData→Option PyData:=fun x y=>match x,y with|.int i,.int j=>(if j≠0∧HZ 9000 j=true then some (.int (i.fdiv j)) else none)|_,_=>none
def A9:PyData→PyData→Option PyData:=fun x y=>match x,y with|.int i,.int j=>(if j≠0 then some (.int (i.fmod j)) else none)|_,_=>none
def RJ:PyData→PyData→Option PyData:=fun x y=>match x,y with|.int i,.int j=>(if 0≤j∧j≤1000∧HZ 64 i=true then some (.int (i^j.toNat)) else none)|_,_=>none
theorem bj:Dj X (binaryOp .Add) Qx:=Jp Ke fun _ _ _=>by rw[Du]
theorem JE:Dj X (binaryOp .Sub) En:=Jp N7 fun _ _ _=>by rw[Du]
theorem Yo{i:Int}(h:HZ 64 i=true):-(2^64)<i∧i<2^64:=by
 have:=ag h
 lia
theorem bo:Dj X (binaryOp .Mult) U6:=M4 (o:=fun i j=>if Ow i j=true then some (.int (i*j)) else none) Kr fun i j z h=>by
 split at h
 ·rename_i q;cases h;refine⟨?_,fun _=>by rw[Du]⟩;unfold Ow at q;rw[Bool.or_eq_true,Bool.or_eq_true,Bool.and_eq_true]at q;rcases q with (q|q)|q
  ·exact .inl (.inl (Yo q))
  ·exact .inl (.inr (Yo q))
  ·exact .inr ⟨9000,by decide,of_decide_eq_true q.1,of_decide_eq_true q.2⟩
 ·cases h
theorem E5:Dj X (binaryOp .FloorDiv) D1:=M4 (o:=fun i j=>if j≠0∧HZ 9000 j=true then some (.int (i.fdiv j)) else none) JQ fun i j z h=>by
 split at h
 ·rename_i q;cases h;exact⟨⟨q.1,9000,Nat.le_refl _,of_decide_eq_true q.2⟩,fun _=>by rw[Du]⟩
 ·cases h
theorem BJ:Dj X (binaryOp .Mod) A9:=M4 (o:=fun i j=>if j≠0 then some (.int (i.fmod j)) else none) JI fun i j z h=>by
 split at h
 ·rename_i q;cases h;exact⟨q,fun _=>by rw[Du]⟩
 ·cases h
theorem Zt:Dj X (binaryOp .Pow) RJ:=M4 (o:=fun i j=>if 0≤j∧j≤1000∧HZ 64 i=true then some (.int (i^j.toNat)) else none) Vv fun i j z h=>by
 split at h
 ·rename_i q;cases h;exact⟨⟨q.1,by lia,of_decide_eq_true q.2.2⟩,fun _=>by rw[Du]⟩
 ·cases h
def Bv(p:Int→Int→Bool):PyData→PyData→Option PyData:=fun x y=>match x,y with|.int i,.int j=>some (.bool (p i j))|_,_=>none
theorem NC:Dj X (compareOp .Lt) (Bv fun i j=>decide (i<j)):=Jp (o:=fun i j=>.bool (decide (i<j))) Uv fun _ _ _=>by rw[Du]
theorem Lf:Dj X (compareOp .Gt) (Bv fun i j=>decide (j<i)):=Jp (o:=fun i j=>.bool (decide (j<i))) Qg fun _ _ _=>by rw[Du]
theorem gu:Dj X (compareOp .GtE) (Bv fun i j=>decide (j≤i)):=Jp (o:=fun i j=>.bool (decide (j≤i))) Yp fun _ _ _=>by rw[Du]
def HP:PyData→PyData→Option PyData:=fun x y=>match x,y with|.list a,.list b=>(if a.length+b.length≤CG then some (.list (a++b)) else none)|_,_=>none
theorem Z0:Dj X (binaryOp .Add) HP:=by
 refine⟨_,fv,fun x y z hz G0 H0 G H σ δ ts u v Q R0 du dv k=>?_⟩;unfold HP at hz;split at hz
 ·rename_i a b;split at hz
  ·rename_i hl;cases hz;rw[Du]at du dv;obtain⟨p,xs,rfl,h1,h2⟩:=du;obtain⟨q,ys,rfl,h3,h4⟩:=dv;refine⟨p,q,xs,ys,rfl,rfl,R0.ins _ _ h1,R0.ins _ _ h3,ED (by rw[h2.len,h4.len];exact hl),fun l hl'=>?_⟩;have R1:=R0.newObj (o:=.lst (xs++ys)) hl';refine k _ _ _ (R1.put ?_);rw[Du];have e:AU G (upd G l (.lst (xs++ys))):=fun a o h=>by
    have:=R0.ins _ _ h;rw[AW (BG this hl')];exact h
   exact⟨l,xs++ys,rfl,Ad,(h2.same e).app (h4.same e)⟩
  ·cases hz
 ·cases hz
def M6:PyData→PyData→Option PyData:=fun x y=>match x,y with|.tuple a,.tuple b=>(if a.length+b.length≤CG then some (.tuple (a++b)) else none)|_,_=>none
theorem Zw:Dj X (binaryOp .Add) M6:=by
 refine⟨_,ZS,fun x y z hz G0 H0 G H σ δ ts u v Q R0 du dv k=>?_⟩;unfold M6 at hz;split at hz
 ·rename_i a b;split at hz
  ·rename_i hl;cases hz;rw[Du]at du dv;obtain⟨p,xs,rfl,h1,h2⟩:=du;obtain⟨q,ys,rfl,h3,h4⟩:=dv;refine⟨p,q,xs,ys,rfl,rfl,R0.ins _ _ h1,R0.ins _ _ h3,ED (by rw[h2.len,h4.len];exact hl),fun l H' e hp=>?_⟩;have R1:=R0.dm e hp;refine k _ _ _ (R1.put ?_);rw[Du];have e1:AU G (upd G l (.tup (xs++ys))):=fun a o h=>by
    by_cases ha:a=l
    ·subst ha;have:=e _ _ (R0.ins _ _ h);rw[hp]at this;rw[Ad];exact this
    ·rw[AW ha];exact h
   exact⟨l,xs++ys,rfl,Ad,(h2.same e1).app (h4.same e1)⟩
  ·cases hz
 ·cases hz
def Ml:PyData→PyData→Option PyData:=fun x y=>match x,y with|.str a,.str b=>(if a.length+b.length≤CG then some (.str (a++b)) else none)|_,_=>none
theorem Zq:Dj X (binaryOp .Add) Ml:=by
 refine⟨_,VT,fun x y z hz G0 H0 G H σ δ ts u v Q R0 du dv k=>?_⟩;unfold Ml at hz;split at hz
 ·rename_i a b;split at hz
  ·rename_i hl;cases hz;rw[Du]at du dv;exact⟨a,b,du,dv,ED hl,k _ _ _ (R0.put (by rw[Du]))⟩
  ·cases hz
 ·cases hz
def Az:PyData→PyData→Option PyData:=D7 Qx (D7 HP (D7 M6 Ml))
theorem A2:Dj X (binaryOp .Add) Az:=bj.or (Z0.or (Zw.or Zq))
def Q9:PyData→PyData→Option PyData:=fun x y=>match x,y with|.list a,.int k=>(if a.length*k.toNat≤CG∧-1000000≤k∧k≤1000000 then some (.list (List.replicate k.toNat a).flatten) else none)|_,_=>none
theorem Ax.rep{H:Hp}{ds:List PyData}{xs:List V}(h:Ax H ds xs):∀n,Ax H (List.replicate n ds).flatten (List.replicate n xs).flatten
 |0=>.nil
 |n+1=>by rw[List.replicate_succ,List.replicate_succ,List.flatten_cons,List.flatten_cons];exact h.app (h.rep n)
theorem a8:Dj X (binaryOp .Mult) Q9:=by
 refine⟨_,cq,fun x y z hz G0 H0 G H σ δ ts u v Q R0 du dv k=>?_⟩;unfold Q9 at hz;split at hz
 ·rename_i a n;split at hz
  ·rename_i hl;cases hz;rw[Du]at du;rw[Du]at dv;obtain⟨p,xs,rfl,h1,h2⟩:=du;subst dv;refine⟨p,n,xs,rfl,rfl,R0.ins _ _ h1,by lia,by lia,ED (by rw[h2.len];exact hl.1),fun l hl'=>?_⟩;have R1:=R0.newObj (o:=.lst (List.replicate n.toNat xs).flatten) hl';refine k _ _ _ (R1.put ?_);rw[Du];have e:AU G (upd G l (.lst (List.replicate n.toNat xs).flatten)):=fun a o h=>by
    have:=R0.ins _ _ h;rw[AW (BG this hl')];exact h
   exact⟨l,_,rfl,Ad,(h2.same e).rep _⟩
  ·cases hz
 ·cases hz
def FU:PyData→PyData→Option PyData:=D7 U6 Q9
theorem Fb:Dj X (binaryOp .Mult) FU:=bo.or a8
theorem J5{d:PyData}(h:SeqAt.shaped d=true):d.canLay0=true:=by unfold SeqAt.shaped at h;rw[Bool.and_eq_true]at h;exact h.1
def A0(neg:Bool):PyData→PyData→Option PyData:=fun x y=>if SeqAt.shaped x=true∧SeqAt.shaped y=true then some (.bool (if neg then !PyData.eqv x y else PyData.eqv x y)) else none
theorem Wq{m:Value→Value→Sem Value}{neg:Bool}(ho:Cm X m (YW X.K neg)):Dj X m (A0 neg):=by
 refine⟨_,ho,fun x y z hz G0 H0 G H σ δ ts u v Q R0 du dv k=>?_⟩;unfold A0 at hz;split at hz
 ·rename_i hs;cases hz;exact⟨x,y,(du.same R0.ins).br (J5 hs.1),(dv.same R0.ins).br (J5 hs.2),hs.1,hs.2,k _ _ _ (R0.put (by rw[Du]))⟩
 ·cases hz
theorem DC(hu:X.A.units+64<cLine):Dj X (compareOp .Eq) (A0 false):=Wq (cZ hu)
theorem Fh(hu:X.A.units+64<cLine):Dj X (compareOp .NotEq) (A0 true):=Wq (eO hu)
def PyData.Xb:PyData→Bool
 |.none=>true
 |_=>false
theorem Vu{H:Hp}:∀ {x:PyData} {u:V},Du H x u→decide (u=.BM)=PyData.Xb x
 |.none,u,h=>by rw[Du]at h;subst h;rfl
 |.bool _,u,h=>by rw[Du]at h;subst h;rfl
 |.int _,u,h=>by rw[Du]at h;subst h;rfl
 |.str _,u,h=>by rw[Du]at h;subst h;rfl
 |.tuple _,u,h=>by rw[Du]at h;obtain⟨a,xs,rfl,_⟩:=h;rfl
 |.list _,u,h=>by rw[Du]at h;obtain⟨a,xs,rfl,_⟩:=h;rfl
 |.dict [],u,h=>by rw[Du,Jt]at h;rcases h with ⟨ea,C,_,rfl,_⟩|⟨a,ns,_,rfl,_⟩|h;rfl;rfl;exact h.elim
 |.dict ((_,_)::_),u,h=>by rw[Du,Jt]at h;rcases h with ⟨ea,C,_,rfl,_⟩|⟨a,ns,_,rfl,_⟩|⟨_,_,a,r,rfl,_⟩<;>rfl
def Oj(neg:Bool):PyData→PyData→Option PyData:=fun x y=>match y with
 |.none=>some (.bool (if neg then !PyData.Xb x else PyData.Xb x))
 |_=>none
theorem VA:Dj X (compareOp .Is) (Oj false):=by
 refine⟨_,cE,fun x y z hz G0 H0 G H σ δ ts u v Q R0 du dv k=>?_⟩;unfold Oj at hz;split at hz
 ·cases hz;rw[Du]at dv;refine⟨dv,?_⟩;rw[Vu du];exact k _ _ _ (R0.put (by rw[Du];rfl))
 ·cases hz
theorem Xq:Dj X (compareOp .IsNot) (Oj true):=by
 refine⟨_,bZ,fun x y z hz G0 H0 G H σ δ ts u v Q R0 du dv k=>?_⟩;unfold Oj at hz;split at hz
 ·cases hz;rw[Du]at dv;refine⟨dv,?_⟩;rw[Vu du];exact k _ _ _ (R0.put (by rw[Du];rfl))
 ·cases hz
end
section
variable{X:Cx}{a b c e:Expr}{es:List Expr}{f g h:Dv→Option PyData}{pos p:Pos}
def Md:PyData→Option Bool
 |.bool b=>some b
 |_=>none
def Od:PyData→Option Int
 |.int b=>some b
 |_=>none
theorem Rc{x:PyData}{b:Bool}(h:Md x=some b):x=.bool b:=by
 unfold Md at h;split at h
 ·cases h;rfl
 ·cases h
theorem OH{x:PyData}{b:Int}(h:Od x=some b):x=.int b:=by
 unfold Od at h;split at h
 ·cases h;rfl
 ·cases h
theorem K0(ha:DE X a f):DE X (.UnaryOp .USub a pos) (fun δ=>(f δ).bind fun x=>(Od x).map fun i=>.int (-i)):=by
 obtain⟨ta,pa,ka⟩:=ha;refine⟨_,Ur SE pa,fun δ z hz G0 H0 G H σ ts Q R0 k=>?_⟩;obtain⟨x,h1,h2⟩:=aA.mp hz;obtain⟨i,h3,rfl⟩:=aB.mp h2;have:=OH h3;subst this;refine ka δ _ h1 G0 H0 G H σ ts _ R0 fun u G1 H1 R1=>?_;have:=R1.BE _ (.head _);rw[Du]at this;exact⟨i,this,k _ _ _ (R1.drop.put (by rw[Du]))⟩
variable{fa fb:Dv→Option Bool}
def DW(X:Cx)(e:Expr)(f:Dv→Option Bool):Prop:=∃t,PW X e t∧∀δ b,f δ=some b→∀G0 H0 G H σ ts (Q:Bool→Hp→Prop),Rw G0 H0 G H σ δ ts→(∀G' H',Rw G0 H0 G' H' σ δ ts→Q b H')→t σ H Q
theorem DW.dt(h:DW X e fa):DT X e fa:=let⟨t,p,k⟩:=h;⟨t,p.pt,k⟩
theorem Aq{op:CmpOp}{o:PyData→PyData→Option PyData}(ho:Dj X (compareOp op) o)(ha:DE X a f)(hb:DE X b g)(hm:behindInMarks op b=false):DT X (.Compare a [op] [b] pos) (fun δ=>(AE o f g δ).bind Md):=by
 obtain⟨r,hr,kr⟩:=ho;obtain⟨ta,pa,ka⟩:=ha;obtain⟨tb,pb,kb⟩:=hb;refine⟨_,Ek hr pa pb hm,fun δ z hz G0 H0 G H σ ts Q R0 k=>?_⟩;obtain⟨q,h0,h4⟩:=aA.mp hz;have:=Rc h4;subst this;obtain⟨x,y,h1,h2,h3⟩:=two (x:=.none) (y:=.none) h0;refine ka δ x h1 G0 H0 G H σ ts _ R0 fun u G1 H1 R1=>?_;refine kb δ y h2 G0 H0 G1 H1 σ _ _ R1 fun v G2 H2 R2=>?_;refine kr x y _ h3 G0 H0 G2 H2 σ δ ts u v _ (R2.drop.drop) (R2.BE (x,u) (.tail _ (.head _))) (R2.BE (y,v) (.head _)) fun w G3 H3 R3=>?_;have hu:=R3.BE _ (.head _);rw[Du]at hu;exact⟨z,hu,k _ _ R3.drop⟩
theorem Di(ha : DE X e f)(he : ∀ whole,isTrue e X.env whole = (do let v ← whole; standAt e.pos; holding [v] (truthy v)) := by intro _; rfl) : DT X e (fun δ => (f δ).bind Md) := by
  obtain ⟨ta,pa,ka⟩:=ha
  refine ⟨_,HC pa he,fun δ z hz G0 H0 G H σ ts Q R0 k => ?_⟩
  obtain ⟨q,h0,h4⟩:=aA.mp hz
  have:=Rc h4; subst this
  refine ka δ _ h0 G0 H0 G H σ ts _ R0 fun u G1 H1 R1 => ?_
  have hu:=R1.BE _ (.head _)
  rw [Du] at hu
  exact ⟨z,hu,k _ _ R1.drop⟩
theorem Eb(ha:DT X a fa):DT X (.UnaryOp .Not a pos) (fun δ=>(fa δ).map fun c=>!c):=by
 obtain⟨ta,pa,ka⟩:=ha;refine⟨_,HK pa,fun δ z hz G0 H0 G H σ ts Q R0 k=>?_⟩;obtain⟨i,h3,rfl⟩:=aB.mp hz;exact ka δ _ h3 G0 H0 G H σ ts _ R0 fun G1 H1 R1=>k _ _ R1
theorem DK{op:BoolOp}(ha:DT X a fa):DW X (.BoolOp op [a] pos) fa:=by
 obtain⟨ta,pa,ka⟩:=ha;cases op
 ·exact⟨_,ZP pa,ka⟩
 ·exact⟨_,Ki pa,ka⟩
theorem Sf{rest:List Expr}(ha:DT X a fa)(hb:DW X (.BoolOp .And (b::rest) pos) fb):DW X (.BoolOp .And (a::b::rest) pos) (fun δ=>(fa δ).bind fun c=>if c=true then fb δ else some false):=by
 obtain⟨ta,pa,ka⟩:=ha;obtain⟨tb,pb,kb⟩:=hb;refine⟨_,fm pa pb,fun δ z hz G0 H0 G H σ ts Q R0 k=>?_⟩;obtain⟨i,h3,h4⟩:=aA.mp hz;refine ka δ _ h3 G0 H0 G H σ ts _ R0 fun G1 H1 R1=>?_;split
 ·rename_i hc;rw[if_pos hc]at h4;exact kb δ z h4 G0 H0 G1 H1 σ ts Q R1 k
 ·rename_i hc;rw[if_neg hc]at h4;cases h4;exact k _ _ R1
theorem D5{rest:List Expr}(ha:DT X a fa)(hb:DW X (.BoolOp .Or (b::rest) pos) fb):DW X (.BoolOp .Or (a::b::rest) pos) (fun δ=>(fa δ).bind fun c=>if c=true then some true else fb δ):=by
 obtain⟨ta,pa,ka⟩:=ha;obtain⟨tb,pb,kb⟩:=hb;refine⟨_,LY pa pb,fun δ z hz G0 H0 G H σ ts Q R0 k=>?_⟩;obtain⟨i,h3,h4⟩:=aA.mp hz;refine ka δ _ h3 G0 H0 G H σ ts _ R0 fun G1 H1 R1=>?_;split
 ·rename_i hc;rw[if_pos hc]at h4;cases h4;exact k _ _ R1
 ·rename_i hc;rw[if_neg hc]at h4;exact kb δ z h4 G0 H0 G1 H1 σ ts Q R1 k
theorem gb(hc:DT X c fa)(ha:DE X a f)(hb:DE X b g):DE X (.IfExp c a b pos) (fun δ=>(fa δ).bind fun c=>if c=true then f δ else g δ):=by
 obtain⟨tc,pc,kc⟩:=hc;obtain⟨ta,pa,ka⟩:=ha;obtain⟨tb,pb,kb⟩:=hb;refine⟨_,X3 pc pa pb,fun δ z hz G0 H0 G H σ ts Q R0 k=>?_⟩;obtain⟨i,h3,h4⟩:=aA.mp hz;refine kc δ _ h3 G0 H0 G H σ ts _ R0 fun G1 H1 R1=>?_;split
 ·rename_i hc;rw[if_pos hc]at h4;exact ka δ z h4 G0 H0 G1 H1 σ ts Q R1 k
 ·rename_i hc;rw[if_neg hc]at h4;exact kb δ z h4 G0 H0 G1 H1 σ ts Q R1 k
variable{fs:Dv→Option (List PyData)}
theorem AK:DA X [] (fun _=>some []):=⟨_,Af,fun δ xs h G0 H0 G H σ ts Q R0 k=>by cases h;exact k [] G H (by simpa using R0) rfl⟩
theorem AD(ha:DE X e f)(hr:DA X es fs)(hs:starEach (e::es) X.env=(false,eval e X.env)::starEach es X.env:=by rfl):DA X (e::es) (fun δ=>(f δ).bind fun x=>(fs δ).map fun xs=>x::xs):=by
 obtain⟨ta,pa,ka⟩:=ha;obtain⟨tr,pr,kr⟩:=hr;refine⟨_,AM pa pr hs,fun δ z hz G0 H0 G H σ ts Q R0 k=>?_⟩;obtain⟨x,h1,h2⟩:=aA.mp hz;obtain⟨xs,h3,rfl⟩:=aB.mp h2;refine ka δ x h1 G0 H0 G H σ ts _ R0 fun u G1 H1 R1=>?_;refine kr δ xs h3 G0 H0 G1 H1 σ _ _ R1 fun vs G2 H2 R2 hl=>?_;refine k (u::vs) G2 H2 (R2.less fun q hq=>?_) (by simp[hl]);simp only[List.zip_cons_cons,List.cons_append,List.mem_cons,List.mem_append]at hq ⊢;rcases hq with h|h|h
 ·exact .inr (.inl h)
 ·exact .inl h
 ·exact .inr (.inr h)
theorem XB{G:Hp}:∀ {xs:List PyData} {vs:List V},vs.length=xs.length→(∀q∈xs.zip vs,Du G q.1 q.2)→Ax G xs vs
 |[],vs,hl,_=>by rw[List.eq_nil_of_length_eq_zero hl];exact .nil
 |x::xs,[],hl,_=>by simp at hl
 |x::xs,v::vs,hl,h=>.cons (h (x,v) (by simp)) (XB (by simpa using hl) fun q hq=>h q (by simp[hq]))
theorem Rw.args{G0 H0 G H:Hp}{σ:St}{δ:Dv}{ts:List (PyData×V)}{xs:List PyData}{vs:List V}(r:Rw G0 H0 G H σ δ (xs.zip vs++ts))(hl:vs.length=xs.length):Ax G xs vs∧Rw G0 H0 G H σ δ ts :=
 ⟨XB hl fun q hq=>r.BE q (List.mem_append_left _ hq),r.less fun q hq=>aP _ hq⟩
theorem Rw.KJ{G0 H0 G H:Hp}{σ:St}{δ:Dv}{ts:List (PyData×V)}{xs:List PyData}{vs:List V}{p:Addr}(r:Rw G0 H0 G H σ δ ts)(d:Ax G xs vs)(hp:H p=none):Rw G0 H0 (upd G p (.lst vs)) (upd H p (.lst vs)) σ δ ((.list xs,.ref p)::ts):=by
 refine(r.newObj hp).put ?_;have e:AU G (upd G p (.lst vs)):=fun a o h=>by rw[AW (BG (r.ins _ _ h) hp)];exact h
 rw[Du];exact⟨p,vs,rfl,Ad,d.same e⟩
theorem Rw.ec{G0 H0 G H:Hp}{σ:St}{δ:Dv}{ts:List (PyData×V)}{xs:List PyData}{vs:List V}{p:Addr}(r:Rw G0 H0 G H σ δ ts)(d:Ax G xs vs)(hp:H p=none):Rw G0 H0 (upd G p (.tup vs)) (upd H p (.tup vs)) σ δ ((.tuple xs,.ref p)::ts):=by
 refine(r.newObj hp).put ?_;have e:AU G (upd G p (.tup vs)):=fun a o h=>by rw[AW (BG (r.ins _ _ h) hp)];exact h
 rw[Du];exact⟨p,vs,rfl,Ad,d.same e⟩
def Ej(xs:List PyData):Option (List PyData):=if xs.length≤CG then some xs else none
theorem OO{xs ys:List PyData}(h:Ej xs=some ys):xs=ys∧xs.length≤CG:=by
 unfold Ej at h;split at h
 ·rename_i q;cases h;exact⟨rfl,q⟩
 ·cases h
theorem HQ{x1}(ha:DA X es fs):DE X (.Tuple es x1 pos) (fun δ=>((fs δ).bind Ej).map .tuple):=by
 obtain⟨ta,pa,ka⟩:=ha;refine⟨_,Jn pa,fun δ z hz G0 H0 G H σ ts Q R0 k=>?_⟩;obtain⟨ys,h1,rfl⟩:=aB.mp hz;obtain⟨xs,h2,h3⟩:=aA.mp h1;obtain⟨rfl,hl⟩:=OO h3;refine ka δ _ h2 G0 H0 G H σ ts _ R0 fun vs G1 H1 R1 hv=>?_;obtain⟨d,R2⟩:=R1.args hv;exact⟨ED (by rw[hv];exact hl),fun q hq=>k _ _ _ (R2.ec d hq)⟩
theorem CF(ha:DA X es fs):DE X (.List es pos) (fun δ=>((fs δ).bind Ej).map .list):=by
 obtain⟨ta,pa,ka⟩:=ha;refine⟨_,O0 pa,fun δ z hz G0 H0 G H σ ts Q R0 k=>?_⟩;obtain⟨ys,h1,rfl⟩:=aB.mp hz;obtain⟨xs,h2,h3⟩:=aA.mp h1;obtain⟨rfl,hl⟩:=OO h3;refine ka δ _ h2 G0 H0 G H σ ts _ R0 fun vs G1 H1 R1 hv=>?_;obtain⟨d,R2⟩:=R1.args hv;exact⟨ED (by rw[hv];exact hl),fun q hq=>k _ _ _ (R2.KJ d hq)⟩
theorem Ax.C3{H:Hp}{ds:List PyData}{xs:List V}{i:Int}{d:PyData}(h:Ax H ds xs)(e:C3 ds i=some d):∃v,C3 xs i=some v∧Du H d v:=by
 unfold L2.C3 at e ⊢;rw[h.len];obtain⟨j,h1,h2⟩:=aA.mp e;obtain⟨v,h3,h4⟩:=h.get h2;exact⟨v,by rw[h1];exact h3,h4⟩
theorem QG{G:Hp}:∀ns:List Int,Ax G (ns.map .int) (ns.map V.int)
 |[]=>.nil
 |n::ns=>.cons (by rw[Du]) (QG ns)
def Ap:PyData→PyData→Option PyData:=fun x y=>match x,y with
 |.list xs,.int i=>C3 xs i
 |.tuple xs,.int i=>C3 xs i
 |.dict [(.none,.list xs)],.int i=>C3 xs i
 |.str z,.int i=>if z.length≤CG then(C3 z.cps.toList i).map fun c=>.str ⟨#[c]⟩ else none
 |_,_=>none
theorem A6(ha:DE X a f)(hb:DE X b g)(hs:PK b):DE X (.Subscript a b pos) (AE Ap f g):=by
 obtain⟨ta,pa,ka⟩:=ha;obtain⟨tb,pb,kb⟩:=hb;refine⟨_,CM eV pa pb hs,fun δ z hz G0 H0 G H σ ts Q R0 k=>?_⟩;obtain⟨x,y,h1,h2,h3⟩:=two (x:=.none) (y:=.none) hz;refine ka δ x h1 G0 H0 G H σ ts _ R0 fun u G1 H1 R1=>?_;refine kb δ y h2 G0 H0 G1 H1 σ _ _ R1 fun v G2 H2 R2=>?_;have du:=R2.BE (x,u) (.tail _ (.head _));have dv:=R2.BE (y,v) (.head _);unfold Ap at h3;split at h3
 ·rw[Du]at du;rw[Du]at dv;obtain⟨p,xs,rfl,h4,h5⟩:=du;obtain⟨w,h6,h7⟩:=h5.C3 h3;exact .inl ⟨p,xs,_,w,rfl,dv,BI.of (R2.ins _ _ h4),h6,k _ _ _ (R2.drop.drop.put h7)⟩
 ·rw[Du]at du;rw[Du]at dv;obtain⟨p,xs,rfl,h4,h5⟩:=du;obtain⟨w,h6,h7⟩:=h5.C3 h3;exact .inr (.inl ⟨p,xs,_,w,rfl,dv,CS.of (R2.ins _ _ h4),h6,k _ _ _ (R2.drop.drop.put h7)⟩)
 ·rw[Du]at du;rw[Du]at dv;rcases du with ⟨ea,C,e1,_⟩|⟨p,ns,e1,rfl,h4⟩|z
  rotate_left 2
  ·rw[Jt]at z;cases z.1
  ·simp at e1
  ·obtain rfl:_=ns.map PyData.int:=by simpa using e1
   obtain⟨w,h6,h7⟩:=(QG (G:=_) ns).C3 h3;exact .inl ⟨p,_,_,w,rfl,dv,.inl (h4.same R2.ins),h6,k _ _ _ (R2.drop.drop.put h7)⟩
 ·rw[Du]at du;rw[Du]at dv;split at h3
  ·rename_i hl;obtain⟨ch,h6,rfl⟩:=aB.mp h3;exact .inr (.inr ⟨_,_,ch,du,dv,ED hl,h6,k _ _ _ (R2.drop.drop.put (by rw[Du]))⟩)
  ·cases h3
 ·cases h3
end
def BR(g:List PyData→Option PyData):Sp:=fun vs H Q _=>∃ds x G,g ds=some x∧Ax G ds vs∧AU G H∧∀v G' H',AU G G'→Nw G H G'→AU G' H'→AU H H'→Du G' x v→Q v H'
section
variable{X:Cx}{a e:Expr}{es:List Expr}{f h:Dv→Option PyData}{fs:Dv→Option (List PyData)}{pos p:Pos}
theorem A8{k:Nat}{fA:Addr}{fd:FuncData}{ps:List Str}{m:List PyData→Option PyData}{x:Str}{st:Stmt}(T:Fn X.K X.mg x st ps fA fd)(F:Ab X.prog X.w X.K X.mg X.base Ao k fA fd ps (BR m))(hr:Bf k X.A)(hg:Gl X x)(ha:DA X (e::es) fs)
 (hdb:(x==("__debug__" : Str))=false:=by decide)(he:starEach (e::es) X.env=(false,eval e X.env)::starEach es X.env:=by rfl)(hpl:(backTo pos (starEach es X.env)).any (·.1)=false:=by rfl) :
  DE X (.Call (.Name x p) (e::es) [] pos) (fun δ=>(fs δ).bind m):=by
 obtain⟨ta,pa,ka⟩:=ha;refine⟨_,EN T F hr hg pa hdb he hpl,fun δ z hz G0 H0 G H σ ts Q R0 k=>?_⟩;obtain⟨xs,h1,h2⟩:=aA.mp hz;refine ka δ _ h1 G0 H0 G H σ ts _ R0 fun vs G1 H1 R1 hv=>?_;obtain⟨d,R2⟩:=R1.args hv;refine⟨xs,z,G1,h2,by rw[List.append_nil];exact d,R2.ins,fun v G' H' h3 h4 h5 h6 h7=>?_⟩;exact k _ _ _ ((R2.lift h3 h4 h5 h6).put h7)
def IC(X:Cx)(v:Value)(o:List PyData→Option PyData):Prop:=∃r,Fp X v r∧∀xs z,o xs=some z→∀G0 H0 G H σ δ ts us (Q:VK),Rw G0 H0 G H σ δ ts→Ax G xs us→(∀w G' H',Rw G0 H0 G' H' σ δ ((z,w)::ts)→Q w H')→r us H Q
theorem BK{x:Str}{id:String}{o:List PyData→Option PyData}(hc:IC X (.builtin id) o)(hg:Gl X x)(hm:X.mg x=none)(hv:bootBuiltins x=some (.builtin id))(ha:DA X (e::es) fs)(hn:x ≠ "__name__" := by decide)(hdb:(x==("__debug__" : Str))=false:=by decide)
 (he:starEach (e::es) X.env=(false,eval e X.env)::starEach es X.env:=by rfl)(hpl:(backTo pos (starEach es X.env)).any (·.1)=false:=by rfl):DE X (.Call (.Name x p) (e::es) [] pos) (fun δ=>(fs δ).bind o):=by
 obtain⟨r,hr,kr⟩:=hc;obtain⟨ta,pa,ka⟩:=ha;refine⟨_,BV hr hg hm hv pa hn hdb he hpl,fun δ z hz G0 H0 G H σ ts Q R0 k=>?_⟩;obtain⟨xs,h1,h2⟩:=aA.mp hz;refine ka δ _ h1 G0 H0 G H σ ts _ R0 fun vs G1 H1 R1 hv=>?_;obtain⟨d,R2⟩:=R1.args hv;exact kr xs z h2 G0 H0 G1 H1 σ δ ts vs Q R2 d k
theorem EG{x:Str}{T:String}{o:List PyData→Option PyData}(hc:IC X (.type T) o)(hg:Gl X x)(hm:X.mg x=none)(hv:bootBuiltins x=some (.type T))(ha:DA X (e::es) fs)(hn:x ≠ "__name__" := by decide)(hdb:(x==("__debug__" : Str))=false:=by decide)
 (he:starEach (e::es) X.env=(false,eval e X.env)::starEach es X.env:=by rfl)(hpl:(backTo pos (starEach es X.env)).any (·.1)=false:=by rfl):DE X (.Call (.Name x p) (e::es) [] pos) (fun δ=>(fs δ).bind o):=by
 obtain⟨r,hr,kr⟩:=hc;obtain⟨ta,pa,ka⟩:=ha;refine⟨_,Pr hr hg hm hv pa hn hdb he hpl,fun δ z hz G0 H0 G H σ ts Q R0 k=>?_⟩;obtain⟨xs,h1,h2⟩:=aA.mp hz;refine ka δ _ h1 G0 H0 G H σ ts _ R0 fun vs G1 H1 R1 hv=>?_;obtain⟨d,R2⟩:=R1.args hv;exact kr xs z h2 G0 H0 G1 H1 σ δ ts vs Q R2 d k
theorem Ax.JR{H:Hp}{d:PyData}{xs:List V}(h:Ax H [d] xs):∃x,xs=[x]∧Du H d x:=by
 obtain⟨x,r,rfl,h1,h2⟩:=h.un;rw[h2.nil_eq];exact⟨x,rfl,h1⟩
theorem Ax.Yk{H:Hp}{d e:PyData}{xs:List V}(h:Ax H [d,e] xs):∃x y,xs=[x,y]∧Du H d x∧Du H e y:=by
 obtain⟨x,r,rfl,h1,h2⟩:=h.un;obtain⟨y,rfl,h3⟩:=h2.JR;exact⟨x,y,rfl,h1,h3⟩
def BO:List PyData→Option PyData
 |[.list xs]=>some (.int xs.length)
 |[.tuple xs]=>some (.int xs.length)
 |[.dict [(.none,.list xs)]]=>some (.int xs.length)
 |_=>none
theorem DL:IC X (.builtin "len") BO:=by
 refine⟨_,CL,fun xs z hz G0 H0 G H σ δ ts us Q R0 d k=>?_⟩;unfold BO at hz;split at hz
 ·cases hz;obtain⟨u,rfl,du⟩:=d.JR;rw[Du]at du;obtain⟨p,ys,rfl,h4,h5⟩:=du;refine⟨p,ys,rfl,.inl (BI.of (R0.ins _ _ h4)),?_⟩;rw[h5.len];exact k _ _ _ (R0.put (by rw[Du]))
 ·cases hz;obtain⟨u,rfl,du⟩:=d.JR;rw[Du]at du;obtain⟨p,ys,rfl,h4,h5⟩:=du;refine⟨p,ys,rfl,.inr (CS.of (R0.ins _ _ h4)),?_⟩;rw[h5.len];exact k _ _ _ (R0.put (by rw[Du]))
 ·cases hz;obtain⟨u,rfl,du⟩:=d.JR;rw[Du]at du;rcases du with ⟨ea,C,e1,_⟩|⟨p,ns,e1,rfl,h4⟩|z
  rotate_left 2
  ·rw[Jt]at z;cases z.1
  ·simp at e1
  ·obtain rfl:_=ns.map PyData.int:=by simpa using e1
   refine⟨p,_,rfl,.inl (.inl (h4.same R0.ins)),?_⟩;rw[List.length_map]at k ⊢;exact k _ _ _ (R0.put (by rw[Du]))
 ·cases hz
def RZ:List PyData→Option PyData
 |[.int i]=>some (.int (if i<0 then -i else i))
 |_=>none
theorem fM:IC X (.builtin "abs") RZ:=by
 refine⟨_,Jc,fun xs z hz G0 H0 G H σ δ ts us Q R0 d k=>?_⟩;unfold RZ at hz;split at hz
 ·cases hz;obtain⟨u,rfl,du⟩:=d.JR;rw[Du]at du;subst du;exact⟨_,rfl,k _ _ _ (R0.put (by rw[Du]))⟩
 ·cases hz
def Hs:List PyData→Option PyData
 |[.list xs]=>some (.list xs)
 |[.tuple xs]=>some (.list xs)
 |_=>none
theorem UU:IC X (.type "list") Hs:=by
 refine⟨_,MD,fun xs z hz G0 H0 G H σ δ ts us Q R0 d k=>?_⟩;unfold Hs at hz;split at hz
 ·cases hz;obtain⟨u,rfl,du⟩:=d.JR;rw[Du]at du;obtain⟨p,ys,rfl,h4,h5⟩:=du;exact⟨p,ys,rfl,.inl (BI.of (R0.ins _ _ h4)),fun l hl=>k _ _ _ (R0.KJ h5 hl)⟩
 ·cases hz;obtain⟨u,rfl,du⟩:=d.JR;rw[Du]at du;obtain⟨p,ys,rfl,h4,h5⟩:=du;exact⟨p,ys,rfl,.inr (CS.of (R0.ins _ _ h4)),fun l hl=>k _ _ _ (R0.KJ h5 hl)⟩
 ·cases hz
theorem Du.ty{K:PySem.W.Frag}{H:Hp}:∀ {d:PyData} {v:V},(∀kv,d≠.dict kv)→Du H d v→GR K H v (.type (MJ d))∧∀kv,d≠.dict kv
 |.none,_,_,h=>by rw[Du]at h;subst h;exact⟨.BM,by simp⟩
 |.bool _,_,_,h=>by rw[Du]at h;subst h;exact⟨.bl _,by simp⟩
 |.int _,_,_,h=>by rw[Du]at h;subst h;exact⟨.int _,by simp⟩
 |.str _,_,_,h=>by rw[Du]at h;subst h;exact⟨.str _,by simp⟩
 |.tuple _,_,_,h=>by rw[Du]at h;obtain⟨a,xs,rfl,h1,_⟩:=h;exact⟨.tup h1,by simp⟩
 |.list _,_,_,h=>by rw[Du]at h;obtain⟨a,xs,rfl,h1,_⟩:=h;exact⟨.lst h1,by simp⟩
 |.dict _,_,n,h=>absurd rfl (n _)
def Ut(q:PyData→Bool):PyData→Option PyData
 |.dict _=>none
 |x=>some (.bool (q x))
theorem Ze{q:PyData→Bool}{x z:PyData}(h:Ut q x=some z):(∀kv,x≠.dict kv)∧z=.bool (q x):=by
 unfold Ut at h;split at h
 ·cases h
 ·rename_i n;cases h;exact⟨fun kv e=>n kv e,rfl⟩
theorem Jf{T:String}{q:PyData→Bool}{xT:Str}{p1 p2:Pos}(hk:∀d:PyData,(∀kv,d≠.dict kv)→PySem.W.kitOne X.K (.type (MJ d)) (.type T)=some (q d))(hg:Gl X "isinstance")(hm:X.mg "isinstance" = none)(hgT:Gl X xT)(hmT:X.mg xT=none)(hvT:bootBuiltins xT=some (.type T))(ha:DE X a f)
 (hnT:xT ≠ "__name__" := by decide)(hdT:(xT==("__debug__" : Str))=false:=by decide)(hs1:starEach [a,.Name xT p2] X.env=(false,eval a X.env)::starEach [.Name xT p2] X.env:=by rfl)(hpl:(backTo pos (starEach [.Name xT p2] X.env)).any (·.1)=false:=by rfl) :
  DE X (.Call (.Name "isinstance" p1) [a,.Name xT p2] [] pos) (fun δ=>(f δ).bind (Ut q)):=by
 obtain⟨ta,pa,ka⟩:=ha;have pT:PE X (.Name xT p2) (tC (.ty T)):=Gi hgT hmT hvT rfl hnT hdT;refine⟨_,BV GU hg hm aY (AM pa (AM pT Af) hs1) (by decide) (by decide) hs1 hpl,fun δ z hz G0 H0 G H σ ts Q R0 k=>?_⟩;obtain⟨x,h1,h2⟩:=aA.mp hz;obtain⟨n1,rfl⟩:=Ze h2;refine ka δ _ h1 G0 H0 G H σ ts _ R0 fun u G1 H1 R1=>?_;have du:=R1.BE _ (.head _);obtain⟨t1,t2⟩:=(du.same R1.ins).ty (K:=X.K) n1;exact⟨u,.ty T,_,q x,rfl,by simp[Cd],t1,hk x t2,k _ _ _ (R1.drop.put (by rw[Du]))⟩
end
inductive Ou where
 |nx (δ:Dv)|rt (x:PyData)|bk (δ:Dv)|ct (δ:Dv)|rn (xs:List PyData)
def Fin(G0 H0:Hp)(D:Ends):Ou→Prop
 |.nx δ=>∀σ G H,Rw G0 H0 G H σ δ []→D.nx σ H
 |.rt x=>∀v G H,AU G0 G→Nw G0 H0 G→AU G H→AU H0 H→Du G x v→D.rt v H
 |.bk δ=>∀σ G H,Rw G0 H0 G H σ δ []→D.bk σ H
 |.ct δ=>∀σ G H,Rw G0 H0 G H σ δ []→D.ct σ H
 |.rn xs=>∀a ys G H,AU G0 G→Nw G0 H0 G→AU G H→AU H0 H→H0 a=none→G a=none→H a=some (.lst ys)→Ax G xs ys→D.rt (.ref a) H
abbrev DF:=Dv→Option Ou
def DS(X:Cx)(st:Stmt)(F:DF):Prop:=∃t,PS X st t∧∀δ r,F δ=some r→∀G0 H0 G H σ D,Rw G0 H0 G H σ δ []→Fin G0 H0 D r→t D σ H
def Fz(X:Cx)(st:List Stmt)(F:DF):Prop:=∃t,Gj X st t∧∀δ r,F δ=some r→∀G0 H0 G H σ D,Rw G0 H0 G H σ δ []→Fin G0 H0 D r→t D σ H
def AX(F1 F2:DF)(δ:Dv):Option Ou:=match F1 δ with
 |some (.nx δ')=>F2 δ'
 |o=>o
section
variable{X:Cx}{c e:Expr}{f h:Dv→Option PyData}{fa:Dv→Option Bool}{pos p:Pos}{st:Stmt}{sts sts':List Stmt}{F1 F2:DF}
theorem BB:Fz X [] (fun δ=>some (.nx δ)):=⟨_,DQ,fun δ r h G0 H0 G H σ D R k=>by cases h;exact k _ _ _ R⟩
theorem AQ(h1:DS X st F1)(h2:Fz X sts F2):Fz X (st::sts) (AX F1 F2):=by
 obtain⟨t1,p1,k1⟩:=h1;obtain⟨t2,p2,k2⟩:=h2;refine⟨_,A4 p1 p2,fun δ r h G0 H0 G H σ D R k=>?_⟩;unfold AX at h;split at h
 ·rename_i δ' e1;exact k1 δ _ e1 G0 H0 G H σ _ R fun σ' G' H' R'=>k2 δ' r h G0 H0 G' H' σ' D R' k
 ·rename_i hne;refine k1 δ r h G0 H0 G H σ _ R ?_;cases r with
  |nx δ'=>exact absurd h (hne δ')
  |rt x=>exact k
  |bk δ'=>exact k
  |ct δ'=>exact k
  |rn xs=>exact k
theorem Aa(h1:DS X st F1):Fz X [st] F1:=by
 obtain⟨t1,p1,k1⟩:=h1;exact⟨_,BH p1,k1⟩
theorem Ay(he:DE X e f):DS X (.Return (some e) pos) (fun δ=>(f δ).map .rt):=by
 obtain⟨t,p,k⟩:=he;refine⟨_,Cs p,fun δ r h G0 H0 G H σ D R q=>?_⟩;obtain⟨x,h1,rfl⟩:=aB.mp h;exact k δ x h1 G0 H0 G H σ [] _ R fun v G' H' R'=>q v G' H' R'.ext R'.new R'.ins R'.keep (R'.BE _ (.head _))
theorem Bx(hc:DT X c fa)(h1:Fz X sts F1)(h2:Fz X sts' F2):DS X (.If c sts sts' pos) (fun δ=>(fa δ).bind fun c=>if c=true then F1 δ else F2 δ):=by
 obtain⟨tc,pc,kc⟩:=hc;obtain⟨t1,p1,k1⟩:=h1;obtain⟨t2,p2,k2⟩:=h2;refine⟨_,FL pc p1 p2,fun δ r h G0 H0 G H σ D R q=>?_⟩;obtain⟨i,h3,h4⟩:=aA.mp h;refine kc δ i h3 G0 H0 G H σ [] _ R fun G' H' R'=>?_;split
 ·rename_i hc;rw[if_pos hc]at h4;exact k1 δ r h4 G0 H0 G' H' σ D R' q
 ·rename_i hc;rw[if_neg hc]at h4;exact k2 δ r h4 G0 H0 G' H' σ D R' q
end
section
variable{G0 H0 G H:Hp}{σ:St}{δ:Dv}{ts:List (PyData×V)}
theorem Rw.Ie{i:Nat}{x:PyData}{v:V}(r:Rw G0 H0 G H σ δ ((x,v)::ts)):Rw G0 H0 G H (σ.set i (some v)) (δ.set i (.d x)) ts:=by
 have hl:=r.len;refine⟨r.ext,r.new,r.ins,r.keep,by simp[hl],fun j y h=>?_,fun j ys h=>?_,fun j l ys zs hjl h1 h2=>?_,fun q hq=>r.BE q (.tail _ hq)⟩
 ·by_cases hj:i=j
  ·subst hj;by_cases hi:i<δ.length
   ·rw[List.getElem?_set_self hi]at h;cases h;exact⟨v,by rw[List.getElem?_set_self (by lia)],r.BE _ (.head _)⟩
   ·rw[List.getElem?_eq_none (by simp;lia)]at h;cases h
  ·rw[List.getElem?_set_ne hj]at h;obtain⟨w,k1,k2⟩:=r.dat j y h;exact⟨w,by rw[List.getElem?_set_ne hj];exact k1,k2⟩
 ·by_cases hj:i=j
  ·subst hj;by_cases hi:i<δ.length
   ·rw[List.getElem?_set_self hi]at h;cases h
   ·rw[List.getElem?_eq_none (by simp;lia)]at h;cases h
  ·rw[List.getElem?_set_ne hj]at h;obtain⟨w,k1,k2,k3⟩:=r.own j ys h;exact⟨w,k1,by rw[List.getElem?_set_ne hj];exact k2,k3⟩
 ·have nj:i≠j:=fun z=>by
   subst z;by_cases hi:i<δ.length
   ·rw[List.getElem?_set_self hi]at h1;cases h1
   ·rw[List.getElem?_eq_none (by simp;lia)]at h1;cases h1
  have nl:i≠l:=fun z=>by
   subst z;by_cases hi:i<δ.length
   ·rw[List.getElem?_set_self hi]at h2;cases h2
   ·rw[List.getElem?_eq_none (by simp;lia)]at h2;cases h2
  rw[List.getElem?_set_ne nj]at h1 ⊢;rw[List.getElem?_set_ne nl]at h2 ⊢;exact r.apart j l ys zs hjl h1 h2
end
section
variable{X:Cx}{e:Expr}{f:Dv→Option PyData}{pos p:Pos}
theorem Aw{i:Nat}{x:Str}{pos':Pos}(hN:X.N.Nodup)(hi:X.N[i]? = some x)(hx:Loc X.env.scope x)(he:DE X e f)(hs:swapsWith e (some (.Name x pos')) pos.line X.env=pure false:=by rfl)(hf:X.fn x=true∨X.env.scope.names.lookup x=some .local:=by first|exact .inl rfl|exact .inr rfl|assumption) :
  DS X (.Assign [.Name x pos'] e pos) (fun δ=>(f δ).map fun y=>.nx (δ.set i (.d y))):=by
 obtain⟨t,p,k⟩:=he;refine⟨_,Bp hN hi hx p hs hf,fun δ r h G0 H0 G H σ D R q=>?_⟩;obtain⟨y,h1,rfl⟩:=aB.mp h;exact k δ y h1 G0 H0 G H σ [] _ R fun v G' H' R'=>q _ _ _ R'.Ie
end
section
variable{G0 H0 G H:Hp}{σ:St}{δ:Dv}{ts:List (PyData×V)}
theorem Rw.base(r:Rw G0 H0 G H σ δ ts):Rw G H0 G H σ δ ts:={r with ext:=AU.refl G,new:=fun _ _ h=>.inl h}
theorem Nw.trans{G1 G2:Hp}(a:Nw G0 H0 G1)(b:Nw G1 H0 G2):Nw G0 H0 G2:=fun c o h=>by
 rcases b c o h with z|z|z
 ·exact a c o z
 ·exact .inr (.inl z)
 ·exact .inr (.inr z)
theorem Rw.Sk{G' H':Hp}{σ':St}{δ':Dv}{ts':List (PyData×V)}(r:Rw G0 H0 G H σ δ ts)(q:Rw G H0 G' H' σ' δ' ts'):Rw G0 H0 G' H' σ' δ' ts':={q with ext:=r.ext.trans q.ext,new:=r.new.trans q.new}
def E1(i:Nat)(δ:Dv):Dv:=match δ[i]? with
 |some (.own (.lst xs))=>δ.set i (.d (.list xs))
 |some (.own (.SH kvs))=>δ.set i (.d (Qb kvs))
 |_=>δ
theorem Rw.letGo{i:Nat}{c:Oc}{x:PyData}(r:Rw G0 H0 G H σ δ ts)(hi:δ[i]? = some (.own c))(hx:∀a o,G a=none→Ho G a c o→Du (upd G a o) x (.ref a)):∃a o,σ[i]? = some (some (.ref a))∧G a=none∧H0 a=none∧H a=some o∧Ho G a c o∧Rw G0 H0 (upd G a o) H σ (δ.set i (.d x)) ts:=by
 obtain⟨a,o,k1,k2,k3,k4,k5⟩:=r.own i _ hi;have e:AU G (upd G a o):=BP k2 _;have hlt:i<δ.length:=(aE.mp hi).1;refine⟨a,o,k1,k2,k3,k4,k5,r.ext.trans e,fun b o' h=>?_,fun b o' h=>?_,r.keep,by simp[r.len],fun j y h=>?_,fun j zs h=>?_,fun j l us ws hjl h1 h2=>?_,fun q hq=>(r.BE q hq).same e⟩
 ·by_cases hb:b=a
  ·subst hb;exact .inr (.inl k3)
  ·rw[AW hb]at h;exact r.new _ _ h
 ·by_cases hb:b=a
  ·subst hb;rw[Ad]at h;rw[k4];exact h
  ·rw[AW hb]at h;exact r.ins _ _ h
 ·by_cases hj:i=j
  ·subst hj;rw[List.getElem?_set_self hlt]at h;cases h;exact⟨.ref a,k1,hx a o k2 k5⟩
  ·rw[List.getElem?_set_ne hj]at h;obtain⟨w,m1,m2⟩:=r.dat j y h;exact⟨w,m1,m2.same e⟩
 ·by_cases hj:i=j
  ·subst hj;rw[List.getElem?_set_self hlt]at h;cases h
  ·rw[List.getElem?_set_ne hj]at h;obtain⟨b,us,m1,m2,m3,m4,m5⟩:=r.own j zs h;have nb:b≠a:=fun z=>by subst z;exact r.apart i j _ zs hj hi h (by rw[k1,m1])
   exact⟨b,us,m1,by rw[AW nb];exact m2,m3,m4,m5.same e⟩
 ·have nj:i≠j:=fun z=>by subst z;rw[List.getElem?_set_self hlt]at h1;cases h1
  have nl:i≠l:=fun z=>by subst z;rw[List.getElem?_set_self hlt]at h2;cases h2
  rw[List.getElem?_set_ne nj]at h1;rw[List.getElem?_set_ne nl]at h2;exact r.apart j l us ws hjl h1 h2
theorem eU{a:Addr}{o:HO}{xs:List PyData}(hG:G a=none)(h:Ho G a (.lst xs) o):Du (upd G a o) (.list xs) (.ref a):=by
 obtain⟨ys,rfl,k5⟩:=h;rw[Du];exact⟨a,ys,rfl,Ad,k5.same (BP hG _)⟩
theorem cR{a:Addr}{o:HO}{kvs:List (Option Tr×PyData)}(hG:G a=none)(h:Ho G a (.SH kvs) o):Du (upd G a o) (Qb kvs) (.ref a):=by
 obtain⟨r,rfl,n,k5⟩:=h;rw[Du,Jt];exact .inr (.inr ⟨rfl,rfl,a,r,rfl,Ad,n,Kx.same (BP hG _) k5⟩)
theorem Rw.E1(i:Nat)(r:Rw G0 H0 G H σ δ ts):∃G',Rw G0 H0 G' H σ (L2.E1 i δ) ts:=by
 unfold L2.E1;split
 ·rename_i xs hi;obtain⟨a,o,_,_,_,_,_,R⟩:=r.letGo (x:=.list xs) hi fun a o h=>eU h;exact⟨_,R⟩
 ·rename_i kvs hi;obtain⟨a,o,_,_,_,_,_,R⟩:=r.letGo (x:=Qb kvs) hi fun a o h=>cR h;exact⟨_,R⟩
 ·exact⟨G,r⟩
theorem Rw.OM{i:Nat}{xs:Oc}{ys:HO}{a:Addr}(r:Rw G0 H0 G H σ δ ts)(d:Ho G a xs ys)(ha:H a=none):Rw G0 H0 G (upd H a ys) (σ.set i (some (.ref a))) (δ.set i (.own xs)) ts:=by
 have hG:G a=none:=by
  cases q:G a with
  |none=>rfl
  |some u=>rw[r.ins _ _ q]at ha;cases ha
 have h0:H0 a=none:=by
  cases q:H0 a with
  |none=>rfl
  |some u=>rw[r.keep _ _ q]at ha;cases ha
 have e:AU H (upd H a ys):=BP ha _;have hl:=r.len;have other:∀(j:Nat) (zs:Oc),i≠j→(δ.set i (.own xs))[j]? = some (L.own zs)→δ[j]? = some (L.own zs):=fun j zs hj h=>by rw[List.getElem?_set_ne hj]at h;exact h
 have nota:∀(j:Nat) (zs:Oc),δ[j]? = some (L.own zs)→σ[j]?≠some (some (V.ref a)):=fun j zs h z=>by
  obtain⟨b,us,m1,m2,m3,m4,m5⟩:=r.own j zs h;rw[z]at m1;cases m1;rw[m4]at ha;cases ha
 refine⟨r.ext,r.new,r.ins.trans e,r.keep.trans e,by simp[hl],fun j y h=>?_,fun j zs h=>?_,fun j l us ws hjl h1 h2=>?_,r.BE⟩
 ·by_cases hj:i=j
  ·subst hj;by_cases hi:i<δ.length
   ·rw[List.getElem?_set_self hi]at h;cases h
   ·rw[List.getElem?_eq_none (by simp;lia)]at h;cases h
  ·rw[List.getElem?_set_ne hj]at h;obtain⟨w,m1,m2⟩:=r.dat j y h;exact⟨w,by rw[List.getElem?_set_ne hj];exact m1,m2⟩
 ·by_cases hj:i=j
  ·subst hj;by_cases hi:i<δ.length
   ·rw[List.getElem?_set_self hi]at h;cases h;exact⟨a,ys,by rw[List.getElem?_set_self (by lia)],hG,h0,Ad,d⟩
   ·rw[List.getElem?_eq_none (by simp;lia)]at h;cases h
  ·have h:=other j zs hj h;obtain⟨b,us,m1,m2,m3,m4,m5⟩:=r.own j zs h;exact⟨b,us,by rw[List.getElem?_set_ne hj];exact m1,m2,m3,e _ _ m4,m5⟩
 ·by_cases hj:i=j
  ·subst hj;have hl2:i≠l:=hjl;have h2:=other l ws hl2 h2;by_cases hi:i<δ.length
   ·rw[List.getElem?_set_self (by lia),List.getElem?_set_ne hl2];exact fun z=>nota l ws h2 z.symm
   ·rw[List.getElem?_eq_none (by simp;lia)]at h1;cases h1
  ·have h1:=other j us hj h1;by_cases hk:i=l
   ·subst hk;by_cases hi:i<δ.length
    ·rw[List.getElem?_set_self (by lia),List.getElem?_set_ne hj];exact fun z=>nota j us h1 z
    ·rw[List.getElem?_eq_none (by simp;lia)]at h2;cases h2
   ·have h2:=other l ws hk h2;rw[List.getElem?_set_ne hj,List.getElem?_set_ne hk];exact r.apart j l us ws hjl h1 h2
theorem Rw.Oq{i:Nat}{xs xs':Oc}{ys:HO}{a:Addr}(r:Rw G0 H0 G H σ δ ts)(hi:δ[i]? = some (.own xs))(ha:σ[i]? = some (some (.ref a)))(d:Ho G a xs' ys):Rw G0 H0 G (upd H a ys) σ (δ.set i (.own xs')) ts:=by
 obtain⟨a',ys0,k1,k2,k3,k4,k5⟩:=r.own i xs hi;rw[ha]at k1;cases k1;have hlt:i<δ.length:=(aE.mp hi).1;have hl:=r.len;refine⟨r.ext,r.new,fun b o h=>?_,fun b o h=>?_,by simp[hl],fun j y h=>?_,fun j zs h=>?_,fun j l us ws hjl h1 h2=>?_,r.BE⟩
 ·rw[AW (fun z=>by subst z;rw[k2]at h;cases h)];exact r.ins _ _ h
 ·rw[AW (fun z=>by subst z;rw[k3]at h;cases h)];exact r.keep _ _ h
 ·by_cases hj:i=j
  ·subst hj;rw[List.getElem?_set_self hlt]at h;cases h
  ·rw[List.getElem?_set_ne hj]at h;exact r.dat j y h
 ·by_cases hj:i=j
  ·subst hj;rw[List.getElem?_set_self hlt]at h;cases h;exact⟨a,ys,ha,k2,k3,Ad,d⟩
  ·rw[List.getElem?_set_ne hj]at h;obtain⟨b,us,m1,m2,m3,m4,m5⟩:=r.own j zs h;have nb:b≠a:=fun z=>by subst z;exact r.apart i j xs zs hj hi h (by rw[ha,m1])
   exact⟨b,us,m1,m2,m3,by rw[AW nb];exact m4,m5⟩
 ·have f:∀(j:Nat) (us:Oc),(δ.set i (.own xs'))[j]? = some (L.own us)→∃us',δ[j]? = some (L.own us'):=fun j us h=>by
   by_cases hj:i=j
   ·subst hj;exact⟨xs,hi⟩
   ·rw[List.getElem?_set_ne hj]at h;exact⟨us,h⟩
  obtain⟨us',h1⟩:=f j us h1;obtain⟨ws',h2⟩:=f l ws h2;exact r.apart j l us' ws' hjl h1 h2
end
section
variable{X:Cx}{a b e:Expr}{es:List Expr}{f g h:Dv→Option PyData}{fs:Dv→Option (List PyData)}{pos p:Pos}{st:Stmt}{F:DF}
theorem OX(i:Nat)(h1:DS X st F):DS X st (fun δ=>F (E1 i δ)):=by
 obtain⟨t,p,k⟩:=h1;refine⟨t,p,fun δ r h G0 H0 G H σ D R q=>?_⟩;obtain⟨G',R'⟩:=R.E1 i;exact k _ r h G0 H0 G' H σ D R' q
theorem fL{i:Nat}{x:Str}{pos' lp:Pos}(hN:X.N.Nodup)(hi:X.N[i]? = some x)(hx:Loc X.env.scope x)(ha:DA X es fs)(hs:swapsWith (.List es lp) (some (.Name x pos')) pos.line X.env=pure false:=by rfl)(hf:X.fn x=true∨X.env.scope.names.lookup x=some .local:=by first|exact .inl rfl|exact .inr rfl|assumption) :
  DS X (.Assign [.Name x pos'] (.List es lp) pos) (fun δ=>((fs δ).bind Ej).map fun ys=>.nx (δ.set i (.own (.lst ys)))):=by
 obtain⟨t,p,k⟩:=ha;refine⟨_,Bp hN hi hx (O0 p) hs hf,fun δ r h G0 H0 G H σ D R q=>?_⟩;obtain⟨y,h1,rfl⟩:=aB.mp h;obtain⟨xs,h2,h3⟩:=aA.mp h1;obtain⟨rfl,hl⟩:=OO h3;refine k δ _ h2 G0 H0 G H σ [] _ R fun vs G1 H1 R1 hv=>?_;obtain⟨d,R2⟩:=R1.args hv;exact⟨ED (by rw[hv];exact hl),fun l hl'=>q _ _ _ (R2.OM ⟨_,rfl,d⟩ hl')⟩
def ow(i:Nat)(δ:Dv):Option (List PyData):=match δ[i]? with
 |some (.own (.lst xs))=>some xs
 |_=>none
theorem Ir{i:Nat}{δ:Dv}{xs:List PyData}(h:ow i δ=some xs):δ[i]? = some (.own (.lst xs)):=by
 unfold ow at h;split at h
 ·rename_i y e;cases h;exact e
 ·cases h
theorem QK{i:Nat}{x:Str}{np ap cp:Pos}(hv:PE X (.Name x np) (D0 i))(he:DE X e f)
 (hP:∀ {to:TE} {t:TA},PE X (.Name x np) to→PA X [e] t→PS X (.Expr (.Call (.Attribute (.Name x np) "append" ap) [e] [] cp) pos) (LW (XE X.K "list" UH to t)))(hs1:starEach [e] X.env=(false,eval e X.env)::starEach [] X.env:=by rfl) :
  DS X (.Expr (.Call (.Attribute (.Name x np) "append" ap) [e] [] cp) pos) (fun δ=>(f δ).bind fun y=>(ow i δ).bind fun xs=>if xs.length<CG then some (.nx (δ.set i (.own (.lst (xs++[y]))))) else none):=by
 obtain⟨t,p,k⟩:=he;refine⟨_,hP hv (AM p Af hs1),fun δ r h G0 H0 G H σ D R q=>?_⟩;obtain⟨y,h1,h2⟩:=aA.mp h;obtain⟨xs,h3,h4⟩:=aA.mp h2;split at h4
 ·rename_i hl;cases h4;have hi:=Ir h3;obtain⟨a,_,k1,k2,k3,k4,⟨ys,rfl,k5⟩⟩:=R.own i _ hi;refine⟨.ref a,k1,.inl ⟨rfl,ys,BI.of k4⟩,?_⟩;refine k δ y h1 G0 H0 G H σ [] _ R fun u G1 H1 R1=>?_;obtain⟨a',_,m1,m2,m3,m4,⟨zs,rfl,m5⟩⟩:=R1.own i _ hi;rw[k1]at m1;cases m1;refine⟨a,zs,u,rfl,rfl,m4,T2 (by rw[m5.len];lia),?_⟩;exact q _ _ _ (R1.drop.Oq hi k1 ⟨_,rfl,m5.app (.cons (R1.BE _ (.head _)) .nil)⟩)
 ·cases h4
theorem J8{i:Nat}{x:Str}{np:Pos}(hv:PE X (.Name x np) (D0 i))(hg:Gl X "len")(hm:X.mg "len" = none)(hs1:starEach [.Name x np] X.env=(false,eval (.Name x np) X.env)::starEach [] X.env:=by rfl)(hpl:(backTo pos (starEach [] X.env)).any (·.1)=false:=by rfl) :
  DE X (.Call (.Name "len" p) [.Name x np] [] pos) (fun δ=>(ow i δ).map fun xs=>.int xs.length):=by
 refine⟨_,BV CL hg hm aN (AM hv Af hs1) (by decide) (by decide) hs1 hpl,fun δ z hz G0 H0 G H σ ts Q R0 k=>?_⟩;obtain⟨xs,h1,rfl⟩:=aB.mp hz;obtain⟨a,_,k1,k2,k3,k4,⟨ys,rfl,k5⟩⟩:=R0.own i _ (Ir h1);refine⟨.ref a,k1,a,ys,rfl,.inl (BI.of k4),?_⟩;rw[k5.len];exact k _ _ _ (R0.put (by rw[Du]))
theorem Rf{i:Nat}{x:Str}{np:Pos}(hv:PE X (.Name x np) (D0 i))(hb:DE X b g)(hs:PK b):DE X (.Subscript (.Name x np) b pos) (fun δ=>(g δ).bind fun y=>(ow i δ).bind fun xs=>(Od y).bind fun k=>C3 xs k):=by
 obtain⟨tb,pb,kb⟩:=hb;refine⟨_,CM M8 hv pb hs,fun δ z hz G0 H0 G H σ ts Q R0 k=>?_⟩;obtain⟨y,h1,h2⟩:=aA.mp hz;obtain⟨xs,h3,h4⟩:=aA.mp h2;obtain⟨j,h5,h6⟩:=aA.mp h4;have:=OH h5;subst this;obtain⟨a,_,k1,k2,k3,k4,⟨ys,rfl,k5⟩⟩:=R0.own i _ (Ir h3);refine⟨.ref a,k1,?_⟩;refine kb δ _ h1 G0 H0 G H σ ts _ R0 fun v G1 H1 R1=>?_;have dv:=R1.BE _ (.head _);rw[Du]at dv;obtain⟨a',_,m1,m2,m3,m4,⟨us,rfl,m5⟩⟩:=R1.own i _ (Ir h3);rw[k1]at m1;cases m1;obtain⟨w,h7,h8⟩:=m5.C3 h6;exact⟨a,us,j,w,rfl,dv,BI.of m4,h7,k _ _ _ (R1.drop.put h8)⟩
end
structure Nx(J:It)(xs:List PyData)(G:Hp):Prop where
 stop:∀H,AU G H→J.stop xs.length H
 go:∀(i:Nat) (d:PyData) H,xs[i]? = some d→AU G H→J.go i H
 Gb:∀(i:Nat) (d:PyData) H x H',xs[i]? = some d→AU G H→J.Gb i H x H'→∀Gc,AU G Gc→AU Gc H→∃Gc',AU Gc Gc'∧Nw Gc H Gc'∧AU Gc' H'∧AU H H'∧Du Gc' d x
theorem Nw.refl{G H:Hp}:Nw G H G:=fun _ _ h=>.inl h
theorem Zd{K:PySem.W.Frag}{G:Hp}{a:Addr}{ys:List V}{xs:List PyData}(ha:G a=some (.lst ys))(d:Ax G xs ys):Nx (UK K a) xs G where
 stop:=fun H e=>⟨ys,BI.of (e _ _ ha),by rw[d.len];exact aJ _⟩
 go:=fun i x H hx e=>by
  obtain⟨v,h1,_⟩:=d.get hx;exact⟨ys,v,BI.of (e _ _ ha),h1⟩
 Gb:=fun i x H v H' hx e y Gc e1 e2=>by
  obtain⟨rfl,y⟩:=y;have h1:=y ys (BI.of (e _ _ ha));obtain⟨x',h2,h3⟩:=d.back h1;rw[hx]at h2;cases h2;exact⟨Gc,AU.refl _,Nw.refl,e2,AU.refl _,h3.same e1⟩
theorem eG{K:PySem.W.Frag}{G:Hp}{a:Addr}{ys:List V}{xs:List PyData}(ha:G a=some (.tup ys))(d:Ax G xs ys):Nx (ff K a) xs G where
 stop:=fun H e=>⟨ys,CS.of (e _ _ ha),by rw[d.len];exact aJ _⟩
 go:=fun i x H hx e=>by
  obtain⟨v,h1,_⟩:=d.get hx;exact⟨ys,v,CS.of (e _ _ ha),h1⟩
 Gb:=fun i x H v H' hx e y Gc e1 e2=>by
  obtain⟨rfl,y⟩:=y;have h1:=y ys (CS.of (e _ _ ha));obtain⟨x',h2,h3⟩:=d.back h1;rw[hx]at h2;cases h2;exact⟨Gc,AU.refl _,Nw.refl,e2,AU.refl _,h3.same e1⟩
def Hb(lo:Int)(n:Nat):List PyData:=(List.range n).map fun k=>.int (lo+(k:Nat))
theorem dz{G:Hp}{lo:Int}{n:Nat}:Nx (SX lo n) (Hb lo n) G where
 stop:=fun H e=>by show n≤_;simp[Hb]
 go:=fun i x H hx e=>by
  have:=(aE.mp hx).1;show i<n
  simpa[Hb]using this
 Gb:=fun i x H v H' hx e y Gc e1 e2=>by
  obtain⟨rfl,rfl⟩:=y;unfold Hb at hx;rw[List.getElem?_map]at hx;obtain⟨k,h1,rfl⟩:=aB.mp hx;have hk:k=i:=by
   have:=(aE.mp h1).1;rw[List.getElem?_range (by simpa using this)]at h1;cases h1;rfl
  subst hk;exact⟨Gc,AU.refl _,Nw.refl,e2,AU.refl _,by rw[Du]⟩
def DI(X:Cx)(tg iter:Expr)(f:Dv→Option (List PyData)):Prop:=∃wi,PI X tg iter wi∧∀δ xs,f δ=some xs→∀G0 H0 G H σ ts (R:It→Hp→Prop),Rw G0 H0 G H σ δ ts→(∀J G' H',Rw G0 H0 G' H' σ δ ts→Nx J xs G'→R J H')→wi σ H R
section
variable{X:Cx}{tg a e:Expr}{f g h:Dv→Option PyData}{fs:Dv→Option (List PyData)}{pos p:Pos}{sts:List Stmt}{F:DF}
theorem PI.or{wi wi':TI}(h:PI X tg e wi)(h':PI X tg e wi'):PI X tg e (fun σ H R=>wi σ H R∨wi' σ H R):=fun pins s σ H R I q=>by
 rcases q with q|q
 ·exact h pins s σ H R I q
 ·exact h' pins s σ H R I q
def Oa:PyData→Option (List PyData)
 |.list xs=>some xs
 |.tuple xs=>some xs
 |_=>none
theorem EM(he:DE X e f):DI X tg e (fun δ=>(f δ).bind Oa):=by
 obtain⟨t,p,k⟩:=he;refine⟨_,(PU p).or (gH p),fun δ xs h G0 H0 G H σ ts R R0 q=>?_⟩;obtain⟨x,h1,h2⟩:=aA.mp h;unfold Oa at h2;split at h2
 ·cases h2
  left
  refine k δ _ h1 G0 H0 G H σ ts _ R0 fun v G' H' R'=>?_;have du:=R'.BE _ (.head _);rw[Du]at du;obtain⟨a,ys,rfl,n1,n2⟩:=du;exact⟨a,rfl,⟨ys,BI.of (R'.ins _ _ n1)⟩,q _ _ _ R'.drop (Zd n1 n2)⟩
 ·cases h2
  right
  refine k δ _ h1 G0 H0 G H σ ts _ R0 fun v G' H' R'=>?_;have du:=R'.BE _ (.head _);rw[Du]at du;obtain⟨a,ys,rfl,n1,n2⟩:=du;exact⟨a,rfl,⟨ys,CS.of (R'.ins _ _ n1)⟩,q _ _ _ R'.drop (eG n1 n2)⟩
 ·cases h2
def IW:List PyData→Option (List PyData)
 |[.int j]=>if -1000000≤j∧j≤1000000 then some (Hb 0 j.toNat) else none
 |_=>none
theorem MX(hg:Gl X "range")(hm:X.mg "range" = none)(ha:DA X [a] fs)(hs:starEach [a] X.env=[(false,eval a X.env)]:=by rfl):DI X tg (.Call (.Name "range" p) [a] [] pos) (fun δ=>(fs δ).bind IW):=by
 obtain⟨t,p,k⟩:=ha;refine⟨_,Mh hg hm p hs,fun δ xs h G0 H0 G H σ ts R R0 q=>?_⟩;obtain⟨x,h1,h2⟩:=aA.mp h;refine k δ _ h1 G0 H0 G H σ ts _ R0 fun vs G' H' R' hv=>?_;obtain⟨d,R2⟩:=R'.args hv;unfold IW at h2;split at h2
 ·split at h2
  ·cases h2;obtain⟨u,rfl,du⟩:=d.JR;rw[Du]at du;subst du;exact⟨_,rfl,by lia,by lia,q _ _ _ R2 dz⟩
  ·cases h2
 ·cases h2
def DG(X:Cx)(tg:Expr)(set:PyData→Dv→Option Dv):Prop:=∃g,PG X tg g∧∀δ x δ',set x δ=some δ'→∀G0 H0 G H σ v (Q:St→Hp→Prop),Rw G0 H0 G H σ δ [(x,v)]→(∀σ' G' H',Rw G0 H0 G' H' σ' δ' []→Q σ' H')→g v σ H Q
theorem Ph{i:Nat}{x:Str}(h:PG X (.Name x pos) (Fe i)):DG X (.Name x pos) (fun y δ=>some (δ.set i (.d y))) :=
 ⟨_,h,fun δ y δ' e G0 H0 G H σ v Q R k=>by cases e;exact k _ _ _ R.Ie⟩
def FY(set:PyData→Dv→Option Dv)(body:DF):List PyData→Dv→Option Ou
 |[],δ=>some (.nx δ)
 |x::xs,δ=>match (set x δ).bind body with
  |some (.nx δ')=>FY set body xs δ'
  |some (.ct δ')=>FY set body xs δ'
  |some (.bk δ')=>some (.nx δ')
  |some (.rt v)=>some (.rt v)
  |some (.rn v)=>some (.rn v)
  |none=>none
theorem Su{set:PyData→Dv→Option Dv}(hp:PassesOwn (model X.prog X.w) X.A X.env X.xe)(hc:X.calm=true)(hi:DI X tg e fs)(hg:DG X tg set)(hb:Fz X sts F)(hs:∀x,foldedSetIterable e X.env x=pure x:=by intro _;rfl) :
  DS X (.For tg e sts [] pos) (fun δ=>(fs δ).bind fun xs=>FY set F xs δ):=by
 obtain⟨wi,pi,ki⟩:=hi;obtain⟨g,pg,kg⟩:=hg;obtain⟨tb,pb,kb⟩:=hb;refine⟨_,Ko hp hc pi pg pb hs,fun δ r h G0 H0 G H σ D R q=>?_⟩;obtain⟨xs,h1,h2⟩:=aA.mp h;refine ki δ xs h1 G0 H0 G H σ [] _ R fun J Ga Ha Ra it=>?_;refine⟨fun i m σ' H'=>m=xs.length-i∧i≤xs.length∧∃δ' G',FY set F (xs.drop i) δ'=some r∧Rw G0 H0 G' H' σ' δ' []∧AU Ga G',⟨xs.length,by simp,Nat.zero_le _,δ,Ga,by simpa using h2,Ra,AU.refl _⟩,?_⟩;rintro i m σ1 H1 ⟨rfl,hi,δ1,G1,f1,R1,s1⟩;have sH:AU Ga H1:=s1.trans R1.ins;by_cases hlt:i<xs.length
 ·right
  have hx:xs[i]? = some xs[i]:=by simp[hlt]
  refine⟨it.go i _ H1 hx sH,fun σ' H'=>i+1≤xs.length∧∃δ' G',FY set F (xs.drop (i+1)) δ'=some r∧Rw G0 H0 G' H' σ' δ' []∧AU Ga G',fun σ' H' n=>⟨xs.length-(i+1),by lia,rfl,n⟩,fun x H' y=>?_⟩;obtain⟨G2,e1,e2,e3,e4,e5⟩:=it.Gb i _ H1 x H' hx sH y G1 s1 R1.ins;have R2:=(R1.lift e1 e2 e3 e4).put e5;have s2:=s1.trans e1;rw[List.drop_eq_getElem_cons hlt]at f1;unfold FY at f1;cases hb2:(set xs[i] δ1).bind F with
  |none=>rw[hb2]at f1;cases f1
  |some o =>
   obtain⟨δ2,k1,k2⟩:=aA.mp hb2;rw[hb2]at f1;have R2b:=R2.base;refine kg δ1 _ δ2 k1 G2 H0 G2 H' σ1 x _ R2b fun σ3 G3 H3 R3=>?_;refine kb δ2 o k2 G2 H0 G3 H3 σ3 _ R3 ?_;cases o with
   |nx δ3=>exact fun σ4 G4 H4 R4=>⟨hlt,δ3,G4,f1,R2.drop.Sk R4,s2.trans R4.ext⟩
   |ct δ3=>exact fun σ4 G4 H4 R4=>⟨hlt,δ3,G4,f1,R2.drop.Sk R4,s2.trans R4.ext⟩
   |bk δ3=>cases f1;exact fun σ4 G4 H4 R4=>q σ4 G4 H4 (R2.drop.Sk R4)
   |rt v=>cases f1;exact fun w G4 H4 h1 h2 h3 h4 h5=>q w G4 H4 (R2.ext.trans h1) (R2.new.trans h2) h3 h4 h5
   |rn v=>cases f1;exact fun w ys G4 H4 h1 h2=>q w ys G4 H4 (R2.ext.trans h1) (R2.new.trans h2)
 ·left
  have e:i=xs.length:=by lia
  subst e;refine⟨it.stop H1 sH,?_⟩;rw[List.drop_length]at f1;unfold FY at f1;cases f1;exact q _ _ _ R1
end
def tD(f:Dv→Option PyData):TE:=fun σ H Q=>∃δ x G0 H0 G ts,f δ=some x∧Rw G0 H0 G H σ δ ts∧∀v G' H',Rw G0 H0 G' H' σ δ ((x,v)::ts)→Q v H'
def Yj(f:Dv→Option Bool):TT:=fun σ H Q=>∃δ x G0 H0 G ts,f δ=some x∧Rw G0 H0 G H σ δ ts∧∀G' H',Rw G0 H0 G' H' σ δ ts→Q x H'
theorem DE.pe{X:Cx}{e:Expr}{f:Dv→Option PyData}(h:DE X e f):PE X e (tD f):=by
 obtain⟨t,p,k⟩:=h;intro pins s σ H Q I q;obtain⟨δ,x,G0,H0,G,ts,h1,h2,h3⟩:=q;exact p pins s σ H Q I (k δ x h1 G0 H0 G H σ ts Q h2 h3)
theorem DT.pt{X:Cx}{e:Expr}{f:Dv→Option Bool}(h:DT X e f):PT X e (Yj f):=by
 obtain⟨t,p,k⟩:=h;intro pins s σ H Q I q;obtain⟨δ,x,G0,H0,G,ts,h1,h2,h3⟩:=q;exact p pins s σ H Q I (k δ x h1 G0 H0 G H σ ts Q h2 h3)
def QM(X:Cx)(ifs:List Expr)(f:Dv→Option Bool):Prop:=Jh X ifs (Yj f)
theorem Dp{X:Cx}:QM X [] (fun _=>some true):=by
 intro pins s σ H Q I q;obtain⟨δ,x,G0,H0,G,ts,h1,h2,h3⟩:=q;cases h1;exact bt pins s σ H Q I (h3 _ _ h2)
theorem UC{X:Cx}{c:Expr}{f:Dv→Option Bool}(h:DT X c f):QM X [c] f:=bT h.pt
def Ea(fr:List (Option Nat))(δ:Dv):Dv:=fr.map fun o=>match o with
 |some j=>(match δ[j]? with|some (.d x)=>.d x|_=>.no)
 |none=>.no
theorem Rw.inner{G0 H0 G H:Hp}{σ:St}{δ:Dv}{ts:List (PyData×V)}(fr:List (Option Nat))(r:Rw G0 H0 G H σ δ ts):Rw G H G H (carry fr σ) (Ea fr δ) ts:=by
 have key:∀(i:Nat) (l:L),(Ea fr δ)[i]? = some l→∃o,fr[i]? = some o∧l=(match o with|some j=>(match δ[j]? with|some (.d x)=>.d x|_=>.no)|none=>.no):=fun i l h=>by
  unfold Ea at h;rw[List.getElem?_map]at h;obtain⟨o,h1,rfl⟩:=aB.mp h;exact⟨o,h1,rfl⟩
 have noown:∀(i:Nat) (xs:Oc),(Ea fr δ)[i]?≠some (L.own xs):=fun i xs h=>by
  obtain⟨o,_,h2⟩:=key i _ h;split at h2
  ·split at h2<;>cases h2
  ·cases h2
 refine⟨AU.refl _,Nw.refl,r.ins,AU.refl _,by simp[carry,Ea],fun i x h=>?_,fun i xs h=>absurd h (noown i xs),fun i j xs ys _ h=>absurd h (noown i xs),r.BE⟩;obtain⟨o,h1,h2⟩:=key i _ h;split at h2
 ·rename_i j;split at h2
  ·rename_i y hy;cases h2;obtain⟨v,k1,k2⟩:=r.dat j _ hy;refine⟨v,?_,k2⟩;unfold carry;rw[List.getElem?_map,h1];simp[k1]
  ·cases h2
 ·cases h2
theorem Rw.other{G0 H0 G H:Hp}{σ:St}{δ:Dv}{ts:List (PyData×V)}{D:Addr}{o:HO}(r:Rw G0 H0 G H σ δ ts)(hG:G D=none)(h0:H0 D=none)(ho:∀(i:Nat) (xs:Oc),δ[i]? = some (L.own xs)→σ[i]?≠some (some (V.ref D))):Rw G0 H0 G (upd H D o) σ δ ts:=by
 refine⟨r.ext,r.new,fun a u h=>?_,fun a u h=>?_,r.len,r.dat,fun i xs h=>?_,r.apart,r.BE⟩
 ·rw[AW (fun z=>by subst z;rw[hG]at h;cases h)];exact r.ins _ _ h
 ·rw[AW (fun z=>by subst z;rw[h0]at h;cases h)];exact r.keep _ _ h
 ·obtain⟨a,ys,k1,k2,k3,k4,k5⟩:=r.own i xs h;exact⟨a,ys,k1,k2,k3,by rw[AW (fun z=>by subst z;exact ho i xs h k1)];exact k4,k5⟩
theorem Rw.adopt{G0 H0 G H:Hp}{σ:St}{δ:Dv}{ts:List (PyData×V)}{D:Addr}{ys:List V}(r:Rw G0 H0 G H σ δ ts)(hD:H D=some (.lst ys))(hG:G D=none)(h0:H0 D=none)(ho:∀(i:Nat) (xs:Oc),δ[i]? = some (L.own xs)→σ[i]?≠some (some (V.ref D))):Rw G0 H0 (upd G D (.lst ys)) H σ δ ts:=by
 have e:AU G (upd G D (.lst ys)):=BP hG _;refine⟨r.ext.trans e,fun a u h=>?_,fun a u h=>?_,r.keep,r.len,fun i x h=>?_,fun i xs h=>?_,r.apart,fun q hq=>(r.BE q hq).same e⟩
 ·by_cases ha:a=D
  ·subst ha;exact .inr (.inl h0)
  ·rw[AW ha]at h;exact r.new _ _ h
 ·by_cases ha:a=D
  ·subst ha;rw[Ad]at h;rw[hD];exact h
  ·rw[AW ha]at h;exact r.ins _ _ h
 ·obtain⟨v,k1,k2⟩:=r.dat i x h;exact⟨v,k1,k2.same e⟩
 ·obtain⟨a,zs,k1,k2,k3,k4,k5⟩:=r.own i xs h;have ha:a≠D:=fun z=>by subst z;exact ho i xs h k1
  exact⟨a,zs,k1,by rw[AW ha];exact k2,k3,k4,k5.same e⟩
def PM(set:PyData→Dv→Option Dv)(tif:Dv→Option Bool)(f:Dv→Option PyData)(δ:Dv)(x:PyData):Option (Option PyData) :=
 (set x δ).bind fun δ1=>(tif δ1).bind fun b=>if b=true then(f δ1).map some else some none
def collect(one:PyData→Option (Option PyData)):List PyData→Option (List PyData)
 |[]=>some []
 |x::xs=>(one x).bind fun o=>(collect one xs).map fun r=>o.toList++r
def Fg(set:PyData→Dv→Option Dv)(tif:Dv→Option Bool)(f:Dv→Option PyData)(fr:List (Option Nat))(fs:Dv→Option (List PyData))(δ:Dv):Option (List PyData) :=
 (fs δ).bind fun xs=>(collect (PM set tif f (Ea fr δ)) xs).bind Ej
def CO(set:PyData→Dv→Option Dv)(tif:Dv→Option Bool)(f:Dv→Option PyData)(fr:List (Option Nat))(fs:Dv→Option (List PyData))(δ:Dv):Option PyData :=
 (Fg set tif f fr fs δ).map .list
structure Z5(G0 H0 Ga:Hp)(σ:St)(δ:Dv)(ts:List (PyData×V))(one:PyData→Option (Option PyData))(xs full:List PyData)(D:Addr)(i:Nat)(ys:List V)(H:Hp):Prop where
 ex:∃G done rest,Rw G0 H0 G H σ δ ts∧AU Ga G∧G D=none∧collect one (xs.drop i)=some rest∧done++rest=full∧Ax G done ys
 h0:H0 D=none
 ap:∀(j:Nat) (us:Oc),δ[j]? = some (L.own us)→σ[j]?≠some (some (V.ref D))
theorem YX{G0 H0 G H:Hp}{D:Addr}{ys:List V}(hG:G0 D=none)(hD:H0 D=some (.lst ys))(n:Nw G0 H0 G)(e:AU G H)(k:AU H0 H):G D=none:=by
 cases q:G D with
 |none=>rfl
 |some o =>
  rcases n _ _ q with z|z|⟨us,z⟩
  ·rw[hG]at z;cases z
  ·rw[hD]at z;cases z
  ·have:=e _ _ q;rw[k _ _ hD,z]at this;cases this
section
variable{X:Cx}{elt iter:Expr}{x y:Str}{px pos:Pos}{ifs:List Expr}{scope:Scope}{fs:Dv→Option (List PyData)}{tif:Dv→Option Bool}{f:Dv→Option PyData}
def B3(i:Nat)(y:PyData)(δ:Dv):Option Dv:=some (δ.set i (.d y))
theorem Iy{wi:TI}{ix:Nat}{fr:List (Option Nat)}(ki:∀(δ:Dv) (xs:List PyData),fs δ=some xs→∀(G0 H0 G H:Hp) (σ:St) (ts:List (PyData×V)) (R:It→Hp→Prop),Rw G0 H0 G H σ δ ts→(∀J G' H',Rw G0 H0 G' H' σ δ ts→Nx J xs G'→R J H')→wi σ H R){δ:Dv}{zs:List PyData}(hz:Fg (B3 ix) tif f fr fs δ=some zs){G0 H0 G H:Hp}{σ:St}{ts:List (PyData×V)}{Q:VK}(R0:Rw G0 H0 G H σ δ ts)(k:∀D ys G' H',Rw G0 H0 G' H' σ δ ts→H' D=some (.lst ys)→G' D=none→H0 D=none→(∀(j:Nat) (us:Oc),δ[j]? = some (L.own us)→σ[j]?≠some (some (V.ref D)))→Ax G' zs ys→Q (.ref D) H') :
  Hw wi fr ix (Yj tif) (tD f) σ H Q:=by
 unfold Fg at hz;obtain⟨xs,m2,m3⟩:=aA.mp hz;obtain⟨full,m4,m5⟩:=aA.mp m3;obtain⟨rfl,hfew⟩:=OO m5;refine ki δ xs m2 G0 H0 G H σ ts _ R0 fun J Ga Ha Ra it D hD=>?_;have hGD:Ga D=none:=by
  cases q:Ga D with
  |none=>rfl
  |some u=>rw[Ra.ins _ _ q]at hD;cases hD
 have hHD:H0 D=none:=by
  cases q:H0 D with
  |none=>rfl
  |some u=>rw[Ra.keep _ _ q]at hD;cases hD
 have hap:∀(j:Nat) (us:Oc),δ[j]? = some (L.own us)→σ[j]?≠some (some (V.ref D)):=fun j us h z=>by
  obtain⟨a,ys,k1,k2,k3,k4,k5⟩:=Ra.own j us h;rw[z]at k1;cases k1;rw[k4]at hD;cases hD
 refine bw (n:=xs.length) (Z5 G0 H0 Ga σ δ ts (PM (B3 ix) tif f (Ea fr δ)) xs full D) ⟨⟨Ga,[],full,Ra.other hGD hHD hap,AU.refl _,hGD,by simpa using m4,rfl,.nil⟩,hHD,hap⟩ ?_ ?_
 ·rintro i ys H1 hlt ⟨⟨G1,done,rest,R1,s1,g1,c1,e1,d1⟩,_,_⟩ hD1;have hx:xs[i]? = some xs[i]:=by simp[hlt]
  have sH:=s1.trans R1.ins;have hyl:ys.length<sizeLine:=T2 (by
   rw[d1.len];have:done.length≤full.length:=by rw[←e1];simp
   lia)
  refine⟨it.go i _ H1 hx sH,hyl,fun v H' y=>?_⟩;obtain⟨G2,n1,n2,n3,n4,n5⟩:=it.Gb i _ H1 v H' hx sH y G1 s1 R1.ins;have R2:=R1.lift n1 n2 n3 n4;have hD2:=n4 _ _ hD1;have g2:G2 D=none:=YX g1 hD1 n2 n3 n4;rw[List.drop_eq_getElem_cons hlt]at c1;unfold collect at c1;obtain⟨o,c2,c3⟩:=aA.mp c1;obtain⟨rest',c4,rfl⟩:=aB.mp c3;unfold PM B3 at c2;simp only[Option.bind_some]at c2;obtain⟨b,c5,c6⟩:=aA.mp c2;have Ri:=((R2.inner fr).put n5).Ie (i:=ix);have Ri0:Rw G2 H' G2 H' ((carry fr σ).set ix (some v)) ((Ea fr δ).set ix (.d xs[i])) []:=Ri.less fun q hq=>by cases hq
  refine⟨_,b,G2,H',G2,[],c5,Ri0,fun G3 H3 R3=>?_⟩;have R3o:=R2.lift R3.ext R3.new R3.ins R3.keep;have hD3:=R3.keep _ _ hD2;have g3:G3 D=none:=YX g2 hD2 R3.new R3.ins R3.keep;dsimp only;split
  ·rename_i hb;rw[if_pos hb]at c6;obtain⟨w,c7,rfl⟩:=aB.mp c6;refine⟨_,w,G2,H',G3,[],c7,R3,fun u G4 H4 R4=>?_⟩;have R4o:=R2.lift R4.ext R4.new R4.ins R4.keep;have hD4:=R4.keep _ _ hD2;have g4:G4 D=none:=YX g2 hD2 R4.new R4.ins R4.keep;refine⟨hD4,ba hlt ⟨⟨G4,done++[w],rest',R4o.other g4 hHD hap,s1.trans (n1.trans R4.ext),g4,c4,by simpa using e1,(d1.same (n1.trans R4.ext)).app (.cons (R4.BE _ (.head _)) .nil)⟩,hHD,hap⟩⟩
  ·rename_i hb;rw[if_neg hb]at c6;cases c6;exact ZR hlt hD3 ⟨⟨G3,done,rest',R3o,s1.trans (n1.trans R3.ext),g3,c4,by simpa using e1,d1.same (n1.trans R3.ext)⟩,hHD,hap⟩
 ·rintro ys H1 ⟨⟨G1,done,rest,R1,s1,g1,c1,e1,d1⟩,_,_⟩ hD1;refine⟨it.stop H1 (s1.trans R1.ins),?_⟩;rw[List.drop_length]at c1;cases c1;rw[List.append_nil]at e1;subst e1;exact k _ _ _ _ R1 hD1 g1 hHD hap d1
theorem MK{wi:TI}{ix:Nat}{fr:List (Option Nat)}(ki:∀(δ:Dv) (xs:List PyData),fs δ=some xs→∀(G0 H0 G H:Hp) (σ:St) (ts:List (PyData×V)) (R:It→Hp→Prop),Rw G0 H0 G H σ δ ts→(∀J G' H',Rw G0 H0 G' H' σ δ ts→Nx J xs G'→R J H')→wi σ H R){δ:Dv}{z:PyData}(hz:CO (B3 ix) tif f fr fs δ=some z){G0 H0 G H:Hp}{σ:St}{ts:List (PyData×V)}{Q:VK}(R0:Rw G0 H0 G H σ δ ts)(k:∀v G' H',Rw G0 H0 G' H' σ δ ((z,v)::ts)→Q v H') :
  Hw wi fr ix (Yj tif) (tD f) σ H Q:=by
 unfold CO at hz;obtain⟨full,m1,rfl⟩:=aB.mp hz;refine Iy ki m1 R0 fun D ys G1 H1 R1 hD1 g1 hHD hap d1=>?_;have e:AU G1 (upd G1 D (.lst ys)):=BP g1 _;have R2:=R1.adopt hD1 g1 hHD hap;refine k _ _ _ (R2.put ?_);rw[Du];exact⟨D,ys,rfl,Ad,d1.same e⟩
theorem Ht(N:List Str)(ix:Nat)(fr:List (Option Nat))(hi:DI X (.Name x px) iter fs)(hif:∀cl C s₀ H₀ fp,QM (Ai X scope cl N C s₀ H₀ fp) ifs tif)(he:∀cl C s₀ H₀ fp,DE (Ai X scope cl N C s₀ H₀ fp) elt f)
 (h1:B7 scope N x ix=true:=by decide +kernel)(h2:X.calm=true:=by rfl)(h3:D3 N X.N scope X.env.scope fr 0=true:=by rfl)(h4:fr.length=N.length:=by rfl)(h5:freeOk X.env.scope scope.names=true:=by rfl)
 (hs:∀x,foldedSetIterable iter X.env x=pure x:=by intro _;rfl):DE X (.ListComp elt [⟨.Name x px,iter,ifs,0⟩] scope pos) (CO (B3 ix) tif f fr fs):=by
 obtain⟨wi,pi,ki⟩:=hi;exact⟨_,Rx N ix fr pi hif (fun cl C s₀ H₀ fp=>(he cl C s₀ H₀ fp).pe) h1 h2 h3 h4 h5 hs,fun δ z hz G0 H0 G H σ ts Q R0 k=>MK ki hz R0 k⟩
theorem Iu{i:Nat}{z:Str}{pz spos:Pos}(N:List Str)(ix:Nat)(fr:List (Option Nat))(hN:X.N.Nodup)(hy:X.N[i]? = some z)(hly:X.env.scope.names.lookup z=some .local)(hi:DI X (.Name x px) iter fs)(hif:∀cl C s₀ H₀ fp,QM (Ai X scope cl N C s₀ H₀ fp) ifs tif)(he:∀cl C s₀ H₀ fp,DE (Ai X scope cl N C s₀ H₀ fp) elt f)
 (h1:B7 scope N x ix=true:=by decide +kernel)(h2:X.calm=true:=by rfl)(h3:D3 N X.N scope X.env.scope fr 0=true:=by rfl)(h4:fr.length=N.length:=by rfl)(h5:freeOk X.env.scope scope.names=true:=by rfl)
 (hsw:swapsWith (.ListComp elt [⟨.Name x px,iter,ifs,0⟩] scope pos) (some (.Name z pz)) spos.line X.env=pure true:=by rfl)
 (hs:∀x,foldedSetIterable iter X.env x=pure x:=by intro _;rfl):DS X (.Assign [.Name z pz] (.ListComp elt [⟨.Name x px,iter,ifs,0⟩] scope pos) spos) (fun δ=>(CO (B3 ix) tif f fr fs δ).map fun y=>.nx (δ.set i (.d y))):=by
 obtain⟨wi,pi,ki⟩:=hi;refine⟨_,NJ N ix fr hN hy hly pi hif (fun cl C s₀ H₀ fp=>(he cl C s₀ H₀ fp).pe) h1 h2 h3 h4 h5 hsw hs,fun δ r h G0 H0 G H σ D R q=>?_⟩;obtain⟨y,h1,rfl⟩:=aB.mp h;exact MK ki h1 R fun v G' H' R'=>q _ _ _ R'.Ie
end
section
variable{x y:Str}       
def Ic(N:List Str)(ds:List PyData):Dv:=ds.map .d++List.replicate (N.length-ds.length) .no
def CY(ps N:List Str)(F:DF)(ds:List PyData):Option PyData:=if ds.length=ps.length then(match F (Ic N ds) with
 |some (.rt x)=>some x
 |some (.nx _)=>some .none
 |some (.rn xs)=>some (.list xs)
 |_=>none) else none
theorem Rw.start{N:List Str}{ds:List PyData}{vs:List V}{G H:Hp}(d:Ax G ds vs)(e:AU G H):Rw G H G H (start N vs) (Ic N ds) []:=by
 have hl:=d.len;refine⟨AU.refl _,Nw.refl,e,AU.refl _,by simp[L2.start,Ic,hl],fun i x h=>?_,fun i xs h=>?_,fun i j xs ys _ h=>?_,fun q hq=>by cases hq⟩
 ·unfold Ic at h;by_cases hi:i<ds.length
  ·rw[List.getElem?_append_left (by simpa using hi),List.getElem?_map]at h;obtain⟨y,h1,h2⟩:=aB.mp h;cases h2;obtain⟨v,h3,h4⟩:=d.get h1;refine⟨v,?_,h4⟩;unfold L2.start;rw[List.getElem?_append_left (by simp;lia),List.getElem?_map,h3];rfl
  ·rw[List.getElem?_append_right (by simpa using hi),List.getElem?_replicate]at h;split at h<;>cases h
 ·unfold Ic at h;by_cases hi:i<ds.length
  ·rw[List.getElem?_append_left (by simpa using hi),List.getElem?_map]at h;obtain⟨y,h1,h2⟩:=aB.mp h;cases h2
  ·rw[List.getElem?_append_right (by simpa using hi),List.getElem?_replicate]at h;split at h<;>cases h
 ·unfold Ic at h;by_cases hi:i<ds.length
  ·rw[List.getElem?_append_left (by simpa using hi),List.getElem?_map]at h;obtain⟨y,h1,h2⟩:=aB.mp h;cases h2
  ·rw[List.getElem?_append_right (by simpa using hi),List.getElem?_replicate]at h;split at h<;>cases h
theorem QY{G H G' H':Hp}{a:Addr}{ys:List V}{xs:List PyData}(m1:AU G G')(m2:Nw G H G')(m3:AU G' H')(m5:H a=none)(m6:G' a=none)(m7:H' a=some (.lst ys))(m8:Ax G' xs ys) :
  AU G (upd G' a (.lst ys))∧Nw G H (upd G' a (.lst ys))∧AU (upd G' a (.lst ys)) H'∧Du (upd G' a (.lst ys)) (.list xs) (.ref a):=by
 refine⟨m1.trans (BP m6 _),fun b o hb=>?_,fun b o hb=>?_,?_⟩
 ·by_cases z:b=a
  ·subst z;exact .inr (.inl m5)
  ·rw[AW z]at hb;exact m2 _ _ hb
 ·by_cases z:b=a
  ·subst z;rw[Ad]at hb;rw[m7];exact hb
  ·rw[AW z]at hb;exact m3 _ _ hb
 ·rw[Du];exact⟨a,ys,rfl,Ad,m8.same (BP m6 _)⟩
theorem HV{P:Program}{w:World}{K:PySem.W.Frag}{mg:Str→Option Value}{base:Heap}{x:Str}{st:Stmt}{fA:Addr}{fd:FuncData}{N ps:List Str}{k:Nat}{F:DF}(T:Fn K mg x st ps fA fd)(S:Al N ps (AN st))
 (hb:∀(cdv:Value) (A:Around) (outer:List Env) (s:Shared) (H:Hp) (E:XK),Bf k (A.deeper (envOfC x (AN st) s.heap.objs.size fA cdv))→Fz (Bq Ao P w K mg base N x (AN st) fA cdv A outer s H E).DV (B5 st) F) :
  Ab P w K mg base Ao (k+1) fA fd ps (BR (CY ps N F)):=by
 refine T.F.ok S (fun vs H Q E h=>?_) fun cdv A outer s H vs Q E hr h=>?_
 ·obtain⟨ds,y,G,h1,h2,_⟩:=h;unfold CY at h1;split at h1
  ·rename_i hl;rw[h2.len];exact hl
  ·cases h1
 ·obtain⟨ds,y,G,h1,h2,h3,h4⟩:=h;obtain⟨t,p,kk⟩:=hb cdv A outer s H E hr;refine⟨t,p,?_⟩;unfold CY at h1;split at h1
  ·split at h1
   ·rename_i z e1;cases h1;exact kk _ _ e1 G H G H _ _ (Rw.start h2 h3) fun v G' H' m1 m2 m3 m4 m5=>h4 v G' H' m1 m2 m3 m4 m5
   ·rename_i δ e1;cases h1;exact kk _ _ e1 G H G H _ _ (Rw.start h2 h3) fun σ' G' H' R=>h4 .BM G' H' R.ext R.new R.ins R.keep (by rw[Du])
   ·rename_i xs e1;cases h1;exact kk _ _ e1 G H G H _ _ (Rw.start h2 h3) fun a ys G' H' m1 m2 m3 m4 m5 m6 m7 m8=>let⟨n1,n2,n3,n4⟩:=QY m1 m2 m3 m5 m6 m7 m8;h4 _ _ H' n1 n2 n3 m4 n4
   ·cases h1
  ·cases h1
end
section
variable{X:Cx}{a b e:Expr}{f h:Dv→Option PyData}{pos p p2:Pos}   
theorem YI{x:Str}{i:Int}{tk:Tok}(hg:Gl X x)(hm:X.mg x=some (.int i tk))(hd:(x==("__debug__" : Str))=false:=by decide):DE X (.Name x pos) (fun _=>some (.int i)) :=
 ⟨_,DB (v:=.int i) hg hm ⟨tk,rfl⟩ hd,fun δ x h G0 H0 G H σ ts Q r k=>by cases h;exact k _ _ _ (r.put (by rw[Du]))⟩
def DO(X:Cx)(o:Option Expr)(f:Dv→Option (Option Int)):Prop:=∃t,PO X o t∧∀δ x,f δ=some x→∀G0 H0 G H σ ts (Q:Option Int→Hp→Prop),Rw G0 H0 G H σ δ ts→(∀G' H',Rw G0 H0 G' H' σ δ ts→Q x H')→t σ H Q
variable{fo fu:Dv→Option (Option Int)}{lo hi:Option Expr}
theorem JG:DO X none (fun _=>some none):=⟨_,Te,fun δ x h G0 H0 G H σ ts Q r k=>by cases h;exact k _ _ r⟩
theorem JB(he:DE X e f):DO X (some e) (fun δ=>(f δ).bind fun x=>(Od x).map some):=by
 obtain⟨t,p,k⟩:=he;refine⟨_,UJ p,fun δ z h G0 H0 G H σ ts Q r q=>?_⟩;obtain⟨x,h1,h2⟩:=aA.mp h;obtain⟨i,h3,rfl⟩:=aB.mp h2;have:=OH h3;subst this;refine k δ _ h1 G0 H0 G H σ ts _ r fun v G' H' R'=>?_;have hv:=R'.BE _ (.head _);rw[Du]at hv;exact⟨i,hv,q _ _ R'.drop⟩
def cutD(xs:List PyData)(lo hi:Option Int):List PyData:=(xs.drop (HT.Ba xs.length 0 lo)).take (HT.Ba xs.length xs.length hi-HT.Ba xs.length 0 lo)
theorem Ax.cut{H:Hp}{ds:List PyData}{xs:List V}(h:Ax H ds xs)(lo hi:Option Int):Ax H (cutD ds lo hi) (Ih xs lo hi):=by
 unfold cutD Ih;rw[h.len];exact(h.drop _).take _
def XX(x:PyData)(lo hi:Option Int):Option PyData:=match x with
 |.list xs=>some (.list (cutD xs lo hi))
 |.tuple xs=>if ¬(HT.Ba xs.length 0 lo=0∧HT.Ba xs.length xs.length hi=xs.length) then some (.tuple (cutD xs lo hi)) else none
 |_=>none
theorem Hf(he:DE X e f)(hl:DO X lo fo)(hh:DO X hi fu):DE X (.Subscript e (.Slice lo hi none p2) pos) (fun δ=>(f δ).bind fun x=>(fo δ).bind fun l=>(fu δ).bind fun u=>XX x l u):=by
 obtain⟨te,pe,ke⟩:=he;obtain⟨tl,pl,kl⟩:=hl;obtain⟨th,ph,kh⟩:=hh;refine⟨_,RH (TY.or dS) pe pl ph,fun δ z hz G0 H0 G H σ ts Q R0 k=>?_⟩;obtain⟨x,h1,h2⟩:=aA.mp hz;obtain⟨l,h3,h4⟩:=aA.mp h2;obtain⟨u,h5,h6⟩:=aA.mp h4;refine ke δ x h1 G0 H0 G H σ ts _ R0 fun v G1 H1 R1=>?_;refine kl δ l h3 G0 H0 G1 H1 σ _ _ R1 fun G2 H2 R2=>?_;refine kh δ u h5 G0 H0 G2 H2 σ _ _ R2 fun G3 H3 R3=>?_;have du:=R3.BE _ (.head _);unfold XX at h6;split at h6
 ·cases h6;rw[Du]at du;obtain⟨a,ys,rfl,n1,n2⟩:=du;exact .inl ⟨a,ys,rfl,BI.of (R3.ins _ _ n1),fun q hq=>k _ _ _ (R3.drop.KJ (n2.cut l u) hq)⟩
 ·split at h6
  ·rename_i hc;cases h6;rw[Du]at du;obtain⟨a,ys,rfl,n1,n2⟩:=du;exact .inr ⟨a,ys,rfl,CS.of (R3.ins _ _ n1),by rw[n2.len];exact hc,fun q hq=>k _ _ _ (R3.drop.ec (n2.cut l u) hq)⟩
  ·cases h6
 ·cases h6
def G7:List PyData→Option PyData
 |[.int i]=>some (.int i)
 |[.bool b]=>some (.int (if b then 1 else 0))
 |_=>none
theorem Mz:IC X (.type "int") G7:=by
 refine⟨_,XH,fun xs z hz G0 H0 G H σ δ ts us Q R0 d k=>?_⟩;unfold G7 at hz;split at hz
 ·cases hz;obtain⟨u,rfl,du⟩:=d.JR;rw[Du]at du;subst du;exact .inl ⟨_,rfl,k _ _ _ (R0.put (by rw[Du]))⟩
 ·cases hz;obtain⟨u,rfl,du⟩:=d.JR;rw[Du]at du;subst du;exact .inr ⟨_,rfl,k _ _ _ (R0.put (by rw[Du]))⟩
 ·cases hz
def N6:List PyData→Option PyData
 |[.int i,.int j]=>some (.int (if j<i then j else i))
 |_=>none
theorem fR(hc:X.calm=true):IC X (.builtin "min") N6:=by
 refine⟨_,WB hc,fun xs z hz G0 H0 G H σ δ ts us Q R0 d k=>?_⟩;unfold N6 at hz;split at hz
 ·cases hz;obtain⟨u,v,rfl,du,dv⟩:=d.Yk;rw[Du]at du dv;subst du dv;exact⟨_,_,rfl,k _ _ _ (R0.put (by rw[Du]))⟩
 ·cases hz
end
open PySem
abbrev fC(x:PyData):Dv→Option PyData:=fun _=>some x
abbrev GX(f:Dv→Option PyData):Dv→Option PyData:=fun δ=>(f δ).bind fun x=>(Od x).map fun i=>.int (-i)
abbrev jw(c:Dv→Option Bool)(f g:Dv→Option PyData):Dv→Option PyData:=fun δ=>(c δ).bind fun c=>if c=true then f δ else g δ
abbrev AH:Dv→Option (List PyData):=fun _=>some []
abbrev AB(f:Dv→Option PyData)(fs:Dv→Option (List PyData)):Dv→Option (List PyData):=fun δ=>(f δ).bind fun x=>(fs δ).map fun xs=>x::xs
abbrev FD(fs:Dv→Option (List PyData)):Dv→Option PyData:=fun δ=>((fs δ).bind Ej).map .tuple
abbrev B6(fs:Dv→Option (List PyData)):Dv→Option PyData:=fun δ=>((fs δ).bind Ej).map .list
abbrev AJ(m:List PyData→Option PyData)(fs:Dv→Option (List PyData)):Dv→Option PyData:=fun δ=>(fs δ).bind m
abbrev Jm(q:PyData→Bool)(f:Dv→Option PyData):Dv→Option PyData:=fun δ=>(f δ).bind (Ut q)
abbrev E4(i:Nat):Dv→Option PyData:=fun δ=>(ow i δ).map fun xs=>.int xs.length
abbrev Oi(i:Nat)(g:Dv→Option PyData):Dv→Option PyData:=fun δ=>(g δ).bind fun y=>(ow i δ).bind fun xs=>(Od y).bind fun k=>C3 xs k
abbrev Fj:Dv→Option (Option Int):=fun _=>some none
abbrev Fq(f:Dv→Option PyData):Dv→Option (Option Int):=fun δ=>(f δ).bind fun x=>(Od x).map some
abbrev HY(f:Dv→Option PyData)(fo fu:Dv→Option (Option Int)):Dv→Option PyData:=fun δ=>(f δ).bind fun x=>(fo δ).bind fun l=>(fu δ).bind fun u=>XX x l u
abbrev Cz(f:Dv→Option PyData):Dv→Option Bool:=fun δ=>(f δ).bind Md
abbrev AY(o:PyData→PyData→Option PyData)(f g:Dv→Option PyData):Dv→Option Bool:=fun δ=>(AE o f g δ).bind Md
abbrev Dw(f:Dv→Option Bool):Dv→Option Bool:=fun δ=>(f δ).map fun c=>!c
abbrev Hm(f g:Dv→Option Bool):Dv→Option Bool:=fun δ=>(f δ).bind fun c=>if c=true then g δ else some false
abbrev Cq(f g:Dv→Option Bool):Dv→Option Bool:=fun δ=>(f δ).bind fun c=>if c=true then some true else g δ
abbrev D9(f:Dv→Option PyData):Dv→Option (List PyData):=fun δ=>(f δ).bind Oa
abbrev ID(m:List PyData→Option (List PyData))(fs:Dv→Option (List PyData)):Dv→Option (List PyData):=fun δ=>(fs δ).bind m
abbrev D8:Dv→Option Bool:=fun _=>some true
abbrev MW(i:Nat):PyData→Dv→Option Dv:=fun y δ=>some (δ.set i (.d y))
abbrev BA:DF:=fun δ=>some (.nx δ)
abbrev A3(f:Dv→Option PyData):DF:=fun δ=>(f δ).map .rt
abbrev Bw(c:Dv→Option Bool)(F G:DF):DF:=fun δ=>(c δ).bind fun c=>if c=true then F δ else G δ
abbrev Av(i:Nat)(f:Dv→Option PyData):DF:=fun δ=>(f δ).map fun y=>.nx (δ.set i (.d y))
abbrev cM(i:Nat)(fs:Dv→Option (List PyData)):DF:=fun δ=>((fs δ).bind Ej).map fun ys=>.nx (δ.set i (.own (.lst ys)))
abbrev RP(i:Nat)(f:Dv→Option PyData):DF:=fun δ=>(f δ).bind fun y=>(ow i δ).bind fun xs=>if xs.length<CG then some (.nx (δ.set i (.own (.lst (xs++[y]))))) else none
abbrev MV(fs:Dv→Option (List PyData))(set:PyData→Dv→Option Dv)(F:DF):DF:=fun δ=>(fs δ).bind fun xs=>FY set F xs δ
abbrev Pj(i:Nat)(F:DF):DF:=fun δ=>F (E1 i δ)
theorem UX{P:Program}{w:World}{K:PySem.W.Frag}{mg:Str→Option Value}{base:Heap}{CX:F0}{k:Nat}{f:Addr}{fd:FuncData}{ps:List Str}{sp:Sp}{m:List PyData→Option PyData}(F:Ab P w K mg base CX k f fd ps sp)
 (h:∀ds x,m ds=some x→∀(G H:Hp) (vs:List V) (Q:VK) (E:XK),Ax G ds vs→AU G H→(∀v G' H',AU G G'→Nw G H G'→AU G' H'→AU H H'→Du G' x v→Q v H')→sp vs H Q E):Ab P w K mg base CX k f fd ps (BR m) :=
 F.imp fun vs H Q E z=>by
  obtain⟨ds,x,G,h1,h2,h3,h4⟩:=z;exact h ds x h1 G H vs Q E h2 h3 h4
section
variable{X:Cx}{a e:Expr}{f g h:Dv→Option PyData}{pos:Pos}
abbrev Pd(i:Nat)(f g:Dv→Option PyData):DF:=fun δ=>(f δ).bind fun y=>(g δ).bind fun k=>(ow i δ).bind fun xs=>(Od k).bind fun n=>(HU xs.length n).map fun j=>.nx (δ.set i (.own (.lst (xs.set j y))))
theorem Ax.set{H:Hp}{d:PyData}{v:V}(hd:Du H d v):∀ {ds:List PyData} {xs:List V} (j:Nat),Ax H ds xs→Ax H (ds.set j d) (xs.set j v)
 |[],_,_,h=>by rw[h.nil_eq];exact .nil
 |_::_,_,0,h=>by obtain⟨x,r,rfl,_,h2⟩:=h.un;exact .cons hd h2
 |_::_,_,j+1,h=>by obtain⟨x,r,rfl,h1,h2⟩:=h.un;exact .cons h1 (Ax.set hd j h2)
theorem WI{i:Nat}{x:Str}{np sp:Pos}(hv:PE X (.Name x np) (D0 i))(hk:DE X a g)(he:DE X e f)
 (hP:∀ {te to ti:TE},PE X e te→PE X (.Name x np) to→PE X a ti→PS X (.Assign [.Subscript (.Name x np) a sp] e pos) (Jj te (Uk to ti Qi))):DS X (.Assign [.Subscript (.Name x np) a sp] e pos) (Pd i f g):=by
 obtain⟨te,pe,ke⟩:=he;obtain⟨tk,pk,kk⟩:=hk;refine⟨_,hP pe hv pk,fun δ r h G0 H0 G H σ D R q=>?_⟩;obtain⟨y,h1,h2⟩:=aA.mp h;obtain⟨n,h3,h4⟩:=aA.mp h2;obtain⟨xs,h5,h6⟩:=aA.mp h4;obtain⟨m,h7,h8⟩:=aA.mp h6;obtain⟨j,h9,rfl⟩:=aB.mp h8;have:=OH h7;subst this;have hi:=Ir h5;refine ke δ y h1 G0 H0 G H σ [] _ R fun u G1 H1 R1=>?_;obtain⟨ad,_,k1,k2,k3,k4,⟨ys,rfl,k5⟩⟩:=R1.own i _ hi;refine⟨.ref ad,k1,?_⟩;refine kk δ _ h3 G0 H0 G1 H1 σ _ _ R1 fun v G2 H2 R2=>?_;have dv:=R2.BE (.int m,v) (.head _);rw[Du]at dv;obtain⟨ad',_,m1,m2,m3,m4,⟨zs,rfl,m5⟩⟩:=R2.own i _ hi;rw[k1]at m1;cases m1;refine⟨ad,zs,m,j,rfl,dv,m4,by rw[m5.len];exact h9,?_⟩;exact q _ _ _ (R2.drop.drop.Oq hi k1 ⟨_,rfl,m5.set (R2.BE (y,u) (.tail _ (.head _))) j⟩)
end
def Ib:L→L
 |.own (.lst xs)=>.d (.list xs)
 |.own (.SH kvs)=>.d (Qb kvs)
 |.own _=>.no
 |l=>l
def Jd(δ:Dv):Dv:=δ.map Ib
section
variable{G0 H0 G H:Hp}{σ:St}{δ:Dv}{ts:List (PyData×V)}
theorem Rw.Jd(r:Rw G0 H0 G H σ δ ts):Rw H H H H σ (L2.Jd δ) ts:=by
 refine⟨AU.refl _,fun _ _ h=>.inl h,AU.refl _,AU.refl _,by rw[L2.Jd,List.length_map];exact r.len,fun i x h=>?_,fun i xs h=>?_,fun i j xs ys _ h=>?_,fun q hq=>(r.BE q hq).same r.ins⟩
 ·unfold L2.Jd at h;rw[List.getElem?_map]at h;obtain⟨l,h1,h2⟩:=aB.mp h;unfold Ib at h2;split at h2
  ·rename_i xs;cases h2;obtain⟨a,_,k1,k2,k3,k4,⟨ys,rfl,k5⟩⟩:=r.own i _ h1;refine⟨.ref a,k1,?_⟩;rw[Du];exact⟨a,ys,rfl,k4,k5.same r.ins⟩
  ·rename_i kvs;cases h2;obtain⟨a,_,k1,k2,k3,k4,⟨rr,rfl,k5,k6⟩⟩:=r.own i _ h1;refine⟨.ref a,k1,?_⟩;rw[Du,Jt];exact .inr (.inr ⟨rfl,rfl,a,rr,rfl,k4,k5,Kx.same r.ins k6⟩)
  ·cases h2
  ·subst h2;obtain⟨v,k1,k2⟩:=r.dat i x h1;exact⟨v,k1,k2.same r.ins⟩
 all_goals
  unfold L2.Jd at h;rw[List.getElem?_map]at h;obtain⟨l,h1,h2⟩:=aB.mp h;unfold Ib at h2;split at h2
  ·cases h2
  ·cases h2
  ·cases h2
  ·rename_i n1 n3 n2;subst h2;cases xs with
   |lst zs=>exact(n1 zs rfl).elim
   |SH zs=>exact(n3 zs rfl).elim
   |V4 zs=>exact(n2 (.V4 zs) rfl).elim
theorem Rw.on{H':Hp}(r:Rw G0 H0 G H σ δ ts)(e:AU H H'):Rw G0 H0 G H' σ δ ts:=r.lift (AU.refl _) Nw.refl (r.ins.trans e) e
theorem Rw.Zu{i:Nat}{xs:Oc}{ys:HO}{a:Addr}(r:Rw G0 H0 G H σ δ ts)(d:Ho G a xs ys)(ha:H a=some ys)(hG:G a=none)(h0:H0 a=none)(nota:∀(j:Nat) (zs:Oc),δ[j]? = some (L.own zs)→σ[j]?≠some (some (V.ref a))):Rw G0 H0 G H (σ.set i (some (.ref a))) (δ.set i (.own xs)) ts:=by
 have hl:=r.len;have other:∀(j:Nat) (zs:Oc),i≠j→(δ.set i (.own xs))[j]? = some (L.own zs)→δ[j]? = some (L.own zs):=fun j zs hj h=>by rw[List.getElem?_set_ne hj]at h;exact h
 refine⟨r.ext,r.new,r.ins,r.keep,by simp[hl],fun j y h=>?_,fun j zs h=>?_,fun j l us ws hjl h1 h2=>?_,r.BE⟩
 ·by_cases hj:i=j
  ·subst hj;by_cases hi:i<δ.length
   ·rw[List.getElem?_set_self hi]at h;cases h
   ·rw[List.getElem?_eq_none (by simp;lia)]at h;cases h
  ·rw[List.getElem?_set_ne hj]at h;obtain⟨w,m1,m2⟩:=r.dat j y h;exact⟨w,by rw[List.getElem?_set_ne hj];exact m1,m2⟩
 ·by_cases hj:i=j
  ·subst hj;by_cases hi:i<δ.length
   ·rw[List.getElem?_set_self hi]at h;cases h;exact⟨a,ys,by rw[List.getElem?_set_self (by lia)],hG,h0,ha,d⟩
   ·rw[List.getElem?_eq_none (by simp;lia)]at h;cases h
  ·have h:=other j zs hj h;obtain⟨b,us,m1,m2,m3,m4,m5⟩:=r.own j zs h;exact⟨b,us,by rw[List.getElem?_set_ne hj];exact m1,m2,m3,m4,m5⟩
 ·by_cases hj:i=j
  ·subst hj;have hl2:i≠l:=hjl;have h2:=other l ws hl2 h2;by_cases hi:i<δ.length
   ·rw[List.getElem?_set_self (by lia),List.getElem?_set_ne hl2];exact fun z=>nota l ws h2 z.symm
   ·rw[List.getElem?_eq_none (by simp;lia)]at h1;cases h1
  ·have h1:=other j us hj h1;by_cases hk:i=l
   ·subst hk;by_cases hi:i<δ.length
    ·rw[List.getElem?_set_self (by lia),List.getElem?_set_ne hj];exact fun z=>nota j us h1 z
    ·rw[List.getElem?_eq_none (by simp;lia)]at h2;cases h2
   ·have h2:=other l ws hk h2;rw[List.getElem?_set_ne hj,List.getElem?_set_ne hk];exact r.apart j l us ws hjl h1 h2
end
section
variable{X:Cx}{e:Expr}{f h:Dv→Option PyData}{fa:Dv→Option Bool}{p:Pos}
abbrev LU(f:Dv→Option Bool):Dv→Option Bool:=fun δ=>f (Jd δ)
theorem T5(h:DT X e fa):DT X e (LU fa):=by
 obtain⟨t,p,k⟩:=h;refine⟨t,p,fun δ z hz G0 H0 G H σ ts Q R q=>?_⟩;exact k _ z hz H H H H σ ts Q R.Jd fun G' H' R'=>q _ _ (R.on R'.keep)
end
section
variable{F F1 F2:DF}{δ δ':Dv}{r:Option Ou}{c:Dv→Option Bool}{f g:Dv→Option PyData}{fs:Dv→Option (List PyData)}
theorem AF(h:F1 δ=some (.nx δ'))(k:F2 δ'=r):AX F1 F2 δ=r:=by unfold AX;rw[h];exact k
theorem B4{x:PyData}(h:F1 δ=some (.rt x)):AX F1 F2 δ=some (.rt x):=by unfold AX;rw[h]
theorem Bm(h:c δ=some true)(k:F1 δ=r):Bw c F1 F2 δ=r:=by show(c δ).bind _=r;rw[h];exact k
theorem BC(h:c δ=some false)(k:F2 δ=r):Bw c F1 F2 δ=r:=by show(c δ).bind _=r;rw[h];exact k
theorem AZ{i:Nat}{y:PyData}(h:f δ=some y):Av i f δ=some (.nx (δ.set i (.d y))):=by show(f δ).map _=_;rw[h];rfl
theorem CI{y:PyData}(h:f δ=some y):A3 f δ=some (.rt y):=by show(f δ).map _=_;rw[h];rfl
theorem AI{o:PyData→PyData→Option PyData}{x y:PyData}{z:Option PyData}(h1:f δ=some x)(h2:g δ=some y)(h3:o x y=z):AE o f g δ=z:=by unfold AE;rw[h1,h2];exact h3
theorem AR{m:List PyData→Option PyData}{xs:List PyData}{z:Option PyData}(h1:fs δ=some xs)(h2:m xs=z):AJ m fs δ=z:=by show(fs δ).bind m=z;rw[h1];exact h2
theorem AL{x:PyData}{xs:List PyData}(h1:f δ=some x)(h2:fs δ=some xs):AB f fs δ=some (x::xs):=by show(f δ).bind _=_;rw[h1];show(fs δ).map _=_;rw[h2];rfl
theorem JC{xs:List PyData}(h:fs δ=some xs)(hl:xs.length≤CG):B6 fs δ=some (.list xs):=by show((fs δ).bind Ej).map _=_;rw[h];show(Ej xs).map _=_;unfold Ej;rw[if_pos hl];rfl
theorem Ff{xs:List PyData}(h:fs δ=some xs)(hl:xs.length≤CG):FD fs δ=some (.tuple xs):=by show((fs δ).bind Ej).map _=_;rw[h];show(Ej xs).map _=_;unfold Ej;rw[if_pos hl];rfl
theorem Au{o:PyData→PyData→Option PyData}{x y:PyData}{b:Bool}(h1:f δ=some x)(h2:g δ=some y)(h3:o x y=some (.bool b)):AY o f g δ=some b:=by show(AE o f g δ).bind Md=_;rw[AI h1 h2 h3];rfl
theorem Be{a b:Dv→Option Bool}{q:Option Bool}(h:a δ=some false)(k:b δ=q):Cq a b δ=q:=by show(a δ).bind _=q;rw[h];exact k
theorem HN{a b:Dv→Option Bool}(h:a δ=some true):Cq a b δ=some true:=by show(a δ).bind _=_;rw[h];rfl
theorem Cw{a:Dv→Option Bool}{b:Bool}(h:a δ=some b):Dw a δ=some (!b):=by show(a δ).map _=_;rw[h];rfl
theorem CJ{b:Bool}(h:f δ=some (.bool b)):Cz f δ=some b:=by show(f δ).bind Md=_;rw[h];rfl
theorem Qv{set:PyData→Dv→Option Dv}(Iv:Nat→Dv→Prop):∀(xs:List PyData) (δ:Dv) (n:Nat),Iv n δ→(∀(i:Nat) (x:PyData) (δ:Dv),xs[i]? = some x→Iv (n+i) δ→∃δ1 δ2,set x δ=some δ1∧F δ1=some (.nx δ2)∧Iv (n+i+1) δ2) →
  ∃δ',FY set F xs δ=some (.nx δ')∧Iv (n+xs.length) δ'
 |[],δ,n,h,_=>⟨δ,rfl,h⟩
 |x::xs,δ,n,h,k=>by
  obtain⟨δ1,δ2,h1,h2,h3⟩:=k 0 x δ rfl h;obtain⟨δ',h4,h5⟩:=Qv Iv xs δ2 (n+1) h3 fun i y δ hy hv=>by
   have:=k (i+1) y δ (by simpa using hy) (by rw[show n+(i+1)=n+1+i by lia];exact hv);rw[show n+(i+1)+1=n+1+i+1 by lia]at this;exact this
  refine⟨δ',?_,by rw[List.length_cons,show n+(xs.length+1)=n+1+xs.length by lia];exact h5⟩;unfold FY;rw[h1,Option.bind_some,h2];exact h4
theorem Ry{set:PyData→Dv→Option Dv}{xs:List PyData}(Iv:Nat→Dv→Prop)(hx:fs δ=some xs)(h0:Iv 0 δ)(hs:∀(i:Nat) (x:PyData) (δ:Dv),xs[i]? = some x→Iv i δ→∃δ1 δ2,set x δ=some δ1∧F δ1=some (.nx δ2)∧Iv (i+1) δ2) :
  ∃δ',MV fs set F δ=some (.nx δ')∧Iv xs.length δ':=by
 obtain⟨δ',h1,h2⟩:=Qv (F:=F) (set:=set) Iv xs δ 0 h0 fun i x δ hx hv=>by
  have:=hs i x δ hx (by simpa using hv)
  simpa using this
 refine⟨δ',?_,by simpa using h2⟩;show(fs δ).bind _=_;rw[hx];exact h1
end
theorem CB{ps N:List Str}{F:DF}{ds:List PyData}{x:PyData}(hl:ds.length=ps.length)(h:F (Ic N ds)=some (.rt x)):CY ps N F ds=some x:=by unfold CY;rw[if_pos hl,h]
theorem ZY{lo:Int}{n i:Nat}{x:PyData}(h:(Hb lo n)[i]? = some x):x=.int (lo+(i:Nat))∧i<n:=by
 unfold Hb at h;rw[List.getElem?_map]at h;obtain⟨j,hj,rfl⟩:=aB.mp h;have hl:=(aE.mp hj).1;rw[List.getElem?_range (by simpa using hl)]at hj;cases hj;exact⟨rfl,by simpa using hl⟩
theorem Q2{δ:Dv}{f:Dv→Option PyData}{j:Int}(h:f δ=some (.int j))(h0:-1000000≤j)(h1:j≤1000000):ID IW (AB f AH) δ=some (Hb 0 j.toNat):=by
 show(AB f AH δ).bind IW=_;rw[AL h (show AH δ=some [] from rfl)];exact if_pos ⟨h0,h1⟩
theorem b7{n:Nat}{i:Int}(h:i.natAbs<2^n):HZ n i=true:=ao h
theorem bz{i j:Int}(h:Ow i j=true):FU (.int i) (.int j)=some (.int (i*j)):=by
 show D7 U6 Q9 (.int i) (.int j)=_;unfold D7;rw[show U6 (.int i) (.int j)=some (.int (i*j)) from if_pos h]
theorem mul_r{i j:Int}(h:j.natAbs<2^64):FU (.int i) (.int j)=some (.int (i*j)):=bz (by unfold Ow;rw[b7 h];simp)
theorem mod_is{i j:Int}(h:0<j):A9 (.int i) (.int j)=some (.int (i % j)):=by
 show(if j≠0 then some (PyData.int (i.fmod j)) else none)=_;rw[if_pos (by lia),Int.fmod_eq_emod_of_nonneg _ (by lia)]
theorem cz{i:Int}{n:Nat}(hn:n≤1000)(hi:HZ 64 i=true):RJ (.int i) (.int (n:Int))=some (.int (i^n)):=by
 show(if 0≤(n:Int)∧(n:Int)≤1000∧HZ 64 i=true then some (PyData.int (i^(n:Int).toNat)) else none)=_;rw[if_pos ⟨by lia,by lia,hi⟩,Int.toNat_natCast]
def Fc(C:Addr):PyData:=.dict [(.int (C:Nat),.none)]
def Em(ns:List Int):PyData:=.dict [(.none,.list (ns.map .int))]
theorem Vc{H:Hp}{a:Addr}{ns:List Int}(h:Rd H a (.lst (ns.map V.int))):Du H (Em ns) (.ref a):=by unfold Em;rw[Du];exact .inr (.inl ⟨a,ns,rfl,rfl,h⟩)
def OS(K:PySem.W.Frag):Bool:=K.all fun p=>match p.2.cls with|.type n=>n != "list" |_=>true
theorem NR{a:Addr}{o:Obj}:∀ {K:PySem.W.Frag},K.lookup a=some o→(a,o)∈K
 |[],h=>by cases h
 |(b,u)::K,h=>by
  rw[List.lookup_cons]at h;split at h
  ·rename_i e;cases h;rw[show a=b from by simpa using e];exact .head _
  ·exact .tail _ (NR h)
theorem XO{K:PySem.W.Frag}{H:Hp}{a:Addr}{xs:List V}(hK:OS K=true)(h:BI K H a xs):Rd H a (.lst xs):=by
 rcases h with h|⟨o,its,n,h1,h2,_⟩
 ·exact h
 ·unfold OS at hK;rw[List.all_eq_true]at hK;have:=hK _ (NR h1);rw[h2]at this;exact absurd this (by decide)
abbrev Xr:=PyData ⊕ Addr
def Gu(g:List PyData→Option Xr):Sp:=fun vs H Q E=>∃ds r G,g ds=some r∧Ax G ds vs∧AU G H∧match r with
 |.inl x=>∀v G' H',AU G G'→Nw G H G'→AU G' H'→AU H H'→Du G' x v→Q v H'
 |.inr C=>∀H',AU H H'→E (.ref C) none H'
abbrev Yt:=Ou ⊕ Addr
abbrev FJ:=Dv→Option Yt
def Va(G0 H0:Hp)(D:Ends)(E:XK):Yt→Prop
 |.inl o=>Fin G0 H0 D o
 |.inr C=>∀H',AU H0 H'→E (.ref C) none H'
def DX(X:Cx)(E:XK)(st:Stmt)(F:FJ):Prop:=∃t,PS X st t∧∀δ r,F δ=some r→∀G0 H0 G H σ D,Rw G0 H0 G H σ δ []→Va G0 H0 D E r→t D σ H
def MZ(X:Cx)(E:XK)(sts:List Stmt)(F:FJ):Prop:=∃t,Gj X sts t∧∀δ r,F δ=some r→∀G0 H0 G H σ D,Rw G0 H0 G H σ δ []→Va G0 H0 D E r→t D σ H
section
variable{X:Cx}{E:XK}{b c e:Expr}{es:List Expr}{f h:Dv→Option PyData}{fs:Dv→Option (List PyData)}{fa:Dv→Option Bool}{pos p:Pos}{st:Stmt}{sts sts':List Stmt}{F:DF}{J J1 J2:FJ}
theorem YL{t:TS}(h:Gj X.DV sts t):Gj X sts t:=fun pins s σ H D I k=>aK (h pins s σ H D (I.Ds _) k) (fun _ _ z=>z.Cp) fun _ _ z=>z.elim
theorem eB{t:TS}(h:PS X.DV st t):PS X st t:=fun pins s σ H D I k=>aK (h pins s σ H D (I.Ds _) k) (fun _ _ z=>z.Cp) fun _ _ z=>z.elim
theorem d9{t:TE}(h:PE X.DV e t):PE X e t:=fun pins s σ H Q I k=>aK (h pins s σ H Q (I.Ds _) k) (fun _ _ ⟨v,H',I',r,q⟩=>⟨v,H',I'.Cp,r,q⟩) fun _ _ z=>z.elim
theorem fh{t:TT}(h:PT X.DV e t):PT X e t:=fun pins s σ H Q I k=>aK (h pins s σ H Q (I.Ds _) k) (fun _ _ ⟨H',I',q⟩=>⟨H',I'.Cp,q⟩) fun _ _ z=>z.elim
theorem WT{t:TA}(h:PA X.DV es t):PA X es t:=fun p pins s σ H Q I k=>aK (h p pins s σ H Q (I.Ds _) k) (fun _ _ ⟨v,H',I',r,q⟩=>⟨v,H',I'.Cp,r,q⟩) fun _ _ z=>z.elim
abbrev NM(F:DF):FJ:=fun δ=>(F δ).map .inl
theorem VM(h:DS X.DV st F):DX X E st (NM F):=by
 obtain⟨t,p,k⟩:=h;refine⟨t,eB p,fun δ r h G0 H0 G H σ D R q=>?_⟩;obtain⟨o,h1,rfl⟩:=aB.mp h;exact k δ o h1 G0 H0 G H σ D R q
theorem Vh(h:Fz X.DV sts F):MZ X E sts (NM F):=by
 obtain⟨t,p,k⟩:=h;refine⟨t,YL p,fun δ r h G0 H0 G H σ D R q=>?_⟩;obtain⟨o,h1,rfl⟩:=aB.mp h;exact k δ o h1 G0 H0 G H σ D R q
def Gq(J1 J2:FJ)(δ:Dv):Option Yt:=match J1 δ with
 |some (.inl (.nx δ'))=>J2 δ'
 |o=>o
theorem Uc:MZ X E [] (fun δ=>some (.inl (.nx δ))):=⟨_,DQ,fun δ r h G0 H0 G H σ D R k=>by cases h;exact k _ _ _ R⟩
theorem PF(h:DX X E st J):MZ X E [st] J:=by
 obtain⟨t,p,k⟩:=h;exact⟨t,BH p,k⟩
theorem Nk(h1:DX X E st J1)(h2:MZ X E sts J2):MZ X E (st::sts) (Gq J1 J2):=by
 obtain⟨t1,p1,k1⟩:=h1;obtain⟨t2,p2,k2⟩:=h2;refine⟨_,A4 p1 p2,fun δ r h G0 H0 G H σ D R q=>?_⟩;unfold Gq at h;split at h
 ·rename_i δ' e1;exact k1 δ _ e1 G0 H0 G H σ _ R fun σ' G' H' R'=>k2 δ' r h G0 H0 G' H' σ' D R' q
 ·rename_i o hn;cases r with
  |inr C=>exact k1 δ _ h G0 H0 G H σ _ R q
  |inl o' =>
   cases o' with
   |nx δ'=>exact absurd h (hn δ')
   |rt x=>exact k1 δ _ h G0 H0 G H σ _ R q
   |bk x=>exact k1 δ _ h G0 H0 G H σ _ R q
   |ct x=>exact k1 δ _ h G0 H0 G H σ _ R q
   |rn x=>exact k1 δ _ h G0 H0 G H σ _ R q
abbrev V2(c:Dv→Option Bool)(J1 J2:FJ):FJ:=fun δ=>(c δ).bind fun b=>if b=true then J1 δ else J2 δ
theorem ZD(hc:DT X.DV c fa)(h1:MZ X E sts J1)(h2:MZ X E sts' J2):DX X E (.If c sts sts' pos) (V2 fa J1 J2):=by
 obtain⟨tc,pc,kc⟩:=hc;obtain⟨t1,p1,k1⟩:=h1;obtain⟨t2,p2,k2⟩:=h2;refine⟨_,FL (fh pc) p1 p2,fun δ r h G0 H0 G H σ D R q=>?_⟩;obtain⟨b,h3,h4⟩:=aA.mp h;refine kc δ _ h3 G0 H0 G H σ [] _ R fun G1 H1 R1=>?_;split
 ·rename_i hb;rw[if_pos hb]at h4;exact k1 δ r h4 G0 H0 G1 H1 σ D R1 q
 ·rename_i hb;rw[if_neg hb]at h4;exact k2 δ r h4 G0 H0 G1 H1 σ D R1 q
abbrev RY(C:Addr)(f:Dv→Option PyData):FJ:=fun δ=>(f δ).map fun _=>.inr C
theorem Rk{x:Str}{C:Addr}{np cpos:Pos}(T:Exc X.K X.mg x C)(hL:Lets X E)(he:DE X.DV e f)(hcalm:X.calm=true:=by rfl)(hg:Gl X x:=by rfl)(hd:(x==("__debug__" : Str))=false:=by decide)
 (hst:starEach [e] X.env=[(false,eval e X.env)]:=by rfl):DX X E (.Raise (some (.Call (.Name x np) [e] [] cpos)) none pos) (RY C f):=by
 obtain⟨t,p,k⟩:=he;refine⟨_,X2 T hL hcalm hg (d9 p) hd hst,fun δ r h G0 H0 G H σ D R q=>?_⟩;obtain⟨y,h1,rfl⟩:=aB.mp h;exact k δ y h1 G0 H0 G H σ [] _ R fun v G' H' R'=>q _ R'.keep
theorem Rn{k:Nat}{m:List PyData→Option Xr}{ta:TA}(ka:∀δ xs,fs δ=some xs→∀G0 H0 G H σ ts (Q:List V→Hp→Prop),Rw G0 H0 G H σ δ ts→(∀vs G' H',Rw G0 H0 G' H' σ δ (xs.zip vs++ts)→vs.length=xs.length→Q vs H')→ta σ H Q)
 {δ:Dv}{r:Xr}(hz:(fs δ).bind m=some r){G0 H0 G H:Hp}{σ:St}{Q:VK}{E':XK}(R:Rw G0 H0 G H σ δ [])(q1:∀x,r=.inl x→∀v G' H',Rw G0 H0 G' H' σ δ [(x,v)]→Q v H')(q2:∀C,r=.inr C→∀G' H',Rw G0 H0 G' H' σ δ []→E' (.ref C) none H') :
  ta σ H fun vs H1=>Gu m (vs++[]) H1 Q E':=by
 obtain⟨xs,h1,h2⟩:=aA.mp hz;refine ka δ _ h1 G0 H0 G H σ [] _ R fun vs G1 H1 R1 hv=>?_;obtain⟨d,R2⟩:=R1.args hv;refine⟨xs,r,G1,h2,by rw[List.append_nil];exact d,R2.ins,?_⟩;cases r with
 |inl x=>exact fun v G' H' h3 h4 h5 h6 h7=>q1 x rfl _ _ _ ((R2.lift h3 h4 h5 h6).put h7)
 |inr C=>exact fun H' h=>q2 C rfl _ _ (R2.on h)
section
variable{k:Nat}{fA:Addr}{fd:FuncData}{ps:List Str}{m:List PyData→Option Xr}{x:Str}{st':Stmt}
abbrev Qd(m:List PyData→Option Xr)(fs:Dv→Option (List PyData))(nx:PyData→Dv→Ou):FJ:=fun δ=>((fs δ).bind m).map fun r=>match r with
 |.inl x=>.inl (nx x δ)
 |.inr C=>.inr C
theorem bq(T:Fn X.K X.mg x st' ps fA fd)(F:Ab X.prog X.w X.K X.mg X.base (Cy X.prog X.w) k fA fd ps (Gu m))(hr:Bf k X.A)(hP:Passes (Cy X.prog X.w) X E)(ha:DA X.DV (e::es) fs)
 {pos2:Pos}(hP2:∀ {t:TE},PE X (.Call (.Name x p) (e::es) [] pos) t→PS X (.Expr (.Call (.Name x p) (e::es) [] pos) pos2) (LW t))
 (hg:Gl X x:=by rfl)(hdb:(x==("__debug__" : Str))=false:=by decide)(he:starEach (e::es) X.env=(false,eval e X.env)::starEach es X.env:=by rfl)(hpl:(backTo pos (starEach es X.env)).any (·.1)=false:=by rfl) :
  DX X E (.Expr (.Call (.Name x p) (e::es) [] pos) pos2) (Qd m fs fun _ δ=>.nx δ):=by
 obtain⟨ta,pa,ka⟩:=ha;refine⟨_,hP2 (dk T F hr hg hP (WT pa) hdb he hpl),fun δ r h G0 H0 G H σ D R q=>?_⟩;obtain⟨z,h1,rfl⟩:=aB.mp h;refine Rn (k:=k) ka h1 R (fun x hx v G' H' R'=>?_) (fun C hC G' H' R'=>?_)
 ·subst hx;exact q _ _ _ R'.drop
 ·subst hC;exact q _ R'.keep
end
end
theorem Rw.Ys{G0 H0 G H:Hp}{σ:St}{δ:Dv}{ts:List (PyData×V)}(k:Nat)(o:Option V)(r:Rw G0 H0 G H σ δ ts):Rw G0 H0 G H (σ.set k o) (δ.set k .no) ts:=by
 have ne:∀(j:Nat) (l:L),l≠.no→(δ.set k .no)[j]? = some l→k≠j∧δ[j]? = some l:=fun j l hl h=>by
  by_cases hj:k=j
  ·subst hj;by_cases hi:k<δ.length
   ·rw[List.getElem?_set_self hi]at h;cases h;exact absurd rfl hl
   ·rw[List.getElem?_eq_none (by simp;lia)]at h;cases h
  ·rw[List.getElem?_set_ne hj]at h;exact⟨hj,h⟩
 refine⟨r.ext,r.new,r.ins,r.keep,by simp[r.len],fun j y h=>?_,fun j zs h=>?_,fun j l us ws hjl h1 h2=>?_,r.BE⟩
 ·obtain⟨n,h⟩:=ne j _ (by simp) h;obtain⟨w,m1,m2⟩:=r.dat j y h;exact⟨w,by rw[List.getElem?_set_ne n];exact m1,m2⟩
 ·obtain⟨n,h⟩:=ne j _ (by simp) h;obtain⟨b,us,m1,m2⟩:=r.own j zs h;exact⟨b,us,by rw[List.getElem?_set_ne n];exact m1,m2⟩
 ·obtain⟨n1,h1⟩:=ne j _ (by simp) h1;obtain⟨n2,h2⟩:=ne l _ (by simp) h2;rw[List.getElem?_set_ne n1,List.getElem?_set_ne n2];exact r.apart j l us ws hjl h1 h2
section
variable{X:Cx}{a b e:Expr}{es:List Expr}{f h:Dv→Option PyData}{fs:Dv→Option (List PyData)}{pos p:Pos}
def cL(T:Addr→Option Bool):PyData→Option PyData
 |.dict [(.int C,.none)]=>(T C.toNat).map .bool
 |_=>none
abbrev GY(T:Addr→Option Bool)(f:Dv→Option PyData):Dv→Option PyData:=fun δ=>(f δ).bind (cL T)
theorem EL{T:Addr→Option Bool}{cv:V}{xT:Str}{p1 p2:Pos}(hk:∀C b,T C=some b→Cc X.K C∧PySem.W.kitOne X.K (.ref C) (Cd cv)=some b)(hn:Cd cv≠.none)(hg:Gl X "isinstance")(hm:X.mg "isinstance" = none)(hT:PE X (.Name xT p2) (tC cv))(ha:DE X a f)
 (hs1:starEach [a,.Name xT p2] X.env=(false,eval a X.env)::starEach [.Name xT p2] X.env:=by rfl)(hpl:(backTo pos (starEach [.Name xT p2] X.env)).any (·.1)=false:=by rfl) :
  DE X (.Call (.Name "isinstance" p1) [a,.Name xT p2] [] pos) (GY T f):=by
 obtain⟨ta,pa,ka⟩:=ha;refine⟨_,BV Wi hg hm aY (AM pa (AM hT Af) hs1) (by decide) (by decide) hs1 hpl,fun δ z hz G0 H0 G H σ ts Q R0 k=>?_⟩;obtain⟨x,h1,h2⟩:=aA.mp hz;unfold cL at h2;split at h2
 ·rename_i C;obtain⟨bb,h3,rfl⟩:=aB.mp h2;refine ka δ _ h1 G0 H0 G H σ ts _ R0 fun u G1 H1 R1=>?_;have du:=R1.BE _ (.head _);rw[Du]at du;rcases du with ⟨ea,C',e1,rfl,h4⟩|⟨_,_,e1,_⟩|z
  rotate_left
  ·simp at e1
  ·rw[Jt]at z;cases z.1
  have:C=(C':Nat):=by simpa using e1
  subst this;obtain⟨k1,k2⟩:=hk _ _ h3;rw[Int.toNat_natCast]at k1 k2;exact⟨ea,C',cv,bb,rfl,hn,R1.ins _ _ h4,k1,k2,k _ _ _ (R1.drop.put (by rw[Du]))⟩
 ·cases h2
abbrev YT(j k:Nat)(m:List PyData→Option Xr)(fs:Dv→Option (List PyData)):DF:=fun δ=>((fs δ).bind m).map fun r=>match r with
 |.inl _=>.nx δ
 |.inr C=>.nx (((δ.set k (.d (Fc C))).set j (.d (Fc C))).set k .no)
theorem fV{kk j k:Nat}{fA:Addr}{fd:FuncData}{ps:List Str}{m:List PyData→Option Xr}{x:Str}{st':Stmt}{cx z n:Str}{Gx:Addr}{pz pn np spos tpos hpos tp:Pos}(T:Fn X.K X.mg x st' ps fA fd)(F:Ab X.prog X.w X.K X.mg X.base (Cy X.prog X.w) kk fA fd ps (Gu m))(hr:Bf kk X.A)(hg:Gl X x)(ha:DA X.DV (e::es) fs)
 (hB:∀ds C,m ds=some (.inr C)→DP X.K C Gx true)
 (hP:∀ {t:TX},cN X (.Call (.Name x p) (e::es) [] pos) t→PS X (.Try [.Expr (.Call (.Name x p) (e::es) [] pos) spos] [.ExceptHandler (some (.Name cx np)) (some n) [.Assign [.Name z pz] (.Name n pn) tpos] hpos] [] [] tp) (V6 X.K Gx t j k))
 (hdb:(x==("__debug__" : Str))=false:=by decide)(he:starEach (e::es) X.env=(false,eval e X.env)::starEach es X.env:=by rfl)(hpl:(backTo pos (starEach es X.env)).any (·.1)=false:=by rfl) :
  DS X (.Try [.Expr (.Call (.Name x p) (e::es) [] pos) spos] [.ExceptHandler (some (.Name cx np)) (some n) [.Assign [.Name z pz] (.Name n pn) tpos] hpos] [] [] tp) (YT j k m fs):=by
 obtain⟨ta,pa,ka⟩:=ha;refine⟨_,hP (cc T F hr hg pa hdb he hpl),fun δ r h G0 H0 G H σ D R q=>?_⟩;obtain⟨w,h1,rfl⟩:=aB.mp h;have h1':=h1;obtain⟨ds,_,hm⟩:=aA.mp h1';refine Rn (k:=kk) ka h1 R (fun x hx v G' H' R'=>?_) (fun C hC G' H' R'=>?_)
 ·subst hx;exact q _ _ _ R'.drop
 ·subst hC;refine⟨C,rfl,hB ds C hm,fun ea hea=>?_⟩;have R2:=R'.newObj (o:=Hg ea (.ref C)) hea;have de:Du (upd G' ea (Hg ea (.ref C))) (Fc C) (.ref ea):=by unfold Fc;rw[Du];exact .inl ⟨ea,C,rfl,rfl,Ad⟩
  exact q _ _ _ ((((R2.put de).put de).Ie.Ie).Ys k none)
end
def GS(ps N:List Str)(J:FJ)(ds:List PyData):Option Xr:=if ds.length=ps.length then(match J (Ic N ds) with
 |some (.inl (.rt x))=>some (.inl x)
 |some (.inl (.nx _))=>some (.inl .none)
 |some (.inl (.rn xs))=>some (.inl (.list xs))
 |some (.inr C)=>some (.inr C)
 |_=>none) else none
section
variable{P:Program}{w:World}{K:PySem.W.Frag}{mg:Str→Option Value}{base:Heap}{x:Str}{st:Stmt}{fA:Addr}{fd:FuncData}{N ps:List Str}{k:Nat}
theorem Yd{qual:Str}{scope:Scope}{cd:Value}{A:Around}{outer:List Env}{s:Shared}{H:Hp}{E:XK} :
  Lets (Bq (Cy P w) P w K mg base N qual scope fA cd A outer s H E) E:=fun _ _ _ _ _ _ _ _ I hx hE=>bQ I hx hE
theorem gY{qual:Str}{scope:Scope}{cd:Value}{A:Around}{outer:List Env}{s:Shared}{H:Hp}{E:XK}:Passes (Cy P w) (Bq (Cy P w) P w K mg base N qual scope fA cd A outer s H E) E:=gT fun _ _ _ z=>z
theorem ig{J:FJ}(T:Fn K mg x st ps fA fd)(S:Al N ps (AN st))
 (hb:∀(cdv:Value) (A:Around) (outer:List Env) (s:Shared) (H:Hp) (E:XK),Bf k (A.deeper (envOfC x (AN st) s.heap.objs.size fA cdv))→MZ (Bq (Cy P w) P w K mg base N x (AN st) fA cdv A outer s H E) E (B5 st) J) :
  Ab P w K mg base (Cy P w) (k+1) fA fd ps (Gu (GS ps N J)):=by
 refine T.F.jx S (fun vs H Q E h=>?_) fun cdv A outer s H vs Q E hr h=>?_
 ·obtain⟨ds,y,G,h1,h2,_⟩:=h;unfold GS at h1;split at h1
  ·rename_i hl;rw[h2.len];exact hl
  ·cases h1
 ·obtain⟨ds,y,G,h1,h2,h3,h4⟩:=h;obtain⟨t,p,kk⟩:=hb cdv A outer s H E hr;refine⟨t,p,?_⟩;unfold GS at h1;split at h1
  ·split at h1
   ·rename_i z e1;cases h1;exact kk _ _ e1 G H G H _ _ (Rw.start h2 h3) fun v G' H' m1 m2 m3 m4 m5=>h4 v G' H' m1 m2 m3 m4 m5
   ·rename_i δ e1;cases h1;exact kk _ _ e1 G H G H _ _ (Rw.start h2 h3) fun σ' G' H' R=>h4 .BM G' H' R.ext R.new R.ins R.keep (by rw[Du])
   ·rename_i xs e1;cases h1;exact kk _ _ e1 G H G H _ _ (Rw.start h2 h3) fun a ys G' H' m1 m2 m3 m4 m5 m6 m7 m8=>let⟨n1,n2,n3,n4⟩:=QY m1 m2 m3 m5 m6 m7 m8;h4 _ _ H' n1 n2 n3 m4 n4
   ·rename_i C e1;cases h1;exact kk _ _ e1 G H G H _ _ (Rw.start h2 h3) h4
   ·cases h1
  ·cases h1
theorem Ab.eQ{sp sp':Sp}(F:Ab P w K mg base (Cy P w) k fA fd ps sp)(h:∀vs H Q E,sp' vs H Q E→sp vs H Q fun _ _ _=>False):Ab P w K mg base Ao k fA fd ps sp' :=
 ⟨fun vs H Q E z=>F.len _ _ _ _ (h _ _ _ _ z),fun A outer s H args us vs Q E hr he hb hv hs=>codeAny_mono (F.run A outer s H args us vs Q _ hr he hb hv (h _ _ _ _ hs)) fun r s' z=>by
  cases r with
  |ok fl=>cases fl<;>exact z
  |error e=>obtain⟨_,_,_,_,_,_,_,z⟩:=z;exact z.elim⟩
def good(m:List PyData→Option Xr)(ds:List PyData):Option PyData:=match m ds with
 |some (.inl x)=>some x
 |_=>none
theorem iC{m:List PyData→Option Xr}(F:Ab P w K mg base (Cy P w) k fA fd ps (Gu m)):Ab P w K mg base Ao k fA fd ps (BR (good m)):=F.eQ fun vs H Q E z=>by
 obtain⟨ds,x,G,h1,h2,h3,h4⟩:=z;unfold good at h1;split at h1
 ·rename_i y e;cases h1;exact⟨ds,.inl x,G,e,h2,h3,h4⟩
 ·cases h1
end
abbrev Qn(fs:Dv→Option (List PyData)):DF:=fun δ=>(fs δ).map .rn
abbrev Y5(i:Nat):DF:=fun δ=>(ow i δ).map .rn
abbrev VR(i:Nat)(fs:Dv→Option (List PyData)):DF:=fun δ=>(fs δ).map fun ys=>.nx (δ.set i (.own (.lst ys)))
section
variable{X:Cx}{a:Expr}{h:Dv→Option PyData}{pos:Pos}
theorem bh{i:Nat}{x:Str}{np:Pos}(hv:PE X (.Name x np) (D0 i)):DS X (.Return (some (.Name x np)) pos) (Y5 i):=by
 refine⟨_,Cs hv,fun δ r h G0 H0 G H σ D R q=>?_⟩;obtain⟨xs,h1,rfl⟩:=aB.mp h;obtain⟨a,_,k1,k2,k3,k4,⟨ys,rfl,k5⟩⟩:=R.own i _ (Ir h1);exact⟨.ref a,k1,q a ys G H R.ext R.new R.ins R.keep k3 k2 k4 k5⟩
end
section
variable{X:Cx}{elt iter:Expr}{x:Str}{px pos spos:Pos}{ifs:List Expr}{scope:Scope}{fs:Dv→Option (List PyData)}{tif:Dv→Option Bool}{f:Dv→Option PyData}
theorem ZX(N:List Str)(ix:Nat)(fr:List (Option Nat))(hi:DI X (.Name x px) iter fs)(hif:∀cl C s₀ H₀ fp,QM (Ai X scope cl N C s₀ H₀ fp) ifs tif)(he:∀cl C s₀ H₀ fp,DE (Ai X scope cl N C s₀ H₀ fp) elt f)
 (h1:B7 scope N x ix=true:=by decide +kernel)(h2:X.calm=true:=by rfl)(h3:D3 N X.N scope X.env.scope fr 0=true:=by rfl)(h4:fr.length=N.length:=by rfl)(h5:freeOk X.env.scope scope.names=true:=by rfl)
 (hs:∀x,foldedSetIterable iter X.env x=pure x:=by intro _;rfl):DS X (.Return (some (.ListComp elt [⟨.Name x px,iter,ifs,0⟩] scope pos)) spos) (Qn (Fg (B3 ix) tif f fr fs)):=by
 obtain⟨wi,pi,ki⟩:=hi;refine⟨_,Cs (Rx N ix fr pi hif (fun cl C s₀ H₀ fp=>(he cl C s₀ H₀ fp).pe) h1 h2 h3 h4 h5 hs),fun δ r h G0 H0 G H σ D R q=>?_⟩;obtain⟨zs,m1,rfl⟩:=aB.mp h;exact Iy ki m1 R fun D' ys G' H' R' n1 n2 n3 n4 n5=>q _ _ _ _ R'.ext R'.new R'.ins R'.keep n3 n2 n1 n5
theorem Zz{i:Nat}{z:Str}{pz spos:Pos}(N:List Str)(ix:Nat)(fr:List (Option Nat))(hN:X.N.Nodup)(hy:X.N[i]? = some z)(hly:X.env.scope.names.lookup z=some .local)(hi:DI X (.Name x px) iter fs)(hif:∀cl C s₀ H₀ fp,QM (Ai X scope cl N C s₀ H₀ fp) ifs tif)(he:∀cl C s₀ H₀ fp,DE (Ai X scope cl N C s₀ H₀ fp) elt f)
 (h1:B7 scope N x ix=true:=by decide +kernel)(h2:X.calm=true:=by rfl)(h3:D3 N X.N scope X.env.scope fr 0=true:=by rfl)(h4:fr.length=N.length:=by rfl)(h5:freeOk X.env.scope scope.names=true:=by rfl)
 (hsw:swapsWith (.ListComp elt [⟨.Name x px,iter,ifs,0⟩] scope pos) (some (.Name z pz)) spos.line X.env=pure true:=by rfl)
 (hs:∀x,foldedSetIterable iter X.env x=pure x:=by intro _;rfl):DS X (.Assign [.Name z pz] (.ListComp elt [⟨.Name x px,iter,ifs,0⟩] scope pos) spos) (VR i (Fg (B3 ix) tif f fr fs)):=by
 obtain⟨wi,pi,ki⟩:=hi;refine⟨_,NJ N ix fr hN hy hly pi hif (fun cl C s₀ H₀ fp=>(he cl C s₀ H₀ fp).pe) h1 h2 h3 h4 h5 hsw hs,fun δ r h G0 H0 G H σ D R q=>?_⟩;obtain⟨zs,m1,rfl⟩:=aB.mp h;exact Iy ki m1 R fun D' ys G' H' R' n1 n2 n3 n4 n5=>q _ _ _ (R'.Zu ⟨_,rfl,n5⟩ n1 n2 n3 n4)
end
section
variable{N ps:List Str} 
theorem JH{F:DF}{ds xs:List PyData}(hl:ds.length=ps.length)(h:F (Ic N ds)=some (.rn xs)):CY ps N F ds=some (.list xs):=by unfold CY;rw[if_pos hl,h]
theorem UW{J:FJ}{ds:List PyData}{y:PyData}(hl:ds.length=ps.length)(h:J (Ic N ds)=some (.inl (.rt y))):GS ps N J ds=some (.inl y):=by unfold GS;rw[if_pos hl,h]
theorem Z2{J:FJ}{ds:List PyData}{δ:Dv}(hl:ds.length=ps.length)(h:J (Ic N ds)=some (.inl (.nx δ))):GS ps N J ds=some (.inl .none):=by unfold GS;rw[if_pos hl,h]
theorem PH{J:FJ}{ds:List PyData}{C:Addr}(hl:ds.length=ps.length)(h:J (Ic N ds)=some (.inr C)):GS ps N J ds=some (.inr C):=by unfold GS;rw[if_pos hl,h]
end
section
variable{J1 J2:FJ}{δ δ':Dv}{r:Option Yt}{c:Dv→Option Bool}{fs:Dv→Option (List PyData)}{m:List PyData→Option Xr}{ds:List PyData}   
theorem JJ(h:J1 δ=some (.inl (.nx δ')))(k:J2 δ'=r):Gq J1 J2 δ=r:=by unfold Gq;rw[h];exact k
theorem PD{C:Addr}(h:J1 δ=some (.inr C)):Gq J1 J2 δ=some (.inr C):=by unfold Gq;rw[h]
theorem U4(h:c δ=some true)(k:J1 δ=r):V2 c J1 J2 δ=r:=by show(c δ).bind _=r;rw[h];exact k
theorem Y0(h:c δ=some false)(k:J2 δ=r):V2 c J1 J2 δ=r:=by show(c δ).bind _=r;rw[h];exact k
theorem X7{nx:PyData→Dv→Ou}{y:PyData}(h:fs δ=some ds)(k:m ds=some (.inl y)):Qd m fs nx δ=some (.inl (nx y δ)):=by show((fs δ).bind m).map _=_;rw[h];show(m ds).map _=_;rw[k];rfl
theorem Yc{nx:PyData→Dv→Ou}{C:Addr}(h:fs δ=some ds)(k:m ds=some (.inr C)):Qd m fs nx δ=some (.inr C):=by show((fs δ).bind m).map _=_;rw[h];show(m ds).map _=_;rw[k];rfl
theorem Zj{j k:Nat}{C:Addr}(h:fs δ=some ds)(q:m ds=some (.inr C)):YT j k m fs δ=some (.nx (((δ.set k (.d (Fc C))).set j (.d (Fc C))).set k .no)):=by show((fs δ).bind m).map _=_;rw[h];show(m ds).map _=_;rw[q];rfl
end
def only(cs:List Addr)(m:List PyData→Option Xr)(ds:List PyData):Option Xr:=match m ds with
 |some (.inr C)=>if C∈cs then some (.inr C) else none
 |r=>r
theorem ZT{cs:List Addr}{m:List PyData→Option Xr}{ds:List PyData}{C:Addr}(h:only cs m ds=some (.inr C)):C∈cs:=by
 unfold only at h;split at h
 ·split at h
  ·rename_i hc;cases h;exact hc
  ·cases h
 ·rename_i n;exact absurd h (n C)
theorem Th{cs:List Addr}{m:List PyData→Option Xr}{ds:List PyData}{C:Addr}(h:m ds=some (.inr C))(hc:C∈cs):only cs m ds=some (.inr C):=by unfold only;rw[h];exact if_pos hc
theorem UI{cs:List Addr}{m:List PyData→Option Xr}{ds:List PyData}{x:PyData}(h:m ds=some (.inl x)):only cs m ds=some (.inl x):=by unfold only;rw[h]
theorem Xk{P:Program}{w:World}{K:PySem.W.Frag}{mg:Str→Option Value}{base:Heap}{CX:F0}{k:Nat}{f:Addr}{fd:FuncData}{ps:List Str}{m:List PyData→Option Xr}(cs:List Addr)(F:Ab P w K mg base CX k f fd ps (Gu m)):Ab P w K mg base CX k f fd ps (Gu (only cs m)) :=
 F.imp fun vs H Q E z=>by
  obtain⟨ds,r,G,h1,h2⟩:=z;refine⟨ds,r,G,?_,h2⟩;unfold only at h1;split at h1
  ·rename_i C e;split at h1
   ·cases h1;exact e
   ·cases h1
  ·exact h1
section
variable{xs:List PyData}
theorem Sd(xs:List PyData)(p:Nat):cutD xs (some (p:Int)) none=xs.drop p:=by
 unfold cutD;rw[HT.R7,HT.Zy];by_cases h:p≤xs.length
 ·rw[Nat.min_eq_left h,List.take_of_length_le (by rw[List.length_drop];lia)]
 ·rw[Nat.min_eq_right (by lia),Nat.sub_self,List.take_zero,List.drop_of_length_le (by lia)]
theorem Sr(xs:List PyData):cutD xs none (some (-1))=xs.take (xs.length-1):=by
 unfold cutD;rw[HT.R7,List.drop_zero,Nat.sub_zero]
 congr 1
 unfold HT.Ba;simp
 lia
end
section
variable{F F2:DF}{δ δ':Dv}{fs:Dv→Option (List PyData)}{xs:List PyData}{set:PyData→Dv→Option Dv}{r:Option Ou}
theorem dh(Iv:Nat→Dv→Prop)(hx:fs δ=some xs)(h0:Iv 0 δ)(hs:∀(i:Nat) (x:PyData) (δ:Dv),xs[i]? = some x→Iv i δ→∃δ1,set x δ=some δ1∧∃δ2,F δ1=some (.nx δ2)∧Iv (i+1) δ2) :
  ∃δ',MV fs set F δ=some (.nx δ')∧Iv xs.length δ':=Ry Iv hx h0 fun i x δ a b=>let⟨δ1,c,δ2,e,g⟩:=hs i x δ a b;⟨δ1,δ2,c,e,g⟩
theorem Xn(Iv:Nat→Dv→Prop)(hx:fs δ=some xs)(h0:Iv 0 δ)(hs:∀(i:Nat) (x:PyData) (δ:Dv),xs[i]? = some x→Iv i δ→∃δ1,set x δ=some δ1∧∃δ2,F δ1=some (.nx δ2)∧Iv (i+1) δ2)
 (k:∀δ',Iv xs.length δ'→F2 δ'=r):AX (MV fs set F) F2 δ=r:=by
 obtain⟨δ',h1,h2⟩:=dh Iv hx h0 hs;exact AF h1 (k δ' h2)
theorem JF{f:Dv→Option PyData}{x:PyData}(h:f δ=some x)(k:Oa x=some xs):D9 f δ=some xs:=by show(f δ).bind Oa=_;rw[h];exact k
end
end L2
set_option maxHeartbeats 2000000
set_option maxHeartbeats 1000000
set_option maxHeartbeats 4000000
set_option maxHeartbeats 1000000
set_option maxHeartbeats 4000000
set_option maxHeartbeats 1000000
namespace L2
open PySem PySem.Spec PyProof.Rows
abbrev Mc(i:Nat)(f:Dv→Option PyData):DF:=fun δ=>(f δ).bind fun x=>match x with
 |.list xs=>some (.nx (δ.set i (.own (.lst xs))))
 |_=>none
section
variable{X:Cx}{e:Expr}{fs:Dv→Option (List PyData)}{i:Nat}{y:Str}{pos pos' p cp:Pos}
theorem U5(hg:Gl X "list")(hm:X.mg "list" = none)(ha:DA X [e] fs)(hN:X.N.Nodup)(hi':X.N[i]? = some y)(hx:Loc X.env.scope y)
 (he:starEach [e] X.env=(false,eval e X.env)::starEach [] X.env:=by rfl)(hpl:(backTo cp (starEach [] X.env)).any (·.1)=false:=by rfl)
 (hs:swapsWith (.Call (.Name "list" p) [e] [] cp) (some (.Name y pos')) pos.line X.env=pure false:=by rfl)(hf:X.fn y=true∨X.env.scope.names.lookup y=some .local:=by first|exact .inl rfl|exact .inr rfl|assumption) :
  DS X (.Assign [.Name y pos'] (.Call (.Name "list" p) [e] [] cp) pos) (Mc i fun δ=>(fs δ).bind Hs):=by
 obtain⟨ta,pa,ka⟩:=ha;refine⟨_,Bp hN hi' hx (Pr MD hg hm av pa (by decide) (by decide) he hpl) hs hf,fun δ r hz G0 H0 G H σ D R q=>?_⟩;obtain⟨x,h1,h2⟩:=aA.mp hz;obtain⟨xs,h3,h4⟩:=aA.mp h1;refine ka δ _ h3 G0 H0 G H σ [] _ R fun vs G1 H1 R1 hv=>?_;obtain⟨d,R2⟩:=R1.args hv;unfold Hs at h4;split at h4
 ·cases h4;cases h2;obtain⟨u,rfl,du⟩:=d.JR;rw[Du]at du;obtain⟨p,ys,rfl,k1,k2⟩:=du;exact⟨p,ys,rfl,.inl (BI.of (R2.ins _ _ k1)),fun l hl=>q _ _ _ (R2.OM ⟨_,rfl,k2⟩ hl)⟩
 ·cases h4;cases h2;obtain⟨u,rfl,du⟩:=d.JR;rw[Du]at du;obtain⟨p,ys,rfl,k1,k2⟩:=du;exact⟨p,ys,rfl,.inr (CS.of (R2.ins _ _ k1)),fun l hl=>q _ _ _ (R2.OM ⟨_,rfl,k2⟩ hl)⟩
 ·cases h4
end
end L2
set_option maxHeartbeats 4000000
set_option maxHeartbeats 1000000
set_option maxHeartbeats 4000000
set_option maxHeartbeats 1000000
set_option maxHeartbeats 4000000
set_option maxHeartbeats 1000000
set_option maxHeartbeats 2000000
set_option maxHeartbeats 4000000
set_option maxHeartbeats 1000000
set_option maxHeartbeats 4000000
set_option maxHeartbeats 1000000
namespace L2
open PySem PySem.Spec PyProof.Rows
section
variable{X:Cx}{b:Expr}{p:Pos}
def bools:List PyData→Option (List Bool)
 |[]=>some []
 |.bool b::ds=>(bools ds).map (b :: ·)
 |_=>none
theorem RK{G:Hp}:∀ {ds:List PyData} {bs:List Bool} {vs:List V},bools ds=some bs→Ax G ds vs→vs=bs.map V.bl
 |[],bs,vs,h,d=>by cases h;rw[Ax]at d;exact d
 |d::ds,bs,vs,h,k=>by
  cases d with
  |bool b =>
   rw[bools]at h;obtain⟨r,h1,rfl⟩:=aB.mp h;rw[Ax]at k;obtain⟨x,ys,rfl,k1,k2⟩:=k;rw[Du]at k1;subst k1;rw[RK h1 k2];rfl
  |_=>simp[bools]at h
def Xj:List PyData→Option PyData
 |[.list ds]=>(bools ds).map fun bs=>.bool (bs.all id)
 |_=>none
theorem fF(hc:X.calm=true):IC X (.builtin "all") Xj:=by
 refine⟨_,Xe hc,fun xs z hz G0 H0 G H σ δ ts us Q R0 d k=>?_⟩;unfold Xj at hz;split at hz
 ·obtain⟨bs,h1,rfl⟩:=aB.mp hz;obtain⟨u,rfl,du⟩:=d.JR;rw[Du]at du;obtain⟨p,ys,rfl,h4,h5⟩:=du;have:=RK h1 h5;subst this;exact⟨p,bs,rfl,BI.of (R0.ins _ _ h4),k _ _ _ (R0.put (by rw[Du]))⟩
 ·cases hz
end
end L2
set_option maxHeartbeats 4000000
set_option maxHeartbeats 1000000
namespace L2
open PySem PySem.Spec PyProof.Rows
section
variable{X:Cx}
def Mf(es:List PyData)(d:PyData):Bool:=es.any fun y=>PyData.eqv y d
def cg(K:PySem.W.Frag)(neg:Bool):R2:=fun x y H Q=>∃d es,Br K H d x∧Br K H (.list es) y∧SeqAt.shaped d=true∧SeqAt.shaped (.list es)=true∧Q (.bl (if neg then !Mf es d else Mf es d)) H
theorem Zn{es:List PyData}(h:SeqAt.shaped (.list es)=true):PyData.canLayAll0 es=true∧PyData.depthAll es≤63:=by
 have h1:=SeqAt.canLay_of_shaped h;have h2:=SeqAt.depth_of_shaped h;simp only[PyData.canLay0]at h1;simp only[PyData.depth]at h2;exact⟨h1,by lia⟩
theorem cW(hu:X.A.units+64<cLine):Cm X (compareOp .In) (cg X.K false):=by
 intro pins s σ H x y v u Q I rx ry h;obtain⟨d,es,h1,h2,s1,s2,q⟩:=h;obtain⟨as,ra⟩:=Br.reads I h1 rx;obtain⟨bs,rb⟩:=Br.reads I h2 ry;obtain⟨c1,c2⟩:=Zn s2;exact SeqAt.in_list_reads rb ra c1 (SeqAt.canLay_of_shaped s1) (by have:=Nat.min_le_left (PyData.depthAll es) d.depth;lia) ⟨.bl _,H,I,rfl,q⟩
def O8(neg:Bool):PyData→PyData→Option PyData:=fun x y=>match y with
 |.list es=>if SeqAt.shaped x=true∧SeqAt.shaped (.list es)=true then some (.bool (if neg then !Mf es x else Mf es x)) else none
 |_=>none
theorem Zs{m:Value→Value→Sem Value}{neg:Bool}(ho:Cm X m (cg X.K neg)):Dj X m (O8 neg):=by
 refine⟨_,ho,fun x y z hz G0 H0 G H σ δ ts u v Q R0 du dv k=>?_⟩;unfold O8 at hz;split at hz
 ·split at hz
  ·rename_i hs;cases hz;exact⟨x,_,(du.same R0.ins).br (J5 hs.1),(dv.same R0.ins).br (J5 hs.2),hs.1,hs.2,k _ _ _ (R0.put (by rw[Du]))⟩
  ·cases hz
 ·cases hz
theorem fg(hu:X.A.units+64<cLine):Dj X (compareOp .In) (O8 false):=Zs (cW hu)
theorem WA:Fp X (.type "str") (fun xs H Q=>∃i:Int,xs=[.int i]∧i.natAbs.log2<1920∧Q (.str (Str.ofString (toString i))) H):=by
 intro pins s σ H xs us Q I r h;obtain⟨i,rfl,hl,q⟩:=h;obtain⟨u,rfl,t,rfl⟩:=vals1 r;exact P.str_of_int hl ⟨.str (Str.ofString (toString i)),H,I.tok _,⟨_,rfl⟩,q⟩
end
section
variable{X:Cx}{e lo hi:Expr}{te tl th:TE}{pos p2:Pos}
theorem YN(he:PE X e te)(hl:PE X hi tl):PE X (.Subscript e (.Slice none (some hi) none p2) pos)
  (fun σ H Q=>te σ H fun x H1=>tl σ H1 fun z H2=>∃(y:Str) (i:Int),x=.str y∧z=.int i∧y.length≤sizeLine∧Q (.str (Txt.slice y none (some i))) H2):=by
 intro pins s σ H Q I h;refine Subscript_ (BD (he pins s σ H _ I h) fun v s1 ⟨x,H1,I1,r1,q1⟩=>?_);refine wpAny_Slice ?_;rw[evalPart_none];refine aD ?_;rw[evalPart_some];refine BD (hl pins s1 σ H1 _ I1 q1) fun vk s3 ⟨z,H3,I3,r3,q3⟩=>?_;refine aD ?_;obtain⟨y,i,rfl,rfl,hz,q⟩:=q3;obtain⟨t1,rfl⟩:=r1;obtain⟨t3,rfl⟩:=r3;show wpAny (model X.prog X.w) X.A (subscriptTail e (.Slice none (some hi) none p2) (.str y t1) (.ref s3.heap.objs.size)) (EP X pins σ Q) X.xe {s3 with heap:=s3.heap.push { cls:=.type "slice",data:=.fields #[.none,.int i t3,.none]} };obtain⟨T,id,hT,ht,hg⟩:=SBH.sliceItem_ns (prog:=X.prog) (w:=X.w) (A:=X.A) (E:=X.xe) (s:=s3) (x:=y) (t:=t1) (uj:=t3) (P:=fun h'=>∀b o,s3.heap.get? b=some o→h'.get? b=some o) (Q:=EP X pins σ Q) (fun h o k b ob q=>aI _ (k b ob q)) (fun _ _ q=>q)
  (fun h' t' k kk=>⟨.str (Txt.slice y none (some i)),H3,I3.kept (t':=k) kk,⟨t',rfl⟩,q⟩) hz
 exact tail_any (ops:=[.ref s3.heap.objs.size,.str y t1]) ht hT hg (by with_unfolding_all rfl)
theorem YH(he:PE X e te)(hl:PE X lo tl)(hh:PE X hi th):PE X (.Subscript e (.Slice (some lo) (some hi) none p2) pos)
  (fun σ H Q=>te σ H fun x H1=>tl σ H1 fun z H2=>th σ H2 fun z' H3=>∃(y:Str) (i j:Int),x=.str y∧z=.int i∧z'=.int j∧y.length≤sizeLine∧Q (.str (Txt.slice y (some i) (some j))) H3):=by
 intro pins s σ H Q I h;refine Subscript_ (BD (he pins s σ H _ I h) fun v s1 ⟨x,H1,I1,r1,q1⟩=>?_);refine wpAny_Slice ?_;rw[evalPart_some];refine BD (hl pins s1 σ H1 _ I1 q1) fun vk s2 ⟨z,H2,I2,r2,q2⟩=>?_;rw[evalPart_some];refine BD (hh pins s2 σ H2 _ I2 q2) fun vk' s3 ⟨z',H3,I3,r3,q3⟩=>?_;rw[evalPart_none];refine aD ?_;obtain⟨y,i,j,rfl,rfl,rfl,hz,q⟩:=q3;obtain⟨t1,rfl⟩:=r1;obtain⟨t2,rfl⟩:=r2;obtain⟨t3,rfl⟩:=r3;show wpAny (model X.prog X.w) X.A (subscriptTail e (.Slice (some lo) (some hi) none p2) (.str y t1) (.ref s3.heap.objs.size)) (EP X pins σ Q) X.xe {s3 with heap:=s3.heap.push { cls:=.type "slice",data:=.fields #[.int i t2,.int j t3,.none]} };obtain⟨T,id,hT,ht,hg⟩:=SBH.sliceItem_ss (prog:=X.prog) (w:=X.w) (A:=X.A) (E:=X.xe) (s:=s3) (x:=y) (t:=t1) (ui:=t2) (uj:=t3) (P:=fun h'=>∀b o,s3.heap.get? b=some o→h'.get? b=some o) (Q:=EP X pins σ Q) (fun h o k b ob q=>aI _ (k b ob q)) (fun _ _ q=>q)
  (fun h' t' k kk=>⟨.str (Txt.slice y (some i) (some j)),H3,I3.kept (t':=k) kk,⟨t',rfl⟩,q⟩) hz
 exact tail_any (ops:=[.ref s3.heap.objs.size,.str y t1]) ht hT hg (by with_unfolding_all rfl)
end
def KP:PyData→PyData→Option PyData:=fun x z=>match x,z with|.str y,.int i=>(if y.length≤CG then some (.str (Txt.slice y (some i) none)) else none)|_,_=>none
def Hk:PyData→PyData→Option PyData:=fun x z=>match x,z with|.str y,.int i=>(if y.length≤CG then some (.str (Txt.slice y none (some i))) else none)|_,_=>none
def Uy(x z z':PyData):Option PyData:=match x,z,z' with|.str y,.int i,.int j=>(if y.length≤CG then some (.str (Txt.slice y (some i) (some j))) else none)|_,_,_=>none
abbrev Uj(f g h:Dv→Option PyData):Dv→Option PyData:=fun δ=>(f δ).bind fun x=>(g δ).bind fun y=>(h δ).bind fun z=>Uy x y z
section
variable{X:Cx}{a b c e:Expr}{f g h:Dv→Option PyData}{fs:Dv→Option (List PyData)}{pos p2:Pos}
theorem Ms(ha:DE X a f)(hb:DE X b g):DE X (.Subscript a (.Slice (some b) none none p2) pos) (AE KP f g):=by
 obtain⟨ta,pa,ka⟩:=ha;obtain⟨tb,pb,kb⟩:=hb;refine⟨_,Uw pa pb,fun δ z hz G0 H0 G H σ ts Q R0 k=>?_⟩;obtain⟨x,y,h1,h2,h3⟩:=two (x:=.none) (y:=.none) hz;refine ka δ x h1 G0 H0 G H σ ts _ R0 fun u G1 H1 R1=>?_;refine kb δ y h2 G0 H0 G1 H1 σ _ _ R1 fun v G2 H2 R2=>?_;have du:=R2.BE (x,u) (.tail _ (.head _));have dv:=R2.BE (y,v) (.head _);unfold KP at h3;split at h3
 ·split at h3
  ·rename_i hl;cases h3;rw[Du]at du;rw[Du]at dv;subst du dv;exact⟨_,_,rfl,rfl,ED hl,k _ _ _ (R2.drop.drop.put (by rw[Du]))⟩
  ·cases h3
 ·cases h3
theorem Kk(ha:DE X a f)(hb:DE X b g):DE X (.Subscript a (.Slice none (some b) none p2) pos) (AE Hk f g):=by
 obtain⟨ta,pa,ka⟩:=ha;obtain⟨tb,pb,kb⟩:=hb;refine⟨_,YN pa pb,fun δ z hz G0 H0 G H σ ts Q R0 k=>?_⟩;obtain⟨x,y,h1,h2,h3⟩:=two (x:=.none) (y:=.none) hz;refine ka δ x h1 G0 H0 G H σ ts _ R0 fun u G1 H1 R1=>?_;refine kb δ y h2 G0 H0 G1 H1 σ _ _ R1 fun v G2 H2 R2=>?_;have du:=R2.BE (x,u) (.tail _ (.head _));have dv:=R2.BE (y,v) (.head _);unfold Hk at h3;split at h3
 ·split at h3
  ·rename_i hl;cases h3;rw[Du]at du;rw[Du]at dv;subst du dv;exact⟨_,_,rfl,rfl,ED hl,k _ _ _ (R2.drop.drop.put (by rw[Du]))⟩
  ·cases h3
 ·cases h3
theorem Zk(ha:DE X a f)(hb:DE X b g)(hc:DE X c h):DE X (.Subscript a (.Slice (some b) (some c) none p2) pos) (Uj f g h):=by
 obtain⟨ta,pa,ka⟩:=ha;obtain⟨tb,pb,kb⟩:=hb;obtain⟨tc,pc,kc⟩:=hc;refine⟨_,YH pa pb pc,fun δ z hz G0 H0 G H σ ts Q R0 k=>?_⟩;obtain⟨x,h1,hz⟩:=aA.mp hz;obtain⟨y,h2,hz⟩:=aA.mp hz;obtain⟨w,h3,h4⟩:=aA.mp hz;refine ka δ x h1 G0 H0 G H σ ts _ R0 fun u G1 H1 R1=>?_;refine kb δ y h2 G0 H0 G1 H1 σ _ _ R1 fun v G2 H2 R2=>?_;refine kc δ w h3 G0 H0 G2 H2 σ _ _ R2 fun v' G3 H3 R3=>?_;have du:=R3.BE (x,u) (.tail _ (.tail _ (.head _)));have dv:=R3.BE (y,v) (.tail _ (.head _));have dw:=R3.BE (w,v') (.head _);unfold Uy at h4;split at h4
 ·split at h4
  ·rename_i hl;cases h4;rw[Du]at du;rw[Du]at dv;rw[Du]at dw;subst du dv dw;exact⟨_,_,_,rfl,rfl,rfl,ED hl,k _ _ _ (R3.drop.drop.drop.put (by rw[Du]))⟩
  ·cases h4
 ·cases h4
def DN:List PyData→Option PyData
 |[.str x]=>if x.length≤CG then some (.int x.length) else none
 |_=>none
theorem K1:IC X (.builtin "len") DN:=by
 refine⟨_,Se,fun xs z hz G0 H0 G H σ δ ts us Q R0 d k=>?_⟩;unfold DN at hz;split at hz
 ·split at hz
  ·rename_i hl;cases hz;obtain⟨u,r,rfl,d1,d2⟩:=d.un;have:=d2.nil_eq;subst this;rw[Du]at d1;subst d1;exact⟨_,rfl,ED hl,k _ _ _ (R0.put (by rw[Du]))⟩
  ·cases hz
 ·cases hz
def strsOf:List PyData→Option (List Str)
 |[]=>some []
 |.str x::r=>(strsOf r).map (x :: ·)
 |_=>none
theorem Pu:∀ {xs:List PyData} {ys:List Str},strsOf xs=some ys→xs=ys.map PyData.str
 |[],_,e=>by cases e;rfl
 |.str x::r,_,e=>by
  rw[strsOf]at e;obtain⟨zs,h1,rfl⟩:=aB.mp e;rw[Pu h1];rfl
 |.none::_,_,e=>by cases e
 |.bool _::_,_,e=>by cases e
 |.int _::_,_,e=>by cases e
 |.tuple _::_,_,e=>by cases e
 |.list _::_,_,e=>by cases e
 |.dict _::_,_,e=>by cases e
theorem Rq{G:Hp}:∀ {ys:List Str} {us:List V},Ax G (ys.map PyData.str) us→us=ys.map V.str
 |[],_,d=>d.nil_eq
 |y::ys,_,d=>by
  obtain⟨u,r,rfl,d1,d2⟩:=d.un;rw[Du]at d1;subst d1;rw[Rq d2];rfl
theorem Mv:∀ {ys:List Str} {us:List Value},Vals (ys.map V.str) us→CarriedAll us (ys.map PyData.str)
 |[],_,.nil=>.nil
 |y::ys,_,.cons ⟨t,e⟩ r=>by subst e;exact .cons (.str _ _) (Mv r)
def W6:PyData→Bool
 |.str _=>true
 |_=>false
theorem Xa(K:PySem.W.Frag):∀d:PyData,(∀kv,d≠.dict kv)→PySem.W.kitOne K (.type (MJ d)) (.type "str")=some (W6 d)
 |.none,_=>by kernel_rfl
 |.bool _,_=>by kernel_rfl
 |.int _,_=>by kernel_rfl
 |.str _,_=>by kernel_rfl
 |.tuple _,_=>by kernel_rfl
 |.list _,_=>by kernel_rfl
 |.dict kv,h=>absurd rfl (h kv)
abbrev ZA(i j k:Nat)(m:List PyData→Option Xr)(fs:Dv→Option (List PyData)):DF:=fun δ=>((fs δ).bind m).map fun r=>match r with
 |.inl x=>.nx (δ.set i (.d x))
 |.inr C=>.nx (((δ.set k (.d (Fc C))).set j (.d (Fc C))).set k .no)
end
end L2
set_option maxHeartbeats 4000000
set_option maxHeartbeats 1000000
namespace L2
open PySem PySem.Spec PyProof.Rows
section
variable{X:Cx}{a b c e:Expr}{ta tb tc:TE}{f g h:Dv→Option PyData}{pos p cp ap:Pos}
def jR:V→Hp→VK→Prop:=fun x H Q=>(∃i:Int,x=.int i∧i.natAbs.log2<1920∧Q (.str (Str.ofString (toString i))) H)∨∃s:Str,x=.str s∧s.length≤sizeLine∧Q (.str s) H
theorem gD(ha:PE X a ta):PE X (.FormattedValue a (-1) none pos) (fun σ H Q=>ta σ H fun x H1=>jR x H1 Q):=by
 intro pins s σ H Q I h;refine wpAny_FormattedValue_plain (BD (ha pins s σ H _ I h) fun v s1 ⟨x,H1,I1,r1,q1⟩=>?_);rcases q1 with ⟨i,rfl,hi,q⟩|⟨y,rfl,hy,q⟩
 ·obtain⟨t,rfl⟩:=r1;exact wpAny_formatField_int hi ⟨.str (Str.ofString (toString i)),H1,I1.tok _,⟨_,rfl⟩,q⟩
 ·obtain⟨t,rfl⟩:=r1;exact wpAny_formatField_str ⟨.str y,H1,I1,⟨_,rfl⟩,q⟩ ⟨.str y,H1,I1.tok _,⟨_,rfl⟩,q⟩ hy
theorem gM(ha:PE X a ta):PE X (.JoinedStr [a] pos) ta:=fun pins s σ H Q I h=>wpAny_JoinedStr_one (ha pins s σ H Q I h)
theorem gg(ha:PE X a ta)(hb:PE X b tb)(hc:PE X c tc):PE X (.JoinedStr [a,b,c] pos) (fun σ H Q=>ta σ H fun x H1=>∃s,x=.str s∧s.length≤100000∧tb σ H1 fun y H2=>∃t,y=.str t∧t.length≤100000∧tc σ H2 fun z H3=>∃u,z=.str u∧u.length≤100000∧Q (.str (Str.empty++s++t++u)) H3):=by
 intro pins s σ H Q I h;refine wpAny_JoinedStr ?_;show wpAny (model X.prog X.w) X.A (eval a X.env) _ X.xe s;refine BD (ha pins s σ H _ I h) fun v s1 ⟨x,H1,I1,r1,y,ex,hy,q1⟩=>?_;subst ex;obtain⟨t,rfl⟩:=r1;have l0:Str.empty.length=0:=rfl;refine⟨y,t,rfl,by rw[strLen_append,l0,sizeLine_eq];lia,?_⟩;show wpAny (model X.prog X.w) X.A (eval b X.env) _ X.xe s1;refine BD (hb pins s1 σ H1 _ I1 q1) fun v s2 ⟨x,H2,I2,r2,z,ex,hz,q2⟩=>?_;subst ex;obtain⟨t2,rfl⟩:=r2;refine⟨z,t2,rfl,by rw[strLen_append,strLen_append,l0,sizeLine_eq];lia,?_⟩;show wpAny (model X.prog X.w) X.A (eval c X.env) _ X.xe s2;refine BD (hc pins s2 σ H2 _ I2 q2) fun v s3 ⟨x,H3,I3,r3,u,ex,hu,q3⟩=>?_;subst ex;obtain⟨t3,rfl⟩:=r3;have l1:(Str.empty++y++z++u).length≤sizeLine:=by rw[strLen_append,strLen_append,strLen_append,l0,sizeLine_eq];lia
 exact⟨u,t3,rfl,l1,l1,.str (Str.empty++y++z++u),H3,I3.tok _,⟨_,rfl⟩,q3⟩
def LV:PyData→Option PyData
 |.int i=>if i.natAbs.log2<1920 then some (.str (Str.ofString (toString i))) else none
 |.str s=>if s.length≤100000 then some (.str s) else none
 |_=>none
theorem SO(ha:DE X a f):DE X (.FormattedValue a (-1) none pos) (fun δ=>(f δ).bind LV):=by
 obtain⟨ta,pa,ka⟩:=ha;refine⟨_,gD pa,fun δ z hz G0 H0 G H σ ts Q R0 k=>?_⟩;obtain⟨x,h1,h2⟩:=aA.mp hz;refine ka δ x h1 G0 H0 G H σ ts _ R0 fun u G1 H1 R1=>?_;have du:=R1.BE (x,u) (.head _);unfold LV at h2;split at h2
 ·split at h2
  ·rename_i hi;cases h2;rw[Du]at du;subst du;exact .inl ⟨_,rfl,hi,k _ _ _ (R1.drop.put (by rw[Du]))⟩
  ·cases h2
 ·split at h2
  ·rename_i hi;cases h2;rw[Du]at du;subst du;exact .inr ⟨_,rfl,by rw[sizeLine_eq];lia,k _ _ _ (R1.drop.put (by rw[Du]))⟩
  ·cases h2
 ·cases h2
def Qm(x y z:PyData):Option PyData:=match x,y,z with|.str s,.str t,.str u=>if s.length≤100000∧t.length≤100000∧u.length≤100000 then some (.str (Str.empty++s++t++u)) else none|_,_,_=>none
abbrev ZC(f g h:Dv→Option PyData):Dv→Option PyData:=fun δ=>(f δ).bind fun x=>(g δ).bind fun y=>(h δ).bind fun z=>Qm x y z
theorem gL(ha:DE X a f):DE X (.JoinedStr [a] pos) f:=by
 obtain⟨ta,pa,ka⟩:=ha;exact⟨_,gM pa,ka⟩
theorem iE(ha:DE X a f)(hb:DE X b g)(hc:DE X c h):DE X (.JoinedStr [a,b,c] pos) (ZC f g h):=by
 obtain⟨ta,pa,ka⟩:=ha;obtain⟨tb,pb,kb⟩:=hb;obtain⟨tc,pc,kc⟩:=hc;refine⟨_,gg pa pb pc,fun δ z hz G0 H0 G H σ ts Q R0 k=>?_⟩;obtain⟨x,h1,hz⟩:=aA.mp hz;obtain⟨y,h2,hz⟩:=aA.mp hz;obtain⟨w,h3,h4⟩:=aA.mp hz;unfold Qm at h4;split at h4
 ·split at h4
  ·rename_i hs;cases h4;refine ka δ _ h1 G0 H0 G H σ ts _ R0 fun u G1 H1 R1=>?_;have du:=R1.BE (_,u) (.head _);rw[Du]at du;subst du;refine⟨_,rfl,hs.1,kb δ _ h2 G0 H0 G1 H1 σ _ _ R1.drop fun v G2 H2 R2=>?_⟩;have dv:=R2.BE (_,v) (.head _);rw[Du]at dv;subst dv;refine⟨_,rfl,hs.2.1,kc δ _ h3 G0 H0 G2 H2 σ _ _ R2.drop fun v G3 H3 R3=>?_⟩;have dw:=R3.BE (_,v) (.head _);rw[Du]at dw;subst dw;exact⟨_,rfl,hs.2.2,k _ _ _ (R3.drop.put (by rw[Du]))⟩
  ·cases h4
 ·cases h4
def dJ(K:PySem.W.Frag):V→List V→Hp→VK→Prop:=fun x xs H Q=>∃s a ys,x=.str s∧xs=[.ref a]∧BI K H a (ys.map V.str)∧(ys.map (·.length)).sum+ys.length*s.length≤16777216∧Q (.str (Txt.join s ys)) H
theorem X6:SR X "str.join" (dJ X.K):=by
 intro pins s σ H x xs v us Q I rx rv h;obtain⟨z,q,ys,rfl,rfl,hq,hn,h⟩:=h;obtain⟨t,rfl⟩:=rx;obtain⟨u,rfl,ru⟩:=Vals.one rv;cases ru;obtain⟨its,r',pl,_⟩:=I.list hq;exact join_list pl.isList (StrsAre.of_carried (by simpa using Mv r')) hn fun t' k=>⟨.str (Txt.join z ys),H,I.tok _,⟨t',rfl⟩,h⟩
def Cj:PyData→PyData→Option PyData:=fun x y=>match x,y with
 |.str s,.list xs=>(strsOf xs).bind fun ys=>if(ys.map (·.length)).sum+ys.length*s.length≤16777216 then some (.str (Txt.join s ys)) else none
 |_,_=>none
theorem Ep(ho:DE X a f)(ha:DE X e g)
 (hbase:attributeBase a "join" X.env (eval a X.env)=eval a X.env:=by rfl)
 (hfew:((backTo cp (starEach [e] X.env)).all (fun x=>!x.1)&&(backToKw cp (keywordEach [] X.env)).all (fun x=>x.1.isSome)
   && decide (([e]:List Expr).length+([]:List Keyword).length+(if([]:List Keyword).isEmpty then 0 else 1)<30))=true:=by rfl)
 (hline:(ap.endLine==cp.line)=true:=by rfl)(hs:starEach [e] X.env=(false,eval e X.env)::starEach [] X.env:=by rfl)(hplain:(backTo cp (starEach [] X.env)).any (·.1)=false:=by rfl) :
  DE X (.Call (.Attribute a "join" ap) [e] [] cp) (AE Cj f g):=by
 obtain⟨to,po,ko⟩:=ho;obtain⟨ta,pa,ka⟩:=ha;refine⟨_,Fl bF PySem.F.slot_str_join PySem.F.type_str_join X6 po (AM pa Af hs) hbase hfew hline hs hplain,fun δ z hz G0 H0 G H σ ts Q R0 k=>?_⟩;obtain⟨x,y,h1,h2,h3⟩:=two (x:=.none) (y:=.none) hz;refine ko δ x h1 G0 H0 G H σ ts _ R0 fun u G1 H1 R1=>?_;have du:=R1.BE (x,u) (.head _);unfold Cj at h3;split at h3
 ·rename_i s xs;obtain⟨ys,h4,h5⟩:=aA.mp h3;have:=Pu h4;subst this;split at h5
  ·rename_i hc;cases h5;rw[Du]at du;subst du;refine⟨rfl,ka δ _ h2 G0 H0 G1 H1 σ _ _ R1 fun v G2 H2 R2=>?_⟩;have dv:=R2.BE (_,v) (.head _);rw[Du]at dv;obtain⟨p,us,rfl,hp,dus⟩:=dv;have:=Rq dus;subst this;exact⟨s,p,ys,rfl,rfl,BI.of (R2.ins _ _ hp),hc,k _ _ _ (R2.drop.drop.put (by rw[Du]))⟩
  ·cases h5
 ·cases h3
end
end L2
set_option maxHeartbeats 4000000
set_option maxHeartbeats 2000000
set_option maxHeartbeats 4000000
set_option maxHeartbeats 2000000
namespace L2
open PySem PySem.Spec PyProof.Rows
section
variable{X:Cx}{a b e:Expr}{f g h:Dv→Option PyData}{p cp ap:Pos}{y:Str}
def WV:V→List V→Hp→VK→Prop:=fun x xs H Q=>∃s y:Str,x=.str s∧xs=[.str y]∧y.length≠0∧s.length≤100000∧∀p,H p=none→Q (.ref p) (upd H p (.lst ((Txt.split s y).map V.str)))
theorem QD:∀ {l:List (Str×Tok)},Vals ((l.map (·.1)).map V.str) (strValues l)
 |[]=>.nil
 |q::l=>.cons ⟨q.2,rfl⟩ QD
theorem Ru:SR X "str.split" WV:=by
 intro pins s σ H x xs v us Q I rx rv h;obtain⟨z,y,rfl,rfl,hy,hz,q⟩:=h;obtain⟨t,rfl⟩:=rx;obtain⟨u,rfl,t',rfl⟩:=Vals.one rv;have big:100002≤sizeLine:=by rw[sizeLine_eq];decide
 have hy':(y.length==0)=false:=beq_eq_false_iff_ne.mpr hy;have fin:∀(l:List (Str×Tok)) (k:Nat),l.map (·.1)=Txt.split z y→EP X pins σ Q (.ref s.heap.objs.size) {s with heap:=s.heap.push { cls:=.type "list",data:=.seq (strValues l).toArray},toks:=k}:=fun l k e=>by
  refine⟨.ref s.heap.objs.size,_,I.laid (t':=k) (o:=.lst ((Txt.split z y).map V.str)) (fun b ob q=>aI _ q) (aJ _) ?_,rfl,q _ (I.A7.fresh (aJ _))⟩;refine⟨?_,strValues l,0,by rw[←e];exact QD,Heap.get?_push_size _ rfl⟩;rw[List.length_map];exact aH (split_le z y) (by lia)
 have hn:(Builtin.Str.partsBetween z (Builtin.Str.occurrences z y 0 z.length (z.length+1)) y.length).length≤sizeLine:=by
  have e1:=StrLaws.occ_length_le z y 0 z.length (z.length+1);rw[length_partsBetween];lia
 cases h1:(decide (z.length<y.length)||decide (Builtin.Str.strKind z<Builtin.Str.strKind y))
 ·cases hf:(Builtin.Str.occurrences z y 0 z.length (z.length+1)).isEmpty
  ·refine call_meets F.slot_str_split (typeIs_str _ _ _) F.entry_str_split (F.args_str_split_2 _ _) (meets_str_split_sep z y t t' h1 hy' hf (by lia) hn) ?_;show wants _ _ _ {s with toks:=_,heap:=s.heap.push { cls:=.type "list",data:=.seq (strsFrom s.toks (Builtin.Str.partsBetween z (Builtin.Str.occurrences z y 0 z.length (z.length+1)) y.length)).toArray} };rw[strsFrom_eq];exact fin (numbered s.toks _) _ ((numbered_texts _ _).trans ((if_neg (ne_true_of_eq_false h1)).trans (if_neg (ne_true_of_eq_false hf))).symm)
  ·exact call_meets F.slot_str_split (typeIs_str _ _ _) F.entry_str_split (F.args_str_split_2 _ _) (meets_str_split_not_found z y t t' h1 hy' hf)
    (fin [(z,t)] s.toks ((if_neg (ne_true_of_eq_false h1)).trans (if_pos hf)).symm)
 ·exact call_meets F.slot_str_split (typeIs_str _ _ _) F.entry_str_split (F.args_str_split_2 _ _) (meets_str_split_cannot_occur z y t t' h1)
   (fin [(z,t)] s.toks (if_pos h1).symm)
theorem N0{G:Hp}:∀ys:List Str,Ax G (ys.map PyData.str) (ys.map V.str)
 |[]=>.nil
 |y::ys=>.cons (by rw[Du]) (N0 ys)
def Ca:PyData→PyData→Option PyData:=fun x y=>match x,y with|.str s,.str t=>(if t.length≠0∧s.length≤100000 then some (.list ((Txt.split s t).map .str)) else none)|_,_=>none
theorem Hd(ho:DE X a f)(ha:DE X e g)
 (hbase:attributeBase a "split" X.env (eval a X.env)=eval a X.env:=by rfl)
 (hfew:((backTo cp (starEach [e] X.env)).all (fun x=>!x.1)&&(backToKw cp (keywordEach [] X.env)).all (fun x=>x.1.isSome)
   && decide (([e]:List Expr).length+([]:List Keyword).length+(if([]:List Keyword).isEmpty then 0 else 1)<30))=true:=by rfl)
 (hline:(ap.endLine==cp.line)=true:=by rfl)(hs:starEach [e] X.env=(false,eval e X.env)::starEach [] X.env:=by rfl)(hplain:(backTo cp (starEach [] X.env)).any (·.1)=false:=by rfl) :
  DE X (.Call (.Attribute a "split" ap) [e] [] cp) (AE Ca f g):=by
 obtain⟨to,po,ko⟩:=ho;obtain⟨ta,pa,ka⟩:=ha;refine⟨_,Fl bF PySem.F.slot_str_split PySem.F.type_str_split Ru po (AM pa Af hs) hbase hfew hline hs hplain,fun δ z hz G0 H0 G H σ ts Q R0 k=>?_⟩;obtain⟨x,y,h1,h2,h3⟩:=two (x:=.none) (y:=.none) hz;refine ko δ x h1 G0 H0 G H σ ts _ R0 fun u G1 H1 R1=>?_;have du:=R1.BE (x,u) (.head _);unfold Ca at h3;split at h3
 ·split at h3
  ·rename_i hc;cases h3;rw[Du]at du;subst du;refine⟨rfl,ka δ _ h2 G0 H0 G1 H1 σ _ _ R1 fun v G2 H2 R2=>?_⟩;have dv:=R2.BE (_,v) (.head _);rw[Du]at dv;subst dv;exact⟨_,_,rfl,rfl,hc.1,hc.2,fun l hl=>k _ _ _ (R2.drop.drop.KJ (N0 _) hl)⟩
  ·cases h3
 ·cases h3
def ZM:V→List V→Hp→VK→Prop:=fun x xs H Q=>∃s y:Str,x=.str s∧xs=[.str y]∧s.length≤sizeLine∧Q (.str (Txt.stripChars s y)) H
theorem Vq:SR X "str.strip" ZM:=by
 intro pins s σ H x xs v us Q I rx rv h;obtain⟨z,y,rfl,rfl,hz,h⟩:=h;obtain⟨t,rfl⟩:=rx;obtain⟨u,rfl,t',rfl⟩:=Vals.one rv;exact SC.stripChars (fun t' k=>⟨.str (Txt.stripChars z y),H,I.tok _,⟨t',rfl⟩,h⟩) hz
def Hc:PyData→PyData→Option PyData:=fun x y=>match x,y with|.str s,.str t=>(if s.length≤100000 then some (.str (Txt.stripChars s t)) else none)|_,_=>none
theorem Vt(ho:DE X a f)(ha:DE X e g)
 (hbase:attributeBase a "strip" X.env (eval a X.env)=eval a X.env:=by rfl)
 (hfew:((backTo cp (starEach [e] X.env)).all (fun x=>!x.1)&&(backToKw cp (keywordEach [] X.env)).all (fun x=>x.1.isSome)
   && decide (([e]:List Expr).length+([]:List Keyword).length+(if([]:List Keyword).isEmpty then 0 else 1)<30))=true:=by rfl)
 (hline:(ap.endLine==cp.line)=true:=by rfl)(hs:starEach [e] X.env=(false,eval e X.env)::starEach [] X.env:=by rfl)(hplain:(backTo cp (starEach [] X.env)).any (·.1)=false:=by rfl) :
  DE X (.Call (.Attribute a "strip" ap) [e] [] cp) (AE Hc f g):=by
 obtain⟨to,po,ko⟩:=ho;obtain⟨ta,pa,ka⟩:=ha;refine⟨_,Fl bF PySem.F.slot_str_strip PySem.F.type_str_strip Vq po (AM pa Af hs) hbase hfew hline hs hplain,fun δ z hz G0 H0 G H σ ts Q R0 k=>?_⟩;obtain⟨x,y,h1,h2,h3⟩:=two (x:=.none) (y:=.none) hz;refine ko δ x h1 G0 H0 G H σ ts _ R0 fun u G1 H1 R1=>?_;have du:=R1.BE (x,u) (.head _);unfold Hc at h3;split at h3
 ·split at h3
  ·rename_i hc;cases h3;rw[Du]at du;subst du;refine⟨rfl,ka δ _ h2 G0 H0 G1 H1 σ _ _ R1 fun v G2 H2 R2=>?_⟩;have dv:=R2.BE (_,v) (.head _);rw[Du]at dv;subst dv;exact⟨_,_,rfl,rfl,by rw[sizeLine_eq];lia,k _ _ _ (R2.drop.drop.put (by rw[Du]))⟩
  ·cases h3
 ·cases h3
def YD:V→List V→Hp→VK→Prop:=fun x xs H Q=>∃s y:Str,x=.str s∧xs=[.str y]∧s.length≤sizeLine∧Q (.str (Txt.lstripChars s y)) H
theorem U7:SR X "str.lstrip" YD:=by
 intro pins s σ H x xs v us Q I rx rv h;obtain⟨z,y,rfl,rfl,hz,h⟩:=h;obtain⟨t,rfl⟩:=rx;obtain⟨u,rfl,t',rfl⟩:=Vals.one rv;exact SC.lstripChars (fun t' k=>⟨.str (Txt.lstripChars z y),H,I.tok _,⟨t',rfl⟩,h⟩) hz
def JZ:PyData→PyData→Option PyData:=fun x y=>match x,y with|.str s,.str t=>(if s.length≤100000 then some (.str (Txt.lstripChars s t)) else none)|_,_=>none
theorem Uo(ho:DE X a f)(ha:DE X e g)
 (hbase:attributeBase a "lstrip" X.env (eval a X.env)=eval a X.env:=by rfl)
 (hfew:((backTo cp (starEach [e] X.env)).all (fun x=>!x.1)&&(backToKw cp (keywordEach [] X.env)).all (fun x=>x.1.isSome)
   && decide (([e]:List Expr).length+([]:List Keyword).length+(if([]:List Keyword).isEmpty then 0 else 1)<30))=true:=by rfl)
 (hline:(ap.endLine==cp.line)=true:=by rfl)(hs:starEach [e] X.env=(false,eval e X.env)::starEach [] X.env:=by rfl)(hplain:(backTo cp (starEach [] X.env)).any (·.1)=false:=by rfl) :
  DE X (.Call (.Attribute a "lstrip" ap) [e] [] cp) (AE JZ f g):=by
 obtain⟨to,po,ko⟩:=ho;obtain⟨ta,pa,ka⟩:=ha;refine⟨_,Fl bF PySem.F.slot_str_lstrip PySem.F.type_str_lstrip U7 po (AM pa Af hs) hbase hfew hline hs hplain,fun δ z hz G0 H0 G H σ ts Q R0 k=>?_⟩;obtain⟨x,y,h1,h2,h3⟩:=two (x:=.none) (y:=.none) hz;refine ko δ x h1 G0 H0 G H σ ts _ R0 fun u G1 H1 R1=>?_;have du:=R1.BE (x,u) (.head _);unfold JZ at h3;split at h3
 ·split at h3
  ·rename_i hc;cases h3;rw[Du]at du;subst du;refine⟨rfl,ka δ _ h2 G0 H0 G1 H1 σ _ _ R1 fun v G2 H2 R2=>?_⟩;have dv:=R2.BE (_,v) (.head _);rw[Du]at dv;subst dv;exact⟨_,_,rfl,rfl,by rw[sizeLine_eq];lia,k _ _ _ (R2.drop.drop.put (by rw[Du]))⟩
  ·cases h3
 ·cases h3
end
end L2
set_option maxHeartbeats 1000000
namespace L2
open PySem PySem.Spec PyProof.Rows
def O6(Γ:PySem.Ctx):Prop:=Γ.below.any (fun x=>x.1.isCaller)=true
theorem O6.enter{Γ:PySem.Ctx}(h:O6 Γ)(c:Code)(hd:Option Value)(p:Pos):O6 (Γ.enter c hd p):=by
 unfold O6 at h ⊢;show((Γ.code,p)::Γ.below).any _=true;rw[List.any_cons,h,Bool.or_true]
def BL{α:Type}(M:Model)(A:Around)(t:Sem α)(Q:α→Shared→Prop)(E:Value→Shared→Prop)(s:Shared):Prop :=
 ∀Γ p,Γ.In A→O6 Γ→Sem.wp M Γ t (fun a _ s'=>Q a s') (fun e _ s'=>E e s') p s
def B8(M:Model)(A:Around)(c:Code)(R:Result→Shared→Prop)(s:Shared):Prop :=
 ∀Γ p,Γ.code=c→Γ.Below A→O6 Γ→wpCode M Γ R p s
section
variable{α β:Type}{M:Model}{A:Around}{E:Value→Shared→Prop}{s:Shared} 
theorem BZ{t:Sem α}{Q:α→Shared→Prop}(h:wpAny M A t Q E s):BL M A t Q E s:=fun Γ p i _=>h Γ p i
theorem X8{c:Code}{R:Result→Shared→Prop}(h:codeAny M A c R s):B8 M A c R s:=fun Γ p e b _=>h Γ p e b
theorem Df{t:Sem α}{Q Q':α→Shared→Prop}{E':Value→Shared→Prop}(h:BL M A t Q E s)(hQ:∀a s,Q a s→Q' a s)(hE:∀e s,E e s→E' e s):BL M A t Q' E' s :=
 fun Γ p i c=>Sem.wp_mono M Γ t (fun a _ s=>hQ a s) (fun e _ s=>hE e s) p s (h Γ p i c)
theorem Gf{t:Sem α}{Q Q':α→Shared→Prop}(h:BL M A t Q E s)(hQ:∀a s,Q a s→Q' a s):BL M A t Q' E s:=Df h hQ fun _ _ x=>x
theorem Fu{c:Code}{R R':Result→Shared→Prop}(h:B8 M A c R s)(hR:∀r s,R r s→R' r s):B8 M A c R' s:=fun Γ p e b k=>wpCode_mono hR (h Γ p e b k)
theorem Bs{m:Sem α}{f:α→Sem β}{Q:β→Shared→Prop}(h:BL M A m (fun a s'=>BL M A (f a) Q E s') E s):BL M A (m>>=f) Q E s:=fun Γ p i c=>by
 rw[Sem.wp_bind'];exact Sem.wp_mono M Γ m (fun a p' s' h'=>h' Γ p' i c) (fun _ _ _ h'=>h') p s (h Γ p i c)
theorem Ag{m:Sem α}{f:α→Sem β}{Q:β→Shared→Prop}(h:wpAny M A m (fun a s'=>BL M A (f a) Q E s') E s):BL M A (m>>=f) Q E s:=Bs (BZ h)
theorem C6{m:Sem α}{f:α→Sem β}{Q:β→Shared→Prop}(h:BL M A m (fun a s'=>wpAny M A (f a) Q E s') E s):BL M A (m>>=f) Q E s:=Bs (Gf h fun _ _ k=>BZ k)
theorem Na{m:Sem α}{k:Value→Sem Unit}{Q:α→Shared→Prop}(h:BL M A m Q (fun e s'=>wpAny M A (k e) (fun _ s''=>E e s'') E s') s):BL M A (m.onRaise k) Q E s:=fun Γ p i c=>by
 rw[Sem.wp_onRaise];exact Sem.wp_mono M Γ m (fun _ _ _ h'=>h') (fun e p' s' h'=>h' Γ p' i) p s (h Γ p i c)
theorem NO{m:Sem α}{Q:Except Value α→Shared→Prop}(h:BL M A m (fun a=>Q (.ok a)) (fun e=>Q (.error e)) s):BL M A m.attempt Q E s:=fun Γ p i c=>by rw[Sem.wp_attempt];exact h Γ p i c
theorem Dn{vs:List Value}{m:Sem α}{Q:α→Shared→Prop}(h:BL M A m Q E s):BL M A (holding vs m) Q E s:=fun Γ p i c=>by rw[Sem.wp_holding];exact h Γ p i c
theorem JL{c:Code}{Q:Value→Shared→Prop}(h:B8 M A c (fun r s'=>match r with|.ok (.ret v)=>Q v s'|.ok _=>False|.error e=>E e s') s):BL M A (runValue c) Q E s :=
 fun Γ p i k=>by rw[Sem.wp_runValue];exact h _ p rfl (i.enter c none p (by intro x;cases x)) (k.enter _ _ _)
theorem Zg{c:Code}{Q:Flow→Shared→Prop}(h:B8 M A c (fun r s'=>match r with|.ok f=>Q f s'|.error e=>E e s') s):BL M A (run c none) Q E s :=
 fun Γ p i k=>by rw[Sem.wp_run];exact h _ p rfl (i.enter c none p (by intro x;cases x)) (k.enter _ _ _)
theorem Dg{c:Code}{R:Result→Shared→Prop}
 (h:BL M (A.under c) (M.den c) (fun fin s'=>match fin with|.done f=>R (.ok f) s'|.again c'=>c'.quiet=true∧B8 M A c' R s') (fun e s'=>R (.error e) s') s):B8 M A c R s:=fun Γ p hc b k=>by
 rw[wpCode_iff_wp,hc];refine Sem.wp_mono M Γ _ (fun fin p' s' h'=>?_) (fun _ _ _ h'=>h') p s (h Γ p (hc ▸ b.in) k);cases fin with
 |done f=>exact h'
 |again c'=>exact⟨h'.1,h'.2 (Γ.goto c') p' rfl (b.goto c') k⟩
theorem VJ{c:Code}{R:Result→Shared→Prop}(hq:c.quiet=true)(I:Nat→Shared→Prop)
 (turn:∀n s,I n s→BL M (A.under c) (M.den c) (fun fin s'=>match fin with|.done f=>R (.ok f) s'|.again c'=>c'=c∧∃m,m<n∧I m s') (fun e s'=>R (.error e) s') s) :
  ∀(n:Nat) {s:Shared},I n s→B8 M A c R s:=fun n=>by
 induction n using Nat.strongRecOn with
 |ind n ih =>
  intro s h;refine Dg (Df (turn n s h) (fun fin s' hf=>?_) fun _ _ x=>x);cases fin with
  |done f=>exact hf
  |again c'=>obtain⟨rfl,m,hm,hI⟩:=hf;exact⟨hq,ih m hm hI⟩
end
def RE(X:Cx)(e:Expr)(t:TE):Prop :=
 ∀(pins:List (Addr×Obj)) (s:Shared) (σ:St) (H:Hp) (Q:VK),Inv X pins σ H s→t σ H Q→BL (model X.prog X.w) X.A (eval e X.env) (EP X pins σ Q) X.xe s
def RT(X:Cx)(e:Expr)(t:TT):Prop :=
 ∀(pins:List (Addr×Obj)) (s:Shared) (σ:St) (H:Hp) (Q:Bool→Hp→Prop),Inv X pins σ H s→t σ H Q→BL (model X.prog X.w) X.A (isTrue e X.env (eval e X.env)) (TP X pins σ Q) X.xe s
def RS(X:Cx)(st:Stmt)(t:TS):Prop :=
 ∀(pins:List (Addr×Obj)) (s:Shared) (σ:St) (H:Hp) (D:Ends),Inv X pins σ H s→t D σ H→BL (model X.prog X.w) X.A (exec st X.env) (SP X pins D) X.xe s
def IP(X:Cx)(st:List Stmt)(t:TS):Prop :=
 ∀(pins:List (Addr×Obj)) (s:Shared) (σ:St) (H:Hp) (D:Ends),Inv X pins σ H s→t D σ H→BL (model X.prog X.w) X.A (execs st X.env) (SP X pins D) X.xe s
section
variable{X:Cx}{a e c:Expr}{st:Stmt}{rest sts:List Stmt}{t u:TS}{te:TE}{tA tc:TT}{pos:Pos}
theorem RT.of(h:PT X e tA):RT X e tA:=fun p s σ H Q I k=>BZ (h p s σ H Q I k)
theorem RS.of(h:PS X st t):RS X st t:=fun p s σ H Q I k=>BZ (h p s σ H Q I k)
theorem IP.of(h:Gj X sts t):IP X sts t:=fun p s σ H Q I k=>BZ (h p s σ H Q I k)
theorem C9(h1:RS X st t)(h2:IP X rest u):IP X (st::rest) (Pe t u):=by
 intro pins s σ H D I h;rw[execs_cons];refine Bs (Gf (h1 pins s σ H {D with nx:=u D} I h) fun f s1 q=>?_);cases f with
 |next =>
  obtain⟨σ',H',I',q⟩:=q;exact h2 pins s1 σ' H' D I' q
 |ret v=>exact BZ (aD q)
 |brk=>exact BZ (aD q)
 |cont=>exact BZ (aD q)
theorem V5(he:RE X e te):RS X (.Return (some e) pos) (fx te):=by
 intro pins s σ H D I h;rw[exec_Return_some];exact Ag (aZ (C6 (Gf (he pins s σ H _ I h) fun v s1 ⟨x,H1,I1,r1,q1⟩=>aD ⟨x,σ,H1,I1,r1,q1⟩)))
theorem g5{p q:List Stmt}(hc:RT X c tc)(ha:IP X p t)(hb:IP X q u):RS X (.If c p q pos) (fT tc t u):=by
 intro pins s σ H D I h;rw[exec_If];refine Ag (aZ (Bs (Gf (hc pins s σ H _ I h) fun d s1 ⟨H1,I1,q1⟩=>?_)));cases d with
 |true=>exact ha pins s1 σ H1 D I1 q1
 |false=>exact hb pins s1 σ H1 D I1 q1
theorem fq(h : RE X e te)(he : ∀ whole,isTrue e X.env whole = (do let v ← whole; standAt e.pos; holding [v] (truthy v)) := by intro _; rfl) : RT X e (tB te) := by
  intro pins s σ H Q I hw
  rw [he]
  refine C6 (Gf (h pins s σ H _ I hw) fun v s1 ⟨x,H1,I1,r1,q1⟩ => ?_)
  obtain ⟨d,rfl,q⟩:=q1
  cases r1
  exact aC (aZ (ak (wpAny_truthy_bool ⟨H1,I1,q⟩)))
theorem fQ(ha:RT X a tA):RT X (.UnaryOp .Not a pos) (di tA):=by
 intro pins s σ H Q I h;show BL _ _ (do return !(←isTrue a X.env (eval a X.env))) _ _ s;exact C6 (Gf (ha pins s σ H (fun c H1=>Q (!c) H1) I h) fun c s1 k=>aD k)
end
section
variable{X:Cx}{a b e c:Expr}{tA tB':TT}{te:TE}{pos:Pos}{rest:List Expr}
def RO(X:Cx)(op:BoolOp)(es:List Expr)(t:TT):Prop :=
 ∀(pins:List (Addr×Obj)) (s:Shared) (σ:St) (H:Hp) (Q:Bool→Hp→Prop),Inv X pins σ H s→t σ H Q→BL (model X.prog X.w) X.A (allTrue op es X.env) (TP X pins σ Q) X.xe s
theorem RO.rt{op:BoolOp}{es:List Expr}(h:RO X op es tA):RT X (.BoolOp op es pos) tA:=fun p s σ H Q I k=>h p s σ H Q I k
theorem eI(ha:RT X a tA):RO X .Or [a] tA:=by
 intro pins s σ H Q I h;refine C6 (Gf (ha pins s σ H Q I h) fun c s1 e=>?_);cases c with
 |false=>exact aD (a:=false) e
 |true=>exact aD (a:=true) e
theorem bg(ha:RT X a tA):RO X .And [a] tA:=by
 intro pins s σ H Q I h;refine C6 (Gf (ha pins s σ H Q I h) fun c s1 e=>?_);cases c with
 |false=>exact aD (a:=false) e
 |true=>exact aD (a:=true) e
theorem iO(ha:RT X a tA)(hb:RO X .Or (b::rest) tB'):RO X .Or (a::b::rest) (iq tA tB'):=by
 intro pins s σ H Q I h;refine Bs (Gf (ha pins s σ H _ I h) fun c s1 ⟨H1,I1,q1⟩=>?_);cases c with
 |true=>exact BZ (aD (a:=true) ⟨H1,I1,q1⟩)
 |false=>exact hb pins s1 σ H1 Q I1 q1
theorem dQ(ha:RT X a tA)(hb:RO X .And (b::rest) tB'):RO X .And (a::b::rest) (cC tA tB'):=by
 intro pins s σ H Q I h;refine Bs (Gf (ha pins s σ H _ I h) fun c s1 ⟨H1,I1,q1⟩=>?_);cases c with
 |false=>exact BZ (aD (a:=false) ⟨H1,I1,q1⟩)
 |true=>exact hb pins s1 σ H1 Q I1 q1
theorem cG{i:Nat}{x:Str}{pos':Pos}(hN:X.N.Nodup)(hi:X.N[i]? = some x)(hx:Loc X.env.scope x)(he:RE X e te)(hs:swapsWith e (some (.Name x pos')) pos.line X.env=pure false:=by rfl)(hf:X.fn x=true∨X.env.scope.names.lookup x=some .local:=by first|exact .inl rfl|exact .inr rfl) :
  RS X (.Assign [.Name x pos'] e pos) (Jj te (Fe i)):=by
 intro pins s σ H D I h Γ p i1 k1;simp only[exec_Assign_Name X.env x pos' e pos hs,Sem.wp_bind',Sem.wp_cmd_standAt,Sem.wp_bindName,Sem.wp_pure'];refine Sem.wp_mono _ Γ _ (fun v _ s₁ h₁=>h₁ Γ _ i1) (fun _ _ _ h'=>h') _ _ (Gf (he pins s σ H _ I h) (Q':=fun v s1=>wpAny (model X.prog X.w) X.A (storeName X.env x v) (fun _=>SP X pins D .next) X.xe s1) (fun v s1 ⟨y,H1,I1,r1,q1⟩=>?_) Γ _ i1 k1);exact GQ I1 hN hi hx r1 (fun s2 I2=>⟨_,H1,I2,q1⟩) hf
end
def RA(X:Cx)(es:List Expr)(t:TA):Prop :=
 ∀(pos:Pos) (pins:List (Addr×Obj)) (s:Shared) (σ:St) (H:Hp) (Q:List V→Hp→Prop),Inv X pins σ H s→t σ H Q→BL (model X.prog X.w) X.A (spliced (backTo pos (starEach es X.env))) (AP X pins σ Q) X.xe s
structure CT(P:Program)(w:World)(K:PySem.W.Frag)(mg:Str→Option Value)(base:Heap)(CX:F0)(k:Nat)(f:Addr)(fd:FuncData)(ps:List Str)(sp:Sp):Prop where
 len:∀vs H Q E,sp vs H Q E→vs.length=ps.length
 run:∀(A:Around) (outer:List Env) (s:Shared) (H:Hp) (args:Args) (us:List Value) (vs:List V) (Q:VK) (E:XK),Bf k A→Q3 P w K mg base A outer s H→BindsTo s fd args (ps.zip us)→Vals vs us→sp vs H Q E →
  B8 (model P w) A (.call (.ref f) args) (CR CX outer P w H s Q E) s
section
variable{P:Program}{w:World}{K:PySem.W.Frag}{mg:Str→Option Value}{base:Heap}{CX:F0}{j k:Nat}{f:Addr}{fd:FuncData}{ps:List Str}{sp sp':Sp}
theorem CT.mono(F:CT P w K mg base CX j f fd ps sp)(h:j≤k:=by decide):CT P w K mg base CX k f fd ps sp:=⟨F.len,fun A outer s H args us vs Q E hr=>F.run A outer s H args us vs Q E (hr.mono h)⟩
theorem CT.imp(F:CT P w K mg base CX k f fd ps sp)(h:∀vs H Q E,sp' vs H Q E→sp vs H Q E):CT P w K mg base CX k f fd ps sp' :=
 ⟨fun vs H Q E q=>F.len vs H Q E (h _ _ _ _ q),fun A outer s H args us vs Q E hr he hb hv hs=>F.run A outer s H args us vs Q E hr he hb hv (h _ _ _ _ hs)⟩
theorem Ab.r(F:Ab P w K mg base CX k f fd ps sp):CT P w K mg base CX k f fd ps sp:=⟨F.len,fun A outer s H args us vs Q E hr he hb hv hs=>X8 (F.run A outer s H args us vs Q E hr he hb hv hs)⟩
end
theorem VO{prog:Program}{w:World}{A:Around}{R:Result→Shared→Prop}{s:Shared}{body:List Stmt}{env:Env}
 (h:BL (model prog w) (A.deeper env) (execs body env) (fun f s'=>R (.ok (.ret (match f with|.ret v=>v|_=>.none))) s')
   (fun e s'=>wpAny (model prog w) (A.deeper env) (leaving env e) (fun _ s''=>R (.error e) s'') (fun e' s''=>R (.error e') s'') s') s):B8 (model prog w) A (.func body env) R s:=by
 refine Dg ?_;show BL _ (A.deeper env) (do point;match ←(execs body env).onRaise (leaving env) with|.ret v=>ret v|_=>ret .none) _ _ s;refine Ag (wpAny_point (C6 (Na (Df h (fun f s' h'=>?_) fun _ _ x=>x))));cases f<;>exact aD h'
theorem L1{prog:Program}{w:World}{A:Around}{R:Result→Shared→Prop}{s:Shared}{a:Addr}{args:Args}{o:Obj}{fd:FuncData}{body:List Stmt}(hroom:A.depth<recursionLimit)
 (ho:s.heap.get? a=some o)(hd':o.data=.func fd)(hco:fd.scope.isCoroutine=false)(hgen:fd.scope.isGenerator=false)(hbody:fd.body=.stmts body)(hcd:s.heap.CodeRec fd.code fd.qualname)
 (h:wpAny (model prog w) A.in1 (bindArgs fd args) (fun binds s₁ =>
   wpAny (model prog w) A.in1 (newFunctionEnv fd.scope fd.globals fd.closure binds (fd.qualname ++ ".<locals>.") (some a) fd.code none fd.builtins)
    (fun env s₂=>s₂.heap.NoLimit∧B8 (model prog w) A (.func body env) R s₂) (fun e s'=>R (.error e) s') s₁) (fun e s'=>R (.error e) s') s):B8 (model prog w) A (.call (.ref a) args) R s:=by
 refine Dg (BZ ?_);show wpAny _ A.in1 (callAny (.ref a) args) _ _ s;unfold callAny;refine aC (wpAny_load ho ?_);obtain⟨c,oc,vs,tq,hc,hoc,hdc,hq⟩:=hcd;simp only[hd',callFunction,hco,hgen,hbody,hc];rw[hc]at h;refine aC (m:=field (.ref c) 1) (wpAny_field hoc hdc hq (aC (aD ?_)));refine aC (aK h (fun _ _ k=>aC (aK k (fun _ _ q=>?_) fun _ _ x=>x)) fun _ _ x=>x);exact aC (wpAny_enterFrame q.1 hroom (aD ⟨rfl,q.2⟩))
theorem Vn{CX:F0}{P:Program}{w:World}{K:PySem.W.Frag}{mg:Str→Option Value}{base:Heap}{k:Nat}{f:Addr}{name qual:Str}{params:Arguments}{body:List Stmt}{scope:Scope}{dV kV doc pm cdv ct oc:Value}{an od:Option Addr}
 {osl:Array (Option Value)}{N ps:List Str}{sp:Sp}(lk:K.lookup f=some ⟨oc,od,.func (PySem.W.fnOf name qual params body scope dV kV doc pm an cdv ct),osl⟩)(hcd:PySem.W.codeIn K cdv qual=true)(S:Al N ps scope)
 (len:∀vs H Q E,sp vs H Q E→vs.length=ps.length)
 (hbody:∀(A:Around) (outer:List Env) (s:Shared) (H:Hp) (vs:List V) (Q:VK) (E:XK),Bf k (A.deeper (envOfC qual scope s.heap.objs.size f cdv))→sp vs H Q E →
   ∃t,IP (Bq CX P w K mg base N qual scope f cdv A outer s H E) body t∧t { nx:=fun _ H'=>Q .BM H',rt:=Q} (start N vs) H) :
  CT P w K mg base CX (k+1) f (PySem.W.fnOf name qual params body scope dV kV doc pm an cdv ct) ps sp:=by
 refine⟨len,fun A outer s H args us vs Q E hr e0 hb r hsp=>?_⟩;have hl:=len _ _ _ _ hsp;have KX:K.In s.heap:=e0.mod.MF.keeps fun b o e=>(e0.bs b o e).1;have lim:s.heap.NoLimit:=e0.mod.nolimit.keeps fun b o e=>(e0.bs b o e).1;refine L1 hr.depth (KX _ _ lk) rfl S.co S.gen rfl (PySem.W.codeRec_of KX hcd) (hb _ _ _ _ ?_);refine wpAny_newFunctionEnv_cells S.kind (fun⟨n,v⟩ hy=>?_) fun env he s1 x=>?_
 ·rcases S.par n (List.of_mem_zip hy).1 with q|q
  ·exact .inl q
  ·exact .inr ⟨q,PySem.W.cellsFrom_some _ _ _ (.inl q)⟩
 subst he;refine⟨lim.keeps x.toInCall.keep,VO ?_⟩;obtain⟨t,ht,hq⟩:=hbody A outer s H vs Q E (hr.deeper _) hsp;have I:Inv (Bq CX P w K mg base N qual scope f cdv A outer s H E) [] (start N vs) H s1:=P4 S hr.hd e0 hl r x;refine Df (ht [] s1 (start N vs) H _ I hq) (fun fl s' hs=>?_) fun e s' hs=>hs;cases fl with
 |ret u=>obtain⟨v,σ',H',J,rv,q⟩:=hs;exact⟨v,H',J.os,J.bare,J.base,J.A7,rv,q⟩
 |next=>obtain⟨σ',H',J,q⟩:=hs;exact⟨.BM,H',J.os,J.bare,J.base,J.A7,rfl,q⟩
 |brk=>obtain⟨σ',H',J,q⟩:=hs;exact False.elim q
 |cont=>obtain⟨σ',H',J,q⟩:=hs;exact False.elim q
section
variable{X:Cx}{CX:F0}{k:Nat}{f:Addr}{fd:FuncData}{ps:List Str}{sp:Sp}{E:XK}{x:Str}{p pos:Pos}{e:Expr}{es:List Expr}{te:TE}{t:TA}{st:Stmt}
theorem bR(ha:RE X e te)(hr:RA X es t)(hs:starEach (e::es) X.env=(false,eval e X.env)::starEach es X.env:=by rfl):RA X (e::es) (LK te t):=by
 intro pos pins s σ H Q I h;rw[hs];show BL _ _ (spliced ((false,eval e X.env)::backTo pos (starEach es X.env))) _ _ s;rw[spliced];refine Bs (Gf (ha pins s σ H _ I h) fun u s1 ⟨x,H1,I1,r1,q1⟩=>?_);simp only[Bool.false_eq_true,if_false];exact Ag (aD (C6 (Dn (Gf (hr pos pins s1 σ H1 _ I1 q1) fun us s2 ⟨xs,H2,I2,r2,q2⟩=>aD ⟨x::xs,H2,I2,.cons r1 r2,q2⟩))))
theorem RA.of(h:PA X es t):RA X es t:=fun q p s σ H Q I k=>BZ (h q p s σ H Q I k)
theorem Zv{pins:List (Addr×Obj)}{σ:St}{H:Hp}{s:Shared}{Q:VK}{us:List Value}{vs:List V}(F:CT X.prog X.w X.K X.mg X.base CX k f fd ps sp)(hr:Bf k X.A)(hb:Binds X.K fd ps [])(hx:∀H s e s',Inv X pins σ H s→CX X.stack H s E e s'→X.xe e s')
 (I:Inv X pins σ H s)(r:Vals vs us)(h:sp vs H Q E):BL (model X.prog X.w) X.A (call (.ref f) us) (EP X pins σ Q) X.xe s:=by
 have hl:(us++[]).length=ps.length:=by rw[List.append_nil,←r.length];exact F.len _ _ _ _ h
 have hb':=hb s us I.FQ hl;rw[List.append_nil]at hb';refine JL (Fu (F.run X.A X.stack s H ⟨us,[]⟩ us vs Q E hr I.Xi hb' r h) fun r s' hq=>?_);cases r with
 |error e=>exact hx H s e s' I hq
 |ok fl =>
  cases fl with
  |ret u=>exact I.after hq
  |next=>exact False.elim hq
  |brk=>exact False.elim hq
  |cont=>exact False.elim hq
theorem Tj{pins:List (Addr×Obj)}{σ:St}{H:Hp}{s:Shared}{Q:VK}(T:Fn X.K X.mg x st ps f fd)(F:CT X.prog X.w X.K X.mg X.base CX k f fd ps sp)(hx:∀H s e s',Inv X pins σ H s→CX X.stack H s E e s'→X.xe e s')(hr:Bf k X.A)(hg:Gl X x)(ha:RA X (e::es) t)
 (hdb:(x==("__debug__" : Str))=false:=by decide)(he:starEach (e::es) X.env=(false,eval e X.env)::starEach es X.env:=by rfl)(hpl:(backTo pos (starEach es X.env)).any (·.1)=false:=by rfl) :
  Inv X pins σ H s→LJ sp [] E t σ H Q→BL (model X.prog X.w) X.A (eval (.Call (.Name x p) (e::es) [] pos) X.env) (EP X pins σ Q) X.xe s:=by
 intro I h;rw[arm_eval_Call_Name'];refine Ag (JD I hg T.m ?_ hdb);have h1:=ha pos pins s σ H _ I h;rw[he]at h1 ⊢;show BL _ _ (callWith pos (.ref f) [] ((false,eval e X.env)::backTo pos (starEach es X.env)) []) _ _ s;have hp:(((false,eval e X.env)::backTo pos (starEach es X.env)).any (·.1)||([]:List (Option Str×Sem Value)).any (·.1.isNone))=false:=by
  show((false||(backTo pos (starEach es X.env)).any (·.1))||false)=false;rw[hpl];rfl
 unfold callWith evalArgs;refine Bs (Dn (Bs (Gf h1 fun us s1 ⟨vs,H1,I1,r,q⟩=>?_)));refine Dn (Ag (aD (Ag (aD (BZ (aD (?_:BL _ _ _ _ _ _)))))));refine Ag (aZ ?_);obtain⟨kk,hk',L⟩:=PySem.W.keeps_K (M:=model X.prog X.w) T.F.kp _ I1.FQ;simp only[hp];refine Ag (L.here ?_);have q:sp (vs++[]) H1 Q E:=q;rw[List.append_nil]at q;have run:=Zv F hr T.b hx I1 r q;have tail:∀ {t:Sem Value},BL (model X.prog X.w) X.A t (EP X pins σ Q) X.xe s1→BL (model X.prog X.w) X.A (t>>=fun r=>holding [r] point>>=fun _=>pure r) (EP X pins σ Q) X.xe s1 :=
  fun ht=>C6 (Gf ht fun r s₂ hr=>aC (ak (wpAny_point (aD hr))))
 have marked (mk:Value):BL (model X.prog X.w) X.A (callMarked mk (.ref f) ([]++us) []) (EP X pins σ Q) X.xe s1:=fun Γ p i c=>by unfold callMarked;rw[Sem.wp_keep];exact run Γ p i c
 rcases hk' with rfl|rfl|rfl<;>dsimp only<;>first|exact tail run|(split<;>first|exact tail run|exact tail (marked _))
theorem cP(T:Fn X.K X.mg x st ps f fd)(F:CT X.prog X.w X.K X.mg X.base CX k f fd ps sp)(hx:Passes CX X E)(hr:Bf k X.A)(hg:Gl X x)(ha:RA X (e::es) t)
 (hdb:(x==("__debug__" : Str))=false:=by decide)(he:starEach (e::es) X.env=(false,eval e X.env)::starEach es X.env:=by rfl)(hpl:(backTo pos (starEach es X.env)).any (·.1)=false:=by rfl) :
  RE X (.Call (.Name x p) (e::es) [] pos) (LJ sp [] E t):=fun pins s σ H Q I h=>Tj T F (fun H s e s' I z=>hx pins σ H s e s' I z) hr hg ha hdb he hpl I h
theorem gO(T:Fn X.K X.mg x st ps f fd)(F:CT X.prog X.w X.K X.mg X.base Ao k f fd ps sp)(hr:Bf k X.A)(hg:Gl X x)(ha:RA X (e::es) t)
 (hdb:(x==("__debug__" : Str))=false:=by decide)(he:starEach (e::es) X.env=(false,eval e X.env)::starEach es X.env:=by rfl)(hpl:(backTo pos (starEach es X.env)).any (·.1)=false:=by rfl) :
  RE X (.Call (.Name x p) (e::es) [] pos) (LJ sp [] E0 t):=cP T F ZI hr hg ha hdb he hpl
end
theorem W5{α:Type}{M:Model}{A:Around}{E:Value→Shared→Prop}{s:Shared}{env:Env}{m:Sem α}{Q:α→Shared→Prop}(h:BL M A m Q (notedBy M A env E) s):BL M A (m.onRaise fun x=>do noteFrame x env;theTreesLotGoes x) Q E s :=
 Na (Df h (fun _ _ q=>q) fun _ _ k=>aC (aK k (fun _ _ z=>wpAny_theTreesLotGoes z) fun _ _ z=>z))
theorem La{prog:Program}{w:World}{A:Around}{R:Result→Shared→Prop}{s:Shared}{elt target iter ifs rest scope pos it acc env}
 (h0:B8 (model prog w) A (.compLoop (.ListComp elt (⟨target,iter,ifs,0⟩::rest) scope pos) 0 it acc env) R s)
 (h:wpAny (model prog w) A (pyIter it) (fun it' s'=>B8 (model prog w) A (.compLoop (.ListComp elt (⟨target,iter,ifs,0⟩::rest) scope pos) 0 it' acc env) R s')
   (notedBy (model prog w) A env fun x s'=>R (.error x) s') s) :
  B8 (model prog w) A (.compStart (.ListComp elt (⟨target,iter,ifs,0⟩::rest) scope pos) 0 it acc env) R s:=by
 refine Dg (BZ ?_);show wpAny _ _ ((compStart (.ListComp elt (⟨target,iter,ifs,0⟩::rest) scope pos) 0 it acc env).onRaise (fun x=>do noteFrame x env;standAt theWindowsPlace)) _ _ s;refine wpAny_notedAt ?_;unfold compStart;show wpAny _ _ (ask>>=_) _ _ s;refine aC (wpAny_askSetting (wpAny_ite ?_));split
 ·first
   |exact aC (aD (aD ⟨rfl,h0⟩))
   |exact aD ⟨rfl,h0⟩
 ·first
   |exact aC (wpAny_rule (aC (aZ (aC (aK h (fun _ _ k=>aD ⟨rfl,k⟩) fun _ _ z=>z)))))
   |(refine aC (wpAny_rule ?_);show wpAny _ _ (standAt iter.pos>>=_) _ _ s;exact aC (aZ (aC (aK h (fun _ _ k=>aD ⟨rfl,k⟩) fun _ _ z=>z))))
theorem S8{α:Type}{M:Model}{A:Around}{E:Value→Shared→Prop}{s:Shared}{c:Prop}[Decidable c]{pos:Pos}{k:PUnit→Sem α}{Q:α→Shared→Prop}(h:BL M A (k ()) Q E s):BL M A (if c then(standAt pos>>=k) else k ()) Q E s:=by
 split
 ·exact Ag (aZ h)
 ·exact h
theorem GA{M:Model}{A:Around}{E:Value→Shared→Prop}{s:Shared}{env:Env}{e:Expr}{scope:Scope}{pos:Pos}{newAcc first:Sem Value}{g:Comprehension}{gs:List Comprehension}{cl:List (Str×Addr)}{use:Option (Value→Sem Unit)}{Q:Value→Shared→Prop}
 (hcl:clausesOf e=g::gs)(hs:∀x,foldedSetIterable g.iter env x=pure x)(hclos:closureFor scope env=pure cl)(hkind:scope.kind=.function)(hnames:∀x∈scope.names,x.2=.local→scope.names.lookup x.1=some .local)
 (h:wpAny M A first (fun x s₁=>wpAny M A (pyIter x) (fun it s₂=>wpAny M A newAcc (fun acc s₃=>wpAny M A (newFunctionEnv scope env.globals cl [] env.qual none .none (some env)) (fun cenv s₄ =>
    B8 M A (.compStart e 0 it acc {cenv with scope:=relabel scope env}) (compPost M A E use Q acc cenv.locals) s₄) E s₃) E s₂) E s₁) E s) :
  BL M A (comprehension e scope env pos newAcc false first use) Q E s:=by
 unfold comprehension;rw[hclos,hcl];refine Ag (aK h (fun x s₁ h₁=>Ag (aZ (Ag (wpAny_of_eq (hs x) (Ag (ak (aK h₁ (fun it s₂ h₂ =>
  S8 (Ag (aK h₂ (fun acc s₃ h₃=>Ag (aD (Ag (aK h₃ (fun cenv s₄ h₄=>?_) fun _ _ z=>z)))) fun _ _ z=>z))) fun _ _ z=>z))))))) fun _ _ z=>z)
 dsimp only;have loc:∀x∈scope.names,x.2=.local→Env.kindOf {cenv with scope:=relabel scope env} x.1=some .local:=fun x hx hl=>lookup_relabel_local (hnames x hx hl);have hv:∀x∈(scope.names.filter fun x=>(x.2==.local||x.2==.cell)&&x.1 != (".0" : Str)).reverse,x.2=.local→Env.kindOf {cenv with scope:=relabel scope env} x.1=some .local:=fun x hx=>loc x (List.mem_filter.mp (List.mem_reverse.mp hx)).1;refine Dn (Bs (NO (Dn (Zg (Fu h₄ fun r s' hr=>?_)))));cases r with
 |ok f =>
  refine BZ ?_;cases use with
  |none =>
   obtain⟨m,hn,hr⟩:=hr;exact aC (ak (wpAny_comp_letGo (cenv:={cenv with scope:=relabel scope env}) hkind _ s' m hv hn fun h' m' _ z=>aD (hr h' z)))
  |some u =>
   refine aC (wpAny_rule (aC (ak (aK hr (fun _ s'' hr'=>?_) fun _ _ z=>z))));obtain⟨m,hn,hr'⟩:=hr';refine aC (wpAny_comp_letGo (cenv:={cenv with scope:=relabel scope env}) hkind _ s'' m (fun x hx=>?_) hn fun h' m' _ z=>aD (hr' h' z));rcases aT.mp hx with k|k
   ·exact hv x (ar k)
   ·exact hv x (bC k)
 |error x =>
  refine BZ ?_;have hr':∃m,s'.heap.Ns cenv.locals m∧∀h',Heap.SameBut cenv.locals s'.heap h'→∀cenv':Env,cenv'.locals=cenv.locals→wpAny M A (passOn "comprehension.variables-let-go" x cenv':Sem Value) (fun _ _=>False) E { s' with heap:=h'}:=by cases use<;>exact hr
  obtain⟨m,hn,hr⟩:=hr';exact aC (ak (wpAny_comp_letGo (cenv:={cenv with scope:=relabel scope env}) hkind _ s' m hv hn fun h' m' _ z=>aK (hr h' z _ rfl) (fun _ _ f=>f.elim) fun _ _ y=>y))
section
variable{X:Cx}{elt iter:Expr}{x:Str}{px pos:Pos}{ifs:List Expr}{scope:Scope}{wi:TI}{fr:List (Option Nat)}{ix:Nat}{tif:TT}{te:TE}{N:List Str}
theorem Kd{prog:Program}{w:World}{A:Around}{R:Result→Shared→Prop}{s:Shared}{elt target iter:Expr}{ifs:List Expr}{scope:Scope}{pos:Pos}{it acc:Value}{env:Env}(I:Nat→Shared→Prop)
 (turn:∀n s,I n s→wpAny (model prog w) A (pyNext it) (fun r s₁=>match r with
   |none=>R (.ok .next) s₁
   |some v=>wpAny (model prog w) A (letOwnedTupleGo target it v>>=fun _=>assign target env v) (fun _ s₂ =>
     wpAny (model prog w) A (forIn ifs true fun c r=>if r=true then do let ok ←isTrue c env (eval c env);pure (ForInStep.yield ok) else pure (ForInStep.yield r)) (fun ok s₃ =>
      if ok=true then BL (model prog w) A (eval elt env) (fun x s₄ =>
       wpAny (model prog w) A (call (.builtin "list.append") [acc,x]) (fun _ s₅=>∃m,m<n∧I m s₅) (notedBy (model prog w) A env fun e s'=>R (.error e) s') s₄) (notedBy (model prog w) A env fun e s'=>R (.error e) s') s₃
      else ∃m,m<n∧I m s₃) (notedBy (model prog w) A env fun e s'=>R (.error e) s') s₂) (notedBy (model prog w) A env fun e s'=>R (.error e) s') s₁) (notedBy (model prog w) A env fun e s'=>R (.error e) s') s)
 (n:Nat)(h:I n s) :
  B8 (model prog w) A (.compLoop (.ListComp elt [⟨target,iter,ifs,0⟩] scope pos) 0 it acc env) R s:=by
 refine VJ rfl I (fun n s hI=>?_) n h;show BL _ A ((compTurn (.ListComp elt [⟨target,iter,ifs,0⟩] scope pos) 0 it acc env).onRaise (fun x=>do noteFrame x env;theTreesLotGoes x)) _ _ s;refine W5 ?_;rw[compTurn_list];refine Ag (aZ (Ag (aK (turn n s hI) (fun r s₁ h₁=>?_) fun _ _ z=>z)));cases r with
 |none=>exact BZ (aD h₁)
 |some v =>
  show BL (model prog w) A (letOwnedTupleGo target it v>>=fun _=>assign target env v>>=_) _ _ s₁;rw[←bind_assoc];refine Ag (aK h₁ (fun _ s₂ h₂=>Ag (aK h₂ (fun ok s₃ h₃=>?_) fun _ _ z=>z)) fun _ _ z=>z);cases ok with
  |false=>exact BZ (aD ⟨rfl,h₃⟩)
  |true=>exact Bs (Bs (Gf h₃ fun x s₄ h₄=>BZ (aC (aK h₄ (fun _ s₅ h₅=>aD (BZ (aD ⟨rfl,h₅⟩))) fun _ _ z=>z))))
theorem TJ{pins:List (Addr×Obj)}{σ:St}{H2:Hp}{s2:Shared}{Q:VK}{it:Addr}{fp:List Addr}{tn:Nat→Heap→Prop}{J:It}{cl:List (Str×Addr)}{E:Value→Shared→Prop}{RR:Value→Addr→Result→Shared→Prop}
 (S:EH scope N x ix)(hcalm:X.calm=true){tgE:Expr}{g:TG}(Rv:St→Prop)(r0:Rv (carry fr σ))(hpg:∀C,PG (Ai X scope cl N C s2 H2 fp) tgE g)(hfr:D3 N X.N scope X.env.scope fr 0=true)(hlen:fr.length=N.length)
 (hif:∀cl C s₀ H₀ fp,Jh (Ai X scope cl N C s₀ H₀ fp) ifs tif)(he:∀cl C s₀ H₀ fp,RE (Ai X scope cl N C s₀ H₀ fp) elt te)
 (I2:Inv X pins σ H2 s2)(T:Turn X.prog X.w X.K tgE J fp it tn)(st2:tn 0 s2.heap)(f2:∀b∈fp,Hn X pins H2 b)
 (c1:∀x c,cl.lookup x=some c→X.env.cells.lookup x=some c)(c2:∀x∈scope.names,x.2=NameKind.free→∃c,cl.lookup x.1=some c)
 (W:∀D,H2 D=none→∃W:Nat→Nat→List V→Hp→Prop,(∃m,W 0 m [] (upd H2 D (.lst []))) ∧
   ∀i m ys H,W i m ys H→H D=some (.lst ys)∧((J.stop i H∧Q (.ref D) H)∨(J.go i H∧ys.length<sizeLine∧∀x H',J.Gb i H x H'→∀σ',Rv σ'→g x σ' H' fun σ6 H6=>Rv σ6 ∧
    tif σ6 H6 fun b H2=>if b=true then te σ6 H2 fun y H3=>H3 D=some (.lst ys)∧∃m',m'<m∧W (i+1) m' (ys++[y]) (upd H3 D (.lst (ys++[y])))
     else ∃m',m'<m∧W (i+1) m' ys H2)))
 (fin:∀(D C:Addr) (s':Shared) (H':Hp) m,s'.heap.Ns C m→Q (.ref D) H'→(∀h',Heap.SameBut C s'.heap h'→Inv X pins σ H' { s' with heap:=h'})→C≠D→(∀b o,s2.heap.get? b=some o→b≠C)→H' C=none→s2.heap.objs.size≤C→RR (.ref D) C (.ok .next) s') :
  wpAny (model X.prog X.w) X.A (newList []) (fun acc s₃=>wpAny (model X.prog X.w) X.A (newFunctionEnv scope X.env.globals cl [] X.env.qual none .none (some X.env)) (fun cenv s₄ =>
   B8 (model X.prog X.w) X.A (.compStart (.ListComp elt [⟨tgE,iter,ifs,0⟩] scope pos) 0 (.ref it) acc {cenv with scope:=relabel scope X.env}) (RR acc cenv.locals) s₄) E s₃) E s2:=by
 refine ax (wpAny_newFunctionEnv S.cell (by intro y hy;simp at hy) (fun h₁ hns₁ hsb₁=>?_) S.kind);dsimp only at hns₁ hsb₁ ⊢;generalize hHp:s2.heap.push { cls:=.type "list",dict:=none,data:=.seq ([]:List Value).toArray}=Hq at hns₁ hsb₁ ⊢;have hC:Hq.objs.size=s2.heap.objs.size+1:=by rw[←hHp,Heap.size_push]
 have hDC:s2.heap.objs.size≠Hq.objs.size:=by rw[hC];exact aQ (Nat.lt_succ_self _)
 have below:∀b,b<s2.heap.objs.size→b≠Hq.objs.size∧b≠s2.heap.objs.size:=fun b hb=>⟨by rw[hC];exact aQ (Nat.lt_succ_of_lt hb),Nat.ne_of_lt hb⟩;have old:∀b o,s2.heap.get? b=some o→h₁.get? b=some o:=fun b o e=>hsb₁.extBut b o (below b (aF e)).1 (aI _ (hHp ▸ aI _ e));have hacc:h₁.get? s2.heap.objs.size=some { cls:=.type "list",data:=.seq ([]:List Value).toArray}:=hsb₁.extBut _ _ hDC (aI _ (hHp ▸ Heap.get?_push_size _ rfl));have hD2:H2 s2.heap.objs.size=none:=I2.A7.fresh (aJ _);have hC2:H2 Hq.objs.size=none:=I2.A7.fresh (by rw[hC];exact Nat.le_succ _);have fpo:∀b∈fp,b<s2.heap.objs.size:=fun b hb=>by
  obtain⟨o,e,_⟩:=T.obj _ _ st2 b hb;exact aF e
 obtain⟨W,⟨m0,w0⟩,turn⟩:=W s2.heap.objs.size hD2;have ok:(Ai X scope cl N Hq.objs.size s2 H2 fp).Ok:=by
  refine⟨I2.ok.mod,S.kind,I2.ok.glob,I2.ok.blt,by show s2.heap.objs.size≤Hq.objs.size;rw[hC];exact Nat.le_succ _,?_,?_,?_,fun _=>I2.ok.hd hcalm,I2.ok.frames,.inl rfl,?_,I2.bs,Nat.le_trans I2.ok.MB I2.sz,?_,?_,I2.stack,I2.Ky,I2.kt⟩
  ·exact fun a b c h1 h2=>I2.ok.inj a b c (c1 _ _ h1) (c1 _ _ h2)
  ·intro y hy;obtain⟨k,hm,rfl⟩:=MS S.cell hy;exact c2 _ hm rfl
  ·intro y c hf;cases hf
  ·intro b hb;refine⟨(below b (fpo b hb)).1,fun y c e=>?_⟩;obtain⟨_,_,_,_,f5,_⟩:=f2 b hb;exact f5 y c (c1 _ _ e)
  ·intro b o e hb;obtain⟨_,_,_,f4,_,_⟩:=f2 b hb;rcases f4 with z|z
   ·exact I2.ok.Nt b o e z
   ·exact absurd (aG (aF e) (aH I2.ok.MB z)) (Nat.lt_irrefl _)
  ·intro b hb hs;obtain⟨_,f1,f3,_⟩:=f2 b hb;rcases aL.mp (I2.Kt b hs) with z|z
   ·exact f1 z
   ·exact f3 z
 have I4:Inv (Ai X scope cl N Hq.objs.size s2 H2 fp) [] (carry fr σ) (upd H2 s2.heap.objs.size (.lst [])) {s2 with heap:=h₁,toks:=s2.toks+([]:List (Str×Value)).length}:=by
  refine⟨ok,rfl,I2.bare,Un.laid old (aJ _) hD2,⟨_,hns₁,fun i y v h1 h2 h3=>?_⟩,fun y c e=>?_,?_,fun y c e=>?_,fun p hp=>(by cases hp),I2.A7.laid old (aJ _) ⟨bK _,[],0,.nil,hacc⟩,?_⟩
  ·obtain⟨j,e1,e2⟩:=Pq h2;obtain⟨n,n1,n2,n3,n4⟩:=Le hfr e1;rw[Nat.zero_add]at n1;have:y=n:=by
    have h1':N[i]? = some y:=h1;rw[h1']at n1;exact aU n1
   subst this;obtain⟨m,hn,hl⟩:=I2.loc;obtain⟨u,ru,lk⟩:=hl j y v n2 e2 (.inr (.inl n4));refine⟨u,ru,?_⟩;obtain⟨c,hc⟩:=c2 _ (lookup_mem n3) rfl;rcases lk with ⟨k1,_⟩|⟨_,c',hc',hcell⟩
   ·have k1':X.env.scope.names.lookup y=some .local:=k1;rw[n4]at k1';cases k1'
   ·have:=c1 _ _ hc;rw[hc']at this;cases this;refine .inr ⟨?_,c,hc,hcell.keeps old⟩;rcases h3 with z|z|z
    ·obtain⟨k,hm⟩:∃k,(y,k)∈scope.names∧k=NameKind.local:=by
      have hm:=lookup_mem z;have hm':(y,NameKind.local)∈(relabel scope X.env).names:=hm;unfold relabel at hm';obtain⟨⟨m',k⟩,hy,e⟩:=aR.mp hm';dsimp only at e;by_cases hcond:(k==NameKind.free&&X.env.scope.kind==.function&&X.env.kindOf m'==some .cell)=true
      ·rw[if_pos hcond]at e;injection e with _ e2';cases e2'
      ·rw[if_neg hcond]at e;injection e with e1' e2';subst e1' e2';exact⟨_,hy,rfl⟩
     obtain⟨hm,rfl⟩:=hm;have:=S.names _ hm rfl;rw[n3]at this;cases this
    ·exact .inl z
    ·exact .inr z
  ·obtain⟨v,z⟩:=I2.cell y c (c1 _ _ e);exact⟨v,z.keeps old⟩
  ·show upd H2 s2.heap.objs.size _ Hq.objs.size=none;rw[AW (Ne.symm hDC)];exact hC2
  ·obtain⟨v,o,ho,_⟩:=I2.cell y c (c1 _ _ e);rw[AW (below c (aF ho)).2];exact I2.Er y c (c1 _ _ e)
  ·show(carry fr σ).length=N.length;unfold carry;rw[List.length_map];exact hlen
 have fpX:∀(p:List (Addr×Obj)) (H':Hp),(∀q∈p,q.1∈fp→False)→(∀b∈fp,H' b=none)→∀b∈fp,Hn (Ai X scope cl N Hq.objs.size s2 H2 fp) p H' b:=fun p H' hp hn b hb=>by
  obtain⟨_,f1,f3,f4,f5,_⟩:=f2 b hb;refine⟨hn b hb,(below b (fpo b hb)).1,fun hs=>ok.Np b hb hs,.inl hb,fun y c e=>f5 y c (c1 _ _ e),fun q hq e=>?_⟩;exact hp q hq (e ▸ hb)
 have hxv:(relabel scope X.env).names.lookup x=some .local:=lookup_relabel_local S.loc;have loop:∀s₃:Shared,s₃={s2 with heap:=h₁,toks:=s2.toks+([]:List (Str×Value)).length} →
   B8 (model X.prog X.w) X.A (.compLoop (.ListComp elt [⟨tgE,iter,ifs,0⟩] scope pos) 0 (.ref it) (.ref s2.heap.objs.size) (compEnvC scope cl Hq.objs.size X.env)) (RR (.ref s2.heap.objs.size) Hq.objs.size) s₃:=by
  rintro s₃ rfl;refine Kd (fun n s'=>∃i ys σ' H',Inv (Ai X scope cl N Hq.objs.size s2 H2 fp) [] σ' H' s'∧Rv σ'∧tn i s'.heap∧(∀b∈fp,H' b=none)∧W i n ys H') ?_ m0
   ⟨0,[],carry fr σ,_,I4,r0,T.keep _ _ _ st2 fun b _ o e=>old b o e,fun b hb=>by rw[AW (below b (fpo b hb)).2];exact(f2 b hb).1,w0⟩
  rintro n s3 ⟨i,ys,σ3,H3,I3,hσ,st3,fr3,w3⟩;obtain⟨hD3,way⟩:=turn i n ys H3 w3;rcases way with ⟨stop,qn⟩|⟨go,hsz,step⟩
  ·refine aK (T.done (Ai X scope cl N Hq.objs.size s2 H2 fp) rfl rfl rfl hcalm i [] s3 σ3 H3 (fun _ _=>False) I3 (fpX [] H3 (fun _ z=>by cases z) fr3) st3 stop) (fun r s4 ⟨hr,I5⟩=>?_) fun _ _ z=>z.elim;subst hr;obtain⟨m,hn,_⟩:=id I5.loc;refine fin _ _ s4 H3 m hn qn (fun h' hs'=>?_) (Ne.symm hDC) (fun b o e=>(below b (aF e)).1) I5.free (by rw[hC];exact Nat.le_succ _);have nC:∀b u,H3 b=some u→b≠Hq.objs.size:=fun b u e z=>by
    have:=I5.free;rw[show(Ai X scope cl N Hq.objs.size s2 H2 fp).env.locals=Hq.objs.size from rfl,←z,e]at this;cases this
   have keepU:Un (Ew X.stack) fp H2 H3 s2.heap h':=by
    have u:=I5.base;refine⟨fun b o e n hb hx=>?_,fun b o e n hb hx=>?_,fun b o e n hx=>u.free b o e n hx,fun b o e hx=>?_,u.EB,u.Eo,u.FR,fun b xs o q e hx=>(hs'.2 b (below b (aF e)).1).trans (u.FT b xs o q e hx)⟩
    ·exact(hs'.2 b (below b (aF e)).1).trans (u.keep b o e n hb hx)
    ·obtain⟨sl,e1⟩:=u.slot b o e n hb hx;exact⟨sl,(hs'.2 b (below b (aF e)).1).trans e1⟩
    ·obtain⟨o',e1⟩:=u.there b o e hx;exact⟨o',(hs'.2 b (below b (aF e)).1).trans e1⟩
   have hok':D6 X.prog X.w H3 h':=fun b u e=>(I5.A7 b u e).Ia (fun c v hc q=>(hs'.2 c (by
    rcases hc with rfl|hc
    ·exact nC _ _ e
    ·exact nC _ _ hc)).trans q) (fun _ q=>q) fun _ _ q=>q
   refine I2.VV (s':={s4 with heap:=h'}) (ch:=fp) I5.os keepU hok' I5.bare fun b hb=>?_;obtain⟨_,f1,_,f4,f5,f6⟩:=f2 b hb;exact⟨f4,f1,f5,f6⟩
  ·refine aK (T.item (Ai X scope cl N Hq.objs.size s2 H2 fp) rfl rfl rfl hcalm i [] s3 σ3 H3 (fun _ _=>False) I3 (fpX [] H3 (fun _ z=>by cases z) fr3) st3 go) (fun r s4 ⟨u,hr,h4⟩=>?_) fun _ _ z=>z.elim;subst hr;show wpAny (model X.prog X.w) X.A (letOwnedTupleGo tgE (.ref it) u>>=fun _=>assign tgE (compEnvC scope cl Hq.objs.size X.env) u) _ _ s4;refine aC (aK h4 (fun _ s5 ⟨xv,H5,I5,r5,y5,st5,fr5⟩=>?_) fun _ _ z=>z.elim);have I5':=I5.pinned (fpX [] H5 (fun _ z=>by cases z) fr5) (T.obj _ _ st5);refine aK (hpg _ _ s5 σ3 H5 xv u _ I5' r5 (step xv H5 y5 σ3 hσ)) (fun _ s6 ⟨σ6,H6,I6,rv6,step5⟩=>?_) fun _ _ z=>z.elim;refine aK (hif _ _ _ _ _ _ s6 _ H6 _ I6 step5) (fun b s7 ⟨H7,I7,q7⟩=>?_) fun _ _ z=>z.elim;have again:∀ {s8:Shared} {H8:Hp} {k:Nat} {zs:List V},Inv (Ai X scope cl N Hq.objs.size s2 H2 fp) ([]++K6 fp s5.heap) σ6 H8 s8→W (i+1) k zs H8→k<n →
     ∃m,m<n∧∃i ys σ' H',Inv (Ai X scope cl N Hq.objs.size s2 H2 fp) [] σ' H' s8∧Rv σ'∧tn i s8.heap∧(∀b∈fp,H' b=none)∧W i m ys H':=fun {s8 H8 k zs} I8 w8 hk=>by
    refine⟨k,hk,i+1,zs,_,H8,I8.JU,rv6,T.keep _ _ _ st5 fun b hb o e=>(I8.pin (b,o) (aP _ (aP _ (Fw hb e)))).1,fun b hb=>?_,w8⟩;obtain⟨o,e,d⟩:=T.obj _ _ st5 b hb;exact(I8.pin (b,o) (aP _ (aP _ (Fw hb e)))).2.1
   cases b with
   |false =>
    rw[if_neg aO]at q7 ⊢;obtain⟨k,hk,w7⟩:=q7;exact again I7 w7 hk
   |true =>
    rw[if_pos rfl]at q7 ⊢;refine Df (he _ _ _ _ _ _ s7 _ H7 _ I7 q7) (fun yv s8 ⟨y,H8,I8,r8,hD8,k,hk,w8⟩=>?_) fun _ _ z=>z.elim;refine aK (Ge (X:=Ai X scope cl N Hq.objs.size s2 H2 fp) _ s8 _ H8 (.ref s2.heap.objs.size) [y] (.ref s2.heap.objs.size) [yv] (fun _ H9=>H9=upd H8 s2.heap.objs.size (.lst (ys++[y]))) I8 rfl (.cons r8 .nil) ⟨_,ys,y,rfl,rfl,hD8,hsz,rfl⟩) (fun _ s9 ⟨_,H9,I9,_,e9⟩=>?_) fun _ _ z=>z.elim;subst e9;exact again I9 w8 hk
 exact La (loop _ rfl) (T.self X.A 0 _ _ _ (T.keep _ _ _ st2 fun b _ o e=>old b o e) (loop _ rfl))
theorem MQ{pins:List (Addr×Obj)}{σ:St}{H2:Hp}{s2:Shared}{Q:VK}{it:Addr}{fp:List Addr}{tn:Nat→Heap→Prop}{J:It}{cl:List (Str×Addr)}{E:Value→Shared→Prop}{RR:Value→Addr→Result→Shared→Prop}
 (S:EH scope N x ix)(hcalm:X.calm=true)(hfr:D3 N X.N scope X.env.scope fr 0=true)(hlen:fr.length=N.length)
 (hif:∀cl C s₀ H₀ fp,Jh (Ai X scope cl N C s₀ H₀ fp) ifs tif)(he:∀cl C s₀ H₀ fp,RE (Ai X scope cl N C s₀ H₀ fp) elt te)
 (I2:Inv X pins σ H2 s2)(T:Turn X.prog X.w X.K (.Name x px) J fp it tn)(st2:tn 0 s2.heap)(f2:∀b∈fp,Hn X pins H2 b)
 (c1:∀x c,cl.lookup x=some c→X.env.cells.lookup x=some c)(c2:∀x∈scope.names,x.2=NameKind.free→∃c,cl.lookup x.1=some c)
 (W:∀D,H2 D=none→∃W:Nat→Nat→List V→Hp→Prop,(∃m,W 0 m [] (upd H2 D (.lst []))) ∧
   ∀i m ys H,W i m ys H→H D=some (.lst ys)∧((J.stop i H∧Q (.ref D) H)∨(J.go i H∧ys.length<sizeLine∧∀x H',J.Gb i H x H' →
    tif ((carry fr σ).set ix (some x)) H' fun b H2=>if b=true then te ((carry fr σ).set ix (some x)) H2 fun y H3=>H3 D=some (.lst ys)∧∃m',m'<m∧W (i+1) m' (ys++[y]) (upd H3 D (.lst (ys++[y])))
     else ∃m',m'<m∧W (i+1) m' ys H2)))
 (fin:∀(D C:Addr) (s':Shared) (H':Hp) m,s'.heap.Ns C m→Q (.ref D) H'→(∀h',Heap.SameBut C s'.heap h'→Inv X pins σ H' { s' with heap:=h'})→C≠D→(∀b o,s2.heap.get? b=some o→b≠C)→H' C=none→s2.heap.objs.size≤C→RR (.ref D) C (.ok .next) s') :
  wpAny (model X.prog X.w) X.A (newList []) (fun acc s₃=>wpAny (model X.prog X.w) X.A (newFunctionEnv scope X.env.globals cl [] X.env.qual none .none (some X.env)) (fun cenv s₄ =>
   B8 (model X.prog X.w) X.A (.compStart (.ListComp elt [⟨.Name x px,iter,ifs,0⟩] scope pos) 0 (.ref it) acc {cenv with scope:=relabel scope X.env}) (RR acc cenv.locals) s₄) E s₃) E s2:=by
 have hxv:(relabel scope X.env).names.lookup x=some .local:=lookup_relabel_local S.loc;refine TJ S hcalm (fun σ'=>∀v,σ'.set ix v=(carry fr σ).set ix v) (fun _=>rfl) (fun C=>El (X:=Ai X scope cl N C s2 H2 fp) S.nd S.at_ (.inl hxv) (.inr hxv)) hfr hlen hif he I2 T st2 f2 c1 c2 (fun D hD=>?_) fin;obtain⟨W,w0,st⟩:=W D hD;refine⟨W,w0,fun i m ys H w=>?_⟩;obtain⟨h1,h2|⟨h2,h3,h4⟩⟩:=st i m ys H w
 ·exact⟨h1,.inl h2⟩
 ·refine⟨h1,.inr ⟨h2,h3,fun x H' hy σ' hr=>?_⟩⟩;have:=h4 x H' hy;rw[←hr]at this;exact⟨fun v=>by rw[List.set_set,hr],this⟩
theorem Zf(S:EH scope N x ix)(hcalm:X.calm=true)(hfr:D3 N X.N scope X.env.scope fr 0=true)(hlen:fr.length=N.length)(hfree:∀y∈scope.names,y.2=.free→X.env.scope.names.lookup y.1=some .cell∨X.env.scope.names.lookup y.1=some .free)
 (hi:PI X (.Name x px) iter wi)(hif:∀cl C s₀ H₀ fp,Jh (Ai X scope cl N C s₀ H₀ fp) ifs tif)(he:∀cl C s₀ H₀ fp,RE (Ai X scope cl N C s₀ H₀ fp) elt te)
 (hs:∀x,foldedSetIterable iter X.env x=pure x:=by intro _;rfl):RE X (.ListComp elt [⟨.Name x px,iter,ifs,0⟩] scope pos) (Hw wi fr ix tif te):=by
 intro pins s σ H Q I hw;obtain⟨cl,hclos,c1,_,c2⟩:=Fx (env:=X.env) scope.names [] (fun y hy hf=>I.ok.has y.1 (hfree y hy hf)) (fun y c z=>by cases z);have hclos':closureFor scope X.env=pure cl:=by
  have e:closureFor scope X.env=((forIn scope.names [] (fun(x:Str×NameKind) (r:List (Str×Addr))=>do if(x.2==NameKind.free)=true then do let a ←cellOf X.env x.1;pure (ForInStep.yield ((x.1,a)::r)) else pure (ForInStep.yield r)):Sem (List (Str×Addr)))>>=fun cs=>pure cs):=rfl;rw[e,hclos]
  rfl
 rw[eval_ListComp];refine GA (use:=none) rfl hs hclos' S.kind S.names (BD (hi pins s σ H _ I hw) fun v s1 h1=>BD h1 fun itv s2 h2=>?_);obtain⟨it,fp,tn,J,H2,e,I2,T,st2,f2,W⟩:=h2;subst e;refine MQ (RR:=fun acc C=>compPost (model X.prog X.w) X.A X.xe none (EP X pins σ Q) acc C) S hcalm hfr hlen hif he I2 T st2 f2 c1 c2 W ?_;intro D C s' H' m hn q hI _ _ _ _;exact⟨m,hn,fun h' hs'=>⟨.ref D,H',hI h' hs',rfl,q⟩⟩
theorem Uz{i : Nat}{y : Str}{py spos : Pos}(hN : X.N.Nodup)(hy : X.N[i]? = some y)(hly : X.env.scope.names.lookup y = some .local)(S : EH scope N x ix)(hcalm : X.calm = true)(hfr : D3 N X.N scope X.env.scope fr 0 = true)(hlen : fr.length = N.length)
 (hfree : ∀ y∈scope.names,y.2 = .free→X.env.scope.names.lookup y.1 = some .cell∨X.env.scope.names.lookup y.1 = some .free)
 (hi : PI X (.Name x px) iter wi)(hif : ∀ cl C s₀ H₀ fp,Jh (Ai X scope cl N C s₀ H₀ fp) ifs tif)(he : ∀ cl C s₀ H₀ fp,RE (Ai X scope cl N C s₀ H₀ fp) elt te)
 (hsw : swapsWith (.ListComp elt [⟨.Name x px,iter,ifs,0⟩] scope pos) (some (.Name y py)) spos.line X.env = pure true := by rfl)
 (hs : ∀ x,foldedSetIterable iter X.env x = pure x := by intro _; rfl) :
    RS X (.Assign [.Name y py] (.ListComp elt [⟨.Name x px,iter,ifs,0⟩] scope pos) spos) (Jj (Hw wi fr ix tif te) (Fe i)) := by
  intro pins s σ H D I hw
  obtain ⟨cl,hclos,c1,_,c2⟩:=Fx (env:=X.env) scope.names [] (fun y hy hf => I.ok.has y.1 (hfree y hy hf)) (fun y c z => by cases z)
  have hclos' : closureFor scope X.env = pure cl := by
    have e : closureFor scope X.env = ((forIn scope.names [] (fun (x : Str×NameKind) (r : List (Str×Addr)) => do if (x.2 == NameKind.free) = true then do let a ← cellOf X.env x.1; pure (ForInStep.yield ((x.1,a) :: r)) else pure (ForInStep.yield r)) : Sem (List (Str×Addr))) >>= fun cs => pure cs):=rfl
    rw [e,hclos]
    rfl
  rw [exec_Assign_Name_used _ _ _ _ hsw]
  refine Ag (aZ (C6 ?_))
  show BL _ X.A (do let _ ← comprehension (.ListComp elt [⟨.Name x px,iter,ifs,0⟩] scope pos) scope X.env _ (newList []) false (eval iter X.env) (some (assign (.Name y py) X.env))) _ _ s
  refine C6 (Df (GA (use:=some (assign (.Name y py) X.env)) (Q:=fun _ s' => SP X pins D .next s') rfl hs hclos' S.kind S.names
    (BD (hi pins s σ H _ I hw) fun v s1 h1 => BD h1 fun itv s2 h2 => ?_)) (fun _ s' hq => aD (aD hq)) fun _ _ e => e)
  obtain ⟨it,fp,tn,J,H2,e,I2,T,st2,f2,W⟩:=h2
  subst e
  refine MQ (Q:=fun x H1 => Fe i x σ H1 D.nx) (RR:=fun acc C => compPost (model X.prog X.w) X.A X.xe (some (assign (.Name y py) X.env)) (fun _ s' => SP X pins D .next s') acc C) S hcalm hfr hlen hif he I2 T st2 f2 c1 c2 W ?_
  intro D' C s' H' m hn q hI hCD hold hfreeC hsz
  have I5 : Inv X pins σ H' s':=hI s'.heap (Heap.SameBut.refl ..)
  refine wpAny_assign_Name (MG I5 hN hy (.inl hly) (v:=.ref D') rfl (fun s'' I6 ⟨a,hsb,ha⟩ => ?_) (.inr hly))
  have hL : C≠X.env.locals:=fun z => by
    obtain ⟨_,⟨o,_,_,e,_⟩,_⟩:=I2.loc
    exact hold _ _ e z.symm
  have hcl : ∀ z c,X.env.cells.lookup z = some c→c≠C:=fun z c e => by
    obtain ⟨_,o,ho,_⟩:=I2.cell z c e
    exact hold _ _ ho
  have hCa : C≠a := by
    rcases ha with z | z
    · rw [z]; exact hL
    · exact Ne.symm (hcl _ _ z)
  refine ⟨m,hn.sameBut hsb hCa,fun h' hs' => ⟨_,H',I6.turned (t':=s''.toks) (it:=C) (fun b o hb e => (hs'.2 b hb).trans e) hfreeC hL (.inr (aH I2.sz hsz)) hcl fun p hp => ?_,q⟩⟩
  obtain ⟨e,_⟩:=I2.pin p hp
  exact hold _ _ e
end
section
variable{X:Cx}{elt iter:Expr}{x:Str}{px pos:Pos}{ifs:List Expr}{scope:Scope}{wi:TI}{tif:TT}{te:TE}
theorem YB(N:List Str)(ix:Nat)(fr:List (Option Nat))(hi:PI X (.Name x px) iter wi)(hif:∀cl C s₀ H₀ fp,Jh (Ai X scope cl N C s₀ H₀ fp) ifs tif)(he:∀cl C s₀ H₀ fp,RE (Ai X scope cl N C s₀ H₀ fp) elt te)
 (h1:B7 scope N x ix=true:=by decide +kernel)(h2:X.calm=true:=by rfl)(h3:D3 N X.N scope X.env.scope fr 0=true:=by rfl)(h4:fr.length=N.length:=by rfl)(h5:freeOk X.env.scope scope.names=true:=by rfl)
 (hs:∀x,foldedSetIterable iter X.env x=pure x:=by intro _;rfl):RE X (.ListComp elt [⟨.Name x px,iter,ifs,0⟩] scope pos) (Hw wi fr ix tif te) :=
 Zf (Gp h1) h2 h3 h4 (J3 h5) hi hif he hs
theorem TB{i:Nat}{y:Str}{py spos:Pos}(N:List Str)(ix:Nat)(fr:List (Option Nat))(hN:X.N.Nodup)(hy:X.N[i]? = some y)(hly:X.env.scope.names.lookup y=some .local)
 (hi:PI X (.Name x px) iter wi)(hif:∀cl C s₀ H₀ fp,Jh (Ai X scope cl N C s₀ H₀ fp) ifs tif)(he:∀cl C s₀ H₀ fp,RE (Ai X scope cl N C s₀ H₀ fp) elt te)
 (h1:B7 scope N x ix=true:=by decide +kernel)(h2:X.calm=true:=by rfl)(h3:D3 N X.N scope X.env.scope fr 0=true:=by rfl)(h4:fr.length=N.length:=by rfl)(h5:freeOk X.env.scope scope.names=true:=by rfl)
 (hsw:swapsWith (.ListComp elt [⟨.Name x px,iter,ifs,0⟩] scope pos) (some (.Name y py)) spos.line X.env=pure true:=by rfl)
 (hs:∀x,foldedSetIterable iter X.env x=pure x:=by intro _;rfl):RS X (.Assign [.Name y py] (.ListComp elt [⟨.Name x px,iter,ifs,0⟩] scope pos) spos) (Jj (Hw wi fr ix tif te) (Fe i)) :=
 Uz hN hy hly (Gp h1) h2 h3 h4 (J3 h5) hi hif he hsw hs
end
section
variable{α:Type}{M:Model}{A:Around}{E:Value→Shared→Prop}{s:Shared}{x:Str}{u:Tok}
theorem HH{p:Prop}[Decidable p]{a b:Sem α}{Q:α→Shared→Prop}(hp:¬p)(h:BL M A b Q E s):BL M A (if p then a else b) Q E s:=by rw[if_neg hp];exact h
theorem Z3{p:Prop}[Decidable p]{a b:Sem α}{Q:α→Shared→Prop}(hp:p)(h:BL M A a Q E s):BL M A (if p then a else b) Q E s:=by rw[if_pos hp];exact h
theorem Zo(h:BL M A ((int_private% "intFromText") (.str x u) (if x.cps.all (· < 128) then x.cps.toList else Unicode.numberText x.cps.toList) 10) (fun _ _=>False) E s):BL M A ((int_private% "intFromObject") (.str x u)) (fun _ _=>False) E s:=by
  obtain⟨hp,g,d,tk,os⟩:=s;have f3:=PySem.W.KIN.str_int;have f4:=PySem.W.KIN.str_idx;have f5:=PySem.W.KIN.str_trunc;have f6:typeOf (.str x u)=pure (.type "str"):=rfl;refine Ag ?_
  repeat (any_goals (first|assumption|wp_step))
theorem XJ{e:Value}{own:List String}{Q:Unit→Shared→Prop}(h:Q () s):BL M A (markTheRefusal own e) Q E s:=fun Γ p i k=>by
 unfold markTheRefusal;have hk:pythonCodeMadeTheCall own (((Γ.code,p)::Γ.below).map (·.1))=false:=by
  unfold pythonCodeMadeTheCall;have:((((Γ.code,p)::Γ.below).map (·.1)).any fun c=>match c with|.builtin "claim.caller" _=>true|_=>false)=true:=by
   rw[List.any_map,List.any_cons];have k':Γ.below.any (fun x=>x.1.isCaller)=true:=k;simp only[Function.comp_def];rw[show(Γ.below.any fun x=>match x.1 with|.builtin "claim.caller" _=>true|_=>false)=true from k',Bool.or_true]
  simp only[Bool.and_eq_false_iff,Bool.not_eq_false'];exact .inl (.inl this)
 show Sem.wp M Γ (stack>>=_) _ _ p s;rw[Sem.wp_bind'];show Sem.wp M Γ (Sem.stack _) _ _ p s;rw[Sem.wp_stack,Sem.wp_pure,if_neg (by rw[hk];exact aO)];exact h
end
section
variable{prog:Program}{w:World}{A:Around}{E:Value→Shared→Prop}{s:Shared}{x:Str}{u:Tok}
theorem int_text{text:List Nat}(hh:A.handled=none)(hx:(reprText x).length≤sizeLine)(hs:(text.takeWhile (· != 0)).length≤640)
 (hr:(int_private% "readNumeral") 0 10 (text.takeWhile (· != 0))=int_private% "Numeral.invalid" ∨ ∃i,(int_private% "readNumeral") 0 10 (text.takeWhile (· != 0))=(int_private% "Numeral.value") i∧¬((text.takeWhile (· != 0)).length==text.length)=true)
 (h:∀h' e m,Heap.MadeExcOf s.heap h' e (.type "ValueError") [m]→E (.ref e) {s with heap:=h',toks:=s.toks+1+1}) :
    BL (model prog w) A ((int_private% "intFromText") (.str x u) text 10) (fun _ _=>False) E s:=by
    refine Z3 hs ?_
    refine Ag (aD ?_)
    have jp:BL (model prog w) A (do
            rule "int.__new__.invalid-literal"
            let shown ←pyRepr (Value.str x u)
            let m ←mkStr (Str.ofString (toString "invalid literal for int() with base " ++ toString 10++toString ": ") ++ { cps:=shown.cps.extract 0 200})
            let refusal ←newExc (Value.type "ValueError") [m]
            markTheRefusal ["int.__new__"] refusal
            (raiseNew refusal:Sem Value)) (fun _ _=>False) E s:=by
      refine Ag (wpAny_rule ?_)
      refine Ag (wpAny_pyRepr_str ?_ hx)
      refine Ag (wpAny_mkStr ?_ ?_)
      · unfold newExc newTuple
        refine Ag (aC (ax ?_ (show(1:Nat)≤sizeLine by decide)))
        refine aC (m:=firstArgMember _ _) (wpAny_of_eq (a:=Value.none) (by simp only[firstArgMember,plainExc_ValueError.first];rfl) ?_)
        rw[plainExc_ValueError.own]
        refine ax ?_ (by size_fits)
        refine Bs (XJ (BZ ?_))
        refine wpAny_raiseNew_none hh (h _ _ _ ⟨fun b o hb=>aI _ (aI _ hb),Heap.get?_none_of_le (by simp),_,Heap.get?_push_size _ rfl,Heap.get?_none_of_le (by simp),Heap.get?_push_of_some _ (Heap.get?_push_size _ rfl)⟩)
      · have e1:(Str.ofString (toString "invalid literal for int() with base " ++ toString 10++toString ": ")).length=40:=by decide +kernel
        have e2:(Str.mk ((reprText x).cps.extract 0 200)).length≤200:=by
          show((reprText x).cps.extract 0 200).size≤200
          rw[Array.size_extract];lia
        have e3:∀a b:Str,(a++b).length=a.length+b.length:=fun a b=>Array.size_append
        rw[e3,e1]
        exact aH (Nat.add_le_add_left e2 40) (by decide)
    dsimp only
    rcases hr with hr|⟨i,hr,hne⟩
    · rw[hr]
      dsimp only
      refine Ag (aD ?_)
      refine HH (by simp) ?_
      exact jp
    · rw[hr]
      dsimp only
      refine HH hne ?_
      exact jp
end
section
variable{prog:Program}{w:World}{A:Around}{E:Value→Shared→Prop}{s:Shared}{x:Str}{u:Tok}{R:Result→Shared→Prop}
theorem Lu{id:String}{args:Args}{b:Builtin}(hb:entryFor table id=some b)
 (h:BL (model prog w) (A.under (.builtin id args)) (b args) (fun fin s'=>match fin with|.done f=>R (.ok f) s'|.again c'=>c'.quiet=true∧B8 (model prog w) A c' R s') (fun e s'=>R (.error e) s') s):B8 (model prog w) A (.builtin id args) R s:=by
 refine Dg ?_;show BL _ _ (match entryFor table id with|some b=>b args|none=>unsupported ((withoutEnding? id "#data").getD id)) _ _ s;rw[hb];exact h
theorem X4(hh:A.handled=none)(hl:x.length≤640)(hx:(reprText x).length≤sizeLine)(hn:PySem.intText? x=none)
 (h:∀h' e m,Heap.MadeExcOf s.heap h' e (.type "ValueError") [m]→E (.ref e) {s with heap:=h',toks:=s.toks+1+1}) :
  BL (model prog w) A (call (.type "int") [.str x u]) (fun _ _=>False) E s:=by
 refine JL (Dg (BZ ?_));show wpAny _ _ (callAny (.type "int") _) _ _ _;refine aD ⟨Code.quiet_builtin _ (by decide +kernel),Lu F.entry_type_call ?_⟩;rw[Around.under_plain (weight_type_call_type "int" [.str x u] []) (units_type_call_type "int" [.str x u] [])];have h1:=F.called_int.notType;have h2:=F.called_int.canCreate;obtain⟨c,tl,hmro⟩:=F.called_int.mro;have hmade:=F.called_int.made;have hct:=F.typeCall_int_1 (.str x u);unfold Builtin.«type.__call__»;dsimp only;refine HH (by rw[h1];decide) ?_;refine HH (by rw[h2];decide) ?_;refine Ag (wpAny_of_eq hct ?_);refine Ag (wpAny_of_eq hmro ?_);refine HH (by simp) ?_;refine Ag (wpAny_of_eq hmade ?_);dsimp only;refine Ag (aD (Bs (Dn (Gf (Q:=fun _ _=>False) ?_ fun _ _ z=>z.elim))));refine JL (Dg (BZ ?_));show wpAny _ _ (callAny (.builtin "int.__new__") _) _ _ _;unfold callAny;refine aC (wpAny_of_eq (F.newCall_int_1 (.str x u)) (aD ⟨plainId_quiet F.called_int.plain _,Lu F.entry_int_new ?_⟩));rw[Around.under_plainId F.called_int.plain];unfold Builtin.«int.__new__»;dsimp only;refine Ag (aD ?_);refine HH (by decide) ?_;refine Ag (wpAny_of_eq F.conv_sub_int ?_);refine HH (by decide) ?_;refine Ag (wpAny_of_eq F.madeHere_int ?_);refine HH (by simp) ?_;refine HH (by simp) ?_;refine Ag (aD ?_);have hs:(numSeenOf x).length≤640:=aH (PySem.seen_length x) hl;refine Bs (Gf (Q:=fun _ _=>False) (Zo (int_text hh hx hs ?_ h)) fun _ _ z=>z.elim);rcases PySem.read0 x hs with ⟨n,e,_⟩|⟨_,e⟩
 ·rw[hn]at e;cases e
 ·exact e
end
theorem VC{M:Model}{A:Around}{E:Value→Shared→Prop}{s:Shared}{base h:Heap}{env:Env}{outer:List Env}{L e:Addr}{cls:Value}{args:List Value}{Q:Unit→Shared→Prop}
 (hfr:A.frames=some (env::outer))(hf:env.frame=some L)(hkb:base.StaysIn h)(hl:h.FunFrames base (env::outer))(hx:Heap.MadeExcOf h s.heap e cls args)
 (hQ:∀h' t,Heap.HeldW base (env::outer) e cls (.ref t) L h'→s.heap.UpToSlots h'→Q () {s with heap:=h'}):wpAny M A (noteFrame (.ref e) env) Q E s:=by
 obtain⟨t,he,htn,ht⟩:=hx.there;have hen:base.get? e=none:=by
  cases hq:base.get? e with
  |none=>rfl
  |some o'=>have:=hkb e o' hq;rw[hx.new]at this;cases this
 unfold noteFrame;simp only[hf];have h1:(#[Value.ref t,.none,.none,.none,.bool false,.none]:Array Value)[1]? = some Value.none:=rfl;refine aC (wpAny_field he rfl h1 ?_);rw[if_neg (show ¬((Value.none != Value.none)=true) by decide)];refine wpAny_entryW hfr (hl.of_keeps fun b o hb _=>⟨o,hx.keeps b o hb,rfl⟩) hf he (fun b o hb=>hx.keeps b o (hkb b o hb)) hen rfl (by show 1<6;decide) rfl fun h' hN=>?_;obtain⟨k1,k2,k3,k4⟩:=hN;exact hQ h' t ⟨k1,hen,k2,k3⟩ k4
theorem K3{prog:Program}{w:World}{A:Around}{E:Value→Shared→Prop}{s:Shared}{env:Env}{body orelse:List Stmt}{h₀:ExceptHandler}{hs:List ExceptHandler}{pos:Pos}{Q:Flow→Shared→Prop}
 (h:BL (model prog w) A (execs body env) (fun f s₁=>match f with|.next=>wpAny (model prog w) A (execs orelse env) Q E s₁|f=>Q f s₁)
   (fun e s₁=>wpAny (model prog w) A (noteFrame e env) (fun _ s₂=>wpAny (model prog w) A (setFlight e none) (fun _ s₃=>wpAny (model prog w) A (handleBy e env (h₀::hs)) Q E s₃) E s₂) E s₁) s) :
  BL (model prog w) A (exec (.Try body (h₀::hs) orelse [] pos) env) Q E s:=by
 rw[arm_exec_Try];refine Ag (aZ ?_);unfold tryStmt;simp only[List.isEmpty_nil,if_true,List.isEmpty_cons,Bool.false_and,Bool.false_eq_true,if_false];refine Bs (NO (Df h (fun f s₁ h₁=>?_) fun e s₁ h₁=>?_))
 ·cases f<;>first|exact BZ h₁|exact BZ (aD h₁)
 ·exact BZ (aC (aK h₁ (fun _ _ k=>aC k) fun _ _ z=>z))
section
variable{X:Cx}{pins:List (Addr×Obj)}{σ:St}{H:Hp}{s:Shared}{D:Ends}{ea:Addr}{h':Heap}{tk:Nat}{m:Value}{np pr pc hpos:Pos}{kc:Nat}
theorem Z8(I:Inv X pins σ H s)(hx:Heap.MadeExcOf s.heap h' ea (.type "ValueError") [m])(hstk:∃rest,X.stack=X.env::rest)(hfr:X.env.frame=some X.env.locals)(hg:Gl X "ValueError")(hm:X.mg "ValueError" = none)(q:D.rt .BM H) :
  wpAny (model X.prog X.w) X.A (noteFrame (.ref ea) X.env) (fun _ s₂=>wpAny (model X.prog X.w) X.A (setFlight (.ref ea) none) (fun _ s₃=>wpAny (model X.prog X.w) X.A (handleBy (.ref ea) X.env [.ExceptHandler (some (.Name "ValueError" np)) none [.Return (some (.Constant .none kc pc)) pr] hpos]) (SP X pins D) X.xe s₃) X.xe s₂) X.xe {s with heap:=h',toks:=tk}:=by
 obtain⟨rest,hrest⟩:=hstk;have hfrm:X.A.frames=some (X.env::rest):=by rw[←hrest];exact I.ok.frames
 have FF:=I.stack;have hin:∀env∈X.stack,∀b,env.frame=some b→b∈X.stack.filterMap (·.frame):=fun env he b hb=>List.mem_filterMap.mpr ⟨env,he,hb⟩;have outT:∀b u,H b=some u→b ∉ X.stack.filterMap (·.frame):=fun b u e hm=>by
  have:=I.Ky b hm;rw[e]at this;cases this
 refine VC (base:=PySem.W.hideAll s.heap (X.stack.filterMap (·.frame))) (s:={s with heap:=h',toks:=tk}) hfrm hfr (fun b o q=>PySem.W.of_hideAll _ q) (by rw[←hrest];exact PySem.W.funFrames_hide FF hin) hx fun h4 t held4 up4=>?_;refine wpAny_landsW held4 fun h5 fl5 up5=>?_;have up05:=up4.trans up5;have hokB:D6 X.prog X.w H (PySem.W.hideAll s.heap (X.stack.filterMap (·.frame))):=fun b u e =>
  (I.A7 b u e).Ia (fun c v hc q=>bE _ q (by
   rcases hc with rfl|hc
   ·exact outT _ _ e
   ·exact outT _ _ hc)) (fun _ q=>q) fun _ _ q=>q
 have F:∀h6,Heap.FlyingW (PySem.W.hideAll s.heap (X.stack.filterMap (·.frame))) (X.env::rest) ea (.type "ValueError") (.ref t) h6→h'.UpToSlots h6→Inv X pins σ H {s with heap:=h6,toks:=tk}:=fun h6 fl6 up6=>by
  have fB:U3 X.prog X.w X.stack H s ea (.type "ValueError") (.ref t) H {s with heap:=h6,toks:=tk} (PySem.W.hideAll s.heap (X.stack.filterMap (·.frame))):=by
   refine⟨rfl,I.bare,by rw[hrest];rw[hrest]at fl6;exact fl6,fun b o e n hb=>bE _ e hb,fun b o e hb=>⟨o,PySem.W.hideAll_get _ e hb⟩,fun b o e hb=>?_,fun b o e n=>n,fun b xs e=>e,fun b o u e=>e,fun b ps e=>⟨#[],by rw[Array.append_empty];exact e⟩,fun b xs o q e=>bE _ e (outT b _ q),hokB,hx.new⟩;obtain⟨o',e2,hd⟩:=LZ I.stack hb;rw[e]at e2;cases e2;exact up6 b _ (hx.keeps _ _ e) hd
  exact land I fB fl6.1 (Heap.UpToSlots.refl _)
 have I5:=F h5 fl5 up05;refine wpAny_handleBy_cons (codeAny_handlers_test (Je (I5.held ea) hg hm (by kernel_rfl:bootBuiltins "ValueError" = some (.type "ValueError")) ?_)) (by intro q;cases q);obtain⟨ob,hob,hobc⟩:=fl5.there;refine wpAny_excMatches_type (X := "ValueError") (b:=true) ⟨ob,hob,hobc⟩ (by rw[isSubtype_type];kernel_rfl) (by rw[isSubtype_type];kernel_rfl) (by rw[isSubtype_type];kernel_rfl) (codeAny_handlers_suite ?_);refine lands_againW fl5 fun h6 fl6 up6=>?_;have I6:=F h6 fl6 (up05.trans up6);exact wpAny_execs_cons (wpAny_Return_some (Constant_none ⟨.BM,σ,H,I6,rfl,q⟩))
end
def N3(X:Cx)(e:Expr)(f:Dv→Option PyData):Prop:=∃t,RE X e t∧∀δ x,f δ=some x→∀G0 H0 G H σ ts (Q:VK),Rw G0 H0 G H σ δ ts→(∀v G' H',Rw G0 H0 G' H' σ δ ((x,v)::ts)→Q v H')→t σ H Q
def ZF(X:Cx)(es:List Expr)(f:Dv→Option (List PyData)):Prop:=∃t,RA X es t∧∀δ xs,f δ=some xs→∀G0 H0 G H σ ts (Q:List V→Hp→Prop),Rw G0 H0 G H σ δ ts→(∀vs G' H',Rw G0 H0 G' H' σ δ (xs.zip vs++ts)→vs.length=xs.length→Q vs H')→t σ H Q
def Ot(X:Cx)(e:Expr)(f:Dv→Option Bool):Prop:=∃t,RT X e t∧∀δ b,f δ=some b→∀G0 H0 G H σ ts (Q:Bool→Hp→Prop),Rw G0 H0 G H σ δ ts→(∀G' H',Rw G0 H0 G' H' σ δ ts→Q b H')→t σ H Q
def Mb(X:Cx)(op:BoolOp)(es:List Expr)(f:Dv→Option Bool):Prop:=∃t,RO X op es t∧∀δ b,f δ=some b→∀G0 H0 G H σ ts (Q:Bool→Hp→Prop),Rw G0 H0 G H σ δ ts→(∀G' H',Rw G0 H0 G' H' σ δ ts→Q b H')→t σ H Q
def K5(X:Cx)(st:Stmt)(F:DF):Prop:=∃t,RS X st t∧∀δ r,F δ=some r→∀G0 H0 G H σ D,Rw G0 H0 G H σ δ []→Fin G0 H0 D r→t D σ H
def KW(X:Cx)(st:List Stmt)(F:DF):Prop:=∃t,IP X st t∧∀δ r,F δ=some r→∀G0 H0 G H σ D,Rw G0 H0 G H σ δ []→Fin G0 H0 D r→t D σ H
def cQ(X:Cx)(E:XK)(st:Stmt)(F:FJ):Prop:=∃t,RS X st t∧∀δ r,F δ=some r→∀G0 H0 G H σ D,Rw G0 H0 G H σ δ []→Va G0 H0 D E r→t D σ H
def VD(X:Cx)(E:XK)(sts:List Stmt)(F:FJ):Prop:=∃t,IP X sts t∧∀δ r,F δ=some r→∀G0 H0 G H σ D,Rw G0 H0 G H σ δ []→Va G0 H0 D E r→t D σ H
theorem DA.r{X:Cx}{es:List Expr}{f:Dv→Option (List PyData)}(h:DA X es f):ZF X es f:=let⟨t,p,k⟩:=h;⟨t,.of p,k⟩
theorem DT.r{X:Cx}{e:Expr}{f:Dv→Option Bool}(h:DT X e f):Ot X e f:=let⟨t,p,k⟩:=h;⟨t,.of p,k⟩
theorem DS.r{X:Cx}{st:Stmt}{F:DF}(h:DS X st F):K5 X st F:=let⟨t,p,k⟩:=h;⟨t,.of p,k⟩
theorem Fz.r{X:Cx}{st:List Stmt}{F:DF}(h:Fz X st F):KW X st F:=let⟨t,p,k⟩:=h;⟨t,.of p,k⟩
theorem DX.r{X:Cx}{E:XK}{st:Stmt}{F:FJ}(h:DX X E st F):cQ X E st F:=let⟨t,p,k⟩:=h;⟨t,.of p,k⟩
theorem MZ.r{X:Cx}{E:XK}{st:List Stmt}{F:FJ}(h:MZ X E st F):VD X E st F:=let⟨t,p,k⟩:=h;⟨t,.of p,k⟩
theorem Mb.rt{X:Cx}{op:BoolOp}{es:List Expr}{pos:Pos}{f:Dv→Option Bool}(h:Mb X op es f):Ot X (.BoolOp op es pos) f:=let⟨t,p,k⟩:=h;⟨t,p.rt,k⟩
theorem N3.pe{X:Cx}{e:Expr}{f:Dv→Option PyData}(h:N3 X e f):RE X e (tD f):=by
 obtain⟨t,p,k⟩:=h;intro pins s σ H Q I q;obtain⟨δ,x,G0,H0,G,ts,h1,h2,h3⟩:=q;exact p pins s σ H Q I (k δ x h1 G0 H0 G H σ ts Q h2 h3)
theorem IP.DV{X:Cx}{sts:List Stmt}{t:TS}(h:IP X.DV sts t):IP X sts t:=fun pins s σ H D I k=>Df (h pins s σ H D (I.Ds _) k) (fun _ _ z=>z.Cp) fun _ _ z=>z.elim
theorem RS.DV{X:Cx}{st:Stmt}{t:TS}(h:RS X.DV st t):RS X st t:=fun pins s σ H D I k=>Df (h pins s σ H D (I.Ds _) k) (fun _ _ z=>z.Cp) fun _ _ z=>z.elim
section
variable{X:Cx}{a b c e:Expr}{es:List Expr}{f h:Dv→Option PyData}{fs:Dv→Option (List PyData)}{fa fb:Dv→Option Bool}{pos p:Pos}{st:Stmt}{sts sts':List Stmt}{F F1 F2:DF}
theorem B0(h1:K5 X st F1)(h2:KW X sts F2):KW X (st::sts) (AX F1 F2):=by
 obtain⟨t1,p1,k1⟩:=h1;obtain⟨t2,p2,k2⟩:=h2;refine⟨_,C9 p1 p2,fun δ r h G0 H0 G H σ D R k=>?_⟩;unfold AX at h;split at h
 ·rename_i δ' e1;exact k1 δ _ e1 G0 H0 G H σ _ R fun σ' G' H' R'=>k2 δ' r h G0 H0 G' H' σ' D R' k
 ·rename_i hne;refine k1 δ r h G0 H0 G H σ _ R ?_;cases r with
  |nx δ'=>exact absurd h (hne δ')
  |rt x=>exact k
  |bk δ'=>exact k
  |ct δ'=>exact k
  |rn xs=>exact k
theorem Lh(h1:K5 X st F1):KW X [st] F1:=by
 obtain⟨t,p,k⟩:=h1;refine⟨t,fun pins s σ H D I h=>?_,k⟩;rw[execs_cons];refine Bs (Gf (p pins s σ H D I h) fun f s1 q=>BZ ?_);cases f with
 |next=>exact bD q
 |ret v=>exact aD q
 |brk=>exact aD q
 |cont=>exact aD q
theorem ZV(he:N3 X e f):K5 X (.Return (some e) pos) (fun δ=>(f δ).map .rt):=by
 obtain⟨t,p,k⟩:=he;refine⟨_,V5 p,fun δ r h G0 H0 G H σ D R q=>?_⟩;obtain⟨x,h1,rfl⟩:=aB.mp h;exact k δ x h1 G0 H0 G H σ [] _ R fun v G' H' R'=>q v G' H' R'.ext R'.new R'.ins R'.keep (R'.BE _ (.head _))
theorem OK(hc:Ot X c fa)(h1:KW X sts F1)(h2:KW X sts' F2):K5 X (.If c sts sts' pos) (fun δ=>(fa δ).bind fun c=>if c=true then F1 δ else F2 δ):=by
 obtain⟨tc,pc,kc⟩:=hc;obtain⟨t1,p1,k1⟩:=h1;obtain⟨t2,p2,k2⟩:=h2;refine⟨_,g5 pc p1 p2,fun δ r h G0 H0 G H σ D R q=>?_⟩;obtain⟨i,h3,h4⟩:=aA.mp h;refine kc δ i h3 G0 H0 G H σ [] _ R fun G' H' R'=>?_;split
 ·rename_i hc;rw[if_pos hc]at h4;exact k1 δ r h4 G0 H0 G' H' σ D R' q
 ·rename_i hc;rw[if_neg hc]at h4;exact k2 δ r h4 G0 H0 G' H' σ D R' q
theorem T6{i:Nat}{x:Str}{pos':Pos}(hN:X.N.Nodup)(hi:X.N[i]? = some x)(hx:Loc X.env.scope x)(he:N3 X e f)(hs:swapsWith e (some (.Name x pos')) pos.line X.env=pure false:=by rfl)(hf:X.fn x=true∨X.env.scope.names.lookup x=some .local:=by first|exact .inl rfl|exact .inr rfl) :
  K5 X (.Assign [.Name x pos'] e pos) (fun δ=>(f δ).map fun y=>.nx (δ.set i (.d y))):=by
 obtain⟨t,p,k⟩:=he;refine⟨_,cG hN hi hx p hs hf,fun δ r h G0 H0 G H σ D R q=>?_⟩;obtain⟨y,h1,rfl⟩:=aB.mp h;exact k δ y h1 G0 H0 G H σ [] _ R fun v G' H' R'=>q _ _ _ R'.Ie
theorem ET{k:Nat}{fA:Addr}{fd:FuncData}{ps:List Str}{m:List PyData→Option PyData}{x:Str}{st:Stmt}(T:Fn X.K X.mg x st ps fA fd)(F:CT X.prog X.w X.K X.mg X.base Ao k fA fd ps (BR m))(hr:Bf k X.A)(hg:Gl X x)(ha:ZF X (e::es) fs)
 (hdb:(x==("__debug__" : Str))=false:=by decide)(he:starEach (e::es) X.env=(false,eval e X.env)::starEach es X.env:=by rfl)(hpl:(backTo pos (starEach es X.env)).any (·.1)=false:=by rfl) :
  N3 X (.Call (.Name x p) (e::es) [] pos) (fun δ=>(fs δ).bind m):=by
 obtain⟨ta,pa,ka⟩:=ha;refine⟨_,gO T F hr hg pa hdb he hpl,fun δ z hz G0 H0 G H σ ts Q R0 k=>?_⟩;obtain⟨xs,h1,h2⟩:=aA.mp hz;refine ka δ _ h1 G0 H0 G H σ ts _ R0 fun vs G1 H1 R1 hv=>?_;obtain⟨d,R2⟩:=R1.args hv;refine⟨xs,z,G1,h2,by rw[List.append_nil];exact d,R2.ins,fun v G' H' h3 h4 h5 h6 h7=>?_⟩;exact k _ _ _ ((R2.lift h3 h4 h5 h6).put h7)
theorem Xv(ha:N3 X e f)(hr:ZF X es fs)(hs:starEach (e::es) X.env=(false,eval e X.env)::starEach es X.env:=by rfl):ZF X (e::es) (fun δ=>(f δ).bind fun x=>(fs δ).map fun xs=>x::xs):=by
 obtain⟨ta,pa,ka⟩:=ha;obtain⟨tr,pr,kr⟩:=hr;refine⟨_,bR pa pr hs,fun δ z hz G0 H0 G H σ ts Q R0 k=>?_⟩;obtain⟨x,h1,h2⟩:=aA.mp hz;obtain⟨xs,h3,rfl⟩:=aB.mp h2;refine ka δ x h1 G0 H0 G H σ ts _ R0 fun u G1 H1 R1=>?_;refine kr δ xs h3 G0 H0 G1 H1 σ _ _ R1 fun vs G2 H2 R2 hl=>?_;refine k (u::vs) G2 H2 (R2.less fun q hq=>?_) (by simp[hl]);simp only[List.zip_cons_cons,List.cons_append,List.mem_cons,List.mem_append]at hq ⊢;rcases hq with h|h|h
 ·exact .inr (.inl h)
 ·exact .inl h
 ·exact .inr (.inr h)
theorem NB(ha : N3 X e f)(he : ∀ whole,isTrue e X.env whole = (do let v ← whole; standAt e.pos; holding [v] (truthy v)) := by intro _; rfl) : Ot X e (fun δ => (f δ).bind Md) := by
  obtain ⟨ta,pa,ka⟩:=ha
  refine ⟨_,fq pa he,fun δ z hz G0 H0 G H σ ts Q R0 k => ?_⟩
  obtain ⟨q,h0,h4⟩:=aA.mp hz
  have:=Rc h4; subst this
  refine ka δ _ h0 G0 H0 G H σ ts _ R0 fun u G1 H1 R1 => ?_
  have hu:=R1.BE _ (.head _)
  rw [Du] at hu
  exact ⟨z,hu,k _ _ R1.drop⟩
theorem M7(ha:Ot X a fa):Ot X (.UnaryOp .Not a pos) (fun δ=>(fa δ).map fun c=>!c):=by
 obtain⟨ta,pa,ka⟩:=ha;refine⟨_,fQ pa,fun δ z hz G0 H0 G H σ ts Q R0 k=>?_⟩;obtain⟨i,h3,rfl⟩:=aB.mp hz;exact ka δ _ h3 G0 H0 G H σ ts _ R0 fun G1 H1 R1=>k _ _ R1
theorem M3{op:BoolOp}(ha:Ot X a fa):Mb X op [a] fa:=by
 obtain⟨ta,pa,ka⟩:=ha;cases op
 ·exact⟨_,bg pa,ka⟩
 ·exact⟨_,eI pa,ka⟩
theorem Tc{rest:List Expr}(ha:Ot X a fa)(hb:Mb X .And (b::rest) fb):Mb X .And (a::b::rest) (fun δ=>(fa δ).bind fun c=>if c=true then fb δ else some false):=by
 obtain⟨ta,pa,ka⟩:=ha;obtain⟨tb,pb,kb⟩:=hb;refine⟨_,dQ pa pb,fun δ z hz G0 H0 G H σ ts Q R0 k=>?_⟩;obtain⟨i,h3,h4⟩:=aA.mp hz;refine ka δ _ h3 G0 H0 G H σ ts _ R0 fun G1 H1 R1=>?_;split
 ·rename_i hc;rw[if_pos hc]at h4;exact kb δ z h4 G0 H0 G1 H1 σ ts Q R1 k
 ·rename_i hc;rw[if_neg hc]at h4;cases h4;exact k _ _ R1
theorem O1{rest:List Expr}(ha:Ot X a fa)(hb:Mb X .Or (b::rest) fb):Mb X .Or (a::b::rest) (fun δ=>(fa δ).bind fun c=>if c=true then some true else fb δ):=by
 obtain⟨ta,pa,ka⟩:=ha;obtain⟨tb,pb,kb⟩:=hb;refine⟨_,iO pa pb,fun δ z hz G0 H0 G H σ ts Q R0 k=>?_⟩;obtain⟨i,h3,h4⟩:=aA.mp hz;refine ka δ _ h3 G0 H0 G H σ ts _ R0 fun G1 H1 R1=>?_;split
 ·rename_i hc;rw[if_pos hc]at h4;cases h4;exact k _ _ R1
 ·rename_i hc;rw[if_neg hc]at h4;exact kb δ z h4 G0 H0 G1 H1 σ ts Q R1 k
end
section
variable{X:Cx}{elt iter:Expr}{x y:Str}{px pos spos:Pos}{ifs:List Expr}{scope:Scope}{fs:Dv→Option (List PyData)}{tif:Dv→Option Bool}{f:Dv→Option PyData}
theorem Sw{i:Nat}{z:Str}{pz spos:Pos}(N:List Str)(ix:Nat)(fr:List (Option Nat))(hN:X.N.Nodup)(hy:X.N[i]? = some z)(hly:X.env.scope.names.lookup z=some .local)(hi:DI X (.Name x px) iter fs)(hif:∀cl C s₀ H₀ fp,QM (Ai X scope cl N C s₀ H₀ fp) ifs tif)(he:∀cl C s₀ H₀ fp,N3 (Ai X scope cl N C s₀ H₀ fp) elt f)
 (h1:B7 scope N x ix=true:=by decide +kernel)(h2:X.calm=true:=by rfl)(h3:D3 N X.N scope X.env.scope fr 0=true:=by rfl)(h4:fr.length=N.length:=by rfl)(h5:freeOk X.env.scope scope.names=true:=by rfl)
 (hsw:swapsWith (.ListComp elt [⟨.Name x px,iter,ifs,0⟩] scope pos) (some (.Name z pz)) spos.line X.env=pure true:=by rfl)
 (hs:∀x,foldedSetIterable iter X.env x=pure x:=by intro _;rfl):K5 X (.Assign [.Name z pz] (.ListComp elt [⟨.Name x px,iter,ifs,0⟩] scope pos) spos) (fun δ=>(CO (B3 ix) tif f fr fs δ).map fun y=>.nx (δ.set i (.d y))):=by
 obtain⟨wi,pi,ki⟩:=hi;refine⟨_,TB N ix fr hN hy hly pi hif (fun cl C s₀ H₀ fp=>(he cl C s₀ H₀ fp).pe) h1 h2 h3 h4 h5 hsw hs,fun δ r h G0 H0 G H σ D R q=>?_⟩;obtain⟨y,h1,rfl⟩:=aB.mp h;exact MK ki h1 R fun v G' H' R'=>q _ _ _ R'.Ie
theorem Xo(N:List Str)(ix:Nat)(fr:List (Option Nat))(hi:DI X (.Name x px) iter fs)(hif:∀cl C s₀ H₀ fp,QM (Ai X scope cl N C s₀ H₀ fp) ifs tif)(he:∀cl C s₀ H₀ fp,N3 (Ai X scope cl N C s₀ H₀ fp) elt f)
 (h1:B7 scope N x ix=true:=by decide +kernel)(h2:X.calm=true:=by rfl)(h3:D3 N X.N scope X.env.scope fr 0=true:=by rfl)(h4:fr.length=N.length:=by rfl)(h5:freeOk X.env.scope scope.names=true:=by rfl)
 (hs:∀x,foldedSetIterable iter X.env x=pure x:=by intro _;rfl):K5 X (.Return (some (.ListComp elt [⟨.Name x px,iter,ifs,0⟩] scope pos)) spos) (Qn (Fg (B3 ix) tif f fr fs)):=by
 obtain⟨wi,pi,ki⟩:=hi;refine⟨_,V5 (YB N ix fr pi hif (fun cl C s₀ H₀ fp=>(he cl C s₀ H₀ fp).pe) h1 h2 h3 h4 h5 hs),fun δ r h G0 H0 G H σ D R q=>?_⟩;obtain⟨zs,m1,rfl⟩:=aB.mp h;exact Iy ki m1 R fun D' ys G' H' R' n1 n2 n3 n4 n5=>q _ _ _ _ R'.ext R'.new R'.ins R'.keep n3 n2 n1 n5
end
section
variable{P:Program}{w:World}{K:PySem.W.Frag}{mg:Str→Option Value}{base:Heap}{x:Str}{st:Stmt}{fA f:Addr}{fd:FuncData}{N ps:List Str}{k:Nat}
theorem Lo.eL{qual:Str}{sp:Sp}(F:Lo K x qual st f fd)(S:Al N ps (AN st))(len:∀vs H Q E,sp vs H Q E→vs.length=ps.length)
 (hbody:∀(cdv:Value) (A:Around) (outer:List Env) (s:Shared) (H:Hp) (vs:List V) (Q:VK) (E:XK),Bf k (A.deeper (envOfC qual (AN st) s.heap.objs.size f cdv))→sp vs H Q E →
   ∃t,IP (Bq Ao P w K mg base N qual (AN st) f cdv A outer s H E).DV (B5 st) t∧t { nx:=fun _ H'=>Q .BM H',rt:=Q} (start N vs) H):CT P w K mg base Ao (k+1) f fd ps sp:=by
 obtain⟨oc,od,kV,doc,pm,an,cdv,ct,osl,rfl,lk,hcd⟩:=F.ex;refine Vn lk hcd S len fun A outer s H vs Q E hr hsp=>?_;obtain⟨t,h,q⟩:=hbody cdv A outer s H vs Q E hr hsp;exact⟨t,h.DV,q⟩
theorem Lo.i9{sp:Sp}(F:Lo K x x st f fd)(S:Al N ps (AN st))(len:∀vs H Q E,sp vs H Q E→vs.length=ps.length)
 (hbody:∀(cdv:Value) (A:Around) (outer:List Env) (s:Shared) (H:Hp) (vs:List V) (Q:VK) (E:XK),Bf k (A.deeper (envOfC x (AN st) s.heap.objs.size f cdv))→sp vs H Q E →
   ∃t,IP (Bq (Cy P w) P w K mg base N x (AN st) f cdv A outer s H E) (B5 st) t∧t { nx:=fun _ H'=>Q .BM H',rt:=Q} (start N vs) H):CT P w K mg base (Cy P w) (k+1) f fd ps sp:=by
 obtain⟨oc,od,kV,doc,pm,an,cdv,ct,osl,rfl,lk,hcd⟩:=F.ex;exact Vn lk hcd S len fun A outer s H vs Q E hr hsp=>hbody cdv A outer s H vs Q E hr hsp
theorem XW{F:DF}(T:Fn K mg x st ps fA fd)(S:Al N ps (AN st))
 (hb:∀(cdv:Value) (A:Around) (outer:List Env) (s:Shared) (H:Hp) (E:XK),Bf k (A.deeper (envOfC x (AN st) s.heap.objs.size fA cdv))→KW (Bq Ao P w K mg base N x (AN st) fA cdv A outer s H E).DV (B5 st) F) :
  CT P w K mg base Ao (k+1) fA fd ps (BR (CY ps N F)):=by
 refine T.F.eL S (fun vs H Q E h=>?_) fun cdv A outer s H vs Q E hr h=>?_
 ·obtain⟨ds,y,G,h1,h2,_⟩:=h;unfold CY at h1;split at h1
  ·rename_i hl;rw[h2.len];exact hl
  ·cases h1
 ·obtain⟨ds,y,G,h1,h2,h3,h4⟩:=h;obtain⟨t,p,kk⟩:=hb cdv A outer s H E hr;refine⟨t,p,?_⟩;unfold CY at h1;split at h1
  ·split at h1
   ·rename_i z e1;cases h1;exact kk _ _ e1 G H G H _ _ (Rw.start h2 h3) fun v G' H' m1 m2 m3 m4 m5=>h4 v G' H' m1 m2 m3 m4 m5
   ·rename_i δ e1;cases h1;exact kk _ _ e1 G H G H _ _ (Rw.start h2 h3) fun σ' G' H' R=>h4 .BM G' H' R.ext R.new R.ins R.keep (by rw[Du])
   ·rename_i xs e1;cases h1;exact kk _ _ e1 G H G H _ _ (Rw.start h2 h3) fun a ys G' H' m1 m2 m3 m4 m5 m6 m7 m8=>let⟨n1,n2,n3,n4⟩:=QY m1 m2 m3 m5 m6 m7 m8;h4 _ _ H' n1 n2 n3 m4 n4
   ·cases h1
  ·cases h1
theorem iu{J:FJ}(T:Fn K mg x st ps fA fd)(S:Al N ps (AN st))
 (hb:∀(cdv:Value) (A:Around) (outer:List Env) (s:Shared) (H:Hp) (E:XK),Bf k (A.deeper (envOfC x (AN st) s.heap.objs.size fA cdv))→VD (Bq (Cy P w) P w K mg base N x (AN st) fA cdv A outer s H E) E (B5 st) J) :
  CT P w K mg base (Cy P w) (k+1) fA fd ps (Gu (GS ps N J)):=by
 refine T.F.i9 S (fun vs H Q E h=>?_) fun cdv A outer s H vs Q E hr h=>?_
 ·obtain⟨ds,y,G,h1,h2,_⟩:=h;unfold GS at h1;split at h1
  ·rename_i hl;rw[h2.len];exact hl
  ·cases h1
 ·obtain⟨ds,y,G,h1,h2,h3,h4⟩:=h;obtain⟨t,p,kk⟩:=hb cdv A outer s H E hr;refine⟨t,p,?_⟩;unfold GS at h1;split at h1
  ·split at h1
   ·rename_i z e1;cases h1;exact kk _ _ e1 G H G H _ _ (Rw.start h2 h3) fun v G' H' m1 m2 m3 m4 m5=>h4 v G' H' m1 m2 m3 m4 m5
   ·rename_i δ e1;cases h1;exact kk _ _ e1 G H G H _ _ (Rw.start h2 h3) fun σ' G' H' R=>h4 .BM G' H' R.ext R.new R.ins R.keep (by rw[Du])
   ·rename_i xs e1;cases h1;exact kk _ _ e1 G H G H _ _ (Rw.start h2 h3) fun a ys G' H' m1 m2 m3 m4 m5 m6 m7 m8=>let⟨n1,n2,n3,n4⟩:=QY m1 m2 m3 m5 m6 m7 m8;h4 _ _ H' n1 n2 n3 m4 n4
   ·rename_i C e1;cases h1;exact kk _ _ e1 G H G H _ _ (Rw.start h2 h3) h4
   ·cases h1
  ·cases h1
theorem CT.eQ{sp sp':Sp}(F:CT P w K mg base (Cy P w) k fA fd ps sp)(h:∀vs H Q E,sp' vs H Q E→sp vs H Q fun _ _ _=>False):CT P w K mg base Ao k fA fd ps sp' :=
 ⟨fun vs H Q E z=>F.len _ _ _ _ (h _ _ _ _ z),fun A outer s H args us vs Q E hr he hb hv hs=>Fu (F.run A outer s H args us vs Q _ hr he hb hv (h _ _ _ _ hs)) fun r s' z=>by
  cases r with
  |ok fl=>cases fl<;>exact z
  |error e=>obtain⟨_,_,_,_,_,_,_,z⟩:=z;exact z.elim⟩
theorem eZ{m:List PyData→Option Xr}(F:CT P w K mg base (Cy P w) k fA fd ps (Gu m)):CT P w K mg base Ao k fA fd ps (BR (good m)):=F.eQ fun vs H Q E z=>by
 obtain⟨ds,x,G,h1,h2,h3,h4⟩:=z;unfold good at h1;split at h1
 ·rename_i y e;cases h1;exact⟨ds,.inl x,G,e,h2,h3,h4⟩
 ·cases h1
end
section
variable{X:Cx}{E:XK}{st:Stmt}{sts:List Stmt}{F:DF}{J1 J2:FJ}
theorem fS(h:K5 X.DV st F):cQ X E st (NM F):=by
 obtain⟨t,p,k⟩:=h;refine⟨t,RS.DV p,fun δ r h G0 H0 G H σ D R q=>?_⟩;obtain⟨o,h1,rfl⟩:=aB.mp h;exact k δ o h1 G0 H0 G H σ D R q
theorem Mi(h1:cQ X E st J1)(h2:VD X E sts J2):VD X E (st::sts) (Gq J1 J2):=by
 obtain⟨t1,p1,k1⟩:=h1;obtain⟨t2,p2,k2⟩:=h2;refine⟨_,C9 p1 p2,fun δ r h G0 H0 G H σ D R q=>?_⟩;unfold Gq at h;split at h
 ·rename_i δ' e1;exact k1 δ _ e1 G0 H0 G H σ _ R fun σ' G' H' R'=>k2 δ' r h G0 H0 G' H' σ' D R' q
 ·rename_i o hn;cases r with
  |inr C=>exact k1 δ _ h G0 H0 G H σ _ R q
  |inl o' =>
   cases o' with
   |nx δ'=>exact absurd h (hn δ')
   |rt x=>exact k1 δ _ h G0 H0 G H σ _ R q
   |bk x=>exact k1 δ _ h G0 H0 G H σ _ R q
   |ct x=>exact k1 δ _ h G0 H0 G H σ _ R q
   |rn x=>exact k1 δ _ h G0 H0 G H σ _ R q
end
def cy(X:Cx)(e:Expr)(t:TX):Prop :=
 ∀(pins:List (Addr×Obj)) (s:Shared) (σ:St) (H:Hp) (Q:VK) (E:XK),Inv X pins σ H s→t σ H Q E→BL (model X.prog X.w) X.A (eval e X.env) (EP X pins σ Q) (Lg X pins σ E) s
section
variable{X:Cx}{e:Expr}{t:TX}{x y z n:Str}{G:Addr}{py pz pn np spos tpos hpos pos:Pos}{i j k:Nat}
theorem Om{M:Model}{A:Around}{E:Value→Shared→Prop}{s:Shared}{env:Env}{x:Str}{pos' pos:Pos}{value:Expr}{Q:Flow→Shared→Prop}
 (h:BL M A (eval value env) (fun v s₁=>wpAny M A (storeName env x v) (fun _=>Q .next) E s₁) E s)(hs:swapsWith value (some (.Name x pos')) pos.line env=pure false):BL M A (exec (.Assign [.Name x pos'] value pos) env) Q E s:=fun Γ p i1 k1=>by
 simp only[exec_Assign_Name env x pos' value pos hs,Sem.wp_bind',Sem.wp_cmd_standAt,Sem.wp_bindName,Sem.wp_pure'];exact Sem.wp_mono M Γ _ (fun v _ s₁ z=>z Γ _ i1) (fun _ _ _ z=>z) _ _ (h Γ _ i1 k1)
theorem YK(he:cy X e t)(hN:X.N.Nodup)(hcalm:X.calm=true)(hi:X.N[i]? = some y)(hj:X.N[j]? = some z)(hk:X.N[k]? = some n)(hly:X.env.scope.names.lookup y=some .local)(hlz:X.env.scope.names.lookup z=some .local)(hln:X.env.scope.names.lookup n=some .local)
 (hg:Gl X x)(hm:X.mg x=some (.ref G))(hkj:k≠j)(hstk:∃rest,X.stack=X.env::rest)(hfr:X.env.frame=some X.env.locals)
 (hd:(x==("__debug__" : Str))=false:=by decide)(hsw:swapsWith (.Name n pn) (some (.Name z pz)) tpos.line X.env=pure false:=by rfl)(hdn:(n==("__debug__" : Str))=false:=by decide)(hcn:(n==("__classdict__" : Str))=false:=by decide)
 (hsy:swapsWith e (some (.Name y py)) spos.line X.env=pure false:=by rfl) :
  RS X (.Try [.Assign [.Name y py] e spos] [.ExceptHandler (some (.Name x np)) (some n) [.Assign [.Name z pz] (.Name n pn) tpos] hpos] [] [] pos) (V1 X.K G t i j k):=by
 intro pins s σ H D I h;refine K3 ?_;rw[execs_cons];refine C6 (Om (Df (he pins s σ H _ _ I h) (fun v s1 ⟨w,H1,I1,r1,q1⟩=>?_) fun ev s1 hf=>?_) hsy)
 ·exact GQ I1 hN hi (.inl hly) r1 (fun s2 I2=>bD (bD ⟨_,H1,I2,q1⟩)) (.inr hly)
 ·exact WD hN hcalm hj hk hlz hln hg hm hkj hstk hfr hf hd hsw hdn hcn
end
section
variable{X:Cx}{e:Expr}{es:List Expr}{h:Dv→Option PyData}{fs:Dv→Option (List PyData)}{pos p:Pos}
theorem fG{k:Nat}{fA:Addr}{fd:FuncData}{ps:List Str}{sp:Sp}{x:Str}{st:Stmt}{e:Expr}{es:List Expr}{t:TA}{p pos:Pos}(T:Fn X.K X.mg x st ps fA fd)(F:CT X.prog X.w X.K X.mg X.base (Cy X.prog X.w) k fA fd ps sp)(hr:Bf k X.A)(hg:Gl X x)(ha:PA X.DV (e::es) t)
 (hdb:(x==("__debug__" : Str))=false:=by decide)(he:starEach (e::es) X.env=(false,eval e X.env)::starEach es X.env:=by rfl)(hpl:(backTo pos (starEach es X.env)).any (·.1)=false:=by rfl) :
  cy X (.Call (.Name x p) (e::es) [] pos) (V8 sp t):=by
 intro pins s σ H Q E I h;have ha':PA (X.Ds (Lg X pins σ E)) (e::es) t:=WT (X:=X.Ds (Lg X pins σ E)) ha;exact Df (Tj (X:=X.Ds (Lg X pins σ E)) (pins:=pins) (σ:=σ) (H:=H) (s:=s) (Q:=Q) (E:=E) T F (fun H s e s' I z=>⟨H,s,I.Cp,z⟩) hr hg (.of ha') hdb he hpl (I.Ds _) h) (fun v s1 ⟨y,H1,I1,r1,q1⟩=>⟨y,H1,I1.Cp,r1,q1⟩) fun _ _ z=>z
theorem YF{kk i j k:Nat}{fA:Addr}{fd:FuncData}{ps:List Str}{m:List PyData→Option Xr}{x:Str}{st':Stmt}{cx y z n:Str}{Gx:Addr}{py pz pn np spos tpos hpos tp:Pos}(T:Fn X.K X.mg x st' ps fA fd)(F:CT X.prog X.w X.K X.mg X.base (Cy X.prog X.w) kk fA fd ps (Gu m))(hr:Bf kk X.A)(hg:Gl X x)(ha:DA X.DV (e::es) fs)
 (hB:∀ds C,m ds=some (.inr C)→DP X.K C Gx true)
 (hP:∀ {t:TX},cy X (.Call (.Name x p) (e::es) [] pos) t→RS X (.Try [.Assign [.Name y py] (.Call (.Name x p) (e::es) [] pos) spos] [.ExceptHandler (some (.Name cx np)) (some n) [.Assign [.Name z pz] (.Name n pn) tpos] hpos] [] [] tp) (V1 X.K Gx t i j k))
 (hdb:(x==("__debug__" : Str))=false:=by decide)(he:starEach (e::es) X.env=(false,eval e X.env)::starEach es X.env:=by rfl)(hpl:(backTo pos (starEach es X.env)).any (·.1)=false:=by rfl) :
  K5 X (.Try [.Assign [.Name y py] (.Call (.Name x p) (e::es) [] pos) spos] [.ExceptHandler (some (.Name cx np)) (some n) [.Assign [.Name z pz] (.Name n pn) tpos] hpos] [] [] tp) (ZA i j k m fs):=by
 obtain⟨ta,pa,ka⟩:=ha;refine⟨_,hP (fG T F hr hg pa hdb he hpl),fun δ r h G0 H0 G H σ D R q=>?_⟩;obtain⟨w,h1,rfl⟩:=aB.mp h;have h1':=h1;obtain⟨ds,_,hm⟩:=aA.mp h1';refine Rn (k:=kk) ka h1 R (fun x hx v G' H' R'=>?_) (fun C hC G' H' R'=>?_)
 ·subst hx;exact q _ _ _ R'.Ie
 ·subst hC;refine⟨C,rfl,hB ds C hm,fun ea hea=>?_⟩;have R2:=R'.newObj (o:=Hg ea (.ref C)) hea;have de:Du (upd G' ea (Hg ea (.ref C))) (Fc C) (.ref ea):=by unfold Fc;rw[Du];exact .inl ⟨ea,C,rfl,rfl,Ad⟩
  exact q _ _ _ ((((R2.put de).put de).Ie.Ie).Ys k none)
end
open PySem PySem.Spec PyProof.Rows PySem.W
abbrev G0:PySem.Ctx:=⟨.builtin "claim.caller" {},none,none,[],none⟩
abbrev Yz(name:Str)(vs:List Value):Sem PySem.Fin:=do
  match ←nsGet mainNs name with
  |some f=>do ret (←PySem.call f vs)
  |none=>unsupported "claim.caller:no-such-global"
theorem eA{prog:Program}{w:World}{name:Str}{s:Shared}{mg:Str→Option Value}{f:Value}{vs:List Value}{Q:PySem.Fin→Shared→Prop}{E:Value→Shared→Prop}(hg:s.heap.Ns mainGlobals mg)(hf:mg name=some f)
 (h:B8 (model prog w) callerA (.call f ⟨vs,[]⟩) (fun r s'=>match r with|.ok (.ret v)=>Q (.done (.ret v)) s'|.ok _=>False|.error e=>E e s') s) :
  Sem.wp (model prog w) G0 (Yz name vs) (fun a _ s'=>Q a s') (fun e _ s'=>E e s') default s:=by
 rw[Sem.wp_bind'];refine Sem.wp_mono _ G0 _ (fun o p s' z=>?_) (fun _ _ _ z=>z) _ _ ((wpAny_nsGet (Q:=fun o s'=>o=some f∧s'=s) hg ⟨hf,rfl⟩:wpAny (model prog w) callerA (nsGet mainNs name) _ (fun e s'=>E e s') s) G0 default caller_in);obtain⟨rfl,rfl⟩:=z;show Sem.wp _ G0 (PySem.call f vs>>=fun v=>ret v) _ _ p s';rw[Sem.wp_bind'];show Sem.wp _ G0 (runValue (.call f ⟨vs,[]⟩)) _ _ p s';rw[Sem.wp_runValue];exact wpCode_mono (fun r s2 z=>by
  cases r with
  |error e=>exact z
  |ok fl=>cases fl<;>exact z) (h _ p rfl (caller_in.enter _ none p (by intro x;cases x)) rfl)
theorem ZQ{prog:Program}{w:World}{t:Sem PySem.Fin}{s:Shared}{R:Result→Shared→Prop}(hreg:s.asleep)
 (h:Sem.wp (model prog w) G0 t (fun fin _ s'=>∃f,fin=PySem.Fin.done f∧(R (.ok f) s'∧leftWithCleanup s'.gens=false)) (fun e _ s'=>R (.error e) s'∧leftWithCleanup s'.gens=false) default s) :
  ∃n r s' s'',runN (denote table) prog w n s ⟨t,.builtin "claim.caller" {},default,[]⟩=.halted (outcomeOf r) s' ∧
   schedN (denote table) prog w n (.single s ⟨t,.builtin "claim.caller" {},default,[]⟩)=.halted (outcomeOf r) s'∧s'.forget=s''.forget∧R r s'':=by
 have h2:Sem.wp (model prog w) G0 t (Sem.finPost (model prog w) G0 fun r s'=>R r s'∧leftWithCleanup s'.gens=false) (fun e _ s'=>R (.error e) s'∧leftWithCleanup s'.gens=false) default s :=
  Sem.wp_mono _ G0 t (fun fin p z q=>by obtain⟨f,rfl,y⟩:=q;exact y) (fun _ _ _ z=>z) _ _ h
 obtain⟨n,r,s1,s2,a1,a2,a3,a4⟩:=wp_halts_full (M:=model prog w) (R:=R) hreg h2;exact⟨n,r,s2,s1,a2,a1,a3,a4⟩
theorem dW{c:ClaimW}{tree:List Value→Sem PySem.Fin}{w:World}{s:Shared}{free:Addr→Prop}{gens:Prop}{kept:Heap→Prop}(hz:s.asleep)(hgens:s.gens=#[])
 (hspec:∀args,c.pre args=true→WData.layableAll args=true→∀ord:List DictEntry→List DictEntry,(∀l,(ord l).Perm l) →
   ∃vs s₁,layAllW c.records (classAt s.heap) w.params ord args s=some (vs,s₁) ∧
    Sem.wp (model c.prog w) G0 (tree vs) (fun fin _ s'=>∃f,fin=PySem.Fin.done f∧(c.Ends s args vs s₁ (.ok f) s'∧s'.os=s.os∧AllBare s'.gens∧kept s'.heap))
     (fun e _ s'=>c.Ends s args vs s₁ (.error e) s'∧s'.os=s.os∧AllBare s'.gens∧kept s'.heap) default s₁) :
  c.CallFrom (fun vs=>⟨tree vs,.builtin "claim.caller" {},default,[]⟩) w free gens kept s:=by
 intro args hpre hlay ord hord;obtain⟨vs,s₁,hlaid,code⟩:=hspec args hpre hlay ord hord;have al:=layAllW_rest _ _ _ hlaid;obtain⟨k,r,s',s'',hrun,hsched,hfo,hcase,hos,hkp⟩:=ZQ (prog:=c.prog) (w:=w) (t:=tree vs) (s:=s₁) (R:=fun r s'=>c.Ends s args vs s₁ r s'∧s'.os=s.os∧kept s'.heap) (Shared.asleep_of_life al.2.2.2 hz)
  (Sem.wp_mono _ G0 _ (fun fin p z q=>by obtain⟨f,e,h1,h2,h3,h4⟩:=q;exact⟨f,e,⟨h1,h2,h4⟩,leftWithCleanup_false_of_bare h3⟩) (fun e p z q=>by obtain⟨h1,h2,h3,h4⟩:=q;exact⟨⟨h1,h2,h4⟩,leftWithCleanup_false_of_bare h3⟩) _ _ code)
 obtain⟨eh,_,_,eo,_⟩:=Shared.forget_eq hfo;have cs:=hcase.congr eh;rw[←eh]at hkp;rw[←eo]at hos;have life:s'.heap.life=s.heap.life:=(runN_life _ _ _ hrun).trans al.2.2.2;refine⟨vs,s₁,hlaid,k,_,s',hsched,?_,(fun _ i x hx=>by rw[hgens]at hx;simp at hx),hkp,by rw[life],Shared.rest_eq hos⟩;rcases cs with ⟨v,rfl,d1,d2,d3,d4,d5⟩|⟨e,ob,cls,rfl,d1,d2,d3,d4,d5⟩
 ·exact .inl ⟨v,rfl,d1,d2,d3,fun b o y _=>d4 b o y,d5⟩
 ·exact .inr ⟨e,ob,cls,rfl,d1,d2,d3,d4,fun b o y _=>d5 b o y⟩
abbrev O4(q:Program)(loose:List Str)(XP:(Str→Option Value)→Heap→Prop)(YP:World→Heap→Prop)(r:RowW)(d:DefRec)(kwd:List (Str×Expr)):Prop :=
 ∀(w:World) (s₀ s₁:Shared) (mg mb:Str→Option Value),Ground q loose r.records XP w s₀ mg mb s₁.heap→YP w s₁.heap→∀(a:Addr) (o:Obj) (pm cd doc dV kV:Value),s₁.heap.get? a=some o →
  o.data=.func { PySem.Calls.docDef d.name d.params d.body d.scope pm cd doc with defaults:=dV,kwdefaults:=kV}→s₁.heap.CodeRec cd d.name→Dflts mg s₁.heap d.params kwd dV kV→mg d.name=some (.ref a)→s₁.gens=#[] →
  ∀(args:List WData) (vals:List Value) (as:List Addr),r.claim.pre args=true→WData.layableAll args=true→ReadsAllW r.records (classAt s₀.heap) s₁.heap vals args as→WellAll w.params s₁.heap vals args→(∀a∈as,(a==sysModules)=false) →
   B8 (model r.prog w) callerA (.call (.ref a) ⟨vals,[]⟩) (GoodWG r.claim (classAt s₀.heap) (ExcName.means s₀.heap) args s₁) s₁
theorem TF{r:OpenRow}{q:Program}{loose:List Str}{Xt:Shared→Bool}{XP:(Str→Option Value)→Heap→Prop}{α:Type}{Yf:Shared→α}{Ya:World→α}{YP:World→Heap→Prop}{d:DefRec}{kwd:List (Str×Expr)}{N:Nat}
 (left:LeftO r.prog q loose Xt Yf Ya N)(hY:∀w s,Yf s=Ya w→YP w s.heap)(hYk:∀w h h',YP w h→(∀b o,h.get? b=some o→h'.get? b=some o)→YP w h')
 (hX:∀s,Xt s=true→XP (s.heap.nsMap mainGlobals) s.heap)(hXk:∀mg h h',XP mg h→(∀b o,h.get? b=some o→h'.get? b=some o)→XP mg h')
 (hdef:defOf q r.name=some (d,kwd))(hp:r.prog.theDef r.name=some (d.params,d.body,d.scope))(hk:kwWritten? d.params.kwonlyargs d.params.kw_defaults=some kwd)(hRf:∀s,Xt s=true→RecFacts r.records s.heap)(hwr:(!r.writes||r.records.isEmpty)=true)
 (k1:r.wellSaid=true)(ok:(chainsOk q&&opensWell r.prog&&(frees r.toRowW&&r.within.isEmpty))=true)(hb:r.prog.bare)(hw:r.toRowW.promised)
 (call:O4 q loose XP YP r.toRowW d kwd):r.Holds:=by
 obtain⟨ok1,ok2⟩:=Bool.and_eq_true_iff.mp ok;obtain⟨hch,o1⟩:=Bool.and_eq_true_iff.mp ok1;obtain⟨k5,k6⟩:=Bool.and_eq_true_iff.mp ok2;obtain⟨hsame,hu,ha,hap,hm⟩:=frees_parts k5;refine⟨k1,hw,⟨hb,o1,by show r.makers.map _=[];rw[hm];rfl⟩,hw.witness,fun w=>⟨(left.behind hX hch w).1,fun s' hs'=>?_⟩⟩;obtain⟨s₀,hf,hg0,s,hT,hz,hgens,hg,G00,y⟩:=(left.behind (XP:=fun mg h=>XP mg h∧RecFacts r.records h) (fun s hs=>⟨hX s hs,hRf s hs⟩) hch w).2 s' hs';have Gr:Ground q loose [] XP w s (s.heap.nsMap mainGlobals) (s.heap.nsMap builtinsNs) s.heap:=⟨G00.T,G00.B,G00.D,G00.TE,G00.TD,G00.W,G00.X.1,G00.cls,G00.has,G00.apart,G00.once,G00.K⟩;have RF:=G00.X.2;have hT':=hT;refine⟨s₀,hf,hg0,s,hT,(fun n hn=>by obtain rfl:n=r.name:=(by split at hn<;>simp_all);exact pinned_of_view hg Gr hdef hp hk),RF.1,RF.2.1,?_⟩;have gens0:s.gens=#[]:=Array.eq_empty_of_size_eq_zero (beq_iff_eq.mp hgens);have G:Ground q loose r.records XP w s _ _ s.heap:=RF.ground Gr;refine dW (c:=r.toRowW.claim) (tree:=Yz r.name) hz gens0 fun args hpre hlay ord hord=>?_;obtain⟨⟨vs,s₁⟩,hlaid⟩:=Option.isSome_iff_exists.mp (layAllW_isSome (P:=w.params) (ord:=ord) G.has args r.toRowW.args s (pre_splitW hpre).1);have keeps:=layAllW_keeps _ _ _ hlaid;have al:=layAllW_rest _ _ _ hlaid;obtain⟨as,hrd,hin,hold⟩:=reads_layAllW hord _ _ _ hlaid hlay s₁.heap (fun _ _ e=>e);have L:Laid r.records w s s₁ args vs as:=⟨⟨ord,hord,hlaid⟩,hrd,hin,hold,keeps,al.1.trans gens0,al.2.2.1⟩;have G₁:=G.keeps hXk keeps;obtain⟨a,o,pm,cd,doc,dV,kV,h1,h2,h3,h4,h5⟩:=G₁.fn hdef;have run:=call w s s₁ _ _ G₁ (hYk _ _ _ (hY w s y) keeps) a o pm cd doc dV kV h2 h3 h4 h5 (defOf_name hdef ▸ h1) L.gens args vs as hpre hlay L.reads L.well (L.low G.low);have hi:=ident_freeW hu ha hap;have hwi:r.toRowW.claim.within=[]:=List.isEmpty_iff.mp k6;refine⟨vs,s₁,hlaid,eA G₁.T.g h1 (Fu run fun res s' g=>?_)⟩;have z:=g.laid (c:=r.toRowW.claim) hsame hwi hi L;rcases id g.1 with ⟨v,_,_,rfl,_⟩|⟨e,_,_,rfl,_⟩
 ·exact⟨_,rfl,z.1,z.2.1,z.2.2,fun q=>⟨namesKept_of hT' hg _ keeps g.2.1.old,noTable hwr q⟩⟩
 ·exact⟨z.1,z.2.1,z.2.2,fun q=>⟨namesKept_of hT' hg _ keeps g.2.1.old,noTable hwr q⟩⟩
theorem Vm{P:Program}{w:World}{K:PySem.W.Frag}{mg mb:Str→Option Value}{CX:F0}{k:Nat}{fa a:Addr}{fd:FuncData}{x:Str}{sp:Sp}{s₁:Shared}{vs:List Value}{ns:List Int}
 (KX:K.In s₁.heap)(hns:s₁.heap.Ns mainGlobals mg)(hb:s₁.heap.Ns builtinsNs mb)(hbb:∀x:Str,x ≠ "__name__" → mb x=bootBuiltins x)(hlim:s₁.heap.NoLimit)(hg:s₁.gens=#[])
 (ha:s₁.heap.get? a=some { cls:=.type "list",data:=.seq vs.toArray})(hi:IntsAre vs ns)(hl:ns.length≤sizeLine)(hr:Bf k callerA)(hkt:∀H,KTb mg H)
 (F:∀base:Heap,K.In base→base.Ns mainGlobals mg→CT P w K mg base CX k fa fd [x] sp)(hbind:∀(s:Shared) (u:Value),BindsTo s fd ⟨[u],[]⟩ [(x,u)])
 (hsp:∀H:Hp,YS H→BI K H a (ns.map V.int)→sp [.ref a] H (fun v _=>v=.bl true) fun _ _ _=>False)
 (hCX:∀H e s',CX [] H s₁ (fun _ _ _=>False) e s'→False) :
  B8 (model P w) callerA (.call (.ref fa) ⟨[.ref a],[]⟩) (fun r s'=>r=.ok (.ret (.bool true))∧OldK s₁.heap s'.heap∧s'.os=s₁.os∧AllBare s'.gens) s₁:=by
 have rv:=QJ hi;have lenV:=hi.length;have core:∀H:Hp,YS H→BI K H a (ns.map V.int)→D6 P w H s₁.heap→(∀b,H b≠none→b=a)→(H a≠none→K.lookup a=none) →
   B8 (model P w) callerA (.call (.ref fa) ⟨[.ref a],[]⟩) (fun r s'=>r=.ok (.ret (.bool true))∧OldK s₁.heap s'.heap∧s'.os=s₁.os∧AllBare s'.gens) s₁:=by
  intro H hO hS A7 hA hK;have base_of:∀ {b:Addr} {o:Obj},s₁.heap.get? b=some o→H b=none→(LF s₁.heap H).get? b=some o:=fun e n=>Xg e n;have noA:∀ {b:Addr} {o:Obj} {es:Array DictEntry} {ep:Nat},s₁.heap.get? b=some o→o.data=.dict es ep→H b=none:=fun {b o es ep} e d=>by
   cases q:H b with
   |none=>rfl
   |some u =>
    have e':b=a:=hA b (by rw[q];simp);subst e';rw[ha]at e;cases e;have d':Data.seq vs.toArray _=Data.dict es ep:=d;cases d'
  have nsK:∀ {b:Addr} {m:Str→Option Value},s₁.heap.Ns b m→(LF s₁.heap H).Ns b m:=fun {b m} ⟨o,es,ep,e,d,r⟩=>⟨o,es,ep,base_of e (noA e d),d,r⟩;have hKb:K.In (LF s₁.heap H):=fun b o e=>base_of (KX b o e) (by
   cases q:H b with
   |none=>rfl
   |some u =>
    have e':b=a:=hA b (by rw[q];simp);subst e';rw[hK (by rw[q];simp)]at e;cases e)
  have hM:Mod K mg (LF s₁.heap H):=⟨hKb,nsK hns,⟨mb,nsK hb,hbb⟩,let⟨mc,h1,h2⟩:=hlim;⟨mc,nsK h1,h2⟩⟩;have e0:Q3 P w K mg (LF s₁.heap H) callerA [] s₁ H:=⟨rfl,hM,fun b o e=>Zh e,Nat.le_of_eq (V0 _ _),trivial,fun b hb=>absurd (show b∈([]:List Addr) from hb) (by simp),A7,.of_eq hg,hkt H⟩;refine Fu ((F _ hKb (nsK hns)).run callerA [] s₁ H ⟨[.ref a],[]⟩ [.ref a] [.ref a] _ _ hr e0 (hbind s₁ (.ref a)) (.cons rfl .nil) (hsp H hO hS)) fun r s' h=>?_;cases r with
  |error e=>exact(hCX H e s' h).elim
  |ok fl =>
   cases fl with
   |next=>exact False.elim h
   |brk=>exact False.elim h
   |cont=>exact False.elim h
   |ret u =>
    obtain⟨v,H',os,bare,un,hok',r',q⟩:=h;have q':v=.bl true:=q;subst q';obtain rfl:u=Value.bool true:=r';refine⟨rfl,OldK.of_keep fun b o e=>?_,os,bare⟩;cases q:H b with
    |none=>exact un.keep b o e q (by intro z;exact absurd (show b∈([]:List Addr) from z) (by simp)) (by simp)
    |some u =>
     rcases hO b with z|⟨ob,xs,z⟩
     ·rw[q]at z;cases z
     ·have z2:=un.Eo b ob _ z;obtain⟨e1,_⟩:=A7 b _ z;obtain⟨e2,_⟩:=hok' b _ z2;rw[e]at e1;cases e1;exact e2
 cases hk:K.lookup a with
 |some o =>
  have e:=KX a o hk;rw[ha]at e;cases e;refine core (fun _=>none) (fun _=>.inl rfl) (.inr ⟨_,vs.toArray,_,hk,rfl,rfl,rfl,by rw[List.size_toArray,lenV];exact hl,by simpa using rv⟩) (fun b u z=>by have z':(none:Option HO)=some u:=z;cases z') (fun b z=>absurd rfl z) fun z=>absurd rfl z
 |none =>
  refine core (fun b=>if b=a then some (.E1 { cls:=.type "list",data:=.seq vs.toArray} (.lst (ns.map V.int))) else none) (fun b=>?_) (.inl (.inr ⟨{ cls:=.type "list",data:=.seq vs.toArray},if_pos rfl⟩)) (fun b u z=>?_) (fun b z=>?_) fun _=>hk
  ·by_cases hb:b=a
   ·exact .inr ⟨_,_,if_pos hb⟩
   ·exact .inl (if_neg hb)
  ·by_cases hb:b=a
   ·have z':=(if_pos hb).symm.trans z;cases z';subst hb;exact⟨ha,by rw[List.length_map];exact hl,vs,_,rv,ha⟩
   ·have z':=(if_neg hb).symm.trans z;cases z'
  ·by_cases hb:b=a
   ·exact hb
   ·exact absurd (if_neg hb) z
open PySem PySem.W PySem.Calls PyProof.Rows Att
theorem Sn{l:OpenLaw}{n:Nat}{q:Program}{loose:List Str}{XP:(Str→Option Value)→Heap→Prop}{YP:World→Heap→Prop}{d:DefRec}
 (hn:l.most=some n)(hdf:d.params.defaults=[])
 (call:∀(w:World) (s₀ s₁:Shared) (mg mb:Str→Option Value) (fa:Addr) (o:Obj) (pm cd doc:Value) (a:Addr) (vs:List Value) (ns:List Int),
   Ground q loose [] XP w s₀ mg mb s₁.heap→YP w s₁.heap →
   s₁.heap.get? fa=some o→o.data=.func (docDef d.name d.params d.body d.scope pm cd doc)→s₁.heap.CodeRec cd d.name→mg d.name=some (.ref fa) →
   s₁.heap.get? a=some { cls:=.type "list",data:=.seq vs.toArray}→IntsAre vs ns→ns.length≤n→s₁.gens=#[] →
   B8 (model l.prog w) callerA (.call (.ref fa) ⟨[.ref a],[]⟩) (fun r s'=>r=.ok (.ret (.bool true))∧OldK s₁.heap s'.heap∧s'.os=s₁.os∧AllBare s'.gens) s₁) :
  O4 q loose XP YP l.row.toRowW d []:=by
 intro w s₀ s₁ mg mb G Y fa o pm cd doc dV kV ho hd hcd hD hmg hg args vals as hpre hlay hrd hwl hlo;obtain rfl:dV=.none:=Dflts.none hD hdf;obtain rfl:kV=.none:=Dflts.noKw hD;obtain⟨a,vs,ns,rfl,rfl,hobj,hints,hlen⟩:=W8 hn hpre hwl;refine Fu (call w s₀ s₁ mg mb fa o pm cd doc a vs ns G Y ho (fd_plain hd) hcd hmg hobj hints hlen hg) fun r s' hq=>?_;obtain⟨rfl,h2,h3,h4⟩:=hq;exact⟨.inl ⟨.bool true,.bool true,[],rfl,fun _=>rfl,.bool true,WS l _,fun _=>⟨List.Pairwise.nil,fun _ hm=>(nomatch hm)⟩⟩,h2,h3,h4⟩
theorem XU{l:PySem.W.OpenLaw}{n k:Nat}{q:Program}{loose:List Str}{XP:(Str→Option Value)→Heap→Prop}{YP:World→Heap→Prop}{d:DefRec}{K:Params→PySem.W.Frag}{CX:World→F0}{sp:World→Sp}{x:Str}
 (hn:l.most=some n)(hn2:n≤sizeLine)(hdf:d.params.defaults=[])(hr:Bf k callerA)(hkt:∀(w:World) (mg:Str→Option Value) (h:Heap),(K w.params).In h→h.Ns mainGlobals mg→∀H,KTb mg H)
 (hY:∀(w:World) (h:Heap),YP w h→(K w.params).In h)
 (F:∀(w:World) (mg:Str→Option Value) (fa:Addr) (h:Heap),(K w.params).In h→h.Ns mainGlobals mg→mg d.name=some (.ref fa) →
   ∃fd:FuncData,(∀(s:Shared) (u:Value),BindsTo s fd ⟨[u],[]⟩ [(x,u)]) ∧
    ∀base:Heap,(K w.params).In base→base.Ns mainGlobals mg→CT l.prog w (K w.params) mg base (CX w) k fa fd [x] (sp w))
 (hsp:∀(w:World) (H:Hp) (a:Addr) (ns:List Int),ns.length≤n→YS H→BI (K w.params) H a (ns.map V.int)→sp w [.ref a] H (fun v _=>v=.bl true) fun _ _ _=>False)
 (hCX:∀(w:World) (H:Hp) (s:Shared) (e:Value) (s':Shared),CX w [] H s (fun _ _ _=>False) e s'→False) :
  O4 q loose XP YP l.row.toRowW d []:=by
 refine Sn hn hdf fun w s₀ s₁ mg mb fa o pm cd doc a vs ns G Y ho hd hcd hmg hobj hints hlen hg=>?_;have KX:=hY w _ Y;obtain⟨fd,hb,hF⟩:=F w mg fa _ KX G.T.g hmg;exact Vm (hkt:=hkt w mg _ KX G.T.g) KX G.T.g G.T.b G.T.builtins G.T.nolimit hg hobj hints (aH hlen hn2) hr hF hb (fun H hO hS=>hsp w H a ns hlen hO hS) fun H e s'=>hCX w H s₁ e s'
def A5(x:Str):Bool:=x.cps.toList.all (· < 128)
def UD(i:Nat):TS:=fun D σ H=>∃x,σ[i]? = some (some (.str x))∧x.length≤640∧A5 x=true∧D.rt (match PySem.intText? x with|some n=>.int n|none=>.BM) H
section
variable{X:Cx}{i:Nat}{wn:Str}{p1 p2 p3 p4 p5 np pc pr hpos:Pos}{kc:Nat}
theorem WZ(hi:X.N[i]? = some wn)(hv:X.env.scope.names.lookup wn=some .local)(hgI:Gl X "int")(hmI:X.mg "int" = none)(hg:Gl X "ValueError")(hm:X.mg "ValueError" = none)(hcalm:X.calm=true)(hstk:∃rest,X.stack=X.env::rest)(hfr:X.env.frame=some X.env.locals)
 (hd:(wn==("__debug__" : Str))=false:=by decide)(hcd:(wn==("__classdict__" : Str))=false:=by decide) :
  RS X (.Try [.Return (some (.Call (.Name "int" p1) [.Name wn p2] [] p3)) p4] [.ExceptHandler (some (.Name "ValueError" np)) none [.Return (some (.Constant .none kc pc)) pr] hpos] [] [] p5) (UD i):=by
 intro pins s σ H D I ⟨x,ex,hl,ha,q⟩;refine K3 ?_;rw[execs_cons,exec_Return_some];refine C6 (Ag (aZ (C6 ?_)));rw[arm_eval_Call_Name'];refine Ag (Je I hgI hmI aq ?_);have ha1:PA X.DV [.Name wn p2] (LK (D0 i) Rh):=AM (X:=X.DV) (SS (X:=X.DV) hi (.inl hv) hd hcd) Af;have h1:=ha1 p3 pins s σ H (fun vs H1=>vs=[.str x]∧H1=H) (I.Ds _) ⟨_,ex,rfl,rfl⟩;show BL _ _ (callWith p3 (.type "int") [] (backTo p3 (starEach [.Name wn p2] X.env)) []) _ _ s;have he:backTo p3 (starEach [.Name wn p2] X.env)=[(false,eval (.Name wn p2) X.env)]:=rfl;rw[he];have h2:wpAny (model X.prog X.w) X.A (spliced [(false,eval (.Name wn p2) X.env)]) (fun us s1=>∃u,us=[.str x u]∧Inv X pins σ H s1) (fun _ _=>False) s:=by
  refine aK (show wpAny (model X.prog X.w) X.A (spliced [(false,eval (.Name wn p2) X.env)]) _ _ s from h1) (fun us s1 ⟨vs,H1,I1,r,e1,e2⟩=>?_) fun _ _ z=>z;subst e1 e2;cases r with
  |cons r1 r2=>cases r2;obtain⟨u,rfl⟩:=r1;exact⟨u,rfl,I1.Cp⟩
 unfold callWith evalArgs;refine Bs (Dn (Ag (aK h2 (fun us s1 ⟨u,e1,I1⟩=>?_) fun _ _ z=>z.elim)));subst e1;refine Ag (aD ?_);refine Dn (Ag (aD (BZ (aD (?_:BL _ _ _ _ _ _)))));refine Ag (aZ ?_);simp only[List.any_cons,List.any_nil,Bool.or_false,Bool.false_or];refine Ag (aD ?_);cases hn:PySem.intText? x with
 |some n =>
  rw[hn]at q;refine BZ (aC (PySem.W.KIN.call_text hn hl (aC (ak (wpAny_point (aD (aD (aD ?_))))))));exact⟨.int n,σ,H,I1.tok _,⟨_,rfl⟩,q⟩
 |none =>
  rw[hn]at q;have hx:(reprText x).length≤sizeLine:=by
   refine aH (PySem.StrLaws.reprText_len x fun c hc=>aG (ag (ae.mp ha c hc)) (by decide)) (aH (Nat.add_le_add_right (Nat.mul_le_mul_left 10 hl) 2) (by decide))
  refine Bs (Gf (Q:=fun _ _=>False) (X4 (I.ok.hd hcalm) hl hx hn fun h' e m mk=>?_) fun _ _ z=>z.elim);exact Z8 I1 mk hstk hfr hg hm q
end
abbrev Tg(i:Nat):DF:=fun δ=>(nm i δ).bind fun d=>match d with
 |.str x=>if x.length≤640∧A5 x=true then some (.rt (match PySem.intText? x with|some n=>.int n|none=>.none)) else none
 |_=>none
theorem W7{X:Cx}{i:Nat}{st:Stmt}(h:RS X st (UD i)):K5 X st (Tg i):=⟨_,h,fun δ r hz G0 H0 G H σ D R q=>by
 obtain⟨d,h1,h2⟩:=aA.mp hz;split at h2
 ·rename_i x;split at h2
  ·rename_i hc;cases h2;obtain⟨v,k1,k2⟩:=R.dat _ _ (QZ h1);rw[Du]at k2;subst k2;refine⟨x,k1,hc.1,hc.2,q _ G H R.ext R.new R.ins R.keep ?_⟩;cases PySem.intText? x<;>rw[Du]
  ·cases h2
 ·cases h2⟩
end L2
set_option maxHeartbeats 2000000
namespace L2
open PySem PySem.Spec PyProof.Rows
section
variable{X:Cx}{a e:Expr}{f g h:Dv→Option PyData}{cp ap:Pos}{y:Str}
def bV:V→List V→Hp→VK→Prop:=fun x xs H Q=>∃(s y:Str) (n:Nat) (r:List Nat),x=.str s∧xs=[.str y]∧Builtin.Str.occurrences s y 0 s.length 1=n::r∧Q (.int n) H
theorem Wf:SR X "str.index" bV:=by
 intro pins s σ H x xs v us Q I rx rv h;obtain⟨z,y,n,r,rfl,rfl,ho,h⟩:=h;obtain⟨t,rfl⟩:=rx;obtain⟨u,rfl,t',rfl⟩:=Vals.one rv;exact call_gives PySem.F.slot_str_index rfl PySem.F.entry_str_index (PySem.F.args_str_index_2 _ _) (gives_str_index z y t t' n r ho) (show(Made.int n).post _ s from⟨.int n,H,I.tok _,⟨_,rfl⟩,h⟩)
def Kj:PyData→PyData→Option PyData:=fun x y=>match x,y with
 |.str s,.str t=>(match Builtin.Str.occurrences s t 0 s.length 1 with|n::_=>some (.int n)|[]=>none)
 |_,_=>none
theorem Vo(ho:DE X a f)(ha:DE X e g)
 (hbase:attributeBase a "index" X.env (eval a X.env)=eval a X.env:=by rfl)
 (hfew:((backTo cp (starEach [e] X.env)).all (fun x=>!x.1)&&(backToKw cp (keywordEach [] X.env)).all (fun x=>x.1.isSome)
   && decide (([e]:List Expr).length+([]:List Keyword).length+(if([]:List Keyword).isEmpty then 0 else 1)<30))=true:=by rfl)
 (hline:(ap.endLine==cp.line)=true:=by rfl)(hs:starEach [e] X.env=(false,eval e X.env)::starEach [] X.env:=by rfl)(hplain:(backTo cp (starEach [] X.env)).any (·.1)=false:=by rfl) :
  DE X (.Call (.Attribute a "index" ap) [e] [] cp) (AE Kj f g):=by
 obtain⟨to,po,ko⟩:=ho;obtain⟨ta,pa,ka⟩:=ha;refine⟨_,Fl bF PySem.F.slot_str_index PySem.F.type_str_index Wf po (AM pa Af hs) hbase hfew hline hs hplain,fun δ z hz G0 H0 G H σ ts Q R0 k=>?_⟩;obtain⟨x,y,h1,h2,h3⟩:=two (x:=.none) (y:=.none) hz;refine ko δ x h1 G0 H0 G H σ ts _ R0 fun u G1 H1 R1=>?_;have du:=R1.BE (x,u) (.head _);unfold Kj at h3;split at h3
 ·split at h3
  ·rename_i s t n r hc;cases h3;rw[Du]at du;subst du;refine⟨rfl,ka δ _ h2 G0 H0 G1 H1 σ _ _ R1 fun v G2 H2 R2=>?_⟩;have dv:=R2.BE (_,v) (.head _);rw[Du]at dv;subst dv;exact⟨_,_,n,r,rfl,rfl,hc,k _ _ _ (R2.drop.drop.put (by rw[Du]))⟩
  ·cases h3
 ·cases h3
end
section
variable{X:Cx}{a e:Expr}{f g h:Dv→Option PyData}{i j k:Nat}{x y:Str}{np ap cp pos pos':Pos}
abbrev Qs(i:Nat)(g f:Dv→Option PyData):DF:=fun δ=>(g δ).bind fun n=>(f δ).bind fun y=>(ow i δ).bind fun xs=>match n with
 |.int n=>if 0≤n∧n.toNat≤xs.length∧xs.length<1000 then some (.nx (δ.set i (.own (.lst (xs.take n.toNat++y::xs.drop n.toNat))))) else none
 |_=>none
theorem Px(hv:PE X (.Name x np) (D0 i))(ha:DE X a g)(he:DE X e f)
 (hP:∀ {to:TE} {t:TA},PE X (.Name x np) to→PA X [a,e] t→PS X (.Expr (.Call (.Attribute (.Name x np) "insert" ap) [a,e] [] cp) pos) (LW (XE X.K "list" Ti to t)))
 (hs1:starEach [a,e] X.env=(false,eval a X.env)::starEach [e] X.env:=by rfl)(hs2:starEach [e] X.env=(false,eval e X.env)::starEach [] X.env:=by rfl) :
  DS X (.Expr (.Call (.Attribute (.Name x np) "insert" ap) [a,e] [] cp) pos) (Qs i g f):=by
 obtain⟨ta,pa,ka⟩:=ha;obtain⟨te,pe,ke⟩:=he;refine⟨_,hP hv (AM pa (AM pe Af hs2) hs1),fun δ r hz G0 H0 G H σ D R q=>?_⟩;obtain⟨n',h1,w1⟩:=aA.mp hz;obtain⟨z,h2,w2⟩:=aA.mp w1;obtain⟨xs,h3,w3⟩:=aA.mp w2;clear hz w1 w2;split at w3
 ·rename_i n;split at w3
  ·rename_i hc;cases w3;have hi:=Ir h3;obtain⟨A,_,k1,k2,k3,k4,⟨ys,rfl,k5⟩⟩:=R.own i _ hi;refine⟨.ref A,k1,.inl ⟨rfl,ys,BI.of k4⟩,?_⟩;refine ka δ _ h1 G0 H0 G H σ [] _ R fun u G1 H1 R1=>?_;refine ke δ _ h2 G0 H0 G1 H1 σ _ _ R1 fun v G2 H2 R2=>?_;have dn:=R2.BE (.int n,u) (.tail _ (.head _));rw[Du]at dn;subst dn;obtain⟨A',_,m1,m2,m3,m4,⟨zs,rfl,m5⟩⟩:=R2.own i _ hi;rw[k1]at m1;cases m1;refine⟨A,zs,v,n,n.toNat,rfl,rfl,(Int.toNat_of_nonneg hc.1).symm,m4,by rw[m5.len];exact hc.2.1,by rw[m5.len];exact hc.2.2,?_⟩;exact q _ _ _ (R2.drop.drop.Oq hi k1 ⟨_,rfl,(m5.take _).app (.cons (R2.BE _ (.head _)) (m5.drop _))⟩)
  ·cases w3
 ·cases w3
theorem Ax.erase{H:Hp}:∀ {ds:List PyData} {xs:List V} (n:Nat),Ax H ds xs→Ax H (ds.eraseIdx n) (xs.eraseIdx n)
 |[],_,_,h=>by rw[h.nil_eq];exact .nil
 |_::_,_,0,h=>by obtain⟨x,r,rfl,_,h2⟩:=h.un;exact h2
 |_::_,_,n+1,h=>by obtain⟨x,r,rfl,h1,h2⟩:=h.un;exact .cons h1 (h2.erase n)
abbrev V7(i:Nat)(g:Dv→Option PyData):DF:=fun δ=>(g δ).bind fun n=>(ow i δ).bind fun xs=>match n with
 |.int n=>if 0≤n∧n.toNat<xs.length∧xs.length<1000 then some (.nx (δ.set i (.own (.lst (xs.eraseIdx n.toNat))))) else none
 |_=>none
theorem Xx(hv:PE X (.Name x np) (D0 i))(ha:DE X a g)
 (hP:∀ {to:TE} {t:TA},PE X (.Name x np) to→PA X [a] t→PS X (.Expr (.Call (.Attribute (.Name x np) "pop" ap) [a] [] cp) pos) (LW (XE X.K "list" Vp to t)))
 (hs1:starEach [a] X.env=(false,eval a X.env)::starEach [] X.env:=by rfl):DS X (.Expr (.Call (.Attribute (.Name x np) "pop" ap) [a] [] cp) pos) (V7 i g):=by
 obtain⟨ta,pa,ka⟩:=ha;refine⟨_,hP hv (AM pa Af hs1),fun δ r hz G0 H0 G H σ D R q=>?_⟩;obtain⟨n',h1,w1⟩:=aA.mp hz;obtain⟨xs,h3,w3⟩:=aA.mp w1;clear hz w1;split at w3
 ·rename_i n;split at w3
  ·rename_i hc;cases w3;have hi:=Ir h3;obtain⟨A,_,k1,k2,k3,k4,⟨ys,rfl,k5⟩⟩:=R.own i _ hi;refine⟨.ref A,k1,.inl ⟨rfl,ys,BI.of k4⟩,?_⟩;refine ka δ _ h1 G0 H0 G H σ [] _ R fun u G1 H1 R1=>?_;have dn:=R1.BE (.int n,u) (.head _);rw[Du]at dn;subst dn;obtain⟨A',_,m1,m2,m3,m4,⟨zs,rfl,m5⟩⟩:=R1.own i _ hi;rw[k1]at m1;cases m1;have hl:n.toNat<zs.length:=by rw[m5.len];exact hc.2.1
   have hb:=m5.len;refine⟨A,zs,n,n.toNat,zs[n.toNat],rfl,rfl,m4,by lia,by lia,?_,by simp[hl],?_⟩
   ·unfold seqIndex?;have e1:¬n<0:=by lia
    simp[e1];lia
   ·exact q _ _ _ (R1.drop.Oq hi k1 ⟨_,rfl,m5.erase _⟩)
  ·cases w3
 ·cases w3
abbrev Y7(i j k:Nat):DF:=fun δ=>(ow i δ).bind fun xs=>(nm j δ).bind fun p=>(nm k δ).bind fun q=>match p,q with
 |.int p,.int q=>if 0≤p∧0≤q then(match xs[p.toNat]?,xs[q.toNat]? with|some u,some v=>some (.nx (δ.set i (.own (.lst ((xs.set p.toNat v).set q.toNat u)))))|_,_=>none) else none
 |_,_=>none
theorem Ax.some{H:Hp}{ds:List PyData}{xs:List V}{n:Nat}{d:PyData}(h:Ax H ds xs)(e:ds[n]? = some d):∃v,xs[n]? = some v∧Du H d v:=h.get e
theorem a9{st:Stmt}(hP:PS X st (Jj (fK (LK (P7 (VL X.K) (D0 i) (D0 k)) (LK (P7 (VL X.K) (D0 i) (D0 j)) Rh))) (eC X.K 2 (VZ (Uk (D0 i) (D0 j) Qi) (VZ (Uk (D0 i) (D0 k) Qi) fy))))):DS X st (Y7 i j k):=by
 refine⟨_,hP,fun δ r hz G0 H0 G H σ D R q=>?_⟩;obtain⟨xs,h1,w1⟩:=aA.mp hz;obtain⟨p',h2,w2⟩:=aA.mp w1;obtain⟨q',h3,w3⟩:=aA.mp w2;clear hz w1 w2;split at w3
 ·rename_i m n;split at w3
  ·rename_i hc;split at w3
   ·rename_i u v hu hv;cases w3;have hi:=Ir h1;obtain⟨A,_,k1,k2,k3,k4,⟨ys,rfl,k5⟩⟩:=R.own i _ hi;obtain⟨vm,e1,d1⟩:=R.dat _ _ (QZ h2);obtain⟨vn,e2,d2⟩:=R.dat _ _ (QZ h3);rw[Du]at d1 d2;subst d1 d2;obtain⟨a1,b1,c1⟩:=k5.some hu;obtain⟨a2,b2,c2⟩:=k5.some hv;have l1:m.toNat<ys.length:=(aE.mp b1).1;have l2:n.toNat<ys.length:=(aE.mp b2).1;have ix1:∀ {t:Int} {N:Nat},0≤t→t.toNat<N→HU N t=some t.toNat:=fun {t N} h0 hl=>by unfold HU;rw[if_pos h0,if_pos (by lia)]
    have JX:∀ {t:Int} {w:V},0≤t→ys[t.toNat]? = some w→C3 ys t=some w:=fun {t w} h0 hw=>by unfold C3;rw[ix1 h0 (aE.mp hw).1];exact hw
    refine⟨_,k1,_,e2,A,ys,n,a2,rfl,rfl,BI.of k4,JX hc.2 b2,?_⟩;refine⟨_,k1,_,e1,A,ys,m,a1,rfl,rfl,BI.of k4,JX hc.1 b1,?_⟩;refine⟨show 2≤sizeLine by decide,fun p hp=>?_⟩;have hpA:A≠p:=fun z=>by subst z;rw[k4]at hp;cases hp
    have R2:=R.newObj (o:=.tup [a2,a1]) hp;refine⟨p,[a2,a1],rfl,CS.of Ad,rfl,?_⟩;refine⟨_,_,rfl,_,k1,_,e1,A,ys,m,m.toNat,rfl,rfl,by rw[AW hpA];exact k4,?_,?_⟩
    ·exact ix1 hc.1 l1
    refine⟨_,_,rfl,_,k1,_,e2,A,ys.set m.toNat a2,n,n.toNat,rfl,rfl,Ad,?_,rfl,?_⟩
    ·exact ix1 hc.2 (by rw[List.length_set];exact l2)
    rw[ZO];have c2':Du (upd G p (.tup [a2,a1])) v a2:=c2.same (BP (by
     cases z:G p with
     |none=>rfl
     |some o=>rw[R.ins _ _ z]at hp;cases hp) _)
    have c1':Du (upd G p (.tup [a2,a1])) u a1:=c1.same (BP (by
     cases z:G p with
     |none=>rfl
     |some o=>rw[R.ins _ _ z]at hp;cases hp) _)
    obtain⟨A',_,m1,m2,m3,m4,⟨zs,rfl,m5⟩⟩:=R2.own i _ hi;rw[k1]at m1;cases m1;rw[AW hpA,k4]at m4;cases m4;exact q _ _ _ (R2.Oq hi k1 ⟨_,rfl,(m5.set c2' _).set c1' _⟩)
   ·cases w3
  ·cases w3
 ·cases w3
theorem Sx(ho:DE X a f)(ha:DE X e g)(hN:X.N.Nodup)(hi':X.N[i]? = some y)(hx:Loc X.env.scope y)
 (hP:∀ {to te:TE},PE X a to→PE X e te→PE X (.Call (.Attribute a "split" ap) [e] [] cp) (XE X.K "str" WV to (LK te Rh)))
 (hs:swapsWith (.Call (.Attribute a "split" ap) [e] [] cp) (some (.Name y pos')) pos.line X.env=pure false:=by rfl)(hf:X.fn y=true∨X.env.scope.names.lookup y=some .local:=by first|exact .inl rfl|exact .inr rfl|assumption) :
  DS X (.Assign [.Name y pos'] (.Call (.Attribute a "split" ap) [e] [] cp) pos) (Mc i (AE Ca f g)):=by
 obtain⟨to,po,ko⟩:=ho;obtain⟨te,pe,ke⟩:=ha;refine⟨_,Bp hN hi' hx (hP po pe) hs hf,fun δ r hz G0 H0 G H σ D R q=>?_⟩;obtain⟨z,h1,h2⟩:=aA.mp hz;obtain⟨x,y,h3,h4,h5⟩:=two (x:=.none) (y:=.none) h1;refine ko δ x h3 G0 H0 G H σ [] _ R fun u G1 H1 R1=>?_;have du:=R1.BE (x,u) (.head _);unfold Ca at h5;split at h5
 ·split at h5
  ·rename_i hc;cases h5;cases h2;rw[Du]at du;subst du;refine⟨rfl,ke δ _ h4 G0 H0 G1 H1 σ _ _ R1 fun v G2 H2 R2=>?_⟩;have dv:=R2.BE (_,v) (.head _);rw[Du]at dv;subst dv;exact⟨_,_,rfl,rfl,hc.1,hc.2,fun p hp=>q _ _ _ (R2.drop.drop.OM ⟨_,rfl,N0 _⟩ hp)⟩
  ·cases h5
 ·cases h5
end
def cw(x:Str):It:=⟨fun i _=>i<x.length,fun i H v H'=>H'=H∧∃c,x.cps[i]? = some c∧v=.str ⟨#[c]⟩,fun i _=>x.length≤i⟩
theorem Wo{P:Program}{w:World}{K:PySem.W.Frag}{tg:Expr}(it:Addr)(x:Str)(t:Tok):Turn P w K tg (cw x) [it] it (fun i h=>h.IsStrIter it "str_ascii_iterator" x t i) where
 mem:=by simp
 obj:=fun i h st b hb=>by
  have e:b=it:=by simpa using hb
  subst e;obtain⟨o,e,c,d⟩:=st;exact⟨o,e,fun v z=>by rw[d]at z;cases z⟩
 keep:=fun i h h' st k=>let⟨o,e,r⟩:=st;⟨o,k it (by simp) o e,r⟩
 item:=by
  intro X hP hw hK hc i pins s σ H E I hf st hg;subst hP hw hK;obtain⟨f0,f1,f2,f3,f4,f5⟩:=hf it (by simp);have hg':i<x.cps.size:=hg;refine wpAny_pyNext_ascii_item st (c:=x.cps[i]) (by simp[hg']) fun h' st' sb=>?_;have I1:Inv X pins σ H {s with heap:=h',toks:=s.toks+1}:=I.turned (t':=s.toks+1) (fun b o hb e=>(sb.2 b hb).trans e) f0 f1 f3 f4 f5;obtain⟨o,e,c,d⟩:=id st';exact⟨_,rfl,Qa (s:={s with heap:=h',toks:=s.toks+1}) e c d (by decide) ⟨.str ⟨#[x.cps[i]]⟩,H,I1,⟨_,rfl⟩,⟨rfl,_,by simp[hg'],rfl⟩,st',fun b hb=>(hf b hb).1⟩⟩
 done:=by
  intro X hP hw hK hc i pins s σ H E I hf st hg;subst hP hw hK;obtain⟨f0,f1,f2,f3,f4,f5⟩:=hf it (by simp);have hg':x.cps.size≤i:=hg;exact wpAny_pyNext_ascii_end (I.ok.hd hc) st (by simp[hg']) fun h' eb=>⟨rfl,I.turned (t':=s.toks) (fun b o hb e=>eb b o hb e) f0 f1 f3 f4 f5⟩
 self:=fun _ _ _ _ _ st h=>wpAny_pyIter_striter_ascii st h
section
variable{X:Cx}{tg b e l:Expr}{f:Dv→Option PyData}{tl:TE}
def iy(tl:TE):TI:=fun σ H R=>tl σ H fun v H1=>∃x,v=.str x∧A5 x=true∧R (cw x) H1
theorem df(hl:PE X l tl):PI X tg l (iy tl):=by
 intro pins s σ H R I h;refine BD (hl pins s σ H _ I h) fun v s1 ⟨y,H1,I1,r1,q1⟩=>?_;obtain⟨x,rfl,ha,q⟩:=q1;obtain⟨t,rfl⟩:=r1;have ha':x.cps.all (· < 128)=true:=by rw[←Array.all_toList];exact ha
 refine wpAny_pyIter_ascii ha' ?_;refine⟨s1.heap.objs.size,[s1.heap.objs.size],_,_,H1,rfl,I1.kept (t':=s1.toks) fun b o e=>aI _ e,Wo _ x t,⟨_,Heap.get?_push_size _ rfl,rfl,rfl⟩,fun b hb=>?_,q⟩;have e:b=s1.heap.objs.size:=by simpa using hb
 subst e;exact I1.Rg (aJ _) (I1.A7.fresh (aJ _))
abbrev VF(x:Str):List PyData:=x.cps.toList.map fun c=>.str ⟨#[c]⟩
def Qc:PyData→Option (List PyData)
 |.str x=>if A5 x=true then some (VF x) else none
 |_=>none
abbrev hU(f:Dv→Option PyData):Dv→Option (List PyData):=fun δ=>(f δ).bind Qc
theorem ed{x:Str}{G:Hp}:Nx (cw x) (VF x) G where
 stop:=fun H e=>by show x.cps.size≤_;simp
 go:=fun i d H hx e=>by
  have:=(aE.mp hx).1;show i<x.cps.size
  simpa using this
 Gb:=fun i d H v H' hx e y Gc e1 e2=>by
  obtain⟨rfl,c,hc,rfl⟩:=y;refine⟨Gc,.refl _,Nw.refl,e2,.refl _,?_⟩;rw[List.getElem?_map,Array.getElem?_toList,hc]at hx;cases hx;rw[Du]
theorem cn(he:DE X e f):DI X tg e (fun δ=>(f δ).bind Qc):=by
 obtain⟨t,p,k⟩:=he;refine⟨_,df p,fun δ xs h G0 H0 G H σ ts R R0 q=>?_⟩;obtain⟨x,h1,h2⟩:=aA.mp h;unfold Qc at h2;split at h2
 ·split at h2
  ·rename_i ha;cases h2;refine k δ _ h1 G0 H0 G H σ ts _ R0 fun v G' H' R'=>?_;have du:=R'.BE _ (.head _);rw[Du]at du;subst du;exact⟨_,rfl,ha,q _ _ _ R'.drop ed⟩
  ·cases h2
 ·cases h2
def LI:List PyData→Option PyData
 |[.int i]=>if i.natAbs.log2<1920 then some (.str (Str.ofString (toString i))) else none
 |_=>none
theorem Td:IC X (.type "str") LI:=by
 refine⟨_,WA,fun xs z hz G0 H0 G H σ δ ts us Q R0 d k=>?_⟩;unfold LI at hz;split at hz
 ·split at hz
  ·rename_i i hi;cases hz;obtain⟨u,r,rfl,d1,d2⟩:=d.un;have:=d2.nil_eq;subst this;rw[Du]at d1;subst d1;exact⟨i,rfl,hi,k _ _ _ (R0.put (by rw[Du]))⟩
  ·cases hz
 ·cases hz
def FG(x:Str)(n:Nat):Str:=⟨(List.replicate n x.cps).foldl (· ++ ·) #[]⟩
theorem Rz:∀n:Nat,(List.replicate n (#[]:Array Nat)).foldl (· ++ ·) #[]=#[]
 |0=>rfl
 |n+1=>by rw[List.replicate_succ,List.foldl_cons];exact Rz n
def gn:R2:=fun u v H Q=>∃(x:Str) (n:Int),u=.str x∧v=.int n∧-1000000≤n∧n≤1000000∧x.length*n.toNat≤100000∧Q (.str (FG x n.toNat)) H
theorem Zr:Cm X (binaryOp .Mult) gn:=by
 intro pins s σ H u v u' v' Q I ru rv h;obtain⟨x,n,rfl,rfl,h1,h2,h3,q⟩:=h;obtain⟨t,rfl⟩:=ru;obtain⟨t',rfl⟩:=rv;by_cases hn:n<1
 ·refine P.mul_str_none hn (by lia) ⟨.str (FG x n.toNat),H,I.tok _,⟨s.toks,?_⟩,q⟩;rw[show n.toNat=0 by lia];rfl
 ·have hx:x.length*n.toNat≤100000:=h3;have hx1:x.length≤100000:=aH (Nat.le_mul_of_pos_right _ (by lia)) hx;refine P.mul_str (by rw[decide_eq_false (by lia),decide_eq_false (by lia)];rfl) (fun _ _=>?_) (fun _ _=>?_) ?_
  ·have:(100000:Int)≤(2^63-1) / n:=by
    rw[Int.le_ediv_iff_mul_le (by lia)];lia
   lia
  ·unfold PySem.Builtin.Str.tooLong;exact af (by rw[sizeLine_eq];lia)
  ·rw[if_neg hn];split
   ·rename_i hc;have e:FG x n.toNat=x:=by
     rcases(Bool.or_eq_true _ _).mp hc with z|z
     ·rw[beq_iff_eq.mp z];show Str.mk (#[]++x.cps)=x;rw[Array.empty_append]
     ·have z':x.cps=#[]:=Array.eq_empty_of_size_eq_zero (beq_iff_eq.mp z);have:FG x n.toNat=⟨#[]⟩:=by unfold FG;rw[z',Rz]
      rw[this,←z']
    rw[e]at q;exact⟨.str x,H,I,⟨t,rfl⟩,q⟩
   ·have hl:(FG x n.toNat).length≤sizeLine:=by
     have:∀(m:Nat) (acc:Array Nat),((List.replicate m x.cps).foldl (· ++ ·) acc).size=acc.size+x.length*m:=fun m=>by
      induction m with
      |zero=>intro acc;simp
      |succ m ih=>intro acc;rw[List.replicate_succ,List.foldl_cons,ih,Array.size_append,Nat.mul_succ];show _+x.length+_=_;lia
     show((List.replicate n.toNat x.cps).foldl (· ++ ·) #[]).size≤_;rw[this,sizeLine_eq];simp;lia
    exact⟨hl,.str (FG x n.toNat),H,I.tok _,⟨_,rfl⟩,q⟩
def N8:PyData→PyData→Option PyData:=fun x y=>match x,y with|.str x,.int n=>(if -1000000≤n∧n≤1000000∧x.length*n.toNat≤100000 then some (.str (FG x n.toNat)) else none)|_,_=>none
theorem Xc:Dj X (binaryOp .Mult) N8:=by
 refine⟨_,Zr,fun x y z hz G0 H0 G H σ δ ts u v Q R0 du dv k=>?_⟩;unfold N8 at hz;split at hz
 ·rename_i p n;split at hz
  ·rename_i hc;cases hz;have e1:u=.str p:=by rw[Du]at du;exact du
   have e2:v=.int n:=by rw[Du]at dv;exact dv
   exact⟨p,n,e1,e2,hc.1,hc.2.1,hc.2.2,k _ _ _ (R0.put (by rw[Du]))⟩
  ·cases hz
 ·cases hz
def KD:PyData→PyData→Option PyData:=D7 FU N8
theorem Kl:Dj X (binaryOp .Mult) KD:=Fb.or Xc
end
end L2
set_option maxHeartbeats 4000000
namespace Q79
open PySem L2
abbrev GJ:Stmt:=top 15
abbrev FI:Stmt:=top 16
abbrev Lb:Stmt:=top 17
abbrev FV:Stmt:=top 18
abbrev JA:Stmt:=top 21
abbrev F4:Stmt:=top 22
abbrev LR:Stmt:=top 23
abbrev GL:Stmt:=top 26
abbrev JW:Stmt:=top 27
abbrev FK:Stmt:=top 28
abbrev GP:Stmt:=top 29
abbrev IX:Stmt:=top 30
abbrev Hl:Stmt:=top 31
abbrev LH:Stmt:=top 32
abbrev Fy:Stmt:=top 34
abbrev HB:Stmt:=top 35
abbrev KY:Stmt:=top 36
abbrev Ef:Stmt:=top 37
abbrev Li:Stmt:=top 38
abbrev JN:Stmt:=top 40
abbrev Ka:Stmt:=top 41
abbrev LD:Stmt:=top 42
abbrev KN:Stmt:=top 43
abbrev KL:Stmt:=top 44
abbrev IT:Stmt:=top 45
abbrev HI:Stmt:=top 46
abbrev KI:Stmt:=top 47
abbrev F8:Stmt:=top 48
abbrev HR:Stmt:=top 49
abbrev JK:Stmt:=top 50
abbrev IU:Stmt:=top 51
abbrev KZ:Stmt:=top 52
abbrev F9:Stmt:=top 53
abbrev Hj:Stmt:=top 54
abbrev J6:Stmt:=top 55
theorem TZ{n:String}:Cd (.ty n)≠.none:=fun z=>nomatch z
theorem mulC{i j:Int}(h1:-18446744073709551616<j)(h2:j<18446744073709551616):Sg i j∨N4 i j:=.inl (.inr ⟨h1,h2⟩)
def d6:Sp:=fun vs H Q _=>∃a b,vs=[.int a,.int b]∧Q (.int (FM.gi a b)) H
def Ro:Sp:=fun vs H Q _=>∃t b m,vs=[.int t,.int b]∧b≠0∧m≤9000∧b.natAbs<2^m∧∀l H',AU H H'→H' l=some (.tup (Dh (Rat.divInt t b)))→Q (.ref l) H'
def ez(K:PySem.W.Frag)(op:Rat→Rat→Rat)(ok:Rat→Prop):Sp:=fun vs H Q _=>∃v w p q n,vs=[v,w]∧Rt K H p v∧Rt K H q w∧FM.Fits p n∧FM.Fits q n∧n≤4000∧ok q ∧
 ∀l H',AU H H'→H' l=some (.tup (Dh (op p q)))→Q (.ref l) H'
section
variable{P:Program}{w:World}{K:PySem.W.Frag}{mg:Str→Option Value}{base:Heap}{f g:Addr}{fd:FuncData}
theorem L3:Al ["one", "other", "greater", "lesser", "rest"] ["one", "other"] (AN FV):=⟨rfl,rfl,rfl,by decide +kernel,rfl,by decide +kernel,by decide +kernel⟩
def ic(σ:St):Nat:=match σ[3]? with|some (some (V.int l))=>l.natAbs|_=>0
theorem L5(F:Fn K mg "greatest_divisor" FV ["one", "other"] f fd)(Gz:mg "abs" = none):Ab P w K mg base Ao 1 f fd ["one", "other"] d6:=by
 have sc:=L3;refine F.F.ok (k:=0) sc (fun vs H Q E h=>?_) (fun cdv A outer s H vs Q E hr h=>?_)
 ·obtain⟨a,b,rfl,_⟩:=h
  rfl
 obtain⟨a,b,rfl,q⟩:=h;refine⟨_,(A4 (Bp (i:=2) sc.nd rfl (Or.inl rfl) (BV Jc rfl Gz bL (AM (pv 0) Af)))
 (A4 (Bp (i:=3) sc.nd rfl (Or.inl rfl) (BV Jc rfl Gz bL (AM (pv 1) Af)))
 (A4 (Sb az (Ek Qo (pv 3) Ah (Ae _))
  (A4 (Bp (i:=4) sc.nd rfl (Or.inl rfl) (Bn JI (pv 2) (pv 3)))
  (A4 (Bp (i:=2) sc.nd rfl (Or.inl rfl) (pv 3))
  (BH (Bp (i:=3) sc.nd rfl (Or.inl rfl) (pv 4))))))
 (BH (Cs (pv 2)))))),?_⟩
 refine⟨_,rfl,_,rfl,_,rfl,_,rfl,?_⟩;refine RI (fun σ H'=>∃g l r,σ=[some (.int a),some (.int b),some (.int g),some (.int l),r]∧H=H'∧Int.gcd g l=Int.gcd a b∧0≤g∧0≤l) (fun σ _=>ic σ) ?_ ?_ ?_
 ·exact⟨_,_,_,rfl,rfl,FM.TU a b,FM.abs_nonneg a,FM.abs_nonneg b⟩
 ·rintro σ H' ⟨g,l,r,rfl,rfl,hg,h0,h1⟩;refine⟨_,rfl,rfl,_,rfl,FE (fun c=>?_) (fun c=>?_)⟩
  ·have hl:l≠0:=fun z=>by subst z;simp at c
   refine⟨_,rfl,_,rfl,_,_,rfl,rfl,hl,_,rfl,_,rfl,⟨_,_,_,rfl,rfl,?_,h1,FM.fmod_nonneg hl h1⟩,?_⟩
   ·rw[FM.Qu];exact hg
   ·exact FM.Pt g l hl
  ·have hl:l=0:=by simpa using c
   subst hl;refine⟨_,rfl,?_⟩;rw[FM.Vd hg h0];exact q
 ·exact fun σ H Q Q' hq ⟨v,e,s,k,e2,q⟩=>⟨v,e,s,k,e2,hq _ _ q⟩
end
def DD:PyData→Bool
 |.tuple [.int a,.int b]=>decide (1≤b)&&(FM.gi a b==1)
 |_=>false
theorem Nd{ds:List PyData}(h:ds.length≠2∨∃d0 d1,ds=[d0,d1]∧((HL d0 && !Fv d0)=false∨(HL d1 && !Fv d1)=false)):DD (.tuple ds)=false:=by
 rcases h with h|⟨d0,d1,rfl,h⟩
 ·match ds,h with
  |[],_=>rfl
  |[a],_=>cases a<;>rfl
  |[_,_],h=>exact absurd rfl h
  |a::b::_::_,_=>cases a<;>first|rfl|(cases b<;>rfl)
 ·cases d0<;>first|rfl|(cases d1<;>first|rfl|(exfalso;rcases h with h|h<;>exact absurd h (by simp[HL,Fv])))
def Vx:Sp:=fun vs H Q _=>∃l d v,vs=[v]∧Dt l H d v∧Q (.bl (HL d && !Fv d)) H
def Wn:Sp:=fun vs H Q _=>∃l d v,vs=[v]∧Dt l H d v∧Q (.bl (DD d)) H
theorem P1{d:PyData}(h:(HL d && !Fv d)=true):∃i,d=.int i:=by
 cases d<;>first|exact⟨_,rfl⟩|(exact absurd h (by simp[HL,Fv]))|(rename_i b;cases b<;>exact absurd h (by decide))
section
variable{P:Program}{w:World}{K:PySem.W.Frag}{mg:Str→Option Value}{base:Heap}{f g1 g2:Addr}{fd gd1 gd2:FuncData}
theorem TN:Al ["thing"] ["thing"] (AN Lb):=⟨rfl,rfl,rfl,by decide +kernel,rfl,by decide +kernel,by decide +kernel⟩
theorem S7(F:Fn K mg "is_whole" Lb ["thing"] f fd)(AO:mg "isinstance" = none)(DY:mg "int" = none)(K7:mg "bool" = none):Ab P w K mg base Ao 1 f fd ["thing"] Vx:=by
 have sc:=TN;refine F.F.ok (k:=0) sc (fun vs H Q E h=>?_) (fun cdv A outer s H vs Q E hr h=>?_)
 ·obtain⟨l,d,v,rfl,_⟩:=h
  rfl
 obtain⟨l,d,v,rfl,hd,q⟩:=h;refine⟨_,(BH (Cs (OB (BV GU rfl AO aY (AM (pv 0) (AM (Gi (v:=.ty "int") rfl DY aq rfl) Af))) (SK (b8 (BV GU rfl AO aY (AM (pv 0) (AM (Gi (v:=.ty "bool") rfl K7 PyProof.Rows.boot_bool rfl) Af)))))))),?_⟩;refine⟨_,rfl,_,_,_,_,rfl,TZ,hd.ty,RC K d hd.nodict,_,rfl,FE (fun c=>⟨_,rfl,_,_,_,_,rfl,TZ,hd.ty,QI K d hd.nodict,_,rfl,?_⟩) (fun c=>?_)⟩
 ·rw[c,Bool.true_and]at q;exact q
 ·rw[Bool.eq_false_iff.mpr c,Bool.false_and]at q;exact q
theorem PB:Al ["thing"] ["thing"] (AN GJ):=⟨rfl,rfl,rfl,by decide +kernel,rfl,by decide +kernel,by decide +kernel⟩
theorem O9(F:Fn K mg "is_fraction" GJ ["thing"] f fd)(HD:Fn K mg "is_whole" Lb ["thing"] g1 gd1)(ER:Fn K mg "greatest_divisor" FV ["one", "other"] g2 gd2)
 (Ob:Ab P w K mg base Ao 1 g1 gd1 ["thing"] Vx)(Mr:Ab P w K mg base Ao 1 g2 gd2 ["one", "other"] d6)(AO:mg "isinstance" = none)(EE:mg "tuple" = none)(An:mg "len" = none):Ab P w K mg base Ao 2 f fd ["thing"] Wn:=by
 have sc:=PB;refine F.F.ok (k:=1) sc (fun vs H Q E h=>?_) (fun cdv A outer s H vs Q E hr h=>?_)
 ·obtain⟨l,d,v,rfl,_⟩:=h
  rfl
 obtain⟨l,d,v,rfl,hd,q⟩:=h;refine⟨_,(A4 (FL (PW.pt (LY (HK (HC (BV GU rfl AO aY (AM (pv 0) (AM (Gi (v:=.ty "tuple") rfl EE PyProof.Rows.boot_tuple rfl) Af))))) (Ki (Ek Qo (BV CL rfl An aN (AM (pv 0) Af)) Ah (Ae _)))))
  (BH (Cs IE))
  DQ)
 (A4 (FL (PW.pt (LY (HK (HC (EN HD Ob hr rfl (AM (CM CD (pv 0) Ah (fun _ _=>rfl)) Af)))) (Ki (HK (HC (EN HD Ob hr rfl (AM (CM CD (pv 0) Ah (fun _ _=>rfl)) Af)))))))
  (BH (Cs IE))
  DQ)
 (BH (Cs (OB (M1 Yp (CM CD (pv 0) Ah (fun _ _=>rfl)) Ah (Ae _)) (SK (M1 Us (EN ER Mr hr rfl (AM (CM CD (pv 0) Ah (fun _ _=>rfl)) (AM (CM CD (pv 0) Ah (fun _ _=>rfl)) Af))) Ah (Ae _)))))))),?_⟩
 refine⟨_,rfl,_,_,_,_,rfl,TZ,hd.ty,LX K d hd.nodict,_,rfl,?_⟩;have no:EJ d=false→DD d=false:=fun z=>by cases d<;>first|rfl|exact absurd z (by simp[EJ])
 by_cases ht:EJ d=true
 ·rw[ht];obtain⟨ds,rfl⟩:∃ds,d=.tuple ds:=by cases d<;>first|exact⟨_,rfl⟩|exact absurd ht (by simp[EJ])
  rw[Dt]at hd;obtain⟨a,xs,rfl,na,ha,hx⟩:=hd;have hlen:=hx.len;have s1:CS K H a xs:=CS.of ha;refine VX ⟨_,rfl,a,xs,rfl,.inr s1,rfl,_,rfl,FE (fun c=>?_) (fun c=>?_)⟩
  ·have:ds.length≠2:=by
    rw[←hlen];intro z;rw[z]at c;exact absurd c (by decide)
   rw[Nd (.inl this)]at q;exact q
  ·have h2:xs.length=2:=by
    by_cases z:xs.length=2
    ·exact z
    ·exfalso
     refine c ?_;have:¬(V.int (xs.length:Nat)=V.int 2):=by simp;lia
     rw[decide_eq_false this];rfl
   obtain⟨d0,d1,rfl⟩:∃d0 d1,ds=[d0,d1]:=by
    match ds,(show ds.length=2 by lia) with
    |[x,y],_=>exact⟨x,y,rfl⟩
   rw[Aj]at hx;obtain⟨x0,r,rfl,hx0,hx⟩:=hx;rw[Aj]at hx;obtain⟨x1,r,rfl,hx1,hx⟩:=hx;rw[Aj]at hx;subst hx;refine⟨_,rfl,_,_,_,_,rfl,rfl,s1,rfl,l,d0,x0,rfl,hx0,_,rfl,FE (fun c0=>?_) (fun c0=>?_)⟩
   ·rw[Nd (.inr ⟨d0,d1,rfl,.inl (by simp at c0;rcases c0 with c|c<;>simp[c])⟩)]at q;exact q
   refine⟨_,rfl,_,_,_,_,rfl,rfl,s1,rfl,l,d1,x1,rfl,hx1,_,rfl,FE (fun c1=>?_) (fun c1=>?_)⟩
   ·rw[Nd (.inr ⟨d0,d1,rfl,.inr (by simp at c1;rcases c1 with c|c<;>simp[c])⟩)]at q;exact q
   obtain⟨i,rfl⟩:=P1 (d:=d0) (by simpa using c0);obtain⟨j,rfl⟩:=P1 (d:=d1) (by simpa using c1);rw[Dt]at hx0 hx1;subst hx0 hx1;refine⟨_,rfl,_,_,_,_,rfl,rfl,s1,rfl,_,_,rfl,rfl,_,rfl,FE (fun c=>?_) (fun c=>?_)⟩
   ·refine⟨_,rfl,_,_,_,_,rfl,rfl,s1,rfl,_,rfl,_,_,_,_,rfl,rfl,s1,rfl,i,j,rfl,rfl,?_⟩;have hj:1≤j:=by have:=ag c;lia
    have e:DD (.tuple [.int i,.int j])=decide (V.int (FM.gi i j)=V.int 1):=by
     rw[DD,decide_eq_true hj,Bool.true_and,Bool.eq_iff_iff];simp
    rw[e]at q;exact q
   ·have hj:¬1≤j:=fun z=>c (ao (by lia));have e:DD (.tuple [.int i,.int j])=false:=by rw[DD,decide_eq_false hj,Bool.false_and]
    rw[e]at q;exact q
 ·rw[Bool.eq_false_iff.mpr ht];rw[no (ay.mpr ht)]at q;exact LB (LB q)
end
def Cn:PyData→Bool
 |.list ds=>ds.all DD
 |_=>false
def F3:PyData→Nat
 |.list ds=>ds.length
 |_=>0
def rowAt(ds:List PyData)(i:Nat):Bool:=match ds[i]? with
 |some d=>Cn d&&decide (F3 d=i)
 |none=>true
def IM(ds:List PyData):Bool:=(List.range ds.length).all (rowAt ds)
def Ct:PyData→Bool
 |.list ds=>decide (1≤ds.length)&&(decide (ds.length≤40)&&IM ds)
 |_=>false
def CZ:PyData→Bool
 |.tuple [r,l]=>Ct r&&(Cn l&&decide (F3 l=F3 r))
 |_=>false
theorem Wr{d:PyData}(h:Dk d=false):Cn d=false:=by cases d<;>first|rfl|exact absurd h (by simp[Dk])
theorem S3{d:PyData}(h:Dk d=false):Ct d=false:=by cases d<;>first|rfl|exact absurd h (by simp[Dk])
theorem Wd{d:PyData}(h:EJ d=false):CZ d=false:=by cases d<;>first|rfl|exact absurd h (by simp[EJ])
theorem VN{ds:List PyData}(h:ds.length≠2):CZ (.tuple ds)=false:=by
 match ds,h with
 |[],_=>rfl
 |[_],_=>rfl
 |[_,_],h=>exact absurd rfl h
 |_::_::_::_,_=>rfl
theorem JV{d:PyData}(h:Dk d=true):∃ds,d=.list ds:=by cases d<;>first|exact⟨_,rfl⟩|exact absurd h (by simp[Dk])
theorem XY{d:PyData}(h:EJ d=true):∃ds,d=.tuple ds:=by cases d<;>first|exact⟨_,rfl⟩|exact absurd h (by simp[EJ])
theorem Oe{d:PyData}(h:Cn d=true):Dk d=true:=by cases d<;>first|rfl|exact absurd h (by simp[Cn])
theorem Rp{d:PyData}(h:Ct d=true):Dk d=true:=by cases d<;>first|rfl|exact absurd h (by simp[Ct])
theorem P6{ds:List PyData}(h:∀j,j<ds.length→rowAt ds j=true):IM ds=true:=by
 unfold IM;rw[List.all_eq_true];intro j hj;exact h j (bI.mp hj)
theorem P8{ds:List PyData}{i:Nat}(hi:i<ds.length)(h:rowAt ds i=false):IM ds=false:=by
 refine ay.mpr fun z=>?_;unfold IM at z;rw[List.all_eq_true]at z;rw[z i (bI.mpr hi)]at h;cases h
theorem LO{ds:List PyData}{i:Nat}{d:PyData}(h:ds[i]? = some d):rowAt ds i=(Cn d&&decide (F3 d=i)):=by unfold rowAt;rw[h]
def PC:Sp:=fun vs H Q _=>∃l d v,vs=[v]∧Dt l H d v∧Q (.bl (Cn d)) H
def XD:Sp:=fun vs H Q _=>∃l d v,vs=[v]∧Dt l H d v∧∀H',AU H H'→Q (.bl (Ct d)) H'
def Z7:Sp:=fun vs H Q _=>∃l d v,vs=[v]∧Dt l H d v∧∀H',AU H H'→Q (.bl (CZ d)) H'
section
variable{P:Program}{w:World}{K:PySem.W.Frag}{mg:Str→Option Value}{base:Heap}{f g1 g2:Addr}{fd gd1 gd2:FuncData}
theorem Ni:Al ["thing", "part"] ["thing"] (AN FI):=⟨rfl,rfl,rfl,by decide +kernel,rfl,by decide +kernel,by decide +kernel⟩
theorem Ny(F:Fn K mg "are_fractions" FI ["thing"] f fd)(Dc:Fn K mg "is_fraction" GJ ["thing"] g1 gd1)
 (Eu:Ab P w K mg base Ao 2 g1 gd1 ["thing"] Wn)(AO:mg "isinstance" = none)(Ck:mg "list" = none):Ab P w K mg base Ao 3 f fd ["thing"] PC:=by
 have sc:=Ni;refine F.F.ok (k:=2) sc (fun vs H Q E h=>?_) (fun cdv A outer s H vs Q E hr h=>?_)
 ·obtain⟨l,d,v,rfl,_⟩:=h
  rfl
 obtain⟨l,d,v,rfl,hd,q⟩:=h;refine⟨_,(A4 (FL (HK (HC (BV GU rfl AO aY (AM (pv 0) (AM (Gi (v:=.ty "list") rfl Ck av rfl) Af)))))
  (BH (Cs IE))
  DQ)
 (A4 (Ko az rfl (PU (pv 0)) (El (i:=1) sc.nd rfl (Or.inl rfl))
  (BH (FL (HK (HC (EN Dc Eu hr rfl (AM (pv 1) Af))))
   (BH (Cs IE))
   DQ)))
 (BH (Cs IE)))),?_⟩
 refine⟨_,rfl,_,_,_,_,rfl,TZ,hd.ty,LA K d hd.nodict,_,rfl,?_⟩;by_cases hL:Dk d=false
 ·rw[hL];rw[Wr hL]at q;exact LB q
 have hL:Dk d=true:=by simpa using hL
 rw[hL];refine VX ?_;obtain⟨ds,rfl⟩:=JV hL;rw[Dt]at hd;obtain⟨a,xs,rfl,na,ha,ht⟩:=hd;have hlen:=ht.len;refine⟨_,rfl,a,rfl,⟨_,BI.of ha⟩,Q6 (xs:=xs) (fun i σ H'=>∃r1,σ=[some (.ref a),r1]∧H=H'∧∀j c,j<i→ds[j]? = some c→DD c=true) ?_ ?_ ?_ ?_⟩
 ·exact⟨_,rfl,rfl,fun j c h=>absurd h (Nat.not_lt_zero _)⟩
 ·rintro i σ H' _ ⟨r1,rfl,rfl,_⟩;exact BI.of ha
 ·rintro i x σ H' hx ⟨r1,rfl,rfl,hf⟩;obtain⟨c,hc,tc⟩:=ht.get hx;refine⟨_,rfl,l,c,x,rfl,tc,_,rfl,FE (fun b=>?_) (fun b=>?_)⟩
  ·have hb:DD c=false:=by simpa using b
   have e:Cn (.list ds)=false:=ay.mpr fun z=>by
    rw[Cn,List.all_eq_true]at z;rw[z c (aW hc)]at hb;cases hb
   rw[e]at q;exact q
  ·have hb:DD c=true:=by simpa using b
   refine⟨_,rfl,rfl,fun j e hj he=>?_⟩;by_cases z:j=i
   ·subst z;rw[hc]at he;cases he;exact hb
   ·exact hf j e (by lia) he
 ·rintro σ H' ⟨r1,rfl,rfl,hf⟩;have e:Cn (.list ds)=true:=by
   rw[Cn,List.all_eq_true];intro c hc;obtain⟨j,hj⟩:=bH hc;exact hf j c (by rw[hlen];exact(aE.mp hj).1) hj
  rw[e]at q;exact q
theorem Sz:Al ["thing", "k", "row"] ["thing"] (AN LR):=⟨rfl,rfl,rfl,by decide +kernel,rfl,by decide +kernel,by decide +kernel⟩
theorem Sy{tk:Tok}(F:Fn K mg "are_rows" LR ["thing"] f fd)(Ci:Fn K mg "are_fractions" FI ["thing"] g1 gd1)
 (HS:Ab P w K mg base Ao 3 g1 gd1 ["thing"] PC)(KS:mg "MOST_ROWS" = some (.int 40 tk))(AO:mg "isinstance" = none)(Ck:mg "list" = none)(An:mg "len" = none)(Kc:mg "enumerate" = none):Ab P w K mg base Ao 4 f fd ["thing"] XD:=by
 have sc:=Sz;refine F.F.ok (k:=3) sc (fun vs H Q E h=>?_) (fun cdv A outer s H vs Q E hr h=>?_)
 ·obtain⟨l,d,v,rfl,_⟩:=h
  rfl
 obtain⟨l,d,v,rfl,hd,q⟩:=h;refine⟨_,(A4 (FL (PW.pt (LY (HK (HC (BV GU rfl AO aY (AM (pv 0) (AM (Gi (v:=.ty "list") rfl Ck av rfl) Af))))) (LY (Ek Uv (BV CL rfl An aN (AM (pv 0) Af)) Ah (Ae _)) (Ki (Ek Qg (BV CL rfl An aN (AM (pv 0) Af)) (DB (v:=.int 40) rfl KS ⟨_,rfl⟩) (Ae _))))))
  (BH (Cs IE))
  DQ)
 (A4 (Ko az rfl (YR rfl Kc (AM (pv 0) Af)) (Vg rfl (LG (El (i:=1) sc.nd rfl (Or.inl rfl)) (LG (El (i:=2) sc.nd rfl (Or.inl rfl)) T7)))
  (BH (FL (PW.pt (LY (HK (HC (EN Ci HS hr rfl (AM (pv 2) Af)))) (Ki (Ek Qo (BV CL rfl An aN (AM (pv 2) Af)) (pv 1) (Ae _)))))
   (BH (Cs IE))
   DQ)))
 (BH (Cs IE)))),?_⟩
 refine⟨_,rfl,_,_,_,_,rfl,TZ,hd.ty,LA K d hd.nodict,_,rfl,?_⟩;by_cases hL:Dk d=false
 ·rw[hL];have:=q H (.refl H);rw[S3 hL]at this;exact LB (LB this)
 have hL:Dk d=true:=by simpa using hL
 rw[hL];refine VX ?_;obtain⟨ds,rfl⟩:=JV hL;rw[Dt]at hd;obtain⟨a,xs,rfl,na,ha,ht⟩:=hd;have hlen:=ht.len;refine⟨_,rfl,a,xs,rfl,.inl (BI.of ha),_,_,rfl,rfl,_,rfl,FE (fun c=>?_) (fun c=>?_)⟩
 ·have e:Ct (.list ds)=false:=by
   have:¬1≤ds.length:=by rw[←hlen];have:=ag c;lia
   rw[Ct,decide_eq_false this,Bool.false_and]
  have:=q H (.refl H);rw[e]at this;exact LB this
 have h1:1≤ds.length:=by rw[←hlen];have:=of_decide_eq_false (ay.mpr c);lia
 refine⟨_,rfl,a,xs,rfl,.inl (BI.of ha),_,_,rfl,rfl,_,rfl,FE (fun c=>?_) (fun c=>?_)⟩
 ·have e:Ct (.list ds)=false:=by
   have:¬ds.length≤40:=by rw[←hlen];have:=ag c;lia
   rw[Ct,decide_eq_false this,Bool.false_and,Bool.and_false]
  have:=q H (.refl H);rw[e]at this;exact this
 have h2:ds.length≤40:=by rw[←hlen];have:=of_decide_eq_false (ay.mpr c);lia
 have e:Ct (.list ds)=IM ds:=by rw[Ct,decide_eq_true h1,decide_eq_true h2,Bool.true_and,Bool.true_and]
 rw[e]at q;refine⟨_,rfl,a,rfl,⟨_,BI.of ha⟩,WW (xs:=xs) (fun i σ H'=>∃r1 r2,σ=[some (.ref a),r1,r2]∧AU H H'∧∀j,j<i→rowAt ds j=true) ?_ ?_ ?_ ?_⟩
 ·exact⟨_,_,rfl,.refl _,fun j h=>absurd h (Nat.not_lt_zero _)⟩
 ·rintro i σ H' _ ⟨r1,r2,rfl,e,_⟩;exact BI.of (e _ _ ha)
 ·rintro i x σ H0 hx ⟨r1,r2,rfl,e0,hf⟩ p hp;obtain⟨c,hc,tc⟩:=ht.get hx;have hi:i<ds.length:=(aE.mp hc).1;have s1:=BP hp (.tup [.int (i:Nat),x]);have e1:=e0.trans s1;have hp':(upd H0 p (.tup [.int (i:Nat),x])) p=some (.tup [.int (i:Nat),x]):=Ad;generalize upd H0 p (.tup [.int (i:Nat),x])=H1 at s1 e1 hp';have tc:=tc.same e1;refine⟨p,_,rfl,CS.of hp',rfl,_,_,rfl,_,_,rfl,rfl,?_⟩;refine⟨_,rfl,l,c,x,rfl,tc,_,rfl,FE (fun b=>?_) (fun b=>?_)⟩
  ·have hb:Cn c=false:=by simpa using b
   have:=q H1 e1;rw[P8 hi (by rw[LO hc,hb,Bool.false_and])]at this;exact LB this
  have hb:Cn c=true:=by simpa using b
  obtain⟨cs,rfl⟩:=JV (Oe hb);rw[Dt]at tc;obtain⟨b,ys,rfl,nb,hb',hy⟩:=tc;refine⟨_,rfl,b,ys,rfl,.inl (BI.of hb'),_,rfl,rfl,_,rfl,FE (fun z=>?_) (fun z=>?_)⟩
  ·have hne:¬F3 (.list cs)=i:=by
    rw[F3,←hy.len];intro zz;rw[zz]at z;simp at z
   have:=q H1 e1;rw[P8 hi (by rw[LO hc,hb,decide_eq_false hne,Bool.and_false])]at this;exact this
  ·have hne:F3 (.list cs)=i:=by
    rw[F3,←hy.len];by_cases zz:ys.length=i
    ·exact zz
    ·exfalso
     refine z ?_;have:¬(V.int (ys.length:Nat)=V.int (i:Nat)):=by simp;lia
     rw[decide_eq_false this];rfl
   refine⟨_,_,rfl,e1,fun j hj=>?_⟩;by_cases zz:j=i
   ·subst zz;rw[LO hc,hb,decide_eq_true hne,Bool.and_self]
   ·exact hf j (by lia)
 ·rintro σ H' ⟨r1,r2,rfl,e1,hf⟩;have:=q H' e1;rw[P6 fun j hj=>hf j (by rw[hlen];exact hj)]at this;exact this
theorem S5:Al ["thing"] ["thing"] (AN JA):=⟨rfl,rfl,rfl,by decide +kernel,rfl,by decide +kernel,by decide +kernel⟩
theorem TQ(F:Fn K mg "is_table" JA ["thing"] f fd)(I0:Fn K mg "are_rows" LR ["thing"] g1 gd1)(Ci:Fn K mg "are_fractions" FI ["thing"] g2 gd2)
 (Ul:Ab P w K mg base Ao 4 g1 gd1 ["thing"] XD)(HS:Ab P w K mg base Ao 4 g2 gd2 ["thing"] PC)(AO:mg "isinstance" = none)(EE:mg "tuple" = none)(An:mg "len" = none):Ab P w K mg base Ao 5 f fd ["thing"] Z7:=by
 have sc:=S5;refine F.F.ok (k:=4) sc (fun vs H Q E h=>?_) (fun cdv A outer s H vs Q E hr h=>?_)
 ·obtain⟨l,d,v,rfl,_⟩:=h
  rfl
 obtain⟨l,d,v,rfl,hd,q⟩:=h;refine⟨_,(A4 (FL (PW.pt (LY (HK (HC (BV GU rfl AO aY (AM (pv 0) (AM (Gi (v:=.ty "tuple") rfl EE PyProof.Rows.boot_tuple rfl) Af))))) (Ki (Ek Qo (BV CL rfl An aN (AM (pv 0) Af)) Ah (Ae _)))))
  (BH (Cs IE))
  DQ)
 (BH (Cs (OB (EN I0 Ul hr rfl (AM (CM CD (pv 0) Ah (fun _ _=>rfl)) Af)) (OB (EN Ci HS hr rfl (AM (CM CD (pv 0) Ah (fun _ _=>rfl)) Af)) (SK (M1 Us (BV CL rfl An aN (AM (CM CD (pv 0) Ah (fun _ _=>rfl)) Af)) (BV CL rfl An aN (AM (CM CD (pv 0) Ah (fun _ _=>rfl)) Af)) (Ae _)))))))),?_⟩
 refine⟨_,rfl,_,_,_,_,rfl,TZ,hd.ty,LX K d hd.nodict,_,rfl,?_⟩;by_cases hL:EJ d=false
 ·rw[hL];have:=q H (.refl H);rw[Wd hL]at this;exact LB (LB this)
 have hL:EJ d=true:=by simpa using hL
 rw[hL];refine VX ?_;obtain⟨ds,rfl⟩:=XY hL;rw[Dt]at hd;obtain⟨a,xs,rfl,na,ha,hx⟩:=hd;have hlen:=hx.len;have s1:CS K H a xs:=CS.of ha;refine⟨_,rfl,a,xs,rfl,.inr s1,rfl,_,rfl,FE (fun c=>?_) (fun c=>?_)⟩
 ·have:ds.length≠2:=by
   rw[←hlen];intro z;rw[z]at c;exact absurd c (by decide)
  have q:=q H (.refl H);rw[VN this]at q;exact q
 have h2:xs.length=2:=by
  by_cases z:xs.length=2
  ·exact z
  ·exfalso
   refine c ?_;have:¬(V.int (xs.length:Nat)=V.int 2):=by simp;lia
   rw[decide_eq_false this];rfl
 obtain⟨d0,d1,rfl⟩:∃d0 d1,ds=[d0,d1]:=by
  match ds,(show ds.length=2 by lia) with
  |[x,y],_=>exact⟨x,y,rfl⟩
 rw[Aj]at hx;obtain⟨x0,r,rfl,hx0,hx⟩:=hx;rw[Aj]at hx;obtain⟨x1,r,rfl,hx1,hx⟩:=hx;rw[Aj]at hx;subst hx;rw[CZ]at q;refine⟨_,rfl,_,_,_,_,rfl,rfl,s1,rfl,l,d0,x0,rfl,hx0,fun H1 e1=>⟨_,rfl,FE (fun c0=>?_) (fun c0=>?_)⟩⟩
 ·rw[c0]at q;refine⟨_,rfl,_,_,_,_,rfl,rfl,e1.tup s1,rfl,l,d1,x1,rfl,hx1.same e1,_,rfl,FE (fun c1=>?_) (fun c1=>?_)⟩
  ·rw[c1]at q;obtain⟨r0,rfl⟩:=JV (Rp c0);obtain⟨r1,rfl⟩:=JV (Oe c1);have hx0:=hx0.same e1;have hx1:=hx1.same e1;rw[Dt]at hx0 hx1;obtain⟨a0,y0,rfl,_,ha0,hy0⟩:=hx0;obtain⟨a1,y1,rfl,_,ha1,hy1⟩:=hx1;refine⟨_,rfl,_,_,_,_,rfl,rfl,e1.tup s1,rfl,a1,y1,rfl,.inl (BI.of ha1),_,rfl,_,_,_,_,rfl,rfl,e1.tup s1,rfl,a0,y0,rfl,.inl (BI.of ha0),rfl,?_⟩;have:=q H1 e1;rw[Bool.true_and,Bool.true_and,F3,F3,←hy0.len,←hy1.len]at this;have e:decide (V.int (y1.length:Nat)=V.int (y0.length:Nat))=decide (y1.length=y0.length):=by
    rw[Bool.eq_iff_iff];simp;lia
   rw[←e]at this;exact this
  ·rw[Bool.eq_false_iff.mpr c1,Bool.false_and,Bool.and_false]at q;exact q H1 e1
 ·rw[Bool.eq_false_iff.mpr c0,Bool.false_and]at q;exact q H1 e1
end
mutual
theorem YJ{l p:Addr}{H:Hp}(hp:H p=none):∀ {d:PyData} {v:V},Dt l H d v→Dt p H d v
 |.none,_,h=>by rw[Dt]at h ⊢;exact h
 |.bool _,_,h=>by rw[Dt]at h ⊢;exact h
 |.int _,_,h=>by rw[Dt]at h ⊢;exact h
 |.str _,_,h=>by rw[Dt]at h ⊢;exact h
 |.tuple _,_,h=>by
  rw[Dt]at h ⊢;obtain⟨a,xs,e1,n,h1,h2⟩:=h;exact⟨a,xs,e1,BG h1 hp,h1,Hu hp h2⟩
 |.list _,_,h=>by
  rw[Dt]at h ⊢;obtain⟨a,xs,e1,n,h1,h2⟩:=h;exact⟨a,xs,e1,BG h1 hp,h1,Hu hp h2⟩
 |.dict _,_,h=>by rw[Dt]at h;exact h.elim
theorem Hu{l p:Addr}{H:Hp}(hp:H p=none):∀ {ds:List PyData} {xs:List V},Aj l H ds xs→Aj p H ds xs
 |[],_,h=>by rw[Aj]at h ⊢;exact h
 |_::_,_,h=>by
  rw[Aj]at h ⊢;obtain⟨x,r,e1,h1,h2⟩:=h;exact⟨x,r,e1,YJ hp h1,Hu hp h2⟩
end
def DU(H:Hp)(d:PyData)(v:V):Prop:=∃N:Nat,∀l,N≤l→Dt l H d v
def Bo(H:Hp)(ds:List PyData)(xs:List V):Prop:=∃N:Nat,∀l,N≤l→Aj l H ds xs
theorem Bo.same{H H':Hp}{d:List PyData}{v:List V}(h:Bo H d v)(e:AU H H'):Bo H' d v:=let⟨N,k⟩:=h;⟨N,fun l hl=>(k l hl).same e⟩
theorem DU.int{H:Hp}{i:Int}:DU H (.int i) (.int i):=⟨0,fun _ _=>.int⟩
theorem DU.bool{H:Hp}{i:Bool}:DU H (.bool i) (.bl i):=⟨0,fun _ _=>.bool⟩
theorem DU.BM{H:Hp}:DU H .none .BM:=⟨0,fun _ _=>.BM⟩
theorem DU.str{H:Hp}{x:Str}:DU H (.str x) (.str x):=⟨0,fun _ _=>.str⟩
theorem Bo.nil{H:Hp}:Bo H [] []:=⟨0,fun _ _=>.nil⟩
theorem Bo.cons{H:Hp}{d:PyData}{ds:List PyData}{x:V}{xs:List V}(h:DU H d x)(k:Bo H ds xs):Bo H (d::ds) (x::xs) :=
 let⟨N,a⟩:=h;let⟨M,b⟩:=k;⟨max N M,fun l hl=>.cons (a l (by lia)) (b l (by lia))⟩
theorem Bo.app{H:Hp}{ds es:List PyData}{xs ys:List V}(h:Bo H ds xs)(k:Bo H es ys):Bo H (ds++es) (xs++ys) :=
 let⟨N,a⟩:=h;let⟨M,b⟩:=k;⟨max N M,fun l hl=>(a l (by lia)).app (b l (by lia))⟩
theorem Bo.len{H:Hp}{ds:List PyData}{xs:List V}(h:Bo H ds xs):xs.length=ds.length:=let⟨N,a⟩:=h;(a N (aJ _)).len
theorem Bo.get{H:Hp}{ds:List PyData}{xs:List V}{i:Nat}{d:PyData}(h:Bo H ds xs)(e:ds[i]? = some d):∃v,xs[i]? = some v∧DU H d v:=by
 have hl:=h.len;have hi:i<xs.length:=by rw[hl];exact(aE.mp e).1
 have hx:xs[i]? = some xs[i]:=by simp[hi]
 obtain⟨N,a⟩:=h;refine⟨xs[i],hx,N,fun l hl=>?_⟩;obtain⟨d',h1,h2⟩:=(a l hl).get hx;rw[e]at h1;cases h1;exact h2
theorem DU.lst{H:Hp}{a:Addr}{ds:List PyData}{xs:List V}(h:H a=some (.lst xs))(k:Bo H ds xs):DU H (.list ds) (.ref a) :=
 let⟨N,b⟩:=k;⟨max N (a+1),fun l hl=>.lst (aQ (show a<l from aG (Nat.lt_succ_self a) (aH (Nat.le_max_right _ _) hl))) h (b l (by lia))⟩
theorem DU.tup{H:Hp}{a:Addr}{ds:List PyData}{xs:List V}(h:H a=some (.tup xs))(k:Bo H ds xs):DU H (.tuple ds) (.ref a) :=
 let⟨N,b⟩:=k;⟨max N (a+1),fun l hl=>.tup (aQ (show a<l from aG (Nat.lt_succ_self a) (aH (Nat.le_max_right _ _) hl))) h (b l (by lia))⟩
theorem DU.SD{H:Hp}{ds:List PyData}{v:V}(h:DU H (.list ds) v):∃a xs,v=.ref a∧H a=some (.lst xs)∧Bo H ds xs:=by
 obtain⟨N,b⟩:=h;have h0:=b N (aJ _);rw[Dt]at h0;obtain⟨a,xs,rfl,_,ha,_⟩:=h0;refine⟨a,xs,rfl,ha,N,fun l hl=>?_⟩;have h1:=b l hl;rw[Dt]at h1;obtain⟨a',xs',e,_,ha',hx'⟩:=h1;cases e;rw[ha]at ha';cases ha';exact hx'
theorem DU.iY{H:Hp}{ds:List PyData}{v:V}(h:DU H (.tuple ds) v):∃a xs,v=.ref a∧H a=some (.tup xs)∧Bo H ds xs:=by
 obtain⟨N,b⟩:=h;have h0:=b N (aJ _);rw[Dt]at h0;obtain⟨a,xs,rfl,_,ha,_⟩:=h0;refine⟨a,xs,rfl,ha,N,fun l hl=>?_⟩;have h1:=b l hl;rw[Dt]at h1;obtain⟨a',xs',e,_,ha',hx'⟩:=h1;cases e;rw[ha]at ha';cases ha';exact hx'
theorem Bo.Yk{H:Hp}{d e:PyData}{xs:List V}(h:Bo H [d,e] xs):∃x y,xs=[x,y]∧DU H d x∧DU H e y:=by
 obtain⟨x,h1,h2⟩:=h.get (i:=0) rfl;obtain⟨y,h3,h4⟩:=h.get (i:=1) rfl;have:=h.len
 match xs,this with
 |[a,b],_ =>
  simp at h1 h3;subst h1 h3;exact⟨a,b,rfl,h2,h4⟩
mutual
theorem gN{c:Addr}{H:Hp}:∀ {d:PyData} {v:V},Dt c H d v→DU H d v
 |.none,_,h=>by rw[Dt]at h;subst h;exact .BM
 |.bool _,_,h=>by rw[Dt]at h;subst h;exact .bool
 |.int _,_,h=>by rw[Dt]at h;subst h;exact .int
 |.str _,_,h=>by rw[Dt]at h;subst h;exact .str
 |.tuple _,_,h=>by
  rw[Dt]at h;obtain⟨a,xs,rfl,n,h1,h2⟩:=h;exact .tup h1 (GW h2)
 |.list _,_,h=>by
  rw[Dt]at h;obtain⟨a,xs,rfl,n,h1,h2⟩:=h;exact .lst h1 (GW h2)
 |.dict _,_,h=>by rw[Dt]at h;exact h.elim
theorem GW{c:Addr}{H:Hp}:∀ {ds:List PyData} {xs:List V},Aj c H ds xs→Bo H ds xs
 |[],_,h=>by rw[Aj]at h;subst h;exact .nil
 |_::_,_,h=>by
  rw[Aj]at h;obtain⟨x,r,rfl,h1,h2⟩:=h;exact .cons (gN h1) (GW h2)
end
theorem DU.ints{H:Hp}{ps:List Int}{v:V}(h:DU H (.tuple (ps.map .int)) v):∃a,v=.ref a∧H a=some (.tup (ps.map V.int)):=by
 obtain⟨a,xs,rfl,ha,hx⟩:=h.iY;refine⟨a,rfl,?_⟩;rw[ha]
 congr 2
 obtain⟨N,b⟩:=hx;have:=b N (aJ _);clear b ha h
 induction ps generalizing xs with
 |nil=>rw[List.map_nil,Aj]at this;exact this
 |cons p ps ih =>
  rw[List.map_cons,Aj]at this;obtain⟨x,r,rfl,h1,h2⟩:=this;rw[Dt]at h1;subst h1;rw[List.map_cons,ih r h2]
section
variable{P:Program}{w:World}{K:PySem.W.Frag}{mg:Str→Option Value}{base:Heap}{f g:Addr}{fd gd:FuncData}
theorem QU:Al ["_law_top", "_law_bottom", "_law_one", "_law_other"] ["_law_top", "_law_bottom"] (AN Ef):=⟨rfl,rfl,rfl,by decide +kernel,rfl,by decide +kernel,by decide +kernel⟩
theorem QQ(F:Fn K mg "_law_ratio" Ef ["_law_top", "_law_bottom"] f fd)(Gz:mg "abs" = none):Ab P w K mg base Ao 1 f fd ["_law_top", "_law_bottom"] Ro:=by
 have sc:=QU;refine F.F.ok (k:=0) sc (fun vs H Q E h=>?_) (fun cdv A outer s H vs Q E hr h=>?_)
 ·obtain⟨t,b,m,rfl,_⟩:=h
  rfl
 obtain⟨t,b,m,rfl,hb,hm,hs,q⟩:=h;refine⟨_,(A4 (Bp (i:=2) sc.nd rfl (Or.inl rfl) (BV Jc rfl Gz bL (AM (pv 0) Af)))
 (A4 (Bp (i:=3) sc.nd rfl (Or.inl rfl) (BV Jc rfl Gz bL (AM (pv 1) Af)))
 (A4 (Sb az (Ek Qg (pv 3) Ah (Ae _))
  (BH (dC (i:=2) (j:=3) rfl sc.nd rfl rfl (by decide) rfl rfl (AM (pv 3) (AM (Bn JI (pv 2) (pv 3)) Af)) rfl)))
 (A4 (FL (Ek Uv (pv 1) Ah (Ae _))
  (BH (Bp (i:=2) sc.nd rfl (Or.inl rfl) (Bn N7 Ah (pv 2))))
  DQ)
 (BH (Cs (Jn (AM (Bn JQ (pv 0) (pv 2)) (AM (Bn JQ (pv 1) (pv 2)) Af))))))))),?_⟩
 refine⟨_,rfl,_,rfl,_,rfl,_,rfl,?_⟩;refine RI (fun σ H'=>∃g l,σ=[some (.int t),some (.int b),some (.int g),some (.int l)]∧H=H'∧Int.gcd g l=Int.gcd t b∧0≤g∧0≤l) (fun σ _=>ic σ) ?_ ?_ ?_
 ·exact⟨_,_,rfl,rfl,FM.TU t b,FM.abs_nonneg t,FM.abs_nonneg b⟩
 ·rintro σ H' ⟨g,l,rfl,rfl,hg,h0,h1⟩;refine⟨_,rfl,_,_,rfl,rfl,_,rfl,FE (fun c=>?_) (fun c=>?_)⟩
  ·have hl':0<l:=ag c;have hl:l≠0:=by lia
   refine⟨_,rfl,_,rfl,_,rfl,_,_,rfl,rfl,hl,_,_,rfl,⟨_,_,rfl,rfl,?_,h1,FM.fmod_nonneg hl h1⟩,?_⟩
   ·rw[FM.Qu];exact hg
   ·exact FM.Pt g l hl
  ·have hl':¬0<l:=of_decide_eq_false (ay.mpr c);have hl:l=0:=by lia
   subst hl;rw[FM.Vd hg h0]
   try dsimp only[Fe]
   refine YV (fun σ' H'=>σ'=[some (.int t),some (.int b),some (.int (FM.gs t b)),some (.int 0)]∧H=H') (fun nx hn=>?_) ?_
   ·refine⟨_,rfl,_,_,rfl,rfl,_,rfl,FE (fun c=>?_) (fun c=>?_)⟩
    ·have c':b<0:=ag c;refine⟨_,rfl,_,_,rfl,rfl,hn _ _ ⟨?_,rfl⟩⟩;show [some (V.int t),some (V.int b),some (V.int (0-FM.gi t b)),some (V.int 0)]=_;unfold FM.gs;rw[if_pos c',Int.zero_sub]
    ·have c':¬b<0:=of_decide_eq_false (ay.mpr c);refine hn _ _ ⟨?_,rfl⟩;unfold FM.gs;rw[if_neg c']
   ·rintro σ' H' ⟨rfl,rfl⟩;have h0:FM.gs t b≠0:=FM.iT hb;have h1:(FM.gs t b).natAbs<2^m:=Nat.lt_of_le_of_lt (FM.iW hb) hs;refine⟨_,rfl,_,rfl,_,_,rfl,rfl,⟨h0,m,hm,h1⟩,_,rfl,_,rfl,_,_,rfl,rfl,⟨h0,m,hm,h1⟩,ia,fun p hp=>?_⟩;refine q p _ (BP hp _) ?_;rw[Ad];show some (HO.tup [V.int (t.fdiv (FM.gs t b)),V.int (b.fdiv (FM.gs t b))])=_;rw[FM.XR hb,FM.WE hb]
    rfl
 ·exact fun σ H Q Q' hq ⟨v,e,i,j,e1,e2,k,e3,q⟩=>⟨v,e,i,j,e1,e2,k,e3,hq _ _ q⟩
theorem S0:Al ["_law_one", "_law_other"] ["_law_one", "_law_other"] (AN Li):=⟨rfl,rfl,rfl,by decide +kernel,rfl,by decide +kernel,by decide +kernel⟩
theorem Sv(F:Fn K mg "_law_sum" Li ["_law_one", "_law_other"] f fd)(Bl:Fn K mg "_law_ratio" Ef ["_law_top", "_law_bottom"] g gd)
 (Cv:Ab P w K mg base Ao 2 g gd ["_law_top", "_law_bottom"] Ro):Ab P w K mg base Ao 3 f fd ["_law_one", "_law_other"] (ez K (fun p q=>p+q) (fun _=>True)):=by
 have sc:=S0;refine F.F.ok (k:=2) sc (fun vs H Q E h=>?_) (fun cdv A outer s H vs Q E hr h=>?_)
 ·obtain⟨v,w,p,q,n,rfl,_⟩:=h
  rfl
 obtain⟨v,w,p,q,n,rfl,⟨a,rfl,sp⟩,⟨b,rfl,sq⟩,hp,hq,hn,A7,k⟩:=h;refine⟨_,(BH (Cs (EN Bl Cv hr rfl (AM (Bn Ke (Bn Kr (CM CD (pv 0) Ah (fun _ _=>rfl)) (CM CD (pv 1) Ah (fun _ _=>rfl))) (Bn Kr (CM CD (pv 1) Ah (fun _ _=>rfl)) (CM CD (pv 0) Ah (fun _ _=>rfl)))) (AM (Bn Kr (CM CD (pv 0) Ah (fun _ _=>rfl)) (CM CD (pv 1) Ah (fun _ _=>rfl))) Af))))),?_⟩;refine⟨_,rfl,_,_,_,_,rfl,rfl,sp,rfl,_,rfl,_,_,_,_,rfl,rfl,sq,rfl,_,_,rfl,rfl,Xz hp.1 hq.d (by lia),_,rfl,_,_,_,_,rfl,rfl,sq,rfl,_,rfl,_,_,_,_,rfl,rfl,sp,rfl,_,_,rfl,rfl,Xz hq.1 hp.d (by lia),_,_,rfl,rfl,_,rfl,_,_,_,_,rfl,rfl,sp,rfl,_,rfl,_,_,_,_,rfl,rfl,sq,rfl,_,_,rfl,rfl,Xz hp.d hq.d (by lia),_,_,n+n,rfl,FM.UZ p q,by lia,FM.dd hp hq,fun l H' e1 e2=>?_⟩;exact k l H' e1 (by rw[FM.XC p q]at e2;exact e2)
end
theorem dq(r:Rat):DD (Bt r)=true:=by
 have h:=r.den_nz;have k:=r.reduced;rw[Bt,DD,decide_eq_true (show(1:Int)≤(r.den:Int) by lia),Bool.true_and];rw[beq_iff_eq];unfold FM.gi;unfold Nat.Coprime at k;rw[show r.num.gcd (r.den:Int)=1 from k]
 rfl
theorem eY{i n:Nat}(h:i<n)(hn:n≤60):i<sizeLine:=aG (show i<60 by lia) (by rw[sizeLine_eq];decide)
theorem LS{n:Nat}(hn:n≤60):n≤sizeLine:=aH hn (by rw[sizeLine_eq];decide)
structure Tb where
 rs:List (List Rat)
 ls:List Rat
def Bi(r:List Rat):List PyData:=r.map Bt
def Dx(r:List Rat):PyData:=.list (Bi r)
def EX(rs:List (List Rat)):List PyData:=rs.map Dx
def CV(t:Tb):PyData:=.tuple [.list (EX t.rs),.list (Bi t.ls)]
structure Tb.Ok(m:Nat)(t:Tb):Prop where
 one:1≤t.rs.length
 most:t.rs.length≤m
 last:t.ls.length=t.rs.length
 row:∀(i:Nat) r,t.rs[i]? = some r→r.length=i
theorem Qp(r:List Rat):∀e∈Bi r,DD e=true:=fun e he=>by
 obtain⟨q,_,rfl⟩:=aR.mp he;exact dq q
theorem FZ(r:List Rat):(Bi r).length=r.length:=List.length_map _
theorem LM(r:List (List Rat)):(EX r).length=r.length:=List.length_map _
theorem Tb.Ok.jY{m:Nat}{t:Tb}(h:t.Ok m):∀r∈t.rs,r.length<t.rs.length:=fun r hr=>by
 obtain⟨i,hi⟩:=bH hr;rw[h.row i r hi];exact(aE.mp hi).1
theorem Tb.Ok.is{m:Nat}(hm:m≤40){t:Tb}(h:t.Ok m):CZ (CV t)=true:=by
 have h1:=h.one;have h2:=h.most;rw[CV,CZ,Ct,F3,F3,LM,FZ,decide_eq_true h1,decide_eq_true (show t.rs.length≤40 by lia),decide_eq_true h.last,Cn,Bool.true_and,Bool.true_and,Bool.and_true,List.all_eq_true.mpr (Qp _),Bool.and_true];refine P6 fun j hj=>?_;rw[LM]at hj;have hr:t.rs[j]? = some t.rs[j]:=by simp[hj]
 rw[LO (d:=Dx t.rs[j]) (by rw[EX,List.getElem?_map,hr];rfl),Dx,F3,FZ,decide_eq_true (h.row j _ hr),Cn,Bool.and_true,List.all_eq_true.mpr (Qp _)]
mutual
theorem Z1{l c:Addr}{H H':Hp}(e:SameBut c H H'):∀ {d:PyData} {v:V},Dt l H d v→Dt c H d v→Dt l H' d v
 |.none,_,h,_=>by rw[Dt]at h ⊢;exact h
 |.bool _,_,h,_=>by rw[Dt]at h ⊢;exact h
 |.int _,_,h,_=>by rw[Dt]at h ⊢;exact h
 |.str _,_,h,_=>by rw[Dt]at h ⊢;exact h
 |.tuple _,_,h,k=>by
  rw[Dt]at h k ⊢;obtain⟨a,xs,e1,n,h1,h2⟩:=h;obtain⟨a',xs',e1',n',h1',h2'⟩:=k;subst e1;cases e1';rw[h1]at h1';cases h1';exact⟨a,xs,rfl,n,e _ _ n' h1,HF e h2 h2'⟩
 |.list _,_,h,k=>by
  rw[Dt]at h k ⊢;obtain⟨a,xs,e1,n,h1,h2⟩:=h;obtain⟨a',xs',e1',n',h1',h2'⟩:=k;subst e1;cases e1';rw[h1]at h1';cases h1';exact⟨a,xs,rfl,n,e _ _ n' h1,HF e h2 h2'⟩
 |.dict _,_,h,_=>by rw[Dt]at h;exact h.elim
theorem HF{l c:Addr}{H H':Hp}(e:SameBut c H H'):∀ {ds:List PyData} {xs:List V},Aj l H ds xs→Aj c H ds xs→Aj l H' ds xs
 |[],_,h,_=>by rw[Aj]at h ⊢;exact h
 |_::_,_,h,k=>by
  rw[Aj]at h k ⊢;obtain⟨x,r,e1,h1,h2⟩:=h;obtain⟨x',r',e1',h1',h2'⟩:=k;subst e1;cases e1';exact⟨x,r,rfl,Z1 e h1 h1',HF e h2 h2'⟩
end
theorem Bo.dj{H:Hp}{d:PyData}{ds:List PyData}{xs:List V}(h:Bo H (d::ds) xs):∃x r,xs=x::r∧DU H d x∧Bo H ds r:=by
 obtain⟨N,b⟩:=h;have h0:=b N (aJ _);rw[Aj]at h0;obtain⟨x,r,rfl,_,_⟩:=h0;refine⟨x,r,rfl,⟨N,fun l hl=>?_⟩,⟨N,fun l hl=>?_⟩⟩
 ·have:=b l hl;rw[Aj]at this;obtain⟨_,_,e,h1,_⟩:=this;cases e;exact h1
 ·have:=b l hl;rw[Aj]at this;obtain⟨_,_,e,_,h1⟩:=this;cases e;exact h1
theorem DU.rat{H:Hp}{q:Rat}{v:V}(h:DU H (Bt q) v):∃p,v=.ref p∧H p=some (.tup (Dh q)):=h.ints (ps:=[q.num,(q.den:Int)])
theorem RM{H:Hp}{q:Rat}{p:Addr}(h:H p=some (.tup (Dh q))):DU H (Bt q) (.ref p):=.tup h (.cons .int (.cons .int .nil))
theorem Ng{c:Addr}{zs:List V}{H:Hp}(hc:H c=some (.lst zs)):∀ {qs:List Rat} {xs:List V},Bo H (Bi qs) xs→Aj c H (Bi qs) xs
 |[],xs,h=>by
  have:=h.len;rw[show Bi []=[] from rfl,List.length_nil]at this;rw[List.eq_nil_of_length_eq_zero this];exact .nil
 |q::qs,xs,h=>by
  obtain⟨x,r,rfl,h1,h2⟩:=Bo.dj h;obtain⟨p,rfl,hp⟩:=h1.rat;exact .cons (.tup (fun z=>by subst z;rw[hp]at hc;cases hc) hp (.cons .int (.cons .int .nil))) (Ng hc h2)
theorem IG{c:Addr}{zs:List V}{H H':Hp}(hc:H c=some (.lst zs))(e:SameBut c H H'){qs:List Rat}{xs:List V}(h:Bo H (Bi qs) xs):Bo H' (Bi qs) xs:=GW (.but e (Ng hc h))
theorem Wy{c a:Addr}{zs xs:List V}{H:Hp}{qs:List Rat}(hc:H c=some (.lst zs))(n:a≠c)(ha:H a=some (.lst xs))(h:Bo H (Bi qs) xs):Dt c H (Dx qs) (.ref a):=.lst n ha (Ng hc h)
theorem Bo.set{H:Hp}{d:PyData}{v:V}(hv:DU H d v):∀ {ds:List PyData} {xs:List V} {j:Nat},Bo H ds xs→Bo H (ds.set j d) (xs.set j v)
 |[],xs,j,h=>by
  have:=h.len;rw[List.length_nil]at this;rw[List.eq_nil_of_length_eq_zero this];exact .nil
 |e::es,xs,j,h=>by
  obtain⟨x,r,rfl,h1,h2⟩:=h.dj;cases j with
  |zero=>exact .cons hv h2
  |succ j=>exact .cons h1 (Bo.set (j:=j) hv h2)
theorem DU.tab{H:Hp}{t:Tb}{v:V}(h:DU H (CV t) v):∃p R L xs ys,v=.ref p∧H p=some (.tup [.ref R,.ref L])∧H R=some (.lst xs)∧Bo H (EX t.rs) xs∧H L=some (.lst ys)∧Bo H (Bi t.ls) ys:=by
 obtain⟨p,zs,rfl,hp,h1⟩:=h.iY;obtain⟨x,y,rfl,h2,h3⟩:=h1.Yk;obtain⟨R,xs,rfl,hR,h4⟩:=h2.SD;obtain⟨L,ys,rfl,hL,h5⟩:=h3.SD;exact⟨p,R,L,xs,ys,rfl,hp,hR,h4,hL,h5⟩
theorem Q7{H:Hp}{t:Tb}{p R L:Addr}{xs ys:List V}(hp:H p=some (.tup [.ref R,.ref L]))(hR:H R=some (.lst xs))(h4:Bo H (EX t.rs) xs)(hL:H L=some (.lst ys))(h5:Bo H (Bi t.ls) ys):DU H (CV t) (.ref p) :=
 .tup hp (.cons (.lst hR h4) (.cons (.lst hL h5) .nil))
theorem X1{H:Hp}{rs:List (List Rat)}{xs:List V}{i:Nat}{r:List Rat}(h:Bo H (EX rs) xs)(hr:rs[i]? = some r):∃a ys,xs[i]? = some (.ref a)∧H a=some (.lst ys)∧Bo H (Bi r) ys:=by
 obtain⟨v,h1,h2⟩:=h.get (i:=i) (d:=Dx r) (by rw[EX,List.getElem?_map,hr];rfl);obtain⟨a,ys,rfl,h3,h4⟩:=h2.SD;exact⟨a,ys,h1,h3,h4⟩
def i5(H H':Hp)(v:V):Prop:=∃t R L xs zs,v=.ref t∧H' t=some (.tup [.ref R,.ref L])∧H' R=some (.lst xs)∧H R=none∧H' L=some (.lst zs)∧H L=none∧∀x∈xs,∃r ws,x=.ref r∧r≠R∧H r=none∧H' r=some (.lst ws)
theorem WN(a b:List Rat):Bi (a++b)=Bi a++Bi b:=List.map_append
mutual
theorem Yu{H:Hp}:∀ {d:PyData} {v:V},d.canLay0=true→Du H d v→DU H d v
 |.none,_,_,h=>by rw[Du]at h;subst h;exact .BM
 |.bool _,_,_,h=>by rw[Du]at h;subst h;exact .bool
 |.int _,_,_,h=>by rw[Du]at h;subst h;exact .int
 |.str _,_,_,h=>by rw[Du]at h;subst h;exact .str
 |.tuple _,_,c,h=>by
  rw[Du]at h;obtain⟨a,xs,rfl,h1,h2⟩:=h;exact .tup h1 (PX (by simpa only[PyData.canLay0]using c) h2)
 |.list _,_,c,h=>by
  rw[Du]at h;obtain⟨a,xs,rfl,h1,h2⟩:=h;exact .lst h1 (PX (by simpa only[PyData.canLay0]using c) h2)
 |.dict _,_,c,h=>by simp[PyData.canLay0]at c
theorem PX{H:Hp}:∀ {ds:List PyData} {xs:List V},PyData.canLayAll0 ds=true→Ax H ds xs→Bo H ds xs
 |[],_,_,h=>by rw[h.nil_eq];exact .nil
 |_::_,_,c,h=>by
  obtain⟨x,r,rfl,h1,h2⟩:=h.un;simp only[PyData.canLayAll0,Bool.and_eq_true]at c;exact .cons (Yu c.1 h1) (PX c.2 h2)
end
mutual
theorem Y8{l:Addr}{H:Hp}:∀ {d:PyData} {v:V},Dt l H d v→Du H d v
 |.none,_,h=>by rw[Dt]at h;rw[Du];exact h
 |.bool _,_,h=>by rw[Dt]at h;rw[Du];exact h
 |.int _,_,h=>by rw[Dt]at h;rw[Du];exact h
 |.str _,_,h=>by rw[Dt]at h;rw[Du];exact h
 |.tuple _,_,h=>by
  rw[Dt]at h;rw[Du];obtain⟨a,xs,rfl,n,h1,h2⟩:=h;exact⟨a,xs,rfl,h1,Pg h2⟩
 |.list _,_,h=>by
  rw[Dt]at h;rw[Du];obtain⟨a,xs,rfl,n,h1,h2⟩:=h;exact⟨a,xs,rfl,h1,Pg h2⟩
 |.dict _,_,h=>by rw[Dt]at h;exact h.elim
theorem Pg{l:Addr}{H:Hp}:∀ {ds:List PyData} {xs:List V},Aj l H ds xs→Ax H ds xs
 |[],_,h=>by rw[Aj]at h;subst h;exact .nil
 |_::_,_,h=>by
  rw[Aj]at h;obtain⟨x,r,rfl,h1,h2⟩:=h;exact .cons (Y8 h1) (Pg h2)
end
theorem DU.du{H:Hp}{d:PyData}{v:V}(h:DU H d v):Du H d v:=let⟨N,k⟩:=h;Y8 (k N (aJ _))
theorem iU{G H H':Hp}{l:Addr}{vs:List V}{ds:List PyData}(e0:AU G H)(e:AU H H')(hl:H' l=some (.tup vs))(d:Ax G ds vs):∃G',AU G G'∧Nw G H G'∧AU G' H'∧Du G' (.tuple ds) (.ref l):=by
 have e1:AU G (upd G l (.tup vs)):=fun a o h=>by
  by_cases ha:a=l
  ·subst ha;have:=e _ _ (e0 _ _ h);rw[hl]at this;rw[Ad];exact this
  ·rw[AW ha];exact h
 refine⟨upd G l (.tup vs),e1,fun a u h=>?_,fun a u h=>?_,?_⟩
 ·by_cases ha:a=l
  ·subst ha;rw[Ad]at h;cases h;exact .inr (.inr ⟨_,rfl⟩)
  ·rw[AW ha]at h;exact .inl h
 ·by_cases ha:a=l
  ·subst ha;rw[Ad]at h;rw[hl];exact h
  ·rw[AW ha]at h;exact e _ _ (e0 _ _ h)
 ·rw[Du];exact⟨l,vs,rfl,Ad,d.same e1⟩
theorem RN{G:Hp}:∀ps:List Int,Ax G (ps.map .int) (ps.map V.int)
 |[]=>.nil
 |p::ps=>.cons (by rw[Du]) (RN ps)
section
variable{P:Program}{w:World}{K:PySem.W.Frag}{mg:Str→Option Value}{base:Heap}{CX:F0}{k:Nat}{f:Addr}{fd:FuncData}{ps:List Str}
def mB(q:PyData→Bool):List PyData→Option PyData
 |[d]=>if d.canLay0=true then some (.bool (q d)) else none
 |_=>none
theorem Y4{q:PyData→Bool}{d:PyData}(h:d.canLay0=true):mB q [d]=some (.bool (q d)):=if_pos h
theorem SF{q:PyData→Bool}{d:PyData}{b:Bool}(h:d.canLay0=true)(e:q d=b):mB q [d]=some (.bool b):=(Y4 h).trans (by rw[e])
theorem ij{sp:Sp}{q:PyData→Bool}(F:Ab P w K mg base CX k f fd ps sp)(h:∀(l:Addr) d v H Q E,Dt l H d v→(∀H',AU H H'→Q (.bl (q d)) H')→sp [v] H Q E):Ab P w K mg base CX k f fd ps (BR (mB q)) :=
 UX F fun ds x hm G H vs Q E d e kk=>by
  unfold mB at hm;split at hm
  ·split at hm
   ·rename_i dd hc;cases hm;obtain⟨v,rfl,d1⟩:=d.JR;obtain⟨N,b⟩:=Yu hc (d1.same e);exact h N _ v H Q E (b N (aJ _)) fun H' e'=>kk _ G H' (.refl _) Nw.refl (e.trans e') e' (by rw[Du])
   ·cases hm
  ·cases hm
end
theorem g8{H H':Hp}{a:Addr}(e:AU H H')(h:H' a=none):H a=none:=by
 cases hx:H a with
 |none=>rfl
 |some o=>have:=e _ _ hx;rw[h]at this;cases this
theorem Vw{H:Hp}{qs:List Rat}{xs:List V}{i:Nat}{x:V}(h:Bo H (Bi qs) xs)(hx:xs[i]? = some x):∃q p,x=.ref p∧qs[i]? = some q∧H p=some (.tup (Dh q)):=by
 have hl:=h.len;rw[FZ]at hl;have hi:i<qs.length:=by rw[←hl];exact(aE.mp hx).1
 have hq:qs[i]? = some qs[i]:=by simp[hi]
 obtain⟨v,h1,h2⟩:=h.get (i:=i) (d:=Bt qs[i]) (by rw[Bi,List.getElem?_map,hq];rfl);rw[hx]at h1;cases h1;obtain⟨p,rfl,hp⟩:=h2.rat;exact⟨_,p,rfl,hq,hp⟩
def Small(t:Tb):Prop:=(∀r∈t.rs,∀q∈r,FM.Fits q 3)∧∀q∈t.ls,FM.Fits q 60
def T1:Sp:=fun vs H Q _=>∃(x:Int) (most:Nat),vs=[.int x,.int most]∧1≤most∧most≤5∧∀v H' t,AU H H'→DU H' (CV t) v→t.Ok most→Small t→i5 H H' v→Q v H'
def Rows(H0:Hp)(R:Addr)(H:Hp)(i:Nat):Prop:=∃rs xs,H R=some (.lst xs)∧Aj R H (EX rs) xs∧rs.length=i∧(∀(j:Nat) r,rs[j]? = some r→r.length=j)∧(∀r∈rs,∀q∈r,FM.Fits q 3)∧(∀x∈xs,∃r ws,x=V.ref r∧r≠R∧H0 r=none∧H r=some (.lst ws)) ∧
 (i≠0→∃rs0 xs0 qs ys A,rs=rs0++[qs]∧xs=xs0++[.ref A]∧H0 A=none∧A≠R∧H A=some (.lst ys)∧Bo H (Bi qs) ys∧(∀q∈qs,FM.Fits q 3)∧Aj R H (EX rs0) xs0∧Aj A H (EX rs0) xs0)
theorem fi{H0:Hp}{R:Addr}{H:Hp}(h:H R=some (.lst [])):Rows H0 R H 0:=⟨[],[],h,.nil,rfl,fun j r z=>by simp at z,fun r z=>(List.not_mem_nil z).elim,fun r z=>(List.not_mem_nil z).elim,fun z=>absurd rfl z⟩
theorem W9{R A:Addr}{H0 H2 H':Hp}{xs ys:List V}{rs:List (List Rat)}{qs:List Rat}{i:Nat}(hR:H2 R=some (.lst xs))(d:Aj R H2 (EX rs) xs)(hl:rs.length=i)(hj:∀(j:Nat) r,rs[j]? = some r→r.length=j)
 (hf:∀r∈rs,∀q∈r,FM.Fits q 3)(hnew:∀x∈xs,∃r ws,x=V.ref r∧r≠R∧H0 r=none∧H2 r=some (.lst ws))(hA0:H0 A=none)(hA:H2 A=none)(e:AU H2 H')(hA':H' A=some (.lst ys))(dy:Bo H' (Bi qs) ys)(hq:qs.length=i)(hqf:∀q∈qs,FM.Fits q 3) :
  Rows H0 R (upd H' R (.lst (xs++[.ref A]))) (i+1):=by
 have nA:A≠R:=fun z=>by subst z;rw[hR]at hA;cases hA
 have hR':=e _ _ hR;have dR:=d.same e;have dA:=(Hu hA d).same e;have u:SameBut R H' (upd H' R (.lst (xs++[.ref A]))):=.upd;refine⟨rs++[qs],xs++[.ref A],Ad,?_,by simp[hl],fun j r hr=>?_,fun r hr q hq=>?_,fun x hx=>?_,fun _=>⟨rs,xs,qs,ys,A,rfl,rfl,hA0,nA,by rw[AW nA];exact hA',IG hR' u dy,hqf,dR.but u,HF u dA dR⟩⟩
 ·rw[EX,List.map_append];exact .but u (dR.app (.cons (Wy hR' nA hA' dy) .nil))
 ·by_cases z:j<rs.length
  ·rw[List.getElem?_append_left z]at hr;exact hj j r hr
  ·rw[List.getElem?_append_right (by lia)]at hr;have:=(aE.mp hr).1;rw[List.length_singleton]at this;rw[show j-rs.length=0 by lia]at hr;cases hr
   lia
 ·rcases aT.mp hr with hr|hr
  ·exact hf r hr q hq
  ·rw[List.mem_singleton.mp hr]at hq;exact(hqf q hq).mono
 ·rcases aT.mp hx with hx|hx
  ·obtain⟨r,ws,rfl,k1,k2,k3⟩:=hnew x hx;exact⟨r,ws,rfl,k1,k2,by rw[AW k1];exact e _ _ k3⟩
  ·rw[List.mem_singleton.mp hx];exact⟨A,ys,rfl,nA,hA0,by rw[AW nA];exact hA'⟩
theorem bP{xs:List V}{lo hi:Option Int}{x:V}(h:x∈Ih xs lo hi):x∈xs:=ar (bC h)
theorem Sj{p:Rat}{n:Nat}(h:FM.Fits p n):FM.Fits (-p) n:=by
 refine⟨?_,?_⟩
 ·rw[Rat.neg_num,Int.natAbs_neg];exact h.1
 ·rw[Rat.neg_den];exact h.2
theorem ZZ(p:Rat):[V.int (0-p.num),V.int (p.den:Int)]=Dh (-p):=by
 rw[Dh,Rat.neg_num,Rat.neg_den,Int.zero_sub]
theorem gk:[V.int 0,V.int 1]=Dh 0:=rfl
theorem g7:[V.int 1,V.int 1]=Dh 1:=rfl
theorem fz:FM.Fits 0 4:=⟨by decide,by decide⟩
theorem WX:FM.Fits 1 4:=⟨by decide,by decide⟩
section
variable{P:Program}{w:World}{K:PySem.W.Frag}{mg:Str→Option Value}{base:Heap}{f g1 g2:Addr}{fd gd1 gd2:FuncData}
theorem QS:Al ["_law_rest_here", "_law_most", "_law_many", "_law_mode", "_law_rows", "_law_k", "_law_row_here", "_law_j", "_law_last", "_law_total", "_law_part_here"] ["_law_rest_here", "_law_most"] (AN JN):=⟨rfl,rfl,rfl,by decide +kernel,rfl,by decide +kernel,by decide +kernel⟩
theorem QV(F:Fn K mg "_law_table" JN ["_law_rest_here", "_law_most"] f fd)(Bl:Fn K mg "_law_ratio" Ef ["_law_top", "_law_bottom"] g1 gd1)(Gn:Fn K mg "_law_sum" Li ["_law_one", "_law_other"] g2 gd2)
 (Cv:Ab P w K mg base Ao 3 g1 gd1 ["_law_top", "_law_bottom"] Ro)(OV:Ab P w K mg base Ao 3 g2 gd2 ["_law_one", "_law_other"] (ez K (fun p q=>p+q) (fun _=>True)))(Dq:mg "range" = none):Ab P w K mg base Ao 4 f fd ["_law_rest_here", "_law_most"] T1:=by
 have sc:=QS;refine F.F.ok (k:=3) sc (fun vs H Q E h=>?_) (fun cdv A outer s H vs Q E hr h=>?_)
 ·obtain⟨x,most,rfl,_⟩:=h
  rfl
 obtain⟨x,most,rfl,hm1,hm5,q⟩:=h;refine⟨_,(A4 (Bp (i:=2) sc.nd rfl (Or.inl rfl) (Bn Ke Ah (Bn JI (pv 0) (pv 1))))
 (A4 (Bp (i:=3) sc.nd rfl (Or.inl rfl) (Bn OD (Bn JQ (pv 0) (pv 1)) Ah))
 (A4 (Bp (i:=0) sc.nd rfl (Or.inl rfl) (Bn JQ (pv 0) (Bn Kr Ah (pv 1))))
 (A4 (Bp (i:=4) sc.nd rfl (Or.inl rfl) (O0 Af))
 (A4 (Ko az rfl (Mh rfl Dq (AM (Bn Ke (pv 2) Ah) Af)) (El (i:=5) sc.nd rfl (Or.inl rfl))
  (A4 (Bp (i:=6) sc.nd rfl (Or.inl rfl) (O0 Af))
  (A4 (Ko az rfl (Mh rfl Dq (AM (pv 5) Af)) (El (i:=7) sc.nd rfl (Or.inl rfl))
   (A4 (E7 (Fl aX PySem.F.slot_list_append PySem.F.type_list_append Ge (pv 6) (AM (EN Bl Cv hr rfl (AM (Bn N7 (Bn OD (pv 0) Ah) Ah) (AM (Bn Ke Ah (Bn OD (Bn Kh (pv 0) Ah) Ah)) Af))) Af)))
   (BH (Bp (i:=0) sc.nd rfl (Or.inl rfl) (Bn Kh (pv 0) Ah)))))
  (BH (E7 (Fl aX PySem.F.slot_list_append PySem.F.type_list_append Ge (pv 4) (AM (pv 6) Af)))))))
 (A4 (Bp (i:=8) sc.nd rfl (Or.inl rfl) (Qr aX PySem.F.slot_list_pop PySem.F.type_list_pop gA (pv 4)))
 (A4 (FL (Ek Qg (pv 3) Ah (Ae _))
  (A4 (Bp (i:=9) sc.nd rfl (Or.inl rfl) (Jn (AM Ah (AM Ah Af))))
  (A4 (Ko az rfl (PU (RH TY (pv 8) Te (UJ (Ur SE Ah)))) (El (i:=10) sc.nd rfl (Or.inl rfl))
   (BH (Bp (i:=9) sc.nd rfl (Or.inl rfl) (EN Gn OV hr rfl (AM (pv 9) (AM (pv 10) Af))))))
  (BH (L8 (EN Gn OV hr rfl (AM (Jn (AM Ah (AM Ah Af))) (AM (Jn (AM (Bn N7 Ah (CM CD (pv 9) Ah (fun _ _=>rfl))) (AM (CM CD (pv 9) Ah (fun _ _=>rfl)) Af))) Af))) (K2 (pv 8) (Ur SE Ah) set_list)))))
  DQ)
 (BH (Cs (Jn (AM (pv 4) (AM (pv 8) Af)))))))))))),?_⟩
 have m0:(most:Int)≠0:=by lia
 refine⟨_,rfl,_,rfl,_,_,rfl,rfl,m0,_,_,rfl,rfl,?_⟩;obtain⟨many,hn1,hn5,em⟩:∃many:Nat,1≤many∧many≤most∧1+x.fmod most=(many:Int):=by
  have e:=Int.fmod_eq_emod_of_nonneg x (show(0:Int)≤(most:Int) by lia);have a:=Int.emod_nonneg x m0;have b:=Int.emod_lt_of_pos x (show(0:Int)<(most:Int) by lia);exact⟨(1+x.fmod most).toNat,by lia,by lia,by lia⟩
 rw[show((fun i j:Int=>V.int (i+j)) 1 (x.fmod most))=V.int (many:Int) from aM V.int em];refine⟨_,rfl,_,rfl,_,_,rfl,rfl,⟨m0,8,by decide,by lia⟩,_,_,rfl,rfl,(by show(0:Int)<4;decide),?_⟩;obtain⟨md,hmd⟩:∃md,md=x.fdiv most % 4:=⟨_,rfl⟩;refine⟨_,rfl,_,rfl,_,_,rfl,rfl,mulC (by lia) (by lia),_,_,rfl,rfl,⟨by lia,8,by decide,by lia⟩,?_⟩;refine⟨LS (show 0≤60 by decide),fun R hR=>?_⟩;have e1:=BP hR (.lst []);have hR1:upd H R (.lst []) R=some (.lst []):=Ad;generalize upd H R (.lst [])=H1 at e1 hR1;refine⟨_,rfl,_,_,rfl,rfl,(many:Int)+1,rfl,by lia,by lia,QN (n:=((many:Int)+1).toNat) (fun i σ H'=>∃(y:Int) (r5 r6 r7:Option V),σ=[some (.int y),some (.int most),some (.int many),some (.int md),some (.ref R),r5,r6,r7,none,none,none]∧AU H H'∧Rows H R H' i) ?_ ?_ ?_⟩
 ·subst hmd;exact⟨_,_,_,_,rfl,e1,fi hR1⟩
 ·rintro i σ H2 hi ⟨y,r5,r6,r7,rfl,e2,rs,xs,hR2,dx,hrl,hrj,hrf,hnew,_⟩;refine⟨LS (show 0≤60 by decide),fun A hA=>?_⟩;have e3:=BP hA (.lst []);have hA3:upd H2 A (.lst []) A=some (.lst []):=Ad;generalize upd H2 A (.lst [])=H3 at e3 hA3;refine⟨_,rfl,0+(i:Int),rfl,by lia,by lia,QN (n:=(0+(i:Int)).toNat) (fun j σ H'=>∃(y:Int) (r7:Option V),σ=[some (.int y),some (.int most),some (.int many),some (.int md),some (.ref R),some (.int (0+(i:Int))),some (.ref A),r7,none,none,none]∧AU H2 H'∧∃qs ys,H' A=some (.lst ys)∧Bo H' (Bi qs) ys∧qs.length=j∧∀q∈qs,FM.Fits q 3) ?_ ?_ ?_⟩
  ·exact⟨_,_,rfl,e3,[],[],hA3,.nil,rfl,fun _ z=>(List.not_mem_nil z).elim⟩
  ·rintro j σ H4 hj ⟨y,r7,rfl,e4,qs,ys,hA4,dy,hql,hqf⟩;have hyl:ys.length=j:=by rw[dy.len,FZ,hql]
   refine⟨_,rfl,.inl ⟨rfl,_,BI.of hA4⟩,_,rfl,_,_,rfl,rfl,(by show(0:Int)<13;decide),_,_,rfl,rfl,_,rfl,_,_,rfl,rfl,⟨by decide,by decide⟩,_,_,rfl,rfl,(by show(0:Int)<6;decide),_,_,rfl,rfl,?_⟩;refine⟨y % 13-6,1+y / 13 % 6,3,rfl,by lia,by decide,by lia,fun l H5 e5 hl=>?_⟩;have hA5:=e5 _ _ hA4;have ft:FM.Fits (Rat.divInt (y % 13-6) (1+y / 13 % 6)) 3:=.W0 (by lia) (by lia) (by lia);refine⟨A,ys,_,rfl,rfl,hA5,eY (n:=60) (by lia) (by decide),?_⟩;refine⟨_,rfl,_,_,rfl,rfl,⟨by decide,by decide⟩,_,_,rfl,fun b o zz=>?_,qs++[Rat.divInt (y % 13-6) (1+y / 13 % 6)],ys++[.ref l],Ad,?_,by simp[hql],fun q' hq'=>?_⟩
   ·rw[AW (BG zz hA)];exact e5 _ _ (e4 _ _ zz)
   ·have dn:Bo H5 (Bi (qs++[Rat.divInt (y % 13-6) (1+y / 13 % 6)])) (ys++[.ref l]):=by
     rw[WN];exact(dy.same e5).app (.cons (RM hl) .nil)
    exact IG hA5 .upd dn
   ·rcases aT.mp hq' with h|h
    ·exact hqf _ h
    ·rw[List.mem_singleton.mp h];exact ft
  ·rintro σ H4 ⟨y,r7,rfl,e4,qs,ys,hA4,dy,hql,hqf⟩;have hxl:xs.length=i:=by rw[dx.len,LM,hrl]
   have hR4:=e4 _ _ hR2;refine⟨_,rfl,.inl ⟨rfl,_,BI.of hR4⟩,_,rfl,R,xs,_,rfl,rfl,hR4,eY (n:=60) (by lia) (by decide),?_⟩;refine⟨_,_,_,_,rfl,fun b o zz=>?_,W9 hR2 dx hrl hrj hrf hnew (g8 e2 hA) hA e4 hA4 dy (by lia) hqf⟩;rw[AW (BG zz hR)];exact e4 _ _ (e2 _ _ zz)
 rintro σ H2 ⟨y,r5,r6,r7,rfl,e2,rs,xs,hR2,dx,hrl,hrj,hrf,hnew,hlast⟩;obtain⟨rs0,xs0,qs,ys,A,rfl,rfl,hAn,nA,hA2,dy,hqf,d0,dA⟩:=hlast (by lia);have hl0:rs0.length=many:=by simp at hrl;lia
 have hx0:xs0.length=many:=by rw[d0.len,LM,hl0]
 have hql:qs.length=many:=hrj many qs (by rw[List.getElem?_append_right (by lia),hl0,Nat.sub_self];rfl);have hyl:ys.length=many:=by rw[dy.len,FZ,hql]
 refine⟨_,rfl,.inl ⟨rfl,_,BI.of hR2⟩,R,xs0++[.ref A],.ref A,rfl,rfl,hR2,by simp,?_⟩;rw[List.dropLast_concat];have u:SameBut R H2 (upd H2 R (.lst xs0)):=.upd;have hR3:upd H2 R (.lst xs0) R=some (.lst xs0):=Ad;have e3:AU H (upd H2 R (.lst xs0)):=fun b o zz=>by rw[AW (BG zz hR)];exact e2 _ _ zz
 have hA3:upd H2 R (.lst xs0) A=some (.lst ys):=by rw[AW nA];exact hA2
 have dy:=IG hR2 u dy;have dA:=HF u dA d0;have hnew:∀x∈xs0,∃r ws,x=V.ref r∧r≠R∧H r=none∧upd H2 R (.lst xs0) r=some (.lst ws):=fun x hx=>by
  obtain⟨r,ws,rfl,k1,k2,k3⟩:=hnew x (List.mem_append_left _ hx);exact⟨r,ws,rfl,k1,k2,by rw[AW k1];exact k3⟩
 have d0:=d0.but u;clear dx hR2 hA2 e2 u;generalize upd H2 R (.lst xs0)=H3 at hR3 e3 hA3 dy dA d0 hnew;have ok:∀ls:List Rat,ls.length=many→(Tb.mk rs0 ls).Ok most:=fun ls hls=>⟨by show 1≤rs0.length;lia,by show rs0.length≤most;lia,by show ls.length=rs0.length;lia,fun i r hr=>hrj i r (by rw[List.getElem?_append_left (aE.mp hr).1];exact hr)⟩;have sm0:∀r∈rs0,∀q∈r,FM.Fits q 3:=fun r hr=>hrf r (List.mem_append_left _ hr);refine⟨_,rfl,_,_,rfl,rfl,_,rfl,FE (fun c=>?_) (fun c=>?_)⟩
 ·refine⟨LS (show 2≤60 by decide),fun p hp=>?_⟩;rw[gk];have e4:=BP hp (.tup (Dh 0));have hp4:upd H3 p (.tup (Dh 0)) p=some (.tup (Dh 0)):=Ad;generalize upd H3 p (.tup (Dh 0))=H4 at e4 hp4;refine⟨_,rfl,_,rfl,_,rfl,A,ys,rfl,BI.of (e4 _ _ hA3),fun C hC=>?_⟩;have hcl:(Ih ys none (some (-1))).length≤5:=aH (KO _ _ _) (by lia);have hcm:∀x∈Ih ys none (some (-1)),x∈ys:=fun x hx=>bP hx;generalize Ih ys none (some (-1))=cs at hcl hcm;have e5:=BP hC (.lst cs);have hC5:upd H4 C (.lst cs) C=some (.lst cs):=Ad;generalize upd H4 C (.lst cs)=H5 at e5 hC5;refine⟨C,rfl,⟨_,BI.of hC5⟩,Q6 (xs:=cs) (fun i σ H'=>∃(l:Addr) (t:Rat) (r10:Option V),σ=[some (.int y),some (.int most),some (.int many),some (.int md),some (.ref R),r5,r6,r7,some (.ref A),some (.ref l),r10]∧AU H5 H'∧H' l=some (.tup (Dh t))∧FM.Fits t (4+5*i)) ?_ ?_ ?_ ?_⟩
  ·exact⟨p,0,_,rfl,.refl _,e5 _ _ hp4,fz⟩
  ·rintro i σ H6 _ ⟨l,t,r10,rfl,e6,_⟩;exact BI.of (e6 _ _ hC5)
  ·rintro i v σ H6 hx ⟨l,t,r10,rfl,e6,hl,ft⟩;have hi:i<cs.length:=(aE.mp hx).1;obtain⟨j,hj⟩:=bH (hcm v (aW hx));obtain⟨q',pq,rfl,hq',hpq⟩:=Vw dy hj;have E6:=e4.trans (e5.trans e6);have f':=hqf q' (aW hq');refine⟨_,rfl,_,rfl,_,_,t,q',40,rfl,Rt.of hl,Rt.of (E6 _ _ hpq),ft.mono (by lia),f'.mono,by decide,trivial,fun l2 H7 e7 hl2=>?_⟩;exact⟨l2,_,_,rfl,e6.trans e7,hl2,(ft.sum f').mono (by lia)⟩
  ·rintro σ H6 ⟨l,t,r10,rfl,e6,hl,ft⟩;have E6:=e4.trans (e5.trans e6);refine⟨LS (show 2≤60 by decide),fun p1 hp1=>?_⟩;rw[g7];have e7:=BP hp1 (.tup (Dh 1));have h7:upd H6 p1 (.tup (Dh 1)) p1=some (.tup (Dh 1)):=Ad;generalize upd H6 p1 (.tup (Dh 1))=H7 at e7 h7;refine⟨_,rfl,_,_,_,_,rfl,rfl,CS.of (e7 _ _ hl),rfl,_,_,rfl,rfl,_,rfl,_,_,_,_,rfl,rfl,CS.of (e7 _ _ hl),rfl,LS (show 2≤60 by decide),fun p2 hp2=>?_⟩;have hw:([V.int (0-t.num),V.int (t.den:Int)]:List V)=Dh (-t):=ZZ t
   first
    |rw[hw]
    |skip
   have e8:=BP hp2 (.tup (Dh (-t)));have h8:upd H7 p2 (.tup (Dh (-t))) p2=some (.tup (Dh (-t))):=Ad;generalize upd H7 p2 (.tup (Dh (-t)))=H8 at e8 h8;have ft:FM.Fits t 40:=ft.mono (by lia);refine⟨_,_,1,-t,40,rfl,Rt.of (e8 _ _ h7),Rt.of h8,WX.mono,Sj ft,by decide,trivial,fun l2 H9 e9 hl2=>?_⟩;have E9:=E6.trans (e7.trans (e8.trans e9));have hA9:=E9 _ _ hA3;have ft2:FM.Fits (1 + -t) 60:=(WX.sum (Sj ft)).mono;refine⟨_,rfl,_,rfl,A,ys,-1,many-1,rfl,rfl,hA9,?_,?_⟩
   ·unfold HU;rw[if_neg (by decide),if_pos (by lia)]
    congr 1
    lia
   have u:SameBut A H9 (upd H9 A (.lst (ys.set (many-1) (.ref l2)))):=.upd;have hA10:upd H9 A (.lst (ys.set (many-1) (.ref l2))) A=some (.lst (ys.set (many-1) (.ref l2))):=Ad;have hR10:upd H9 A (.lst (ys.set (many-1) (.ref l2))) R=some (.lst xs0):=by rw[AW nA.symm];exact E9 _ _ hR3
   have d10:Bo (upd H9 A (.lst (ys.set (many-1) (.ref l2)))) (EX rs0) xs0:=GW ((dA.same E9).but u);have dn:Bo H9 (Bi (qs.set (many-1) (1 + -t))) (ys.set (many-1) (.ref l2)):=by
    rw[Bi,List.map_set];exact Bo.set (RM hl2) (dy.same E9)
   have dn:=IG hA9 u dn;have e10:AU H (upd H9 A (.lst (ys.set (many-1) (.ref l2)))):=fun b o zz=>by rw[AW (BG zz hAn)];exact E9 _ _ (e3 _ _ zz)
   have hnew:∀x∈xs0,∃r ws,x=V.ref r∧r≠R∧H r=none∧upd H9 A (.lst (ys.set (many-1) (.ref l2))) r=some (.lst ws):=fun x hx=>by
    obtain⟨r,ws,rfl,k1,k2,k3⟩:=hnew x hx;by_cases z:r=A
    ·subst z;exact⟨r,_,rfl,k1,k2,Ad⟩
    ·exact⟨r,ws,rfl,k1,k2,by rw[AW z];exact E9 _ _ k3⟩
   generalize upd H9 A (.lst (ys.set (many-1) (.ref l2)))=H10 at hA10 hR10 d10 dn e10 hnew;refine⟨_,rfl,_,rfl,LS (show 2≤60 by decide),fun t0 ht=>?_⟩;have e11:=BP ht (.tup [V.ref R,V.ref A]);have h11:upd H10 t0 (.tup [V.ref R,V.ref A]) t0=some (.tup [V.ref R,V.ref A]):=Ad;generalize upd H10 t0 (.tup [V.ref R,V.ref A])=H11 at e11 h11;refine q _ H11 ⟨rs0,qs.set (many-1) (1 + -t)⟩ (e10.trans e11) (Q7 h11 (e11 _ _ hR10) (d10.same e11) (e11 _ _ hA10) (dn.same e11)) (ok _ (by rw[List.length_set];exact hql)) ⟨sm0,fun q' hq'=>?_⟩ ⟨t0,R,A,xs0,_,rfl,h11,e11 _ _ hR10,hR,e11 _ _ hA10,hAn,fun x hx=>?_⟩
   rotate_left
   ·obtain⟨r,ws,k0,k1,k2,k3⟩:=hnew x hx;exact⟨r,ws,k0,k1,k2,e11 _ _ k3⟩
   rcases bA hq' with h|rfl
   ·exact(hqf q' h).mono
   ·exact ft2
 ·refine⟨_,rfl,_,rfl,LS (show 2≤60 by decide),fun t0 ht=>?_⟩;have e11:=BP ht (.tup [V.ref R,V.ref A]);have h11:upd H3 t0 (.tup [V.ref R,V.ref A]) t0=some (.tup [V.ref R,V.ref A]):=Ad;generalize upd H3 t0 (.tup [V.ref R,V.ref A])=H11 at e11 h11;exact q _ H11 ⟨rs0,qs⟩ (e3.trans e11) (Q7 h11 (e11 _ _ hR3) ((GW d0).same e11) (e11 _ _ hA3) (dy.same e11)) (ok _ hql) ⟨sm0,fun q' hq'=>(hqf q' hq').mono⟩ ⟨t0,R,A,xs0,_,rfl,h11,e11 _ _ hR3,hR,e11 _ _ hA3,hAn,fun x hx=>by
   obtain⟨r,ws,k0,k1,k2,k3⟩:=hnew x hx;exact⟨r,ws,k0,k1,k2,e11 _ _ k3⟩⟩
end
section
variable{P:Program}{w:World}{K:PySem.W.Frag}{mg:Str→Option Value}{base:Heap}{f:Addr}{fd:FuncData}
theorem II:Al ["thing"] ["thing"] (AN F4):=⟨rfl,rfl,rfl,by decide +kernel,rfl,by decide +kernel,by decide +kernel⟩
def F7(B9:List PyData→Option PyData)(C_NoTable:Addr):FJ :=
 (V2 (Dw (Cz (AJ B9 (AB (nm 0) AH))))
  (RY C_NoTable (fC (.str (Str.ofString "a table is a tuple of rows, the k-th of k fractions, and a last of as many as there are rows"))))
  (fun δ=>some (.inl (.nx δ))))
def Bh(B9:List PyData→Option PyData)(C_NoTable:Addr):List PyData→Option Xr:=GS ["thing"] ["thing"] (F7 B9 C_NoTable)
theorem Mp{k:Nat}{B9:List PyData→Option PyData}{C_NoTable:Addr}(F:Fn K mg "refuse_no_table" F4 ["thing"] f fd)
 {G9:Addr}{GB:FuncData}(Et:Fn K mg "is_table" JA ["thing"] G9 GB)(Ft:Ab P w K mg base Ao k G9 GB ["thing"] (BR B9))(X_NoTable:Exc K mg "NoTable" C_NoTable) :
  Ab P w K mg base (Cy P w) (k+1) f fd ["thing"] (Gu (Bh B9 C_NoTable)):=ig F II fun cdv A outer s H E hr=>by
 have sc:=II;exact(PF (ZD (Eb (Di (A8 Et Ft hr rfl (AD (AA (pv 0)) AK))))
  (PF (by exact Rk X_NoTable Yd Ac))
  Uc))
theorem JM:Al ["part", "top", "bottom"] ["part"] (AN FK):=⟨rfl,rfl,rfl,by decide +kernel,rfl,by decide +kernel,by decide +kernel⟩
def J0:DF :=
 (AX (Av 1 (AE Ap (nm 0) (fC (.int 0))))
 (AX (Av 2 (AE Ap (nm 0) (fC (.int 1))))
 (A3 (jw (AY (A0 false) (nm 2) (fC (.int 1))) (fun δ=>((nm 1) δ).bind LV) (ZC (fun δ=>((nm 1) δ).bind LV) (fC (.str (Str.ofString "/"))) (fun δ=>((nm 2) δ).bind LV))))))
def Ak:List PyData→Option PyData:=CY ["part"] ["part", "top", "bottom"] (J0)
theorem Nf{k:Nat}(F:Fn K mg "fraction_text" FK ["part"] f fd) :
  Ab P w K mg base Ao (k+1) f fd ["part"] (BR (Ak)):=HV F JM fun cdv A outer s H E hr=>by
 have sc:=JM;exact(AQ (Aw (i:=1) sc.nd rfl (Or.inl rfl) (A6 (AA (pv 0)) AG (fun _ _=>rfl)))
 (AQ (Aw (i:=2) sc.nd rfl (Or.inl rfl) (A6 (AA (pv 0)) AG (fun _ _=>rfl)))
 (Aa (Ay (gb (Aq (DC (by have:=hr.units;exact this)) (AA (pv 2)) AG (Ae _)) (gL (SO (AA (pv 1)))) (iE (SO (AA (pv 1))) Ac (SO (AA (pv 2)))))))))
theorem Ii:Al ["some"] ["some"] (AN GP):=⟨rfl,rfl,rfl,by decide +kernel,rfl,by decide +kernel,by decide +kernel⟩
def Nz(Ak:List PyData→Option PyData):DF :=
 (Qn (Fg (B3 1) D8 (AJ Ak (AB (nm 1) AH)) [none,none] (D9 (nm 0))))
def Bc(Ak:List PyData→Option PyData):List PyData→Option PyData:=CY ["some"] ["some"] (Nz Ak)
theorem NF{k:Nat}{Ak:List PyData→Option PyData}(F:Fn K mg "fraction_texts" GP ["some"] f fd)
 {ES:Addr}{Dy:FuncData}(Cg:Fn K mg "fraction_text" FK ["part"] ES Dy)(DR:Ab P w K mg base Ao k ES Dy ["part"] (BR Ak)) :
  Ab P w K mg base Ao (k+1) f fd ["some"] (BR (Bc Ak)):=HV F Ii fun cdv A outer s H E hr=>by
 have sc:=Ii;exact(Aa (ZX [".0", "part"] 1 [none,none] (EM (AA (pv 0))) (fun _ _ _ _ _=>Dp) (fun _ _ _ _ _=>(A8 Cg DR hr rfl (AD (AA (pv 1)) AK)))))
theorem Km:Al ["table", "lines"] ["table"] (AN GL):=⟨rfl,rfl,rfl,by decide +kernel,rfl,by decide +kernel,by decide +kernel⟩
def IZ(Bc:List PyData→Option PyData)(Bh:List PyData→Option Xr):FJ :=
 (Gq (Qd Bh (AB (nm 0) AH) fun _ δ=>.nx δ)
 (NM (AX (VR 1 (Fg (B3 1) D8 (AE Cj (fC (.str (Str.ofString " "))) (AE Az (B6 (AB (fC (.str (Str.ofString "row"))) AH)) (AJ Bc (AB (nm 1) AH)))) [none,none] (D9 (AE Ap (nm 0) (fC (.int 0))))))
 (AX (RP 1 (AE Cj (fC (.str (Str.ofString " "))) (AE Az (B6 (AB (fC (.str (Str.ofString "last"))) AH)) (AJ Bc (AB (AE Ap (nm 0) (fC (.int 1))) AH)))))
 (Pj 1 (A3 (AE Cj (fC (.str (Str.ofString "\n"))) (nm 1))))))))
def BF(Bc:List PyData→Option PyData)(Bh:List PyData→Option Xr):List PyData→Option Xr:=GS ["table"] ["table", "lines"] (IZ Bc Bh)
theorem PJ{k:Nat}{Bc:List PyData→Option PyData}{Bh:List PyData→Option Xr}(F:Fn K mg "shown_table" GL ["table"] f fd)
 {Jo:Addr}{Im:FuncData}(Dz:Fn K mg "fraction_texts" GP ["some"] Jo Im)(Es:Ab P w K mg base Ao k Jo Im ["some"] (BR Bc))
 {Ij:Addr}{IK:FuncData}(EZ:Fn K mg "refuse_no_table" F4 ["thing"] Ij IK)(F6:Ab P w K mg base (Cy P w) k Ij IK ["thing"] (Gu Bh)) :
  Ab P w K mg base (Cy P w) (k+1) f fd ["table"] (Gu (BF Bc Bh)):=ig F Km fun cdv A outer s H E hr=>by
 have sc:=Km;exact(Nk (by exact bq EZ F6 hr gY (by exact(AD (AA (pv 0)) AK)) (fun h=>E7 h))
 (Vh (AQ (Zz (i:=1) [".0", "row"] 1 [none,none] sc.nd rfl rfl (EM (A6 (AA (pv 0)) AG (fun _ _=>rfl))) (fun _ _ _ _ _=>Dp) (fun _ _ _ _ _=>(Ep Ac (AV A2 (CF (AD Ac AK)) (A8 Dz Es hr rfl (AD (AA (pv 1)) AK))))))
 (AQ (QK (pv 1) (Ep Ac (AV A2 (CF (AD Ac AK)) (A8 Dz Es hr rfl (AD (A6 (AA (pv 0)) AG (fun _ _=>rfl)) AK)))) (fun ho ha=>E7 (Fl aX PySem.F.slot_list_append PySem.F.type_list_append Ge ho ha)))
 (Aa (OX 1 (Ay (Ep Ac (AA (pv 1))))))))))
theorem Jy:Al ["_law_script", "_law_k"] ["_law_script", "_law_k"] (AN Fy):=⟨rfl,rfl,rfl,by decide +kernel,rfl,by decide +kernel,by decide +kernel⟩
def He:DF :=
 (AX (Bw (AY (Bv fun i j=>decide (i<j)) (nm 1) (AJ BO (AB (nm 0) AH)))
  (A3 (AE Ap (nm 0) (nm 1)))
  BA)
 (A3 (fC (.int 0))))
def Ar:List PyData→Option PyData:=CY ["_law_script", "_law_k"] ["_law_script", "_law_k"] (He)
theorem OY{k:Nat}(F:Fn K mg "_law_cell_at" Fy ["_law_script", "_law_k"] f fd)(An:mg "len" = none) :
  Ab P w K mg base Ao (k+1) f fd ["_law_script", "_law_k"] (BR (Ar)):=HV F Jy fun cdv A outer s H E hr=>by
 have sc:=Jy;exact(AQ (Bx (Aq NC (AA (pv 1)) (BK DL rfl An aN (AD (AA (pv 0)) AK)) (Ae _))
  (Aa (Ay (A6 (AA (pv 0)) (AA (pv 1)) (fun _ _=>rfl))))
  BB)
 (Aa (Ay AG)))
theorem Lw:Al ["_law_cell", "_law_k", "_law_number_here"] ["_law_cell", "_law_k"] (AN HB):=⟨rfl,rfl,rfl,by decide +kernel,rfl,by decide +kernel,by decide +kernel⟩
def JS:DF :=
 (AX (Av 2 (AE A9 (AE Az (AE Az (AE FU (AE A9 (nm 0) (fC (.int 2147483647))) (fC (.int 48271))) (AE FU (nm 1) (fC (.int 69621)))) (fC (.int 11))) (fC (.int 2147483647))))
 (AX (Av 2 (AE A9 (AE FU (nm 2) (nm 2)) (fC (.int 2147483629))))
 (A3 (AE A9 (AE FU (nm 2) (nm 2)) (fC (.int 2147483587))))))
def A1:List PyData→Option PyData:=CY ["_law_cell", "_law_k"] ["_law_cell", "_law_k", "_law_number_here"] (JS)
theorem QO{k:Nat}(F:Fn K mg "_law_mixed" HB ["_law_cell", "_law_k"] f fd) :
  Ab P w K mg base Ao (k+1) f fd ["_law_cell", "_law_k"] (BR (A1)):=HV F Lw fun cdv A outer s H E hr=>by
 have sc:=Lw;exact(AQ (Aw (i:=2) sc.nd rfl (Or.inl rfl) (AV BJ (AV A2 (AV A2 (AV Fb (AV BJ (AA (pv 0)) AG) AG) (AV Fb (AA (pv 1)) AG)) AG) AG))
 (AQ (Aw (i:=2) sc.nd rfl (Or.inl rfl) (AV BJ (AV Fb (AA (pv 2)) (AA (pv 2))) AG))
 (Aa (Ay (AV BJ (AV Fb (AA (pv 2)) (AA (pv 2))) AG)))))
theorem MO:Al ["_law_script", "_law_k", "_law_cell", "_law_big"] ["_law_script", "_law_k"] (AN KY):=⟨rfl,rfl,rfl,by decide +kernel,rfl,by decide +kernel,by decide +kernel⟩
def KU(Ar:List PyData→Option PyData)(A1:List PyData→Option PyData):DF :=
 (AX (Av 2 (AJ Ar (AB (nm 0) (AB (nm 1) AH))))
 (AX (Bw (AY (Bv fun i j=>decide (j≤i)) (AJ RZ (AB (nm 2) AH)) (AE RJ (fC (.int 10)) (fC (.int 18))))
  (A3 (nm 2))
  BA)
 (AX (Av 3 (AE Az (AJ A1 (AB (nm 2) (AB (nm 1) AH))) (AE FU (AJ A1 (AB (nm 2) (AB (AE Az (nm 1) (fC (.int 500))) AH))) (fC (.int 2147483587)))))
 (A3 (AE Az (nm 3) (AE FU (AE FU (AJ A1 (AB (nm 2) (AB (AE Az (nm 1) (fC (.int 900))) AH))) (fC (.int 2147483587))) (fC (.int 2147483587))))))))
def NN(Ar:List PyData→Option PyData)(A1:List PyData→Option PyData):List PyData→Option PyData:=CY ["_law_script", "_law_k"] ["_law_script", "_law_k", "_law_cell", "_law_big"] (KU Ar A1)
theorem SI{k:Nat}{Ar:List PyData→Option PyData}{A1:List PyData→Option PyData}(F:Fn K mg "_law_rest" KY ["_law_script", "_law_k"] f fd)
 {Eh:Addr}{EK:FuncData}(Cb:Fn K mg "_law_cell_at" Fy ["_law_script", "_law_k"] Eh EK)(C5:Ab P w K mg base Ao k Eh EK ["_law_script", "_law_k"] (BR Ar))
 {FN:Addr}{Ez:FuncData}(CK:Fn K mg "_law_mixed" HB ["_law_cell", "_law_k"] FN Ez)(Co:Ab P w K mg base Ao k FN Ez ["_law_cell", "_law_k"] (BR A1))(Gz:mg "abs" = none) :
  Ab P w K mg base Ao (k+1) f fd ["_law_script", "_law_k"] (BR (NN Ar A1)):=HV F MO fun cdv A outer s H E hr=>by
 have sc:=MO;exact(AQ (Aw (i:=2) sc.nd rfl (Or.inl rfl) (A8 Cb C5 hr rfl (AD (AA (pv 0)) (AD (AA (pv 1)) AK))))
 (AQ (Bx (Aq gu (BK fM rfl Gz bL (AD (AA (pv 2)) AK)) (AV Zt AG AG) (Ae _))
  (Aa (Ay (AA (pv 2))))
  BB)
 (AQ (Aw (i:=3) sc.nd rfl (Or.inl rfl) (AV A2 (A8 CK Co hr rfl (AD (AA (pv 2)) (AD (AA (pv 1)) AK))) (AV Fb (A8 CK Co hr rfl (AD (AA (pv 2)) (AD (AV A2 (AA (pv 1)) AG) AK))) AG)))
 (Aa (Ay (AV A2 (AA (pv 3)) (AV Fb (AV Fb (A8 CK Co hr rfl (AD (AA (pv 2)) (AD (AV A2 (AA (pv 1)) AG) AK))) AG) AG)))))))
theorem Mj:Al ["_law_table_here"] ["_law_table_here"] (AN Ka):=⟨rfl,rfl,rfl,by decide +kernel,rfl,by decide +kernel,by decide +kernel⟩
def S6:DF :=
 (A3 (FD (AB (CO (B3 1) D8 (AJ Hs (AB (nm 1) AH)) [none,none] (D9 (AE Ap (nm 0) (fC (.int 0))))) (AB (AJ Hs (AB (AE Ap (nm 0) (fC (.int 1))) AH)) AH))))
def DJ:List PyData→Option PyData:=CY ["_law_table_here"] ["_law_table_here"] (S6)
theorem RD{k:Nat}(F:Fn K mg "_law_copy" Ka ["_law_table_here"] f fd)(Ck:mg "list" = none) :
  Ab P w K mg base Ao (k+1) f fd ["_law_table_here"] (BR (DJ)):=HV F Mj fun cdv A outer s H E hr=>by
 have sc:=Mj;exact(Aa (Ay (HQ (AD (Ht [".0", "_law_row_here"] 1 [none,none] (EM (A6 (AA (pv 0)) AG (fun _ _=>rfl))) (fun _ _ _ _ _=>Dp) (fun _ _ _ _ _=>(EG UU rfl Ck av (AD (AA (pv 1)) AK)))) (AD (EG UU rfl Ck av (AD (A6 (AA (pv 0)) AG (fun _ _=>rfl)) AK)) AK)))))
theorem Nb:Al ["_law_found", "_law_due", "_law_part_here"] ["_law_found", "_law_due"] (AN LD):=⟨rfl,rfl,rfl,by decide +kernel,rfl,by decide +kernel,by decide +kernel⟩
def OJ:DF :=
 (AX (Bw (Cq (Dw (Cz (Jm Dk (nm 0)))) (AY (A0 true) (nm 0) (nm 1)))
  (A3 (fC (.bool false)))
  BA)
 (AX (MV (D9 (nm 0)) (MW 2)
  (AX (Bw (Dw (Cz (Jm EJ (nm 2))))
   (A3 (fC (.bool false)))
   BA)
  (Bw (AY (A0 true) (CO (B3 1) (Cq (Dw (Cz (Jm HL (nm 1)))) (Cz (Jm Fv (nm 1)))) (nm 1) [none,none] (D9 (nm 2))) (B6 AH))
   (A3 (fC (.bool false)))
   BA)))
 (A3 (fC (.bool true)))))
def CP:List PyData→Option PyData:=CY ["_law_found", "_law_due"] ["_law_found", "_law_due", "_law_part_here"] (OJ)
theorem S4{k:Nat}(F:Fn K mg "_law_row" LD ["_law_found", "_law_due"] f fd)(K7:mg "bool" = none)(DY:mg "int" = none)(AO:mg "isinstance" = none)(Ck:mg "list" = none)(EE:mg "tuple" = none) :
  Ab P w K mg base Ao (k+1) f fd ["_law_found", "_law_due"] (BR (CP)):=HV F Nb fun cdv A outer s H E hr=>by
 have sc:=Nb;exact(AQ (Bx (DW.dt (D5 (Eb (Di (Jf (LA _) rfl AO rfl Ck av (AA (pv 0))))) (DK (Aq (Fh (by have:=hr.units;exact this)) (AA (pv 0)) (AA (pv 1)) (Ae _)))))
  (Aa (Ay HE))
  BB)
 (AQ (Su az rfl (EM (AA (pv 0))) (Ph (El (i:=2) sc.nd rfl (Or.inl rfl)))
  (AQ (Bx (Eb (Di (Jf (LX _) rfl AO rfl EE PyProof.Rows.boot_tuple (AA (pv 2)))))
   (Aa (Ay HE))
   BB)
  (Aa (Bx (Aq (Fh (by have:=hr.units;exact this)) (Ht [".0", "_law_one"] 1 [none,none] (EM (AA (pv 2))) (fun _ _ _ _ _=>(UC (DW.dt (D5 (Eb (Di (Jf (RC _) rfl AO rfl DY aq (AA (pv 1))))) (DK (Di (Jf (QI _) rfl AO rfl K7 PyProof.Rows.boot_bool (AA (pv 1))))))))) (fun _ _ _ _ _=>(AA (pv 1)))) (CF AK) (Ae _))
   (Aa (Ay HE))
   BB))))
 (Aa (Ay HE))))
theorem Mt:Al ["_law_found", "_law_due"] ["_law_found", "_law_due"] (AN KN):=⟨rfl,rfl,rfl,by decide +kernel,rfl,by decide +kernel,by decide +kernel⟩
def NK(CP:List PyData→Option PyData):DF :=
 (AX (Bw (Cq (Dw (Cz (Jm EJ (nm 0)))) (Cq (AY (A0 true) (AJ BO (AB (nm 0) AH)) (fC (.int 2))) (Dw (Cz (Jm Dk (AE Ap (nm 0) (fC (.int 0))))))))
  (A3 (fC (.bool false)))
  BA)
 (AX (Bw (Cq (AY (A0 true) (AJ BO (AB (AE Ap (nm 0) (fC (.int 0))) AH)) (AJ BO (AB (AE Ap (nm 1) (fC (.int 0))) AH))) (Dw (Cz (AJ CP (AB (AE Ap (nm 0) (fC (.int 1))) (AB (AE Ap (nm 1) (fC (.int 1))) AH))))))
  (A3 (fC (.bool false)))
  BA)
 (A3 (AJ Xj (AB (CO (B3 1) D8 (AJ CP (AB (AE Ap (AE Ap (nm 2) (fC (.int 0))) (nm 1)) (AB (AE Ap (AE Ap (nm 3) (fC (.int 0))) (nm 1)) AH))) [none,none,some 0,some 1] (ID IW (AB (AJ BO (AB (AE Ap (nm 1) (fC (.int 0))) AH)) AH))) AH)))))
def NX(CP:List PyData→Option PyData):List PyData→Option PyData:=CY ["_law_found", "_law_due"] ["_law_found", "_law_due"] (NK CP)
theorem Si{k:Nat}{CP:List PyData→Option PyData}(F:Fn K mg "_law_good" KN ["_law_found", "_law_due"] f fd)
 {OU:Addr}{NY:FuncData}(Gw:Fn K mg "_law_row" LD ["_law_found", "_law_due"] OU NY)(Iq:Ab P w K mg base Ao k OU NY ["_law_found", "_law_due"] (BR CP))(VH:mg "all" = none)(AO:mg "isinstance" = none)(An:mg "len" = none)(Ck:mg "list" = none)(Dq:mg "range" = none)(EE:mg "tuple" = none) :
  Ab P w K mg base Ao (k+1) f fd ["_law_found", "_law_due"] (BR (NX CP)):=HV F Mt fun cdv A outer s H E hr=>by
 have sc:=Mt;exact(AQ (Bx (DW.dt (D5 (Eb (Di (Jf (LX _) rfl AO rfl EE PyProof.Rows.boot_tuple (AA (pv 0))))) (D5 (Aq (Fh (by have:=hr.units;exact this)) (BK DL rfl An aN (AD (AA (pv 0)) AK)) AG (Ae _)) (DK (Eb (Di (Jf (LA _) rfl AO rfl Ck av (A6 (AA (pv 0)) AG (fun _ _=>rfl)))))))))
  (Aa (Ay HE))
  BB)
 (AQ (Bx (DW.dt (D5 (Aq (Fh (by have:=hr.units;exact this)) (BK DL rfl An aN (AD (A6 (AA (pv 0)) AG (fun _ _=>rfl)) AK)) (BK DL rfl An aN (AD (A6 (AA (pv 1)) AG (fun _ _=>rfl)) AK)) (Ae _)) (DK (Eb (Di (A8 Gw Iq hr rfl (AD (A6 (AA (pv 0)) AG (fun _ _=>rfl)) (AD (A6 (AA (pv 1)) AG (fun _ _=>rfl)) AK))))))))
  (Aa (Ay HE))
  BB)
 (Aa (Ay (BK (fF rfl) rfl VH PyProof.Rows.boot_all (AD (Ht [".0", "_law_k", "_law_found", "_law_due"] 1 [none,none,some 0,some 1] (MX rfl Dq (AD (BK DL rfl An aN (AD (A6 (AA (pv 1)) AG (fun _ _=>rfl)) AK)) AK)) (fun _ _ _ _ _=>Dp) (fun _ _ _ _ _=>(A8 Gw Iq hr rfl (AD (A6 (A6 (AA (pv 2)) AG (fun _ _=>rfl)) (AA (pv 1)) (fun _ _=>rfl)) (AD (A6 (A6 (AA (pv 3)) AG (fun _ _=>rfl)) (AA (pv 1)) (fun _ _=>rfl)) AK))))) AK))))))
theorem Mq:Al ["_law_some"] ["_law_some"] (AN KL):=⟨rfl,rfl,rfl,by decide +kernel,rfl,by decide +kernel,by decide +kernel⟩
def TM:DF :=
 (A3 (AE Az (AJ LI (AB (AE Ap (nm 0) (fC (.int 0))) AH)) (AE Ap (B6 (AB (AE Az (fC (.str (Str.ofString "/"))) (AJ LI (AB (AE Ap (nm 0) (fC (.int 1))) AH))) (AB (fC (.str (Str.ofString ""))) AH))) (AJ G7 (AB (AE (A0 false) (AE Ap (nm 0) (fC (.int 1))) (fC (.int 1))) AH)))))
def Bd:List PyData→Option PyData:=CY ["_law_some"] ["_law_some"] (TM)
theorem Q5{k:Nat}(F:Fn K mg "_law_part" KL ["_law_some"] f fd)(DY:mg "int" = none)(LC:mg "str" = none) :
  Ab P w K mg base Ao (k+1) f fd ["_law_some"] (BR (Bd)):=HV F Mq fun cdv A outer s H E hr=>by
 have sc:=Mq;exact(Aa (Ay (AV A2 (EG Td rfl LC PyProof.Rows.boot_str (AD (A6 (AA (pv 0)) AG (fun _ _=>rfl)) AK)) (A6 (CF (AD (AV A2 Ac (EG Td rfl LC PyProof.Rows.boot_str (AD (A6 (AA (pv 0)) AG (fun _ _=>rfl)) AK))) (AD Ac AK))) (EG Mz rfl DY aq (AD (MR (DC (by have:=hr.units;exact this)) (A6 (AA (pv 0)) AG (fun _ _=>rfl)) AG (Ae _)) AK)) (fun _ _=>rfl)))))
theorem Kf:Al ["_law_text", "_law_number_here", "_law_sign"] ["_law_text"] (AN IT):=⟨rfl,rfl,rfl,by decide +kernel,rfl,by decide +kernel,by decide +kernel⟩
def Lr:DF :=
 (AX (Bw (Cq (AY (A0 false) (nm 0) (fC (.str (Str.ofString "")))) (Cq (AY (Bv fun i j=>decide (j<i)) (AJ DN (AB (nm 0) AH)) (fC (.int 40))) (Cq (AY (A0 true) (AE Hc (nm 0) (fC (.str (Str.ofString "0123456789")))) (fC (.str (Str.ofString "")))) (Hm (AY (A0 false) (AE Ap (nm 0) (fC (.int 0))) (fC (.str (Str.ofString "0")))) (AY (A0 true) (nm 0) (fC (.str (Str.ofString "0"))))))))
  (A3 (fC .none))
  BA)
 (AX (Av 1 (fC (.int 0)))
 (AX (MV (hU (nm 0)) (MW 2)
  (Av 1 (AE Az (AE FU (nm 1) (fC (.int 10))) (AE Kj (fC (.str (Str.ofString "0123456789"))) (nm 2)))))
 (A3 (nm 1)))))
def BX:List PyData→Option PyData:=CY ["_law_text"] ["_law_text", "_law_number_here", "_law_sign"] (Lr)
theorem Pm{k:Nat}(F:Fn K mg "_law_number" IT ["_law_text"] f fd)(An:mg "len" = none) :
  Ab P w K mg base Ao (k+1) f fd ["_law_text"] (BR (BX)):=HV F Kf fun cdv A outer s H E hr=>by
 have sc:=Kf;exact(AQ (Bx (DW.dt (D5 (Aq (DC (by have:=hr.units;exact this)) (AA (pv 0)) Ac (Ae _)) (D5 (Aq Lf (BK K1 rfl An aN (AD (AA (pv 0)) AK)) AG (Ae _)) (D5 (Aq (Fh (by have:=hr.units;exact this)) (Vt (AA (pv 0)) Ac) Ac (Ae _)) (DK (DW.dt (Sf (Aq (DC (by have:=hr.units;exact this)) (A6 (AA (pv 0)) AG (fun _ _=>rfl)) Ac (Ae _)) (DK (Aq (Fh (by have:=hr.units;exact this)) (AA (pv 0)) Ac (Ae _))))))))))
  (Aa (Ay DM))
  BB)
 (AQ (Aw (i:=1) sc.nd rfl (Or.inl rfl) AG)
 (AQ (Su az rfl (cn (AA (pv 0))) (Ph (El (i:=2) sc.nd rfl (Or.inl rfl)))
  (Aa (Aw (i:=1) sc.nd rfl (Or.inl rfl) (AV A2 (AV Fb (AA (pv 1)) AG) (Vo Ac (AA (pv 2)))))))
 (Aa (Ay (AA (pv 1)))))))
theorem JT:Al ["_law_text", "_law_parts", "_law_low", "_law_top", "_law_bottom"] ["_law_text"] (AN HI):=⟨rfl,rfl,rfl,by decide +kernel,rfl,by decide +kernel,by decide +kernel⟩
def Js(BX:List PyData→Option PyData)(Eg:List PyData→Option PyData):DF :=
 (AX (Av 1 (AE Ca (nm 0) (fC (.str (Str.ofString "/")))))
 (AX (Av 2 (AE (A0 false) (AE Hk (nm 0) (fC (.int 1))) (fC (.str (Str.ofString "-")))))
 (AX (Av 3 (AJ BX (AB (AE KP (AE Ap (nm 1) (fC (.int 0))) (AJ G7 (AB (nm 2) AH))) AH)))
 (AX (Bw (Cq (AY (Oj false) (nm 3) (fC .none)) (Cq (Hm (Cz (nm 2)) (AY (A0 false) (nm 3) (fC (.int 0)))) (AY (Bv fun i j=>decide (j<i)) (AJ BO (AB (nm 1) AH)) (fC (.int 2)))))
  (A3 (fC .none))
  BA)
 (AX (Av 4 (fC (.int 1)))
 (AX (Bw (AY (A0 false) (AJ BO (AB (nm 1) AH)) (fC (.int 2)))
  (AX (Av 4 (AJ BX (AB (AE Ap (nm 1) (fC (.int 1))) AH)))
  (Bw (Cq (AY (Oj false) (nm 4) (fC .none)) (AY (Bv fun i j=>decide (i<j)) (nm 4) (fC (.int 2))))
   (A3 (fC .none))
   BA))
  BA)
 (AX (Bw (AY (A0 true) (AJ Eg (AB (nm 3) (AB (nm 4) AH))) (FD (AB (nm 3) (AB (nm 4) AH))))
  (A3 (fC .none))
  BA)
 (A3 (FD (AB (AE FU (nm 3) (AE Ap (B6 (AB (fC (.int 1)) (AB (GX (fC (.int 1))) AH))) (AJ G7 (AB (nm 2) AH)))) (AB (nm 4) AH)))))))))))
def B2(BX:List PyData→Option PyData)(Eg:List PyData→Option PyData):List PyData→Option PyData:=CY ["_law_text"] ["_law_text", "_law_parts", "_law_low", "_law_top", "_law_bottom"] (Js BX Eg)
theorem Nv{k:Nat}{BX:List PyData→Option PyData}{Eg:List PyData→Option PyData}(F:Fn K mg "_law_fraction" HI ["_law_text"] f fd)
 {Lq:Addr}{Kn:FuncData}(E3:Fn K mg "_law_number" IT ["_law_text"] Lq Kn)(GK:Ab P w K mg base Ao k Lq Kn ["_law_text"] (BR BX))
 {Mk:Addr}{Lx:FuncData}(Bl:Fn K mg "_law_ratio" Ef ["_law_top", "_law_bottom"] Mk Lx)(Cv:Ab P w K mg base Ao k Mk Lx ["_law_top", "_law_bottom"] (BR Eg))(DY:mg "int" = none)(An:mg "len" = none) :
  Ab P w K mg base Ao (k+1) f fd ["_law_text"] (BR (B2 BX Eg)):=HV F JT fun cdv A outer s H E hr=>by
 have sc:=JT;exact(AQ (Aw (i:=1) sc.nd rfl (Or.inl rfl) (Hd (AA (pv 0)) Ac))
 (AQ (Aw (i:=2) sc.nd rfl (Or.inl rfl) (MR (DC (by have:=hr.units;exact this)) (Kk (AA (pv 0)) AG) Ac (Ae _)))
 (AQ (Aw (i:=3) sc.nd rfl (Or.inl rfl) (A8 E3 GK hr rfl (AD (Ms (A6 (AA (pv 1)) AG (fun _ _=>rfl)) (EG Mz rfl DY aq (AD (AA (pv 2)) AK))) AK)))
 (AQ (Bx (DW.dt (D5 (Aq VA (AA (pv 3)) DM (Ae _)) (D5 (DW.dt (Sf (Di (AA (pv 2))) (DK (Aq (DC (by have:=hr.units;exact this)) (AA (pv 3)) AG (Ae _))))) (DK (Aq Lf (BK DL rfl An aN (AD (AA (pv 1)) AK)) AG (Ae _))))))
  (Aa (Ay DM))
  BB)
 (AQ (Aw (i:=4) sc.nd rfl (Or.inl rfl) AG)
 (AQ (Bx (Aq (DC (by have:=hr.units;exact this)) (BK DL rfl An aN (AD (AA (pv 1)) AK)) AG (Ae _))
  (AQ (Aw (i:=4) sc.nd rfl (Or.inl rfl) (A8 E3 GK hr rfl (AD (A6 (AA (pv 1)) AG (fun _ _=>rfl)) AK)))
  (Aa (Bx (DW.dt (D5 (Aq VA (AA (pv 4)) DM (Ae _)) (DK (Aq NC (AA (pv 4)) AG (Ae _)))))
   (Aa (Ay DM))
   BB)))
  BB)
 (AQ (Bx (Aq (Fh (by have:=hr.units;exact this)) (A8 Bl Cv hr rfl (AD (AA (pv 3)) (AD (AA (pv 4)) AK))) (HQ (AD (AA (pv 3)) (AD (AA (pv 4)) AK))) (Ae _))
  (Aa (Ay DM))
  BB)
 (Aa (Ay (HQ (AD (AV Fb (AA (pv 3)) (A6 (CF (AD AG (AD (K0 AG) AK))) (EG Mz rfl DY aq (AD (AA (pv 2)) AK)) (fun _ _=>rfl))) (AD (AA (pv 4)) AK))))))))))))
theorem MY:Al ["_law_text", "_law_number_here", "_law_more", "_law_some", "_law_sign", "_law_at", "_law_next_sign"] ["_law_text", "_law_number_here", "_law_more"] (AN KI):=⟨rfl,rfl,rfl,by decide +kernel,rfl,by decide +kernel,by decide +kernel⟩
def NI:DF :=
 (AX (Av 3 (fC (.str (Str.ofString " !\"#$&'()*+,-./0123456789:;<=>?@ABCDEFGHIJKLMNOPQRSTUVWXYZ[\\]^_`"))))
 (AX (Av 3 (AE Az (nm 3) (fC (.str (Str.ofString "abcdefghijklmnopqrstuvwxyz{|}~\n")))))
 (AX (Bw (AY (A0 false) (AE A9 (nm 2) (fC (.int 2))) (fC (.int 1)))
  (Av 3 (AE Az (fC (.str (Str.ofString " -/*+=01\n"))) (nm 0)))
  BA)
 (AX (Av 4 (AE Ap (nm 3) (AE A9 (AE D1 (nm 2) (fC (.int 2))) (AJ DN (AB (nm 3) AH)))))
 (AX (Av 5 (AE A9 (AE D1 (nm 1) (fC (.int 16))) (AE Az (AJ DN (AB (nm 0) AH)) (fC (.int 1)))))
 (AX (Bw (AY (A0 false) (AE A9 (nm 1) (fC (.int 16))) (fC (.int 1)))
  (A3 (AE Az (AE Az (AE Hk (nm 0) (nm 5)) (nm 4)) (AE KP (nm 0) (nm 5))))
  BA)
 (AX (Bw (AY (A0 false) (AE A9 (nm 1) (fC (.int 16))) (fC (.int 2)))
  (A3 (AE Hk (nm 0) (nm 5)))
  BA)
 (AX (Av 5 (AJ N6 (AB (nm 5) (AB (AE En (AJ DN (AB (nm 0) AH)) (fC (.int 1))) AH))))
 (AX (Bw (AY (A0 false) (AE A9 (nm 1) (fC (.int 16))) (fC (.int 3)))
  (A3 (AE Az (AE Hk (nm 0) (nm 5)) (AE KP (nm 0) (AE Az (nm 5) (fC (.int 1))))))
  BA)
 (AX (Bw (Cq (AY (A0 false) (AE A9 (nm 1) (fC (.int 16))) (fC (.int 4))) (AY (A0 false) (AE A9 (nm 1) (fC (.int 16))) (fC (.int 5))))
  (A3 (AE Az (AE Az (AE Hk (nm 0) (nm 5)) (nm 4)) (AE KP (nm 0) (AE Az (nm 5) (fC (.int 1))))))
  BA)
 (AX (Av 6 (Uj (nm 0) (AE Az (nm 5) (fC (.int 1))) (AE Az (nm 5) (fC (.int 2)))))
 (A3 (AE Az (AE Az (AE Az (AE Hk (nm 0) (nm 5)) (nm 6)) (AE Ap (nm 0) (nm 5))) (AE KP (nm 0) (AE Az (nm 5) (fC (.int 2)))))))))))))))))
def Ce:List PyData→Option PyData:=CY ["_law_text", "_law_number_here", "_law_more"] ["_law_text", "_law_number_here", "_law_more", "_law_some", "_law_sign", "_law_at", "_law_next_sign"] (NI)
theorem Q8{k:Nat}(F:Fn K mg "_law_bent" KI ["_law_text", "_law_number_here", "_law_more"] f fd)(An:mg "len" = none)(VU:mg "min" = none) :
  Ab P w K mg base Ao (k+1) f fd ["_law_text", "_law_number_here", "_law_more"] (BR (Ce)):=HV F MY fun cdv A outer s H E hr=>by
 have sc:=MY;exact(AQ (Aw (i:=3) sc.nd rfl (Or.inl rfl) Ac)
 (AQ (Aw (i:=3) sc.nd rfl (Or.inl rfl) (AV A2 (AA (pv 3)) Ac))
 (AQ (Bx (Aq (DC (by have:=hr.units;exact this)) (AV BJ (AA (pv 2)) AG) AG (Ae _))
  (Aa (Aw (i:=3) sc.nd rfl (Or.inl rfl) (AV A2 Ac (AA (pv 0)))))
  BB)
 (AQ (Aw (i:=4) sc.nd rfl (Or.inl rfl) (A6 (AA (pv 3)) (AV BJ (AV E5 (AA (pv 2)) AG) (BK K1 rfl An aN (AD (AA (pv 3)) AK))) (fun _ _=>rfl)))
 (AQ (Aw (i:=5) sc.nd rfl (Or.inl rfl) (AV BJ (AV E5 (AA (pv 1)) AG) (AV A2 (BK K1 rfl An aN (AD (AA (pv 0)) AK)) AG)))
 (AQ (Bx (Aq (DC (by have:=hr.units;exact this)) (AV BJ (AA (pv 1)) AG) AG (Ae _))
  (Aa (Ay (AV A2 (AV A2 (Kk (AA (pv 0)) (AA (pv 5))) (AA (pv 4))) (Ms (AA (pv 0)) (AA (pv 5))))))
  BB)
 (AQ (Bx (Aq (DC (by have:=hr.units;exact this)) (AV BJ (AA (pv 1)) AG) AG (Ae _))
  (Aa (Ay (Kk (AA (pv 0)) (AA (pv 5)))))
  BB)
 (AQ (Aw (i:=5) sc.nd rfl (Or.inl rfl) (BK (fR rfl) rfl VU PyProof.Rows.boot_min (AD (AA (pv 5)) (AD (AV JE (BK K1 rfl An aN (AD (AA (pv 0)) AK)) AG) AK))))
 (AQ (Bx (Aq (DC (by have:=hr.units;exact this)) (AV BJ (AA (pv 1)) AG) AG (Ae _))
  (Aa (Ay (AV A2 (Kk (AA (pv 0)) (AA (pv 5))) (Ms (AA (pv 0)) (AV A2 (AA (pv 5)) AG)))))
  BB)
 (AQ (Bx (DW.dt (D5 (Aq (DC (by have:=hr.units;exact this)) (AV BJ (AA (pv 1)) AG) AG (Ae _)) (DK (Aq (DC (by have:=hr.units;exact this)) (AV BJ (AA (pv 1)) AG) AG (Ae _)))))
  (Aa (Ay (AV A2 (AV A2 (Kk (AA (pv 0)) (AA (pv 5))) (AA (pv 4))) (Ms (AA (pv 0)) (AV A2 (AA (pv 5)) AG)))))
  BB)
 (AQ (Aw (i:=6) sc.nd rfl (Or.inl rfl) (Zk (AA (pv 0)) (AV A2 (AA (pv 5)) AG) (AV A2 (AA (pv 5)) AG)))
 (Aa (Ay (AV A2 (AV A2 (AV A2 (Kk (AA (pv 0)) (AA (pv 5))) (AA (pv 6))) (A6 (AA (pv 0)) (AA (pv 5)) (fun _ _=>rfl))) (Ms (AA (pv 0)) (AV A2 (AA (pv 5)) AG))))))))))))))))
theorem L0:Al ["_law_error", "_law_told"] ["_law_error"] (AN HR):=⟨rfl,rfl,rfl,by decide +kernel,rfl,by decide +kernel,by decide +kernel⟩
def Rr(kt_GroveError:Addr→Option Bool)(kt_NoBottom:Addr→Option Bool)(kt_NoChange:Addr→Option Bool)(kt_NoLine:Addr→Option Bool)(kt_NoName:Addr→Option Bool)(kt_NoParts:Addr→Option Bool)(kt_NoStart:Addr→Option Bool)(kt_NoTable:Addr→Option Bool)(kt_NoText:Addr→Option Bool)(kt_NoTree:Addr→Option Bool)(kt_NoWeighing:Addr→Option Bool)(kt_NotAlike:Addr→Option Bool)(kt_TooMany:Addr→Option Bool)(kt_ValueError:Addr→Option Bool):DF :=
 (AX (Bw (Cq (Dw (Cz (GY kt_GroveError (nm 0)))) (Dw (Cz (GY kt_ValueError (nm 0)))))
  (A3 (fC (.bool false)))
  BA)
 (AX (Av 1 (B6 (AB (GY kt_NoBottom (nm 0)) (AB (GY kt_NoChange (nm 0)) (AB (GY kt_NoLine (nm 0)) AH)))))
 (AX (Av 1 (AE Az (nm 1) (B6 (AB (GY kt_NoName (nm 0)) (AB (GY kt_NoParts (nm 0)) (AB (GY kt_NoStart (nm 0)) AH))))))
 (AX (Av 1 (AE Az (nm 1) (B6 (AB (GY kt_NotAlike (nm 0)) (AB (GY kt_NoTable (nm 0)) (AB (GY kt_NoText (nm 0)) AH))))))
 (AX (Av 1 (AE Az (nm 1) (B6 (AB (GY kt_NoTree (nm 0)) (AB (GY kt_NoWeighing (nm 0)) (AB (GY kt_TooMany (nm 0)) AH))))))
 (A3 (AE (A0 false) (AJ BO (AB (CO (B3 1) (Cz (nm 1)) (nm 1) [none,none] (D9 (nm 1))) AH)) (fC (.int 1)))))))))
def Cu(kt_GroveError:Addr→Option Bool)(kt_NoBottom:Addr→Option Bool)(kt_NoChange:Addr→Option Bool)(kt_NoLine:Addr→Option Bool)(kt_NoName:Addr→Option Bool)(kt_NoParts:Addr→Option Bool)(kt_NoStart:Addr→Option Bool)(kt_NoTable:Addr→Option Bool)(kt_NoText:Addr→Option Bool)(kt_NoTree:Addr→Option Bool)(kt_NoWeighing:Addr→Option Bool)(kt_NotAlike:Addr→Option Bool)(kt_TooMany:Addr→Option Bool)(kt_ValueError:Addr→Option Bool):List PyData→Option PyData:=CY ["_law_error"] ["_law_error", "_law_told"] (Rr kt_GroveError kt_NoBottom kt_NoChange kt_NoLine kt_NoName kt_NoParts kt_NoStart kt_NoTable kt_NoText kt_NoTree kt_NoWeighing kt_NotAlike kt_TooMany kt_ValueError)
theorem QR{k:Nat}{C_GroveError:Addr}{C_NoBottom:Addr}{C_NoChange:Addr}{C_NoLine:Addr}{C_NoName:Addr}{C_NoParts:Addr}{C_NoStart:Addr}{C_NoTable:Addr}{C_NoText:Addr}{C_NoTree:Addr}{C_NoWeighing:Addr}{C_NotAlike:Addr}{C_TooMany:Addr}{kt_GroveError:Addr→Option Bool}{kt_NoBottom:Addr→Option Bool}{kt_NoChange:Addr→Option Bool}{kt_NoLine:Addr→Option Bool}{kt_NoName:Addr→Option Bool}{kt_NoParts:Addr→Option Bool}{kt_NoStart:Addr→Option Bool}{kt_NoTable:Addr→Option Bool}{kt_NoText:Addr→Option Bool}{kt_NoTree:Addr→Option Bool}{kt_NoWeighing:Addr→Option Bool}{kt_NotAlike:Addr→Option Bool}{kt_TooMany:Addr→Option Bool}{kt_ValueError:Addr→Option Bool}(F:Fn K mg "_law_alone" HR ["_law_error"] f fd)(Ei:mg "ValueError" = none)(AO:mg "isinstance" = none)(An:mg "len" = none)(Ji:mg "GroveError" = some (.ref C_GroveError))(LL:mg "NoBottom" = some (.ref C_NoBottom))(LQ:mg "NoChange" = some (.ref C_NoChange))(Nh:mg "NoLine" = some (.ref C_NoLine))(Nr:mg "NoName" = some (.ref C_NoName))(MU:mg "NoParts" = some (.ref C_NoParts))(L6:mg "NoStart" = some (.ref C_NoStart))(FW:mg "NoTable" = some (.ref C_NoTable))(GZ:mg "NoText" = some (.ref C_NoText))(Nu:mg "NoTree" = some (.ref C_NoTree))(JO:mg "NoWeighing" = some (.ref C_NoWeighing))(Ld:mg "NotAlike" = some (.ref C_NotAlike))(Ma:mg "TooMany" = some (.ref C_TooMany))(kh_GroveError:∀C b,kt_GroveError C=some b→Cc K C∧PySem.W.kitOne K (.ref C) (Cd (.ref C_GroveError))=some b)(kh_NoBottom:∀C b,kt_NoBottom C=some b→Cc K C∧PySem.W.kitOne K (.ref C) (Cd (.ref C_NoBottom))=some b)(kh_NoChange:∀C b,kt_NoChange C=some b→Cc K C∧PySem.W.kitOne K (.ref C) (Cd (.ref C_NoChange))=some b)(kh_NoLine:∀C b,kt_NoLine C=some b→Cc K C∧PySem.W.kitOne K (.ref C) (Cd (.ref C_NoLine))=some b)(kh_NoName:∀C b,kt_NoName C=some b→Cc K C∧PySem.W.kitOne K (.ref C) (Cd (.ref C_NoName))=some b)(kh_NoParts:∀C b,kt_NoParts C=some b→Cc K C∧PySem.W.kitOne K (.ref C) (Cd (.ref C_NoParts))=some b)(kh_NoStart:∀C b,kt_NoStart C=some b→Cc K C∧PySem.W.kitOne K (.ref C) (Cd (.ref C_NoStart))=some b)(kh_NoTable:∀C b,kt_NoTable C=some b→Cc K C∧PySem.W.kitOne K (.ref C) (Cd (.ref C_NoTable))=some b)(kh_NoText:∀C b,kt_NoText C=some b→Cc K C∧PySem.W.kitOne K (.ref C) (Cd (.ref C_NoText))=some b)(kh_NoTree:∀C b,kt_NoTree C=some b→Cc K C∧PySem.W.kitOne K (.ref C) (Cd (.ref C_NoTree))=some b)(kh_NoWeighing:∀C b,kt_NoWeighing C=some b→Cc K C∧PySem.W.kitOne K (.ref C) (Cd (.ref C_NoWeighing))=some b)(kh_NotAlike:∀C b,kt_NotAlike C=some b→Cc K C∧PySem.W.kitOne K (.ref C) (Cd (.ref C_NotAlike))=some b)(kh_TooMany:∀C b,kt_TooMany C=some b→Cc K C∧PySem.W.kitOne K (.ref C) (Cd (.ref C_TooMany))=some b)(kh_ValueError:∀C b,kt_ValueError C=some b→Cc K C∧PySem.W.kitOne K (.ref C) (Cd (.ty "ValueError"))=some b) :
  Ab P w K mg base Ao (k+1) f fd ["_law_error"] (BR (Cu kt_GroveError kt_NoBottom kt_NoChange kt_NoLine kt_NoName kt_NoParts kt_NoStart kt_NoTable kt_NoText kt_NoTree kt_NoWeighing kt_NotAlike kt_TooMany kt_ValueError)):=HV F L0 fun cdv A outer s H E hr=>by
 have sc:=L0;exact(AQ (Bx (DW.dt (D5 (Eb (Di (EL kh_GroveError (fun z=>nomatch z) rfl AO (DB (v:=.ref C_GroveError) rfl Ji rfl) (AA (pv 0))))) (DK (Eb (Di (EL kh_ValueError (fun z=>nomatch z) rfl AO (Gi (v:=.ty "ValueError") rfl Ei PyProof.Rows.Boot.«ValueError» rfl) (AA (pv 0))))))))
  (Aa (Ay HE))
  BB)
 (AQ (Aw (i:=1) sc.nd rfl (Or.inl rfl) (CF (AD (EL kh_NoBottom (fun z=>nomatch z) rfl AO (DB (v:=.ref C_NoBottom) rfl LL rfl) (AA (pv 0))) (AD (EL kh_NoChange (fun z=>nomatch z) rfl AO (DB (v:=.ref C_NoChange) rfl LQ rfl) (AA (pv 0))) (AD (EL kh_NoLine (fun z=>nomatch z) rfl AO (DB (v:=.ref C_NoLine) rfl Nh rfl) (AA (pv 0))) AK)))))
 (AQ (Aw (i:=1) sc.nd rfl (Or.inl rfl) (AV A2 (AA (pv 1)) (CF (AD (EL kh_NoName (fun z=>nomatch z) rfl AO (DB (v:=.ref C_NoName) rfl Nr rfl) (AA (pv 0))) (AD (EL kh_NoParts (fun z=>nomatch z) rfl AO (DB (v:=.ref C_NoParts) rfl MU rfl) (AA (pv 0))) (AD (EL kh_NoStart (fun z=>nomatch z) rfl AO (DB (v:=.ref C_NoStart) rfl L6 rfl) (AA (pv 0))) AK))))))
 (AQ (Aw (i:=1) sc.nd rfl (Or.inl rfl) (AV A2 (AA (pv 1)) (CF (AD (EL kh_NotAlike (fun z=>nomatch z) rfl AO (DB (v:=.ref C_NotAlike) rfl Ld rfl) (AA (pv 0))) (AD (EL kh_NoTable (fun z=>nomatch z) rfl AO (DB (v:=.ref C_NoTable) rfl FW rfl) (AA (pv 0))) (AD (EL kh_NoText (fun z=>nomatch z) rfl AO (DB (v:=.ref C_NoText) rfl GZ rfl) (AA (pv 0))) AK))))))
 (AQ (Aw (i:=1) sc.nd rfl (Or.inl rfl) (AV A2 (AA (pv 1)) (CF (AD (EL kh_NoTree (fun z=>nomatch z) rfl AO (DB (v:=.ref C_NoTree) rfl Nu rfl) (AA (pv 0))) (AD (EL kh_NoWeighing (fun z=>nomatch z) rfl AO (DB (v:=.ref C_NoWeighing) rfl JO rfl) (AA (pv 0))) (AD (EL kh_TooMany (fun z=>nomatch z) rfl AO (DB (v:=.ref C_TooMany) rfl Ma rfl) (AA (pv 0))) AK))))))
 (Aa (Ay (MR (DC (by have:=hr.units;exact this)) (BK DL rfl An aN (AD (Ht [".0", "_law_one"] 1 [none,none] (EM (AA (pv 1))) (fun _ _ _ _ _=>(UC (Di (AA (pv 1))))) (fun _ _ _ _ _=>(AA (pv 1)))) AK)) AG (Ae _)))))))))
theorem Ly:Al ["_law_table_here", "_law_lines_here"] ["_law_table_here"] (AN JK):=⟨rfl,rfl,rfl,by decide +kernel,rfl,by decide +kernel,by decide +kernel⟩
def MC(Bd:List PyData→Option PyData):DF :=
 (AX (Av 1 (CO (B3 1) D8 (AE Cj (fC (.str (Str.ofString " "))) (AE Az (B6 (AB (fC (.str (Str.ofString "row"))) AH)) (CO (B3 1) D8 (AJ Bd (AB (nm 1) AH)) [none,none] (D9 (nm 1))))) [none,none] (D9 (AE Ap (nm 0) (fC (.int 0))))))
 (A3 (AE Az (nm 1) (B6 (AB (AE Cj (fC (.str (Str.ofString " "))) (AE Az (B6 (AB (fC (.str (Str.ofString "last"))) AH)) (CO (B3 1) D8 (AJ Bd (AB (nm 1) AH)) [none,none] (D9 (AE Ap (nm 0) (fC (.int 1))))))) AH)))))
def Cr(Bd:List PyData→Option PyData):List PyData→Option PyData:=CY ["_law_table_here"] ["_law_table_here", "_law_lines_here"] (MC Bd)
theorem QP{k:Nat}{Bd:List PyData→Option PyData}(F:Fn K mg "_law_lines" JK ["_law_table_here"] f fd)
 {Nc:Addr}{MN:FuncData}(GG:Fn K mg "_law_part" KL ["_law_some"] Nc MN)(Hv:Ab P w K mg base Ao k Nc MN ["_law_some"] (BR Bd)) :
  Ab P w K mg base Ao (k+1) f fd ["_law_table_here"] (BR (Cr Bd)):=HV F Ly fun cdv A outer s H E hr=>by
 have sc:=Ly;exact(AQ (Iu (i:=1) [".0", "_law_row_here"] 1 [none,none] sc.nd rfl rfl (EM (A6 (AA (pv 0)) AG (fun _ _=>rfl))) (fun _ _ _ _ _=>Dp) (fun _ _ _ _ _=>(Ep Ac (AV A2 (CF (AD Ac AK)) (Ht [".0", "_law_one"] 1 [none,none] (EM (AA (pv 1))) (fun _ _ _ _ _=>Dp) (fun _ _ _ _ _=>(A8 GG Hv hr rfl (AD (AA (pv 1)) AK))))))))
 (Aa (Ay (AV A2 (AA (pv 1)) (CF (AD (Ep Ac (AV A2 (CF (AD Ac AK)) (Ht [".0", "_law_one"] 1 [none,none] (EM (A6 (AA (pv 0)) AG (fun _ _=>rfl))) (fun _ _ _ _ _=>Dp) (fun _ _ _ _ _=>(A8 GG Hv hr rfl (AD (AA (pv 1)) AK)))))) AK))))))
theorem K8:Al ["_law_text", "_law_lines_here", "_law_found", "_law_k", "_law_words", "_law_many"] ["_law_text"] (AN IU):=⟨rfl,rfl,rfl,by decide +kernel,rfl,by decide +kernel,by decide +kernel⟩
def Ll(B2:List PyData→Option PyData):DF :=
 (AX (Av 1 (AE Ca (nm 0) (fC (.str (Str.ofString "\n")))))
 (AX (cM 2 AH)
 (AX (MV (ID IW (AB (AJ BO (AB (nm 1) AH)) AH)) (MW 3)
  (AX (Av 4 (AE Ca (AE Ap (nm 1) (nm 3)) (fC (.str (Str.ofString " ")))))
  (AX (Av 5 (AE Ap (B6 (AB (nm 3) (AB (AE En (AJ BO (AB (nm 1) AH)) (fC (.int 1))) AH))) (AJ G7 (AB (AE (A0 false) (nm 3) (AE En (AJ BO (AB (nm 1) AH)) (fC (.int 1)))) AH))))
  (AX (Bw (Cq (AY (A0 true) (AE Ap (nm 4) (fC (.int 0))) (AE Ap (B6 (AB (fC (.str (Str.ofString "row"))) (AB (fC (.str (Str.ofString "last"))) AH))) (AJ G7 (AB (AE (A0 false) (nm 3) (AE En (AJ BO (AB (nm 1) AH)) (fC (.int 1)))) AH)))) (AY (A0 true) (AJ BO (AB (nm 4) AH)) (AE Az (fC (.int 1)) (nm 5))))
   (A3 (fC .none))
   BA)
  (AX (RP 2 (CO (B3 1) D8 (AJ B2 (AB (nm 1) AH)) [none,none] (D9 (HY (nm 4) (Fq (fC (.int 1))) Fj))))
  (Bw (LU (AY (O8 false) (fC .none) (AE Ap (nm 2) (GX (fC (.int 1))))))
   (A3 (fC .none))
   BA))))))
 (AX (Bw (LU (Cq (AY (Bv fun i j=>decide (i<j)) (AJ BO (AB (nm 2) AH)) (fC (.int 2))) (AY (Bv fun i j=>decide (j<i)) (AJ BO (AB (nm 2) AH)) (fC (.int 41)))))
  (A3 (fC .none))
  BA)
 (Pj 2 (A3 (FD (AB (HY (nm 2) Fj (Fq (GX (fC (.int 1))))) (AB (AE Ap (nm 2) (GX (fC (.int 1)))) AH)))))))))
def EF(B2:List PyData→Option PyData):List PyData→Option PyData:=CY ["_law_text"] ["_law_text", "_law_lines_here", "_law_found", "_law_k", "_law_words", "_law_many"] (Ll B2)
theorem Pf{k:Nat}{B2:List PyData→Option PyData}(F:Fn K mg "_law_reader" IU ["_law_text"] f fd)
 {KC:Addr}{Jb:FuncData}(FH:Fn K mg "_law_fraction" HI ["_law_text"] KC Jb)(HJ:Ab P w K mg base Ao k KC Jb ["_law_text"] (BR B2))(DY:mg "int" = none)(An:mg "len" = none)(Dq:mg "range" = none) :
  Ab P w K mg base Ao (k+1) f fd ["_law_text"] (BR (EF B2)):=HV F K8 fun cdv A outer s H E hr=>by
 have sc:=K8;exact(AQ (Aw (i:=1) sc.nd rfl (Or.inl rfl) (Hd (AA (pv 0)) Ac))
 (AQ (fL (i:=2) sc.nd rfl (Or.inl rfl) AK)
 (AQ (Su az rfl (MX rfl Dq (AD (BK DL rfl An aN (AD (AA (pv 1)) AK)) AK)) (Ph (El (i:=3) sc.nd rfl (Or.inl rfl)))
  (AQ (Aw (i:=4) sc.nd rfl (Or.inl rfl) (Hd (A6 (AA (pv 1)) (AA (pv 3)) (fun _ _=>rfl)) Ac))
  (AQ (Aw (i:=5) sc.nd rfl (Or.inl rfl) (A6 (CF (AD (AA (pv 3)) (AD (AV JE (BK DL rfl An aN (AD (AA (pv 1)) AK)) AG) AK))) (EG Mz rfl DY aq (AD (MR (DC (by have:=hr.units;exact this)) (AA (pv 3)) (AV JE (BK DL rfl An aN (AD (AA (pv 1)) AK)) AG) (Ae _)) AK)) (fun _ _=>rfl)))
  (AQ (Bx (DW.dt (D5 (Aq (Fh (by have:=hr.units;exact this)) (A6 (AA (pv 4)) AG (fun _ _=>rfl)) (A6 (CF (AD Ac (AD Ac AK))) (EG Mz rfl DY aq (AD (MR (DC (by have:=hr.units;exact this)) (AA (pv 3)) (AV JE (BK DL rfl An aN (AD (AA (pv 1)) AK)) AG) (Ae _)) AK)) (fun _ _=>rfl)) (Ae _)) (DK (Aq (Fh (by have:=hr.units;exact this)) (BK DL rfl An aN (AD (AA (pv 4)) AK)) (AV A2 AG (AA (pv 5))) (Ae _)))))
   (Aa (Ay DM))
   BB)
  (AQ (QK (pv 2) (Ht [".0", "_law_word"] 1 [none,none] (EM (Hf (AA (pv 4)) (JB AG) JG)) (fun _ _ _ _ _=>Dp) (fun _ _ _ _ _=>(A8 FH HJ hr rfl (AD (AA (pv 1)) AK)))) (fun ho ha=>E7 (Fl aX PySem.F.slot_list_append PySem.F.type_list_append Ge ho ha)))
  (Aa (Bx (T5 (Aq (fg (by have:=hr.units;exact this)) DM (A6 (AA (pv 2)) (K0 AG) (fun _ _=>rfl)) rfl))
   (Aa (Ay DM))
   BB)))))))
 (AQ (Bx (T5 (DW.dt (D5 (Aq NC (BK DL rfl An aN (AD (AA (pv 2)) AK)) AG (Ae _)) (DK (Aq Lf (BK DL rfl An aN (AD (AA (pv 2)) AK)) AG (Ae _))))))
  (Aa (Ay DM))
  BB)
 (Aa (OX 2 (Ay (HQ (AD (Hf (AA (pv 2)) JG (JB (K0 AG))) (AD (A6 (AA (pv 2)) (K0 AG) (fun _ _=>rfl)) AK))))))))))
theorem MT:Al ["_law_many", "_law_lines_here"] ["_law_many"] (AN KZ):=⟨rfl,rfl,rfl,by decide +kernel,rfl,by decide +kernel,by decide +kernel⟩
def NT:DF :=
 (AX (Av 1 (CO (B3 1) D8 (AE Az (fC (.str (Str.ofString "row"))) (AE KD (fC (.str (Str.ofString " 0"))) (nm 1))) [none,none] (ID IW (AB (nm 0) AH))))
 (A3 (AE Cj (fC (.str (Str.ofString "\n"))) (AE Az (nm 1) (B6 (AB (AE Az (fC (.str (Str.ofString "last 1"))) (AE KD (fC (.str (Str.ofString " 0"))) (AE En (nm 0) (fC (.int 1))))) AH))))))
def Cf:List PyData→Option PyData:=CY ["_law_many"] ["_law_many", "_law_lines_here"] (NT)
theorem Qq{k:Nat}(F:Fn K mg "_law_long" KZ ["_law_many"] f fd)(Dq:mg "range" = none) :
  Ab P w K mg base Ao (k+1) f fd ["_law_many"] (BR (Cf)):=HV F MT fun cdv A outer s H E hr=>by
 have sc:=MT;exact(AQ (Iu (i:=1) [".0", "_law_k"] 1 [none,none] sc.nd rfl rfl (MX rfl Dq (AD (AA (pv 0)) AK)) (fun _ _ _ _ _=>Dp) (fun _ _ _ _ _=>(AV A2 Ac (AV Kl Ac (AA (pv 1))))))
 (Aa (Ay (Ep Ac (AV A2 (AA (pv 1)) (CF (AD (AV A2 Ac (AV Kl Ac (AV JE (AA (pv 0)) AG))) AK)))))))
theorem Jw:Al ["_law_table_here", "_law_error", "e"] ["_law_table_here"] (AN Hj):=⟨rfl,rfl,rfl,by decide +kernel,rfl,by decide +kernel,by decide +kernel⟩
def Pc(Cu:List PyData→Option PyData)(BF:List PyData→Option Xr):DF :=
 (AX (Av 1 (fC .none))
 (AX (YT 1 2 BF (AB (nm 0) AH))
 (A3 (AJ Cu (AB (nm 1) AH)))))
def C8(Cu:List PyData→Option PyData)(BF:List PyData→Option Xr):List PyData→Option PyData:=CY ["_law_table_here"] ["_law_table_here", "_law_error", "e"] (Pc Cu BF)
theorem OC{k:Nat}{Cu:List PyData→Option PyData}{BF:List PyData→Option Xr}{C_NoTable:Addr}(F:Fn K mg "_law_refused" Hj ["_law_table_here"] f fd)
 {My:Addr}{Ln:FuncData}(D2:Fn K mg "_law_alone" HR ["_law_error"] My Ln)(Ed:Ab P w K mg base Ao k My Ln ["_law_error"] (BR Cu))
 {Ex:Addr}{Ee:FuncData}(De:Fn K mg "shown_table" GL ["table"] Ex Ee)(Ey:Ab P w K mg base (Cy P w) k Ex Ee ["table"] (Gu BF))(FW:mg "NoTable" = some (.ref C_NoTable))(hB_shown_table_NoTable:∀ds C,BF ds=some (.inr C)→DP K C C_NoTable true) :
  Ab P w K mg base Ao (k+1) f fd ["_law_table_here"] (BR (C8 Cu BF)):=HV F Jw fun cdv A outer s H E hr=>by
 have sc:=Jw;exact(AQ (Aw (i:=1) sc.nd rfl (Or.inl rfl) DM)
 (AQ (fV (j:=1) (k:=2) De Ey hr rfl (AD (AA (pv 0)) AK) hB_shown_table_NoTable (fun h=>YE (j:=1) (k:=2) h sc.nd rfl rfl rfl rfl rfl rfl FW (by decide) ⟨_,rfl⟩ rfl))
 (Aa (Ay (A8 D2 Ed hr rfl (AD (AA (pv 1)) AK))))))
end
section
variable{P:Program}{w:World}{K:PySem.W.Frag}{mg:Str→Option Value}{base:Heap}{f:Addr}{fd:FuncData}
theorem NV:Al ["word", "figures"] ["word", "figures"] (AN LH):=⟨rfl,rfl,rfl,by decide +kernel,rfl,by decide +kernel,by decide +kernel⟩
def Og:DF :=
 (AX (Bw (AY (Bv fun i j=>decide (j<i)) (AJ DN (AB (AE JZ (nm 0) (fC (.str (Str.ofString "-")))) AH)) (nm 1))
  (A3 (fC .none))
  BA)
 (Tg 0))
def CQ:List PyData→Option PyData:=CY ["word", "figures"] ["word", "figures"] Og
theorem TC{k:Nat}(F:Fn K mg "whole_in" LH ["word", "figures"] f fd)(An:mg "len" = none)(DY:mg "int" = none)(Ei:mg "ValueError" = none) :
  CT P w K mg base Ao (k+1) f fd ["word", "figures"] (BR CQ):=XW F NV fun cdv A outer s H E hr=>by
 have sc:=NV;exact(B0 (DS.r (Bx (Aq Lf (BK K1 rfl An aN (AD (Uo (AA (pv 0)) Ac) AK)) (AA (pv 1)) (Ae _))
  (Aa (Ay DM))
  BB))
 (Lh (W7 (WZ (i:=0) rfl rfl rfl DY rfl Ei rfl ⟨_,rfl⟩ rfl))))
end
section
variable{P:Program}{w:World}{K:PySem.W.Frag}{mg:Str→Option Value}{base:Heap}{f:Addr}{fd:FuncData}
theorem Kz:Al ["word", "figures", "halves", "top", "bottom", "part"] ["word", "figures"] (AN IX):=⟨rfl,rfl,rfl,by decide +kernel,rfl,by decide +kernel,by decide +kernel⟩
def Lm(Ak:List PyData→Option PyData)(EC:List PyData→Option PyData)(CQ:List PyData→Option PyData):DF :=
 (AX (Av 2 (AE Ca (nm 0) (fC (.str (Str.ofString "/")))))
 (AX (Av 3 (AJ CQ (AB (AE Ap (nm 2) (fC (.int 0))) (AB (nm 1) AH))))
 (AX (Av 4 (fC (.int 1)))
 (AX (Bw (AY (Bv fun i j=>decide (j<i)) (AJ BO (AB (nm 2) AH)) (fC (.int 1)))
  (Av 4 (AJ CQ (AB (AE Ap (nm 2) (fC (.int 1))) (AB (nm 1) AH))))
  BA)
 (AX (Av 5 (FD (AB (nm 3) (AB (nm 4) AH))))
 (AX (Bw (Cq (Dw (Cz (AJ EC (AB (nm 5) AH)))) (AY (A0 true) (AJ Ak (AB (nm 5) AH)) (nm 0)))
  (A3 (fC .none))
  BA)
 (A3 (nm 5))))))))
def CN(Ak:List PyData→Option PyData)(EC:List PyData→Option PyData)(CQ:List PyData→Option PyData):List PyData→Option PyData:=CY ["word", "figures"] ["word", "figures", "halves", "top", "bottom", "part"] (Lm Ak EC CQ)
theorem Pb{k:Nat}{Ak:List PyData→Option PyData}{EC:List PyData→Option PyData}{CQ:List PyData→Option PyData}(F:Fn K mg "fraction_in" IX ["word", "figures"] f fd)
 {ES:Addr}{Dy:FuncData}(Cg:Fn K mg "fraction_text" FK ["part"] ES Dy)(DR:Ab P w K mg base Ao k ES Dy ["part"] (BR Ak))
 {Lj:Addr}{Kv:FuncData}(Dc:Fn K mg "is_fraction" GJ ["thing"] Lj Kv)(Eu:Ab P w K mg base Ao k Lj Kv ["thing"] (BR EC))
 {N5:Addr}{NW:FuncData}(Gy:Fn K mg "whole_in" LH ["word", "figures"] N5 NW)(Iw:CT P w K mg base Ao k N5 NW ["word", "figures"] (BR CQ))(An:mg "len" = none) :
  CT P w K mg base Ao (k+1) f fd ["word", "figures"] (BR (CN Ak EC CQ)):=XW F Kz fun cdv A outer s H E hr=>by
 have sc:=Kz;exact(B0 (DS.r (Aw (i:=2) sc.nd rfl (Or.inl rfl) (Hd (AA (pv 0)) Ac))) (B0 (T6 (i:=3) sc.nd rfl (Or.inl rfl) (ET Gy Iw hr rfl (DA.r (AD (A6 (AA (pv 2)) AG (fun _ _=>rfl)) (AD (AA (pv 1)) AK))))) (B0 (DS.r (Aw (i:=4) sc.nd rfl (Or.inl rfl) AG)) (B0 (OK (DT.r (Aq Lf (BK DL rfl An aN (AD (AA (pv 2)) AK)) AG (Ae _))) (Lh (T6 (i:=4) sc.nd rfl (Or.inl rfl) (ET Gy Iw hr rfl (DA.r (AD (A6 (AA (pv 2)) AG (fun _ _=>rfl)) (AD (AA (pv 1)) AK)))))) (Fz.r BB)) (Fz.r (AQ (Aw (i:=5) sc.nd rfl (Or.inl rfl) (HQ (AD (AA (pv 3)) (AD (AA (pv 4)) AK))))
 (AQ (Bx (DW.dt (D5 (Eb (Di (A8 Dc Eu hr rfl (AD (AA (pv 5)) AK)))) (DK (Aq (Fh (by have:=hr.units;exact this)) (A8 Cg DR hr rfl (AD (AA (pv 5)) AK)) (AA (pv 0)) (Ae _)))))
  (Aa (Ay DM))
  BB)
 (Aa (Ay (AA (pv 5)))))))))))
theorem J4:Al ["words", "figures"] ["words", "figures"] (AN Hl):=⟨rfl,rfl,rfl,by decide +kernel,rfl,by decide +kernel,by decide +kernel⟩
def Pa(CN:List PyData→Option PyData):DF :=
 (Qn (Fg (B3 1) D8 (AJ CN (AB (nm 1) (AB (nm 2) AH))) [none,none,some 1] (D9 (nm 0))))
def CC(CN:List PyData→Option PyData):List PyData→Option PyData:=CY ["words", "figures"] ["words", "figures"] (Pa CN)
theorem Oz{k:Nat}{CN:List PyData→Option PyData}(F:Fn K mg "fractions_in" Hl ["words", "figures"] f fd)
 {Lk:Addr}{K9:FuncData}(GI:Fn K mg "fraction_in" IX ["word", "figures"] Lk K9)(Ig:CT P w K mg base Ao k Lk K9 ["word", "figures"] (BR CN)) :
  CT P w K mg base Ao (k+1) f fd ["words", "figures"] (BR (CC CN)):=XW F J4 fun cdv A outer s H E hr=>by
 have sc:=J4;exact(Lh (Xo [".0", "word", "figures"] 1 [none,none,some 1] (EM (AA (pv 0))) (fun _ _ _ _ _=>Dp) (fun _ _ _ _ _=>(ET GI Ig hr rfl (DA.r (AD (AA (pv 1)) (AD (AA (pv 2)) AK)))))))
theorem Lp:Al ["text", "lines", "heads", "parts", "table"] ["text"] (AN JW):=⟨rfl,rfl,rfl,by decide +kernel,rfl,by decide +kernel,by decide +kernel⟩
def Mo(CC:List PyData→Option PyData)(B9:List PyData→Option PyData)(C_NoText:Addr):FJ :=
 (Gq (NM (Av 1 (CO (B3 1) D8 (AE Ca (nm 1) (fC (.str (Str.ofString " ")))) [none,none] (D9 (AE Ca (nm 0) (fC (.str (Str.ofString "\n"))))))))
 (Gq (NM (Av 2 (CO (B3 1) D8 (AE Ap (nm 1) (fC (.int 0))) [none,none] (D9 (nm 1)))))
 (Gq (NM (Av 3 (CO (B3 1) D8 (AJ CC (AB (HY (nm 1) (Fq (fC (.int 1))) Fj) (AB (fC (.int 40)) AH))) [none,none] (D9 (nm 1)))))
 (Gq (NM (Av 4 (FD (AB (HY (nm 3) Fj (Fq (GX (fC (.int 1))))) (AB (AE Ap (nm 3) (GX (fC (.int 1)))) AH)))))
 (Gq (V2 (Cq (AY (A0 true) (nm 2) (AE Az (AE FU (B6 (AB (fC (.str (Str.ofString "row"))) AH)) (AE En (AJ BO (AB (nm 1) AH)) (fC (.int 1)))) (B6 (AB (fC (.str (Str.ofString "last"))) AH)))) (Dw (Cz (AJ B9 (AB (nm 4) AH)))))
  (RY C_NoText (fC (.str (Str.ofString "a table is written as a line for each row and one for the last"))))
  (fun δ=>some (.inl (.nx δ))))
 (NM (A3 (nm 4))))))))
def HA(CC:List PyData→Option PyData)(B9:List PyData→Option PyData)(C_NoText:Addr):List PyData→Option Xr:=GS ["text"] ["text", "lines", "heads", "parts", "table"] (Mo CC B9 C_NoText)
theorem QW{k:Nat}{CC:List PyData→Option PyData}{B9:List PyData→Option PyData}{C_NoText:Addr}(F:Fn K mg "read_table" JW ["text"] f fd)
 {Kp:Addr}{Jr:FuncData}(Fi:Fn K mg "fractions_in" Hl ["words", "figures"] Kp Jr)(Hi:CT P w K mg base Ao k Kp Jr ["words", "figures"] (BR CC))
 {G9:Addr}{GB:FuncData}(Et:Fn K mg "is_table" JA ["thing"] G9 GB)(Ft:Ab P w K mg base Ao k G9 GB ["thing"] (BR B9))(An:mg "len" = none){tk_MOST_FIGURES:Tok}(HW:mg "MOST_FIGURES" = some (.int 40 tk_MOST_FIGURES))(X_NoText:Exc K mg "NoText" C_NoText) :
  CT P w K mg base (Cy P w) (k+1) f fd ["text"] (Gu (HA CC B9 C_NoText)):=iu F Lp fun cdv A outer s H E hr=>by
 have sc:=Lp;exact(Mi (DX.r (VM (Iu (i:=1) [".0", "line"] 1 [none,none] sc.nd rfl rfl (EM (Hd (AA (pv 0)) Ac)) (fun _ _ _ _ _=>Dp) (fun _ _ _ _ _=>(Hd (AA (pv 1)) Ac))))) (Mi (DX.r (VM (Iu (i:=2) [".0", "words"] 1 [none,none] sc.nd rfl rfl (EM (AA (pv 1))) (fun _ _ _ _ _=>Dp) (fun _ _ _ _ _=>(A6 (AA (pv 1)) AG (fun _ _=>rfl)))))) (Mi (fS (Sw (i:=3) [".0", "words"] 1 [none,none] sc.nd rfl rfl (EM (AA (pv 1))) (fun _ _ _ _ _=>Dp) (fun _ _ _ _ _=>(ET Fi Hi hr rfl (DA.r (AD (Hf (AA (pv 1)) (JB AG) JG) (AD (YI rfl HW) AK))))))) (MZ.r (Nk (VM (Aw (i:=4) sc.nd rfl (Or.inl rfl) (HQ (AD (Hf (AA (pv 3)) JG (JB (K0 AG))) (AD (A6 (AA (pv 3)) (K0 AG) (fun _ _=>rfl)) AK)))))
 (Nk (ZD (DW.dt (D5 (Aq (Fh (by have:=hr.units;exact this)) (AA (pv 2)) (AV A2 (AV Fb (CF (AD Ac AK)) (AV JE (BK DL rfl An aN (AD (AA (pv 1)) AK)) AG)) (CF (AD Ac AK))) (Ae _)) (DK (Eb (Di (A8 Et Ft hr rfl (AD (AA (pv 4)) AK)))))))
  (PF (by exact Rk X_NoText Yd Ac))
  Uc)
 (Vh (Aa (Ay (AA (pv 4)))))))))))
end
section
variable{P:Program}{w:World}{K:PySem.W.Frag}{mg:Str→Option Value}{base:Heap}{f:Addr}{fd:FuncData}
theorem IJ:Al ["_law_lines_here", "_law_number_here", "_law_more", "_law_at", "_law_to", "_law_words", "_law_odd"] ["_law_lines_here", "_law_number_here", "_law_more"] (AN F8):=⟨rfl,rfl,rfl,by decide +kernel,rfl,by decide +kernel,by decide +kernel⟩
def NG:DF :=
 (AX (Pj 0 (Mc 0 (AJ Hs (AB (nm 0) AH))))
 (AX (Av 3 (AE A9 (AE D1 (nm 1) (fC (.int 16))) (E4 0)))
 (AX (Av 4 (AE A9 (nm 2) (E4 0)))
 (AX (Bw (AY (A0 false) (AE A9 (nm 1) (fC (.int 16))) (fC (.int 7)))
  (Qs 0 (nm 4) (Oi 0 (nm 3)))
  BA)
 (AX (Bw (AY (A0 false) (AE A9 (nm 1) (fC (.int 16))) (fC (.int 8)))
  (Y7 0 3 4)
  BA)
 (AX (Bw (AY (A0 false) (AE A9 (nm 1) (fC (.int 16))) (fC (.int 9)))
  (V7 0 (nm 3))
  BA)
 (AX (Bw (AY (Bv fun i j=>decide (j<i)) (AE A9 (nm 1) (fC (.int 16))) (fC (.int 9)))
  (AX (Mc 5 (AE Ca (Oi 0 (nm 3)) (fC (.str (Str.ofString " ")))))
  (AX (Av 6 (B6 (AB (fC (.str (Str.ofString ""))) (AB (fC (.str (Str.ofString "0"))) (AB (fC (.str (Str.ofString "-0"))) (AB (fC (.str (Str.ofString "00"))) (AB (fC (.str (Str.ofString "01"))) (AB (fC (.str (Str.ofString "1/1"))) (AB (fC (.str (Str.ofString "2/4"))) (AB (fC (.str (Str.ofString "0/3"))) (AB (fC (.str (Str.ofString "1/0"))) (AB (fC (.str (Str.ofString "-1/2"))) (AB (fC (.str (Str.ofString "+"))) (AB (fC (.str (Str.ofString "row"))) (AB (fC (.str (Str.ofString "last"))) (AB (fC (.str (Str.ofString "x"))) (AB (fC (.str (Str.ofString "="))) (AB (fC (.str (Str.ofString "1*x"))) AH))))))))))))))))))
  (AX (Av 6 (AE Az (nm 6) (B6 (AB (AE KD (fC (.str (Str.ofString "9"))) (fC (.int 40))) (AB (AE KD (fC (.str (Str.ofString "9"))) (fC (.int 41))) (AB (AE Az (fC (.str (Str.ofString "1/"))) (AE KD (fC (.str (Str.ofString "3"))) (fC (.int 40)))) (AB (fC (.str (Str.ofString "1*y*x"))) (AB (fC (.str (Str.ofString "1*x*y"))) (AB (fC (.str (Str.ofString "0*x"))) (AB (fC (.str (Str.ofString "y"))) (AB (fC (.str (Str.ofString "+1"))) (AB (fC (.str (Str.ofString "1/-2"))) (AB (fC (.str (Str.ofString "--1"))) AH)))))))))))))
  (AX (Bw (AY (Bv fun i j=>decide (i<j)) (AE A9 (nm 1) (fC (.int 16))) (fC (.int 13)))
   (Pd 5 (AE Ap (nm 6) (AE A9 (AE D1 (nm 2) (fC (.int 1000))) (fC (.int 26)))) (AE A9 (AE D1 (nm 2) (fC (.int 100))) (E4 5)))
   (Qs 5 (AE A9 (AE D1 (nm 2) (fC (.int 100))) (AE Az (E4 5) (fC (.int 1)))) (AE Ap (nm 6) (AE A9 (AE D1 (nm 2) (fC (.int 1000))) (fC (.int 26))))))
  (Pj 5 (Pd 0 (AE Cj (fC (.str (Str.ofString " "))) (nm 5)) (nm 3)))))))
  BA)
 (Y5 0))))))))
def BU:List PyData→Option PyData:=CY ["_law_lines_here", "_law_number_here", "_law_more"] ["_law_lines_here", "_law_number_here", "_law_more", "_law_at", "_law_to", "_law_words", "_law_odd"] (NG)
theorem ME{k:Nat}(F:Fn K mg "_law_bent_lines" F8 ["_law_lines_here", "_law_number_here", "_law_more"] f fd)(An:mg "len" = none)(Ck:mg "list" = none) :
  Ab P w K mg base Ao (k+1) f fd ["_law_lines_here", "_law_number_here", "_law_more"] (BR (BU)):=HV F IJ fun cdv A outer s H E hr=>by
 have sc:=IJ;exact(AQ (OX 0 (U5 (i:=0) rfl Ck (AD (AA (pv 0)) AK) sc.nd rfl (Or.inl rfl)))
 (AQ (Aw (i:=3) sc.nd rfl (Or.inl rfl) (AV BJ (AV E5 (AA (pv 1)) AG) (J8 (pv 0) rfl An)))
 (AQ (Aw (i:=4) sc.nd rfl (Or.inl rfl) (AV BJ (AA (pv 2)) (J8 (pv 0) rfl An)))
 (AQ (Bx (Aq (DC (by have:=hr.units;exact this)) (AV BJ (AA (pv 1)) AG) AG (Ae _))
  (Aa (Px (pv 0) (AA (pv 4)) (Rf (pv 0) (AA (pv 3)) (fun _ _=>rfl)) (fun ho ha=>E7 (Fl aX PySem.F.slot_list_insert PySem.F.type_list_insert QB ho ha))))
  BB)
 (AQ (Bx (Aq (DC (by have:=hr.units;exact this)) (AV BJ (AA (pv 1)) AG) AG (Ae _))
  (Aa (a9 (L8 (Jn (AM (CM M8 (pv 0) (pv 4) (fun _ _=>rfl)) (AM (CM M8 (pv 0) (pv 3) (fun _ _=>rfl)) Af))) (Vg rfl (LG (K2 (pv 0) (pv 3) set_list) (LG (K2 (pv 0) (pv 4) set_list) T7))))))
  BB)
 (AQ (Bx (Aq (DC (by have:=hr.units;exact this)) (AV BJ (AA (pv 1)) AG) AG (Ae _))
  (Aa (Xx (pv 0) (AA (pv 3)) (fun ho ha=>E7 (Fl aX PySem.F.slot_list_pop PySem.F.type_list_pop YZ ho ha))))
  BB)
 (AQ (Bx (Aq Lf (AV BJ (AA (pv 1)) AG) AG (Ae _))
  (AQ (Sx (i:=5) (Rf (pv 0) (AA (pv 3)) (fun _ _=>rfl)) Ac sc.nd rfl (Or.inl rfl) (fun ho he=>Fl bF PySem.F.slot_str_split PySem.F.type_str_split Ru ho (AM he Af)))
  (AQ (Aw (i:=6) sc.nd rfl (Or.inl rfl) (CF (AD Ac (AD Ac (AD Ac (AD Ac (AD Ac (AD Ac (AD Ac (AD Ac (AD Ac (AD Ac (AD Ac (AD Ac (AD Ac (AD Ac (AD Ac (AD Ac AK))))))))))))))))))
  (AQ (Aw (i:=6) sc.nd rfl (Or.inl rfl) (AV A2 (AA (pv 6)) (CF (AD (AV Kl Ac AG) (AD (AV Kl Ac AG) (AD (AV A2 Ac (AV Kl Ac AG)) (AD Ac (AD Ac (AD Ac (AD Ac (AD Ac (AD Ac (AD Ac AK)))))))))))))
  (AQ (Bx (Aq NC (AV BJ (AA (pv 1)) AG) AG (Ae _))
   (Aa (WI (pv 5) (AV BJ (AV E5 (AA (pv 2)) AG) (J8 (pv 5) rfl An)) (A6 (AA (pv 6)) (AV BJ (AV E5 (AA (pv 2)) AG) AG) (fun _ _=>rfl)) (fun h1 h2 h3=>L8 h1 (K2 h2 h3 set_list))))
   (Aa (Px (pv 5) (AV BJ (AV E5 (AA (pv 2)) AG) (AV A2 (J8 (pv 5) rfl An) AG)) (A6 (AA (pv 6)) (AV BJ (AV E5 (AA (pv 2)) AG) AG) (fun _ _=>rfl)) (fun ho ha=>E7 (Fl aX PySem.F.slot_list_insert PySem.F.type_list_insert QB ho ha)))))
  (Aa (OX 5 (WI (pv 0) (AA (pv 3)) (Ep Ac (AA (pv 5))) (fun h1 h2 h3=>L8 h1 (K2 h2 h3 set_list)))))))))
  BB)
 (Aa (bh (pv 0))))))))))
end
section
variable{P:Program}{w:World}{K:PySem.W.Frag}{mg:Str→Option Value}{base:Heap}{f g1 g2 g3 g4:Addr}{fd gd1 gd2 gd3 gd4:FuncData}
theorem Rw.bare{H:Hp}{σ:St}{δ:Dv}(hl:σ.length=δ.length)(hd:∀(i:Nat) (x:PyData),δ[i]? = some (L.d x)→∃v,σ[i]? = some (some v)∧Du (fun _=>none) x v)(ho:∀(i:Nat) (c:Oc),δ[i]?≠some (L.own c)):Rw (fun _=>none) H (fun _=>none) H σ δ [] :=
 ⟨.refl _,fun a o h=>(by cases h),fun a o h=>(by cases h),.refl _,hl,hd,fun i c h=>absurd h (ho i c),fun i j c d _ h=>absurd h (ho i c),fun q hq=>by cases hq⟩
theorem Rw.whole{H:Hp}{σ:St}{δ:Dv}(hl:σ.length=δ.length)(hd:∀(i:Nat) (x:PyData),δ[i]? = some (L.d x)→∃v,σ[i]? = some (some v)∧Du H x v)(ho:∀(i:Nat) (c:Oc),δ[i]?≠some (L.own c)):Rw H H H H σ δ [] :=
 ⟨.refl _,Nw.refl,.refl _,.refl _,hl,hd,fun i c h=>absurd h (ho i c),fun i j c d _ h=>absurd h (ho i c),fun q hq=>by cases hq⟩
theorem Rw.part{G H:Hp}{σ:St}{δ:Dv}(hs:AU G H)(hl:σ.length=δ.length)(hd:∀(i:Nat) (x:PyData),δ[i]? = some (L.d x)→∃v,σ[i]? = some (some v)∧Du G x v)(ho:∀(i:Nat) (c:Oc),δ[i]?≠some (L.own c)):Rw G H G H σ δ [] :=
 ⟨.refl _,Nw.refl,hs,.refl _,hl,hd,fun i c h=>absurd h (ho i c),fun i j c d _ h=>absurd h (ho i c),fun q hq=>by cases hq⟩
def Sh(C:Addr)(mR:List PyData→Option Xr)(mD mA mG:List PyData→Option PyData)(x:Str):Prop :=
 (mR [.str x]=some (.inr C)∧mD [.str x]=some .none∧mA [Fc C]=some (.bool true)) ∨
 ∃rs l,mR [.str x]=some (.inl (.tuple [.list rs,.list l]))∧mD [.str x]=some (.tuple [.list rs,.list l])∧mG [.tuple [.list rs,.list l],.tuple [.list rs,.list l]]=some (.bool true)
def V3(C:Addr)(mR:List PyData→Option Xr)(mD mA mG:List PyData→Option PyData):Sp:=fun vs H Q _=>∃x,vs=[.str x]∧Sh C mR mD mA mG x∧∀H',AU H H'→Q (.bl true) H'
theorem XT{X:Cx}{st0 st1 st2 st3 st6 st7 st8:Stmt}{c4 c5:Expr}{b4 b5:List Stmt}{q4 q5:Pos}{C:Addr}{mR:List PyData→Option Xr}{mD mA mG:List PyData→Option PyData}(h0:DS X st0 (Av 1 (fC .none)))(h1:DS X st1 (Av 2 (fC .none)))(h2:K5 X st2 (ZA 1 2 3 mR (AB (nm 0) AH)))
 (h3:PS X st3 (Jj (LJ (BR mD) [] E0 (LK (D0 0) Rh)) (Fe 4)))(h4:DT X c4 (AY (Oj false) (nm 4) (fC .none)))(h4':Fz X b4 (A3 (AJ mA (AB (nm 2) AH))))
 (h5:DT X c5 (Cq (AY (Oj true) (nm 2) (fC .none)) (Dw (Cz (AJ mG (AB (nm 1) (AB (nm 4) AH)))))))(h5':Fz X b5 (A3 (fC (.bool false))))
 (h6:PS X st6 (LW (Xu X.K "list" Sl (P7 (U8 X.K) (D0 1) (tC (.int 0))))))(h7:PS X st7 (LW (Xu X.K "list" Sl (P7 (U8 X.K) (D0 1) (tC (.int 1))))))
 (h8:K5 X st8 (A3 (AJ mG (AB (AJ (good mR) (AB (nm 0) AH)) (AB (nm 4) AH))))) :
  ∃t,IP X [st0,st1,st2,st3,.If c4 b4 [] q4,.If c5 b5 [] q5,st6,st7,st8] t∧∀(x:Str) (H:Hp) (D:Ends),Sh C mR mD mA mG x→(∀H',AU H H'→D.rt (.bl true) H')→t D [some (.str x),none,none,none,none] H:=by
 obtain⟨t0,p0,k0⟩:=h0;obtain⟨t1,p1,k1⟩:=h1;obtain⟨t2,p2,k2⟩:=h2;obtain⟨t4,p4,k4⟩:=h4;obtain⟨t4',p4',k4'⟩:=h4';obtain⟨t5,p5,k5⟩:=h5;obtain⟨t5',p5',_⟩:=h5';obtain⟨t8,p8,k8⟩:=Lh h8;refine⟨_,C9 (.of p0) (C9 (.of p1) (C9 p2 (C9 (.of h3) (C9 (.of (FL p4 p4' DQ)) (C9 (.of (FL p5 p5' DQ)) (C9 (.of h6) (C9 (.of h7) p8))))))),fun x H D hb q=>?_⟩;have slots:∀ {δ:Dv} {σ:St} {G:Hp},(∀(i:Nat) (y:PyData),δ[i]? = some (L.d y)→∃v,σ[i]? = some (some v)∧Du G y v)→∀(i:Nat) (y:PyData),δ[i]? = some (L.d y)→∃v,σ[i]? = some (some v)∧Du G y v:=fun h=>h;have noOwn:∀ {a b c d e:L},(∀z,a≠.own z)→(∀z,b≠.own z)→(∀z,c≠.own z)→(∀z,d≠.own z)→(∀z,e≠.own z)→∀(i:Nat) (z:Oc),([a,b,c,d,e]:Dv)[i]?≠some (.own z):=fun ha hb hc hd he i z h=>by
  rcases i with _|_|_|_|_|i
  ·exact ha z (aU h)
  ·exact hb z (aU h)
  ·exact hc z (aU h)
  ·exact hd z (aU h)
  ·exact he z (aU h)
  ·simp at h
 have dN:∀ {y:PyData} (z:Oc),L.d y≠.own z:=fun z h=>by cases h
 have nN:∀(z:Oc),L.no≠.own z:=fun z h=>by cases h
 refine k0 [.d (.str x),.no,.no,.no,.no] _ rfl _ _ _ _ _ _ (Rw.bare (H:=H) rfl (fun i y h=>?_) (noOwn dN nN nN nN nN)) fun σ1 G1 H1 R1=>?_
 ·rcases i with _|_|_|_|_|i<;>first|(cases h;exact⟨_,rfl,by rw[Du]⟩)|(cases h;done)|simp at h
 refine k1 [.d (.str x),.d .none,.no,.no,.no] _ rfl _ _ _ _ _ _ R1 fun σ2 G2 H2 R2=>?_;rcases hb with ⟨e1,e2,e3⟩|⟨rs,l,e1,e2,e3⟩
 ·refine k2 [.d (.str x),.d .none,.d .none,.no,.no] (.nx [.d (.str x),.d .none,.d (Fc C),.no,.no]) (by show((some [PyData.str x]).bind mR).map _=_;rw[Option.bind_some,e1];rfl) _ _ _ _ _ _ R2 fun σ3 G3 H3 R3=>?_;obtain⟨v0,f0,d0⟩:=R3.dat 0 _ rfl;rw[Du]at d0;subst d0;refine⟨_,f0,[.str x],.none,G3,e2,.cons (by rw[Du]) .nil,R3.ins,fun v G' H' m1 m2 m3 m4 m5=>?_⟩;have R4:=((R3.lift m1 m2 m3 m4).put m5).Ie (i:=4);refine k4 _ true rfl _ _ _ _ _ [] _ R4 fun G5 H5 R5=>?_;rw[if_pos rfl];refine k4' _ (.rt (.bool true)) (by show((some [Fc C]).bind mA).map _=_;rw[Option.bind_some,e3];rfl) _ _ _ _ _ _ R5 fun v G' H' m1 m2 m3 m4 m5=>?_;rw[Du]at m5;subst m5;exact q H' m4
 ·refine k2 [.d (.str x),.d .none,.d .none,.no,.no] (.nx [.d (.str x),.d (.tuple [.list rs,.list l]),.d .none,.no,.no]) (by show((some [PyData.str x]).bind mR).map _=_;rw[Option.bind_some,e1];rfl) _ _ _ _ _ _ R2 fun σ3 G3 H3 R3=>?_;obtain⟨v0,f0,d0⟩:=R3.dat 0 _ rfl;rw[Du]at d0;subst d0;obtain⟨v1,f1,d1⟩:=R3.dat 1 _ rfl;obtain⟨v2,f2,d2⟩:=R3.dat 2 _ rfl;have l3:σ3.length=5:=R3.len;refine⟨_,f0,[.str x],_,(fun _=>none),e2,.cons (by rw[Du]) .nil,(fun a o h=>by cases h),fun v4 Gd H4 m1 m2 m3 m4 m5=>?_⟩;rw[Du]at d1;obtain⟨t,ws,rfl,tt,d1⟩:=d1;obtain⟨a1,r1,rfl,da,d1⟩:=d1.un;obtain⟨a2,r2,rfl,db,d1⟩:=d1.un;have:=d1.nil_eq;subst this;rw[Du]at da db;obtain⟨R,xs,rfl,hR,dR⟩:=da;obtain⟨Lc,zs,rfl,hL,dL⟩:=db;have s34:AU G3 H4:=R3.ins.trans m4;have D4:Du H4 (.tuple [.list rs,.list l]) (.ref t):=by
   rw[Du];refine⟨t,_,rfl,s34 _ _ tt,.cons ?_ (.cons ?_ .nil)⟩
   ·rw[Du];exact⟨R,xs,rfl,s34 _ _ hR,dR.same s34⟩
   ·rw[Du];exact⟨Lc,zs,rfl,s34 _ _ hL,dL.same s34⟩
  have W:Rw H4 H4 H4 H4 (σ3.set 4 (some v4)) [.d (.str x),.d (.tuple [.list rs,.list l]),.d .none,.no,.d (.tuple [.list rs,.list l])] []:=by
   refine Rw.whole (by rw[List.length_set,l3];rfl) (fun i y h=>?_) (noOwn dN dN dN nN dN);rcases i with _|_|_|_|_|i
   ·cases h;exact⟨_,by rw[List.getElem?_set_ne (by decide)];exact f0,by rw[Du]⟩
   ·cases h;exact⟨_,by rw[List.getElem?_set_ne (by decide)];exact f1,D4⟩
   ·cases h;exact⟨_,by rw[List.getElem?_set_ne (by decide)];exact f2,by rw[Du]at d2 ⊢;exact d2⟩
   ·cases h
   ·cases h;exact⟨_,by rw[List.getElem?_set_self (by rw[l3];decide)],m5.same m3⟩
   ·simp at h
  refine k4 _ false rfl _ _ _ _ _ [] _ W fun G5 H5 R5=>?_;rw[if_neg aO];refine k5 _ false (by show((some (PyData.bool false)).bind Md).bind _=_;show(Option.map _ ((((some [PyData.tuple [.list rs,.list l],.tuple [.list rs,.list l]]).bind mG)).bind Md))=_;rw[Option.bind_some,e3];rfl) _ _ _ _ _ [] _ R5 fun G6 H6 R6=>?_;rw[if_neg aO];have s46:AU H4 H6:=R6.keep;have s36:AU G3 H6:=s34.trans s46;have g1:(σ3.set 4 (some v4))[1]? = some (some (.ref t)):=by rw[List.getElem?_set_ne (by decide)];exact f1
  have KJ:∀ {a:Addr} {ys:List V},G3 a=some (.lst ys)→H a=none∧Gd a=none:=fun {a ys} h=>by
   refine⟨?_,?_⟩
   ·rcases R3.new _ _ h with z|z|⟨_,z⟩
    ·cases z
    ·exact z
    ·cases z
   ·cases z:Gd a with
    |none=>rfl
    |some o =>
     have h3:=R3.ins _ _ h;rcases m2 _ _ z with y|y|⟨_,y⟩
     ·cases y
     ·rw[h3]at y;cases y
     ·have:=m3 _ _ z;rw[m4 _ _ h3,y]at this;cases this
  have tR:t≠R:=fun z=>by rw[z,hR]at tt;cases tt
  have tL:t≠Lc:=fun z=>by rw[z,hL]at tt;cases tt
  refine⟨_,g1,t,[.ref R,.ref Lc],0,.ref R,rfl,rfl,CS.of (s36 _ _ tt),rfl,.inl ⟨rfl,xs,BI.of (s36 _ _ hR)⟩,R,xs,rfl,rfl,s36 _ _ hR,?_⟩;have hL7:∃ys,upd H6 R (.lst []) Lc=some (.lst ys):=by
   by_cases z:Lc=R
   ·subst z;exact⟨_,Ad⟩
   ·exact⟨zs,by rw[AW z];exact s36 _ _ hL⟩
  obtain⟨ys7,hL7⟩:=hL7;refine⟨_,g1,t,[.ref R,.ref Lc],1,.ref Lc,rfl,rfl,CS.of (by rw[AW tR];exact s36 _ _ tt),rfl,.inl ⟨rfl,ys7,BI.of hL7⟩,Lc,ys7,rfl,rfl,hL7,?_⟩;have far:∀ {b:Addr} {o:HO},b≠R→b≠Lc→H6 b=some o→upd (upd H6 R (.lst [])) Lc (.lst []) b=some o:=fun h1 h2 h3=>by rw[AW h2,AW h1];exact h3
  have sG:AU Gd (upd (upd H6 R (.lst [])) Lc (.lst [])):=fun b o h=>far (fun z=>by subst z;rw[(KJ hR).2]at h;cases h) (fun z=>by subst z;rw[(KJ hL).2]at h;cases h) (s46 _ _ (m3 _ _ h));have sH:AU H (upd (upd H6 R (.lst [])) Lc (.lst [])):=fun b o h=>far (fun z=>by subst z;rw[(KJ hR).1]at h;cases h) (fun z=>by subst z;rw[(KJ hL).1]at h;cases h) (s46 _ _ (m4 _ _ (R3.keep _ _ h)));refine k8 [.d (.str x),.no,.no,.no,.d (.tuple [.list rs,.list l])] (.rt (.bool true)) ?_ _ _ _ _ _ _ (Rw.part sG (by rw[List.length_set,l3];rfl) (fun i y h=>?_) (noOwn dN nN nN nN dN)) fun v G' H' n1 n2 n3 n4 n5=>?_
  ·have eg:good mR [.str x]=some (.tuple [.list rs,.list l]):=by unfold good;rw[e1]
   show Option.map _ ((Option.bind ((some [PyData.str x]).bind (good mR)) fun y=>(some [PyData.tuple [.list rs,.list l]]).map fun ys=>y::ys).bind mG)=_;rw[Option.bind_some,eg,Option.bind_some,Option.map_some,Option.bind_some,e3];rfl
  ·rcases i with _|_|_|_|_|i
   ·cases h;exact⟨_,by rw[List.getElem?_set_ne (by decide)];exact f0,by rw[Du]⟩
   ·cases h
   ·cases h
   ·cases h
   ·cases h;exact⟨_,by rw[List.getElem?_set_self (by rw[l3];decide)],m5⟩
   ·simp at h
  ·rw[Du]at n5;subst n5;exact q H' (sH.trans n4)
theorem Sm{k:Nat}{C:Addr}{mR:List PyData→Option Xr}{mD mA mG:List PyData→Option PyData}(F:Fn K mg "_law_read" F9 ["_law_text"] f fd)(FP:Fn K mg "read_table" JW ["text"] g1 gd1)(GN:Fn K mg "_law_reader" IU ["_law_text"] g2 gd2)(D2:Fn K mg "_law_alone" HR ["_law_error"] g3 gd3)(GC:Fn K mg "_law_good" KN ["_law_found", "_law_due"] g4 gd4)
 (Gs:CT P w K mg base (Cy P w) k g1 gd1 ["text"] (Gu mR))(IV:Ab P w K mg base Ao k g2 gd2 ["_law_text"] (BR mD))(Ed:Ab P w K mg base Ao k g3 gd3 ["_law_error"] (BR mA))(Hy:Ab P w K mg base Ao k g4 gd4 ["_law_found", "_law_due"] (BR mG))
 (GZ:mg "NoText" = some (.ref C))(hB:∀ds C',mR ds=some (.inr C')→DP K C' C true):CT P w K mg base Ao (k+1) f fd ["_law_text"] (V3 C mR mD mA mG):=by
 have sc:Al ["_law_text", "_law_found", "_law_error", "e", "_law_due"] ["_law_text"] (AN F9):=⟨rfl,rfl,rfl,by decide +kernel,rfl,by decide +kernel,by decide +kernel⟩;refine F.F.eL (k:=k) sc (fun vs H Q E h=>?_) (fun cdv A outer s H vs Q E hr h=>?_)
 ·obtain⟨x,rfl,_⟩:=h;rfl
 obtain⟨x,rfl,hx,q⟩:=h;have main:∃t,IP (Bq Ao P w K mg base ["_law_text", "_law_found", "_law_error", "e", "_law_due"] "_law_read" (AN F9) f cdv A outer s H E).DV (B5 F9) t∧∀(x:Str) (H:Hp) (D:Ends),Sh C mR mD mA mG x→(∀H',AU H H'→D.rt (.bl true) H')→t D [some (.str x),none,none,none,none] H:=by
  exact XT (C:=C) (mR:=mR) (mD:=mD) (mA:=mA) (mG:=mG) (Aw (i:=1) sc.nd rfl (Or.inl rfl) DM) (Aw (i:=2) sc.nd rfl (Or.inl rfl) DM) (YF (i:=1) (j:=2) (k:=3) FP Gs hr rfl (AD (AA (pv 0)) AK) hB (fun h=>YK (i:=1) (j:=2) (k:=3) h sc.nd rfl rfl rfl rfl rfl rfl rfl rfl GZ (by decide) ⟨_,rfl⟩ rfl)) (Bp (i:=4) sc.nd rfl (Or.inl rfl) (EN GN IV hr rfl (AM (pv 0) Af))) (Aq VA (AA (pv 4)) DM (Ae _)) (Aa (Ay (A8 D2 Ed hr rfl (AD (AA (pv 2)) AK)))) (DW.dt (D5 (Aq Xq (AA (pv 2)) DM (Ae _)) (DK (Eb (Di (A8 GC Hy hr rfl (AD (AA (pv 1)) (AD (AA (pv 4)) AK)))))))) (Aa (Ay HE)) (E7 (Qr aX PySem.F.slot_list_clear PySem.F.type_list_clear RU (CM CD (pv 1) Ah (fun _ _=>rfl)))) (E7 (Qr aX PySem.F.slot_list_clear PySem.F.type_list_clear RU (CM CD (pv 1) Ah (fun _ _=>rfl)))) (ZV (ET GC (Ab.r Hy) hr rfl (Xv (ET FP (eZ Gs) hr rfl (DA.r (AD (AA (pv 0)) AK))) (DA.r (AD (AA (pv 4)) AK)))))
 obtain⟨t,p,kt⟩:=main;exact⟨t,p,kt x H _ hx q⟩
end
theorem W2:Al ["_law_script", "_law_rest_here", "_law_table_here", "_law_great", "_law_lines_here", "_law_handed", "_law_told", "_law_number_here", "_law_more", "_law_text", "_law_bad"] ["_law_script"] (AN J6):=⟨rfl,rfl,rfl,by decide +kernel,rfl,by decide +kernel,by decide +kernel⟩
section
variable{P:Program}{w:World}{K:PySem.W.Frag}{mg:Str→Option Value}{base:Heap}{f:Addr} 
def O5(Ce:List PyData→Option PyData)(BU:List PyData→Option PyData)(Ar:List PyData→Option PyData)(DJ:List PyData→Option PyData)(Cr:List PyData→Option PyData)(Cf:List PyData→Option PyData)(A1:List PyData→Option PyData)(EU:List PyData→Option PyData)(C8:List PyData→Option PyData)(BF:List PyData→Option Xr):DF :=
 (AX (Av 4 (AJ Cr (AB (nm 2) AH)))
 (AX (Av 5 (AJ DJ (AB (nm 2) AH)))
 (AX (Av 6 (AJ (good BF) (AB (nm 5) AH)))
 (AX (Bw (Cq (Dw (Cz (Jm W6 (nm 6)))) (Cq (AY (A0 true) (nm 6) (AE Cj (fC (.str (Str.ofString "\n"))) (nm 4))) (Cq (AY (A0 true) (nm 5) (nm 2)) (Dw (Cz (AJ EU (AB (nm 6) AH)))))))
  (A3 (fC (.bool false)))
  BA)
 (AX (Av 7 (AJ A1 (AB (AJ Ar (AB (nm 0) (AB (fC (.int 2)) AH))) (AB (fC (.int 7)) AH))))
 (AX (Av 8 (AJ A1 (AB (AJ Ar (AB (nm 0) (AB (fC (.int 2)) AH))) (AB (fC (.int 8)) AH))))
 (AX (Bw (AY (Bv fun i j=>decide (j<i)) (AE A9 (nm 7) (fC (.int 16))) (fC (.int 6)))
  (Av 4 (AJ BU (AB (nm 4) (AB (nm 7) (AB (nm 8) AH)))))
  BA)
 (AX (Av 9 (AE Cj (fC (.str (Str.ofString "\n"))) (nm 4)))
 (AX (Bw (Hm (AY (Bv fun i j=>decide (i<j)) (fC (.int 0)) (AE A9 (nm 7) (fC (.int 16)))) (AY (Bv fun i j=>decide (i<j)) (AE A9 (nm 7) (fC (.int 16))) (fC (.int 7))))
  (Av 9 (AJ Ce (AB (nm 9) (AB (nm 7) (AB (nm 8) AH)))))
  BA)
 (AX (Bw (Dw (Cz (AJ EU (AB (nm 9) AH))))
  (A3 (fC (.bool false)))
  BA)
 (AX (Bw (Cq (Hm (AY (A0 false) (AE A9 (AE D1 (nm 1) (fC (.int 16))) (fC (.int 8))) (fC (.int 1))) (Dw (Cz (AJ EU (AB (AJ Cf (AB (fC (.int 40)) AH)) AH))))) (Hm (AY (A0 false) (AE A9 (AE D1 (nm 1) (fC (.int 16))) (fC (.int 8))) (fC (.int 2))) (Dw (Cz (AJ EU (AB (AJ Cf (AB (fC (.int 41)) AH)) AH))))))
  (A3 (fC (.bool false)))
  BA)
 (AX (Av 10 (B6 (AB (FD (AB (HY (AE Ap (nm 2) (fC (.int 0))) (Fq (fC (.int 1))) Fj) (AB (AE Ap (nm 2) (fC (.int 1))) AH))) (AB (FD (AB (AE Ap (nm 2) (fC (.int 0))) (AB (HY (AE Ap (nm 2) (fC (.int 1))) (Fq (fC (.int 1))) Fj) AH))) (AB (B6 (AB (AE Ap (nm 2) (fC (.int 0))) (AB (AE Ap (nm 2) (fC (.int 1))) AH))) (AB (FD (AB (AE Ap (nm 2) (fC (.int 0))) (AB (AE Az (AE Ap (nm 2) (fC (.int 1))) (B6 (AB (fC (.int 1)) AH))) AH))) AH))))))
 (A3 (AJ C8 (AB (AE Ap (nm 10) (AE A9 (AE D1 (nm 1) (fC (.int 16))) (fC (.int 4)))) AH)))))))))))))))
theorem YQ{k:Nat}{Ce:List PyData→Option PyData}{BU:List PyData→Option PyData}{Ar:List PyData→Option PyData}{DJ:List PyData→Option PyData}{Cr:List PyData→Option PyData}{Cf:List PyData→Option PyData}{A1:List PyData→Option PyData}{EU:List PyData→Option PyData}{C8:List PyData→Option PyData}{BF:List PyData→Option Xr}
 {NP:Addr}{Mx:FuncData}(IA:Fn K mg "_law_bent" KI ["_law_text", "_law_number_here", "_law_more"] NP Mx)(KQ:Ab P w K mg base Ao k NP Mx ["_law_text", "_law_number_here", "_law_more"] (BR Ce))
 {Il:Addr}{IH:FuncData}(EY:Fn K mg "_law_bent_lines" F8 ["_law_lines_here", "_law_number_here", "_law_more"] Il IH)(F5:Ab P w K mg base Ao k Il IH ["_law_lines_here", "_law_number_here", "_law_more"] (BR BU))
 {Eh:Addr}{EK:FuncData}(Cb:Fn K mg "_law_cell_at" Fy ["_law_script", "_law_k"] Eh EK)(C5:Ab P w K mg base Ao k Eh EK ["_law_script", "_law_k"] (BR Ar))
 {NZ:Addr}{ML:FuncData}(Hz:Fn K mg "_law_copy" Ka ["_law_table_here"] NZ ML)(Kb:Ab P w K mg base Ao k NZ ML ["_law_table_here"] (BR DJ))
 {MM:Addr}{Lv:FuncData}(G8:Fn K mg "_law_lines" JK ["_law_table_here"] MM Lv)(Jg:Ab P w K mg base Ao k MM Lv ["_law_table_here"] (BR Cr))
 {NU:Addr}{Mw:FuncData}(GF:Fn K mg "_law_long" KZ ["_law_many"] NU Mw)(IB:Ab P w K mg base Ao k NU Mw ["_law_many"] (BR Cf))
 {FN:Addr}{Ez:FuncData}(CK:Fn K mg "_law_mixed" HB ["_law_cell", "_law_k"] FN Ez)(Co:Ab P w K mg base Ao k FN Ez ["_law_cell", "_law_k"] (BR A1))
 {NS:Addr}{MH:FuncData}(EV:Fn K mg "_law_read" F9 ["_law_text"] NS MH)(E8:CT P w K mg base Ao k NS MH ["_law_text"] (BR EU))
 {K4:Addr}{Jx:FuncData}(Fo:Fn K mg "_law_refused" Hj ["_law_table_here"] K4 Jx)(Hr:Ab P w K mg base Ao k K4 Jx ["_law_table_here"] (BR C8))
 {Ex:Addr}{Ee:FuncData}(De:Fn K mg "shown_table" GL ["table"] Ex Ee)(Ey:Ab P w K mg base (Cy P w) k Ex Ee ["table"] (Gu BF))(AO:mg "isinstance" = none)(LC:mg "str" = none)(cdv:Value)(A:Around)(outer:List Env)(s:Shared)(H:Hp)(E:XK)(hr:Bf k (A.deeper (PyProof.Rows.envOfC "law" (AN J6) s.heap.objs.size f cdv))) :
  KW (Bq Ao P w K mg base ["_law_script", "_law_rest_here", "_law_table_here", "_law_great", "_law_lines_here", "_law_handed", "_law_told", "_law_number_here", "_law_more", "_law_text", "_law_bad"] "law" (AN J6) f cdv A outer s H E).DV ((B5 J6).drop 3) (O5 Ce BU Ar DJ Cr Cf A1 EU C8 BF):=by
 have sc:=W2;exact(B0 (DS.r (Aw (i:=4) sc.nd rfl (Or.inl rfl) (A8 G8 Jg hr rfl (AD (AA (pv 2)) AK)))) (B0 (DS.r (Aw (i:=5) sc.nd rfl (Or.inl rfl) (A8 Hz Kb hr rfl (AD (AA (pv 2)) AK)))) (B0 (DS.r (Aw (i:=6) sc.nd rfl (Or.inl rfl) (A8 De (iC Ey) hr rfl (AD (AA (pv 5)) AK)))) (B0 (OK (Mb.rt (O1 (DT.r (Eb (Di (Jf (Xa _) rfl AO rfl LC PyProof.Rows.boot_str (AA (pv 6)))))) (O1 (DT.r (Aq (Fh (by have:=hr.units;exact this)) (AA (pv 6)) (Ep Ac (AA (pv 4))) (Ae _))) (O1 (DT.r (Aq (Fh (by have:=hr.units;exact this)) (AA (pv 5)) (AA (pv 2)) (Ae _))) (M3 (M7 (NB (ET EV E8 hr rfl (DA.r (AD (AA (pv 6)) AK)))))))))) (Fz.r (Aa (Ay HE))) (Fz.r BB)) (B0 (DS.r (Aw (i:=7) sc.nd rfl (Or.inl rfl) (A8 CK Co hr rfl (AD (A8 Cb C5 hr rfl (AD (AA (pv 0)) (AD AG AK))) (AD AG AK))))) (B0 (DS.r (Aw (i:=8) sc.nd rfl (Or.inl rfl) (A8 CK Co hr rfl (AD (A8 Cb C5 hr rfl (AD (AA (pv 0)) (AD AG AK))) (AD AG AK))))) (B0 (DS.r (Bx (Aq Lf (AV BJ (AA (pv 7)) AG) AG (Ae _))
  (Aa (Aw (i:=4) sc.nd rfl (Or.inl rfl) (A8 EY F5 hr rfl (AD (AA (pv 4)) (AD (AA (pv 7)) (AD (AA (pv 8)) AK))))))
  BB)) (B0 (DS.r (Aw (i:=9) sc.nd rfl (Or.inl rfl) (Ep Ac (AA (pv 4))))) (B0 (DS.r (Bx (DW.dt (Sf (Aq NC AG (AV BJ (AA (pv 7)) AG) (Ae _)) (DK (Aq NC (AV BJ (AA (pv 7)) AG) AG (Ae _)))))
  (Aa (Aw (i:=9) sc.nd rfl (Or.inl rfl) (A8 IA KQ hr rfl (AD (AA (pv 9)) (AD (AA (pv 7)) (AD (AA (pv 8)) AK))))))
  BB)) (B0 (OK (M7 (NB (ET EV E8 hr rfl (DA.r (AD (AA (pv 9)) AK))))) (Fz.r (Aa (Ay HE))) (Fz.r BB)) (B0 (OK (Mb.rt (O1 (Mb.rt (Tc (DT.r (Aq (DC (by have:=hr.units;exact this)) (AV BJ (AV E5 (AA (pv 1)) AG) AG) AG (Ae _))) (M3 (M7 (NB (ET EV E8 hr rfl (DA.r (AD (A8 GF IB hr rfl (AD AG AK)) AK)))))))) (M3 (Mb.rt (Tc (DT.r (Aq (DC (by have:=hr.units;exact this)) (AV BJ (AV E5 (AA (pv 1)) AG) AG) AG (Ae _))) (M3 (M7 (NB (ET EV E8 hr rfl (DA.r (AD (A8 GF IB hr rfl (AD AG AK)) AK))))))))))) (Fz.r (Aa (Ay HE))) (Fz.r BB)) (Fz.r (AQ (Aw (i:=10) sc.nd rfl (Or.inl rfl) (CF (AD (HQ (AD (Hf (A6 (AA (pv 2)) AG (fun _ _=>rfl)) (JB AG) JG) (AD (A6 (AA (pv 2)) AG (fun _ _=>rfl)) AK))) (AD (HQ (AD (A6 (AA (pv 2)) AG (fun _ _=>rfl)) (AD (Hf (A6 (AA (pv 2)) AG (fun _ _=>rfl)) (JB AG) JG) AK))) (AD (CF (AD (A6 (AA (pv 2)) AG (fun _ _=>rfl)) (AD (A6 (AA (pv 2)) AG (fun _ _=>rfl)) AK))) (AD (HQ (AD (A6 (AA (pv 2)) AG (fun _ _=>rfl)) (AD (AV A2 (A6 (AA (pv 2)) AG (fun _ _=>rfl)) (CF (AD AG AK))) AK))) AK))))))
 (Aa (Ay (A8 Fo Hr hr rfl (AD (A6 (AA (pv 10)) (AV BJ (AV E5 (AA (pv 1)) AG) AG) (fun _ _=>rfl)) AK)))))))))))))))))
end
section
variable{P:Program}{w:World}{K:PySem.W.Frag}{mg:Str→Option Value}{base:Heap}{CX:F0}{k:Nat}{f:Addr}{fd:FuncData}{ps:List Str}
def Tn(ds:List PyData):Option PyData:=match ds with
 |[.int t,.int b]=>if b≠0∧b.natAbs<2^400 then some (Bt (Rat.divInt t b)) else none
 |_=>none
theorem je(F:Ab P w K mg base CX k f fd ps Ro):Ab P w K mg base CX k f fd ps (BR Tn) :=
 UX F fun ds x hm G H vs Q E d e kk=>by
  unfold Tn at hm;split at hm
  ·split at hm
   ·rename_i hh;cases hm;obtain⟨v1,v2,rfl,d1,d2⟩:=d.Yk;rw[Du]at d1 d2;subst d1 d2;refine⟨_,_,400,rfl,hh.1,by decide,hh.2,fun l H' e' hl'=>?_⟩;obtain⟨G',n1,n2,n3,n4⟩:=iU e e' hl' (RN [(Rat.divInt _ _).num,((Rat.divInt _ _).den:Int)]);exact kk _ G' H' n1 n2 n3 e' n4
   ·cases hm
  ·cases hm
end
namespace Tx
abbrev sep(c:Nat):Str:=⟨#[c]⟩
theorem BW{x y:Str}(h:x.cps.toList=y.cps.toList):x=y:=by
 cases x;cases y;simp only at h;rw[Array.toList_inj.mp h]
theorem app_list(x y:Str):(x++y).cps.toList=x.cps.toList++y.cps.toList:=by
 show(x.cps++y.cps).toList=_;rw[Array.toList_append]
theorem join_one(c:Nat)(p:Str):Str.join (sep c) [p]=p:=rfl
theorem DZ(c:Nat)(p q:Str)(r:List Str):(Str.join (sep c) (p::q::r)).cps.toList=p.cps.toList++c::(Str.join (sep c) (q::r)).cps.toList:=by
 show(p++sep c++Str.join (sep c) (q::r)).cps.toList=_;rw[app_list,app_list,List.append_assoc];rfl
theorem Q4{c:Nat}:∀ {a b:List Nat} {x y:List Nat},c ∉ a→c ∉ b→a++c::x=b++c::y→a=b∧x=y
 |[],[],x,y,_,_,h=>⟨rfl,by simpa using h⟩
 |[],b0::b,x,y,_,hb,h=>by simp at h;exact absurd h.1 (fun z=>hb (by rw[z];simp))
 |a0::a,[],x,y,ha,_,h=>by simp at h;exact absurd h.1 (fun z=>ha (by rw[←z];simp))
 |a0::a,b0::b,x,y,ha,hb,h=>by
  simp only[List.cons_append,List.cons.injEq]at h;obtain⟨e1,e2⟩:=Q4 (fun z=>ha (aV _ z)) (fun z=>hb (aV _ z)) h.2;exact⟨by rw[h.1,e1],e2⟩
theorem QC{c:Nat}:∀ {ps qs:List Str},ps≠[]→qs≠[]→(∀p∈ps,c ∉ p.cps.toList)→(∀p∈qs,c ∉ p.cps.toList)→Str.join (sep c) ps=Str.join (sep c) qs→ps=qs
 |[],_,h,_,_,_,_=>absurd rfl h
 |_,[],_,h,_,_,_=>absurd rfl h
 |[p],[q],_,_,_,_,h=>by rw[show p=q from h]
 |[p],q::q'::r,_,_,hp,_,h=>by
  have e:=aM (fun z:Str=>z.cps.toList) h;simp only[DZ,join_one]at e;exact absurd (by rw[e];simp) (hp p (by simp))
 |p::p'::r,[q],_,_,_,hq,h=>by
  have e:=aM (fun z:Str=>z.cps.toList) h;simp only[DZ,join_one]at e;exact absurd (by rw[←e];simp) (hq q (by simp))
 |p::p'::r,q::q'::r',_,_,hp,hq,h=>by
  have e:=aM (fun z:Str=>z.cps.toList) h;simp only[DZ]at e;obtain⟨e1,e2⟩:=Q4 (hp p (by simp)) (hq q (by simp)) e;have:=QC (ps:=p'::r) (qs:=q'::r') (by simp) (by simp) (fun z hz=>hp z (aV _ hz)) (fun z hz=>hq z (aV _ hz)) (BW e2);rw[BW e1,this]
theorem Jk(x:Str)(c:Nat):Txt.split x (sep c)≠[]:=fun h=>by
 have:=PyProof.Rows.split_pos x (sep c);rw[h]at this;simp at this
theorem LP{c:Nat}{ps:List Str}(h0:ps≠[])(h:∀p∈ps,c ∉ p.cps.toList):Txt.split (Str.join (sep c) ps) (sep c)=ps :=
 QC (Jk _ _) h0 (StrLaws.split_free _ c) h (StrLaws.join_split _ _)
abbrev dg(n:Nat):List Nat:=(Nat.toDigits 10 n).map Char.toNat
theorem Nq(n:Nat):PySem.NumText.AllDigits (dg n):=by
 intro c hc;obtain⟨ch,hch,e⟩:=aR.mp hc;have r:=PyProof.Rows.digit_range (Nat.isDigit_of_mem_toDigits (by decide) (by decide) hch);rw[←e];exact r
theorem N9(n:Nat):PySem.NumText.digitsVal (dg n)=n:=PySem.W.KIN.val_back n
theorem J9{n:Nat}(h:n<10):dg n=[n+48]:=by
 rw[dg,Nat.toDigits_of_lt_base h];have:∀d:Nat,d<10→(Nat.digitChar d).toNat=d+48:=by decide
 simp[this n h]
theorem Qe{n:Nat}(h:10≤n):dg n=dg (n / 10)++[n % 10+48]:=by
 have hm:n % 10<10:=Nat.mod_lt n (by decide);have t:Nat.toDigits 10 (n / 10)++Nat.toDigits 10 (n % 10)=Nat.toDigits 10 (10*(n / 10)+n % 10):=Nat.toDigits_append_toDigits (by decide) (by lia) hm;rw[Nat.div_add_mod]at t;rw[dg,←t,List.map_append];exact aM _ (J9 hm)
theorem ND(n:Nat):dg n≠[]:=by
 by_cases h:n<10
 ·rw[J9 h];simp
 ·rw[Qe (by lia)];simp
theorem Z9(n:Nat)(h:0<n):∀r,dg n≠48::r:=by
 induction n using Nat.strongRecOn with
 |_ n ih =>
  intro r e;by_cases h1:n<10
  ·rw[J9 h1]at e;simp at e;lia
  ·rw[Qe (by lia)]at e;cases hd:dg (n / 10) with
   |nil=>exact ND _ hd
   |cons a l =>
    rw[hd,List.cons_append]at e
    injection e with e1 _
    exact ih (n / 10) (by lia) (by lia) l (by rw[hd,e1])
theorem Zm:∀(k:Nat) (l:List Nat),l.length=k→PySem.NumText.AllDigits l→l≠[]→(l.head? = some 48→l=[48])→dg (PySem.NumText.digitsVal l)=l:=by
 intro k
 induction k with
 |zero=>intro l hl _ h;cases l<;>simp_all
 |succ k ih =>
  intro l hl hd hne h0;rcases List.eq_nil_or_concat l with e|⟨r,d,e⟩
  ·exact absurd e hne
  subst e;rw[List.concat_eq_append]at *;have hd':=hd d (by simp);rw[PySem.NumText.digitsVal_snoc];by_cases hr:r=[]
  ·subst hr;show dg (0*10+(d-48))=_;rw[J9 (by lia)];simp;lia
  ·have hr0:r.head?≠some 48:=fun z=>by
    cases r with
    |nil=>exact hr rfl
    |cons a r' =>
     simp at z;subst z;have:=h0 (by simp);simp at this
   have e1:=ih r (by simp at hl;lia) (fun c hc=>hd c (by simp[hc])) hr (fun z=>absurd z hr0);have pos:0<PySem.NumText.digitsVal r:=by
    rcases Nat.eq_zero_or_pos (PySem.NumText.digitsVal r) with z|z
    ·rw[z,J9 (by decide)]at e1;exact absurd (by rw[←e1];rfl) hr0
    ·exact z
   rw[Qe (by lia),show(PySem.NumText.digitsVal r*10+(d-48)) / 10=PySem.NumText.digitsVal r by lia,show(PySem.NumText.digitsVal r*10+(d-48)) % 10+48=d by lia,e1]
end Tx
namespace Tx
theorem JY:∀(l:List Nat) (p:Nat→Bool),l.drop (l.takeWhile p).length=l.dropWhile p
 |[],_=>rfl
 |a::l,p=>by
  cases h:p a with
  |true=>rw[List.takeWhile_cons_of_pos h,List.dropWhile_cons_of_pos h];exact JY l p
  |false=>rw[List.takeWhile_cons_of_neg (by rw[h];decide),List.dropWhile_cons_of_neg (by rw[h];decide)];rfl
theorem Q1:∀ {l:List Nat} {p:Nat→Bool} {c:Nat},c∈l.takeWhile p→p c=true
 |[],_,_,h=>by simp at h
 |a::l,p,c,h=>by
  cases ha:p a with
  |true =>
   rw[List.takeWhile_cons_of_pos ha]at h;rcases aL.mp h with z|z
   ·rw[z];exact ha
   ·exact Q1 z
  |false=>rw[List.takeWhile_cons_of_neg (by rw[ha];decide)]at h;simp at h
theorem Wk:∀ {l:List Nat} {p:Nat→Bool},(∀c∈l,p c=true)→l.dropWhile p=[]
 |[],_,_=>rfl
 |a::l,p,h=>by rw[List.dropWhile_cons_of_pos (h a (by simp))];exact Wk fun c hc=>h c (by simp[hc])
theorem jB(w:Str):(Txt.lstripChars w (Str.ofString "-")).cps.toList=w.cps.toList.dropWhile (· == 45):=by
 have hg:(Str.ofString "-").cps.contains=fun c=>c==45:=by
  funext c
  show(#[45]:Array Nat).contains c=_;simp[Array.contains]
 show(Txt.stripBy _ true false w).cps.toList=_;rw[PyProof.Rows.stripBy_eq,StrLaws.strSub_toList,hg];show(List.drop (List.takeWhile (fun c=>c==45) w.cps.toList).length w.cps.toList).take (w.length-_)=_;rw[JY,List.take_of_length_le];rw[←JY,List.length_drop];exact aJ _
def B1(c:Nat):Bool:=48≤c&&c≤57
theorem i6:(Str.ofString "0123456789").cps.contains=B1:=by
 funext c
 have e:(Str.ofString "0123456789").cps=#[48,49,50,51,52,53,54,55,56,57]:=by decide +kernel
 rw[e];unfold B1;by_cases h:c<58
 ·revert h;revert c;decide +kernel
 ·have h1:¬(c≤57):=by lia
  simp only[Array.contains_eq_any_beq]at *;simp[h1];lia
theorem Wj(w:Str):Txt.stripChars w (Str.ofString "0123456789")=Str.ofString "" ↔ ∀c∈w.cps.toList,B1 c=true:=by
 show Txt.stripBy _ true true w=_ ↔ _;rw[PyProof.Rows.stripBy_eq,i6];have em:∀x:Str,x=Str.ofString "" ↔ x.cps.toList=[]:=fun x=>⟨fun h=>by rw[h];rfl,fun h=>BW (by rw[h];rfl)⟩;rw[em,StrLaws.strSub_toList];show(List.drop (List.takeWhile B1 w.cps.toList).length w.cps.toList).take _=[] ↔ _;have hlen:w.length=w.cps.toList.length:=by simp[Str.length]
 rw[JY];have hi:stripHi B1 true w (stripLo B1 true w)-stripLo B1 true w=((w.cps.toList.dropWhile B1).reverse.dropWhile B1).length:=by
  show w.length-((w.cps.toList.drop (List.takeWhile B1 w.cps.toList).length).reverse.takeWhile B1).length-(List.takeWhile B1 w.cps.toList).length=_;rw[JY,hlen];have a1:=aM List.length (au (p:=B1) (l:=w.cps.toList));have a2:=aM List.length (au (p:=B1) (l:=(w.cps.toList.dropWhile B1).reverse));rw[List.length_append]at a1 a2;rw[List.length_reverse]at a2
  lia
 rw[hi];generalize w.cps.toList=l;constructor
 ·intro h c hc;cases hd:l.dropWhile B1 with
  |nil =>
   have:=au (p:=B1) (l:=l);rw[hd,List.append_nil]at this;rw[←this]at hc;exact Q1 hc
  |cons a r =>
   have ha:B1 a=false:=by
    have:=List.head?_dropWhile_not B1 l;rw[hd]at this;simpa using this
   have:a∈(l.dropWhile B1).reverse.dropWhile B1:=by
    rw[hd,List.reverse_cons];have e:=au (p:=B1) (l:=r.reverse++[a]);have m:a∈r.reverse++[a]:=by simp
    rw[←e]at m;rcases aT.mp m with z|z
    ·have:=Q1 z;rw[ha]at this;cases this
    ·exact z
   have hp:0<((l.dropWhile B1).reverse.dropWhile B1).length:=List.length_pos_of_mem this;rw[hd]at h hp;cases hn:((a::r).reverse.dropWhile B1).length with
   |zero=>rw[hn]at hp;cases hp
   |succ n=>rw[hn]at h;cases h
 ·intro h;rw[Wk h];rfl
end Tx
namespace Tx
def BS(i:Int):List Nat:=if i<0 then 45::dg i.natAbs else dg i.natAbs
theorem toS(i:Int):(Str.ofString (toString i)).cps.toList=BS i:=by
 cases i with
 |ofNat n=>exact PySem.W.KIN.signs_num n
 |negSucc n =>
  rw[PyProof.Rows.signs_ofString];show("-" ++ Nat.repr (n+1)).toList.map Char.toNat=_;rw[String.toList_append,List.map_append];show 45::(Nat.repr (n+1)).toList.map Char.toNat=_;rw[Nat.toList_repr,BS,if_pos (Int.negSucc_lt_zero n)];rfl
def Gk(t b:Int):Str:=⟨(BS t++(if b=1 then [] else 47::BS b)).toArray⟩
theorem Dd(t b:Int):(Gk t b).cps.toList=BS t++(if b=1 then [] else 47::BS b):=by simp[Gk]
theorem Kq{n c:Nat}(h:c∈dg n):48≤c∧c≤57:=Nq n c h
theorem Pk{i:Int}{c:Nat}(h:c∈BS i):c=45∨(48≤c∧c≤57):=by
 unfold BS at h;split at h
 ·rcases aL.mp h with z|z
  ·exact .inl z
  ·exact .inr (Kq z)
 ·exact .inr (Kq h)
theorem HX{i:Int}:47 ∉ BS i:=fun h=>by rcases Pk h with z|z<;>lia
theorem LN(i:Int):(BS i).dropWhile (· == 45)=dg i.natAbs:=by
 have h0:(dg i.natAbs).dropWhile (· == 45)=dg i.natAbs:=by
  cases h:dg i.natAbs with
  |nil=>rfl
  |cons a l =>
   have:=Kq (n:=i.natAbs) (c:=a) (by rw[h];simp);exact List.dropWhile_cons_of_neg (by simp;lia)
 unfold BS;split
 ·rw[List.dropWhile_cons_of_pos (by rfl)];exact h0
 ·exact h0
def Bg(l:List Nat):Str:=⟨l.toArray⟩
theorem Am(l:List Nat):(Bg l).cps.toList=l:=by simp[Bg]
theorem PV(i:Int):(BS i).length≤(dg i.natAbs).length+1:=by unfold BS;split<;>simp
theorem bU{w:Str}{i:Int}(h:w.cps.toList=BS i)(hl:(dg i.natAbs).length≤40):PySem.intText? w=some i:=by
 have hw:w.length≤4300:=by
  have e:w.length=w.cps.toList.length:=by simp[Str.length]
  rw[e,h];have:=PV i;lia
 unfold BS at h;split at h
 ·rename_i hi;rw[PySem.intText_neg h (Nq _) (ND _) hw,N9];congr 1;lia
 ·rename_i hi;rw[PySem.intText_digits (by rw[h];exact Nq _) (by rw[h];exact ND _) hw,h,N9];congr 1;lia
def wI(w:Str):Option Int:=if 40<(w.cps.toList.dropWhile (· == 45)).length then none else PySem.intText? w
theorem SN{w:Str}{i:Int}(h:w.cps.toList=BS i)(hl:(dg i.natAbs).length≤40):wI w=some i:=by
 unfold wI;rw[h,LN,if_neg (by lia)];exact bU h hl
def rd(w:Str):Option (Int×Int):=match Txt.split w (sep 47) with
 |[]=>none
 |[p]=>(wI p).bind fun t=>if Gk t 1=w then some (t,1) else none
 |p::q::_=>(wI p).bind fun t=>(wI q).bind fun b=>if 1≤b∧FM.gi t b=1∧Gk t b=w then some (t,b) else none
def nm(t:List Nat):Option Nat:=if t=[]∨40<t.length∨¬(∀c∈t,B1 c=true)∨(t.head? = some 48∧t≠[48]) then none else some (PySem.NumText.digitsVal t)
theorem VP{n:Nat}(h:(dg n).length≤40):nm (dg n)=some n:=by
 unfold nm;rw[if_neg,N9];rintro(z|z|z|⟨z1,z2⟩)
 ·exact ND _ z
 ·lia
 ·exact z fun c hc=>by have:=Kq hc;unfold B1;simp;lia
 ·rcases Nat.eq_zero_or_pos n with e|e
  ·subst e;exact z2 (J9 (by decide))
  ·cases hd:dg n with
   |nil=>exact ND _ hd
   |cons a r=>rw[hd]at z1;simp at z1;exact Z9 n e r (by rw[hd,z1])
theorem VG{t:List Nat}{n:Nat}(h:nm t=some n):t=dg n∧t.length≤40:=by
 unfold nm at h;split at h
 ·cases h
 ·rename_i hc;cases h;have h1:t≠[]:=fun z=>hc (.inl z);have h2:t.length≤40:=by
   rcases Nat.lt_or_ge 40 t.length with z|z
   ·exact absurd (.inr (.inl z)) hc
   ·exact z
  have h3:∀c∈t,B1 c=true:=by
   apply bG;intro z;exact hc (.inr (.inr (.inl z)))
  refine⟨(Zm t.length t rfl (fun c hc=>?_) h1 fun z=>?_).symm,h2⟩
  ·have:=h3 c hc;unfold B1 at this;simp at this;exact this
  ·apply bG;intro y;exact hc (.inr (.inr (.inr ⟨z,y⟩)))
def sg(low:Bool)(n:Nat):Int:=if low then -(n:Int) else n
def lf(w:Str):Option (Int×Int):=match Txt.split w (sep 47) with
 |[]=>none
 |p::r =>
  let low:=decide (w.cps.toList.head? = some 45)
  (nm (p.cps.toList.drop (if low then 1 else 0))).bind fun n=>if(low=true∧n=0)∨2<(p::r).length then none else
   match r with
   |[]=>some (sg low n,1)
   |q::_=>(nm q.cps.toList).bind fun b=>if b<2 then none else if FM.gi n b=1 then some (sg low n,b) else none
theorem Qj(x:Str):∃p r,Txt.split x (sep 47)=p::r∧(∀z∈p::r,47 ∉ z.cps.toList)∧Str.join (sep 47) (p::r)=x:=by
 cases h:Txt.split x (sep 47) with
 |nil=>exact absurd h (Jk _ _)
 |cons p r=>exact⟨p,r,rfl,h ▸ StrLaws.split_free x 47,h ▸ StrLaws.join_split x (sep 47)⟩
theorem split1{w:Str}(h:47 ∉ w.cps.toList):Txt.split w (sep 47)=[w]:=LP (ps:=[w]) (by simp) (by simpa using h)
theorem XF{w p q:Str}(hw:w.cps.toList=p.cps.toList++47::q.cps.toList)(hp:47 ∉ p.cps.toList)(hq:47 ∉ q.cps.toList):Txt.split w (sep 47)=[p,q]:=by
 have e:w=Str.join (sep 47) [p,q]:=BW (by rw[DZ,hw];rfl);rw[e];exact LP (by simp) (by intro z hz;rcases aL.mp hz with rfl|hz;exact hp;rw[List.mem_singleton.mp hz];exact hq)
theorem XA(t b:Int):FM.gi (t.natAbs:Nat) b=FM.gi t b:=by unfold FM.gi;rw[Int.gcd,Int.gcd];rfl
theorem WR(i:Int):sg (decide (i<0)) i.natAbs=i:=by unfold sg;by_cases h:i<0<;>simp[h]<;>lia
theorem Rb(i:Int)(x:List Nat):(BS i++x).head? = some 45 ↔ i<0:=by
 unfold BS;split
 ·rename_i h;simp[h]
 ·rename_i h;cases hd:dg i.natAbs with
  |nil=>exact absurd hd (ND _)
  |cons a l =>
   have:=Kq (n:=i.natAbs) (c:=a) (by rw[hd];simp);simp;lia
theorem Tu(i:Int):(BS i).drop (if decide (i<0)=true then 1 else 0)=dg i.natAbs:=by
 unfold BS;by_cases h:i<0<;>simp[h]
theorem OE{t b:Int}(hb:1≤b)(hg:FM.gi t b=1)(h1:(dg t.natAbs).length≤40)(h2:(dg b.natAbs).length≤40):rd (Gk t b)=some (t,b)∧lf (Gk t b)=some (t,b):=by
 have hl:=Dd t b;by_cases e:b=1
 ·rw[if_pos e,List.append_nil]at hl;have hs:Txt.split (Gk t b) (sep 47)=[Gk t b]:=split1 (by rw[hl];exact HX);subst e;refine⟨?_,?_⟩
  ·unfold rd;rw[hs];show(wI _).bind _=_;rw[SN hl h1];exact if_pos rfl
  ·unfold lf;rw[hs];show(nm (List.drop _ _)).bind _=_;have hd:decide ((Gk t 1).cps.toList.head? = some 45)=decide (t<0):=by
    rw[hl,←List.append_nil (BS t)];exact bJ.mpr (Rb t [])
   rw[hd,hl,Tu,VP h1,Option.bind_some,if_neg]
   ·show some (sg _ _,(1:Int))=_;rw[WR]
   ·rintro(⟨z1,z2⟩|z)
    ·simp at z1;lia
    ·simp at z
 ·rw[if_neg e]at hl;have hs:Txt.split (Gk t b) (sep 47)=[Bg (BS t),Bg (BS b)]:=XF (by rw[hl,Am,Am]) (by rw[Am];exact HX) (by rw[Am];exact HX);refine⟨?_,?_⟩
  ·unfold rd;rw[hs];show(wI _).bind _=_;rw[SN (Am _) h1,Option.bind_some,SN (Am _) h2,Option.bind_some];exact if_pos ⟨hb,hg,rfl⟩
  ·unfold lf;rw[hs];show(nm (List.drop _ _)).bind _=_;have hd:decide ((Gk t b).cps.toList.head? = some 45)=decide (t<0):=by rw[hl];exact bJ.mpr (Rb t _)
   have hbn:¬b<0:=by lia
   rw[hd,Am,Tu,VP h1,Option.bind_some,if_neg]
   ·show(nm (Bg (BS b)).cps.toList).bind _=_;rw[Am];have eb:BS b=dg b.natAbs:=by unfold BS;rw[if_neg hbn]
    rw[eb,VP h2,Option.bind_some,if_neg (by lia),if_pos (by
     have e1:((b.natAbs:Nat):Int)=b:=by lia
     rw[e1,XA];exact hg)]
    rw[WR]
    congr 2;lia
   ·rintro(⟨z1,z2⟩|z)
    ·simp at z1;lia
    ·simp at z
end Tx
namespace Tx
structure Fr(w:Str)(t b:Int):Prop where
 pos:1≤b
 low:FM.gi t b=1
 top:(dg t.natAbs).length≤40
 bot:(dg b.natAbs).length≤40
 txt:Gk t b=w
theorem Ov{w:Str}{i:Int}(h:wI w=some i):(w.cps.toList.dropWhile (· == 45)).length≤40:=by
 unfold wI at h;split at h
 ·cases h
 ·lia
theorem OW(t:Int):FM.gi t 1=1:=by unfold FM.gi;simp
theorem Yq{w:Str}{t b:Int}(h:rd w=some (t,b)):Fr w t b:=by
 obtain⟨p,r,hs,hf,hj⟩:=Qj w;unfold rd at h;rw[hs]at h;cases r with
 |nil =>
  obtain⟨t',h1,h2⟩:=aA.mp h;split at h2
  ·rename_i e;cases h2;have ep:p=w:=hj;have el:p.cps.toList=BS t:=by rw[ep,←e,Dd];simp
   have:=Ov h1;rw[el,LN]at this;exact⟨by decide,OW t,this,by decide,e⟩
  ·cases h2
 |cons q r =>
  obtain⟨t',h1,h2⟩:=aA.mp h;obtain⟨b',h3,h4⟩:=aA.mp h2;split at h4
  ·rename_i e;cases h4;have hl:=Dd t b;by_cases e1:b=1
   ·rw[if_pos e1,List.append_nil,e.2.2]at hl;have:=split1 (w:=w) (by rw[hl];exact HX);rw[hs]at this;cases this
   ·rw[if_neg e1,e.2.2]at hl;have:=XF (w:=w) (p:=Bg (BS t)) (q:=Bg (BS b)) (by rw[hl,Am,Am]) (by rw[Am];exact HX) (by rw[Am];exact HX);rw[hs]at this
    injection this with e2 e3
    injection e3 with e3 _
    have a1:=Ov h1;have a2:=Ov h3;rw[e2,Am,LN]at a1;rw[e3,Am,LN]at a2;exact⟨e.1,e.2.1,a1,a2,e.2.2⟩
  ·cases h4
theorem dM{low:Bool}{n:Nat}(h:¬(low=true∧n=0)):BS (sg low n)=(if low then [45] else [])++dg n:=by
 cases low with
 |false=>unfold BS sg;rw[if_neg (by simp)];simp
 |true =>
  have:n≠0:=fun z=>h ⟨rfl,z⟩;unfold BS sg;rw[if_pos (by simp;lia)];simp
theorem Qz(low:Bool)(n:Nat):(sg low n).natAbs=n:=by cases low<;>simp[sg]
theorem gX{w:Str}{t b:Int}(h:lf w=some (t,b)):Fr w t b:=by
 obtain⟨p,r,hs,hf,hj⟩:=Qj w;unfold lf at h;rw[hs]at h;obtain⟨n,h1,h2⟩:=aA.mp h;clear h;obtain⟨e1,l1⟩:=VG h1;generalize hlow:decide (w.cps.toList.head? = some 45)=low at h1 h2 e1 l1;split at h2
 ·cases h2
 ·rename_i hc;have hn:¬(low=true∧n=0):=fun z=>hc (.inl z);have hp:p.cps.toList=BS (sg low n):=by
   rw[dM hn];cases low with
   |false=>simpa using e1
   |true =>
    have hw:=ag hlow;have hph:p.cps.toList.head? = some 45:=by
     cases r with
     |nil=>rw[show p=w from hj];exact hw
     |cons q r =>
      rw[←hj,DZ]at hw;cases hpl:p.cps.toList with
      |nil=>rw[hpl]at hw;simp at hw
      |cons a l=>rw[hpl]at hw;simpa using hw
    cases hpl:p.cps.toList with
    |nil=>rw[hpl]at hph;simp at hph
    |cons a l=>rw[hpl]at hph e1;simp at hph e1 ⊢;exact⟨hph,e1⟩
  have l1':(dg n).length≤40:=by rw[←e1];exact l1
  cases r with
  |nil =>
   cases h2;have ep:p=w:=hj;refine⟨by decide,OW _,by rw[Qz];exact l1',by decide,BW ?_⟩;rw[Dd,if_pos rfl,List.append_nil,←ep];exact hp.symm
  |cons q r =>
   obtain⟨m,h3,h4⟩:=aA.mp h2;obtain⟨e3,l3⟩:=VG h3;split at h4
   ·cases h4
   ·rename_i hm;split at h4
    ·rename_i hg;cases h4;have hr:r=[]:=by
      cases r with
      |nil=>rfl
      |cons a l=>exact absurd (.inr (by simp)) hc
     subst hr;have l3':(dg m).length≤40:=by rw[←e3];exact l3
     have em:BS (m:Int)=dg m:=by unfold BS;rw[if_neg (by lia)];simp
     refine⟨by lia,?_,by rw[Qz];exact l1',by simpa using l3',BW ?_⟩
     ·rw[←XA,Qz];exact hg
     ·rw[Dd,if_neg (by lia),←hj,DZ,hp,em,←e3];rfl
    ·cases h4
theorem gQ(w:Str):rd w=lf w:=by
 cases h:rd w with
 |some q =>
  obtain⟨t,b⟩:=q;have f:=Yq h;have:=(OE f.pos f.low f.top f.bot).2;rw[f.txt]at this;exact this.symm
 |none =>
  cases h':lf w with
  |none=>rfl
  |some q =>
   obtain⟨t,b⟩:=q;have f:=gX h';have:=(OE f.pos f.low f.top f.bot).1;rw[f.txt,h]at this;cases this
end Tx
namespace Tx
theorem QF:∀(cs:List Nat) {p q:Array Nat×Bool},(∀d∈p.1.toList,d<10)→cs.foldlM (PySem.NumText.step 10) p=some q→∀d∈q.1.toList,d<10
 |[],p,q,hp,h=>by cases h;exact hp
 |c::cs,p,q,hp,h=>by
  rw[List.foldlM_cons]at h;obtain⟨r,h1,h2⟩:=aA.mp h;refine QF cs ?_ h2;unfold PySem.NumText.step at h1;split at h1
  ·split at h1
   ·cases h1;exact hp
   ·cases h1
  ·split at h1
   ·split at h1
    ·rename_i d _ hd;cases h1;intro e he;simp at he;rcases he with z|z
     ·exact hp e (by simpa using z)
     ·rw[z];exact hd
    ·cases h1
   ·cases h1
theorem eE{cs:List Nat}{ds:Array Nat}(h:PySem.NumText.digits? 10 cs=some ds):∀d∈ds.toList,d<10:=by
 unfold PySem.NumText.digits? at h;obtain⟨q,h1,h2⟩:=aA.mp h;split at h2
 ·cases h2;exact QF cs (by simp) h1
 ·cases h2
theorem Wm:∀(l:List Nat) (a k:Nat),(∀d∈l,d<10)→a<10^k→l.foldl (fun acc d=>acc*10+d) a<10^(k+l.length)
 |[],a,k,_,h=>h
 |d::l,a,k,hd,h=>by
  rw[List.foldl_cons,List.length_cons,show k+(l.length+1)=(k+1)+l.length by lia];refine Wm l _ (k+1) (fun e he=>hd e (by simp[he])) ?_;have:=hd d (by simp);rw[Nat.pow_succ];lia
theorem YU{r:List Nat}:PySem.NumText.digits? 10 (45::r)=none:=by
 unfold PySem.NumText.digits?;rw[List.foldlM_cons];have:PySem.NumText.step 10 ((#[]:Array Nat),false) 45=none:=by decide +kernel
 rw[this];rfl
theorem Xf(r:List Nat):∃s,PySem.NumText.core (45::45::r)=45::s:=by
 unfold PySem.NumText.core;have e1:(45::45::r).dropWhile PySem.NumText.blank=45::45::r:=List.dropWhile_cons_of_neg (by decide);rw[e1];show ∃s,((45::r).reverse.dropWhile PySem.NumText.blank).reverse=45::s;rw[List.reverse_cons];have:∀l:List Nat,∃m,(l++[45]).dropWhile PySem.NumText.blank=m++[45]:=fun l=>by
  induction l with
  |nil=>exact⟨[],by rfl⟩
  |cons a l ih =>
   cases h:PySem.NumText.blank a with
   |true=>rw[List.cons_append,List.dropWhile_cons_of_pos h];exact ih
   |false=>exact⟨a::l,by rw[List.cons_append,List.dropWhile_cons_of_neg (by rw[h];decide)]⟩
 obtain⟨m,hm⟩:=this r.reverse;rw[hm];exact⟨m.reverse,by simp⟩
theorem iL{w:Str}{n:Int}(ha:A5 w=true)(h:wI w=some n):n.natAbs<10^41:=by
 have hl:=Ov h;unfold wI at h;split at h
 ·cases h
 ·unfold PySem.intText? at h;split at h
  ·rename_i e;have hall:w.cps.all (· < 128)=true:=by rw[←Array.all_toList];exact ha
   have en:PySem.numTextOf w=w.cps.toList:=by
    show(if w.cps.all (· < 128) then w.cps.toList else _)=_;rw[if_pos hall]
   have es:PySem.numSeenOf w=w.cps.toList:=by
    have h1:PySem.numSeenOf w=(PySem.numTextOf w).takeWhile (· != 0):=rfl;rw[h1,en]at e ⊢;have e':=beq_iff_eq.mp e;have:=au (p:=(· != 0)) (l:=w.cps.toList);have hd:w.cps.toList.dropWhile (· != 0)=[]:=by
     have:=aM List.length this;rw[List.length_append]at this;exact List.eq_nil_of_length_eq_zero (by lia)
    rw[hd,List.append_nil]at this;exact this
   rw[es]at h;split at h
   ·rename_i ds Gg;split at h
    ·cases h;have hlen:w.cps.toList.length≤41:=by
      cases hw:w.cps.toList with
      |nil=>simp
      |cons a r =>
       rw[hw]at hl Gg;by_cases h45:a=45
       ·subst h45;rw[List.dropWhile_cons_of_pos (by rfl)]at hl;cases r with
        |nil=>simp
        |cons b r =>
         by_cases hb:b=45
         ·subst hb;obtain⟨s,hs⟩:=Xf r;rw[hs,YU]at Gg;cases Gg
         ·rw[List.dropWhile_cons_of_neg (by simpa using hb)]at hl;simp at hl ⊢;lia
       ·rw[List.dropWhile_cons_of_neg (by simpa using h45)]at hl;simp at hl ⊢;lia
     have hsz:ds.toList.length≤41:=by
      have:=PySem.NumText.digits_size Gg;have:=PySem.NumText.core_length w.cps.toList;simp;lia
     have hv:=Wm ds.toList 0 0 (eE Gg) (by decide);rw[Nat.zero_add]at hv;have hv2:ds.toList.foldl (fun acc d=>acc*10+d) 0<10^41:=aG hv (Nat.pow_le_pow_right (by decide) hsz);rw[Array.foldl_toList]at hv2;unfold PySem.NumText.worth;split
     ·rw[Int.natAbs_neg,Int.natAbs_natCast];exact hv2
     ·rw[Int.natAbs_natCast];exact hv2
    ·cases h
   ·cases h
  ·cases h
end Tx
structure FX(w:Str):Prop where
 asc:A5 w=true
 len:w.length≤990
 low:w.cps.toList.count 45≤600
def GV:Option Int→PyData
 |some n=>.int n
 |none=>.none
def Dl:Option (Int×Int)→PyData
 |some q=>.tuple [.int q.1,.int q.2]
 |none=>.none
theorem BQ(x:Str):x.length=x.cps.toList.length:=by simp[Str.length]
theorem Vb:∀l:List Nat,l.length≤(l.dropWhile (· == 45)).length+l.count 45
 |[]=>bK _
 |a::l=>by
  by_cases h:a=45
  ·subst h;rw[List.dropWhile_cons_of_pos (by rfl),List.count_cons_self];have:=Vb l;simp;lia
  ·rw[List.dropWhile_cons_of_neg (by simpa using h)];exact Nat.le_add_right _ _
theorem SG{w:Str}(h:FX w):CQ [.str w,.int 40]=some (GV (Tx.wI w)):=by
 have hl:(Txt.lstripChars w (Str.ofString "-")).length=(w.cps.toList.dropWhile (· == 45)).length:=by rw[BQ,Tx.jB]
 have hle:(w.cps.toList.dropWhile (· == 45)).length≤990:=by
  have:=h.len;rw[BQ]at this;exact aH (List.dropWhile_suffix (· == 45)).length_le this
 have e1:JZ (.str w) (.str (Str.ofString "-"))=some (.str (Txt.lstripChars w (Str.ofString "-"))):=if_pos (aH h.len (by decide));have e2:DN [.str (Txt.lstripChars w (Str.ofString "-"))]=some (.int (w.cps.toList.dropWhile (· == 45)).length):=by
  rw[←hl];exact if_pos (by rw[hl];exact aH hle (by decide))
 have test:∀b,decide ((40:Int)<((w.cps.toList.dropWhile (· == 45)).length:Nat))=b→AY (Bv fun i j=>decide (j<i)) (AJ DN (AB (AE JZ (nm 0) (fC (.str (Str.ofString "-")))) AH)) (nm 1) [.d (.str w),.d (.int 40)]=some b:=fun b hb =>
  Au (AR (AL (AI rfl rfl e1) rfl) e2) rfl (by rw[←hb];rfl)
 refine CB rfl ?_;show Og [.d (.str w),.d (.int 40)]=_;unfold Tx.wI;by_cases hc:40<(w.cps.toList.dropWhile (· == 45)).length
 ·rw[if_pos hc];exact B4 (Bm (test true (ao (by lia))) rfl)
 ·rw[if_neg hc];refine AF (BC (test false (af (by lia))) rfl) ?_;show(if w.length≤640∧A5 w=true then some (Ou.rt (match PySem.intText? w with|some n=>.int n|none=>.none)) else none)=_;rw[if_pos ⟨by have:=Vb w.cps.toList;have:=h.low;rw[BQ];lia,h.asc⟩];cases PySem.intText? w<;>rfl
theorem Ws{i:Int}(h:i.natAbs.log2<1920):LV (.int i)=some (.str (Tx.Bg (Tx.BS i))):=by
 have e:Str.ofString (toString i)=Tx.Bg (Tx.BS i):=Tx.BW (by rw[Tx.toS,Tx.Am]);rw[←e];exact if_pos h
theorem OG:∀(k n:Nat),n<10^(k+1)→(Tx.dg n).length≤k+1
 |0,n,h=>by rw[Tx.J9 (by simpa using h)];simp
 |k+1,n,h=>by
  by_cases h1:n<10
  ·rw[Tx.J9 h1];simp
  ·rw[Tx.Qe (by lia),List.length_append];have:=OG k (n / 10) (by rw[Nat.pow_succ]at h;lia);simp only[List.length_cons,List.length_nil];lia
theorem PL{i:Int}(h:i.natAbs<10^41):i.natAbs.log2<1920:=by
 by_cases h0:i.natAbs=0
 ·rw[h0];decide
 ·exact(Nat.log2_lt h0).mpr (Nat.lt_trans h (by decide))
theorem Gh{i:Int}(h:i.natAbs<10^41):(Tx.BS i).length≤42:=by
 have:=OG 40 i.natAbs h;have:=Tx.PV i
 lia
theorem eq_int(a b:Int):A0 false (.int a) (.int b)=some (.bool (a==b)):=by
 show(if _∧_ then some (PyData.bool (PyData.eqv (.int a) (.int b))) else none)=_;rw[if_pos ⟨by rfl,by rfl⟩]
 rfl
theorem RX{t b:Int}(h1:t.natAbs<10^41)(h2:b.natAbs<10^41):Ak [.tuple [.int t,.int b]]=some (.str (Tx.Gk t b)):=by
 refine CB rfl ?_;show J0 [.d (.tuple [.int t,.int b]),.no,.no]=_;refine AF (AZ (y:=.int t) rfl) (AF (AZ (y:=.int b) rfl) (CI ?_));show((AY (A0 false) (nm 2) (fC (.int 1)) [.d (.tuple [.int t,.int b]),.d (.int t),.d (.int b)]).bind fun c=>if c=true then(LV (.int t)) else((LV (.int t)).bind fun x=>(some (PyData.str (Str.ofString "/"))).bind fun y=>(LV (.int b)).bind fun z=>Qm x y z))=_;rw[Au (b:=b==1) rfl rfl (eq_int b 1),Option.bind_some,Ws (PL h1),Ws (PL h2)];by_cases e:b=1
 ·subst e;rw[if_pos (by rfl)];exact aM some (aM PyData.str (Tx.BW (by rw[Tx.Am,Tx.Dd];simp)))
 ·rw[if_neg (by simpa using e),Option.bind_some,Option.bind_some,Option.bind_some];have l1:=Gh h1;have l2:=Gh h2;have len:∀l:List Nat,(Tx.Bg l).length=l.length:=fun l=>by rw[BQ,Tx.Am]
  unfold Qm;show(if _ then some (PyData.str _) else none)=_;rw[if_pos ⟨by rw[len];lia,by decide,by rw[len];lia⟩];refine aM some (aM PyData.str (Tx.BW ?_));rw[Tx.app_list,Tx.app_list,Tx.app_list,Tx.Am,Tx.Am,Tx.Dd,if_neg e,List.append_assoc,List.append_assoc];rfl
theorem IL{w p:Str}(h:FX w)(hs:p.cps.toList.Sublist w.cps.toList):FX p :=
 ⟨ae.mpr fun c hc=>ae.mp h.asc c (hs.subset hc),by have:=h.len;rw[BQ]at this ⊢;exact aH hs.length_le this,Nat.le_trans (hs.count_le 45) h.low⟩
theorem Py{c:Nat}:∀ {ps:List Str} {p:Str},p∈ps→p.cps.toList.Sublist (Str.join (Tx.sep c) ps).cps.toList
 |[],_,h=>by simp at h
 |[q],p,h=>by rw[List.mem_singleton.mp h];exact List.Sublist.refl _
 |q::q'::r,p,h=>by
  rw[Tx.DZ];rcases aL.mp h with rfl|h
  ·exact List.sublist_append_left _ _
  ·exact((Py (c:=c) h).cons _).trans (List.sublist_append_right _ _)
theorem EI{x p:Str}{c:Nat}(h:p∈Txt.split x (Tx.sep c)):p.cps.toList.Sublist x.cps.toList:=by
 have:=Py (c:=c) h;rw[StrLaws.join_split]at this;exact this
theorem gz:Str.ofString "/" = Tx.sep 47:=by decide +kernel
theorem Qy{w:Str}(h:w.length≤100000):Ca (.str w) (.str (Str.ofString "/"))=some (.list ((Txt.split w (Tx.sep 47)).map .str)):=by
 rw[←gz];exact if_pos ⟨by decide,h⟩
def Ql:List PyData→Option PyData:=mB DD
abbrev iX:List PyData→Option PyData:=CN Ak Ql CQ
theorem Wv{x:Str}(h:A5 x=true):PyData.strOk x=true:=by
 unfold PyData.strOk;rw[←Array.all_toList];exact ae.mpr fun c hc=>ao (aG (ag (ae.mp h c hc)) (by decide))
theorem NA{x:Str}(h:A5 x=true):SeqAt.shaped (.str x)=true:=by simp[SeqAt.shaped,PyData.canLay0,PyData.depth,Wv h]
theorem ne_str{x y:Str}(hx:A5 x=true)(hy:A5 y=true):A0 true (.str x) (.str y)=some (.bool (!decide (x=y))):=by
 show(if _∧_ then some (PyData.bool (!PyData.eqv (.str x) (.str y))) else none)=_;rw[if_pos ⟨NA hx,NA hy⟩];have:PyData.eqv (.str x) (.str y)=decide (x=y):=by
  by_cases e:x=y
  ·subst e;simp[PyData.eqv]
  ·simp[PyData.eqv,e]
 rw[this]
theorem UY(t b:Int):A5 (Tx.Gk t b)=true:=by
 unfold A5;rw[Tx.Dd];refine ae.mpr fun c hc=>ao ?_;rcases aT.mp hc with z|z
 ·rcases Tx.Pk z with y|y<;>lia
 ·split at z
  ·simp at z
  ·rcases aL.mp z with y|y
   ·lia
   ·rcases Tx.Pk y with y|y<;>lia
theorem IQ{α:Type}(x:α)(l:List α):C3 (x::l) 0=some x:=by
 unfold C3 HU;rw[if_pos (by decide),if_pos (by simp)];rfl
theorem JX{α:Type}(x y:α)(l:List α):C3 (x::y::l) 1=some y:=by
 unfold C3 HU;rw[if_pos (by decide),if_pos (by simp;lia)];rfl
theorem Rm{w:Str}{t b:Option Int}{hs:List PyData}(hw:FX w)(ht:∀i,t=some i→i.natAbs<10^41)(hb:∀i,b=some i→i.natAbs<10^41) :
  AX (Av 5 (FD (AB (nm 3) (AB (nm 4) AH)))) (AX (Bw (Cq (Dw (Cz (AJ Ql (AB (nm 5) AH)))) (AY (A0 true) (AJ Ak (AB (nm 5) AH)) (nm 0))) (A3 (fC .none)) BA) (A3 (nm 5)))
   [.d (.str w),.d (.int 40),.d (.list hs),.d (GV t),.d (GV b),.no]=some (.rt (Dl (t.bind fun t=>b.bind fun b=>if 1≤b∧FM.gi t b=1∧Tx.Gk t b=w then some (t,b) else none))):=by
 refine AF (AZ (y:=.tuple [GV t,GV b]) (Ff rfl (show 2≤CG by decide))) ?_;have lay:(PyData.tuple [GV t,GV b]).canLay0=true:=by cases t<;>cases b<;>rfl
 have no:DD (.tuple [GV t,GV b])=false→AX (Bw (Cq (Dw (Cz (AJ Ql (AB (nm 5) AH)))) (AY (A0 true) (AJ Ak (AB (nm 5) AH)) (nm 0))) (A3 (fC .none)) BA) (A3 (nm 5)) [.d (.str w),.d (.int 40),.d (.list hs),.d (GV t),.d (GV b),.d (.tuple [GV t,GV b])]=some (.rt .none):=fun h =>
  B4 (Bm (HN (Cw (CJ (AR rfl (SF lay h))))) rfl)
 cases t with
 |none=>exact no (by cases b<;>rfl)
 |some t =>
  cases b with
  |none=>exact no rfl
  |some b =>
   show AX _ _ _=some (.rt (Dl (if 1≤b∧FM.gi t b=1∧Tx.Gk t b=w then some (t,b) else none)));by_cases hf:1≤b∧FM.gi t b=1
   ·have h1:DD (.tuple [.int t,.int b])=true:=by
     show(decide (1≤b)&&(FM.gi t b==1))=true;simp[hf.1,hf.2]
    have ft:=RX (ht t rfl) (hb b rfl);have ne:=ne_str (UY t b) hw.asc;by_cases e:Tx.Gk t b=w
    ·rw[if_pos ⟨hf.1,hf.2,e⟩];rw[decide_eq_true e]at ne;exact AF (BC (Be (Cw (CJ (AR rfl (SF lay h1)))) (Au (AR rfl ft) rfl ne)) rfl) rfl
    ·rw[if_neg fun z=>e z.2.2];rw[decide_eq_false e]at ne;exact B4 (Bm (Be (Cw (CJ (AR rfl (SF lay h1)))) (Au (AR rfl ft) rfl ne)) rfl)
   ·rw[if_neg fun z=>hf ⟨z.1,z.2.1⟩];refine no ?_;show(decide (1≤b)&&(FM.gi t b==1))=false;by_cases h1:1≤b
    ·have:¬FM.gi t b=1:=fun z=>hf ⟨h1,z⟩;simp[h1,this]
    ·simp[h1]
theorem fj{w:Str}(h:FX w):iX [.str w,.int 40]=some (Dl (Tx.rd w)):=by
 obtain⟨p,r,hs,_,_⟩:=Tx.Qj w;have hp:FX p:=IL h (EI (c:=47) (by rw[hs];simp));refine CB rfl ?_;show Lm Ak Ql CQ [.d (.str w),.d (.int 40),.no,.no,.no,.no]=_;refine AF (AZ (AI rfl rfl (Qy (aH h.len (by decide))))) ?_;rw[hs];refine AF (AZ (y:=GV (Tx.wI p)) (AR (AL (AI rfl rfl (IQ _ _)) rfl) (SG hp))) ?_;refine AF (AZ (y:=.int 1) rfl) ?_;have lt:∀ {q:Str},FX q→∀i,Tx.wI q=some i→i.natAbs<10^41:=fun hq i e=>Tx.iL hq.asc e;unfold Tx.rd;rw[hs];cases r with
 |nil =>
  refine AF (BC (Au (x:=.int 1) (y:=.int 1) (AR rfl rfl) rfl rfl) rfl) ?_;have:=Rm (t:=Tx.wI p) (b:=some 1) (hs:=[PyData.str p]) h (lt hp) (fun i e=>by cases e;decide);refine this.trans (aM (fun z=>some (Ou.rt (Dl z))) ?_);show((Tx.wI p).bind _)=((Tx.wI p).bind _);cases Tx.wI p with
  |none=>rfl
  |some t =>
   show(if _ then _ else _)=(if _ then _ else _);by_cases e:Tx.Gk t 1=w
   ·rw[if_pos ⟨by decide,Tx.OW t,e⟩,if_pos e]
   ·rw[if_neg fun z=>e z.2.2,if_neg e]
 |cons q r =>
  have hq:FX q:=IL h (EI (c:=47) (by rw[hs];simp));refine AF (Bm (Au (x:=.int ((r.length:Nat)+1+1)) (y:=.int 1) (AR (xs:=[.list ((p::q::r).map .str)]) rfl ?_) rfl ?_) (AZ (y:=GV (Tx.wI q)) (AR (AL (AI rfl rfl (JX _ _ _)) rfl) (SG hq)))) ?_
  ·show some (PyData.int (((p::q::r).map PyData.str).length:Nat))=_;simp
  ·show some (PyData.bool (decide _))=_;exact aM some (aM PyData.bool (ao (by lia)))
  refine(Rm (t:=Tx.wI p) (b:=Tx.wI q) h (lt hp) (lt hq)).trans ?_
  rfl
def optN:Option Nat→PyData
 |some n=>.int n
 |none=>.none
theorem eq_str{x y:Str}(hx:A5 x=true)(hy:A5 y=true):A0 false (.str x) (.str y)=some (.bool (decide (x=y))):=by
 show(if _∧_ then some (PyData.bool (PyData.eqv (.str x) (.str y))) else none)=_;rw[if_pos ⟨NA hx,NA hy⟩];have:PyData.eqv (.str x) (.str y)=decide (x=y):=by
  by_cases e:x=y
  ·subst e;simp[PyData.eqv]
  ·simp[PyData.eqv,e]
 rw[this]
theorem UL(t:Str):t=Str.ofString "" ↔ t.cps.toList=[]:=⟨fun h=>by rw[h];rfl,fun h=>Tx.BW (by rw[h];rfl)⟩
theorem bO:∀c:Nat,48≤c→c≤57→Kj (.str (Str.ofString "0123456789")) (.str ⟨#[c]⟩)=some (.int ((c-48:Nat):Int)):=by
 intro c h1 h2;have:∀c:Nat,c<58→48≤c→(Builtin.Str.occurrences (Str.ofString "0123456789") ⟨#[c]⟩ 0 (Str.ofString "0123456789").length 1)=[c-48]:=by decide +kernel
 unfold Kj;show(match Builtin.Str.occurrences (Str.ofString "0123456789") ⟨#[c]⟩ 0 (Str.ofString "0123456789").length 1 with|n::_=>some (PyData.int n)|[]=>none)=_;rw[this c (by lia) h1]
theorem Ox{a b:Dv→Option Bool}{δ:Dv}(h:a δ=some false):Hm a b δ=some false:=by show(a δ).bind _=_;rw[h];rfl
theorem Mu{a b:Dv→Option Bool}{δ:Dv}{q:Option Bool}(h:a δ=some true)(k:b δ=q):Hm a b δ=q:=by show(a δ).bind _=_;rw[h];exact k
theorem Tf:∀(l:List Nat),(∀c∈l,Tx.B1 c=true)→∀i,PySem.NumText.digitsVal (l.take i)<10^i:=by
 intro l hl i
 induction i with
 |zero=>simp[PySem.NumText.digitsVal]
 |succ i ih =>
  by_cases h:i<l.length
  ·rw[List.take_succ_eq_append_getElem h,PySem.NumText.digitsVal_snoc,Nat.pow_succ];have:=hl l[i] (List.getElem_mem h);unfold Tx.B1 at this;simp at this
   lia
  ·rw[List.take_of_length_le (by lia)]at ih ⊢;exact aG ih (Nat.pow_le_pow_right (by decide) (by lia))
theorem P0{t:Str}(h:FX t):BX [.str t]=some (optN (Tx.nm t.cps.toList)):=by
 refine CB rfl ?_;show Lr [.d (.str t),.no,.no]=_;have e0:A5 (Str.ofString "")=true:=rfl;have e00:A5 (Str.ofString "0")=true:=by decide +kernel
 have hlen:DN [.str t]=some (.int (t.cps.toList.length:Nat)):=by rw[←BQ];exact if_pos (aH h.len (by decide))
 have hst:Hc (.str t) (.str (Str.ofString "0123456789"))=some (.str (Txt.stripChars t (Str.ofString "0123456789"))):=if_pos (aH h.len (by decide));have hsa:A5 (Txt.stripChars t (Str.ofString "0123456789"))=true:=by
  have e:(Txt.stripChars t (Str.ofString "0123456789")).cps.toList.Sublist t.cps.toList:=by
   show(Txt.stripBy _ true true t).cps.toList.Sublist _;rw[PyProof.Rows.stripBy_eq,StrLaws.strSub_toList];exact(List.take_sublist _ _).trans (List.drop_sublist _ _)
  exact ae.mpr fun c hc=>ae.mp h.asc c (e.subset hc)
 have c1:AY (A0 false) (nm 0) (fC (.str (Str.ofString ""))) [.d (.str t),.no,.no]=some (decide (t=Str.ofString "")):=Au rfl rfl (eq_str h.asc e0);have c2:AY (Bv fun i j=>decide (j<i)) (AJ DN (AB (nm 0) AH)) (fC (.int 40)) [.d (.str t),.no,.no]=some (decide ((40:Int)<(t.cps.toList.length:Nat))):=Au (AR rfl hlen) rfl rfl;have c3:AY (A0 true) (AE Hc (nm 0) (fC (.str (Str.ofString "0123456789")))) (fC (.str (Str.ofString ""))) [.d (.str t),.no,.no]=some (!decide (Txt.stripChars t (Str.ofString "0123456789")=Str.ofString "")):=Au (AI rfl rfl hst) rfl (ne_str hsa e0);have c5:AY (A0 true) (nm 0) (fC (.str (Str.ofString "0"))) [.d (.str t),.no,.no]=some (!decide (t=Str.ofString "0")):=Au rfl rfl (ne_str h.asc e00);have bad:∀ {F:DF},Cq (AY (A0 false) (nm 0) (fC (.str (Str.ofString "")))) (Cq (AY (Bv fun i j=>decide (j<i)) (AJ DN (AB (nm 0) AH)) (fC (.int 40))) (Cq (AY (A0 true) (AE Hc (nm 0) (fC (.str (Str.ofString "0123456789")))) (fC (.str (Str.ofString "")))) (Hm (AY (A0 false) (AE Ap (nm 0) (fC (.int 0))) (fC (.str (Str.ofString "0")))) (AY (A0 true) (nm 0) (fC (.str (Str.ofString "0"))))))) [.d (.str t),.no,.no]=some true →
   AX (Bw (Cq (AY (A0 false) (nm 0) (fC (.str (Str.ofString "")))) (Cq (AY (Bv fun i j=>decide (j<i)) (AJ DN (AB (nm 0) AH)) (fC (.int 40))) (Cq (AY (A0 true) (AE Hc (nm 0) (fC (.str (Str.ofString "0123456789")))) (fC (.str (Str.ofString "")))) (Hm (AY (A0 false) (AE Ap (nm 0) (fC (.int 0))) (fC (.str (Str.ofString "0")))) (AY (A0 true) (nm 0) (fC (.str (Str.ofString "0")))))))) (A3 (fC .none)) BA) F [.d (.str t),.no,.no]=some (.rt .none):=fun z=>B4 (Bm z rfl)
 have z0:Str.ofString "0" = ⟨#[48]⟩:=by decide +kernel
 unfold Tx.nm;by_cases h1:t.cps.toList=[]
 ·rw[if_pos (.inl h1)];exact bad (HN (c1.trans (by rw[decide_eq_true ((UL t).mpr h1)])))
 have d1:decide (t=Str.ofString "")=false:=af fun z=>h1 ((UL t).mp z);rw[d1]at c1;by_cases h2:40<t.cps.toList.length
 ·rw[if_pos (.inr (.inl h2))];exact bad (Be c1 (HN (c2.trans (by rw[decide_eq_true (by lia)]))))
 rw[decide_eq_false (by lia)]at c2;by_cases h3:∀c∈t.cps.toList,Tx.B1 c=true
 ·rw[decide_eq_true ((Tx.Wj t).mpr h3)]at c3;have hx:∃a l,t.cps.toList=a::l:=by
   cases e:t.cps.toList with
   |nil=>exact absurd e h1
   |cons a l=>exact⟨a,l,rfl⟩
  obtain⟨a,l,hal⟩:=hx;have hix:Ap (.str t) (.int 0)=some (.str ⟨#[a]⟩):=by
   show(if t.length≤CG then(C3 t.cps.toList 0).map (fun c=>PyData.str ⟨#[c]⟩) else none)=_;rw[if_pos (aH h.len (by decide)),hal,IQ];rfl
  have ha:=h3 a (by rw[hal];simp);have haa:A5 ⟨#[a]⟩=true:=by
   unfold Tx.B1 at ha;simp at ha;simp[A5];lia
  have c4:AY (A0 false) (AE Ap (nm 0) (fC (.int 0))) (fC (.str (Str.ofString "0"))) [.d (.str t),.no,.no]=some (decide ((⟨#[a]⟩:Str)=Str.ofString "0")):=Au (AI rfl rfl hix) rfl (eq_str haa e00);have t0:t=Str.ofString "0" ↔ t.cps.toList=[48]:=⟨fun z=>by rw[z,z0],fun z=>Tx.BW (by rw[z,z0])⟩;have a0:(⟨#[a]⟩:Str)=Str.ofString "0" ↔ a=48:=by rw[z0];simp
  by_cases h4:a=48∧t.cps.toList≠[48]
  ·rw[if_pos (.inr (.inr (.inr ⟨by rw[hal,h4.1];rfl,h4.2⟩)))];rw[decide_eq_true (a0.mpr h4.1)]at c4;rw[decide_eq_false fun z=>h4.2 (t0.mp z)]at c5;exact bad (Be c1 (Be c2 (Be c3 (Mu c4 c5))))
  ·have hbad:¬(t.cps.toList=[]∨40<t.cps.toList.length∨(¬ ∀c∈t.cps.toList,Tx.B1 c=true)∨(t.cps.toList.head? = some 48∧t.cps.toList≠[48])):=by
    rintro(z|z|z|⟨z1,z2⟩)
    ·exact h1 z
    ·exact h2 z
    ·exact z h3
    ·exact h4 ⟨by rw[hal]at z1;simpa using z1,z2⟩
   rw[if_neg hbad];have c45:Hm (AY (A0 false) (AE Ap (nm 0) (fC (.int 0))) (fC (.str (Str.ofString "0")))) (AY (A0 true) (nm 0) (fC (.str (Str.ofString "0")))) [.d (.str t),.no,.no]=some false:=by
    by_cases h5:a=48
    ·rw[decide_eq_true (a0.mpr h5)]at c4;have:t.cps.toList=[48]:=by
      apply bG;intro z;exact h4 ⟨h5,z⟩
     rw[decide_eq_true (t0.mpr this)]at c5;exact Mu c4 c5
    ·rw[decide_eq_false fun z=>h5 (a0.mp z)]at c4;exact Ox c4
   refine AF (BC (Be c1 (Be c2 (Be c3 c45))) rfl) ?_;refine AF (AZ (y:=.int 0) rfl) ?_;refine Xn (xs:=VF t) (fun i δ=>∃z,δ=[.d (.str t),.d (.int (PySem.NumText.digitsVal (t.cps.toList.take i):Nat)),z]) ?_ ⟨_,by rw[List.take_zero];rfl⟩ ?_ ?_
   ·show Qc (.str t)=_;exact if_pos h.asc
   ·rintro i x δ hx ⟨z,rfl⟩;rw[List.getElem?_map]at hx;obtain⟨c,hc,rfl⟩:=aB.mp hx;have hi:=(aE.mp hc).1;have hcm:c∈t.cps.toList:=aW hc;have hcd:=h3 c hcm;unfold Tx.B1 at hcd;simp at hcd;have hv:=Tf _ h3 i;have hv2:PySem.NumText.digitsVal (t.cps.toList.take i)<10^41:=aG hv (Nat.pow_le_pow_right (by decide) (by lia));refine⟨_,rfl,_,AZ (y:=.int (PySem.NumText.digitsVal (t.cps.toList.take (i+1)):Nat)) (AI (AI rfl rfl (mul_r (by decide))) (AI rfl rfl (bO c hcd.1 hcd.2)) ?_),_,rfl⟩;have et:t.cps.toList.take (i+1)=t.cps.toList.take i++[c]:=by
     rw[List.take_succ,hc];rfl
    rw[et,PySem.NumText.digitsVal_snoc];show some (PyData.int _)=_
    congr 2
   ·rintro δ ⟨z,rfl⟩;rw[show(VF t).length=t.cps.toList.length by simp,List.take_length]
    rfl
 ·rw[if_pos (.inr (.inr (.inl h3)))];rw[decide_eq_false fun z=>h3 ((Tx.Wj t).mp z)]at c3;exact bad (Be c1 (Be c2 (HN c3)))
theorem Rl(n:Int){b:Int}(hb:1≤b):(Rat.divInt n b).num=n / FM.gi n b∧((Rat.divInt n b).den:Int)=b / FM.gi n b:=by
 have h0:b≠0:=by lia
 have hs:b.sign=1:=Int.sign_eq_one_of_pos (by lia);have hg:(Int.gcd n b:Int)=FM.gi n b:=rfl;refine⟨?_,?_⟩
 ·rw[Rat.num_divInt,hs,Int.one_mul,Int.gcd_comm b n];rfl
 ·rw[Rat.den_divInt,if_neg h0,Int.gcd_comm b n,Int.natCast_ediv,hg]
  congr 1;lia
theorem div_self{n b:Int}(hb:1≤b)(hg:FM.gi n b=1):Bt (Rat.divInt n b)=.tuple [.int n,.int b]:=by
 obtain⟨e1,e2⟩:=Rl n hb;rw[hg]at e1 e2;unfold Bt;rw[e1,e2,Int.ediv_one,Int.ediv_one]
theorem Vi{n b:Int}(hb:1≤b)(hg:¬FM.gi n b=1):Bt (Rat.divInt n b)≠.tuple [.int n,.int b]:=by
 intro h;obtain⟨e1,e2⟩:=Rl n hb;unfold Bt at h;simp only[PyData.tuple.injEq,List.cons.injEq,PyData.int.injEq,and_true]at h;have hp:0<FM.gi n b:=FM.O2 (by lia);rw[e2]at h;have:b / FM.gi n b<b:=Int.ediv_lt_self_of_pos_of_ne_one (by lia) (by lia)
 lia
theorem fI{w:Str}(h:FX w):AE (A0 false) (AE Hk (nm 0) (fC (.int 1))) (fC (.str (Str.ofString "-"))) (.d (.str w)::δ)=some (.bool (decide (w.cps.toList.head? = some 45))):=by
 have hm:Str.ofString "-" = ⟨#[45]⟩:=by decide +kernel
 have hs:Hk (.str w) (.int 1)=some (.str (Txt.slice w none (some 1))):=if_pos (aH h.len (by decide));have hl:(Txt.slice w none (some 1))=Tx.Bg (w.cps.toList.take 1):=by
  by_cases h0:w.cps.toList=[]
  ·have:w=⟨#[]⟩:=Tx.BW (by rw[h0]);subst this;decide +kernel
  ·have hp:1≤w.length:=by
    rw[BQ];cases e:w.cps.toList with
    |nil=>exact absurd e h0
    |cons a l=>simp
   have:=beq_iff_eq.mp (PyProof.Rows.slice_closes_toL (x:=w) (j:=1) (by decide) (by lia));rw[this];exact Tx.BW (by rw[Tx.Am];simp)
 have ha:A5 (Tx.Bg (w.cps.toList.take 1))=true:=by
  unfold A5;rw[Tx.Am];exact ae.mpr fun c hc=>ae.mp h.asc c (bC hc)
 refine AI (AI rfl rfl (hs.trans (by rw[hl]))) rfl ((eq_str ha (by rw[hm];decide)).trans ?_)
 congr 2
 apply bJ.mpr;rw[hm];constructor
 ·intro z;have:=aM (fun x:Str=>x.cps.toList) z;simp only[Tx.Am]at this;cases e:w.cps.toList with
  |nil=>rw[e]at this;simp at this
  |cons a l=>rw[e]at this;simp at this ⊢;exact this
 ·intro z;refine Tx.BW ?_;rw[Tx.Am];cases e:w.cps.toList with
  |nil=>rw[e]at z;simp at z
  |cons a l=>rw[e]at z;simp at z ⊢;exact z
theorem ZH(a b:Int):SeqAt.shaped (.tuple [.int a,.int b])=true:=by
 simp[SeqAt.shaped,PyData.canLay0,PyData.canLayAll0,PyData.depth,PyData.depthAll]
theorem ek(a b c d:Int):A0 true (.tuple [.int a,.int b]) (.tuple [.int c,.int d])=some (.bool (!decide (a=c∧b=d))):=by
 show(if _∧_ then some (PyData.bool (!PyData.eqv _ _)) else none)=_;rw[if_pos ⟨ZH a b,ZH c d⟩];have:PyData.eqv (.tuple [.int a,.int b]) (.tuple [.int c,.int d])=decide (a=c∧b=d):=by
  by_cases h1:a=c<;>by_cases h2:b=d<;>simp[PyData.eqv,PyData.eqvAll,h1,h2]
 rw[this]
theorem gC{p:Str}{i:Nat}(hp:p.length≤990)(hi:i≤p.length):KP (.str p) (.int (i:Nat))=some (.str (Tx.Bg (p.cps.toList.drop i))):=by
 show(if p.length≤CG then some (PyData.str (Txt.slice p (some (i:Int)) none)) else none)=_;rw[if_pos (aH hp (by decide)),PyProof.Rows.slice_from_eq (b:=(p.length:Int)) (by lia) (by lia) rfl];refine aM some (aM PyData.str (Tx.BW ?_));rw[Tx.Am];have:=BQ p;show((p.cps.toList.drop (i:Int).toNat).take ((p.length:Int)-(i:Nat)).toNat).toArray.toList=_;rw[List.toList_toArray,Int.toNat_natCast];exact List.take_of_length_le (by rw[List.length_drop];lia)
abbrev NL:List PyData→Option PyData:=B2 BX Tn
theorem Vy{n b:Int}(hb:1≤b)(hl:b<10^41):Tn [.int n,.int b]=some (Bt (Rat.divInt n b)) :=
 if_pos ⟨by lia,by
  have:b.natAbs<10^41:=by lia
  exact Nat.lt_trans this (by decide)⟩
theorem TV{w:Str}{ps:List PyData}{low:Bool}{n b:Nat}(hb:1≤b)(hl:b<10^41)(hn:n<10^41) :
  AX (Bw (AY (A0 true) (AJ Tn (AB (nm 3) (AB (nm 4) AH))) (FD (AB (nm 3) (AB (nm 4) AH)))) (A3 (fC .none)) BA)
   (A3 (FD (AB (AE FU (nm 3) (AE Ap (B6 (AB (fC (.int 1)) (AB (GX (fC (.int 1))) AH))) (AJ G7 (AB (nm 2) AH)))) (AB (nm 4) AH))))
   [.d (.str w),.d (.list ps),.d (.bool low),.d (.int (n:Nat)),.d (.int (b:Nat))]=some (.rt (Dl (if FM.gi n b=1 then some (Tx.sg low n,(b:Int)) else none))):=by
 have h2:FD (AB (nm 3) (AB (nm 4) AH)) [.d (.str w),.d (.list ps),.d (.bool low),.d (.int (n:Nat)),.d (.int (b:Nat))]=some (.tuple [.int (n:Nat),.int (b:Nat)]):=Ff rfl (show 2≤CG by decide);by_cases hg:FM.gi n b=1
 ·rw[if_pos hg];refine AF (BC (Au (AR rfl ((Vy (by lia) (by lia)).trans (by rw[div_self (by lia) hg]))) h2 ((ek _ _ _ _).trans (by simp))) rfl) (CI ?_);refine Ff (AL (x:=.int (Tx.sg low n)) (AI rfl (AI (JC rfl (show 2≤CG by decide)) (AR rfl rfl) (?_:_=some (.int (if low then -1 else 1)))) ?_) rfl) (show 2≤CG by decide)
  ·cases low<;>rfl
  ·rw[mul_r (by cases low<;>decide)];cases low<;>simp[Tx.sg]
 ·rw[if_neg hg];have hne:=Vi (n:=n) (b:=b) (by lia) hg;unfold Bt at hne;refine B4 (Bm (Au (AR rfl (Vy (by lia) (by lia))) h2 ((ek _ _ _ _).trans ?_)) rfl);have:¬((Rat.divInt n b).num=(n:Int)∧((Rat.divInt n b).den:Int)=(b:Int)):=fun z=>hne (by rw[z.1,z.2]);rw[decide_eq_false this];rfl
theorem W4{t:Str}{n:Nat}(h:Tx.nm t.cps.toList=some n):n<10^41:=by
 obtain⟨e,l⟩:=Tx.VG h;have h1:∀c∈t.cps.toList,Tx.B1 c=true:=fun c hc=>by
  rw[e]at hc;have:=Tx.Kq hc;unfold Tx.B1;simp;lia
 have:=Tf _ h1 t.cps.toList.length;rw[List.take_length,e,Tx.N9,←e]at this;exact aG this (Nat.pow_le_pow_right (by decide) (by lia))
theorem iV{w:Str}(h:FX w)(i:Nat):FX (Tx.Bg (w.cps.toList.drop i)):=IL h (by rw[Tx.Am];exact List.drop_sublist _ _)
theorem cJ{w:Str}(h:FX w):NL [.str w]=some (Dl (Tx.lf w)):=by
 obtain⟨p,r,hs,_,hj⟩:=Tx.Qj w;have hp:FX p:=IL h (EI (c:=47) (by rw[hs];simp));refine CB rfl ?_;show Js BX Tn [.d (.str w),.no,.no,.no,.no]=_;refine AF (AZ (AI rfl rfl (Qy (aH h.len (by decide))))) ?_;rw[hs];refine AF (AZ (fI h)) ?_;unfold Tx.lf;rw[hs];generalize hlow:decide (w.cps.toList.head? = some 45)=low;have hi:(if low=true then 1 else 0)≤p.length:=by
  cases low with
  |false=>exact bK _
  |true =>
   have hw:=ag hlow;rw[BQ];cases hpl:p.cps.toList with
   |cons a l=>simp
   |nil =>
    cases r with
    |nil=>rw[show p=w from hj]at hpl;rw[hpl]at hw;simp at hw
    |cons q r=>rw[←hj,Tx.DZ,hpl]at hw;simp at hw
 have hnum:=P0 (iV hp (if low=true then 1 else 0));rw[Tx.Am]at hnum;refine AF (AZ (y:=optN (Tx.nm (p.cps.toList.drop (if low=true then 1 else 0)))) (AR (AL (AI (AI rfl rfl (IQ _ _)) (y:=.int ((if low=true then 1 else 0:Nat):Int)) (AR rfl (by cases low<;>rfl)) (gC hp.len hi)) rfl) hnum)) ?_;show _=some (Ou.rt (Dl ((Tx.nm (p.cps.toList.drop (if low=true then 1 else 0))).bind _)));have hlen:AJ BO (AB (nm 1) AH) [.d (.str w),.d (.list ((p::r).map .str)),.d (.bool low),.d (optN (Tx.nm (p.cps.toList.drop (if low=true then 1 else 0)))),.no]=some (.int (((p::r).length:Nat):Int)):=by
  show some (PyData.int ((((p::r).map PyData.str).length:Nat):Int))=_;rw[List.length_map]
 cases hnm:Tx.nm (p.cps.toList.drop (if low=true then 1 else 0)) with
 |none=>exact B4 (Bm (HN (Au rfl rfl rfl)) rfl)
 |some n =>
  rw[hnm]at hlen;have hn:n<10^41:=W4 (t:=Tx.Bg (p.cps.toList.drop (if low=true then 1 else 0))) (by rw[Tx.Am];exact hnm);show _=some (Ou.rt (Dl (if(low=true∧n=0)∨2<(p::r).length then none else _)));have t1:AY (Oj false) (nm 3) (fC .none) [.d (.str w),.d (.list ((p::r).map .str)),.d (.bool low),.d (optN (some n)),.no]=some false:=Au rfl rfl rfl;have t2:Hm (Cz (nm 2)) (AY (A0 false) (nm 3) (fC (.int 0))) [.d (.str w),.d (.list ((p::r).map .str)),.d (.bool low),.d (optN (some n)),.no]=some (decide (low=true∧n=0)):=by
   cases low with
   |false=>exact(Ox (CJ rfl)).trans (by simp)
   |true=>exact(Mu (CJ rfl) (Au rfl rfl (eq_int _ _))).trans (by by_cases e:n=0<;>simp[e])
  have t3:AY (Bv fun i j=>decide (j<i)) (AJ BO (AB (nm 1) AH)) (fC (.int 2)) [.d (.str w),.d (.list ((p::r).map .str)),.d (.bool low),.d (optN (some n)),.no]=some (decide (2<(p::r).length)) :=
   (Au hlen rfl rfl).trans (by congr 1;apply bJ.mpr;lia)
  by_cases h1:low=true∧n=0
  ·rw[if_pos (.inl h1)];rw[decide_eq_true h1]at t2;exact B4 (Bm (Be t1 (HN t2)) rfl)
  ·rw[decide_eq_false h1]at t2;by_cases h2:2<(p::r).length
   ·rw[if_pos (.inr h2)];rw[decide_eq_true h2]at t3;exact B4 (Bm (Be t1 (Be t2 t3)) rfl)
   ·rw[if_neg fun z=>z.elim h1 h2];rw[decide_eq_false h2]at t3;refine AF (BC (Be t1 (Be t2 t3)) rfl) (AF (AZ (y:=.int 1) rfl) ?_);cases r with
    |nil =>
     refine AF (BC (Au (x:=.int 1) (y:=.int 2) (AR rfl rfl) rfl (eq_int _ _)) rfl) ?_;have:=TV (w:=w) (ps:=[.str p]) (low:=low) (n:=n) (b:=1) (by decide) (by decide) hn;refine this.trans ?_;have e1:FM.gi (n:Int) ((1:Nat):Int)=1:=Tx.OW n;rw[if_pos e1];rfl
    |cons q r =>
     have hr:r=[]:=by
      cases r with
      |nil=>rfl
      |cons a l=>exact absurd (by simp) h2
     subst hr;have hq:FX q:=IL h (EI (c:=47) (by rw[hs];simp));show _=some (Ou.rt (Dl ((Tx.nm q.cps.toList).bind _)));have c6:AY (A0 false) (AJ BO (AB (nm 1) AH)) (fC (.int 2)) [.d (.str w),.d (.list ([p,q].map .str)),.d (.bool low),.d (optN (some n)),.d (.int 1)]=some true:=Au (x:=.int 2) (y:=.int 2) (AR rfl rfl) rfl (eq_int _ _);have s1:Av 4 (AJ BX (AB (AE Ap (nm 1) (fC (.int 1))) AH)) [.d (.str w),.d (.list ([p,q].map .str)),.d (.bool low),.d (optN (some n)),.d (.int 1)]=some (.nx [.d (.str w),.d (.list ([p,q].map .str)),.d (.bool low),.d (optN (some n)),.d (optN (Tx.nm q.cps.toList))]):=AZ (AR (AL (AI rfl rfl (JX _ _ _)) rfl) (P0 hq));cases hb:Tx.nm q.cps.toList with
     |none =>
      rw[hb]at s1;exact B4 (Bm c6 (AF s1 (Bm (HN (Au rfl rfl rfl)) rfl)))
     |some b =>
      rw[hb]at s1;have hbl:=W4 hb;show _=some (Ou.rt (Dl (if b<2 then none else if FM.gi n b=1 then some (Tx.sg low n,(b:Int)) else none)));have c7:AY (Bv fun i j=>decide (i<j)) (nm 4) (fC (.int 2)) [.d (.str w),.d (.list ([p,q].map .str)),.d (.bool low),.d (optN (some n)),.d (optN (some b))]=some (decide (b<2)) :=
       (Au (x:=.int (b:Nat)) rfl rfl rfl).trans (by congr 1;apply bJ.mpr;lia)
      by_cases h3:b<2
      ·rw[if_pos h3];rw[decide_eq_true h3]at c7;exact B4 (Bm c6 (AF s1 (Bm (Be (Au rfl rfl rfl) c7) rfl)))
      ·rw[if_neg h3];rw[decide_eq_false h3]at c7;refine AF (Bm c6 (AF s1 (BC (Be (Au rfl rfl rfl) c7) rfl))) ?_;exact TV (by lia) hbl hn
def Bk(l:Str):Str×List Str:=match Txt.split l (Tx.sep 32) with
 |[]=>(⟨#[]⟩,[])
 |p::r=>(p,r)
def Bz(x:Str):List (Str×List Str):=(Txt.split x (Tx.sep 10)).map Bk
theorem PY(l:Str):Txt.split l (Tx.sep 32)=(Bk l).1::(Bk l).2:=by
 unfold Bk;cases h:Txt.split l (Tx.sep 32) with
 |nil=>exact absurd h (Tx.Jk _ _)
 |cons p r=>rfl
structure Lz(x:Str):Prop where
 len:x.length≤100000
 Ej:(Bz x).length≤900
 words:∀q∈Bz x,q.2.length≤900∧FX q.1∧∀w∈q.2,FX w
theorem OI:Str.ofString "\n" = Tx.sep 10:=by decide +kernel
theorem OL:Str.ofString " " = Tx.sep 32:=by decide +kernel
theorem Mg{w t:Str}{c:Nat}(e:t=Tx.sep c)(h:w.length≤100000):Ca (.str w) (.str t)=some (.list ((Txt.split w (Tx.sep c)).map .str)):=by
 subst e;exact if_pos ⟨by simp[Tx.sep,Str.length],h⟩
theorem MA{x l:Str}{c:Nat}(h:l∈Txt.split x (Tx.sep c)):l.length≤x.length:=by
 rw[BQ,BQ];exact(EI h).length_le
def Gm(q:Str×List Str):PyData:=.list ((q.1::q.2).map .str)
def Bb(q:Str×List Str):PyData:=.list (q.2.map fun w=>Dl (Tx.rd w))
abbrev Wg:List PyData→Option PyData:=CC iX
theorem KA{α:Type}{i:Nat}{f:Dv→Option PyData}{fs:Dv→Option (List PyData)}{δ:Dv}{fr:List (Option Nat)}{zs:List α}{a g:α→PyData}(hx:fs δ=some (zs.map a))(hl:zs.length≤CG)
 (h:∀z∈zs,f ((Ea fr δ).set i (.d (a z)))=some (g z)):Fg (B3 i) D8 f fr fs δ=some (zs.map g):=by
 unfold Fg;rw[hx,Option.bind_some];have:∀zs:List α,(∀z∈zs,f ((Ea fr δ).set i (.d (a z)))=some (g z))→L2.collect (PM (B3 i) D8 f (Ea fr δ)) (zs.map a)=some (zs.map g):=fun zs=>by
  induction zs with
  |nil=>intro _;rfl
  |cons z zs ih =>
   intro h;rw[List.map_cons,List.map_cons];unfold L2.collect;rw[ih fun y hy=>h y (.tail _ hy)];have e:PM (B3 i) D8 f (Ea fr δ) (a z)=some (some (g z)):=by
    unfold PM B3;rw[Option.bind_some];show(some true).bind _=_;rw[Option.bind_some,if_pos rfl,h z (.head _)]
    rfl
   rw[e];rfl
 rw[this zs h,Option.bind_some,L2.Ej,if_pos (by rw[List.length_map];exact hl)]
theorem FA{α:Type}{i:Nat}{f:Dv→Option PyData}{fs:Dv→Option (List PyData)}{δ:Dv}{fr:List (Option Nat)}{zs:List α}{a g:α→PyData}(hx:fs δ=some (zs.map a))(hl:zs.length≤CG)
 (h:∀z∈zs,f ((Ea fr δ).set i (.d (a z)))=some (g z)):CO (B3 i) D8 f fr fs δ=some (.list (zs.map g)):=by
 have:=KA hx hl h;unfold CO;rw[this];rfl
theorem Zc{ws:List Str}(hl:ws.length≤900)(h:∀w∈ws,FX w):Wg [.list (ws.map .str),.int 40]=some (.list (ws.map fun w=>Dl (Tx.rd w))):=by
 refine JH rfl ?_;show(Fg _ _ _ _ _ [.d (.list (ws.map .str)),.d (.int 40)]).map _=_;rw[KA (zs:=ws) (a:=.str) (g:=fun w=>Dl (Tx.rd w)) rfl (aH hl (by decide)) fun w hw=>(AR (AL rfl (AL rfl rfl)) (fj (h w hw)))]
 rfl
theorem Mn{F:DF}{δ:Dv}{o:Ou}(h:F δ=some o):NM F δ=some (.inl o):=by show(F δ).map _=_;rw[h];rfl
theorem O7(xs:List PyData)(y:PyData):C3 (xs++[y]) (-1)=some y:=by
 unfold C3 HU;rw[if_neg (by decide),if_pos (by simp;lia)];have:(-1+(((xs++[y]).length:Nat):Int)).toNat=xs.length:=by rw[List.length_append,List.length_singleton];lia
 rw[Option.bind_some,this];simp
def Dm(n:Nat)(d:PyData):Prop:=d.canLay0=true∧d.depth≤n
theorem PZ{n:Nat}:∀ {ds:List PyData},(∀d∈ds,Dm n d)→PyData.canLayAll0 ds=true∧PyData.depthAll ds≤n
 |[],_=>by simp[PyData.canLayAll0,PyData.depthAll]
 |d::ds,h=>by
  obtain⟨h1,h2⟩:=PZ fun e he=>h e (.tail _ he);obtain⟨h3,h4⟩:=h d (.head _);simp only[PyData.canLayAll0,PyData.depthAll,h1,h3];exact⟨rfl,by lia⟩
theorem GH{n:Nat}{ds:List PyData}(h:∀d∈ds,Dm n d):Dm (n+1) (.list ds):=by
 obtain⟨h1,h2⟩:=PZ h;exact⟨by simp only[PyData.canLay0,h1],by simp only[PyData.depth];lia⟩
theorem Qk{n:Nat}{ds:List PyData}(h:∀d∈ds,Dm n d):Dm (n+1) (.tuple ds):=by
 obtain⟨h1,h2⟩:=PZ h;exact⟨by simp only[PyData.canLay0,h1],by simp only[PyData.depth];lia⟩
theorem Dm.ok{n:Nat}{d:PyData}(h:Dm n d)(hn:n≤64):SeqAt.shaped d=true:=by
 unfold SeqAt.shaped;rw[h.1,decide_eq_true (aH h.2 hn)];rfl
theorem Dm.more{n m:Nat}{d:PyData}(h:Dm n d)(hn:n≤m):Dm m d:=⟨h.1,Nat.le_trans h.2 hn⟩
theorem gw{x:Str}(h:A5 x=true):Dm 1 (.str x):=⟨by simp[PyData.canLay0,Wv h],by simp[PyData.depth]⟩
theorem Uu(i:Int):Dm 1 (.int i):=⟨by simp[PyData.canLay0],by simp[PyData.depth]⟩
theorem Ye:Dm 1 .none:=⟨by simp[PyData.canLay0],by simp[PyData.depth]⟩
theorem ZG(o:Option (Int×Int)):Dm 2 (Dl o):=by
 cases o with
 |none=>exact Ye.more (by decide)
 |some q =>
  refine Qk fun d hd=>?_;rcases aL.mp hd with rfl|hd
  ·exact Uu _
  ·rcases aL.mp hd with rfl|hd
   ·exact Uu _
   ·cases hd
theorem OT(q:Str×List Str):Dm 3 (Bb q):=GH fun d hd=>by
 obtain⟨w,_,rfl⟩:=aR.mp hd;exact ZG _
theorem bf(rs:List (Str×List Str)):Dm 4 (.list (rs.map Bb)):=GH fun d hd=>by
 obtain⟨w,_,rfl⟩:=aR.mp hd;exact OT _
def C4(rs:List (Str×List Str))(q:Str×List Str):PyData:=.tuple [.list (rs.map Bb),Bb q]
theorem dF(rs:List (Str×List Str))(q:Str×List Str):Dm 5 (C4 rs q):=Qk fun d hd=>by
 rcases aL.mp hd with rfl|hd
 ·exact bf _
 ·rcases aL.mp hd with rfl|hd
  ·exact(OT _).more (by decide)
  ·cases hd
theorem Wu{xs:List Str}(h:∀x∈xs,A5 x=true):Dm 2 (.list (xs.map .str)):=GH fun d hd=>by
 obtain⟨w,hw,rfl⟩:=aR.mp hd;exact gw (h w hw)
theorem WC:∀xs ys:List Str,PyData.eqvAll (xs.map .str) (ys.map .str)=decide (xs=ys)
 |[],[]=>rfl
 |[],_::_=>rfl
 |_::_,[]=>rfl
 |x::xs,y::ys=>by
  rw[List.map_cons,List.map_cons,PyData.eqvAll,WC xs ys];by_cases e:x=y
  ·subst e;simp[PyData.eqv]
  ·simp[PyData.eqv,e]
theorem gf{xs ys:List Str}(hx:∀x∈xs,A5 x=true)(hy:∀y∈ys,A5 y=true):A0 true (.list (xs.map .str)) (.list (ys.map .str))=some (.bool (!decide (xs=ys))):=by
 show(if _∧_ then some (PyData.bool (!PyData.eqv _ _)) else none)=_;rw[if_pos ⟨(Wu hx).ok (by decide),(Wu hy).ok (by decide)⟩,PyData.eqv,WC]
abbrev Bj:Str:=Str.ofString "row"
abbrev CA:Str:=Str.ofString "last"
def Gg(rs:List (Str×List Str))(q:Str×List Str):Prop:=(∀r∈rs,r.1=Bj)∧q.1=CA
instance (rs:List (Str×List Str)) (q:Str×List Str):Decidable (Gg rs q):=by unfold Gg;exact inferInstance
theorem ZW(rs:List (Str×List Str))(q:Str×List Str):(rs++[q]).map (·.1)=List.replicate rs.length Bj++[CA] ↔ Gg rs q:=by
 rw[List.map_append];constructor
 ·intro h;obtain⟨h1,h2⟩:=List.append_inj h (by simp);refine⟨fun r hr=>?_,by simpa using h2⟩;have:r.1∈List.replicate rs.length Bj:=h1 ▸ List.mem_map_of_mem hr
  exact List.eq_of_mem_replicate this
 ·rintro⟨h1,h2⟩;have:rs.map (·.1)=List.replicate rs.length Bj:=List.eq_replicate_iff.mpr ⟨by simp,fun b hb=>by
   obtain⟨r,hr,rfl⟩:=aR.mp hb;exact h1 r hr⟩
  rw[this];simp[h2]
abbrev PN:List PyData→Option PyData:=mB CZ
theorem ZU{x:Str}{rs:List (Str×List Str)}{q:Str×List Str}(h:Lz x)(hq:Bz x=rs++[q])(C:Addr):HA Wg PN C [.str x]=some (if Gg rs q∧CZ (C4 rs q)=true then .inl (C4 rs q) else .inr C):=by
 have hn:(Bz x).length≤CG:=aH h.Ej (by decide);have hlen:(Bz x).length=rs.length+1:=by rw[hq];simp
 suffices hh:Mo Wg PN C [.d (.str x),.no,.no,.no,.no]=some (if Gg rs q∧CZ (C4 rs q)=true then .inl (.rt (C4 rs q)) else .inr C) by
  by_cases e:Gg rs q∧CZ (C4 rs q)=true
  ·rw[if_pos e]at hh ⊢;exact UW rfl hh
  ·rw[if_neg e]at hh ⊢;exact PH rfl hh
 have s1:CO (B3 1) D8 (AE Ca (nm 1) (fC (.str (Str.ofString " ")))) [none,none] (D9 (AE Ca (nm 0) (fC (.str (Str.ofString "\n"))))) [.d (.str x),.no,.no,.no,.no]=some (.list ((Bz x).map Gm)):=by
  unfold Bz;rw[List.map_map];refine FA (zs:=Txt.split x (Tx.sep 10)) (a:=.str) (JF (AI rfl rfl (Mg OI h.len)) rfl) (by unfold Bz at hn;rw[List.length_map]at hn;exact hn) fun l hl=>?_;refine(AI rfl rfl (Mg OL (aH (MA hl) h.len))).trans ?_;rw[PY];rfl
 refine JJ (Mn (AZ s1)) ?_;refine JJ (Mn (AZ (FA (zs:=Bz x) (a:=Gm) (g:=fun q=>.str q.1) rfl hn fun q _=>AI rfl rfl (IQ _ _)))) ?_;refine JJ (Mn (AZ (FA (zs:=Bz x) (a:=Gm) (g:=Bb) rfl hn fun q hm=>AR (AL (x:=.list (q.2.map .str)) ?_ rfl) (Zc (h.words q hm).1 (h.words q hm).2.2)))) ?_
 ·show some (PyData.list (cutD ((q.1::q.2).map PyData.str) (some ((1:Nat):Int)) none))=_;rw[Sd];rfl
 have e4:FD (AB (HY (nm 3) Fj (Fq (GX (fC (.int 1))))) (AB (AE Ap (nm 3) (GX (fC (.int 1)))) AH)) [.d (.str x),.d (.list ((Bz x).map Gm)),.d (.list ((Bz x).map fun q=>.str q.1)),.d (.list ((Bz x).map Bb)),.no]=some (C4 rs q):=by
  refine Ff (AL (x:=.list (rs.map Bb)) ?_ (AL (x:=Bb q) ?_ rfl)) (show 2≤CG by decide)
  ·show some (PyData.list (cutD ((Bz x).map Bb) none (some (-1))))=_;rw[Sr,hq];simp
  ·show C3 ((Bz x).map Bb) (-1)=_;rw[hq,List.map_append];exact O7 _ _
 refine JJ (Mn (AZ e4)) ?_;have a1:∀y∈(Bz x).map (·.1),A5 y=true:=fun y hy=>by
  obtain⟨q,hm,rfl⟩:=aR.mp hy;exact(h.words q hm).2.1.asc
 have a2:∀y∈List.replicate rs.length Bj++[CA],A5 y=true:=fun y hy=>by
  rcases aT.mp hy with z|z
  ·rw[List.eq_of_mem_replicate z];decide +kernel
  ·rw[List.mem_singleton.mp z];decide +kernel
 have ne:=gf a1 a2;rw[List.map_map,List.map_append,List.map_replicate]at ne;have c1:AY (A0 true) (nm 2) (AE Az (AE FU (B6 (AB (fC (.str (Str.ofString "row"))) AH)) (AE En (AJ BO (AB (nm 1) AH)) (fC (.int 1)))) (B6 (AB (fC (.str (Str.ofString "last"))) AH))) [.d (.str x),.d (.list ((Bz x).map Gm)),.d (.list ((Bz x).map fun q=>.str q.1)),.d (.list ((Bz x).map Bb)),.d (C4 rs q)]=some (!decide (Gg rs q)):=by
  refine Au rfl (AI (x:=.list (List.replicate rs.length (.str Bj))) (y:=.list [.str CA]) (AI (x:=.list [.str Bj]) (y:=.int (rs.length:Nat)) rfl (AI (x:=.int ((Bz x).length:Nat)) (y:=.int 1) ?_ rfl ?_) ?_) rfl ?_) (ne.trans ?_)
  ·show some (PyData.int (((Bz x).map Gm).length:Nat))=_;rw[List.length_map]
  ·show some (PyData.int _)=_;rw[hlen];congr 2;lia
  ·show Q9 (.list [.str Bj]) (.int (rs.length:Nat))=_;have:rs.length≤900:=by have:=h.Ej;lia
   refine(if_pos ⟨by show 1*_≤1000;rw[Int.toNat_natCast];lia,by lia,by lia⟩).trans ?_;rw[Int.toNat_natCast,List.flatten_replicate_singleton]
  ·have:rs.length≤900:=by have:=h.Ej;lia
   have e:HP (.list (List.replicate rs.length (.str Bj))) (.list [.str CA])=some (.list (List.replicate rs.length (.str Bj)++[.str CA])):=if_pos (by rw[List.length_replicate];show rs.length+1≤1000;lia);show D7 HP _ (.list (List.replicate rs.length (.str Bj))) (.list [.str CA])=_;unfold D7;rw[e];rfl
  ·rw[hq]
   congr 3
   exact bJ.mpr (ZW rs q)
 have c2:Dw (Cz (AJ PN (AB (nm 4) AH))) [.d (.str x),.d (.list ((Bz x).map Gm)),.d (.list ((Bz x).map fun q=>.str q.1)),.d (.list ((Bz x).map Bb)),.d (C4 rs q)]=some (!CZ (C4 rs q)):=Cw (CJ (AR rfl (Y4 (dF rs q).1)));by_cases e1:Gg rs q
 ·rw[decide_eq_true e1]at c1;by_cases e2:CZ (C4 rs q)=true
  ·rw[if_pos ⟨e1,e2⟩];rw[e2]at c2;exact JJ (Y0 (Be c1 c2) rfl) rfl
  ·rw[if_neg fun z=>e2 z.2];rw[Bool.eq_false_iff.mpr e2]at c2;exact PD (U4 (Be c1 c2) rfl)
 ·rw[if_neg fun z=>e1 z.1];rw[decide_eq_false e1]at c1;exact PD (U4 (HN c1) rfl)
theorem N2{α:Type}{xs:List α}{i:Nat}{x:α}(h:xs[i]? = some x):C3 xs ((i:Nat):Int)=some x:=by
 have hl:=(aE.mp h).1;unfold C3 HU;rw[if_pos (by lia),if_pos (by lia),Option.bind_some,Int.toNat_natCast];exact h
theorem UB{set:PyData→Dv→Option Dv}{F:DF}{r:PyData}(Iv:Nat→Dv→Prop)(bad:Nat→Prop):∀(xs:List PyData) (δ:Dv) (n:Nat),Iv n δ→(∀(i:Nat) (x:PyData) (δ:Dv),xs[i]? = some x→Iv (n+i) δ→∃δ1,set x δ=some δ1∧((bad (n+i)∧F δ1=some (.rt r))∨(¬bad (n+i)∧∃δ2,F δ1=some (.nx δ2)∧Iv (n+i+1) δ2))) →
  ((∃i,i<xs.length∧bad (n+i))∧FY set F xs δ=some (.rt r))∨((∀i,i<xs.length→¬bad (n+i))∧∃δ',FY set F xs δ=some (.nx δ')∧Iv (n+xs.length) δ')
 |[],δ,n,h,_=>.inr ⟨fun i hi=>absurd hi (Nat.not_lt_zero _),δ,rfl,h⟩
 |x::xs,δ,n,h,k=>by
  obtain⟨δ1,h1,h2⟩:=k 0 x δ rfl h;rcases h2 with ⟨h2,h3⟩|⟨h2,δ2,h3,h4⟩
  ·refine .inl ⟨⟨0,by simp,h2⟩,?_⟩;unfold FY;rw[h1,Option.bind_some,h3]
  ·have e:FY set F (x::xs) δ=FY set F xs δ2:=by rw[FY,h1,Option.bind_some,h3]
   rw[e];rcases UB Iv bad xs δ2 (n+1) h4 (fun i y δ hy hv=>by
    have:=k (i+1) y δ (by simpa using hy) (by rw[show n+(i+1)=n+1+i by lia];exact hv);rw[show n+(i+1)=n+1+i by lia]at this;exact this) with ⟨⟨i,hi,hb⟩,h5⟩|⟨h5,δ',h6,h7⟩
   ·exact .inl ⟨⟨i+1,by simp;lia,by rw[show n+(i+1)=n+1+i by lia];exact hb⟩,h5⟩
   ·refine .inr ⟨fun i hi=>?_,δ',h6,by rw[List.length_cons,show n+(xs.length+1)=n+1+xs.length by lia];exact h7⟩;cases i with
    |zero=>exact h2
    |succ i=>rw[show n+(i+1)=n+1+i by lia];exact h5 i (by simp at hi;lia)
def WL(n i:Nat)(q:Str×List Str):Prop:=(q.1=(if i=n then CA else Bj)∧q.2.length=i)∧∀w∈q.2,Tx.rd w≠none
theorem any_none(ws:List Str):Mf (ws.map fun w=>Dl (Tx.rd w)) .none=true ↔ ¬ ∀w∈ws,Tx.rd w≠none:=by
 have e:∀o:Option (Int×Int),PyData.eqv (Dl o) .none=true ↔ o=none:=fun o=>by
  cases o with
  |none=>simp[Dl,PyData.eqv]
  |some q=>simp[Dl,PyData.eqv]
 unfold Mf;rw[List.any_map,List.any_eq_true];constructor
 ·rintro⟨w,hw,h⟩ z;exact z w hw ((e _).mp h)
 ·intro z;refine bG fun y=>z fun w hw h=>y ⟨w,hw,(e _).mpr h⟩
theorem eK{δ:Dv}{h:Str}{ws:List Str}(hd:nm 4 δ=some (Gm (h,ws)))(hl:ws.length≤900)(hw:∀w∈ws,FX w):CO (B3 1) D8 (AJ NL (AB (nm 1) AH)) [none,none] (D9 (HY (nm 4) (Fq (fC (.int 1))) Fj)) δ=some (Bb (h,ws)):=by
 refine FA (zs:=ws) (a:=.str) (JF (x:=.list (ws.map .str)) ?_ rfl) (aH hl (by decide)) fun w hm=>?_
 ·show(nm 4 δ).bind _=_;rw[hd];show some (PyData.list (cutD ((h::ws).map PyData.str) (some ((1:Nat):Int)) none))=_;rw[Sd];rfl
 ·rw[Tx.gQ];exact AR (AL rfl rfl) (cJ (hw w hm))
theorem WK{δ:Dv}{ls:List Str}{n i:Nat}(h1:nm 1 δ=some (.list (ls.map .str)))(h3:nm 3 δ=some (.int ((i:Nat):Int)))(hn:ls.length=n+1):AJ G7 (AB (AE (A0 false) (nm 3) (AE En (AJ BO (AB (nm 1) AH)) (fC (.int 1)))) AH) δ=some (.int ((if i=n then 1 else 0:Nat):Int)):=by
 refine AR (AL (x:=.bool (((i:Nat):Int)==(n:Nat))) (AI (y:=.int ((n:Nat):Int)) h3 (AI (x:=.int (ls.length:Nat)) (AR (AL h1 rfl) ?_) rfl ?_) (eq_int _ _)) rfl) ?_
 ·show some (PyData.int ((ls.map PyData.str).length:Nat))=_;rw[List.length_map]
 ·show some (PyData.int _)=_;rw[hn];congr 2;lia
 ·by_cases e:i=n
  ·subst e;simp[G7]
  ·rw[if_neg e];have:((((i:Nat):Int)==((n:Nat):Int))=false):=by simp;lia
   rw[this];rfl
abbrev M9:DF:=AX (Av 4 (AE Ca (AE Ap (nm 1) (nm 3)) (fC (.str (Str.ofString " ")))))
  (AX (Av 5 (AE Ap (B6 (AB (nm 3) (AB (AE En (AJ BO (AB (nm 1) AH)) (fC (.int 1))) AH))) (AJ G7 (AB (AE (A0 false) (nm 3) (AE En (AJ BO (AB (nm 1) AH)) (fC (.int 1)))) AH))))
  (AX (Bw (Cq (AY (A0 true) (AE Ap (nm 4) (fC (.int 0))) (AE Ap (B6 (AB (fC (.str (Str.ofString "row"))) (AB (fC (.str (Str.ofString "last"))) AH))) (AJ G7 (AB (AE (A0 false) (nm 3) (AE En (AJ BO (AB (nm 1) AH)) (fC (.int 1)))) AH)))) (AY (A0 true) (AJ BO (AB (nm 4) AH)) (AE Az (fC (.int 1)) (nm 5))))
   (A3 (fC .none))
   BA)
  (AX (RP 2 (CO (B3 1) D8 (AJ NL (AB (nm 1) AH)) [none,none] (D9 (HY (nm 4) (Fq (fC (.int 1))) Fj))))
  (Bw (LU (AY (O8 false) (fC .none) (AE Ap (nm 2) (GX (fC (.int 1))))))
   (A3 (fC .none))
   BA))))
theorem ne_int(a b:Int):A0 true (.int a) (.int b)=some (.bool (!(a==b))):=by
 unfold A0;rw[if_pos ⟨by simp[SeqAt.shaped,PyData.canLay0,PyData.depth],by simp[SeqAt.shaped,PyData.canLay0,PyData.depth]⟩];simp[PyData.eqv]
theorem Z4{x l:Str}{ls:List Str}{n i:Nat}{os:List PyData}{b c:L}(hn:ls.length=n+1)(hi:i≤n)(hx:l.length≤100000)(ho:os.length<CG)(hl:ls[i]? = some l)(hw:(Bk l).2.length≤900∧FX (Bk l).1∧∀w∈(Bk l).2,FX w) :
  (¬WL n i (Bk l)∧M9 [.d (.str x),.d (.list (ls.map .str)),.own (.lst os),.d (.int ((i:Nat):Int)),b,c]=some (.rt .none)) ∨
  (WL n i (Bk l)∧M9 [.d (.str x),.d (.list (ls.map .str)),.own (.lst os),.d (.int ((i:Nat):Int)),b,c]=some (.nx [.d (.str x),.d (.list (ls.map .str)),.own (.lst (os++[Bb (Bk l)])),.d (.int ((i:Nat):Int)),.d (Gm (Bk l)),.d (.int ((i:Nat):Int))])):=by
 have hm:(ls.map PyData.str)[i]? = some (.str l):=by rw[List.getElem?_map,hl];rfl
 have s4:Av 4 (AE Ca (AE Ap (nm 1) (nm 3)) (fC (.str (Str.ofString " ")))) [.d (.str x),.d (.list (ls.map .str)),.own (.lst os),.d (.int ((i:Nat):Int)),b,c]=some (.nx [.d (.str x),.d (.list (ls.map .str)),.own (.lst os),.d (.int ((i:Nat):Int)),.d (Gm (Bk l)),c]):=by
  refine AZ (AI (AI rfl rfl (N2 hm)) rfl ((Mg OL hx).trans ?_));rw[PY];rfl
 have s5:Av 5 (AE Ap (B6 (AB (nm 3) (AB (AE En (AJ BO (AB (nm 1) AH)) (fC (.int 1))) AH))) (AJ G7 (AB (AE (A0 false) (nm 3) (AE En (AJ BO (AB (nm 1) AH)) (fC (.int 1)))) AH))) [.d (.str x),.d (.list (ls.map .str)),.own (.lst os),.d (.int ((i:Nat):Int)),.d (Gm (Bk l)),c]=some (.nx [.d (.str x),.d (.list (ls.map .str)),.own (.lst os),.d (.int ((i:Nat):Int)),.d (Gm (Bk l)),.d (.int ((i:Nat):Int))]):=by
  refine AZ (AI (x:=.list [.int ((i:Nat):Int),.int ((n:Nat):Int)]) ?_ (WK rfl rfl hn) ?_)
  ·have:AE En (AJ BO (AB (nm 1) AH)) (fC (.int 1)) [.d (.str x),.d (.list (ls.map .str)),.own (.lst os),.d (.int ((i:Nat):Int)),.d (Gm (Bk l)),c]=some (.int ((n:Nat):Int)):=by
    refine AI (x:=.int (ls.length:Nat)) ?_ rfl ?_
    ·show some (PyData.int ((ls.map PyData.str).length:Nat))=_;rw[List.length_map]
    ·show some (PyData.int _)=_;rw[hn];congr 2;lia
   show((Option.bind _ _).bind L2.Ej).map _=_;rw[AL this rfl]
   rfl
  ·show C3 _ _=_;by_cases e:i=n
   ·rw[if_pos e,e];exact JX _ _ _
   ·rw[if_neg e];exact IQ _ _
 have c1:AY (A0 true) (AE Ap (nm 4) (fC (.int 0))) (AE Ap (B6 (AB (fC (.str (Str.ofString "row"))) (AB (fC (.str (Str.ofString "last"))) AH))) (AJ G7 (AB (AE (A0 false) (nm 3) (AE En (AJ BO (AB (nm 1) AH)) (fC (.int 1)))) AH))) [.d (.str x),.d (.list (ls.map .str)),.own (.lst os),.d (.int ((i:Nat):Int)),.d (Gm (Bk l)),.d (.int ((i:Nat):Int))]=some (!decide ((Bk l).1=(if i=n then CA else Bj))):=by
  refine Au (AI rfl rfl (IQ _ _)) (AI (x:=.list [.str Bj,.str CA]) rfl (WK rfl rfl hn) (z:=some (.str (if i=n then CA else Bj))) ?_) (ne_str hw.2.1.asc ?_)
  ·show C3 _ _=_;by_cases e:i=n
   ·rw[if_pos e,if_pos e];exact JX _ _ _
   ·rw[if_neg e,if_neg e];exact IQ _ _
  ·by_cases e:i=n
   ·rw[if_pos e];decide +kernel
   ·rw[if_neg e];decide +kernel
 have c2:AY (A0 true) (AJ BO (AB (nm 4) AH)) (AE Az (fC (.int 1)) (nm 5)) [.d (.str x),.d (.list (ls.map .str)),.own (.lst os),.d (.int ((i:Nat):Int)),.d (Gm (Bk l)),.d (.int ((i:Nat):Int))]=some (!decide ((Bk l).2.length=i)):=by
  refine Au (x:=.int ((((Bk l).2.length:Nat):Int)+1)) (y:=.int (1+((i:Nat):Int))) ?_ rfl ((ne_int _ _).trans ?_)
  ·show some (PyData.int ((((Bk l).1::(Bk l).2).map PyData.str).length:Nat))=_;rw[List.length_map,List.length_cons];rfl
  ·congr 3
   by_cases e:(Bk l).2.length=i
   ·rw[decide_eq_true e,e];simp;lia
   ·rw[decide_eq_false e];simp;lia
 by_cases e1:(Bk l).1=(if i=n then CA else Bj)
 ·rw[decide_eq_true e1]at c1;by_cases e2:(Bk l).2.length=i
  ·rw[decide_eq_true e2]at c2;have s6:RP 2 (CO (B3 1) D8 (AJ NL (AB (nm 1) AH)) [none,none] (D9 (HY (nm 4) (Fq (fC (.int 1))) Fj))) [.d (.str x),.d (.list (ls.map .str)),.own (.lst os),.d (.int ((i:Nat):Int)),.d (Gm (Bk l)),.d (.int ((i:Nat):Int))]=some (.nx [.d (.str x),.d (.list (ls.map .str)),.own (.lst (os++[Bb (Bk l)])),.d (.int ((i:Nat):Int)),.d (Gm (Bk l)),.d (.int ((i:Nat):Int))]):=by
    show(CO _ _ _ _ _ _).bind _=_;rw[eK (h:=(Bk l).1) rfl hw.1 hw.2.2];exact if_pos ho
   have c3:LU (AY (O8 false) (fC .none) (AE Ap (nm 2) (GX (fC (.int 1))))) [.d (.str x),.d (.list (ls.map .str)),.own (.lst (os++[Bb (Bk l)])),.d (.int ((i:Nat):Int)),.d (Gm (Bk l)),.d (.int ((i:Nat):Int))]=some (Mf ((Bk l).2.map fun w=>Dl (Tx.rd w)) .none):=by
    refine Au rfl (AI (x:=.list (os++[Bb (Bk l)])) rfl rfl (O7 _ _)) ?_;exact if_pos ⟨Ye.ok (by decide),(OT (Bk l)).ok (by decide)⟩
   by_cases e3:∀w∈(Bk l).2,Tx.rd w≠none
   ·rw[show Mf _ _=false from ay.mpr fun z=>(any_none _).mp z e3]at c3;exact .inr ⟨⟨⟨e1,e2⟩,e3⟩,AF s4 (AF s5 (AF (BC (Be c1 c2) rfl) (AF s6 (BC c3 rfl))))⟩
   ·rw[(any_none _).mpr e3]at c3;exact .inl ⟨fun z=>e3 z.2,AF s4 (AF s5 (AF (BC (Be c1 c2) rfl) (AF s6 (Bm c3 rfl))))⟩
  ·rw[decide_eq_false e2]at c2;exact .inl ⟨fun z=>e2 z.1.2,AF s4 (AF s5 (B4 (Bm (Be c1 c2) rfl)))⟩
 ·rw[decide_eq_false e1]at c1;exact .inl ⟨fun z=>e1 z.1.1,AF s4 (AF s5 (B4 (Bm (HN c1) rfl)))⟩
def Yl(n:Nat)(qs:List (Str×List Str)):Prop:=∀i q,qs[i]? = some q→WL n i q
theorem XG{x:Str}{rs:List (Str×List Str)}{q:Str×List Str}(h:Lz x)(hq:Bz x=rs++[q]) :
  (Yl rs.length (Bz x)∧1≤rs.length∧rs.length≤40∧EF NL [.str x]=some (C4 rs q))∨(¬(Yl rs.length (Bz x)∧1≤rs.length∧rs.length≤40)∧EF NL [.str x]=some .none):=by
 have hlen:(Bz x).length=rs.length+1:=by rw[hq];simp
 have hn:(Txt.split x (Tx.sep 10)).length=rs.length+1:=by rw[←hlen];unfold Bz;rw[List.length_map]
 have hf:=h.Ej;have s1:Av 1 (AE Ca (nm 0) (fC (.str (Str.ofString "\n")))) [.d (.str x),.no,.no,.no,.no,.no]=some (.nx [.d (.str x),.d (.list ((Txt.split x (Tx.sep 10)).map .str)),.no,.no,.no,.no]):=AZ (AI rfl rfl (Mg OI h.len));have s2:cM 2 AH [.d (.str x),.d (.list ((Txt.split x (Tx.sep 10)).map .str)),.no,.no,.no,.no]=some (.nx [.d (.str x),.d (.list ((Txt.split x (Tx.sep 10)).map .str)),.own (.lst []),.no,.no,.no]):=rfl;have hr:ID IW (AB (AJ BO (AB (nm 1) AH)) AH) [.d (.str x),.d (.list ((Txt.split x (Tx.sep 10)).map .str)),.own (.lst []),.no,.no,.no]=some (Hb 0 (rs.length+1)):=by
  have:=Q2 (f:=AJ BO (AB (nm 1) AH)) (δ:=[.d (.str x),.d (.list ((Txt.split x (Tx.sep 10)).map .str)),.own (.lst []),.no,.no,.no]) (j:=((rs.length+1:Nat):Int)) (by
   show some (PyData.int ((((Txt.split x (Tx.sep 10)).map PyData.str).length:Nat):Int))=_;rw[List.length_map,hn]) (by lia) (by lia)
  rw[this,Int.toNat_natCast]
 have rl:(Hb 0 (rs.length+1)).length=rs.length+1:=by simp[Hb]
 have loop:=UB (set:=MW 3) (F:=M9) (r:=.none) (fun i δ=>∃a b c,δ=[.d (.str x),.d (.list ((Txt.split x (Tx.sep 10)).map .str)),.own (.lst (((Bz x).take i).map Bb)),a,b,c]) (fun i=>∃q,(Bz x)[i]? = some q∧¬WL rs.length i q) (Hb 0 (rs.length+1)) [.d (.str x),.d (.list ((Txt.split x (Tx.sep 10)).map .str)),.own (.lst []),.no,.no,.no] 0 ⟨_,_,_,rfl⟩ fun i y δ hy hv=>by
  obtain⟨rfl,hi⟩:=ZY hy;rw[Nat.zero_add]at hv ⊢;obtain⟨a,b,c,rfl⟩:=hv;have hl:∃l,(Txt.split x (Tx.sep 10))[i]? = some l:=⟨_,List.getElem?_eq_getElem (by lia)⟩;obtain⟨l,hl⟩:=hl;have hc:(Bz x)[i]? = some (Bk l):=by unfold Bz;rw[List.getElem?_map,hl];rfl
  have hm:Bk l∈Bz x:=aW hc;rw[Int.zero_add];refine⟨_,rfl,?_⟩;rcases Z4 (x:=x) (ls:=Txt.split x (Tx.sep 10)) (n:=rs.length) (i:=i) (os:=((Bz x).take i).map Bb) (b:=b) (c:=c) hn (by lia) (aH (MA (aW hl)) h.len) (by rw[List.length_map,List.length_take];show _<1000;lia) hl (h.words _ hm) with ⟨h1,h2⟩|⟨h1,h2⟩
  ·exact .inl ⟨⟨_,hc,h1⟩,h2⟩
  ·refine .inr ⟨fun⟨q,e,z⟩=>?_,_,h2,.d (.int ((i:Nat):Int)),.d (Gm (Bk l)),.d (.int ((i:Nat):Int)),?_⟩
   ·rw[hc]at e;cases e;exact z h1
   ·rw[List.take_succ,hc,List.map_append];rfl
 rw[rl]at loop;have fe:Ll NL [.d (.str x),.no,.no,.no,.no,.no]=AX (MV (ID IW (AB (AJ BO (AB (nm 1) AH)) AH)) (MW 3) M9) (AX (Bw (LU (Cq (AY (Bv fun i j=>decide (i<j)) (AJ BO (AB (nm 2) AH)) (fC (.int 2))) (AY (Bv fun i j=>decide (j<i)) (AJ BO (AB (nm 2) AH)) (fC (.int 41))))) (A3 (fC .none)) BA) (Pj 2 (A3 (FD (AB (HY (nm 2) Fj (Fq (GX (fC (.int 1))))) (AB (AE Ap (nm 2) (GX (fC (.int 1)))) AH)))))) [.d (.str x),.d (.list ((Txt.split x (Tx.sep 10)).map .str)),.own (.lst []),.no,.no,.no] :=
  AF s1 (AF s2 rfl)
 have sf:MV (ID IW (AB (AJ BO (AB (nm 1) AH)) AH)) (MW 3) M9 [.d (.str x),.d (.list ((Txt.split x (Tx.sep 10)).map .str)),.own (.lst []),.no,.no,.no]=FY (MW 3) M9 (Hb 0 (rs.length+1)) [.d (.str x),.d (.list ((Txt.split x (Tx.sep 10)).map .str)),.own (.lst []),.no,.no,.no]:=by
  show(ID _ _ _).bind _=_;rw[hr];rfl
 rcases loop with ⟨⟨i,hi,q',h1,h2⟩,h3⟩|⟨h1,δ',h3,a,b,c,h4⟩
 ·rw[Nat.zero_add]at h1 h2;exact .inr ⟨fun z=>h2 (z.1 i q' h1),CB rfl (fe.trans (B4 (sf.trans h3)))⟩
 ·have ok:Yl rs.length (Bz x):=fun i q' e=>by
   have hl:=(aE.mp e).1;have:=h1 i (by lia);rw[Nat.zero_add]at this;exact bG fun z=>this ⟨q',e,z⟩
  rw[Nat.zero_add,show rs.length+1=(Bz x).length from hlen.symm,List.take_length]at h4;subst h4;have c1:LU (Cq (AY (Bv fun i j=>decide (i<j)) (AJ BO (AB (nm 2) AH)) (fC (.int 2))) (AY (Bv fun i j=>decide (j<i)) (AJ BO (AB (nm 2) AH)) (fC (.int 41)))) [.d (.str x),.d (.list ((Txt.split x (Tx.sep 10)).map .str)),.own (.lst ((Bz x).map Bb)),a,b,c]=some (decide (¬(1≤rs.length∧rs.length≤40))):=by
   have hl:∀(a b c:L),AJ BO (AB (nm 2) AH) [.d (.str x),.d (.list ((Txt.split x (Tx.sep 10)).map .str)),.d (.list ((Bz x).map Bb)),a,b,c]=some (.int ((rs.length+1:Nat):Int)):=fun a b c=>by
    show some (PyData.int ((((Bz x).map Bb).length:Nat):Int))=_;rw[List.length_map,hlen]
   show Cq _ _ [.d (.str x),.d (.list ((Txt.split x (Tx.sep 10)).map .str)),.d (.list ((Bz x).map Bb)),Ib a,Ib b,Ib c]=_;have t1:=Au (o:=Bv fun i j=>decide (i<j)) (g:=fC (.int 2)) (b:=decide (((rs.length+1:Nat):Int)<2)) (hl (Ib a) (Ib b) (Ib c)) rfl rfl;have t2:=Au (o:=Bv fun i j=>decide (j<i)) (g:=fC (.int 41)) (b:=decide ((41:Int)<((rs.length+1:Nat):Int))) (hl (Ib a) (Ib b) (Ib c)) rfl rfl;by_cases e1:(((rs.length+1:Nat):Int)<2)
   ·rw[decide_eq_true e1]at t1;rw[decide_eq_true (show ¬(1≤rs.length∧rs.length≤40) by lia)];exact HN t1
   ·rw[decide_eq_false e1]at t1;refine(Be t1 t2).trans ?_
    congr 1
    apply bJ.mpr
    lia
  by_cases e:1≤rs.length∧rs.length≤40
  ·rw[decide_eq_false (fun z=>z e)]at c1;refine .inl ⟨ok,e.1,e.2,CB rfl (fe.trans (AF (sf.trans h3) (AF (BC c1 rfl) ?_)))⟩;show(FD _ [.d (.str x),.d (.list ((Txt.split x (Tx.sep 10)).map .str)),.d (.list ((Bz x).map Bb)),a,b,c]).map Ou.rt=_;have e4:FD (AB (HY (nm 2) Fj (Fq (GX (fC (.int 1))))) (AB (AE Ap (nm 2) (GX (fC (.int 1)))) AH)) [.d (.str x),.d (.list ((Txt.split x (Tx.sep 10)).map .str)),.d (.list ((Bz x).map Bb)),a,b,c]=some (C4 rs q):=by
    refine Ff (AL (x:=.list (rs.map Bb)) ?_ (AL (x:=Bb q) ?_ rfl)) (show 2≤CG by decide)
    ·show some (PyData.list (cutD ((Bz x).map Bb) none (some (-1))))=_;rw[Sr,hq];simp
    ·show C3 ((Bz x).map Bb) (-1)=_;rw[hq,List.map_append];exact O7 _ _
   rw[e4];rfl
  ·rw[decide_eq_true e]at c1;exact .inr ⟨fun z=>e z.2,CB rfl (fe.trans (AF (sf.trans h3) (B4 (Bm c1 rfl))))⟩
theorem ZE(w:Str):DD (Dl (Tx.rd w))=true ↔ Tx.rd w≠none:=by
 cases h:Tx.rd w with
 |none=>simp[Dl,DD]
 |some p =>
  obtain⟨t,b⟩:=p;have f:=Tx.Yq h;refine⟨fun _ z=>(by cases z),fun _=>?_⟩;show(decide (1≤b)&&(FM.gi t b==1))=true;simp[f.pos,f.low]
theorem Yw(q:Str×List Str):Cn (Bb q)=true ↔ ∀w∈q.2,Tx.rd w≠none:=by
 show(q.2.map fun w=>Dl (Tx.rd w)).all DD=true ↔ _;rw[List.all_map,List.all_eq_true];exact⟨fun h w hw=>(ZE w).mp (h w hw),fun h w hw=>(ZE w).mpr (h w hw)⟩
theorem We(q:Str×List Str):F3 (Bb q)=q.2.length:=by show(List.map _ _).length=_;rw[List.length_map]
theorem Yb{rs:List (Str×List Str)}{q:Str×List Str}:(Gg rs q∧CZ (C4 rs q)=true) ↔ (Yl rs.length (rs++[q])∧1≤rs.length∧rs.length≤40):=by
 have ht:CZ (C4 rs q)=true ↔ (1≤rs.length∧rs.length≤40∧∀(i:Nat) (r:Str×List Str),rs[i]? = some r→(∀w∈r.2,Tx.rd w≠none)∧r.2.length=i)∧(∀w∈q.2,Tx.rd w≠none)∧q.2.length=rs.length:=by
  show(Ct (.list (rs.map Bb))&&(Cn (Bb q)&&decide (F3 (Bb q)=(rs.map Bb).length)))=true ↔ _;rw[Bool.and_eq_true,Bool.and_eq_true,Yw,decide_eq_true_iff,We,List.length_map];refine and_congr ?_ Iff.rfl;show(decide (1≤(rs.map Bb).length)&&(decide ((rs.map Bb).length≤40)&&IM (rs.map Bb)))=true ↔ _;rw[Bool.and_eq_true,Bool.and_eq_true,decide_eq_true_iff,decide_eq_true_iff,List.length_map];refine and_congr Iff.rfl (and_congr Iff.rfl ?_);unfold IM;rw[List.all_eq_true];have ra:∀(i:Nat) (r:Str×List Str),rs[i]? = some r→(rowAt (rs.map Bb) i=true ↔ (∀w∈r.2,Tx.rd w≠none)∧r.2.length=i):=fun i r hr=>by
   unfold rowAt;rw[List.getElem?_map,hr];show(Cn (Bb r)&&decide (F3 (Bb r)=i))=true ↔ _;rw[Bool.and_eq_true,Yw,decide_eq_true_iff,We]
  constructor
  ·intro h i r hr;have hl:=(aE.mp hr).1;exact(ra i r hr).mp (h i (bI.mpr (by rw[List.length_map];exact hl)))
  ·intro h i hi;have hi:=bI.mp hi;rw[List.length_map]at hi;exact(ra i _ (aa hi)).mpr (h i _ (aa hi))
 rw[ht];constructor
 ·rintro⟨⟨h1,h2⟩,⟨h3,h4,h5⟩,h6,h7⟩;refine⟨fun i r hr=>?_,h3,h4⟩;rw[List.getElem?_append]at hr;split at hr
  ·rename_i hi;obtain⟨a,b⟩:=h5 i r hr;exact⟨⟨by rw[if_neg (by lia)];exact h1 r (aW hr),b⟩,a⟩
  ·rename_i hi;have hl:=(aE.mp hr).1;simp at hl;have:i=rs.length:=by lia
   subst this;rw[Nat.sub_self]at hr;cases hr;exact⟨⟨by rw[if_pos rfl];exact h2,h7⟩,h6⟩
 ·rintro⟨h1,h2,h3⟩;have hl:=h1 rs.length q (by simp);have hrow:∀(i:Nat) (r:Str×List Str),rs[i]? = some r→WL rs.length i r:=fun i r hr=>h1 i r (by rw[List.getElem?_append_left (aE.mp hr).1];exact hr);refine⟨⟨fun r hr=>?_,by have:=hl.1.1;rwa [if_pos rfl]at this⟩,⟨h2,h3,fun i r hr=>⟨(hrow i r hr).2,(hrow i r hr).1.2⟩⟩,hl.2,hl.1.2⟩;obtain⟨i,hi⟩:=bH hr;have:=(hrow i r hi).1.1
  rwa [if_neg (by have:=(aE.mp hi).1;lia)]at this
theorem ne_self{x:PyData}{n:Nat}(h:Dm n x)(hn:n≤64):A0 true x x=some (.bool false):=by
 refine(if_pos ⟨h.ok hn,h.ok hn⟩).trans ?_;rw[Sq x h.1];rfl
theorem RV{q:Str×List Str}(h:∀w∈q.2,Tx.rd w≠none):CP [Bb q,Bb q]=some (.bool true):=by
 refine CB rfl ?_;show OJ [.d (Bb q),.d (Bb q),.no]=_;refine AF (BC (Be (Cw (b:=true) (CJ rfl)) (Au rfl rfl (ne_self (OT q) (by decide)))) rfl) ?_;obtain⟨δ',h1,a,rfl⟩:=Ry (fs:=D9 (nm 0)) (set:=MW 2) (F:=(AX (Bw (Dw (Cz (Jm EJ (nm 2)))) (A3 (fC (.bool false))) BA) (Bw (AY (A0 true) (CO (B3 1) (Cq (Dw (Cz (Jm HL (nm 1)))) (Cz (Jm Fv (nm 1)))) (nm 1) [none,none] (D9 (nm 2))) (B6 AH)) (A3 (fC (.bool false))) BA))) (δ:=[.d (Bb q),.d (Bb q),.no]) (xs:=q.2.map fun w=>Dl (Tx.rd w)) (fun _ δ=>∃a,δ=[.d (Bb q),.d (Bb q),a]) rfl ⟨_,rfl⟩ fun i y δ hy hv=>by
  obtain⟨a,rfl⟩:=hv;rw[List.getElem?_map]at hy;obtain⟨w,hw,rfl⟩:=aB.mp hy;cases hr:Tx.rd w with
  |none=>exact absurd hr (h w (aW hw))
  |some p =>
   refine⟨_,_,rfl,?_,.d (Dl (some p)),rfl⟩;refine AF (BC (Cw (b:=true) (CJ rfl)) rfl) (BC (Au (x:=.list []) (y:=.list []) rfl rfl (ne_self (n:=1) (GH (n:=0) fun d hd=>by cases hd) (by decide))) rfl)
 exact AF h1 rfl
abbrev Y6:List PyData→Option PyData:=NX CP
theorem bS{rs:List (Str×List Str)}{q:Str×List Str}(hr:∀r∈rs,∀w∈r.2,Tx.rd w≠none)(hq:∀w∈q.2,Tx.rd w≠none)(hl:rs.length≤40):Y6 [C4 rs q,C4 rs q]=some (.bool true):=by
 refine CB rfl ?_;show NK CP [.d (C4 rs q),.d (C4 rs q)]=_;have i0:AE Ap (nm 0) (fC (.int 0)) [.d (C4 rs q),.d (C4 rs q)]=some (.list (rs.map Bb)):=AI rfl rfl (IQ _ _);have j0:AE Ap (nm 1) (fC (.int 0)) [.d (C4 rs q),.d (C4 rs q)]=some (.list (rs.map Bb)):=AI rfl rfl (IQ _ _);have i1:AE Ap (nm 0) (fC (.int 1)) [.d (C4 rs q),.d (C4 rs q)]=some (Bb q):=AI rfl rfl (JX _ _ _);have j1:AE Ap (nm 1) (fC (.int 1)) [.d (C4 rs q),.d (C4 rs q)]=some (Bb q):=AI rfl rfl (JX _ _ _);have l2:AY (A0 true) (AJ BO (AB (nm 0) AH)) (fC (.int 2)) [.d (C4 rs q),.d (C4 rs q)]=some false:=Au (x:=.int 2) (y:=.int 2) rfl rfl ((ne_int 2 2).trans rfl);have l3:AY (A0 true) (AJ BO (AB (AE Ap (nm 0) (fC (.int 0))) AH)) (AJ BO (AB (AE Ap (nm 1) (fC (.int 0))) AH)) [.d (C4 rs q),.d (C4 rs q)]=some false:=Au (x:=.int ((rs.map Bb).length:Nat)) (y:=.int ((rs.map Bb).length:Nat)) (AR (AL i0 rfl) rfl) (AR (AL j0 rfl) rfl) ((ne_int _ _).trans (by simp));have i2:Jm Dk (AE Ap (nm 0) (fC (.int 0))) [.d (C4 rs q),.d (C4 rs q)]=some (.bool true):=by
  show(AE Ap _ _ _).bind _=_;rw[i0];rfl
 refine AF (BC (Be (Cw (b:=true) (CJ rfl)) (Be l2 (Cw (b:=true) (CJ i2)))) rfl) ?_;refine AF (BC (Be l3 (Cw (b:=true) (CJ (AR (AL i1 (AL j1 rfl)) (RV hq))))) rfl) ?_;have rg:ID IW (AB (AJ BO (AB (AE Ap (nm 1) (fC (.int 0))) AH)) AH) [.d (C4 rs q),.d (C4 rs q)]=some ((List.range rs.length).map fun k=>PyData.int (0+((k:Nat):Int))):=by
  have:=Q2 (δ:=[.d (C4 rs q),.d (C4 rs q)]) (f:=AJ BO (AB (AE Ap (nm 1) (fC (.int 0))) AH)) (j:=((rs.map Bb).length:Nat)) (AR (AL j0 rfl) rfl) (by lia) (by rw[List.length_map];lia);rw[this,Int.toNat_natCast,List.length_map];rfl
 refine CI (AR (AL (FA (zs:=List.range rs.length) (a:=fun k=>PyData.int (0+((k:Nat):Int))) (g:=fun _=>.bool true) rg (by rw[List.length_range];exact aH hl (by decide)) fun k hk=>?_) rfl) ?_)
 ·have hk:=bI.mp hk;have hg:(rs.map Bb)[k]? = some (Bb rs[k]):=by rw[List.getElem?_map,List.getElem?_eq_getElem hk];rfl
  rw[Int.zero_add];exact AR (AL (AI (AI rfl rfl (IQ _ _)) rfl (N2 hg)) (AL (AI (AI rfl rfl (IQ _ _)) rfl (N2 hg)) rfl)) (RV (hr _ (List.getElem_mem hk)))
 ·show(bools ((List.range rs.length).map fun _=>PyData.bool true)).map _=_;have:∀(l:List Nat),bools (l.map fun _=>PyData.bool true)=some (l.map fun _=>true):=fun l=>by
   induction l with
   |nil=>rfl
   |cons a l ih=>rw[List.map_cons,List.map_cons];unfold bools;rw[ih];rfl
  rw[this];simp
theorem bu{x:Str}(h:Lz x){C:Addr}{mA:List PyData→Option PyData}(ha:mA [Fc C]=some (.bool true)):Sh C (HA Wg PN C) (EF NL) mA Y6 x:=by
 obtain⟨rs,q,hq⟩:∃rs q,Bz x=rs++[q]:=by
  have:Bz x≠[]:=fun z=>Tx.Jk x 10 (List.map_eq_nil_iff.mp z);exact⟨_,_,(List.dropLast_concat_getLast this).symm⟩
 have hR:=ZU h hq C;have hs:=Yb (rs:=rs) (q:=q);rcases XG h hq with ⟨h1,h2,h3,h4⟩|⟨h1,h4⟩
 ·rw[hq]at h1;rw[if_pos (hs.mpr ⟨h1,h2,h3⟩)]at hR;refine .inr ⟨_,_,hR,h4,bS (fun r hr=>?_) (h1 rs.length q (by simp)).2 h3⟩;obtain⟨i,hi⟩:=bH hr;exact(h1 i r (by rw[List.getElem?_append_left (aE.mp hi).1];exact hi)).2
 ·rw[hq]at h1;rw[if_neg fun z=>h1 (hs.mp z)]at hR;exact .inl ⟨hR,h4,ha⟩
def EO(r:Rat):Str:=Tx.Gk r.num (r.den:Int)
def FO(h:Str)(r:List Rat):Str:=Str.join (Tx.sep 32) (h::r.map EO)
def Ik(t:Tb):List Str:=t.rs.map (FO Bj)++[FO CA t.ls]
def Lit(r:Rat):Prop:=r.num.natAbs<10^41∧r.den<10^41
theorem ZL{r:Rat}(h:Lit r):(EO r).length≤90:=by
 unfold EO;have l1:=Gh h.1;have l2:=Gh (i:=(r.den:Int)) (by simpa using h.2);rw[BQ,Tx.Dd,List.length_append];split
 ·simp;lia
 ·simp;lia
theorem Ud{r:Rat}(h:Lit r):Bd [Bt r]=some (.str (EO r)):=by
 have h2:((r.den:Int)).natAbs<10^41:=by simpa using h.2
 have st:∀ {i:Int},i.natAbs<10^41→LI [.int i]=some (.str (Tx.Bg (Tx.BS i))):=fun {i} hi=>by
  have e:Str.ofString (toString i)=Tx.Bg (Tx.BS i):=Tx.BW (by rw[Tx.toS,Tx.Am]);rw[←e];exact if_pos (PL hi)
 have len:∀l:List Nat,(Tx.Bg l).length=l.length:=fun l=>by rw[BQ,Tx.Am]
 have l1:=Gh h.1;have l2:=Gh h2;have add:∀ {a b:Str},a.length+b.length≤1000→Az (.str a) (.str b)=some (.str (a++b)):=fun {a b} hl=>by
  have e:Ml (.str a) (.str b)=some (.str (a++b)):=if_pos hl;show D7 M6 Ml (.str a) (.str b)=_;unfold D7;rw[e];rfl
 have u1:(Str.ofString "/").length=1:=by decide +kernel
 have u0:(Str.ofString "").length=0:=by decide +kernel
 refine CB rfl (CI ?_);have i0:∀δ,AE Ap (nm 0) (fC (.int 0)) (.d (Bt r)::δ)=some (.int r.num):=fun δ=>AI rfl rfl (IQ _ _);have i1:∀δ,AE Ap (nm 0) (fC (.int 1)) (.d (Bt r)::δ)=some (.int (r.den:Int)):=fun δ=>AI rfl rfl (JX _ _ _);show AE Az _ _ [.d (Bt r)]=_;have sl:AE Az (fC (.str (Str.ofString "/"))) (AJ LI (AB (AE Ap (nm 0) (fC (.int 1))) AH)) [.d (Bt r)]=some (.str (Str.ofString "/" ++ Tx.Bg (Tx.BS (r.den:Int)))):=AI rfl (AR (AL (i1 _) rfl) (st h2)) (add (by rw[len,u1];lia));have ls:B6 (AB (AE Az (fC (.str (Str.ofString "/"))) (AJ LI (AB (AE Ap (nm 0) (fC (.int 1))) AH))) (AB (fC (.str (Str.ofString ""))) AH)) [.d (Bt r)]=some (.list [.str (Str.ofString "/" ++ Tx.Bg (Tx.BS (r.den:Int))),.str (Str.ofString "")]):=by
  exact JC (AL sl rfl) (show 2≤1000 by decide)
 by_cases e:(r.den:Int)=1
 ·refine(AI (AR (AL (i0 _) rfl) (st h.1)) (AI ls (y:=.int 1) (AR (AL (AI (i1 _) rfl ((eq_int _ _).trans (by rw[e]))) rfl) rfl) (JX _ _ _)) (add (by rw[len,u0];lia))).trans ?_;refine aM some (aM PyData.str (Tx.BW ?_));unfold EO;rw[Tx.app_list,Tx.Am,Tx.Dd,if_pos e];rfl
 ·have hb:((r.den:Int)==1)=false:=by simpa using e
  refine(AI (AR (AL (i0 _) rfl) (st h.1)) (AI ls (y:=.int 0) (AR (AL (AI (i1 _) rfl ((eq_int _ _).trans (by rw[hb]))) rfl) rfl) (IQ _ _)) (add ?_)).trans ?_
  ·have:(Str.ofString "/" ++ Tx.Bg (Tx.BS (r.den:Int))).length=1+(Tx.BS (r.den:Int)).length:=by
    rw[BQ,Tx.app_list,Tx.Am,List.length_append];rfl
   rw[len,this];lia
  ·refine aM some (aM PyData.str (Tx.BW ?_));unfold EO;rw[Tx.app_list,Tx.app_list,Tx.Am,Tx.Am,Tx.Dd,if_neg e];rfl
theorem strs_map:∀ys:List Str,strsOf (ys.map .str)=some ys
 |[]=>rfl
 |y::ys=>by rw[List.map_cons,strsOf,strs_map ys];rfl
theorem Ve{c:Nat}:∀ {ys:List Str},(∀y∈ys,y.length≤c)→(ys.map (·.length)).sum≤c*ys.length
 |[],_=>by simp
 |y::ys,h=>by
  have h1:=Ve fun z hz=>h z (.tail _ hz);have h2:=h y (.head _);rw[List.map_cons,List.sum_cons,List.length_cons,Nat.mul_succ];lia
theorem Ja{s:Str}{ys:List Str}(hs:s.length≤1)(h:∀y∈ys,y.length≤9000)(hl:ys.length≤1000):Cj (.str s) (.list (ys.map .str))=some (.str (Str.join s ys)):=by
 show(strsOf (ys.map .str)).bind _=_;rw[strs_map];have:=Ve h;have h3:ys.length*s.length≤ys.length*1:=Nat.mul_le_mul_left _ hs;refine(if_pos (by lia)).trans ?_;exact aM (fun z=>some (PyData.str z)) (StrLaws.glued_eq_join s ys)
theorem QX{δ:Dv}{hd:Str}{r:List Rat}{f:Dv→Option PyData}(hh:hd.length≤10)(hf:f δ=some (.list (r.map fun q=>.str (EO q))))(hr:∀q∈r,Lit q)(hl:r.length≤40):AE Cj (fC (.str (Str.ofString " "))) (AE Az (B6 (AB (fC (.str hd)) AH)) f) δ=some (.str (FO hd r)):=by
 have e:HP (.list [.str hd]) (.list (r.map fun q=>.str (EO q)))=some (.list ((hd::r.map EO).map .str)):=(if_pos (by rw[List.length_map];show 1+r.length≤1000;lia)).trans (by rw[List.map_cons,List.map_map];rfl);refine AI rfl (AI (x:=.list [.str hd]) rfl hf (z:=some (.list ((hd::r.map EO).map .str))) ?_) ?_
 ·show D7 HP _ (.list [.str hd]) (.list (r.map fun q=>.str (EO q)))=_;unfold D7;rw[e]
 ·rw[OL];refine Ja (by decide) (fun y hy=>?_) (by rw[List.length_cons,List.length_map];lia);rcases aL.mp hy with rfl|hy
  ·lia
  ·obtain⟨q,hq,rfl⟩:=aR.mp hy;have:=ZL (hr q hq)
   lia
structure il(t:Tb):Prop where
 rows:∀r∈t.rs,r.length≤5∧∀q∈r,Lit q
 last:t.ls.length≤5∧∀q∈t.ls,Lit q
 Ej:t.rs.length≤5
theorem Xh{t:Tb}(h:il t):Cr Bd [CV t]=some (.list ((Ik t).map .str)):=by
 refine CB rfl ?_;show MC Bd [.d (CV t),.no]=_;have i0:AE Ap (nm 0) (fC (.int 0)) [.d (CV t),.no]=some (.list (t.rs.map Dx)):=AI rfl rfl (IQ _ _);refine AF (AZ (FA (zs:=t.rs) (a:=Dx) (g:=fun r=>.str (FO Bj r)) (JF i0 rfl) (aH h.Ej (by decide)) fun r hr=>QX (by decide +kernel) (FA (zs:=r) (a:=Bt) rfl (aH (h.rows r hr).1 (by decide)) fun q hq=>AR (AL rfl rfl) (Ud ((h.rows r hr).2 q hq))) (h.rows r hr).2 (by have:=(h.rows r hr).1;lia))) ?_;have i1:∀δ,AE Ap (nm 0) (fC (.int 1)) (.d (CV t)::δ)=some (.list (t.ls.map Bt)):=fun δ=>AI rfl rfl (JX _ _ _);have la:=QX (δ:=[.d (CV t),.d (.list (t.rs.map fun r=>.str (FO Bj r)))]) (hd:=CA) (by decide +kernel) (FA (fr:=[none,none]) (i:=1) (f:=AJ Bd (AB (nm 1) AH)) (zs:=t.ls) (a:=Bt) (g:=fun q=>.str (EO q)) (JF (i1 _) rfl) (aH h.last.1 (by decide)) fun q hq=>AR (AL rfl rfl) (Ud (h.last.2 q hq))) h.last.2 (by have:=h.last.1;lia);refine CI (AI rfl (y:=.list [.str (FO CA t.ls)]) ?_ ?_)
 ·exact JC (AL la rfl) (show 1≤1000 by decide)
 ·have e:HP (.list (t.rs.map fun r=>.str (FO Bj r))) (.list [.str (FO CA t.ls)])=some (.list ((Ik t).map .str)):=(if_pos (by rw[List.length_map];have:=h.Ej;show t.rs.length+1≤1000;lia)).trans (by unfold Ik;rw[List.map_append,List.map_map];rfl);show D7 HP _ _ _=_;unfold D7;rw[e]
def Bu(ys:List Str):Nat:=(ys.map fun y=>y.length+1).sum
theorem FC{x:Str}:A5 x=true ↔ ∀c∈x.cps.toList,c<128:=⟨fun h c hc=>ag (ae.mp h c hc),fun h=>ae.mpr fun c hc=>ao (h c hc)⟩
theorem Rj{c:Nat}:∀ {ps:List Str},ps.length≤(Str.join (Tx.sep c) ps).length+1
 |[]=>bK _
 |[p]=>by rw[List.length_singleton];lia
 |p::q::r=>by
  have:=Rj (c:=c) (ps:=q::r);rw[BQ]at this ⊢;rw[Tx.DZ,List.length_append,List.length_cons];simp only[List.length_cons]at this ⊢
  lia
theorem Hh{c:Nat}:∀ {ps:List Str},ps≠[]→(Str.join (Tx.sep c) ps).length+1=Bu ps
 |[],h=>absurd rfl h
 |[p],_=>by show p.length+1=_;simp[Bu]
 |p::q::r,_=>by
  have:=Hh (c:=c) (ps:=q::r) (by simp);rw[BQ]at this ⊢;rw[Tx.DZ,List.length_append,List.length_cons];have e:Bu (p::q::r)=p.length+1+Bu (q::r):=by simp[Bu]
  rw[e,BQ p];lia
theorem join_le{c:Nat}{ps:List Str}:(Str.join (Tx.sep c) ps).length≤Bu ps:=by
 cases ps with
 |nil=>exact bK _
 |cons p r=>have:=Hh (c:=c) (ps:=p::r) (by simp);lia
theorem Jl{c:Nat}(hc:c<128):∀ {ps:List Str},(∀p∈ps,A5 p=true)→A5 (Str.join (Tx.sep c) ps)=true
 |[],_=>rfl
 |[p],h=>h p (.head _)
 |p::q::r,h=>by
  have h1:=FC.mp (Jl hc (ps:=q::r) fun z hz=>h z (.tail _ hz));have h2:=FC.mp (h p (.head _));refine FC.mpr fun d hd=>?_;rw[Tx.DZ]at hd;rcases aT.mp hd with hd|hd
  ·exact h2 d hd
  ·rcases aL.mp hd with rfl|hd
   ·exact hc
   ·exact h1 d hd
theorem MI(x:Str)(c:Nat):(Txt.split x (Tx.sep c)).length≤x.length+1:=by
 have:=Rj (c:=c) (ps:=Txt.split x (Tx.sep c))
 rwa [StrLaws.join_split]at this
theorem Ww{x:Str}(ha:A5 x=true)(hl:x.length≤600):FX x:=⟨ha,by lia,Nat.le_trans List.count_le_length (by rw[←BQ];exact hl)⟩
theorem Ss{x:Str}(ha:A5 x=true)(hl:x.length≤600):Lz x:=by
 have w:=Ww ha hl;refine⟨by lia,by rw[Bz,List.length_map];have:=MI x 10;lia,fun q hq=>?_⟩;obtain⟨l,hl',rfl⟩:=aR.mp hq;have wl:=IL w (EI hl');have e:=PY l;have f:=MI l 32;have:=MA hl';rw[e,List.length_cons]at f;exact⟨by lia,IL wl (EI (c:=32) (by rw[e];exact .head _)),fun z hz=>IL wl (EI (c:=32) (by rw[e];exact .tail _ hz))⟩
theorem Xw{ys:List Str}(ha:∀y∈ys,A5 y=true)(hl:Bu ys≤600):Lz (Str.join (Tx.sep 10) ys):=Ss (Jl (by decide) ha) (aH join_le hl)
theorem SM{k:Nat}{r:Rat}(h1:r.num.natAbs<10^(k+1))(h2:r.den<10^(k+1)):(EO r).length≤2*k+4:=by
 unfold EO;have l1:=Tx.PV r.num;have l2:=OG k _ h1;have l3:=OG k _ h2;have e:Tx.BS (r.den:Int)=Tx.dg r.den:=by unfold Tx.BS;rw[if_neg (by lia)];rfl
 rw[BQ,Tx.Dd,List.length_append];split
 ·rw[List.length_nil];lia
 ·rw[List.length_cons,e];lia
theorem jE{q:Rat}(h:FM.Fits q 3):(EO q).length≤4:=SM (k:=0) (Nat.lt_trans h.1 (by decide)) (Nat.lt_trans h.2 (by decide))
theorem Yx{q:Rat}(h:FM.Fits q 60):(EO q).length≤40:=SM (k:=18) (Nat.lt_trans h.1 (by decide)) (Nat.lt_trans h.2 (by decide))
theorem dD{q:Rat}(h:Lit q):(EO q).length≤84:=SM (k:=40) h.1 h.2
theorem bc(q:Rat):A5 (EO q)=true:=UY _ _
theorem SA{q:Rat}{n:Nat}(h:FM.Fits q n)(hn:n≤120):Lit q:=by
 have:=h.mono hn;exact⟨Nat.lt_trans this.1 (by decide),Nat.lt_trans this.2 (by decide)⟩
theorem sum_set{α:Type}{f:α→Nat}{x:α}{c d:Nat}(hx:f x≤d)(hc:c≤d):∀ {l:List α} {i:Nat},l≠[]→(∀y∈l,f y≤c)→((l.set i x).map f).sum+c≤c*l.length+d
 |[],_,h,_=>absurd rfl h
 |y::l,0,_,h=>by
  have:∀ {l:List α},(∀y∈l,f y≤c)→(l.map f).sum≤c*l.length:=fun {l}=>by
   induction l with
   |nil=>intro _;simp
   |cons z l ih=>intro h;have:=ih fun y hy=>h y (.tail _ hy);have:=h z (.head _);rw[List.map_cons,List.sum_cons,List.length_cons,Nat.mul_succ];lia
  have:=this fun z hz=>h z (.tail _ hz);rw[List.set_cons_zero,List.map_cons,List.sum_cons,List.length_cons,Nat.mul_succ];lia
 |y::l,i+1,_,h=>by
  have hy:=h y (.head _);rw[List.set_cons_succ,List.map_cons,List.sum_cons,List.length_cons,Nat.mul_succ];by_cases e:l=[]
  ·subst e;simp;lia
  ·have:=sum_set hx hc (l:=l) (i:=i) e fun z hz=>h z (.tail _ hz);lia
theorem Xy{f:List Rat→Nat}:∀ {rs:List (List Rat)},rs.length≤5→(∀(i:Nat) r,rs[i]? = some r→f r≤5+5*i)→(rs.map f).sum≤75
 |[],_,_=>by simp
 |[r0],_,h=>by
  have h0:=h 0 r0 rfl;simp only[List.map_cons,List.map_nil,List.sum_cons,List.sum_nil];lia
 |[r0,r1],_,h=>by
  have h0:=h 0 r0 rfl;have h1:=h 1 r1 rfl;simp only[List.map_cons,List.map_nil,List.sum_cons,List.sum_nil];lia
 |[r0,r1,r2],_,h=>by
  have h0:=h 0 r0 rfl;have h1:=h 1 r1 rfl;have h2:=h 2 r2 rfl;simp only[List.map_cons,List.map_nil,List.sum_cons,List.sum_nil];lia
 |[r0,r1,r2,r3],_,h=>by
  have h0:=h 0 r0 rfl;have h1:=h 1 r1 rfl;have h2:=h 2 r2 rfl;have h3:=h 3 r3 rfl;simp only[List.map_cons,List.map_nil,List.sum_cons,List.sum_nil];lia
 |[r0,r1,r2,r3,r4],_,h=>by
  have h0:=h 0 r0 rfl;have h1:=h 1 r1 rfl;have h2:=h 2 r2 rfl;have h3:=h 3 r3 rfl;have h4:=h 4 r4 rfl;simp only[List.map_cons,List.map_nil,List.sum_cons,List.sum_nil];lia
 |_::_::_::_::_::_::_,h,_=>by simp at h
structure Dr(t:Tb):Prop where
 ok:t.Ok 5
 rows:∀r∈t.rs,∀q∈r,FM.Fits q 3
 last:∀q∈t.ls,Lit q
 sum:(t.ls.map fun q=>(EO q).length+1).sum≤249
theorem Dr.Kg{t:Tb}(h:Dr t):il t :=
 ⟨fun r hr=>⟨by have:=h.ok.jY r hr;have:=h.ok.most;lia,fun q hq=>SA (h.rows r hr q hq) (by decide)⟩,⟨by have:=h.ok.last;have:=h.ok.most;lia,h.last⟩,h.ok.most⟩
theorem Tz{hd:Str}{r:List Rat}:(FO hd r).length=hd.length+(r.map fun q=>(EO q).length+1).sum:=by
 have:=Hh (c:=32) (ps:=hd::r.map EO) (by simp);have e:Bu (hd::r.map EO)=hd.length+1+(r.map fun q=>(EO q).length+1).sum:=by rw[Bu,List.map_cons,List.sum_cons,List.map_map];rfl
 unfold FO
 lia
theorem Oy{α:Type}{f:α→Nat}{c:Nat}:∀ {l:List α},(∀y∈l,f y≤c)→(l.map f).sum≤c*l.length
 |[],_=>by simp
 |z::l,h=>by have:=Oy fun y hy=>h y (.tail _ hy);have:=h z (.head _);rw[List.map_cons,List.sum_cons,List.length_cons,Nat.mul_succ];lia
structure Ls(ys:List Str):Prop where
 asc:∀y∈ys,A5 y=true
 Bu:Bu ys≤330
 len:∀y∈ys,y.length≤254
 two:2≤ys.length
 most:ys.length≤6
theorem Dr.lines{t:Tb}(h:Dr t):Ls (Ik t):=by
 have u3:Bj.length=3:=by decide +kernel
 have u4:CA.length=4:=by decide +kernel
 have hr:∀(i:Nat) r,t.rs[i]? = some r→(FO Bj r).length+1≤4+5*i:=fun i r e=>by
  have:=Oy (c:=5) (f:=fun q:Rat=>(EO q).length+1) (l:=r) fun q hq=>by have:=jE (h.rows r (aW e) q hq);lia
  rw[h.ok.row i r e]at this;rw[Tz,u3];lia
 have hl:(FO CA t.ls).length≤253:=by rw[Tz,u4];have:=h.sum;lia
 have m1:=h.ok.one;have m5:=h.ok.most;have asc:∀ {hd:Str} {r:List Rat},A5 hd=true→A5 (FO hd r)=true:=fun {hd r} a=>Jl (by decide) fun p hp=>by
  rcases aL.mp hp with rfl|hp
  ·exact a
  ·obtain⟨q,_,rfl⟩:=aR.mp hp;exact bc q
 refine⟨fun y hy=>?_,?_,fun y hy=>?_,?_,?_⟩
 ·rcases aT.mp hy with hy|hy
  ·obtain⟨r,_,rfl⟩:=aR.mp hy;exact asc (by decide +kernel)
  ·rw[List.mem_singleton.mp hy];exact asc (by decide +kernel)
 ·rw[Bu,Ik,List.map_append,List.sum_append,List.map_map];have:=Xy (rs:=t.rs) (f:=(fun y:Str=>y.length+1) ∘ FO Bj) m5 fun i r e=>by have:=hr i r e;show(FO Bj r).length+1≤_;lia
  simp only[List.map_cons,List.map_nil,List.sum_cons,List.sum_nil]
  lia
 ·rcases aT.mp hy with hy|hy
  ·obtain⟨r,hr',rfl⟩:=aR.mp hy;obtain⟨i,hi⟩:=bH hr';have:=hr i r hi;have:=(aE.mp hi).1
   lia
  ·rw[List.mem_singleton.mp hy];lia
 ·rw[Ik,List.length_append,List.length_map,List.length_singleton];lia
 ·rw[Ik,List.length_append,List.length_map,List.length_singleton];lia
section
variable{δ:Dv}{f g:Dv→Option PyData}{a b:Int}
theorem C0(h:f δ=some (.int a)):AY (A0 false) f (fC (.int b)) δ=some (a==b):=Au h rfl (eq_int a b)
theorem EA(h:f δ=some (.int a))(h2:g δ=some (.int b))(hb:b≠0):AE A9 f g δ=some (.int (a.fmod b)):=AI h h2 (if_pos hb)
theorem L9(h:f δ=some (.int a))(hb:b≠0∧HZ 9000 b=true):AE D1 f (fC (.int b)) δ=some (.int (a.fdiv b)):=AI h rfl (if_pos hb)
theorem SY(h:f δ=some (.int a)):AY (Bv fun i j=>decide (j<i)) f (fC (.int b)) δ=some (decide (b<a)):=Au h rfl rfl
theorem Yy(h:f δ=some (.int a)):AY (Bv fun i j=>decide (i<j)) f (fC (.int b)) δ=some (decide (a<b)):=Au h rfl rfl
theorem Iz(a:Int){n:Nat}(hn:0<n):∃i:Nat,i<n∧a.fmod (n:Int)=((i:Nat):Int):=by
 have e:=Int.fmod_eq_emod_of_nonneg a (show(0:Int)≤n by lia);have:=Int.emod_nonneg a (show(n:Int)≠0 by lia);have:=Int.emod_lt_of_pos a (show(0:Int)<n by lia);exact⟨(a.fmod n).toNat,by lia,by lia⟩
theorem Y3{n k:Nat}(h:k<n):HU n ((k:Nat):Int)=some k:=by
 unfold HU;rw[if_pos (by lia),if_pos (by lia)];rfl
theorem W3{i k:Nat}{y:PyData}{xs:List PyData}(h1:f δ=some y)(h2:g δ=some (.int ((k:Nat):Int)))(h3:ow i δ=some xs)(hk:k<xs.length):Pd i f g δ=some (.nx (δ.set i (.own (.lst (xs.set k y))))):=by
 show(f δ).bind _=_;rw[h1,Option.bind_some,h2,Option.bind_some,h3,Option.bind_some];show(HU xs.length _).map _=_;rw[Y3 hk];rfl
theorem Wx{i k:Nat}{y:PyData}{xs:List PyData}(h1:f δ=some y)(h2:g δ=some (.int ((k:Nat):Int)))(h3:ow i δ=some xs)(hk:k≤xs.length)(hx:xs.length<1000):Qs i g f δ=some (.nx (δ.set i (.own (.lst (xs.take k++y::xs.drop k))))):=by
 show(g δ).bind _=_;rw[h2,Option.bind_some,h1,Option.bind_some,h3,Option.bind_some];exact if_pos ⟨by lia,by lia,hx⟩
end
theorem Tw(a b:List Str):Bu (a++b)=Bu a+Bu b:=by simp[Bu]
theorem M5{ys:List Str}{i:Nat}{y z:Str}(h:ys[i]? = some y):Bu (ys.set i z)+(y.length+1)=Bu ys+(z.length+1):=by
 induction ys generalizing i with
 |nil=>simp at h
 |cons u ys ih =>
  cases i with
  |zero=>cases h;rw[List.set_cons_zero];simp only[Bu,List.map_cons,List.sum_cons];lia
  |succ i=>have:=ih (i:=i) (by simpa using h);rw[List.set_cons_succ];simp only[Bu,List.map_cons,List.sum_cons]at this ⊢;lia
theorem Tp(ys:List Str)(k:Nat)(y:Str):Bu (ys.take k++y::ys.drop k)=Bu ys+(y.length+1):=by
 have:Bu ys=Bu (ys.take k)+Bu (ys.drop k):=by rw[←Tw,List.take_append_drop]
 rw[Tw,this];show _+Bu (y::_)=_;simp only[Bu,List.map_cons,List.sum_cons];lia
theorem T4:∀(ys:List Str) (k:Nat),(ys.map PyData.str).eraseIdx k=(ys.eraseIdx k).map .str
 |[],_=>by simp
 |y::ys,0=>rfl
 |y::ys,k+1=>by simp only[List.map_cons,List.eraseIdx_cons_succ,T4 ys k]
theorem TR:∀(ys:List Str) (k:Nat),Bu (ys.eraseIdx k)≤Bu ys
 |[],_=>by simp
 |y::ys,0=>by simp only[List.eraseIdx_cons_zero,Bu,List.map_cons,List.sum_cons];lia
 |y::ys,k+1=>by have:=TR ys k;simp only[List.eraseIdx_cons_succ,Bu,List.map_cons,List.sum_cons]at this ⊢;lia
def HG:List Str:=[Str.ofString "",Str.ofString "0",Str.ofString "-0",Str.ofString "00",Str.ofString "01",Str.ofString "1/1",Str.ofString "2/4",Str.ofString "0/3",Str.ofString "1/0",Str.ofString "-1/2",Str.ofString "+",Str.ofString "row",Str.ofString "last",Str.ofString "x",Str.ofString "=",Str.ofString "1*x"] ++
 [FG (Str.ofString "9") 40,FG (Str.ofString "9") 41,Str.ofString "1/" ++ FG (Str.ofString "3") 40,Str.ofString "1*y*x",Str.ofString "1*x*y",Str.ofString "0*x",Str.ofString "y",Str.ofString "+1",Str.ofString "1/-2",Str.ofString "--1"]
theorem WU:HG.length=26∧∀w∈HG,A5 w=true∧w.length≤42:=by decide +kernel
theorem XS{ys:List Str}(h:Ls ys)(n m:Int)(h7:6<n.fmod 16):∃zs:List Str,BU [.list (ys.map .str),.int n,.int m]=some (.list (zs.map .str))∧(∀z∈zs,A5 z=true)∧Bu zs≤600:=by
 have l2:=h.two;have l6:=h.most;have lt:=h.Bu;obtain⟨i,hi,ei⟩:=Iz (n.fdiv 16) (n:=ys.length) (by lia);obtain⟨j,hj,ej⟩:=Iz m (n:=ys.length) (by lia);have gi:ys[i]? = some ys[i]:=aa hi;have gj:ys[j]? = some ys[j]:=aa hj;have mi:(ys.map PyData.str)[i]? = some (.str ys[i]):=by rw[List.getElem?_map,gi];rfl
 have mj:(ys.map PyData.str)[j]? = some (.str ys[j]):=by rw[List.getElem?_map,gj];rfl
 have yi:=h.len _ (List.getElem_mem hi);have yj:=h.len _ (List.getElem_mem hj);have ai:=h.asc _ (List.getElem_mem hi);have aj:=h.asc _ (List.getElem_mem hj);have lm:(ys.map PyData.str).length=ys.length:=List.length_map _;have ln:∀r:Dv,E4 0 (L.own (.lst (ys.map .str))::r)=some (.int ((ys.length:Nat):Int)):=fun r=>by
  show some (PyData.int (((ys.map PyData.str).length:Nat):Int))=_;rw[lm]
 let D:Dv:=[.own (.lst (ys.map .str)),.d (.int n),.d (.int m),.d (.int ((i:Nat):Int)),.d (.int ((j:Nat):Int)),.no,.no]
 have m16:AE A9 (nm 1) (fC (.int 16)) D=some (.int (n.fmod 16)):=EA rfl rfl (by decide);have e3:AE A9 (AE D1 (nm 1) (fC (.int 16))) (E4 0) [.own (.lst (ys.map .str)),.d (.int n),.d (.int m),.no,.no,.no,.no]=some (.int ((i:Nat):Int)):=by
  rw[←ei];exact EA (L9 rfl ⟨by decide,by decide⟩) (ln _) (by lia)
 have e4:AE A9 (nm 2) (E4 0) [.own (.lst (ys.map .str)),.d (.int n),.d (.int m),.d (.int ((i:Nat):Int)),.no,.no,.no]=some (.int ((j:Nat):Int)):=by
  rw[←ej];exact EA rfl (ln _) (by lia)
 have ix:∀r:Dv,Oi 0 (nm 3) (L.own (.lst (ys.map .str))::L.d (.int n)::L.d (.int m)::L.d (.int ((i:Nat):Int))::r)=some (.str ys[i]):=fun r=>N2 mi;by_cases c7:n.fmod 16=7
 ·refine⟨ys.take j++ys[i]::ys.drop j,JH rfl (AF rfl (AF (AZ e3) (AF (AZ e4) (AF (Bm ((C0 m16).trans (by rw[c7];rfl)) (Wx (ix _) rfl rfl (by lia) (by lia)))
   (AF (BC ((C0 (EA rfl rfl (by decide))).trans (by rw[c7];rfl)) rfl) (AF (BC ((C0 (EA rfl rfl (by decide))).trans (by rw[c7];rfl)) rfl) (AF (BC ((SY (EA rfl rfl (by decide))).trans (by rw[c7];rfl)) rfl) ?_))))))),fun z hz=>?_,?_⟩
  ·show some (Ou.rn _)=_;rw[List.map_append,List.map_cons,List.map_take,List.map_drop]
  ·rcases aT.mp hz with hz|hz
   ·exact h.asc z (bC hz)
   ·rcases aL.mp hz with rfl|hz
    ·exact ai
    ·exact h.asc z (ar hz)
  ·rw[Tp];lia
 by_cases c8:n.fmod 16=8
 ·refine⟨(ys.set i ys[j]).set j ys[i],JH rfl (AF rfl (AF (AZ e3) (AF (AZ e4) (AF (BC ((C0 m16).trans (by rw[c8];rfl)) rfl)
   (AF (δ':=D.set 0 (.own (.lst (((ys.map PyData.str).set i (.str ys[j])).set j (.str ys[i]))))) (Bm ((C0 m16).trans (by rw[c8];rfl)) ?_) (AF (BC ((C0 (EA rfl rfl (by decide))).trans (by rw[c8];rfl)) rfl) (AF (BC ((SY (EA rfl rfl (by decide))).trans (by rw[c8];rfl)) rfl) ?_))))))),fun z hz=>?_,?_⟩
  ·show(if(0:Int)≤((i:Nat):Int)∧(0:Int)≤((j:Nat):Int) then(match (ys.map PyData.str)[((i:Nat):Int).toNat]?,(ys.map PyData.str)[((j:Nat):Int).toNat]? with|some u,some v=>some (Ou.nx (D.set 0 (.own (.lst (((ys.map PyData.str).set ((i:Nat):Int).toNat v).set ((j:Nat):Int).toNat u)))))|_,_=>none) else none)=_;rw[if_pos ⟨by lia,by lia⟩,Int.toNat_natCast,Int.toNat_natCast,mi,mj]
  ·show some (Ou.rn _)=_;rw[List.map_set,List.map_set]
  ·rcases bA hz with hz|rfl
   ·rcases bA hz with hz|rfl
    ·exact h.asc z hz
    ·exact aj
   ·exact ai
  ·have t1:=M5 (z:=ys[j]) gi;have gq:(ys.set i ys[j])[j]? = some ys[j]:=by
    rw[List.getElem?_set];split
    ·first|rfl|rw[if_pos (by lia)]
    ·exact gj
   have t2:=M5 (z:=ys[i]) gq
   lia
 by_cases c9:n.fmod 16=9
 ·refine⟨ys.eraseIdx i,JH rfl (AF rfl (AF (AZ e3) (AF (AZ e4) (AF (BC ((C0 m16).trans (by rw[c9];rfl)) rfl)
   (AF (BC ((C0 m16).trans (by rw[c9];rfl)) rfl) (AF (δ':=D.set 0 (.own (.lst ((ys.map PyData.str).eraseIdx i)))) (Bm ((C0 m16).trans (by rw[c9];rfl)) ?_) (AF (BC ((SY (EA rfl rfl (by decide))).trans (by rw[c9];rfl)) rfl) ?_))))))),fun z hz=>h.asc z (List.mem_of_mem_eraseIdx hz),?_⟩
  ·show(if(0:Int)≤((i:Nat):Int)∧((i:Nat):Int).toNat<(ys.map PyData.str).length∧(ys.map PyData.str).length<1000 then some (Ou.nx (D.set 0 (.own (.lst ((ys.map PyData.str).eraseIdx ((i:Nat):Int).toNat))))) else none)=_;rw[if_pos ⟨by lia,by lia,by lia⟩,Int.toNat_natCast]
  ·show some (Ou.rn _)=_;exact aM (fun z=>some (Ou.rn z)) (T4 _ _)
  ·have:=TR ys i;lia
 have c10:9<n.fmod 16:=by lia
 have f26:=WU.1;obtain⟨p,hp,ep⟩:=Iz (m.fdiv 1000) (n:=26) (by decide);have hp':HG[p]? = some HG[p]:=aa (by lia);obtain⟨aw,lw⟩:=WU.2 _ (aW hp')
 let ws:=Txt.split ys[i] (Tx.sep 32)
 have wn:ws≠[]:=Tx.Jk _ _;have wl:ws.length≤255:=by have:=MI ys[i] 32;show(Txt.split _ _).length≤_;lia
 have wp:0<ws.length:=List.length_pos_iff.mpr wn;have wm:(ws.map PyData.str).length=ws.length:=List.length_map _;have wt:Bu ws=ys[i].length+1:=by rw[←Hh (c:=32) wn,StrLaws.join_split]
 have wa:∀z∈ws,A5 z=true:=fun z hz=>FC.mpr fun c hc=>FC.mp ai c ((EI hz).subset hc);have fin:∀us:List Str,(∀z∈us,A5 z=true)→Bu us≤Bu ws+43→us.length≤256 →
   ∃zs:List Str,Pj 5 (Pd 0 (AE Cj (fC (.str (Str.ofString " "))) (nm 5)) (nm 3)) [.own (.lst (ys.map .str)),.d (.int n),.d (.int m),.d (.int ((i:Nat):Int)),.d (.int ((j:Nat):Int)),.own (.lst (us.map .str)),.d (.list (HG.map .str))]=some (.nx [.own (.lst (zs.map .str)),.d (.int n),.d (.int m),.d (.int ((i:Nat):Int)),.d (.int ((j:Nat):Int)),.d (.list (us.map .str)),.d (.list (HG.map .str))])∧(∀z∈zs,A5 z=true)∧Bu zs≤600:=fun us ha ht hl=>by
  have u9:∀y∈us,y.length≤9000:=fun y hy=>by
   have:∀ {l:List Str},y∈l→y.length+1≤Bu l:=fun {l}=>by
    induction l with
    |nil=>intro z;cases z
    |cons u l ih =>
     intro z;simp only[Bu,List.map_cons,List.sum_cons];rcases aL.mp z with rfl|z
     ·lia
     ·have:=ih z;simp only[Bu]at this;lia
   have:=this hy;lia
  refine⟨ys.set i (Str.join (Tx.sep 32) us),(W3 (k:=i) (AI rfl rfl (Ja (by decide) u9 (by lia))) rfl rfl (by lia)).trans ?_,fun z hz=>?_,?_⟩
  ·rw[OL,List.map_set];rfl
  ·rcases bA hz with hz|rfl
   ·exact h.asc z hz
   ·exact Jl (by decide) ha
  ·have t1:=M5 (z:=Str.join (Tx.sep 32) us) gi;have:=join_le (c:=32) (ps:=us)
   lia
 have hodd:∀ {r:Dv} {g:Dv→Option PyData} {z:L},g (L.own (.lst (ys.map .str))::L.d (.int n)::L.d (.int m)::L.d (.int ((i:Nat):Int))::L.d (.int ((j:Nat):Int))::z::L.d (.list (HG.map .str))::r)=some (.int ((p:Nat):Int)) →
   AE Ap (nm 6) g (L.own (.lst (ys.map .str))::L.d (.int n)::L.d (.int m)::L.d (.int ((i:Nat):Int))::L.d (.int ((j:Nat):Int))::z::L.d (.list (HG.map .str))::r)=some (.str HG[p]):=fun e=>AI rfl e (N2 (by rw[List.getElem?_map,hp'];rfl))
 have e1000:∀δ:Dv,nm 2 δ=some (.int m)→AE A9 (AE D1 (nm 2) (fC (.int 1000))) (fC (.int 26)) δ=some (.int ((p:Nat):Int)):=fun δ e=>by
  rw[←ep];exact EA (L9 e ⟨by decide,by decide⟩) rfl (by decide)
 have wln:∀r:Dv,E4 5 (L.own (.lst (ys.map .str))::L.d (.int n)::L.d (.int m)::L.d (.int ((i:Nat):Int))::L.d (.int ((j:Nat):Int))::L.own (.lst (ws.map .str))::r)=some (.int ((ws.length:Nat):Int)):=fun r=>by
  show some (PyData.int (((ws.map PyData.str).length:Nat):Int))=_;rw[wm]
 have main:∃us:List Str,(∀z∈us,A5 z=true)∧Bu us≤Bu ws+43∧us.length≤256 ∧
   (Bw (AY (Bv fun i j=>decide (i<j)) (AE A9 (nm 1) (fC (.int 16))) (fC (.int 13)))
   (Pd 5 (AE Ap (nm 6) (AE A9 (AE D1 (nm 2) (fC (.int 1000))) (fC (.int 26)))) (AE A9 (AE D1 (nm 2) (fC (.int 100))) (E4 5)))
   (Qs 5 (AE A9 (AE D1 (nm 2) (fC (.int 100))) (AE Az (E4 5) (fC (.int 1)))) (AE Ap (nm 6) (AE A9 (AE D1 (nm 2) (fC (.int 1000))) (fC (.int 26))))))
    [.own (.lst (ys.map .str)),.d (.int n),.d (.int m),.d (.int ((i:Nat):Int)),.d (.int ((j:Nat):Int)),.own (.lst (ws.map .str)),.d (.list (HG.map .str))]=some (.nx [.own (.lst (ys.map .str)),.d (.int n),.d (.int m),.d (.int ((i:Nat):Int)),.d (.int ((j:Nat):Int)),.own (.lst (us.map .str)),.d (.list (HG.map .str))]):=by
  by_cases c13:n.fmod 16<13
  ·obtain⟨q,hq,eq⟩:=Iz (m.fdiv 100) (n:=ws.length) wp;have gq:ws[q]? = some ws[q]:=aa hq;refine⟨ws.set q HG[p],fun z hz=>?_,?_,by rw[List.length_set];lia,Bm ((Yy (EA rfl rfl (by decide))).trans (aM some (ao c13))) ((W3 (k:=q) (hodd (e1000 _ rfl)) (by rw[←eq];exact EA (L9 rfl ⟨by decide,by decide⟩) (wln _) (by lia)) rfl (by lia)).trans ?_)⟩
   ·rcases bA hz with hz|rfl
    ·exact wa z hz
    ·exact aw
   ·have t1:=M5 (z:=HG[p]) gq;lia
   ·rw[List.map_set];rfl
  ·obtain⟨q,hq,eq⟩:=Iz (m.fdiv 100) (n:=ws.length+1) (by lia);refine⟨ws.take q++HG[p]::ws.drop q,fun z hz=>?_,?_,?_,BC ((Yy (EA rfl rfl (by decide))).trans (aM some (af c13))) ((Wx (k:=q) (hodd (e1000 _ rfl)) (by rw[←eq];exact EA (L9 rfl ⟨by decide,by decide⟩) (AI (wln _) rfl rfl) (by lia)) rfl (by lia) (by lia)).trans ?_)⟩
   ·rcases aT.mp hz with hz|hz
    ·exact wa z (bC hz)
    ·rcases aL.mp hz with rfl|hz
     ·exact aw
     ·exact wa z (ar hz)
   ·rw[Tp];lia
   ·rw[List.length_append,List.length_cons,List.length_take,List.length_drop];lia
   ·rw[List.map_append,List.map_cons,List.map_take,List.map_drop];rfl
 obtain⟨us,u1,u2,u3,u4⟩:=main;obtain⟨zs,z1,z2,z3⟩:=fin us u1 u2 u3;have sw:Mc 5 (AE Ca (Oi 0 (nm 3)) (fC (.str (Str.ofString " ")))) D=some (.nx (D.set 5 (.own (.lst (ws.map .str))))):=by
  show(AE Ca _ _ D).bind _=_;rw[AI (ix _) rfl (Mg OL (by lia))];rfl
 refine⟨zs,JH rfl (AF rfl (AF (AZ e3) (AF (AZ e4) (AF (BC ((C0 m16).trans (aM some (by simpa using c7))) rfl)
   (AF (BC ((C0 m16).trans (aM some (by simpa using c8))) rfl) (AF (BC ((C0 m16).trans (aM some (by simpa using c9))) rfl) (AF (Bm ((SY m16).trans (aM some (ao c10))) (AF sw (AF (AZ rfl) (AF (AZ rfl) (AF u4 z1))))) rfl))))))),z2,z3⟩
theorem Ol{x:Str}{k:Nat}(hx:x.length≤1000)(hk:k≤x.length):Hk (.str x) (.int ((k:Nat):Int))=some (.str (Tx.Bg (x.cps.toList.take k))):=by
 refine(if_pos hx).trans (aM (fun z=>some (PyData.str z)) ?_);have:=beq_iff_eq.mp (PyProof.Rows.slice_closes_to (x:=x) (j:=(k:Nat)) ⟨by lia,by rw[←BQ];lia⟩);rw[this];exact Tx.BW (by rw[Tx.Am];simp)
theorem Qh{x:Str}{k:Nat}(hx:x.length≤1000):KP (.str x) (.int ((k:Nat):Int))=some (.str (Tx.Bg (x.cps.toList.drop k))):=by
 refine(if_pos hx).trans (aM (fun z=>some (PyData.str z)) ?_);have l:=BQ x;by_cases hk:k≤x.length
 ·rw[PyProof.Rows.slice_from_eq (b:=(x.length:Int)) (by lia) (by lia) rfl];refine Tx.BW ?_;rw[Tx.Am];show((x.cps.toList.drop (k:Int).toNat).take ((x.length:Int)-(k:Nat)).toNat).toArray.toList=_;rw[List.toList_toArray,Int.toNat_natCast];exact List.take_of_length_le (by rw[List.length_drop];lia)
 ·rw[PyProof.Rows.slice_beyond (by lia)];refine Tx.BW ?_;rw[Tx.Am,List.drop_eq_nil_of_le (by lia)];rfl
theorem dI{x:Str}{a:Nat}(hx:x.length≤1000)(ha:a≤x.length):Uy (.str x) (.int ((a:Nat):Int)) (.int ((a+1:Nat):Int))=some (.str (Tx.Bg ((x.cps.toList.drop a).take 1))):=by
 refine(if_pos hx).trans (aM (fun z=>some (PyData.str z)) ?_);have l:=BQ x;by_cases hk:a+1≤x.length
 ·have:=StrLaws.sliceText_nat x (a:=a) (b:=a+1) (by lia) hk;refine Eq.trans (show _=StrLaws.sliceText x (some ((a:Nat):Int)) (some ((a+1:Nat):Int)) from rfl) (this.trans ?_);exact Tx.BW (by rw[Tx.Am,Nat.add_sub_cancel_left])
 ·have e:a=x.length:=by lia
  have h1:=StrLaws.sliceText_nat x (a:=a) (b:=a) (by lia) (by lia);have h2:PySem.Builtin.Str.strSliceIndices (some ((a:Nat):Int)) (some ((a+1:Nat):Int)) 1 x.length=PySem.Builtin.Str.strSliceIndices (some ((a:Nat):Int)) (some ((a:Nat):Int)) 1 x.length:=by
   have b1:¬(((a:Nat):Int)<0):=by lia
   have b2:¬(((a:Nat):Int)+1<0):=by lia
   have b5:max (0:Int) (x.length:Int)=(x.length:Int):=by lia
   have b3:min (((a:Nat):Int)+1) (x.length:Int)=(x.length:Int):=by lia
   have b4:min ((a:Nat):Int) (x.length:Int)=(x.length:Int):=by lia
   simp[PySem.Builtin.Str.strSliceIndices,b1,b2,b3,b4,b5]
  have h3:StrLaws.sliceText x (some ((a:Nat):Int)) (some ((a+1:Nat):Int))=StrLaws.sliceText x (some ((a:Nat):Int)) (some ((a:Nat):Int)):=by
   unfold StrLaws.sliceText;rw[h2]
  refine Eq.trans (show _=StrLaws.sliceText x (some ((a:Nat):Int)) (some ((a+1:Nat):Int)) from rfl) (h3.trans (h1.trans ?_));refine Tx.BW ?_;rw[Tx.Am,Nat.sub_self,List.drop_eq_nil_of_le (by lia)];rfl
theorem WG{x:Str}{k:Nat}(hx:x.length≤1000)(hk:k<x.length):∃c,c∈x.cps.toList∧Ap (.str x) (.int ((k:Nat):Int))=some (.str (Tx.Bg [c])):=by
 rw[BQ]at hk;have g:x.cps.toList[k]? = some x.cps.toList[k]:=aa hk;refine⟨x.cps.toList[k],List.getElem_mem hk,?_⟩;show(if x.length≤CG then(C3 x.cps.toList _).map _ else none)=_;refine(if_pos hx).trans ?_;rw[N2 g];rfl
theorem Ec{a b:Str}(h:a.length+b.length≤1000):Az (.str a) (.str b)=some (.str (a++b)):=by
 have e:Ml (.str a) (.str b)=some (.str (a++b)):=if_pos h;show D7 Qx _ _ _=_;show D7 HP (D7 M6 Ml) (.str a) (.str b)=_;show D7 M6 Ml (.str a) (.str b)=_;unfold D7;rw[e];rfl
theorem Mm(l:List Nat):(Tx.Bg l).length=l.length:=by rw[BQ,Tx.Am]
theorem C7(a b:Str):(a++b).length=a.length+b.length:=by rw[BQ,BQ,BQ,Tx.app_list,List.length_append]
theorem Fd{a b:Str}(ha:A5 a=true)(hb:A5 b=true):A5 (a++b)=true:=FC.mpr fun c hc=>by
 rw[Tx.app_list]at hc;rcases aT.mp hc with hc|hc
 ·exact FC.mp ha c hc
 ·exact FC.mp hb c hc
theorem MP{x:Str}{l:List Nat}(hx:A5 x=true)(h:∀c∈l,c∈x.cps.toList):A5 (Tx.Bg l)=true:=FC.mpr fun c hc=>FC.mp hx c (h c (by rwa [Tx.Am]at hc))
theorem Pp{x:Str}{δ:Dv}{f:Dv→Option PyData}(h:f δ=some (.str x))(hx:x.length≤1000):AJ DN (AB f AH) δ=some (.int ((x.length:Nat):Int)):=AR (AL h rfl) (if_pos hx)
theorem PR(a b:Int):Az (.int a) (.int b)=some (.int (a+b)):=by
 have e:Qx (.int a) (.int b)=some (.int (a+b)):=rfl;show D7 Qx _ _ _=_;unfold D7;rw[e]
theorem Za{x:Str}(ha:A5 x=true)(h1:1≤x.length)(hl:x.length≤330)(n m:Int)(h0:0<n.fmod 16)(h7:n.fmod 16<7):∃y:Str,Ce [.str x,.int n,.int m]=some (.str y)∧A5 y=true∧y.length≤600:=by
 have hx:x.length≤1000:=by lia
 obtain⟨S,aS,S1,S2,k3⟩:∃S:Str,A5 S=true∧0<S.length∧S.length≤1000∧∀(F:DF) (r:Option Ou),F [.d (.str x),.d (.int n),.d (.int m),.d (.str S),.no,.no,.no]=r →
   AX (Av 3 (fC (.str (Str.ofString " !\"#$&'()*+,-./0123456789:;<=>?@ABCDEFGHIJKLMNOPQRSTUVWXYZ[\\]^_`")))) (AX (Av 3 (AE Az (nm 3) (fC (.str (Str.ofString "abcdefghijklmnopqrstuvwxyz{|}~\n"))))) (AX (Bw (AY (A0 false) (AE A9 (nm 2) (fC (.int 2))) (fC (.int 1))) (Av 3 (AE Az (fC (.str (Str.ofString " -/*+=01\n"))) (nm 0))) BA) F)) [.d (.str x),.d (.int n),.d (.int m),.no,.no,.no,.no]=r:=by
  have a1:(Str.ofString " !\"#$&'()*+,-./0123456789:;<=>?@ABCDEFGHIJKLMNOPQRSTUVWXYZ[\\]^_`").length+(Str.ofString "abcdefghijklmnopqrstuvwxyz{|}~\n").length≤1000:=by decide +kernel
  have u9:(Str.ofString " -/*+=01\n").length=9:=by decide +kernel
  by_cases c:m.fmod 2=1
  ·refine⟨Str.ofString " -/*+=01\n" ++ x,Fd (by decide +kernel) ha,by rw[C7];lia,by rw[C7,u9];lia,fun F r k=>?_⟩;refine AF (AZ rfl) (AF (AZ (AI rfl rfl (Ec a1))) (AF (Bm ((C0 (EA rfl rfl (by decide))).trans (by rw[c];rfl)) (AZ (AI rfl rfl (Ec ?_)))) k))
   lia
  ·exact⟨_,by decide +kernel,by decide +kernel,by decide +kernel,fun F r k=>AF (AZ rfl) (AF (AZ (AI rfl rfl (Ec a1))) (AF (BC ((C0 (EA rfl rfl (by decide))).trans (aM some (by simpa using c))) rfl) k))⟩
 obtain⟨p,hp,ep⟩:=Iz (m.fdiv 2) (n:=S.length) S1;obtain⟨q,hq,eq⟩:=Iz (n.fdiv 16) (n:=x.length+1) (by lia);obtain⟨c,hc,gc⟩:=WG S2 hp;have cs:A5 (Tx.Bg [c])=true:=MP aS fun d hd=>by rw[List.mem_singleton.mp hd];exact hc
 have tk:∀k,A5 (Tx.Bg (x.cps.toList.take k))=true:=fun k=>MP ha fun d hd=>bC hd;have dp:∀k,A5 (Tx.Bg (x.cps.toList.drop k))=true:=fun k=>MP ha fun d hd=>ar hd;have tl:∀k,k≤x.length→(Tx.Bg (x.cps.toList.take k)).length=k:=fun k hk=>by rw[Mm,List.length_take,←BQ];lia
 have dl:∀k,(Tx.Bg (x.cps.toList.drop k)).length=x.length-k:=fun k=>by rw[Mm,List.length_drop,←BQ]
 have cl:(Tx.Bg [c]).length=1:=Mm [c];have m16:∀δ:Dv,nm 1 δ=some (.int n)→AE A9 (nm 1) (fC (.int 16)) δ=some (.int (n.fmod 16)):=fun δ e=>EA e rfl (by decide);have nf:∀ {a b:Int},¬a=b→some (a==b)=some false:=fun h=>aM some (by simpa using h);have e4:AE Ap (nm 3) (AE A9 (AE D1 (nm 2) (fC (.int 2))) (AJ DN (AB (nm 3) AH))) [.d (.str x),.d (.int n),.d (.int m),.d (.str S),.no,.no,.no]=some (.str (Tx.Bg [c])) :=
  AI rfl ((EA (L9 rfl ⟨by decide,by decide⟩) (Pp rfl S2) (by lia)).trans (by rw[ep])) gc
 have e5:AE A9 (AE D1 (nm 1) (fC (.int 16))) (AE Az (AJ DN (AB (nm 0) AH)) (fC (.int 1))) [.d (.str x),.d (.int n),.d (.int m),.d (.str S),.d (.str (Tx.Bg [c])),.no,.no]=some (.int ((q:Nat):Int)) :=
  (EA (L9 rfl ⟨by decide,by decide⟩) (AI (Pp rfl hx) rfl (PR _ _)) (by lia)).trans (by rw[←eq];rfl)
 have goal:∃y:Str,NI [.d (.str x),.d (.int n),.d (.int m),.no,.no,.no,.no]=some (.rt (.str y))∧A5 y=true∧y.length≤600:=by
  by_cases c1:n.fmod 16=1
  ·refine⟨Tx.Bg (x.cps.toList.take q)++Tx.Bg [c]++Tx.Bg (x.cps.toList.drop q),k3 _ _ (AF (AZ e4) (AF (AZ e5) (B4 (Bm ((C0 (m16 _ rfl)).trans (by rw[c1];rfl)) (CI (AI (AI (AI rfl rfl (Ol hx (by lia))) rfl (Ec ?_)) (AI rfl rfl (Qh hx)) (Ec ?_))))))),Fd (Fd (tk _) cs) (dp _),?_⟩
   ·rw[tl _ (by lia),cl];lia
   ·rw[C7,tl _ (by lia),cl,dl];lia
   ·rw[C7,C7,tl _ (by lia),cl,dl];lia
  by_cases c2:n.fmod 16=2
  ·refine⟨Tx.Bg (x.cps.toList.take q),k3 _ _ (AF (AZ e4) (AF (AZ e5) (AF (BC ((C0 (m16 _ rfl)).trans (nf c1)) rfl) (B4 (Bm ((C0 (m16 _ rfl)).trans (by rw[c2];rfl)) (CI (AI rfl rfl (Ol hx (by lia))))))))),tk _,?_⟩;rw[tl _ (by lia)];lia
  obtain⟨r,hr,er⟩:∃r:Nat,r<x.length∧(if(x.length:Int)-1<((q:Nat):Int) then(x.length:Int)-1 else((q:Nat):Int))=((r:Nat):Int):=by
   split
   ·exact⟨x.length-1,by lia,by lia⟩
   ·exact⟨q,by lia,rfl⟩
  have e6:AJ N6 (AB (nm 5) (AB (AE En (AJ DN (AB (nm 0) AH)) (fC (.int 1))) AH)) [.d (.str x),.d (.int n),.d (.int m),.d (.str S),.d (.str (Tx.Bg [c])),.d (.int ((q:Nat):Int)),.no]=some (.int ((r:Nat):Int)):=by
   rw[←er];exact AR (AL rfl (AL (AI (Pp rfl hx) rfl rfl) rfl)) rfl
  have a1:∀ {δ:Dv},nm 5 δ=some (.int ((r:Nat):Int))→AE Az (nm 5) (fC (.int 1)) δ=some (.int ((r+1:Nat):Int)):=fun e=>AI e rfl (PR _ _);have a2:∀ {δ:Dv},nm 5 δ=some (.int ((r:Nat):Int))→AE Az (nm 5) (fC (.int 2)) δ=some (.int ((r+1+1:Nat):Int)):=fun e=>AI e rfl ((PR _ _).trans (aM (fun z=>some (PyData.int z)) (by lia)));have rest:∀ {z:Option Ou} {F:DF},F [.d (.str x),.d (.int n),.d (.int m),.d (.str S),.d (.str (Tx.Bg [c])),.d (.int ((r:Nat):Int)),.no]=z →
   AX (Av 4 (AE Ap (nm 3) (AE A9 (AE D1 (nm 2) (fC (.int 2))) (AJ DN (AB (nm 3) AH))))) (AX (Av 5 (AE A9 (AE D1 (nm 1) (fC (.int 16))) (AE Az (AJ DN (AB (nm 0) AH)) (fC (.int 1)))))
    (AX (Bw (AY (A0 false) (AE A9 (nm 1) (fC (.int 16))) (fC (.int 1))) (A3 (AE Az (AE Az (AE Hk (nm 0) (nm 5)) (nm 4)) (AE KP (nm 0) (nm 5)))) BA) (AX (Bw (AY (A0 false) (AE A9 (nm 1) (fC (.int 16))) (fC (.int 2))) (A3 (AE Hk (nm 0) (nm 5))) BA) (AX (Av 5 (AJ N6 (AB (nm 5) (AB (AE En (AJ DN (AB (nm 0) AH)) (fC (.int 1))) AH)))) F))))
    [.d (.str x),.d (.int n),.d (.int m),.d (.str S),.no,.no,.no]=z:=fun k=>AF (AZ e4) (AF (AZ e5) (AF (BC ((C0 (m16 _ rfl)).trans (nf c1)) rfl) (AF (BC ((C0 (m16 _ rfl)).trans (nf c2)) rfl) (AF (AZ e6) k))))
  by_cases c3:n.fmod 16=3
  ·refine⟨Tx.Bg (x.cps.toList.take r)++Tx.Bg (x.cps.toList.drop (r+1)),k3 _ _ (rest (B4 (Bm ((C0 (m16 _ rfl)).trans (by rw[c3];rfl)) (CI (AI (AI rfl rfl (Ol hx (by lia))) (AI rfl (a1 rfl) (Qh hx)) (Ec ?_)))))),Fd (tk _) (dp _),?_⟩
   ·rw[tl _ (by lia),dl];lia
   ·rw[C7,tl _ (by lia),dl];lia
  by_cases c4:n.fmod 16=4∨n.fmod 16=5
  ·have t4:∀ {δ:Dv},nm 1 δ=some (.int n)→Cq (AY (A0 false) (AE A9 (nm 1) (fC (.int 16))) (fC (.int 4))) (AY (A0 false) (AE A9 (nm 1) (fC (.int 16))) (fC (.int 5))) δ=some true:=fun {δ} e=>by
    rcases c4 with c4|c4
    ·exact HN ((C0 (m16 _ e)).trans (by rw[c4];rfl))
    ·exact Be ((C0 (m16 _ e)).trans (by rw[c4];rfl)) ((C0 (m16 _ e)).trans (by rw[c4];rfl))
   refine⟨Tx.Bg (x.cps.toList.take r)++Tx.Bg [c]++Tx.Bg (x.cps.toList.drop (r+1)),k3 _ _ (rest (AF (BC ((C0 (m16 _ rfl)).trans (nf c3)) rfl) (B4 (Bm (t4 rfl) (CI (AI (AI (AI rfl rfl (Ol hx (by lia))) rfl (Ec ?_)) (AI rfl (a1 rfl) (Qh hx)) (Ec ?_))))))),Fd (Fd (tk _) cs) (dp _),?_⟩
   ·rw[tl _ (by lia),cl];lia
   ·rw[C7,tl _ (by lia),cl,dl];lia
   ·rw[C7,C7,tl _ (by lia),cl,dl];lia
  ·have f4:∀ {δ:Dv},nm 1 δ=some (.int n)→Cq (AY (A0 false) (AE A9 (nm 1) (fC (.int 16))) (fC (.int 4))) (AY (A0 false) (AE A9 (nm 1) (fC (.int 16))) (fC (.int 5))) δ=some false:=fun {δ} e =>
    Be ((C0 (m16 _ e)).trans (nf fun z=>c4 (.inl z))) ((C0 (m16 _ e)).trans (nf fun z=>c4 (.inr z)))
   obtain⟨d,hd,gd⟩:=WG hx hr;have ds:A5 (Tx.Bg [d])=true:=MP ha fun e he=>by rw[List.mem_singleton.mp he];exact hd
   have ol:(Tx.Bg ((x.cps.toList.drop (r+1)).take 1)).length≤1:=by rw[Mm];exact aH (List.length_take_le _ _) (by lia)
   have oa:A5 (Tx.Bg ((x.cps.toList.drop (r+1)).take 1))=true:=MP ha fun e he=>ar (bC he);have dl1:(Tx.Bg [d]).length=1:=Mm [d];have e7:Uj (nm 0) (AE Az (nm 5) (fC (.int 1))) (AE Az (nm 5) (fC (.int 2))) [.d (.str x),.d (.int n),.d (.int m),.d (.str S),.d (.str (Tx.Bg [c])),.d (.int ((r:Nat):Int)),.no]=some (.str (Tx.Bg ((x.cps.toList.drop (r+1)).take 1))):=by
    show Option.bind (some (PyData.str x)) _=_;rw[Option.bind_some,a1 rfl,Option.bind_some,a2 rfl,Option.bind_some];exact dI hx (by lia)
   refine⟨Tx.Bg (x.cps.toList.take r)++Tx.Bg ((x.cps.toList.drop (r+1)).take 1)++Tx.Bg [d]++Tx.Bg (x.cps.toList.drop (r+1+1)),k3 _ _ (rest (AF (BC ((C0 (m16 _ rfl)).trans (nf c3)) rfl) (AF (BC (f4 rfl) rfl) (AF (AZ e7) (CI (AI (AI (AI (AI rfl rfl (Ol hx (by lia))) rfl (Ec ?_)) (AI rfl rfl gd) (Ec ?_)) (AI rfl (a2 rfl) (Qh hx)) (Ec ?_))))))),Fd (Fd (Fd (tk _) oa) ds) (dp _),?_⟩
   ·rw[tl _ (by lia)];lia
   ·rw[C7,tl _ (by lia),dl1];lia
   ·rw[C7,C7,tl _ (by lia),dl1,dl];lia
   ·rw[C7,C7,C7,tl _ (by lia),dl1,dl];lia
 obtain⟨y,e,r⟩:=goal;exact⟨y,CB rfl e,r⟩
abbrev UN:List PyData→Option Xr:=Bh PN 85
abbrev Nm:List PyData→Option PyData:=Bc Ak
abbrev T3:List PyData→Option Xr:=only [85] (BF Nm UN)
theorem gK{c:PyData}(hc:c.canLay0=true)(h:CZ c=true):UN [c]=some (.inl .none):=by
 refine Z2 (δ:=[.d c]) rfl ?_;unfold F7;exact Y0 (Cw (b:=true) (CJ (AR (xs:=[c]) rfl (SF hc h)))) rfl
theorem gU{c:PyData}(hc:c.canLay0=true)(h:CZ c=false):UN [c]=some (.inr 85):=by
 refine PH rfl ?_;unfold F7;exact U4 (Cw (b:=false) (CJ (AR (xs:=[c]) rfl (SF hc h)))) rfl
theorem Ta(q:Rat):Dm 2 (Bt q):=ZG (some (q.num,(q.den:Int)))
theorem Po(r:List Rat):Dm 3 (.list (r.map Bt)):=GH fun d hd=>by obtain⟨q,_,rfl⟩:=aR.mp hd;exact Ta q
theorem YC(rs:List (List Rat)):Dm 4 (.list (rs.map Dx)):=GH fun d hd=>by obtain⟨q,_,rfl⟩:=aR.mp hd;exact Po q
theorem T8(t:Tb):Dm 5 (CV t):=Qk fun d hd=>by
 rcases aL.mp hd with rfl|hd
 ·exact YC _
 ·rw[List.mem_singleton.mp hd];exact(Po _).more (by decide)
theorem bW{q:Rat}(h:Lit q):Ak [Bt q]=some (.str (EO q)):=RX h.1 (by simpa using h.2)
theorem Qt{r:List Rat}(h:∀q∈r,Lit q)(hl:r.length≤900):Nm [.list (r.map Bt)]=some (.list (r.map fun q=>.str (EO q))):=by
 refine JH rfl ?_;show Option.map _ _=_;rw[KA (zs:=r) (a:=Bt) (g:=fun q=>.str (EO q)) rfl (aH hl (by decide)) fun q hq=>AR (AL rfl rfl) (bW (h q hq))]
 rfl
theorem Xs{t:Tb}(h:Dr t):BF Nm UN [CV t]=some (.inl (.str (Str.join (Tx.sep 10) (Ik t)))):=by
 have hb:=h.Kg;have hL:=h.lines;refine UW rfl ?_;show IZ Nm UN [.d (CV t),.no]=_;refine JJ (X7 (ds:=[CV t]) rfl (gK (T8 t).1 (h.ok.is (by decide)))) ?_;refine Mn ?_;have i0:AE Ap (nm 0) (fC (.int 0)) [.d (CV t),.no]=some (.list (t.rs.map Dx)):=AI rfl rfl (IQ _ _);have s1:VR 1 (Fg (B3 1) D8 (AE Cj (fC (.str (Str.ofString " "))) (AE Az (B6 (AB (fC (.str (Str.ofString "row"))) AH)) (AJ Nm (AB (nm 1) AH)))) [none,none] (D9 (AE Ap (nm 0) (fC (.int 0))))) [.d (CV t),.no]=some (.nx [.d (CV t),.own (.lst (t.rs.map fun r=>.str (FO Bj r)))]):=by
  show Option.map _ _=_;rw[KA (zs:=t.rs) (a:=Dx) (g:=fun r=>.str (FO Bj r)) (JF i0 rfl) (aH hb.Ej (by decide)) fun r hr=>QX (by decide +kernel) (AR (AL rfl rfl) (Qt (hb.rows r hr).2 (by have:=(hb.rows r hr).1;lia))) (hb.rows r hr).2 (by have:=(hb.rows r hr).1;lia)]
  rfl
 refine AF s1 ?_;have lr:(t.rs.map fun r=>PyData.str (FO Bj r)).length<CG:=by rw[List.length_map];have:=hb.Ej;show _<1000;lia
 have s2:RP 1 (AE Cj (fC (.str (Str.ofString " "))) (AE Az (B6 (AB (fC (.str (Str.ofString "last"))) AH)) (AJ Nm (AB (AE Ap (nm 0) (fC (.int 1))) AH)))) [.d (CV t),.own (.lst (t.rs.map fun r=>.str (FO Bj r)))]=some (.nx [.d (CV t),.own (.lst ((t.rs.map fun r=>.str (FO Bj r))++[.str (FO CA t.ls)]))]):=by
  show Option.bind _ _=_;rw[QX (hd:=CA) (r:=t.ls) (by decide +kernel) (AR (AL (AI rfl rfl (JX _ _ _)) rfl) (Qt hb.last.2 (by have:=hb.last.1;lia))) hb.last.2 (by have:=hb.last.1;lia),Option.bind_some];exact if_pos lr
 refine AF s2 ?_;have e:(t.rs.map fun r=>PyData.str (FO Bj r))++[.str (FO CA t.ls)]=(Ik t).map .str:=by unfold Ik;rw[List.map_append,List.map_map];rfl
 rw[e];refine CI (AI rfl (y:=.list ((Ik t).map .str)) rfl ?_);rw[OI];exact Ja (by decide) (fun y hy=>by have:=hL.len y hy;lia) (by have:=hL.most;lia)
theorem bM(t:Tb)(hl:t.rs.length≤900):DJ [CV t]=some (CV t):=by
 refine CB rfl (CI (Ff (AL (FA (zs:=t.rs) (a:=Dx) (g:=Dx) (JF (AI rfl rfl (IQ _ _)) rfl) (aH hl (by decide)) fun r _=>rfl) (AL (AR (AL (AI rfl rfl (JX _ _ _)) rfl) rfl) rfl)) (show 2≤CG by decide)))
def Jz(c:Nat):Addr→Option Bool:=fun(C:Nat)=>if C=85 then some (decide (85=c)) else if C=157 then some (decide (157=c)) else none
def Yi:Addr→Option Bool:=fun(C:Nat)=>if C=85∨C=157 then some true else none
theorem GO{K:PySem.W.Frag}{c:Nat}{cv:V}(x1:Cc K 85)(x2:Cc K 157)(k1:PySem.W.kitOne K (.ref 85) (Cd cv)=some (decide (85=c)):=by kernel_rfl)(k2:PySem.W.kitOne K (.ref 157) (Cd cv)=some (decide (157=c)):=by kernel_rfl):∀C z,Jz c C=some z→Cc K C∧PySem.W.kitOne K (.ref C) (Cd cv)=some z:=fun C z h=>by
 unfold Jz at h;split at h
 ·rename_i e;cases e;cases h;exact⟨x1,k1⟩
 split at h
 ·rename_i e;cases e;cases h;exact⟨x2,k2⟩
 ·cases h
theorem Ym{K:PySem.W.Frag}{cv:V}(x1:Cc K 85)(x2:Cc K 157)(k1:PySem.W.kitOne K (.ref 85) (Cd cv)=some true:=by kernel_rfl)(k2:PySem.W.kitOne K (.ref 157) (Cd cv)=some true:=by kernel_rfl):∀C z,Yi C=some z→Cc K C∧PySem.W.kitOne K (.ref C) (Cd cv)=some z:=fun C z h=>by
 unfold Yi at h;split at h
 ·rename_i e;cases h;rcases e with e|e<;>cases e
  ·exact⟨x1,k1⟩
  ·exact⟨x2,k2⟩
 ·cases h
abbrev Wa:List PyData→Option PyData:=Cu Yi (Jz 37) (Jz 61) (Jz 169) (Jz 97) (Jz 133) (Jz 73) (Jz 85) (Jz 157) (Jz 49) (Jz 109) (Jz 121) (Jz 145) Yi
theorem RB:Wa [Fc 85]=some (.bool true)∧Wa [Fc 157]=some (.bool true):=⟨by kernel_rfl,by kernel_rfl⟩
abbrev cb:List PyData→Option PyData:=C8 Wa T3
theorem VS{d:PyData}(hc:d.canLay0=true)(h:CZ d=false):cb [d]=some (.bool true):=by
 have no:T3 [d]=some (.inr 85):=by
  refine Th (PH rfl ?_) (.head _);show IZ Nm UN [.d d,.no]=_;exact PD (Yc (ds:=[d]) rfl (gU hc h))
 exact CB rfl (AF rfl (AF (Zj (ds:=[d]) rfl no) (CI (AR (xs:=[Fc 85]) rfl RB.1))))
def R8(t:Tb):List PyData:=[.tuple [.list ((t.rs.map Dx).drop 1),.list (t.ls.map Bt)],.tuple [.list (t.rs.map Dx),.list ((t.ls.map Bt).drop 1)],.list [.list (t.rs.map Dx),.list (t.ls.map Bt)],.tuple [.list (t.rs.map Dx),.list (t.ls.map Bt++[.int 1])]]
theorem b9{t:Tb}(h:Dr t):∀d∈R8 t,d.canLay0=true∧CZ d=false:=fun d hd=>by
 have l1:=h.ok.one;have l2:=h.ok.last;have no:∀ {a b:List PyData},b.length≠a.length→CZ (.tuple [.list a,.list b])=false:=fun {a b} z=>by
  show(Ct (.list a)&&(Cn (.list b)&&decide (b.length=a.length)))=false;rw[decide_eq_false z,Bool.and_false,Bool.and_false]
 have sr:∀d∈t.rs.map Dx,Dm 3 d:=fun d hd=>by obtain⟨q,_,rfl⟩:=aR.mp hd;exact Po q
 have sl:∀d∈t.ls.map Bt,Dm 2 d:=fun d hd=>by obtain⟨q,_,rfl⟩:=aR.mp hd;exact Ta q
 have two:∀ {a b:PyData},Dm 4 a→Dm 4 b→Dm 5 (.tuple [a,b])∧Dm 5 (.list [a,b]):=fun {a b} ha hb=>by
  have:∀d∈[a,b],Dm 4 d:=fun d hd=>by
   rcases aL.mp hd with rfl|hd
   ·exact ha
   ·rw[List.mem_singleton.mp hd];exact hb
  exact⟨Qk this,GH this⟩
 have R:Dm 4 (.list (t.rs.map Dx)):=GH sr;have L4:Dm 4 (.list (t.ls.map Bt)):=(GH sl).more (by decide);unfold R8 at hd;rcases aL.mp hd with rfl|hd
 ·exact⟨(two (GH fun d hd=>sr d (ar hd)) L4).1.1,no (by simp;lia)⟩
 rcases aL.mp hd with rfl|hd
 ·exact⟨(two R ((GH fun d hd=>sl d (ar hd)).more (by decide))).1.1,no (by simp;lia)⟩
 rcases aL.mp hd with rfl|hd
 ·exact⟨(two R L4).2.1,rfl⟩
 rw[List.mem_singleton.mp hd];refine⟨(two R ((GH (n:=2) fun d hd=>?_).more (by decide))).1.1,no (by simp;lia)⟩
 ·rcases aT.mp hd with hd|hd
  ·exact sl d hd
  ·rw[List.mem_singleton.mp hd];exact(Uu 1).more (by decide)
theorem JP(c k:Int):∃v,A1 [.int c,.int k]=some (.int v):=by
 suffices hh:∃v,JS [.d (.int c),.d (.int k),.no]=some (.rt (.int v)) by
  obtain⟨v,h⟩:=hh;exact⟨v,CB rfl h⟩
 have hn:∀(a m:Int),0<m→m<2^60→(a % m).natAbs<2^64:=fun a m h0 h1=>by
  have:=Int.emod_nonneg a (by lia:m≠0);have:=Int.emod_lt_of_pos a h0
  lia
 unfold JS;generalize hv:(c % 2147483647*48271+k*69621+11) % 2147483647=v;have v1:v.natAbs<2^64:=by rw[←hv];exact hn _ _ (by decide) (by decide)
 generalize hu:v*v % 2147483629=u;have u1:u.natAbs<2^64:=by rw[←hu];exact hn _ _ (by decide) (by decide)
 refine⟨_,AF (AZ (y:=.int v) ?_) (AF (AZ (y:=.int u) ?_) (CI (AI (x:=.int (u*u)) (y:=.int 2147483587) (AI (x:=.int u) (y:=.int u) rfl rfl (mul_r u1)) rfl (mod_is (by decide)))))⟩
 ·refine AI (x:=.int (c % 2147483647*48271+k*69621+11)) (y:=.int 2147483647) (AI (x:=.int (c % 2147483647*48271+k*69621)) (y:=.int 11) (AI (x:=.int (c % 2147483647*48271)) (y:=.int (k*69621)) (AI (x:=.int (c % 2147483647)) (y:=.int 48271) (AI (x:=.int c) (y:=.int 2147483647) rfl rfl (mod_is (by decide))) rfl (mul_r (by decide))) (AI (x:=.int k) (y:=.int 69621) rfl rfl (mul_r (by decide))) rfl) rfl rfl) rfl ((mod_is (by decide)).trans ?_);rw[hv]
 ·refine AI (x:=.int (v*v)) (y:=.int 2147483629) (AI (x:=.int v) (y:=.int v) rfl rfl (mul_r v1)) rfl ((mod_is (by decide)).trans ?_);rw[hu]
theorem UG(xs:List Int)(k:Nat):∃c,Ar [Em xs,.int (k:Nat)]=some (.int c):=by
 suffices hh:∃c,He [.d (Em xs),.d (.int (k:Nat))]=some (.rt (.int c)) by
  obtain⟨c,h⟩:=hh;exact⟨c,CB rfl h⟩
 unfold He;have t:AY (Bv fun i j=>decide (i<j)) (nm 1) (AJ BO (AB (nm 0) AH)) [.d (Em xs),.d (.int (k:Nat))]=some (decide ((k:Int)<((xs.map PyData.int).length:Nat))):=Au (x:=.int (k:Nat)) (y:=.int ((xs.map PyData.int).length:Nat)) rfl rfl rfl;rw[List.length_map]at t;by_cases z:k<xs.length
 ·rw[decide_eq_true (show(k:Int)<(xs.length:Nat) by lia)]at t;exact⟨xs[k],B4 (Bm t (CI (AI (x:=Em xs) (y:=.int (k:Nat)) rfl rfl (Zl (by rw[List.getElem?_map,List.getElem?_eq_getElem z];rfl)))))⟩
 ·rw[decide_eq_false (show ¬(k:Int)<(xs.length:Nat) by lia)]at t;exact⟨0,AF (BC t rfl) rfl⟩
abbrev Yn:List PyData→Option PyData:=NN Ar A1
theorem Zp(xs:List Int)(k:Nat):∃r,Yn [Em xs,.int (k:Nat)]=some (.int r):=by
 suffices hh:∃r,KU Ar A1 [.d (Em xs),.d (.int (k:Nat)),.no,.no]=some (.rt (.int r)) by
  obtain⟨r,h⟩:=hh;exact⟨r,CB rfl h⟩
 obtain⟨c,hc⟩:=UG xs k;obtain⟨a,ha⟩:=JP c (k:Nat);obtain⟨b,hb⟩:=JP c ((k:Int)+500);obtain⟨d,hd⟩:=JP c ((k:Int)+900);unfold KU;have p18:∀δ:Dv,AE RJ (fC (.int 10)) (fC (.int 18)) δ=some (.int ((10:Int)^18)):=fun δ=>AI (x:=.int 10) (y:=.int 18) rfl rfl (cz (n:=18) (by decide) (by decide));have s1:(Av 2 (AJ Ar (AB (nm 0) (AB (nm 1) AH)))) [.d (Em xs),.d (.int (k:Nat)),.no,.no]=some (.nx [.d (Em xs),.d (.int (k:Nat)),.d (.int c),.no]):=AZ (AR (xs:=[Em xs,.int (k:Nat)]) rfl hc);have hab:∃y:Int,AJ RZ (AB (nm 2) AH) [.d (Em xs),.d (.int (k:Nat)),.d (.int c),.no]=some (.int y):=⟨_,rfl⟩;obtain⟨y,hy⟩:=hab;have t:AY (Bv fun i j=>decide (j≤i)) (AJ RZ (AB (nm 2) AH)) (AE RJ (fC (.int 10)) (fC (.int 18))) [.d (Em xs),.d (.int (k:Nat)),.d (.int c),.no]=some (decide ((10:Int)^18≤y)):=Au (x:=.int y) (y:=.int ((10:Int)^18)) hy (p18 _) rfl;by_cases z:(10:Int)^18≤y
 ·rw[decide_eq_true z]at t;exact⟨c,AF s1 (B4 (Bm t rfl))⟩
 ·rw[decide_eq_false z]at t;refine⟨_,AF s1 (AF (BC t rfl) (AF (AZ (AI (x:=.int a) (y:=.int (b*2147483587)) (AR (xs:=[.int c,.int (k:Nat)]) rfl ha) (AI (x:=.int b) (y:=.int 2147483587) (AR (xs:=[.int c,.int ((k:Int)+500)]) rfl hb) rfl (mul_r (by decide))) rfl)) (CI (AI (x:=.int (a+b*2147483587)) (y:=.int (d*2147483587*2147483587)) rfl (AI (x:=.int (d*2147483587)) (y:=.int 2147483587) (AI (x:=.int d) (y:=.int 2147483587) (AR (xs:=[.int c,.int ((k:Int)+900)]) rfl hd) rfl (mul_r (by decide))) rfl (mul_r (by decide))) rfl))))⟩
open Classical in
noncomputable def XQ:List PyData→Option PyData
 |[.str x]=>if Lz x then some (.bool true) else none
 |_=>none
theorem Qf{x:Str}(h:Lz x):XQ [.str x]=some (.bool true):=if_pos h
abbrev eP:List PyData→Option Xr:=only [157] (HA Wg PN 157)
theorem Wh{x:Str}(h:Lz x):Sh 157 eP (EF NL) Wa Y6 x:=by
 rcases bu h (C:=157) RB.2 with ⟨a,b,c⟩|⟨rs,l,a,b,c⟩
 ·exact .inl ⟨Th a (.head _),b,c⟩
 ·exact .inr ⟨rs,l,UI a,b,c⟩
section
variable{P:Program}{w:World}{K:PySem.W.Frag}{mg:Str→Option Value}{base:Heap}{CX:F0}{k:Nat}{f:Addr}{fd:FuncData}{ps:List Str}
theorem jc(F:CT P w K mg base Ao k f fd ps (V3 157 eP (EF NL) Wa Y6)):CT P w K mg base Ao k f fd ps (BR XQ) :=
 F.imp fun vs H Q E z=>by
  obtain⟨ds,r,G,h1,h2,h3,h4⟩:=z;unfold XQ at h1;split at h1
  ·rename_i x;split at h1
   ·rename_i hx;cases h1;obtain⟨v,rfl,d1⟩:=h2.JR;rw[Du]at d1;subst d1;exact⟨x,rfl,Wh hx,fun H' e=>h4 (.bl true) G H' (.refl _) Nw.refl (h3.trans e) e (by rw[Du])⟩
   ·cases h1
  ·cases h1
theorem Wt{m:List PyData→Option Xr}(cs:List Addr)(F:CT P w K mg base CX k f fd ps (Gu m)):CT P w K mg base CX k f fd ps (Gu (only cs m)) :=
 F.imp fun vs H Q E z=>by
  obtain⟨ds,r,G,h1,h2⟩:=z;refine⟨ds,r,G,?_,h2⟩;unfold only at h1;split at h1
  ·rename_i C e;split at h1
   ·cases h1;exact e
   ·cases h1
  ·exact h1
end
theorem J7{c:Nat}:∀ {p:Str} {r:List Str},(Str.join (Tx.sep c) (p::r)).cps.toList=p.cps.toList++(r.map fun q=>c::q.cps.toList).flatten
 |p,[]=>by show p.cps.toList=_;simp
 |p,q::r=>by rw[Tx.DZ,J7,List.map_cons,List.flatten_cons,List.cons_append]
theorem N1(x:Str)(k:Nat):(FG x k).cps.toList=(List.replicate k x.cps.toList).flatten:=by
 have:∀(l:List (Array Nat)) (acc:Array Nat),(l.foldl (· ++ ·) acc).toList=acc.toList++(l.map Array.toList).flatten:=fun l=>by
  induction l with
  |nil=>intro acc;simp
  |cons a l ih=>intro acc;rw[List.foldl_cons,ih,List.map_cons,List.flatten_cons,Array.toList_append,List.append_assoc]
 show((List.replicate k x.cps).foldl (· ++ ·) #[]).toList=_;rw[this,List.map_replicate];rfl
abbrev zS:Str:=Str.ofString "0"
theorem X0(k:Nat):Bj++FG (Str.ofString " 0") k=Str.join (Tx.sep 32) (Bj::List.replicate k zS):=Tx.BW (by rw[Tx.app_list,N1,J7,List.map_replicate];rfl)
theorem XM(k:Nat):Str.ofString "last 1" ++ FG (Str.ofString " 0") k=Str.join (Tx.sep 32) (CA::Str.ofString "1" :: List.replicate k zS):=Tx.BW (by
 rw[Tx.app_list,N1,J7,List.map_cons,List.flatten_cons,List.map_replicate,←List.append_assoc];rfl)
abbrev Ju(q:Str×List Str):Str:=Str.join (Tx.sep 32) (q.1::q.2)
theorem ZJ{q:Str×List Str}(h:∀p∈q.1::q.2,32 ∉ p.cps.toList):Bk (Ju q)=q:=by
 unfold Bk Ju;rw[Tx.LP (by simp) h]
theorem Vs{qs:List (Str×List Str)}(h0:qs≠[])(hl:qs.length≤42)(h:∀q∈qs,q.2.length≤42∧∀p∈q.1::q.2,p.length≤4∧A5 p=true∧32 ∉ p.cps.toList∧10 ∉ p.cps.toList):Lz (Str.join (Tx.sep 10) (qs.map Ju))∧∀q∈qs,(Ju q).length≤300:=by
 have len:∀q∈qs,(Ju q).length≤300:=fun q hq=>by
  obtain⟨h1,h2⟩:=h q hq;have:=Hh (c:=32) (ps:=q.1::q.2) (by simp);have:=Oy (f:=fun y:Str=>y.length+1) (c:=5) (l:=q.1::q.2) fun p hp=>by have:=(h2 p hp).1;lia
  unfold Bu at *;rw[List.length_cons]at this;show(Str.join _ _).length≤_
  lia
 have e:Bz (Str.join (Tx.sep 10) (qs.map Ju))=qs:=by
  unfold Bz;rw[Tx.LP (by simpa using h0) fun l hl=>?_]
  ·rw[List.map_map];have:∀ {l:List (Str×List Str)},(∀q∈l,q∈qs)→l.map (Bk ∘ Ju)=l:=fun {l}=>by
    induction l with
    |nil=>intro _;rfl
    |cons q l ih =>
     intro hh;rw[List.map_cons,ih fun z hz=>hh z (.tail _ hz)];exact aM (· :: l) (ZJ fun p hp=>((h q (hh q (.head _))).2 p hp).2.2.1)
   exact this fun q hq=>hq
  ·obtain⟨q,hq,rfl⟩:=aR.mp hl;intro z;rw[J7]at z;rcases aT.mp z with z|z
   ·exact((h q hq).2 _ (.head _)).2.2.2 z
   ·obtain⟨u,hu,z⟩:=List.mem_flatten.mp z;obtain⟨p,hp,rfl⟩:=aR.mp hu;rcases aL.mp z with z|z
    ·exact absurd z (by decide)
    ·exact((h q hq).2 p (.tail _ hp)).2.2.2 z
 have wk:∀q∈qs,∀p∈q.1::q.2,FX p:=fun q hq p hp=>by
  have:=(h q hq).2 p hp;exact Ww this.2.1 (by lia)
 refine⟨⟨?_,by rw[e];lia,fun q hq=>?_⟩,len⟩
 ·have:=join_le (c:=10) (ps:=qs.map Ju);have:=Oy (f:=fun y:Str=>y.length+1) (c:=301) (l:=qs.map Ju) fun y hy=>by obtain⟨q,hq,rfl⟩:=aR.mp hy;have:=len q hq;lia
  unfold Bu at *;rw[List.length_map]at this;have:301*qs.length≤301*42:=Nat.mul_le_mul_left _ hl
  lia
 ·rw[e]at hq;exact⟨by have:=(h q hq).1;lia,wk q hq _ (.head _),fun w hw=>wk q hq w (.tail _ hw)⟩
theorem UA{x:Str}{k:Nat}(h:x.length*k≤100000)(hk:k≤1000):KD (.str x) (.int ((k:Nat):Int))=some (.str (FG x k)):=by
 have e:N8 (.str x) (.int ((k:Nat):Int))=some (.str (FG x k)):=(if_pos ⟨by lia,by lia,by rw[Int.toNat_natCast];exact h⟩).trans (by rw[Int.toNat_natCast]);show D7 FU N8 _ _=_;unfold D7;rw[e];rfl
theorem UM{n:Nat}(h1:1≤n)(h2:n≤41):∃y,Cf [.int ((n:Nat):Int)]=some (.str y)∧Lz y:=by
 have u2:(Str.ofString " 0").length=2:=by decide +kernel
 have rl:∀k,(FG (Str.ofString " 0") k).length=2*k:=fun k=>by
  rw[BQ,N1,List.length_flatten,List.map_replicate,←BQ,u2]
  induction k with
  |zero=>rfl
  |succ k ih=>rw[List.replicate_succ,List.sum_cons,ih];lia
 have u3:Bj.length=3:=by decide +kernel
 have u6:(Str.ofString "last 1").length=6:=by decide +kernel
 let qs:List (Str×List Str):=(List.range n).map (fun k=>(Bj,List.replicate k zS))++[(CA,Str.ofString "1" :: List.replicate (n-1) zS)]
 have hq:∀q∈qs,q.2.length≤42∧∀p∈q.1::q.2,p.length≤4∧A5 p=true∧32 ∉ p.cps.toList∧10 ∉ p.cps.toList:=fun q hq=>by
  rcases aT.mp hq with hq|hq
  ·obtain⟨k,hk,rfl⟩:=aR.mp hq;have:=bI.mp hk;refine⟨by show(List.replicate k zS).length≤42;rw[List.length_replicate];lia,fun p hp=>?_⟩;rcases aL.mp hp with rfl|hp
   ·exact(by decide +kernel:Bj.length≤4∧A5 Bj=true∧32 ∉ Bj.cps.toList∧10 ∉ Bj.cps.toList)
   ·rw[List.eq_of_mem_replicate hp];decide +kernel
  ·rw[List.mem_singleton.mp hq];refine⟨by show(_::List.replicate (n-1) zS).length≤42;rw[List.length_cons,List.length_replicate];lia,fun p hp=>?_⟩;rcases aL.mp hp with rfl|hp
   ·exact(by decide +kernel:CA.length≤4∧A5 CA=true∧32 ∉ CA.cps.toList∧10 ∉ CA.cps.toList)
   ·rcases aL.mp hp with rfl|hp
    ·decide +kernel
    ·rw[List.eq_of_mem_replicate hp];decide +kernel
 obtain⟨tk,tl⟩:=Vs (qs:=qs) (by simp[qs]) (by simp[qs];lia) hq;refine⟨_,CB rfl ?_,tk⟩;show NT [.d (.int ((n:Nat):Int)),.no]=_;have rg:ID IW (AB (nm 0) AH) [.d (.int ((n:Nat):Int)),.no]=some ((List.range n).map fun k=>PyData.int (0+((k:Nat):Int))):=by
  have:=Q2 (δ:=[.d (.int ((n:Nat):Int)),.no]) (f:=nm 0) (j:=(n:Nat)) rfl (by lia) (by lia);rw[this,Int.toNat_natCast];rfl
 refine AF (AZ (FA (zs:=List.range n) (a:=fun k=>PyData.int (0+((k:Nat):Int))) (g:=fun k=>.str (Ju (Bj,List.replicate k zS))) rg (by rw[List.length_range];exact aH h2 (by decide)) fun k hk=>?_)) ?_
 ·have:=bI.mp hk;show AE Az (fC (.str Bj)) (AE KD (fC (.str (Str.ofString " 0"))) (nm 1)) _=_;rw[Int.zero_add];refine(AI rfl (AI rfl rfl (UA (by rw[u2];lia) (by lia))) (Ec (by rw[rl,u3];lia))).trans ?_;rw[X0]
 ·refine CI (AI rfl (AI rfl (JC (AL (AI rfl (AI rfl (AI rfl rfl (show En (.int ((n:Nat):Int)) (.int 1)=some (.int ((n-1:Nat):Int)) from aM (fun z=>some (PyData.int z)) (by lia))) (UA (by rw[u2];lia) (by lia))) (Ec (by rw[rl,u6];lia))) rfl) (show 1≤1000 by decide)) (z:=some (.list ((qs.map Ju).map .str))) ?_) ?_)
  ·have e:HP (.list ((List.range n).map fun k=>.str (Ju (Bj,List.replicate k zS)))) (.list [.str (Str.ofString "last 1" ++ FG (Str.ofString " 0") (n-1))])=some (.list ((qs.map Ju).map .str)):=(if_pos (by rw[List.length_map,List.length_range];show n+1≤1000;lia)).trans (by
    rw[XM];show some (PyData.list _)=some (PyData.list ((List.map Ju (_++_)).map .str));rw[List.map_append,List.map_append,List.map_map,List.map_map];rfl)
   show D7 HP _ _ _=_;unfold D7;rw[e]
  ·rw[OI];exact Ja (by decide) (fun y hy=>by obtain⟨q,hq',rfl⟩:=aR.mp hy;have:=tl q hq';lia) (by rw[List.length_map];simp[qs];lia)
theorem PQ{a c:Dv→Option Bool}{b:Bool}{δ:Dv}(h:a δ=some b)(k:c δ=some false):Hm a c δ=some false:=by
 cases b with
 |false=>exact Ox h
 |true=>exact Mu h k
theorem gB{f:Dv→Option PyData}{δ:Dv}{xs:List PyData}(h:f δ=some (.list xs)):HY f (Fq (fC (.int 1))) Fj δ=some (.list (xs.drop 1)):=by
 show(f δ).bind _=_;rw[h];show some (PyData.list (cutD xs (some ((1:Nat):Int)) none))=_;rw[Sd]
theorem So:∀ {ys:List Str},ys.length≤Bu ys∧∀y∈ys,y.length≤Bu ys
 |[]=>⟨bK _,fun y hy=>by cases hy⟩
 |z::ys=>by
  obtain⟨h1,h2⟩:=So (ys:=ys);have e:Bu (z::ys)=z.length+1+Bu ys:=by simp[Bu]
  refine⟨by rw[List.length_cons];lia,fun y hy=>?_⟩;rcases aL.mp hy with rfl|hy
  ·lia
  ·have:=h2 y hy;lia
theorem T9{ys:List Str}(h:Bu ys≤600):Cj (.str (Str.ofString "\n")) (.list (ys.map .str))=some (.str (Str.join (Tx.sep 10) ys)):=by
 obtain⟨h1,h2⟩:=So (ys:=ys);rw[OI];exact Ja (by decide) (fun y hy=>by have:=h2 y hy;lia) (by lia)
theorem f7{t:Tb}(h:Dr t)(ns:List Int)(rest:Int):O5 Ce BU Ar DJ (Cr Bd) Cf A1 XQ cb T3 [.d (Em ns),.d (.int rest),.d (CV t),.no,.no,.no,.no,.no,.no,.no,.no]=some (.rt (.bool true)):=by
 have hL:=h.lines;have ht:=hL.Bu;obtain⟨x,ex⟩:∃x,Str.join (Tx.sep 10) (Ik t)=x:=⟨_,rfl⟩;have xa:A5 x=true:=by rw[←ex];exact Jl (by decide) hL.asc
 have xt:x.length+1=Bu (Ik t):=by rw[←ex];exact Hh fun z=>by have:=hL.two;rw[z]at this;simp at this
 have xl:=(So (ys:=Ik t)).1;have l2:=hL.two;have hx:Lz x:=Ss xa (by lia);have xj:Cj (.str (Str.ofString "\n")) (.list ((Ik t).map .str))=some (.str x):=by rw[←ex];exact T9 (by lia)
 have shn:T3 [CV t]=some (.inl (.str x)):=UI ((Xs h).trans (by rw[ex]));have told:good T3 [CV t]=some (.str x):=by unfold good;rw[shn]
 obtain⟨c2,hc2⟩:=UG ns 2;obtain⟨n,hn⟩:=JP c2 7;obtain⟨m,hm⟩:=JP c2 8;refine AF (AZ (AR (AL rfl rfl) (Xh h.Kg))) ?_;refine AF (AZ (AR (AL rfl rfl) (bM t (by have:=h.ok.most;lia)))) ?_;refine AF (AZ (AR (AL rfl rfl) told)) ?_;refine AF (BC (Be (Cw (b:=true) (CJ rfl)) (Be (Au rfl (AI rfl rfl xj) ((ne_str xa xa).trans (by simp))) (Be (Au rfl rfl (ne_self (T8 t) (by decide))) (Cw (b:=true) (CJ (AR (AL rfl rfl) (Qf hx))))))) rfl) ?_;refine AF (AZ (AR (AL (AR (xs:=[Em ns,.int 2]) rfl hc2) rfl) hn)) ?_;refine AF (AZ (AR (AL (AR (xs:=[Em ns,.int 2]) rfl hc2) rfl) hm)) ?_;have m16:∀δ:Dv,nm 7 δ=some (.int n)→AE A9 (nm 7) (fC (.int 16)) δ=some (.int (n.fmod 16)):=fun δ e=>EA e rfl (by decide);obtain⟨l4,y,hy,key⟩:∃(l4:L) (y:Str),Lz y∧∀(R:DF) (r:Option Ou),R [.d (Em ns),.d (.int rest),.d (CV t),.no,l4,.d (CV t),.d (.str x),.d (.int n),.d (.int m),.d (.str y),.no]=r →
   AX (Bw (AY (Bv fun i j=>decide (j<i)) (AE A9 (nm 7) (fC (.int 16))) (fC (.int 6))) (Av 4 (AJ BU (AB (nm 4) (AB (nm 7) (AB (nm 8) AH))))) BA) (AX (Av 9 (AE Cj (fC (.str (Str.ofString "\n"))) (nm 4)))
    (AX (Bw (Hm (AY (Bv fun i j=>decide (i<j)) (fC (.int 0)) (AE A9 (nm 7) (fC (.int 16)))) (AY (Bv fun i j=>decide (i<j)) (AE A9 (nm 7) (fC (.int 16))) (fC (.int 7)))) (Av 9 (AJ Ce (AB (nm 9) (AB (nm 7) (AB (nm 8) AH))))) BA) R))
    [.d (Em ns),.d (.int rest),.d (CV t),.no,.d (.list ((Ik t).map .str)),.d (CV t),.d (.str x),.d (.int n),.d (.int m),.no,.no]=r:=by
  have lt0:∀δ:Dv,nm 7 δ=some (.int n)→AY (Bv fun i j=>decide (i<j)) (fC (.int 0)) (AE A9 (nm 7) (fC (.int 16))) δ=some (decide (0<n.fmod 16)):=fun δ e=>Au rfl (m16 δ e) rfl;by_cases c6:6<n.fmod 16
  ·obtain⟨zs,e,za,zt⟩:=XS hL n m c6;exact⟨_,_,Xw za zt,fun R r k=>AF (Bm ((SY (m16 _ rfl)).trans (aM some (ao c6))) (AZ (AR (AL rfl (AL rfl (AL rfl rfl))) e))) (AF (AZ (AI rfl rfl (T9 zt))) (AF (BC (PQ (lt0 _ rfl) ((Yy (m16 _ rfl)).trans (aM some (af (by lia))))) rfl) k))⟩
  ·by_cases c0:0<n.fmod 16
   ·obtain⟨y,e,ya,yl⟩:=Za xa (by lia) (by lia) n m c0 (by lia);exact⟨_,_,Ss ya yl,fun R r k=>AF (BC ((SY (m16 _ rfl)).trans (aM some (af c6))) rfl) (AF (AZ (AI rfl rfl xj)) (AF (Bm (Mu ((lt0 _ rfl).trans (aM some (ao c0))) ((Yy (m16 _ rfl)).trans (aM some (ao (by lia))))) (AZ (AR (AL rfl (AL rfl (AL rfl rfl))) e))) k))⟩
   ·exact⟨_,_,hx,fun R r k=>AF (BC ((SY (m16 _ rfl)).trans (aM some (af c6))) rfl) (AF (AZ (AI rfl rfl xj)) (AF (BC (Ox ((lt0 _ rfl).trans (aM some (af c0)))) rfl) k))⟩
 refine key _ _ ?_;refine AF (BC (Cw (b:=true) (CJ (AR (AL rfl rfl) (Qf hy)))) rfl) ?_;obtain⟨y0,e0,h0⟩:=UM (n:=40) (by decide) (by decide);obtain⟨y1,e1,h1⟩:=UM (n:=41) (by decide) (by decide);have r8:∀ {δ:Dv} {b:Int},nm 1 δ=some (.int rest)→AY (A0 false) (AE A9 (AE D1 (nm 1) (fC (.int 16))) (fC (.int 8))) (fC (.int b)) δ=some ((rest.fdiv 16).fmod 8==b):=fun e=>C0 (EA (L9 e ⟨by decide,by decide⟩) rfl (by decide));refine AF (BC (Be (PQ (r8 rfl) (Cw (b:=true) (CJ (AR (AL (AR (AL rfl rfl) e0) rfl) (Qf h0))))) (PQ (r8 rfl) (Cw (b:=true) (CJ (AR (AL (AR (AL rfl rfl) e1) rfl) (Qf h1)))))) rfl) ?_;have i0:∀ {δ:Dv},nm 2 δ=some (CV t)→AE Ap (nm 2) (fC (.int 0)) δ=some (.list (t.rs.map Dx)):=fun e=>AI e rfl (IQ _ _);have i1:∀ {δ:Dv},nm 2 δ=some (CV t)→AE Ap (nm 2) (fC (.int 1)) δ=some (.list (t.ls.map Bt)):=fun e=>AI e rfl (JX _ _ _);have d2:∀a b:PyData,[a,b].length≤CG:=fun a b=>show 2≤1000 by decide
 have ad:Az (.list (t.ls.map Bt)) (.list [.int 1])=some (.list (t.ls.map Bt++[.int 1])):=by
  have e:HP (.list (t.ls.map Bt)) (.list [.int 1])=some (.list (t.ls.map Bt++[.int 1])):=if_pos (by rw[List.length_map];have:=h.ok.last;have:=h.ok.most;show _+1≤1000;lia);show D7 HP _ _ _=_;unfold D7;rw[e]
 refine AF (AZ (y:=.list (R8 t)) (JC (AL (Ff (AL (gB (i0 rfl)) (AL (i1 rfl) rfl)) (d2 _ _)) (AL (Ff (AL (i0 rfl) (AL (gB (i1 rfl)) rfl)) (d2 _ _)) (AL (JC (AL (i0 rfl) (AL (i1 rfl) rfl)) (d2 _ _)) (AL (Ff (AL (i0 rfl) (AL (AI (i1 rfl) rfl ad) rfl)) (d2 _ _)) rfl)))) (show 4≤1000 by decide))) ?_;obtain⟨i,hi,ei⟩:=Iz (rest.fdiv 16) (n:=4) (by decide);have gi:(R8 t)[i]? = some (R8 t)[i]:=aa hi;obtain⟨b1,b2⟩:=b9 h _ (aW gi);exact CI (AR (AL (AI (y:=.int ((i:Nat):Int)) rfl ((EA (L9 rfl ⟨by decide,by decide⟩) rfl (by decide)).trans (by rw[←ei];rfl)) (N2 gi)) rfl) (VS b1 b2))
def VI(K:PySem.W.Frag):Sp:=fun vs H Q _=>∃(a:Addr) (ns:List Int),vs=[.ref a]∧BI K H a (ns.map V.int)∧ns.length≤63∧∀H',Q (.bl true) H'
def Vr(K:PySem.W.Frag):Sp:=fun vs H Q _=>∃(a:Addr) (ns:List Int) (k:Nat),vs=[.ref a,.int ((k:Nat):Int)]∧BI K H a (ns.map V.int)∧∀c H',AU H H'→Q (.int c) H'
theorem g9{t:Tb}(h:t.Ok 5)(s:Small t):Dr t :=
 ⟨h,s.1,fun q hq=>SA (s.2 q hq) (by decide),by
  have:=Oy (c:=41) (f:=fun q:Rat=>(EO q).length+1) (l:=t.ls) fun q hq=>by have:=Yx (s.2 q hq);lia
  have:=h.last;have:=h.most
  lia⟩
theorem eu{t:Tb}{i:Nat}{q:Rat}(h:t.Ok 5)(s:Small t)(hq:Lit q):Dr ⟨t.rs,t.ls.set i q⟩:=by
 have l1:=h.one;have l2:=h.last;have l5:=h.most;refine⟨⟨h.one,h.most,by show(t.ls.set i q).length=_;rw[List.length_set];exact h.last,h.row⟩,s.1,fun r hr=>?_,?_⟩
 ·rcases bA hr with hr|rfl
  ·exact SA (s.2 r hr) (by decide)
  ·exact hq
 ·have:=sum_set (f:=fun q:Rat=>(EO q).length+1) (x:=q) (c:=41) (d:=85) (by have:=dD hq;lia) (by decide) (l:=t.ls) (i:=i) (fun z=>by rw[z]at l2;simp at l2;lia) fun y hy=>by have:=Yx (s.2 y hy);lia
  show((t.ls.set i q).map _).sum≤_
  lia
theorem Vk(g:Int)(h0:0≤g)(h1:g<10^40):Lit (Rat.divInt g (1+g / 3)):=by
 have b:1≤1+g / 3:=by lia
 obtain⟨e1,e2⟩:=Rl g b;have hg:1≤FM.gi g (1+g / 3):=by
  have:0<FM.gi g (1+g / 3):=by
   show(0:Int)<_;unfold FM.gi;have:=Int.gcd_pos_of_ne_zero_right g (show(1+g / 3)≠0 by lia)
   lia
  lia
 have d1:g / FM.gi g (1+g / 3)≤g:=Int.ediv_le_self _ h0;have d2:(1+g / 3) / FM.gi g (1+g / 3)≤1+g / 3:=Int.ediv_le_self _ (by lia);have d3:0≤g / FM.gi g (1+g / 3):=Int.ediv_nonneg h0 (by lia);refine⟨?_,?_⟩
 ·rw[e1];lia
 ·lia
theorem hZ{X:Cx}{s0 s1 s2:Stmt}{sts:List Stmt}{F:DF}{t0 t1 t2:TS}(d:KW X sts F)(p0:PS X s0 t0)(p1:PS X s1 t1)(p2:PS X s2 t2){Pz:TS→Prop}(k:∀u:TS,(∀δ r,F δ=some r→∀G0 H0 G H σ D,Rw G0 H0 G H σ δ []→Fin G0 H0 D r→u D σ H)→Pz (Pe t0 (Pe t1 (Pe t2 u)))):∃t,IP X (s0::s1::s2::sts) t∧Pz t:=by
 obtain⟨t,pt,kt⟩:=d;exact⟨_,C9 (.of p0) (C9 (.of p1) (C9 (.of p2) pt)),k t kt⟩
theorem SJ{L:Addr}{zs:List V}{H:Hp}(hL:H L=some (.lst zs)):∀ {rs:List (List Rat)} {xs:List V},Bo H (EX rs) xs→(∀(j:Nat) r,rs[j]? = some r→r.length≠zs.length)→Aj L H (EX rs) xs
 |[],xs,h,_=>by
  have:=h.len;rw[show EX []=[] from rfl,List.length_nil]at this;rw[List.eq_nil_of_length_eq_zero this];exact .nil
 |r::rs,xs,h,k=>by
  obtain⟨x,ws,rfl,h1,h2⟩:=Bo.dj h;obtain⟨a,ys,rfl,ha,hy⟩:=h1.SD;have:=hy.len;rw[FZ]at this;refine .cons (Wy hL (fun z=>by subst z;rw[ha]at hL;cases hL;exact k 0 r rfl this.symm) ha hy) (SJ hL h2 fun j r' hj=>k (j+1) r' (by simpa using hj))
section
variable{P:Program}{w:World}{K:PySem.W.Frag}{mg:Str→Option Value}{base:Heap}{k:Nat}{f:Addr}{fd:FuncData}{ps:List Str}
theorem gE(hK:OS K=true)(F:Ab P w K mg base Ao k f fd ps (BR Yn)):Ab P w K mg base Ao k f fd ps (Vr K):=F.imp fun vs H Q E z=>by
 obtain⟨a,ns,k,rfl,hS,q⟩:=z;obtain⟨r,hr⟩:=Zp ns k;refine⟨[Em ns,.int ((k:Nat):Int)],.int r,H,hr,.cons (Vc (XO hK hS)) (.cons (by rw[Du]) .nil),.refl _,fun v G' H' _ _ _ e dv=>?_⟩;rw[Du]at dv;subst dv;exact q r H' e
theorem fZ{g1 g2 g3:Addr}{gd1 gd2 gd3:FuncData}(hK:OS K=true)(F:Fn K mg "law" J6 ["_law_script"] f fd)(GD:Fn K mg "_law_rest" KY ["_law_script", "_law_k"] g1 gd1)(Gv:Fn K mg "_law_table" JN ["_law_rest_here", "_law_most"] g2 gd2)(Bl:Fn K mg "_law_ratio" Ef ["_law_top", "_law_bottom"] g3 gd3)
 (Hx:Ab P w K mg base Ao k g1 gd1 ["_law_script", "_law_k"] (Vr K))(Qw:Ab P w K mg base Ao k g2 gd2 ["_law_rest_here", "_law_most"] T1)(Cv:Ab P w K mg base Ao k g3 gd3 ["_law_top", "_law_bottom"] Ro)(An:mg "len" = none)
 (os:∀(cdv:Value) (A:Around) (outer:List Env) (s:Shared) (H:Hp) (E:XK),Bf k (A.deeper (PyProof.Rows.envOfC "law" (AN J6) s.heap.objs.size f cdv)) →
   KW (Bq Ao P w K mg base ["_law_script", "_law_rest_here", "_law_table_here", "_law_great", "_law_lines_here", "_law_handed", "_law_told", "_law_number_here", "_law_more", "_law_text", "_law_bad"] "law" (AN J6) f cdv A outer s H E).DV ((B5 J6).drop 3) (O5 Ce BU Ar DJ (Cr Bd) Cf A1 XQ cb T3)) :
  CT P w K mg base Ao (k+1) f fd ["_law_script"] (VI K):=by
 have sc:=W2;refine F.F.eL (k:=k) sc (fun vs H Q E h=>?_) (fun cdv A outer s H vs Q E hr h=>?_)
 ·obtain⟨a,ns,rfl,_⟩:=h;rfl
 obtain⟨a,ns,rfl,hS,h63,q⟩:=h
 refine' hZ (os cdv A outer s H E hr) ?p0 ?p1 ?p2 ?kk
 case p0=>exact Bp (i:=1) sc.nd rfl (Or.inl rfl) (EN GD Hx hr rfl (AM (pv 0) (AM Ah Af)))
 case p1=>exact Bp (i:=2) sc.nd rfl (Or.inl rfl) (EN Gv Qw hr rfl (AM (EN GD Hx hr rfl (AM (pv 0) (AM Ah Af))) (AM Ah Af)))
 case p2 =>
  exact FL (Ek Us (Bn OD (pv 1) Ah) Ah (Ae _))
   (A4 (Bp (i:=3) sc.nd rfl (Or.inl rfl) (Bn JI (Bn Kh (pv 1) Ah) (Bn Vv Ah Ah)))
   (BH (L8 (EN Bl Cv hr rfl (AM (pv 3) (AM (Bn Ke Ah (Bn Kh (pv 3) Ah)) Af))) (K2 (CM CD (pv 2) Ah (fun _ _=>rfl)) (Bn JI (Bn Kh (pv 1) Ah) (BV CL rfl An aN (AM (CM CD (pv 2) Ah (fun _ _=>rfl)) Af))) set_list))))
   DQ
 intro u ku;refine⟨_,rfl,a,ns,0,rfl,hS,fun r H0 e0=>?_⟩;refine⟨_,rfl,a,ns,1,rfl,e0.seq hS,fun x1 H1 e1=>⟨x1,5,rfl,by decide,by decide,fun v1 H2 t1 e2 d2 o2 sm2 an2=>?_⟩⟩;have E2:=e0.trans (e1.trans e2);have fin:∀(H':Hp) (t:Tb) (x3:Option V),Dr t→BI K H' a (ns.map V.int)→DU H' (CV t) v1→u { nx:=fun _ H'=>Q .BM H',rt:=Q} [some (.ref a),some (.int r),some v1,x3,none,none,none,none,none,none,none] H':=fun H' t x3 hd hs du=>by
  refine ku _ _ (f7 hd ns r) H' H' H' H' _ _ (Rw.whole rfl (fun i y h=>?_) fun i z h=>?_) fun v G' H'' _ _ _ _ dv=>?_
  ·rcases i with _|_|_|_|_|_|_|_|_|_|_|i
   ·cases h;exact⟨_,rfl,Vc (XO hK hs)⟩
   ·cases h;exact⟨_,rfl,by rw[Du]⟩
   ·cases h;exact⟨_,rfl,du.du⟩
   all_goals first|(cases h;done)|(simp at h)
  ·rcases i with _|_|_|_|_|_|_|_|_|_|_|i
   all_goals first|(cases h;done)|(simp at h)
  ·rw[Du]at dv;subst dv;exact q H''
 refine⟨_,rfl,_,_,rfl,rfl,(by show(0:Int)<4;decide),rfl,_,rfl,FE (fun c=>?_) (fun c=>?_)⟩
 ·have g0:0≤(r / 64) % 10^40:=Int.emod_nonneg _ (by decide);have g1:(r / 64) % 10^40<10^40:=Int.emod_lt_of_pos _ (by decide);refine⟨_,rfl,_,_,rfl,rfl,⟨by decide,by decide⟩,_,_,rfl,rfl,⟨by decide,by decide,by decide⟩,?_⟩;refine⟨_,_,rfl,rfl,?_,?_⟩
  ·show(10:Int)^40≠0
   decide
  obtain⟨g,eg⟩:∃g,(r / 64).fmod ((10:Int)^(40:Int).toNat)=g:=⟨_,rfl⟩;have eq:g=r / 64 % 10^40:=eg.symm.trans (Int.fmod_eq_emod_of_nonneg _ (by decide));rw[←eq]at g0 g1;refine⟨_,rfl,_,rfl,_,_,rfl,rfl,⟨by decide,by decide⟩,_,_,rfl,rfl,?_⟩;refine⟨g,1+g / 3,200,by rw[←eg];rfl,by lia,by decide,?_,fun l H5 e5 hl=>?_⟩
  ·have:(1+g / 3).natAbs<10^41:=by lia
   exact Nat.lt_trans this (by decide)
  obtain⟨p,R,L,xs,zs,rfl,hp,hR,dr,hL,dl⟩:=d2.tab;obtain⟨p',R',L',xs',zs',e,a1,a2,a3,a4,a5,a6⟩:=an2;cases e;rw[hp]at a1;cases a1;rw[hR]at a2;cases a2;rw[hL]at a4;cases a4;refine⟨_,rfl,p,[.ref R,.ref L],1,.ref L,rfl,rfl,CS.of (e5 _ _ hp),rfl,?_⟩;refine⟨_,rfl,_,_,rfl,rfl,⟨by decide,by decide⟩,?_⟩;refine⟨_,rfl,p,[.ref R,.ref L],1,.ref L,rfl,rfl,CS.of (e5 _ _ hp),rfl,?_⟩;have zl:zs.length=t1.ls.length:=by rw[dl.len,FZ]
  have l1:=o2.one;have l2:=o2.last;obtain⟨i,hi,ei⟩:=Iz (r / 4) (n:=zs.length) (by lia);refine⟨L,zs,rfl,.inl (BI.of (e5 _ _ hL)),_,_,rfl,rfl,?_,?_⟩
  ·show((zs.length:Nat):Int)≠0
   lia
  refine⟨L,zs,((i:Nat):Int),i,rfl,congrArg V.int ei,e5 _ _ hL,Y3 hi,?_⟩;have hL5:=e5 _ _ hL;have nRL:R≠L:=fun z=>by
   subst z;rw[hR]at hL;cases hL;obtain⟨b,ws,g0,g1,_⟩:=X1 dr (aa (show 0<t1.rs.length by lia));obtain⟨v,g2,g3⟩:=dl.get (i:=0) (d:=Bt t1.ls[0]) (by rw[Bi,List.getElem?_map,List.getElem?_eq_getElem];rfl);rw[g0]at g2;cases g2;obtain⟨y,ey,g4⟩:=g3.rat;cases ey;rw[g1]at g4;cases g4
  have off:=SJ hL5 (dr.same e5) fun j r' hj=>by
   have:=(aE.mp hj).1;rw[o2.row j r' hj];lia
  have uS:SameBut L H5 (upd H5 L (.lst (zs.set i (.ref l)))):=.upd;have dn:Bo H5 (Bi (t1.ls.set i (Rat.divInt g (1+g / 3)))) (zs.set i (.ref l)):=by
   rw[Bi,List.map_set];exact Bo.set (RM (by rw[←eg]at *;exact hl)) (dl.same e5)
  have pL:p≠L:=fun z=>by subst z;rw[hp]at hL;cases hL
  refine fin (upd H5 L (.lst (zs.set i (.ref l)))) ⟨t1.rs,t1.ls.set i (Rat.divInt g (1+g / 3))⟩ _ (eu o2 sm2 (Vk g g0 g1)) (AU.seq (fun b o z=>?_) hS) (Q7 (by rw[AW pL];exact e5 _ _ hp) (by rw[AW nRL];exact e5 _ _ hR) (GW (off.but uS)) Ad (IG hL5 uS dn));have nb:b≠L:=fun y=>by subst y;rw[(e0.trans e1) _ _ z]at a5;cases a5
  rw[AW nb];exact e5 _ _ (E2 _ _ z)
 ·exact fin H2 t1 _ (g9 o2 sm2) (E2.seq hS) d2
end
section
open PySem.W
theorem fnX{w:World}{mg:Str→Option Value}{h:Heap}(X:(kH w.params).In h)(G:h.Ns mainGlobals mg)(n:String)(i:Nat)(m:String×Nat)(c:Nat)(ps:List Str)
 (ha:nsIn (kH w.params) mainGlobals (Str.ofString n)=some (some (.ref (c+1))):=by kernel_rfl)(hl:(kH w.params).lookup (c+1)=some (fO n i m.1 m.2 c):=by kernel_rfl)(hc:codeIn (kH w.params) (.ref c) (Str.ofString n)=true:=by kernel_rfl)(hk:keepIn (kH w.params) (.ref (c+1))=true:=by kernel_rfl)
 (hb:∀(kV doc pm:Value) (an:Option Addr) (cdv ct:Value) (us:List Value),us.length=ps.length→bindArgs (fnOf (Str.ofString n) (Str.ofString n) (Fs (top i)) (B5 (top i)) (AN (top i)) .none kV doc pm an cdv ct) ⟨us,[]⟩=pure (ps.zip us):=by first|(exact fun _ _ _ _ _ _ us hl=>match us,hl with|[_],_=>rfl)|(exact fun _ _ _ _ _ _ us hl=>match us,hl with|[_,_],_=>rfl)|(exact fun _ _ _ _ _ _ us hl=>match us,hl with|[_,_,_],_=>rfl)|(exact fun _ _ _ _ _ _ us hl=>match us,hl with|[_,_,_,_],_=>rfl)|(exact fun _ _ _ _ _ _ us hl=>match us,hl with|[_,_,_,_,_],_=>rfl)|(exact fun _ _ _ _ _ _ us hl=>match us,hl with|[],_=>rfl)) :
  Fn (kH w.params) mg (Str.ofString n) (top i) ps (c+1) (fnOf (Str.ofString n) (Str.ofString n) (Fs (top i)) (B5 (top i)) (AN (top i)) .none .none .none (.str (Str.ofString m.1) m.2) none (.ref c) .none) :=
 ⟨Vl hl hc hk,(Vl (st:=top i) hl hc hk).binds hb,mg_of X G ha⟩
theorem Kw{w:World}{mg:Str→Option Value}{h:Heap}(X:(kH w.params).In h)(G:h.Ns mainGlobals mg)(n:String)(v:Value)(e:nsIn (kH w.params) mainGlobals (Str.ofString n)=some (some v):=by kernel_rfl):mg (Str.ofString n)=some v:=mg_of X G e
theorem Io{w:World}{mg:Str→Option Value}{h:Heap}(X:(kH w.params).In h)(G:h.Ns mainGlobals mg)(n:String)(e:nsIn (kH w.params) mainGlobals (Str.ofString n)=some none:=by kernel_rfl):mg (Str.ofString n)=none:=mg_none_of X G e
set_option maxHeartbeats 4000000 in
theorem jk(w:World)(mg:Str→Option Value)(fa:Addr)(h:Heap)(X:(kH w.params).In h)(G:h.Ns mainGlobals mg)(hfa:mg "law" = some (.ref fa)) :
  ∃fd:FuncData,(∀(s:Shared) (v:Value),BindsTo s fd ⟨[v],[]⟩ [("_law_script",v)])∧∀base:Heap,(kH w.params).In base→base.Ns mainGlobals mg→CT CH.prog w (kH w.params) mg base Ao 16 fa fd ["_law_script"] (VI (kH w.params)):=by
 have e:=hfa.symm.trans (mg_of X G (v:=.ref 401) (by kernel_rfl));cases e;have Dc:=fnX X G "is_fraction" 15 Pw 177 ["thing"];have Ci:=fnX X G "are_fractions" 16 Pw 184 ["thing"];have HD:=fnX X G "is_whole" 17 Pw 191 ["thing"];have ER:=fnX X G "greatest_divisor" 18 Pw 198 ["one", "other"];have Et:=fnX X G "is_table" 21 Ue 205 ["thing"];have EZ:=fnX X G "refuse_no_table" 22 Ue 212 ["thing"];have I0:=fnX X G "are_rows" 23 Ue 219 ["thing"];have De:=fnX X G "shown_table" 26 Jv 224 ["table"];have FP:=fnX X G "read_table" 27 Jv 229 ["text"];have Cg:=fnX X G "fraction_text" 28 Jv 236 ["part"];have Dz:=fnX X G "fraction_texts" 29 Jv 241 ["some"];have GI:=fnX X G "fraction_in" 30 Jv 248 ["word", "figures"];have Fi:=fnX X G "fractions_in" 31 Jv 253 ["words", "figures"];have Gy:=fnX X G "whole_in" 32 Jv 260 ["word", "figures"];have Cb:=fnX X G "_law_cell_at" 34 CU 267 ["_law_script", "_law_k"];have CK:=fnX X G "_law_mixed" 35 CU 274 ["_law_cell", "_law_k"];have GD:=fnX X G "_law_rest" 36 CU 281 ["_law_script", "_law_k"];have Bl:=fnX X G "_law_ratio" 37 CU 288 ["_law_top", "_law_bottom"];have Gn:=fnX X G "_law_sum" 38 CU 295 ["_law_one", "_law_other"];have Gv:=fnX X G "_law_table" 40 CU 309 ["_law_rest_here", "_law_most"];have Hz:=fnX X G "_law_copy" 41 CU 314 ["_law_table_here"];have Gw:=fnX X G "_law_row" 42 CU 319 ["_law_found", "_law_due"];have GC:=fnX X G "_law_good" 43 CU 324 ["_law_found", "_law_due"];have GG:=fnX X G "_law_part" 44 CU 331 ["_law_some"];have E3:=fnX X G "_law_number" 45 CU 338 ["_law_text"];have FH:=fnX X G "_law_fraction" 46 CU 345 ["_law_text"];have IA:=fnX X G "_law_bent" 47 CU 352 ["_law_text", "_law_number_here", "_law_more"];have EY:=fnX X G "_law_bent_lines" 48 CU 359 ["_law_lines_here", "_law_number_here", "_law_more"];have D2:=fnX X G "_law_alone" 49 CU 364 ["_law_error"];have G8:=fnX X G "_law_lines" 50 CU 369 ["_law_table_here"];have GN:=fnX X G "_law_reader" 51 CU 374 ["_law_text"];have GF:=fnX X G "_law_long" 52 CU 379 ["_law_many"];have EV:=fnX X G "_law_read" 53 CU 386 ["_law_text"];have Fo:=fnX X G "_law_refused" 54 CU 393 ["_law_table_here"];have iP:=fnX X G "law" 55 CU 400 ["_law_script"];have An:=Io X G "len";have Dq:=Io X G "range";have Gz:=Io X G "abs";have AO:=Io X G "isinstance";have DY:=Io X G "int";have K7:=Io X G "bool";have EE:=Io X G "tuple";have Ck:=Io X G "list";have Kc:=Io X G "enumerate";have jU:=Io X G "sorted";have j2:=Io X G "sum";have j3:=Io X G "zip";have Ei:=Io X G "ValueError";have VH:=Io X G "all";have LC:=Io X G "str";have VU:=Io X G "min";have a_MR:nsIn (kH w.params) mainGlobals "MOST_ROWS" = some (some (.int 40 436)):=by kernel_rfl
 have a_MF:nsIn (kH w.params) mainGlobals "MOST_FIGURES" = some (some (.int 40 463)):=by kernel_rfl
 have Ji:=Kw X G "GroveError" (.ref 24);have LL:=Kw X G "NoBottom" (.ref 37);have Nu:=Kw X G "NoTree" (.ref 49);have LQ:=Kw X G "NoChange" (.ref 61);have L6:=Kw X G "NoStart" (.ref 73);have FW:=Kw X G "NoTable" (.ref 85);have Nr:=Kw X G "NoName" (.ref 97);have JO:=Kw X G "NoWeighing" (.ref 109);have Ld:=Kw X G "NotAlike" (.ref 121);have MU:=Kw X G "NoParts" (.ref 133);have Ma:=Kw X G "TooMany" (.ref 145);have GZ:=Kw X G "NoText" (.ref 157);have Nh:=Kw X G "NoLine" (.ref 169);have X_NoTable:Exc (kH w.params) mg "NoTable" 85:=⟨FW,by kernel_rfl⟩;have be_NoTable:DP (kH w.params) 85 24 true:=by constructor<;>kernel_rfl
 have xk_NoTable:Cc (kH w.params) 85:=by constructor<;>kernel_rfl
 have X_NoText:Exc (kH w.params) mg "NoText" 157:=⟨GZ,by kernel_rfl⟩;have be_NoText:DP (kH w.params) 157 24 true:=by constructor<;>kernel_rfl
 have xk_NoText:Cc (kH w.params) 157:=by constructor<;>kernel_rfl
 have bt_NoTable_NoTable:DP (kH w.params) 85 85 true:=by constructor<;>kernel_rfl
 have bt_NoText_NoText:DP (kH w.params) 157 157 true:=by constructor<;>kernel_rfl
 have hK:OS (kH w.params)=true:=by kernel_rfl
 refine⟨fnOf (Str.ofString "law") (Str.ofString "law") (Fs (top 55)) (B5 (top 55)) (AN (top 55)) .none .none .none (.str (Str.ofString "law_stepgrove_k79_tables_as_texts") 518) none (.ref 400) .none,fun s v=>.of_eq rfl,fun base _ _=>?_⟩;have KS:=PySem.W.mg_of X G a_MR;have HW:=PySem.W.mg_of X G a_MF;have jA:=L5 (P:=CH.prog) (w:=w) (base:=base) ER Gz;have iw:=S7 (P:=CH.prog) (w:=w) (base:=base) HD AO DY K7;have WM:=O9 Dc HD ER iw jA AO EE An;have cV:=Ny Ci Dc WM AO Ck;have jd:=Sy I0 Ci cV KS AO Ck An Kc;have jJ:=TQ Et I0 Ci jd (cV.mono) AO EE An;have Ft:=ij (q:=CZ) jJ (fun l d v H Q E hd hq=>⟨l,d,v,rfl,hd,hq⟩);have Eu:=ij (q:=DD) WM (fun l d v H Q E hd hq=>⟨l,d,v,rfl,hd,hq H (.refl _)⟩);have U0:=QQ (P:=CH.prog) (w:=w) (base:=base) Bl Gz;have jL:=Sv Gn Bl (U0.mono);have jK:=QV Gv Bl Gn (U0.mono) jL Dq;have Cv:=je U0;have F6:=Mp (P:=CH.prog) (w:=w) (base:=base) (k:=6) EZ Et (Ft.mono) X_NoTable;have DR:=Nf (P:=CH.prog) (w:=w) (base:=base) (k:=0) Cg;have Es:=NF (P:=CH.prog) (w:=w) (base:=base) (k:=1) Dz Cg (DR.mono);have Ey:=PJ (P:=CH.prog) (w:=w) (base:=base) (k:=7) De Dz (Es.mono) EZ (F6.mono);have Iw:=TC (P:=CH.prog) (w:=w) (base:=base) (k:=4) Gy An DY Ei;have Ig:=Pb (P:=CH.prog) (w:=w) (base:=base) (k:=6) GI Cg (DR.mono) Dc (Eu.mono) Gy (Iw.mono) An;have Hi:=Oz (P:=CH.prog) (w:=w) (base:=base) (k:=7) Fi GI (Ig.mono);have Gs:=QW (P:=CH.prog) (w:=w) (base:=base) (k:=8) FP Fi (Hi.mono) Et (Ft.mono) An HW X_NoText;have C5:=OY (P:=CH.prog) (w:=w) (base:=base) (k:=0) Cb An;have Co:=QO (P:=CH.prog) (w:=w) (base:=base) (k:=0) CK;have Hx:=SI (P:=CH.prog) (w:=w) (base:=base) (k:=1) GD Cb (C5.mono) CK (Co.mono) Gz;have Kb:=RD (P:=CH.prog) (w:=w) (base:=base) (k:=0) Hz Ck;have Iq:=S4 (P:=CH.prog) (w:=w) (base:=base) (k:=0) Gw K7 DY AO Ck EE;have Hy:=Si (P:=CH.prog) (w:=w) (base:=base) (k:=1) GC Gw (Iq.mono) VH AO An Ck Dq EE;have Hv:=Q5 (P:=CH.prog) (w:=w) (base:=base) (k:=0) GG DY LC;have GK:=Pm (P:=CH.prog) (w:=w) (base:=base) (k:=0) E3 An;have HJ:=Nv (P:=CH.prog) (w:=w) (base:=base) (k:=4) FH E3 (GK.mono) Bl (Cv.mono) DY An;have IV:=Pf (P:=CH.prog) (w:=w) (base:=base) (k:=5) GN FH (HJ.mono) DY An Dq;have KQ:=Q8 (P:=CH.prog) (w:=w) (base:=base) (k:=0) IA An VU;have F5:=ME (P:=CH.prog) (w:=w) (base:=base) (k:=0) EY An Ck;have Jg:=QP (P:=CH.prog) (w:=w) (base:=base) (k:=1) G8 GG (Hv.mono);have IB:=Qq (P:=CH.prog) (w:=w) (base:=base) (k:=0) GF Dq;have Ed:=QR (P:=CH.prog) (w:=w) (base:=base) (k:=0) D2 Ei AO An Ji LL LQ Nh Nr MU L6 FW GZ Nu JO Ld Ma (Ym xk_NoTable xk_NoText) (GO (c:=37) xk_NoTable xk_NoText) (GO (c:=61) xk_NoTable xk_NoText) (GO (c:=169) xk_NoTable xk_NoText) (GO (c:=97) xk_NoTable xk_NoText) (GO (c:=133) xk_NoTable xk_NoText) (GO (c:=73) xk_NoTable xk_NoText) (GO (c:=85) xk_NoTable xk_NoText) (GO (c:=157) xk_NoTable xk_NoText) (GO (c:=49) xk_NoTable xk_NoText) (GO (c:=109) xk_NoTable xk_NoText) (GO (c:=121) xk_NoTable xk_NoText) (GO (c:=145) xk_NoTable xk_NoText) (Ym xk_NoTable xk_NoText);have O_shown_table:=Xk [85] Ey;have O_read_table:=Wt [157] Gs
 have hBt:∀(m:List PyData→Option Xr) (C:Addr) (b:DP (kH w.params) C C true) (ds:List PyData) (C':Addr),only [C] m ds=some (.inr C')→DP (kH w.params) C' C true:=fun m C b ds C' h=>by rw[List.mem_singleton.mp (ZT h)];exact b
 have Hr:=OC (P:=CH.prog) (w:=w) (base:=base) (k:=9) Fo D2 (Ed.mono) De (O_shown_table.mono) FW (hBt _ 85 bt_NoTable_NoTable);have i8:=Sm (P:=CH.prog) (w:=w) (base:=base) (k:=10) EV FP GN D2 GC (O_read_table.mono) (IV.mono) (Ed.mono) (Hy.mono) GZ (hBt _ 157 bt_NoText_NoText);have E8:=jc i8;exact fZ (P:=CH.prog) (w:=w) (base:=base) (k:=15) hK iP GD Gv Bl ((gE hK Hx).mono) (jK.mono) (U0.mono) An (fun cdv A outer s H E hr=>YQ (P:=CH.prog) (w:=w) (base:=base) (k:=15) IA (KQ.mono) EY (F5.mono) Cb (C5.mono) Hz (Kb.mono) G8 (Jg.mono) GF (IB.mono) CK (Co.mono) EV (E8.mono) Fo (Hr.mono) De (O_shown_table.mono) AO LC cdv A outer s H E hr)
section
open PyProof.Rows PySem.Calls
theorem openX(hw:CH.row.toRowW.promised)(hc:L2.O4 qX [] (XL qX []) hX.says CH.row.toRowW dX []):CH.Holds :=
 holds_law hW fun said=>L2.TF (r:=CH.row) (q:=qX) (loose:=[]) (Xt:=UQ) (XP:=XL qX []) (Yf:=hX.obs) (Ya:=hX.val) (YP:=hX.says) (d:=dX) (kwd:=[]) (N:=7898) gp hX.of hX.keeps (fun s e=>xl_of s (Bool.and_eq_true_iff.mp e).1) XL.keeps i3 i7 js (fun s e=>recFacts_of (Bool.and_eq_true_iff.mp e).2) rfl said jX iK hw hc
end
theorem walkX:L2.O4 qX [] (XL qX []) hX.says CH.row.toRowW dX [] :=
 L2.XU (l:=CH) (n:=63) (k:=16) (x := "_law_script") (CX:=fun _=>Ao) (K:=kH) (sp:=fun w=>VI (kH w.params)) rfl (by decide) rfl ⟨rfl,by decide,by decide⟩ (fun w mg h X G H=>.no (mg_none_of X G (by kernel_rfl)) (mg_none_of X G (by kernel_rfl)) H) (fun w h Y=>kIn_of Y) jk (fun _ _ a ns hl _ hS=>⟨a,ns,rfl,hS,hl,fun _=>rfl⟩) fun _ _ _ _ _ z=>z
end
end Q79
open PySem PySem.W PyProof.Rows
set_option maxRecDepth 100000 in
theorem PySem.Challenge.cw_stepgrove_k79_tables_as_texts_holds : PySem.Challenge.rw_stepgrove_k79_tables_as_texts.Holds := by
  refine Q79.openX ?hw Q79.walkX
  w_witness2
#print axioms PySem.Challenge.cw_stepgrove_k79_tables_as_texts_holds
