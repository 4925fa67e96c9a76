import PyProof.Rows.All
import Wide.All
import OpenK.AllK
import Wide.FinOn
import Lean
import PyProof.EqAt
import PyProof.EqKinds
import PyProof.TupleCall
import PySem.Challenge.RW_stepgrove_k81_refused_things_to_show
set_option Elab.async false
set_option linter.all false
set_option maxRecDepth 100000
set_option maxHeartbeats 4000000
abbrev aA:=@PySem.wpAny_bind
abbrev aB:=@Option.bind_eq_some_iff
abbrev aC:=@Option.map_eq_some_iff
abbrev aD:=@PySem.wpAny_pure
abbrev aE:=@PySem.Heap.get?_push_of_some
abbrev aF:=@PySem.Heap.lt_size
abbrev aG:=@List.getElem?_eq_some_iff
abbrev aH:=@Nat.le_refl
abbrev aI:=@List.mem_cons
abbrev aJ:=@Nat.lt_of_lt_of_le
abbrev aK:=@Bool.false_ne_true
abbrev aL:=@Nat.ne_of_lt
abbrev aM:=@PyProof.Rows.boot_isinstance
abbrev aN:=@PySem.wpAny_mono
abbrev aO:=@decide_eq_false
abbrev aP:=@List.mem_map
abbrev aQ:=@PySem.boot_len
abbrev aR:=@PySem.Heap.get?_push_size
abbrev aS:=@Option.some.inj
abbrev aT:=@PySem.wpAny_newObj_type
abbrev aU:=@Bool.eq_false_iff
abbrev aV:=@List.mem_append_right
abbrev aW:=@PyProof.Rows.boot_tuple
abbrev aX:=@of_decide_eq_true
abbrev aY:=@Nat.le_of_ble_eq_true
abbrev aZ:=@PySem.PassesOwn.never
abbrev aa:=@List.mem_cons_of_mem
abbrev ae:=@PySem.W.kia_one
abbrev af:=@Nat.le_trans
abbrev ag:=@PySem.wpAny_field
abbrev ah:=@of_decide_eq_false
abbrev ai:=@PySem.wpAny_callSpecial?_slot
abbrev aj:=@PySem.wpAny_call_entry
abbrev ak:=@PyProof.Rows.boot_list
abbrev ao:=@List.map_congr_left
abbrev aq:=@PySem.wpAny_ite_false
abbrev ar:=@Nat.zero_le
abbrev au:=@List.mem_of_getElem?
abbrev av:=@decide_eq_true
abbrev ax:=@PySem.F.plainAttrs_list
abbrev ay:=@List.mem_append
abbrev az:=@PyProof.Rows.callWith_type1
abbrev bA:=@congrArg
abbrev bC:=@List.mem_cons_self
abbrev bD:=@Nat.not_lt_zero
abbrev bE:=@PyProof.Rows.KeyOrd.kle_refl
abbrev bF:=@PySem.wpAny_holding
abbrev bG:=@PySem.wpAny_seqItems
abbrev bH:=@PyProof.Rows.boot_abs
namespace Opn
open PySem PySem.W PyProof.Rows PySem.Calls
noncomputable def q0:Pos:=⟨0,0,0,0⟩
noncomputable def dY:Obj:={ cls:=.type "tuple",data:=.seq #[]}
noncomputable def dW:Obj:={ cls:=.none,data:=.fields #[]}
noncomputable def dZ:Obj:={ cls:=.type "code",data:=.fields #[.str (Str.ofString "<module>") 182,.str (Str.ofString "<module>") 183,.str (Str.ofString "/claim/cut.py") 184,.int 1 0,.int 0 0,.int 0 0,.int 0 0,.int 0 0,.ref 11,.bool false,.int 181 0,.ref 12,.none,.none,.none,.none,.int 185 0,.int 1 0,.str (Str.ofString "/claim/cut.py") 186]}
noncomputable def dr:Obj:={ cls:=.type "frame",slots:=#[some (.ref 13),some (.ref 3),some (.ref 3),none,some (.str (Str.ofString "__main__") 164),none,some (.ref 0)]}
noncomputable def cH(P:Params):List Obj:=(boot_heap P).objs.toList++[dY,dW,dZ,dr]
noncomputable def nN(P:Params)(o:Params→Obj)(l r:BT):BT:=.node (o P) l r
noncomputable def lN(P:Params)(o:Params→Obj):BT:=.node (o P) .nil .nil
noncomputable def bx(P:Params):BT :=
 nN P boot_o_0 (nN P boot_o_1 (nN P boot_o_3 (lN P boot_o_7) (.node dY .nil .nil)) (nN P boot_o_5 (lN P boot_o_9) (.node dZ .nil .nil)))
  (nN P boot_o_2 (nN P boot_o_4 (lN P boot_o_8) (.node dW .nil .nil)) (nN P boot_o_6 (lN P boot_o_10) (.node dr .nil .nil)))
noncomputable def Wx:Life:=Life.mk [] [] [] 0 [] [] false #[] [] 0 false false false 0 [2000,10,10] false 0 true [] [] 0 false
noncomputable def sA(w:World)(os:OsState):Shared:=⟨⟨⟨cH w.params⟩,Wx⟩,#[],boot_drawn,187,os⟩
noncomputable def sB(w:World)(os:OsState):SharedT:=⟨bx w.params,15,Wx,#[],boot_drawn,187,os⟩
noncomputable def MM(p:Program):Env:={ scope:=p.main.scope,locals:=mainNs,globals:=mainNs,cells:=[],code:=.ref 13,frame:=some 14}
noncomputable def cB(p:Program):Code:=.body (behindTheImports p) (MM p)
noncomputable abbrev Ge:Option Value:=some (.ref 6)
noncomputable abbrev bB:List Frame:=[topFrame q0]
noncomputable def SV(p:Program)(M:Nat)(w:World)(os:OsState):Option (Flow×SharedT×Code×Pos) :=
 PySem.W.Fast.tw10110043849684766642 PySem.W.Fast.tw14364793385576792824 p w 11 Ge 1 M (sB w os) (piecesOf (behindTheImports p) (MM p) (cB p) q0 bB)
noncomputable def R9(p:Program)(M:Nat)(w:World)(os:OsState):SharedT:=match SV p M w os with|some (_,s,_)=>s|none=>sB w os
theorem YF{p:Program}{M:Nat}{w:World}{os:OsState}{r:Option (Flow×SharedT×Code×Pos)}(h:SV p M w os=r) :
  segRunT treeTable p w 11 Ge 1 M (sB w os) (piecesOf (behindTheImports p) (MM p) (cB p) q0 bB)=r:=by
 have e:segRunT treeTable=PySem.W.Fast.tw10110043849684766642 PySem.W.Fast.tw14364793385576792824:=congr PySem.W.Fast.te10110043849684766642 PySem.W.Fast.te14364793385576792824;rw[e];exact h
theorem Y8{p:Program}{M M0:Nat}{posE:Pos}{w:World}{os:OsState}
 (pre:topGo treeTable p w 11 Ge 12 ⟨boot_heap w.params,#[],boot_drawn,boot_toks,os⟩ (topStub p)=some (sA w os,⟨denote treeTable (cB p),cB p,q0,bB⟩))
 (blk:segRun treeTable p w 11 Ge 1 1 (sA w os) (blockOf (behindTheImports p) (MM p) (cB p) q0 bB)=some (.next,(sB w os).abs,cB p,q0))
 (seg:SV p M w os=some (.next,R9 p M w os,cB p,posE))
 (fin:∀s,topRun treeTable p w 11 Ge 2 s (restOf [] (MM p) (cB p) posE bB)=some s)(hM:M0=12+(1+(M+2))) :
  topRun treeTable p w 11 Ge M0 ⟨boot_heap w.params,#[],boot_drawn,boot_toks,os⟩ (topStub p)=some (R9 p M w os).abs:=by
 subst hM;refine go_top pre (piece_block blk ?_);have h:=piece_app (rest:=[]) (segRun_of (YF seg)) (fin _);rw[List.append_nil]at h;exact h
theorem W8{p q:Program}{loose:List Str}{Xt:Shared→Bool}{α:Type}{Yf:Shared→α}{Ya:World→α}{N M:Nat}{S:World→OsState→Shared}
 (open_:∀w:World,(fencedOpening treeTable p w N).map (fun s=>(s.heap,s.gens,s.drawn,s.toks))=some (boot_heap w.params,#[],boot_drawn,boot_toks))
 (size:∀w:World,((boot_heap w.params).isNs mainGlobals&&(#[]:Array GenState).size==0,(boot_heap w.params).objs.size,(boot_heap w.params).nsMap mainGlobals "__annotations__")=(true,11,Ge))
 (run:∀w os,topRun treeTable p w 11 Ge M ⟨boot_heap w.params,#[],boot_drawn,boot_toks,os⟩ (topStub p)=some (S w os))(le:Nat.ble M N=true)
 (ok:∀w os,(staticsOk (importedModules p.main.body) (boot_heap w.params) (S w os).heap&&namesBound p (S w os).heap&&gensDone (S w os)&&laidKept (boot_heap w.params) (S w os).heap)=true)
 (seen:∀w os,openSeen q loose (importedModules p.main.body) Xt true (S w os)=openGood q loose)
 (hY:∀w os,Yf (S w os)=Ya w):LeftO p q loose Xt Yf Ya N:=fun w=>by
 obtain⟨⟨h,gs,d,k,os⟩,e,e'⟩:=aC.mp (open_ w);obtain⟨rfl,rfl,rfl,rfl⟩:h=boot_heap w.params∧gs=#[]∧d=boot_drawn∧k=boot_toks:=by simpa using e'
 obtain⟨z1,z2,z3⟩:_∧_∧_:=by simpa only[Prod.mk.injEq]using size w
 have l1:=ok w os;have r:=topRun_mono (N-M) _ _ _ _ (run w os);rw[show M+(N-M)=N by have:=aY le;lia]at r;have t:topFrom treeTable p w N ⟨boot_heap w.params,#[],boot_drawn,boot_toks,os⟩=some (S w os):=by
  unfold topFrom;dsimp only;rw[z1,z2,z3,r];show(match staticsOk (importedModules p.main.body) (boot_heap w.params) (S w os).heap&&namesBound p (S w os).heap&&gensDone (S w os)&&laidKept (boot_heap w.params) (S w os).heap with|true=>_|false=>_)=_;rw[l1]
 unfold openEnds;rw[e];show(topFrom treeTable p w N _).map _=_;rw[t];exact bA some (Prod.ext (seen w os) (hY w os))
theorem cz(w:World):((boot_heap w.params).isNs mainGlobals&&(#[]:Array GenState).size==0,(boot_heap w.params).objs.size,(boot_heap w.params).nsMap mainGlobals "__annotations__")=(true,11,Ge):=by kernel_rfl
end Opn
namespace Q81
open PySem
def top(i:Nat):Stmt:=PySem.Challenge.pw_stepgrove_k81_refused_things_to_show.main.body.getD i (.Pass ⟨0,0,0,0⟩)
end Q81
namespace L2
open PySem
def EZ(s:Stmt):Arguments:=match s with
 |.FunctionDef _ a _ _ _ _ _ _ _ _=>a
 |_=>{ posonlyargs:=[],args:=[],vararg:=none,kwonlyargs:=[],kw_defaults:=[],kwarg:=none,defaults:=[]}
def Cs(s:Stmt):List Stmt:=match s with
 |.FunctionDef _ _ b _ _ _ _ _ _ _=>b
 |_=>[]
def AO(s:Stmt):Scope:=match s with
 |.FunctionDef _ _ _ _ _ _ sc _ _ _=>sc
 |_=>{ kind:=.function,names:=[],isGenerator:=false,isCoroutine:=false}
end L2
namespace Q81
open PySem L2
section
open PySem.W PyProof.Rows PySem.Calls
abbrev DY:Program:=PySem.Challenge.pw_stepgrove_k81_refused_things_to_show
abbrev B6:OpenLaw:=PySem.Challenge.rw_stepgrove_k81_refused_things_to_show
noncomputable abbrev dE(P:Params)(x:String)(t:Nat)(v:Value):DictEntry:=⟨PyData.keyHash P (Str.ofString x),.str (Str.ofString x) t,v⟩
noncomputable abbrev sV(x:String)(t:Nat):Value:=.str (Str.ofString x) t
noncomputable abbrev fO(n:String)(i:Nat)(m:String)(t c:Nat):Obj:=⟨.type "function",none,.func (fnOf n n (EZ (top i)) (Cs (top i)) (AO (top i)) .none .none .none (.str (Str.ofString m) t) none (.ref c) .none),#[]⟩
noncomputable abbrev cO(n:String)(t l a k r:Nat)(b:Bool)(r2:Nat)(v1 v2 v3 v4:Value)(t2:Nat):Obj:=⟨.type "code",none,.fields #[sV n t,sV n (t+1),sV "/claim/cut.py" (t+2),.int l 0,.int a 0,.int 0 0,.int 0 0,.int k 0,.ref r,.bool b,.int 181 0,.ref r2,v1,v2,v3,v4,.int t2 0,.int l 0,sV "/claim/cut.py" (t2+1)],#[]⟩
noncomputable abbrev N1:String×Nat:=("stepgrove.fracs",399)
noncomputable abbrev Rb:String×Nat:=("stepgrove.polys",434)
noncomputable abbrev Q3:String×Nat:=("stepgrove.trees",463)
noncomputable abbrev Wi:String×Nat:=("stepgrove.changes",487)
noncomputable abbrev Q8:String×Nat:=("stepgrove.tables",504)
noncomputable abbrev Fu:String×Nat:=("stepgrove.texts",531)
noncomputable abbrev dm:String×Nat:=("stepgrove.orders",602)
noncomputable abbrev Fq:String×Nat:=("law_stepgrove_k81_refused_things_to_show",610)
noncomputable def oC(P:Params)(K:Frag):Nat→List String→Frag
 |_,[]=>K
 |k,x::xs=>(16+12*k,⟨.type "tuple",none,.seq #[.ref 24] 0,#[]⟩)::(23+12*k,⟨.type "tuple",none,.seq #[] 0,#[]⟩) ::
  (24+12*k,⟨.type "dict",none,.dict #[dE P "__module__" (198+16*k) (sV "stepgrove.errors" 187),dE P "__firstlineno__" (202+16*k) (.int (Int.ofNat (2+2*k)) (201+16*k)),dE P "__static_attributes__" (203+16*k) (.ref (23+12*k)),dE P "__doc__" (204+16*k) .none] 2,#[]⟩) ::
  (25+12*k,⟨.type "type",none,.cls ⟨Str.ofString x,[.ref 24],[.ref (25+12*k),.ref 24,.type "ValueError",.type "Exception",.type "BaseException",.type "object"],24+12*k,Str.ofString x,true,[],[],false,none,false⟩,#[some (.ref (16+12*k)),none,some (sV x (191+16*k)),some (sV x (199+16*k)),some (.builtin "ValueError.__new__"),some (.bool true)]⟩)::oC P K (k+1) xs
noncomputable def oW(m:String×Nat)(n:String)(t l a r t2 i:Nat)(K:Frag):Frag:=(r+5,cO n t l a 3 r true (r+1) .none (.ref (r+2)) (.ref (r+3)) (.ref (r+4)) t2)::(r+6,fO n i m.1 m.2 (r+5))::K
noncomputable def oN(m:String×Nat)(n:String)(t l a r t2 i:Nat)(K:Frag):Frag:=(r+3,cO n t l a 3 r true (r+1) .none .none .none (.ref (r+2)) t2)::(r+4,fO n i m.1 m.2 (r+3))::K
def d9:Nat→List Nat→List Nat
 |_,[]=>[]
 |a,d::ds=>(a+d)::d9 (a+d) ds
noncomputable abbrev dR(P:Params)(x:String)(t a:Nat):DictEntry:=dE P x t (.ref a)
noncomputable def kH:Params→Frag:=fun P =>
 (nat_lit 2,⟨.none,none,(.dict #[] 0),#[]⟩) ::
 (nat_lit 3,⟨(.type "dict"),none,(.dict #[dE P "__name__" 165 (sV "law_stepgrove_k81_refused_things_to_show" 610),dE P "__doc__" 166 .none,dE P "__package__" 167 .none,dE P "__loader__" 168 (.builtin "__main__.__loader__#opaque"),dE P "__spec__" 169 .none,dR P "__annotations__" 170 6,dR P "__builtins__" 171 4,dE P "__file__" 173 (sV "/claim/cut.py" 172),dE P "__cached__" 174 .none,dR P "GroveError" 206 24,dR P "NoBottom" 222 37,dR P "NoTree" 238 49,dR P "NoChange" 254 61,dR P "NoStart" 270 73,dR P "NoTable" 286 85,dR P "NoName" 302 97,dR P "NoWeighing" 318 109,dR P "NotAlike" 334 121,dR P "NoParts" 350 133,dR P "TooMany" 366 145,dR P "NoText" 382 157,dR P "NoLine" 398 169,dR P "is_fraction" 407 178,dR P "are_fractions" 415 185,dR P "is_whole" 422 192,dR P "greatest_divisor" 433 199,dR P "is_poly" 445 206,dR P "is_term" 453 213,dR P "are_powers" 462 220,dR P "is_tree" 473 227,dR P "refuse_no_tree" 480 234,dR P "parents_within" 486 239,dR P "is_change" 496 246,dR P "refuse_no_change" 503 253,dE P "MOST_ROWS" 507 (.int 40 506),dR P "is_table" 514 260,dR P "refuse_no_table" 521 267,dR P "are_rows" 530 274,dR P "UNKNOWNS" 537 275,dR P "shown_tree" 544 282,dR P "shown_table" 550 287,dR P "shown_change" 557 294,dR P "fraction_text" 566 301,dR P "fraction_texts" 572 306,dR P "tree_text" 578 311,dR P "change_text" 584 316,dR P "poly_text" 590 321,dR P "term_text" 601 328,dR P "parting_change" 609 333,dR P "_law_cell_at" 619 340,dR P "_law_mixed" 628 347,dR P "_law_rest" 638 354,dR P "_law_ratio" 648 361,dR P "_law_sum" 656 368,dR P "_law_times" 664 375,dR P "_law_change" 670 380,dR P "_law_alone" 676 385,dR P "_law_refusal" 687 392,dR P "_law_spoilt" 693 397,dR P "law" 699 402] 60),#[]⟩) ::
 (nat_lit 15,⟨(.type "tuple"),none,(.seq #[(.type "ValueError")] 0),#[]⟩) ::
 (nat_lit 22,⟨(.type "tuple"),none,(.seq #[] 0),#[]⟩) ::
 (nat_lit 23,⟨(.type "dict"),none,(.dict #[dE P "__module__" 196 (sV "stepgrove.errors" 187),dE P "__firstlineno__" 200 (.int 2 199),dR P "__static_attributes__" 201 22,dR P "__weakref__" 203 25,dE P "__doc__" 204 .none] 3),#[]⟩) ::
 (nat_lit 24,⟨(.type "type"),none,(.cls ⟨Str.ofString "GroveError",[(.type "ValueError")],[(.ref 24),(.type "ValueError"),(.type "Exception"),(.type "BaseException"),(.type "object")],23,Str.ofString "GroveError",true,[],[(.ref 37),(.ref 49),(.ref 61),(.ref 73),(.ref 85),(.ref 97),(.ref 109),(.ref 121),(.ref 133),(.ref 145),(.ref 157),(.ref 169)],false,none,false⟩),#[some (.ref 15),none,some (sV "GroveError" 189),some (sV "GroveError" 197),some (.builtin "ValueError.__new__"),some (.bool true)]⟩) ::
 (nat_lit 25,⟨(.type "getset_descriptor"),none,(.fields #[(sV "__weakref__" 202),(.ref 24),(.builtin "ExceptionGroup.__weakref__"),.none]),#[]⟩) ::
 oC P (
 oW N1 "is_fraction" 401 29 1 172 405 15 (
 oW N1 "are_fractions" 408 35 1 179 413 16 (
 oW N1 "is_whole" 416 42 1 186 420 17 (
 oW N1 "greatest_divisor" 423 44 2 193 431 18 (
 oW Rb "is_poly" 436 53 2 200 443 20 (
 oW Rb "is_term" 446 60 2 207 451 21 (
 oW Rb "are_powers" 454 64 2 214 460 22 (
 oW Q3 "is_tree" 465 72 1 221 471 24 (
 oW Q3 "refuse_no_tree" 474 81 1 228 478 25 (
 oN Q3 "parents_within" 481 84 1 235 484 26 (
 oW Wi "is_change" 489 92 1 240 494 28 (
 oW Wi "refuse_no_change" 497 99 1 247 501 29 (
 oW Q8 "is_table" 508 104 1 254 512 32 (
 oW Q8 "refuse_no_table" 515 108 1 261 519 33 (
 oW Q8 "are_rows" 522 111 1 268 528 34 (
 oW Fu "shown_tree" 538 120 1 276 542 37 (
 oN Fu "shown_table" 545 123 1 283 548 38 (
 oW Fu "shown_change" 551 128 1 288 555 39 (
 oW Fu "fraction_text" 558 133 1 295 564 40 (
 oN Fu "fraction_texts" 567 137 1 302 570 41 (
 oN Fu "tree_text" 573 139 1 307 576 42 (
 oN Fu "change_text" 579 141 1 312 582 43 (
 oN Fu "poly_text" 585 143 1 317 588 44 (
 oW Fu "term_text" 591 147 2 322 599 45 (
 oN dm "parting_change" 604 153 1 329 607 47 (
 oW Fq "_law_cell_at" 612 162 2 334 617 49 (
 oW Fq "_law_mixed" 620 166 2 341 626 50 (
 oW Fq "_law_rest" 629 170 2 348 636 51 (
 oW Fq "_law_ratio" 639 176 2 355 646 52 (
 oN Fq "_law_change" 665 188 3 376 668 55 (
 oN Fq "_law_alone" 671 208 1 381 674 56 (
 oW Fq "_law_refusal" 677 216 2 386 685 57 (
 oN Fq "_law_spoilt" 688 236 2 393 691 58 (
 oN Fq "law" 694 261 1 398 697 59 (
 []))))))))))))))))))))))))))))))))))) 1 ["NoBottom", "NoTree", "NoChange", "NoStart", "NoTable", "NoName", "NoWeighing", "NotAlike", "NoParts", "TooMany", "NoText", "NoLine"]
noncomputable def YK:List Value:=[(sV "x" 533),(sV "y" 534),(sV "z" 535),(sV "w" 536)]
noncomputable def kF:Params→Frag:=fun P=>(nat_lit 275,⟨.type "tuple",none,.seq YK.toArray 0,#[]⟩)::kH P
abbrev qX:Program:=view DY [1,2,3,4,5,6,7,8,9,10,11,12,13,15,16,17,18,20,21,22,24,25,26,28,29,31,32,33,34,36,37,38,39,40,41,42,43,44,45,47,49,50,51,52,53,54,55,56,57,58,59]
noncomputable abbrev hX:Hook:=kHook kF (275::d9 0 [2,1,12,7,1,1,1,3,7,1,1,3,7,1,1,3,7,1,1,3,7,1,1,3,7,1,1,3,7,1,1,3,7,1,1,3,7,1,1,3,7,1,1,3,7,1,1,3,7,1,1,3,7,1,1,8,1,6,1,6,1,6,1,6,1,6,1,6,1,6,1,6,1,4,1,6,1,6,1,6,1,6,1,6,1,7,1,4,1,6,1,6,1,4,1,4,1,4,1,4,1,6,1,4,1,6,1,6,1,6,1,6,1,18,1,4,1,6,1,4,1,4,1]) (fun _=>by kernel_rfl)
noncomputable def dX:DefRec:=⟨Str.ofString "law",EZ (top 59),Cs (top 59),AO (top 59),⟨261,0,280,102⟩⟩
theorem cy:B6.wellSaid=true:=(congrFun PySem.W.Fast.te9446332074065402090 _).trans (by kernel_rfl)
theorem eG(w:World)(os:OsState):topGo treeTable DY w 11 Opn.Ge 12 ⟨boot_heap w.params,#[],boot_drawn,boot_toks,os⟩ (topStub DY)=some (Opn.sA w os,⟨denote treeTable (Opn.cB DY),Opn.cB DY,Opn.q0,Opn.bB⟩):=by kernel_rfl
theorem eo(w:World)(os:OsState):segRun treeTable DY w 11 Opn.Ge 1 1 (Opn.sA w os) (blockOf (behindTheImports DY) (Opn.MM DY) (Opn.cB DY) Opn.q0 Opn.bB)=some (.next,(Opn.sB w os).abs,Opn.cB DY,Opn.q0):=by kernel_rfl
theorem en(w:World)(s:Shared):topRun treeTable DY w 11 Opn.Ge 2 s (restOf [] (Opn.MM DY) (Opn.cB DY) ⟨261,0,280,102⟩ Opn.bB)=some s:=by kernel_rfl
theorem fD(w:World)(os:OsState):Opn.SV DY 3895 w os=some (.next,Opn.R9 DY 3895 w os,Opn.cB DY,⟨261,0,280,102⟩):=by kernel_rfl
noncomputable abbrev sX(w:World)(os:OsState):Shared:=(Opn.R9 DY 3895 w os).abs
theorem eQ(w:World)(os:OsState):(staticsOk (importedModules DY.main.body) (boot_heap w.params) (sX w os).heap&&namesBound DY (sX w os).heap&&gensDone (sX w os)&&laidKept (boot_heap w.params) (sX w os).heap)=true:=by kernel_rfl
theorem cw(w:World)(os:OsState):hX.obs (sX w os)=hX.val w:=by kernel_rfl
noncomputable abbrev Rg:Shared→Bool:=fun s=>xlAt qX [] s&&recOk (RowW.records B6.row.toRowW) s
theorem cm(w:World)(os:OsState):(openSeen qX [] (importedModules DY.main.body) Rg true (sX w os)).1=(openGood qX []).1:=by kernel_rfl
theorem cJ(w:World)(os:OsState):(openSeen qX [] (importedModules DY.main.body) Rg true (sX w os)).2.1=(openGood qX []).2.1:=by kernel_rfl
theorem bj(w:World)(os:OsState):(openSeen qX [] (importedModules DY.main.body) Rg true (sX w os)).2.2=(openGood qX []).2.2:=by kernel_rfl
theorem bq(w:World)(os:OsState):openSeen qX [] (importedModules DY.main.body) Rg true (sX w os)=openGood qX []:=Prod.ext (cm w os) (Prod.ext (cJ w os) (bj w os))
theorem b6(w:World):(fencedOpening treeTable DY w 7914).map (fun s=>(s.heap,s.gens,s.drawn,s.toks))=some (boot_heap w.params,#[],boot_drawn,boot_toks):=boot_open (p:=DY) (N:=7914) (by kernel_rfl) (by kernel_rfl) (fun _=>by kernel_rfl) w
theorem cQ:LeftO DY qX [] Rg hX.obs hX.val 7914:=Opn.W8 (M:=3910) (S:=sX) b6 Opn.cz (fun w os=>Opn.Y8 (eG w os) (eo w os) (fD w os) (en w) (by kernel_rfl)) (by kernel_rfl) eQ bq cw
theorem eT:defOf qX B6.row.name=some (dX,[]):=by kernel_rfl
theorem eX:DY.theDef B6.row.name=some (dX.params,dX.body,dX.scope):=by kernel_rfl
theorem fR:kwWritten? dX.params.kwonlyargs dX.params.kw_defaults=some []:=by kernel_rfl
theorem eD:(chainsOk qX&&opensWell B6.row.prog&&(frees B6.row.toRowW&&B6.row.within.isEmpty))=true:=by kernel_rfl
theorem dC:DY.bare:=⟨rfl,rfl,rfl,rfl,rfl,by decide +kernel⟩
theorem openX(hw:B6.row.toRowW.promised)(hc:WalkO qX [] (XL qX []) hX.says B6.row.toRowW dX [] (fun f vs=>PySem.call f vs)):B6.Holds :=
 holds_law cy fun said=>holds_open (r:=B6.row) (q:=qX) (loose:=[]) (Xt:=Rg) (XP:=XL qX []) (Yf:=hX.obs) (Ya:=hX.val) (YP:=hX.says) (d:=dX) (kwd:=[]) (N:=7914) cQ hX.of hX.keeps (fun s e=>xl_of s (Bool.and_eq_true_iff.mp e).1) XL.keeps eT eX fR (fun s e=>recFacts_of (Bool.and_eq_true_iff.mp e).2) rfl said eD dC hw hc
end
end Q81
namespace L2
open PySem PySem.Spec PyProof.Rows
abbrev Key:=Sum Int Str
def LY:Key→Value→Bool
 |.inl k,v=>Value.isInt k v
 |.inr x,v=>Value.isStrOf x v
def el(w:World):Key→Int
 |.inl k=>hashInt k
 |.inr x=>hashStr w x
theorem CQ:∀ {k:Key} {v:Value},LY k v=true→(∃i t,k=Sum.inl i∧v=Value.int i t)∨(∃x t,k=Sum.inr x∧v=Value.str x t)
 |.inl i,v,h=>by
  obtain⟨t,e⟩:=Value.isInt_shape (k:=i) (v:=v) h;exact .inl ⟨i,t,rfl,e⟩
 |.inr x,v,h=>by
  obtain⟨t,e⟩:=Value.isStrOf_shape (x:=x) (v:=v) h;exact .inr ⟨x,t,rfl,e⟩
theorem Tx(i:Int)(t:Tok):LY (.inl i) (.int i t)=true:=by simp[LY,Value.isInt]
theorem T9(x:Str)(t:Tok):LY (.inr x) (.str x t)=true:=by simp[LY,Value.isStrOf]
theorem bP(a b:Int):decide ((Sum.inl a:Key)=Sum.inl b)=(a==b):=by
 by_cases e:a=b
 ·subst e;simp
 ·have h:¬(Sum.inl a:Key)=Sum.inl b:=fun q=>e (Sum.inl.inj q);rw[decide_eq_false h];exact(beq_eq_false_iff_ne.mpr e).symm
theorem bS(a b:Str):decide ((Sum.inr a:Key)=Sum.inr b)=decide (a=b):=by
 by_cases e:a=b
 ·subst e;simp
 ·have h:¬(Sum.inr a:Key)=Sum.inr b:=fun q=>e (Sum.inr.inj q);rw[decide_eq_false h,decide_eq_false e]
theorem bT(a:Int)(b:Str):decide ((Sum.inl a:Key)=Sum.inr b)=false:=aO (fun q=>nomatch q)
theorem bJ(a:Str)(b:Int):decide ((Sum.inr a:Key)=Sum.inl b)=false:=aO (fun q=>nomatch q)
def Cr(prog:Program)(w:World):PySem.KeyKind prog w Key where
 is:=LY
 hash:=el w
 inj:=fun v a b ha hb=>by
  rcases CQ ha with ⟨i,t,rfl,rfl⟩|⟨x,t,rfl,rfl⟩
  ·rcases CQ hb with ⟨j,u,rfl,e⟩|⟨y,u,rfl,e⟩
   ·injection e with e1 _;rw[e1]
   ·exact nomatch e
  ·rcases CQ hb with ⟨j,u,rfl,e⟩|⟨y,u,rfl,e⟩
   ·exact nomatch e
   ·injection e with e1 _;rw[e1]
 byValue:=fun k v h=>by
  rcases CQ h with ⟨i,t,rfl,rfl⟩|⟨x,t,rfl,rfl⟩<;>rfl
 pyHash:=fun hv h=>by
  rcases CQ hv with ⟨i,t,rfl,rfl⟩|⟨x,t,rfl,rfl⟩
  ·exact wpAny_pyHash_int h
  ·exact wpAny_pyHash_str h
 eqBool:=fun hu hv h=>by
  rcases CQ hu with ⟨i,t,rfl,rfl⟩|⟨x,t,rfl,rfl⟩
  ·rcases CQ hv with ⟨j,u,rfl,rfl⟩|⟨y,u,rfl,rfl⟩
   ·rw[bP]at h;exact wpAny_eqBool_int h
   ·rw[bT]at h;exact SeqAt.EqAt.int_str i t y u _ _ _ _ h
  ·rcases CQ hv with ⟨j,u,rfl,rfl⟩|⟨y,u,rfl,rfl⟩
   ·rw[bJ]at h;exact SeqAt.EqAt.str_int x t j u _ _ _ _ h
   ·rw[bS]at h;exact wpAny_eqBool_str h
 «strs»:=fun k x t v h=>by
  rcases CQ h with ⟨i,u,rfl,e⟩|⟨y,u,rfl,e⟩
  ·exact nomatch e
  ·injection e with e1 _
   subst e1;cases v<;>rfl
theorem Qv(prog:Program)(w:World)(i:Int)(t:Tok):(Cr prog w).is (.inl i) (.int i t)=true:=Tx i t
theorem Qj(prog:Program)(w:World)(x:Str)(t:Tok):(Cr prog w).is (.inr x) (.str x t)=true:=T9 x t
inductive V where
 |BR|bl (b:Bool)|int (i:Int)|str (x:Str)|Kf (b:Array UInt8)|RO (b:UInt64)|ref (a:Addr)|ty (n:String)
 deriving DecidableEq
def RelV:V→Value→Prop
 |.BR,u=>u=Value.none
 |.bl b,u=>u=Value.bool b
 |.int i,u=>∃t,u=Value.int i t
 |.str x,u=>∃t,u=Value.str x t
 |.Kf b,u=>∃t,u=Value.bytes b t
 |.RO b,u=>∃t,u=Value.float b t
 |.ref a,u=>u=Value.ref a
 |.ty n,u=>u=Value.type n
abbrev Vals:List V→List Value→Prop:=Paired RelV
theorem Vals.length{xs:List V}{us:List Value}(r:Vals xs us):xs.length=us.length:=Paired.length r
theorem Vals.get:∀ {xs:List V} {us:List Value} {i:Nat} {x:V},Vals xs us→xs[i]? = some x→∃u,us[i]? = some u∧RelV x u
 |_,_,_,_,.nil,e=>by simp at e
 |_,_,0,_,.cons r _,e=>by simp at e;subst e;exact⟨_,rfl,r⟩
 |_,_,i+1,x,.cons _ t,e=>by
  obtain⟨u,h1,h2⟩:=Vals.get (i:=i) (x:=x) t (by simpa using e);exact⟨u,by simpa using h1,h2⟩
theorem Vals.set{x:V}{u:Value}(r:RelV x u):∀ {xs:List V} {us:List Value} (i:Nat),Vals xs us→Vals (xs.set i x) (us.set i u)
 |_,_,_,.nil=>.nil
 |_,_,0,.cons _ t=>.cons r t
 |_,_,i+1,.cons q t=>.cons q (Vals.set r i t)
theorem Vals.append:∀ {xs ys:List V} {us ws:List Value},Vals xs us→Vals ys ws→Vals (xs++ys) (us++ws)
 |_,_,_,_,.nil,s=>s
 |_,_,_,_,.cons r t,s=>.cons r (Vals.append t s)
theorem Vals.take:∀ {xs:List V} {us:List Value} (n:Nat),Vals xs us→Vals (xs.take n) (us.take n)
 |_,_,0,_=>.nil
 |_,_,_+1,.nil=>.nil
 |_,_,n+1,.cons r t=>.cons r (Vals.take n t)
theorem Vals.drop:∀ {xs:List V} {us:List Value} (n:Nat),Vals xs us→Vals (xs.drop n) (us.drop n)
 |_,_,0,r=>r
 |_,_,_+1,.nil=>.nil
 |_,_,n+1,.cons _ t=>Vals.drop n t
def IE:Option V→Option Value→Prop
 |some v,some u=>RelV v u
 |none,none=>True
 |_,_=>False
def KV{κ:Type}:List (κ×V)→List (κ×Value)→Prop:=Paired fun(p:κ×V) (q:κ×Value)=>p.1=q.1∧RelV p.2 q.2
def kV:Key→V
 |.inl i=>.int i
 |.inr x=>.str x
inductive HO where
 |lst (xs:List V)
 |tup (xs:List V)
 |dK (kvs:List (Key×V))|dT (kvs:List (List Key×V))
 |set (S:Int→Bool) (n:Nat)
 |ins (C dx:Addr) (fs:List (Str×V))
 |own (x:Addr)
 |xd (fs:List (Str×V))
 |met (f x:Addr)
 |V9 (lo hi:Int)
 |DV (o:Obj) (u:HO)
 |Lz (ps:Array Value)
 |ext (φ:Heap→Prop)
abbrev Hp:=Addr→Option HO
def upd(H:Hp)(a:Addr)(o:HO):Hp:=fun b=>if b=a then some o else H b
theorem AW{H:Hp}{a:Addr}{o:HO}:upd H a o a=some o:=by unfold upd;rw[if_pos rfl]
theorem AR{H:Hp}{a b:Addr}{o:HO}(h:b≠a):upd H a o b=H b:=by unfold upd;rw[if_neg h]
theorem cG{H:Hp}{a b:Addr}{o u:HO}(h:H a=some o)(h':H b=some u)(d:o≠u):a≠b:=by
 intro e;subst e;rw[h]at h';exact d (aS h')
theorem BG{H:Hp}{a b:Addr}{o:HO}(h:H a=some o)(h':H b=none):a≠b:=by
 intro e;subst e;rw[h]at h';cases h'
section
variable(P:Program)(w:World)
def Bb(H:Hp)(h:Heap)(a:Addr):HO→Prop
 |.lst xs=>xs.length≤sizeLine∧∃(its:List Value) (n:Nat),Vals xs its∧h.get? a=some { cls:=.type "list",data:=.seq its.toArray n}
 |.tup xs=>xs.length≤sizeLine∧∃its:List Value,Vals xs its∧IsTup h a its.toArray
 |.dK kvs=>kvs.length≤sizeLine∧(a==sysModules)=false∧∃vs,KV kvs vs∧h.DictOf (Cr P w) a vs
 |.dT kvs=>kvs.length≤sizeLine∧(a==sysModules)=false∧∃xs:List (List Key×Addr×Value),
   Paired (fun(p:List Key×V) (q:List Key×Addr×Value)=>p.1=q.1∧H q.2.1=some (.tup (p.1.map kV))∧RelV p.2 q.2.2) kvs xs ∧
   ∃o es ep,h.get? a=some o∧o.ExactDict∧o.data=.dict es ep∧es.toList=xs.map (entryOfKey (tupleKind (Cr P w)))∧(xs.map (·.1)).Nodup
 |.set S n=>h.SetOf (intKind P w) a S n
 |.ins C dx fs=>H dx=some (.own a)∧fs.length≤1000∧dx≠a∧h.get? a=some (PySem.W.instObj C dx) ∧
   ∃mA,h.Ns1 dx mA∧(∀f,IE (fs.lookup f) (mA f))∧PySem.Within mA (fs.map (·.1))
 |.own _=>∃o,h.get? a=some o
 |.xd fs=>∃mA,h.Ns1 a mA∧∀f,IE (fs.lookup f) (mA f)
 |.V9 lo hi=>∃t u v,h.get? a=some { cls:=.type "range",data:=.fields #[.int lo t,.int hi u,.int 1 v]}
 |.DV o u=>h.get? a=some o∧Bb H h a u
 |.Lz ps=>h.get? a=some { cls:=.none,data:=.fields ps}
 |.met f x=>h.get? a=some (PySem.W.methodObj (.ref f) (.ref x))
 |.ext φ=>φ h∧(∃o,h.get? a=some o)∧∀h1 h2:Heap,φ h1→(∀o,h1.get? a=some o→h2.get? a=some o)→φ h2
def CV(H:Hp)(h:Heap):Prop:=∀a o,H a=some o→Bb P w H h a o
end
section
variable{P:Program}{w:World}{H H':Hp}{h h':Heap}{a:Addr}{o:HO}
theorem Bb.lt(x:Bb P w H h a o):a<h.objs.size:=by
 cases o with
 |lst xs=>obtain⟨_,_,_,_,e⟩:=x;exact aF e
 |tup xs=>obtain⟨_,_,_,p⟩:=x;exact p.lt
 |dK kvs=>obtain⟨_,_,_,_,o,_,_,e,_⟩:=x;exact aF e
 |dT kvs=>obtain⟨_,_,_,_,o,_,_,e,_⟩:=x;exact aF e
 |set S n=>obtain⟨o,_,_,_,e,_⟩:=x;exact aF e
 |ins C dx fs=>obtain⟨_,_,_,e,_⟩:=x;exact aF e
 |own y=>obtain⟨_,e⟩:=x;exact aF e
 |xd fs=>obtain⟨_,⟨_,_,_,e,_⟩,_⟩:=x;exact aF e
 |V9 lo hi=>obtain⟨_,_,_,e⟩:=x;exact aF e
 |DV ob u=>obtain⟨e,_⟩:=x;exact aF e
 |Lz ps=>exact aF (show h.get? a=some _ from x)
 |met f y=>exact aF (show h.get? a=some _ from x)
 |ext φ=>obtain⟨_,⟨_,e⟩,_⟩:=x;exact aF e
theorem Paired.Vu{α β:Type}{F G:α→β→Prop}:∀ {l₁:List α} {l₂:List β},Paired F l₁ l₂→(∀a b,F a b→G a b)→Paired G l₁ l₂
 |_,_,.nil,_=>.nil
 |_,_,.cons r t,f=>.cons (f _ _ r) (Paired.Vu t f)
theorem Bb.Gr(x:Bb P w H h a o)(k:∀b u,(b=a∨H b=some (.own a))→h.get? b=some u→h'.get? b=some u)
 (ho:∀b,H b=some (.own a)→H' b=some (.own a))(ht:∀b xs,H b=some (.tup xs)→H' b=some (.tup xs)):Bb P w H' h' a o:=by
 induction o with
 |lst xs=>obtain⟨z,its,n,r,e⟩:=x;exact⟨z,its,n,r,k _ _ (.inl rfl) e⟩
 |tup xs=>obtain⟨z,its,r,ob,e,c⟩:=x;exact⟨z,its,r,ob,k _ _ (.inl rfl) e,c⟩
 |dK kvs=>obtain⟨z,y,vs,r,ob,es,ep,e,c⟩:=x;exact⟨z,y,vs,r,ob,es,ep,k _ _ (.inl rfl) e,c⟩
 |dT kvs =>
  obtain⟨z,y,xs,r,ob,es,ep,e,c⟩:=x;exact⟨z,y,xs,Paired.Vu r fun p q z=>⟨z.1,ht _ _ z.2.1,z.2.2⟩,ob,es,ep,k _ _ (.inl rfl) e,c⟩
 |set S n=>obtain⟨ob,es,ep,t,e,c⟩:=x;exact⟨ob,es,ep,t,k _ _ (.inl rfl) e,c⟩
 |ins C dx fs =>
  obtain⟨d,z,ne,e,mA,⟨od,es,ep,e2,c⟩,r⟩:=x;exact⟨ho _ d,z,ne,k _ _ (.inl rfl) e,mA,⟨od,es,ep,k _ _ (.inr d) e2,c⟩,r⟩
 |own y=>obtain⟨ob,e⟩:=x;exact⟨ob,k _ _ (.inl rfl) e⟩
 |xd fs=>obtain⟨mA,⟨od,es,ep,e,c⟩,r⟩:=x;exact⟨mA,⟨od,es,ep,k _ _ (.inl rfl) e,c⟩,r⟩
 |V9 lo hi=>obtain⟨t,u,v,e⟩:=x;exact⟨t,u,v,k _ _ (.inl rfl) e⟩
 |DV ob u ih=>obtain⟨e,q⟩:=x;exact⟨k _ _ (.inl rfl) e,ih q⟩
 |Lz ps =>
  have e:h.get? a=some { cls:=.none,data:=.fields ps}:=x;show h'.get? a=some { cls:=.none,data:=.fields ps};exact k a _ (.inl rfl) e
 |met f y =>
  have e:h.get? a=some (PySem.W.methodObj (.ref f) (.ref y)):=x;show h'.get? a=some (PySem.W.methodObj (.ref f) (.ref y));exact k a _ (.inl rfl) e
 |ext φ=>obtain⟨p,⟨o,e⟩,st⟩:=x;exact⟨st _ _ p fun o q=>k _ _ (.inl rfl) q,⟨o,k _ _ (.inl rfl) e⟩,st⟩
theorem CV.lt(x:CV P w H h)(e:H a=some o):a<h.objs.size:=(x a o e).lt
theorem CV.fresh(x:CV P w H h)(e:h.objs.size≤a):H a=none:=by
 cases q:H a with
 |none=>rfl
 |some u=>exact absurd (aJ (x.lt q) e) (Nat.lt_irrefl _)
theorem CV.kept(x:CV P w H h)(k:∀b u,h.get? b=some u→h'.get? b=some u):CV P w H h':=fun a o e =>
 (x a o e).Gr (fun b u _ q=>k b u q) (fun _ q=>q) fun _ _ q=>q
theorem CV.laid(x:CV P w H h)(k:∀b u,h.get? b=some u→h'.get? b=some u)(hp:h.objs.size≤a)(new:Bb P w (upd H a o) h' a o):CV P w (upd H a o) h':=fun b u e=>by
 have hn:=x.fresh hp;by_cases hb:b=a
 ·subst hb;rw[AW]at e;cases e;exact new
 ·rw[AR hb]at e;exact(x b u e).Gr (fun c v _ q=>k c v q) (fun c q=>by rw[AR (BG q hn)];exact q) fun c xs q=>by rw[AR (BG q hn)];exact q
end
def Rd(H:Hp)(a:Addr)(u:HO):Prop:=H a=some u∨∃o,H a=some (.DV o u)
theorem Rd.ok{P:Program}{w:World}{H:Hp}{h:Heap}{a:Addr}{u:HO}(r:Rd H a u)(x:CV P w H h):Bb P w H h a u:=by
 rcases r with r|⟨o,r⟩
 ·exact x a u r
 ·obtain⟨_,q⟩:=x a _ r;exact q
def UH:Option HO→Prop
 |some (.lst _)=>True
 |some (.dK _)=>True
 |some (.dT _)=>True
 |some (.set _ _)=>True
 |some (.ins _ _ _)=>True
 |some (.ext _)=>True
 |_=>False
section
variable{P:Program}{w:World}{H:Hp}{h h':Heap}{x e:Addr}{o':HO}
theorem CV.write(ok:CV P w H h)(mu:UH (H x))(he:e=x∨H e=some (.own x))(k:∀b u,b≠e→h.get? b=some u→h'.get? b=some u)(heo:∃u,h'.get? e=some u)
 (new:Bb P w (upd H x o') h' x o'):CV P w (upd H x o') h':=fun b u q=>by
 have nown:∀c y,H c=some (.own y)→c≠x:=fun c y r z=>by subst z;rw[r]at mu;exact mu
 have MQ:∀c xs,H c=some (.tup xs)→c≠x:=fun c xs r z=>by subst z;rw[r]at mu;exact mu
 by_cases hb:b=x
 ·subst hb;rw[AW]at q;cases q;exact new
 ·rw[AR hb]at q;by_cases hbe:b=e
  ·have q':H b=some (.own x):=by
    rcases he with z|z
    ·exact absurd (hbe.trans z) hb
    ·rw[hbe];exact z
   rw[q]at q';cases q';obtain⟨v,hv⟩:=heo;exact⟨v,by rw[hbe];exact hv⟩
  ·refine(ok b u q).Gr (fun c v hc r=>k c v ?_ r) (fun c r=>by rw[AR (nown c b r)];exact r) fun c xs r=>by rw[AR (MQ c xs r)];exact r
   rcases hc with rfl|hc
   ·exact hbe
   ·rintro rfl;rcases he with z|z
    ·exact nown c b hc z
    ·rw[hc]at z;cases z;exact hb rfl
end
structure Un(fs ex:List Addr)(H H':Hp)(h h':Heap):Prop where
 keep:∀b o,h.get? b=some o→H b=none→b ∉ fs→b ∉ ex→h'.get? b=some o
 slot:∀b o,h.get? b=some o→H b=none→b∈fs→b ∉ ex→∃sl,h'.get? b=some {o with slots:=sl}
 free:∀b o,h.get? b=some o→H b=none→b ∉ ex→H' b=none
 there:∀b o,h.get? b=some o→b ∉ ex→∃o',h'.get? b=some o'
 Bm:∀b xs,H b=some (.tup xs)→H' b=some (.tup xs)
 EB:∀b o u,H b=some (.DV o u)→H' b=some (.DV o u)
 Ek:∀b ps,H b=some (.Lz ps)→∃more,H' b=some (.Lz (ps++more))
 EI:∀b xs o,H b=some (.tup xs)→h.get? b=some o→b ∉ ex→h'.get? b=some o
section
variable{fs ex:List Addr}{H H1:Hp}{h h1 h':Heap}{a x e:Addr}{o:HO}
theorem Un.any(u:Un fs ex H H1 h h1){b:Addr}{ob:Obj}(q:h.get? b=some ob)(n:H b=none)(hx:b ∉ ex):∃sl,h1.get? b=some {ob with slots:=sl}:=by
 by_cases hb:b∈fs
 ·exact u.slot b ob q n hb hx
 ·exact⟨ob.slots,u.keep b ob q n hb hx⟩
theorem Un.kept(k:∀b u,h.get? b=some u→h'.get? b=some u):Un fs ex H H h h' :=
 ⟨fun b ob q _ _ _=>k b ob q,fun b ob q _ _ _=>⟨ob.slots,k b ob q⟩,fun _ _ _ n _=>n,fun b ob q _=>⟨ob,k b ob q⟩,fun _ _ q=>q,fun _ _ _ q=>q,fun _ ps q=>⟨#[],by rw[q];simp⟩,fun _ _ ob _ e _=>k _ ob e⟩
theorem Un.refl:Un fs ex H H h h:=Un.kept fun _ _ q=>q
theorem Un.laid(k:∀b u,h.get? b=some u→h'.get? b=some u)(hp:h.objs.size≤a)(hn:H a=none):Un fs ex H (upd H a o) h h' where
 keep:=fun b u q _ _ _=>k b u q
 slot:=fun b u q _ _ _=>⟨u.slots,k b u q⟩
 free:=fun b u q n _=>by rw[AR (aL (aJ (aF q) hp))];exact n
 there:=fun b u q _=>⟨u,k b u q⟩
 Bm:=fun b xs q=>by rw[AR (BG q hn)];exact q
 EB:=fun b u xs q=>by rw[AR (BG q hn)];exact q
 Ek:=fun b ps q=>⟨#[],by rw[AR (BG q hn),q];simp⟩
 EI:=fun b _ u _ e _=>k b u e
theorem Un.write(mu:UH (H x))(he:e=x∨H e=some (.own x))(k:∀b u,b≠e→h.get? b=some u→h'.get? b=some u)(heo:∃u,h'.get? e=some u):Un fs ex H (upd H x o) h h':=by
 have hx:∀b,H b=none→b≠x:=fun b n z=>by subst z;rw[n]at mu;exact mu
 have hb:∀b,H b=none→b≠e:=fun b n z=>by
  subst z;rcases he with r|r
  ·exact hx b n r
  ·rw[n]at r;cases r
 have hm:∀b u,H b=some u→¬UH (some u)→b≠x:=fun b u q nm z=>by subst z;rw[q]at mu;exact nm mu
 refine⟨fun b u q n _ _=>k b u (hb b n) q,fun b u q n _ _=>⟨u.slots,k b u (hb b n) q⟩,fun b u q n _=>by rw[AR (hx b n)];exact n,fun b u q _=>?_,
  fun b xs q=>by rw[AR (hm b _ q fun z=>z)];exact q,fun b u xs q=>by rw[AR (hm b _ q fun z=>z)];exact q,fun b ps q=>⟨#[],by rw[AR (hm b _ q fun z=>z),q];simp⟩,fun b xs u q e _=>k b u (fun z=>by
   rcases he with r|r
   ·exact hm b _ q (fun z=>z) (z.trans r)
   ·rw[←z,q]at r;cases r) e⟩
 by_cases hbe:b=e
 ·subst hbe;exact heo
 ·exact⟨u,k b u hbe q⟩
end
def Lu(h:Heap)(H:Hp):List Addr:=(List.range h.objs.size).filter fun a=>(H a).isSome
def K3(h:Heap)(H:Hp):Heap:=PySem.W.hideAll h (Lu h H)
theorem UC(h:Heap)(H:Hp):(K3 h H).objs.size=h.objs.size:=PySem.W.hideAll_size _ _
theorem P4{h:Heap}{H:Hp}{b:Addr}{o:Obj}(e:h.get? b=some o)(n:H b=none):(K3 h H).get? b=some o :=
 PySem.W.hideAll_get _ e fun hm=>by
  have q:(H b).isSome=true:=(List.mem_filter.mp hm).2;rw[n]at q;simp at q
theorem XR{h:Heap}{H:Hp}{b:Addr}{o:Obj}(e:(K3 h H).get? b=some o):h.get? b=some o∧H b=none:=by
 have e':h.get? b=some o:=PySem.W.of_hideAll (Lu h H) e;refine⟨e',?_⟩;cases q:H b with
 |none=>rfl
 |some x =>
  have hm:b∈Lu h H:=List.mem_filter.mpr ⟨List.mem_range.mpr (aF e'),by simp[q]⟩;have z:(K3 h H).get? b=none:=PySem.W.hideAll_none (Lu h H) hm;rw[z]at e;cases e
structure Mod(K:PySem.W.Frag)(mg:Str→Option Value)(base:Heap):Prop where
 KH:K.In base
 glob:base.Ns mainGlobals mg
 blt:∃mb,base.Ns builtinsNs mb∧∀x:Str,x ≠ "__name__" → mb x=bootBuiltins x
 nolimit:base.NoLimit
def fS(d:Nat):List (List V):=[[],[.ref (d+1)],[.int 1,.int 1],[.ref (d+3)],[.ref (d+2),.ref (d+4)],[],[.int 1,.int 2],[.ref (d+7)],[.ref (d+6),.ref (d+8)],[.int 0,.int 1],[.int 1,.int 1],[.ref (d+10),.ref (d+11)],[.ref (d+9),.ref (d+12)],[],[.int 1,.int 1],[.ref (d+15)],[.ref (d+14),.ref (d+16)],[.int 1,.int 2],[.int 1,.int 2],[.ref (d+18),.ref (d+19)],[.ref (d+17),.ref (d+20)],[],[.int 1,.int 3],[.ref (d+23)],[.int 0,.int 1],[.int 2,.int 3],[.ref (d+25),.ref (d+26)],[.ref (d+22),.ref (d+24),.ref (d+27)],[.int 1,.int 4],[.int 0,.int 1],[.int 3,.int 4],[.ref (d+29),.ref (d+30),.ref (d+31)],[.ref (d+28),.ref (d+32)],[],[.int 1,.int 2],[.ref (d+35)],[.int 0,.int 1],[.int 1,.int 2],[.ref (d+37),.ref (d+38)],[.int 0,.int 1],[.int 0,.int 1],[.int 1,.int 1],[.ref (d+40),.ref (d+41),.ref (d+42)],[.ref (d+34),.ref (d+36),.ref (d+39),.ref (d+43)],[.int 1,.int 6],[.int 1,.int 3],[.int 1,.int 3],[.int 1,.int 6],[.ref (d+45),.ref (d+46),.ref (d+47),.ref (d+48)],[.ref (d+44),.ref (d+49)]]
def fg(d:Nat):List (Key×V):=[(.inr "plain",.ref (d+5)),(.inr "middle",.ref (d+13)),(.inr "heel",.ref (d+21)),(.inr "third",.ref (d+33)),(.inr "fourth",.ref (d+50))]
def Gd:List V:=[.str "x",.str "y",.str "z",.str "w"]
structure KTb(mg:Str→Option Value)(H:Hp):Prop where
 fX:∀d:Addr,mg "NAMED_TABLES" = some (.ref d)→(∃o,H d=some (.DV o (.dK (fg d))))∧∀j xs,(fS d)[j]? = some xs→H (d+1+j)=some (.tup xs)
 dh:∀d:Addr,mg "UNKNOWNS" = some (.ref d)→H d=some (.tup Gd)
theorem KTb.un{mg:Str→Option Value}{fs ex:List Addr}{H H':Hp}{h h':Heap}(k:KTb mg H)(u:Un fs ex H H' h h'):KTb mg H':=⟨fun d e =>
 let⟨⟨o,h1⟩,h2⟩:=k.fX d e
 ⟨⟨o,u.EB _ _ _ h1⟩,fun j xs q=>u.Bm _ _ (h2 j xs q)⟩,fun d e=>u.Bm _ _ (k.dh d e)⟩
structure Cx where
 prog:Program
 w:World
 K:PySem.W.Frag
 mg:Str→Option Value
 base:Heap
 A:Around
 N:List Str
 s₀:Shared
 H₀:Hp
 env:Env
 outer:List Env
 stack:List Env
 ex:List Addr
 fn:Str→Bool
 calm:Bool
 pn:List (Addr×Obj)
 xe:Value→Shared→Prop
def EF(l:List Env):List Addr:=l.filterMap (·.frame)
abbrev Cx.fs(X:Cx):List Addr:=EF X.outer
def Za(sc:Scope)(x:Str):Prop:=sc.names.lookup x=some .local∨sc.names.lookup x=some .cell∨sc.names.lookup x=some .free
def Loc(sc:Scope)(x:Str):Prop:=sc.names.lookup x=some .local∨sc.names.lookup x=some .cell
def Look(env:Env)(h:Heap)(m:Str→Option Value)(x:Str)(u:Value):Prop :=
 (env.kindOf x=some .local∧m x=some u)∨((env.kindOf x=some .cell∨env.kindOf x=some .free)∧∃c,env.cells.lookup x=some c∧h.IsCell c (some u))
structure Cx.Ok(X:Cx):Prop where
 mod:Mod X.K X.mg X.base
 kind:X.env.scope.kind=.function
 glob:X.env.globals=mainGlobals
 blt:X.env.builtins=builtinsNs
 above:X.s₀.heap.objs.size≤X.env.locals
 inj:∀x y c,X.env.cells.lookup x=some c→X.env.cells.lookup y=some c→x=y
 has:∀x,(X.env.kindOf x=some .cell∨X.env.kindOf x=some .free)→∃c,X.env.cells.lookup x=some c
 Pn:∀x c,X.fn x=true→X.env.cells.lookup x=some c→X.s₀.heap.objs.size≤c
 hd:X.calm=true→X.A.handled=none
 frames:X.A.frames=some X.stack
 TN:X.stack=X.outer∨(X.stack=X.env::X.outer∧X.env.frame=some X.env.locals)
 Zu:∀b∈X.ex,b≠X.env.locals∧∀x c,X.env.cells.lookup x=some c→c≠b
 bs:∀b o,X.base.get? b=some o→X.s₀.heap.get? b=some o∧X.H₀ b=none
 M1:X.base.objs.size≤X.s₀.heap.objs.size
 Np:∀b o,X.base.get? b=some o→b ∉ X.ex
 Nj:∀b∈X.ex,b ∉ X.fs
 Ff:X.s₀.heap.FunFrames X.base X.outer
 Mg:∀b∈X.fs,X.H₀ b=none
 kt:KTb X.mg X.H₀
structure Inv(X:Cx)(pins:List (Addr×Obj))(σ:List (Option V))(H:Hp)(s:Shared):Prop where
 ok:X.Ok
 os:s.os=X.s₀.os
 bare:AllBare s.gens
 base:Un X.fs X.ex X.H₀ H X.s₀.heap s.heap
 loc:∃m,s.heap.Ns X.env.locals m∧∀(i:Nat) (x:Str) (v:V),X.N[i]? = some x→σ[i]? = some (some v)→Za X.env.scope x→∃u,RelV v u∧Look X.env s.heap m x u
 cell:∀x c,X.env.cells.lookup x=some c→∃v,s.heap.IsCell c v
 free:H X.env.locals=none
 EH:∀x c,X.env.cells.lookup x=some c→H c=none
 pin:∀p∈X.pn++pins,s.heap.get? p.1=some p.2∧H p.1=none∧p.1≠X.env.locals∧p.1 ∉ X.fs∧∀v,p.2.data≠.cell v
 Aa:CV X.prog X.w H s.heap
 len:σ.length=X.N.length
theorem Inv.kt{X:Cx}{pins:List (Addr×Obj)}{σ:List (Option V)}{H:Hp}{s:Shared}(I:Inv X pins σ H s):KTb X.mg H:=I.ok.kt.un I.base
section
variable{X:Cx}{pins:List (Addr×Obj)}{σ:List (Option V)}{H H':Hp}{s:Shared}{h':Heap}
theorem Cx.Ok.ef(ok:X.Ok){b:Addr}{o:Obj}(e:X.base.get? b=some o):b ∉ X.fs:=fun hb=>by
 have:=(ok.Ff.mem hb).1;rw[e]at this;cases this
theorem Inv.bs(I:Inv X pins σ H s):∀b o,X.base.get? b=some o→s.heap.get? b=some o∧H b=none:=fun b o e =>
 ⟨I.base.keep b o (I.ok.bs b o e).1 (I.ok.bs b o e).2 (I.ok.ef e) (I.ok.Np b o e),I.base.free b o (I.ok.bs b o e).1 (I.ok.bs b o e).2 (I.ok.Np b o e)⟩
theorem Inv.bk(I:Inv X pins σ H s):∀b o,X.base.get? b=some o→s.heap.get? b=some o:=fun b o e=>(I.bs b o e).1
theorem Inv.mod(I:Inv X pins σ H s):Mod X.K X.mg X.base:=I.ok.mod
theorem Inv.EG(I:Inv X pins σ H s):X.K.In s.heap:=I.ok.mod.KH.keeps I.bk
theorem Inv.lt(I:Inv X pins σ H s):X.env.locals<s.heap.objs.size:=let⟨_,hn,_⟩:=I.loc;hn.lt
theorem Inv.sz(I:Inv X pins σ H s):X.s₀.heap.objs.size≤s.heap.objs.size:=af I.ok.above (Nat.le_of_lt I.lt)
theorem Inv.eu(I:Inv X pins σ H s){a:Addr}(h:s.heap.objs.size≤a):a ∉ X.fs:=fun hb=>by
 obtain⟨_,o,ho,_⟩:=I.ok.Ff.mem hb;exact absurd (aJ (aF ho) (af I.sz h)) (Nat.lt_irrefl _)
theorem Inv.M6(I:Inv X pins σ H s):∀x c,X.env.cells.lookup x=some c→c≠X.env.locals:=fun x c e z=>by
 obtain⟨v,o,ho,hd⟩:=I.cell x c e;obtain⟨m,⟨o',es,ep,ho',hd',_⟩,_⟩:=I.loc;rw[z,ho']at ho;cases ho;rw[hd']at hd;cases hd
theorem Inv.Ff(I:Inv X pins σ H s):s.heap.FunFrames X.base X.outer:=by
 have all:∀(l:List Env),(∀b∈EF l,b∈X.fs)→X.s₀.heap.FunFrames X.base l→s.heap.FunFrames X.base l:=by
  intro l
  induction l with
  |nil=>intro _ _;trivial
  |cons env r ih =>
   intro hs hl;obtain⟨hk,⟨L,o,hf,hn,ho,hd⟩,hr⟩:=hl;have hL:L∈X.fs:=hs L (by unfold EF;rw[List.filterMap_cons,hf];exact bC);obtain⟨sl,e⟩:=I.base.slot L o ho (I.ok.Mg L hL) hL fun z=>I.ok.Nj L z hL;exact⟨hk,⟨L,_,hf,hn,e,hd⟩,ih (fun b hb=>hs b (by unfold EF;rw[List.filterMap_cons,hf];exact aa _ hb)) hr⟩
 exact all X.outer (fun _ hb=>hb) I.ok.Ff
theorem Inv.stack(I:Inv X pins σ H s):s.heap.FunFrames X.base X.stack:=by
 rcases I.ok.TN with e|⟨e,hf⟩
 ·rw[e];exact I.Ff
 ·rw[e];obtain⟨m,hn,_⟩:=I.loc;refine .cons (by rw[I.ok.kind];decide) hf hn ?_ I.Ff;exact Heap.get?_none_of_le (af I.ok.M1 I.ok.above)
theorem Inv.Kh(I:Inv X pins σ H s):∀b∈EF X.stack,b∈X.env.locals::X.fs:=fun b hb=>by
 rcases I.ok.TN with e|⟨e,hf⟩
 ·rw[e]at hb;exact aa _ hb
 ·rw[e]at hb;unfold EF at hb;rw[List.filterMap_cons,hf]at hb;exact hb
theorem Inv.NK(I:Inv X pins σ H s):∀b∈EF X.stack,H b=none:=fun b hb=>by
 rcases aI.mp (I.Kh b hb) with e|hb
 ·rw[e];exact I.free
 ·obtain⟨_,o,ho,_⟩:=I.ok.Ff.mem hb;exact I.base.free b o ho (I.ok.Mg b hb) fun z=>I.ok.Nj b z hb
theorem Inv.step{g':Array GenState}{t':Nat}{d':Drawn}{ch:List Addr}(I:Inv X pins σ H s)
 (hch:∀b∈ch,(b∈X.ex∨X.s₀.heap.objs.size≤b)∧b≠X.env.locals∧(∀x c,X.env.cells.lookup x=some c→c≠b)∧∀p∈X.pn++pins,p.1≠b)
 (keep:∀b o,b≠X.env.locals→b ∉ X.fs→b ∉ ch→s.heap.get? b=some o→H b=none→h'.get? b=some o)
 (slot:∀b o,b≠X.env.locals→b∈X.fs→b ∉ ch→s.heap.get? b=some o→H b=none→∃sl,h'.get? b=some {o with slots:=sl})(free:∀b o,b ∉ ch→s.heap.get? b=some o→H b=none→H' b=none)
 (there:∀b o,b ∉ ch→s.heap.get? b=some o→∃o',h'.get? b=some o')
 (Bm:∀b xs,H b=some (.tup xs)→H' b=some (.tup xs))(EB:∀b o u,H b=some (.DV o u)→H' b=some (.DV o u))(Ek:∀b ps,H b=some (.Lz ps)→∃more,H' b=some (.Lz (ps++more)))
 (EI:∀b xs o,b ∉ ch→H b=some (.tup xs)→s.heap.get? b=some o→h'.get? b=some o)
 (ns:∀m,s.heap.Ns X.env.locals m→h'.Ns X.env.locals m)(Aa:CV X.prog X.w H' h')(hg:AllBare g') :
  Inv X pins σ H' {s with heap:=h',gens:=g',drawn:=d',toks:=t'}:=by
 have neL:∀b o,X.s₀.heap.get? b=some o→b≠X.env.locals:=fun b o e=>aL (aJ (aF e) I.ok.above);have neC:∀b o,X.s₀.heap.get? b=some o→b ∉ X.ex→b ∉ ch:=fun b o e hx hb=>by
  rcases(hch b hb).1 with z|z
  ·exact hx z
  ·exact absurd (aJ (aF e) z) (Nat.lt_irrefl _)
 have cellK:∀x c,X.env.cells.lookup x=some c→∀v,s.heap.IsCell c v→h'.IsCell c v:=fun x c e v ⟨o,ho,hd⟩=>by
  have nch:c ∉ ch:=fun z=>(hch c z).2.2.1 x c e rfl;by_cases hc:c∈X.fs
  ·obtain⟨sl,q⟩:=slot c o (I.M6 x c e) hc nch ho (I.EH x c e);exact⟨_,q,hd⟩
  ·exact⟨o,keep c o (I.M6 x c e) hc nch ho (I.EH x c e),hd⟩
 refine⟨I.ok,I.os,hg,⟨fun b o e n hb hx=>?_,fun b o e n hb hx=>?_,fun b o e n hx=>?_,fun b o e hx=>?_,fun b xs e=>Bm b xs (I.base.Bm b xs e),fun b o xs e=>EB b o xs (I.base.EB b o xs e),fun b ps e=>?_,fun b xs o q e hx=>EI b xs o (neC b o e hx) (I.base.Bm b xs q) (I.base.EI b xs o q e hx)⟩,?_,fun x c e=>?_,?_,fun x c e=>?_,fun p hp=>?_,Aa,I.len⟩
 ·exact keep b o (neL b o e) hb (neC b o e hx) (I.base.keep b o e n hb hx) (I.base.free b o e n hx)
 ·obtain⟨sl,e1⟩:=I.base.slot b o e n hb hx;obtain⟨sl',e2⟩:=slot b _ (neL b o e) hb (neC b o e hx) e1 (I.base.free b o e n hx);exact⟨sl',e2⟩
 ·obtain⟨o',e1⟩:=I.base.there b o e hx;exact free b o' (neC b o e hx) e1 (I.base.free b o e n hx)
 ·obtain⟨o',e1⟩:=I.base.there b o e hx;exact there b o' (neC b o e hx) e1
 ·obtain⟨m1,e1⟩:=I.base.Ek b ps e;obtain⟨m2,e2⟩:=Ek b _ e1;exact⟨m1++m2,by rw[e2,Array.append_assoc]⟩
 ·obtain⟨m,hn,hl⟩:=I.loc;refine⟨m,ns m hn,fun i x v e1 e2 e3=>?_⟩;obtain⟨u,r,l⟩:=hl i x v e1 e2 e3;refine⟨u,r,?_⟩;rcases l with l|⟨k,c,e,z⟩
  ·exact .inl l
  ·exact .inr ⟨k,c,e,cellK x c e _ z⟩
 ·obtain⟨v,z⟩:=I.cell x c e;exact⟨v,cellK x c e v z⟩
 ·obtain⟨m,⟨o,_,_,ho,_⟩,_⟩:=I.loc;exact free _ o (fun z=>(hch _ z).2.1 rfl) ho I.free
 ·obtain⟨v,o,ho,hd⟩:=I.cell x c e;exact free c o (fun z=>(hch c z).2.2.1 x c e rfl) ho (I.EH x c e)
 ·obtain⟨e,n,ne,nf,d⟩:=I.pin p hp;have nch:p.1 ∉ ch:=fun z=>(hch p.1 z).2.2.2 p hp rfl;exact⟨keep p.1 p.2 ne nf nch e n,free p.1 p.2 nch e n,ne,nf,d⟩
theorem Inv.un{t':Nat}(I:Inv X pins σ H s)(u:Un X.fs [] H H' s.heap h')(Aa:CV X.prog X.w H' h'):Inv X pins σ H' {s with heap:=h',toks:=t'}:=by
 obtain⟨m,⟨o,es,ep,ho,r⟩,_⟩:=id I.loc;obtain⟨sl,hL⟩:=u.any ho I.free (by simp);exact I.step (g':=s.gens) (d':=s.drawn) (ch:=[]) (fun _ z=>nomatch z) (fun b o _ hb _ e n=>u.keep b o e n hb (by simp)) (fun b o _ hb _ e n=>u.slot b o e n hb (by simp)) (fun b o _ e n=>u.free b o e n (by simp)) (fun b o _ e=>u.there b o e (by simp)) u.Bm u.EB u.Ek (fun b xs o _ q e=>u.EI b xs o q e (by simp)) (fun m' hm=>by
  obtain⟨o',es',ep',ho',r'⟩:=hm;rw[ho]at ho';cases ho';exact⟨_,es',ep',hL,r'⟩) Aa I.bare
theorem Inv.call{g':Array GenState}{t':Nat}{d':Drawn}{ch:List Addr}(I:Inv X pins σ H s)(u:Un (EF X.stack) ch H H' s.heap h')(Aa:CV X.prog X.w H' h')(hg:AllBare g')
 (hch:∀b∈ch,(b∈X.ex∨X.s₀.heap.objs.size≤b)∧b≠X.env.locals∧(∀x c,X.env.cells.lookup x=some c→c≠b)∧∀p∈X.pn++pins,p.1≠b) :
  Inv X pins σ H' {s with heap:=h',gens:=g',drawn:=d',toks:=t'}:=by
 obtain⟨m,⟨o,es,ep,ho,r⟩,_⟩:=id I.loc;obtain⟨sl,hL⟩:=u.any ho I.free fun z=>(hch _ z).2.1 rfl;exact I.step (ch:=ch) hch (fun b o hL hb hc e n=>u.keep b o e n (fun z=>(aI.mp (I.Kh b z)).elim hL hb) hc) (fun b o _ _ hc e n=>u.any e n hc) (fun b o hc e n=>u.free b o e n hc) (fun b o hc e=>u.there b o e hc) u.Bm u.EB u.Ek (fun b xs o hc q e=>u.EI b xs o q e hc) (fun m' hm=>by
  obtain⟨o',es',ep',ho',r'⟩:=hm;rw[ho]at ho';cases ho';exact⟨_,es',ep',hL,r'⟩) Aa hg
theorem Inv.turned{t':Nat}{it:Addr}(I:Inv X pins σ H s)(k:∀b o,b≠it→s.heap.get? b=some o→h'.get? b=some o)(hn:H it=none)(hL:it≠X.env.locals)
 (h1:it∈X.ex∨X.s₀.heap.objs.size≤it)(h2:∀x c,X.env.cells.lookup x=some c→c≠it)(h3:∀p∈X.pn++pins,p.1≠it):Inv X pins σ H {s with heap:=h',toks:=t'}:=by
 have nit:∀b u,H b=some u→b≠it:=fun b u e z=>by rw[z,hn]at e;cases e
 refine I.step (g':=s.gens) (d':=s.drawn) (ch:=[it]) (fun b hb=>?_) (fun b o _ _ hc e _=>k b o (fun z=>hc (by simp[z])) e) (fun b o _ _ hc e _=>⟨o.slots,k b o (fun z=>hc (by simp[z])) e⟩) (fun _ _ _ _ n=>n)
  (fun b o hc e=>⟨o,k b o (fun z=>hc (by simp[z])) e⟩) (fun _ _ e=>e) (fun _ _ _ e=>e) (fun b ps e=>⟨#[],by rw[e];simp⟩) (fun b xs o hc _ e=>k b o (fun z=>hc (by simp[z])) e) (fun m hm=>?_) (fun b u e=>?_) I.bare
 ·have e:b=it:=by simpa using hb
  subst e;exact⟨h1,hL,h2,h3⟩
 ·obtain⟨o,es,ep,ho,r⟩:=hm;exact⟨o,es,ep,k _ o (Ne.symm hL) ho,r⟩
 ·refine(I.Aa b u e).Gr (fun c v hc q=>k c v ?_ q) (fun _ q=>q) fun _ _ q=>q;rcases hc with z|z
  ·rw[z];exact nit b u e
  ·exact nit c _ z
theorem Inv.tok(I:Inv X pins σ H s)(t:Nat):Inv X pins σ H {s with toks:=t}:=I.un (h':=s.heap) (t':=t) Un.refl I.Aa
theorem Inv.kept{t':Nat}(I:Inv X pins σ H s)(k:∀b u,s.heap.get? b=some u→h'.get? b=some u):Inv X pins σ H {s with heap:=h',toks:=t'}:=I.un (Un.kept k) (I.Aa.kept k)
theorem Inv.laid{a:Addr}{o:HO}{t':Nat}(I:Inv X pins σ H s)(k:∀b u,s.heap.get? b=some u→h'.get? b=some u)(hp:s.heap.objs.size≤a)(new:Bb X.prog X.w (upd H a o) h' a o) :
  Inv X pins σ (upd H a o) {s with heap:=h',toks:=t'}:=I.un (Un.laid k hp (I.Aa.fresh hp)) (I.Aa.laid k hp new)
theorem Inv.write{x e:Addr}{o:HO}{t':Nat}(I:Inv X pins σ H s)(mu:UH (H x))(he:e=x∨H e=some (.own x))(k:∀b u,b≠e→s.heap.get? b=some u→h'.get? b=some u)(heo:∃u,h'.get? e=some u)
 (new:Bb X.prog X.w (upd H x o) h' x o):Inv X pins σ (upd H x o) {s with heap:=h',toks:=t'}:=I.un (Un.write mu he k heo) (I.Aa.write mu he k heo new)
theorem Inv.RZ{pins':List (Addr×Obj)}(I:Inv X pins σ H s)(h:∀p∈pins',s.heap.get? p.1=some p.2∧H p.1=none∧p.1≠X.env.locals∧p.1 ∉ X.fs∧∀v,p.2.data≠.cell v):Inv X pins' σ H s :=
 ⟨I.ok,I.os,I.bare,I.base,I.loc,I.cell,I.free,I.EH,fun p hp=>(ay.mp hp).elim (fun z=>I.pin p (List.mem_append_left _ z)) (h p),I.Aa,I.len⟩
theorem L6{N:List Str}(hN:N.Nodup){i j:Nat}{x:Str}(a:N[i]? = some x)(b:N[j]? = some x):i=j:=by
 obtain⟨h1,e1⟩:=aG.mp a;obtain⟨h2,e2⟩:=aG.mp b;exact(List.getElem_inj hN).mp (e1.trans e2.symm)
theorem OE{M:Model}{A:Around}{E:Value→Shared→Prop}{i:Nat}{x:Str}{v:V}{u:Value}{Q:Unit→Shared→Prop}(I:Inv X pins σ H s)(hN:X.N.Nodup)(hi:X.N[i]? = some x)(hx:Loc X.env.scope x)(r:RelV v u)
 (h:∀s',Inv X pins (σ.set i (some v)) H s'→(∃a,Heap.SameBut a s.heap s'.heap∧(a=X.env.locals∨X.env.cells.lookup x=some a))→Q () s')(hf:X.fn x=true∨X.env.scope.names.lookup x=some .local:=by first|exact .inl rfl|exact .inr rfl|assumption):wpAny M A (storeName X.env x u) Q E s:=by
 obtain⟨m,hn,hl⟩:=id I.loc;have hcls:(X.env.scope.kind==.class||(X.env.scope.kind==.module&&X.env.locals != X.env.globals))=false:=by rw[I.ok.kind];rfl
 have hiσ:i<σ.length:=by rw[I.len];exact(aG.mp hi).1
 have M6:=I.M6;have tracked:∀ {a:Addr} {h':Heap},(∃o,s.heap.get? a=some o∧H a=none)→Heap.SameBut a s.heap h'→CV X.prog X.w H h':=fun {a h'} ha hs b ob e=>by
  obtain⟨_,_,hfree⟩:=ha;refine(I.Aa b ob e).Gr (fun c w' hc q=>(hs.2 c ?_).trans q) (fun _ q=>q) fun _ _ q=>q;rintro rfl;rcases hc with rfl|hc
  ·rw[hfree]at e;cases e
  ·rw[hfree]at hc;cases hc
 rcases hx with hk|hk
 ·refine wpAny_storeName_local hk hn (fun h' hn' hs=>?_) hcls;obtain⟨oL,_,_,hoL,_⟩:=id hn;refine h _ ⟨I.ok,I.os,I.bare,⟨fun b o e n hb hx=>?_,fun b o e n hb hx=>?_,I.base.free,fun b o e hx=>?_,I.base.Bm,I.base.EB,I.base.Ek,fun b xs o q e hx=>(hs.2 b (aL (aJ (aF e) I.ok.above))).trans (I.base.EI b xs o q e hx)⟩,⟨_,hn',fun j y v' e1 e2 e3=>?_⟩,fun y c e=>?_,I.free,I.EH,fun p hp=>?_,tracked ⟨oL,hoL,I.free⟩ hs,by simpa using I.len⟩ ⟨_,hs,.inl rfl⟩
  ·exact(hs.2 b (aL (aJ (aF e) I.ok.above))).trans (I.base.keep b o e n hb hx)
  ·obtain⟨sl,e1⟩:=I.base.slot b o e n hb hx;exact⟨sl,(hs.2 b (aL (aJ (aF e) I.ok.above))).trans e1⟩
  ·obtain⟨o',e1⟩:=I.base.there b o e hx;exact⟨o',(hs.2 b (aL (aJ (aF e) I.ok.above))).trans e1⟩
  ·by_cases hj:j=i
   ·subst hj;rw[hi]at e1;cases e1;rw[List.getElem?_set_self hiσ]at e2;cases e2;exact⟨u,r,.inl ⟨hk,by simp⟩⟩
   ·rw[List.getElem?_set_ne (Ne.symm hj)]at e2;obtain⟨u',r',q⟩:=hl j y v' e1 e2 e3;refine⟨u',r',?_⟩;rcases q with ⟨k,e⟩|⟨k,c,e,z⟩
    ·refine .inl ⟨k,?_⟩;have:y≠x:=fun e=>hj (L6 hN e1 (e ▸ hi));simp[this,e]
    ·exact .inr ⟨k,c,e,z.sameBut hs (M6 y c e)⟩
  ·obtain⟨w',z⟩:=I.cell y c e;exact⟨w',z.sameBut hs (M6 y c e)⟩
  ·obtain⟨e,n,ne,nf,d⟩:=I.pin p hp;exact⟨(hs.2 p.1 ne).trans e,n,ne,nf,d⟩
 ·have hfn:X.fn x=true:=by
   rcases hf with z|z
   ·exact z
   ·rw[z]at hk;cases hk
  obtain⟨c,hc⟩:=I.ok.has x (.inl hk);obtain⟨w',z⟩:=I.cell x c hc;refine wpAny_storeName_cell I.ok.kind hk hc z (fun h' hc' hs=>?_);obtain⟨oc,hoc,hocd⟩:=id z;refine h {s with heap:=h'} ⟨I.ok,I.os,I.bare,⟨fun b o e n hb hx=>?_,fun b o e n hb hx=>?_,I.base.free,fun b o e hx=>?_,I.base.Bm,I.base.EB,I.base.Ek,fun b xs o q e hx=>(hs.2 b (aL (aJ (aF e) (I.ok.Pn x c hfn hc)))).trans (I.base.EI b xs o q e hx)⟩,⟨m,hn.sameBut hs (Ne.symm (M6 x c hc)),fun j y v' e1 e2 e3=>?_⟩,fun y c' e=>?_,I.free,I.EH,fun p hp=>?_,tracked ⟨oc,hoc,I.EH x c hc⟩ hs,by simpa using I.len⟩ ⟨c,hs,.inr hc⟩
  ·exact(hs.2 b (aL (aJ (aF e) (I.ok.Pn x c hfn hc)))).trans (I.base.keep b o e n hb hx)
  ·obtain⟨sl,e1⟩:=I.base.slot b o e n hb hx;exact⟨sl,(hs.2 b (aL (aJ (aF e) (I.ok.Pn x c hfn hc)))).trans e1⟩
  ·obtain⟨o',e1⟩:=I.base.there b o e hx;exact⟨o',(hs.2 b (aL (aJ (aF e) (I.ok.Pn x c hfn hc)))).trans e1⟩
  ·by_cases hj:j=i
   ·subst hj;rw[hi]at e1;cases e1;rw[List.getElem?_set_self hiσ]at e2;cases e2;exact⟨u,r,.inr ⟨.inl hk,c,hc,hc'⟩⟩
   ·rw[List.getElem?_set_ne (Ne.symm hj)]at e2;obtain⟨u',r',q⟩:=hl j y v' e1 e2 e3;refine⟨u',r',?_⟩;rcases q with q|⟨k,c',e,z'⟩
    ·exact .inl q
    ·refine .inr ⟨k,c',e,z'.sameBut hs ?_⟩;rintro rfl;exact hj (L6 hN e1 (I.ok.inj _ _ _ e hc ▸ hi))
  ·by_cases hcc:c'=c
   ·subst hcc;exact⟨_,hc'⟩
   ·obtain⟨w2,z2⟩:=I.cell y c' e;exact⟨w2,z2.sameBut hs hcc⟩
  ·obtain⟨e,n,ne,nf,d⟩:=I.pin p hp;refine⟨(hs.2 p.1 ?_).trans e,n,ne,nf,d⟩;intro q;rw[q,hoc]at e;have q':oc=p.2:=aS e;exact d w' (by rw[←q'];exact hocd)
theorem ID{M:Model}{A:Around}{E:Value→Shared→Prop}{i:Nat}{x:Str}{v:V}{u:Value}{Q:Unit→Shared→Prop}(I:Inv X pins σ H s)(hN:X.N.Nodup)(hi:X.N[i]? = some x)(hx:Loc X.env.scope x)(r:RelV v u)
 (h:∀s',Inv X pins (σ.set i (some v)) H s'→Q () s')(hf:X.fn x=true∨X.env.scope.names.lookup x=some .local:=by first|exact .inl rfl|exact .inr rfl|assumption):wpAny M A (storeName X.env x u) Q E s :=
 OE I hN hi hx r (fun s' I' _=>h s' I') hf
theorem Inv.WQ{s':Shared}{ch:List Addr}(I:Inv X pins σ H s)(ho:s'.os=s.os)(u:Un (EF X.stack) ch H H' s.heap s'.heap)(Aa:CV X.prog X.w H' s'.heap)(hg:AllBare s'.gens)
 (hch:∀b∈ch,(b∈X.ex∨X.s₀.heap.objs.size≤b)∧b≠X.env.locals∧(∀x c,X.env.cells.lookup x=some c→c≠b)∧∀p∈X.pn++pins,p.1≠b):Inv X pins σ H' s':=by
 obtain⟨h',g',d',t',o'⟩:=s';have e:o'=s.os:=ho;subst e;exact I.call (g':=g') (t':=t') (d':=d') u Aa hg hch
end
abbrev XK:=Value→Option Addr→Hp→Prop
abbrev St:=List (Option V)
abbrev VK:=V→Hp→Prop
abbrev TE:=St→Hp→VK→Prop
abbrev TT:=St→Hp→(Bool→Hp→Prop)→Prop
abbrev TA:=St→Hp→(List V→Hp→Prop)→Prop
structure Ends where
 nx:St→Hp→Prop
 rt:VK
 bk:St→Hp→Prop:=fun _ _=>False
 ct:St→Hp→Prop:=fun _ _=>False
abbrev TS:=Ends→St→Hp→Prop
def EP(X:Cx)(pins:List (Addr×Obj))(σ:St)(Q:VK)(u:Value)(s':Shared):Prop:=∃v H',Inv X pins σ H' s'∧RelV v u∧Q v H'
def TP(X:Cx)(pins:List (Addr×Obj))(σ:St)(Q:Bool→Hp→Prop)(b:Bool)(s':Shared):Prop:=∃H',Inv X pins σ H' s'∧Q b H'
def AP(X:Cx)(pins:List (Addr×Obj))(σ:St)(Q:List V→Hp→Prop)(us:List Value)(s':Shared):Prop:=∃vs H',Inv X pins σ H' s'∧Vals vs us∧Q vs H'
def SP(X:Cx)(pins:List (Addr×Obj))(D:Ends)(f:Flow)(s':Shared):Prop :=
 match f with
 |.next=>∃σ' H',Inv X pins σ' H' s'∧D.nx σ' H'
 |.brk=>∃σ' H',Inv X pins σ' H' s'∧D.bk σ' H'
 |.cont=>∃σ' H',Inv X pins σ' H' s'∧D.ct σ' H'
 |.ret u=>∃v σ' H',Inv X pins σ' H' s'∧RelV v u∧D.rt v H'
def PE(X:Cx)(e:Expr)(t:TE):Prop :=
 ∀(pins:List (Addr×Obj)) (s:Shared) (σ:St) (H:Hp) (Q:VK),Inv X pins σ H s→t σ H Q→wpAny (model X.prog X.w) X.A (eval e X.env) (EP X pins σ Q) X.xe s
def PT(X:Cx)(e:Expr)(t:TT):Prop :=
 ∀(pins:List (Addr×Obj)) (s:Shared) (σ:St) (H:Hp) (Q:Bool→Hp→Prop),Inv X pins σ H s→t σ H Q→wpAny (model X.prog X.w) X.A (isTrue e X.env (eval e X.env)) (TP X pins σ Q) X.xe s
def PW(X:Cx)(e:Expr)(t:TT):Prop :=
 ∀(whole:Sem Value) (pins:List (Addr×Obj)) (s:Shared) (σ:St) (H:Hp) (Q:Bool→Hp→Prop),Inv X pins σ H s→t σ H Q→wpAny (model X.prog X.w) X.A (isTrue e X.env whole) (TP X pins σ Q) X.xe s
theorem PW.pt{X:Cx}{e:Expr}{t:TT}(h:PW X e t):PT X e t:=h _
def PA(X:Cx)(es:List Expr)(t:TA):Prop :=
 ∀(pos:Pos) (pins:List (Addr×Obj)) (s:Shared) (σ:St) (H:Hp) (Q:List V→Hp→Prop),Inv X pins σ H s→t σ H Q→wpAny (model X.prog X.w) X.A (spliced (backTo pos (starEach es X.env))) (AP X pins σ Q) X.xe s
def PS(X:Cx)(st:Stmt)(t:TS):Prop :=
 ∀(pins:List (Addr×Obj)) (s:Shared) (σ:St) (H:Hp) (D:Ends),Inv X pins σ H s→t D σ H→wpAny (model X.prog X.w) X.A (exec st X.env) (SP X pins D) X.xe s
def FZ(X:Cx)(st:List Stmt)(t:TS):Prop :=
 ∀(pins:List (Addr×Obj)) (s:Shared) (σ:St) (H:Hp) (D:Ends),Inv X pins σ H s→t D σ H→wpAny (model X.prog X.w) X.A (execs st X.env) (SP X pins D) X.xe s
theorem Ar{α:Type}{t:Sem α}{Q Q':α→Shared→Prop}{M:Model}{A:Around}{E:Value→Shared→Prop}{s:Shared}(h:wpAny M A t Q E s)(hQ:∀a s,Q a s→Q' a s):wpAny M A t Q' E s:=aN h hQ fun _ _ x=>x
section
variable{X:Cx}
def F8(i:Nat):TE:=fun σ H Q=>∃v,σ[i]? = some (some v)∧Q v H
def tC(v:V):TE:=fun _ H Q=>Q v H
theorem bM{i:Nat}{x:Str}{pos:Pos}(hN:X.N[i]? = some x)(hv:Za X.env.scope x)(hd:(x==("__debug__" : Str))=false:=by decide)(hcd:(x==("__classdict__" : Str))=false:=by decide):PE X (.Name x pos) (F8 i):=by
 intro pins s σ H Q I h;obtain⟨v,e,h⟩:=h;obtain⟨m,hn,hl⟩:=I.loc;obtain⟨u,r,l⟩:=hl i x v hN e hv;have fin:EP X pins σ Q u s:=⟨v,H,I,r,h⟩;rcases l with ⟨hk,hm⟩|⟨hk,c,hc,hcell⟩
 ·exact wpAny_Name (wpAny_loadName_local I.ok.kind hk hn hm fin) hd
 ·rcases hk with hk|hk
  ·exact wpAny_Name (wpAny_loadName_cell I.ok.kind hk hc hcell fin) hd
  ·exact wpAny_Name (wpAny_loadName_free I.ok.kind hk hc hcell fin hcd) hd
theorem BE{i j pos}:PE X (.Constant (.int i) j pos) (tC (.int i)):=fun _ _ _ H _ I h=>wpAny_Constant_int ⟨.int i,H,I.tok _,⟨_,rfl⟩,h⟩
theorem Ca{b j pos}:PE X (.Constant (.bool b) j pos) (tC (.bl b)):=fun _ _ _ H _ I h=>Constant_bool ⟨.bl b,H,I,rfl,h⟩
theorem bX{j pos}:PE X (.Constant .none j pos) (tC .BR):=fun _ _ _ H _ I h=>Constant_none ⟨.BR,H,I,rfl,h⟩
theorem Zo{x j pos}:PE X (.Constant (.str x) j pos) (tC (.str x)):=fun _ _ _ H _ I h=>Calls.Constant_str ⟨.str x,H,I.tok _,⟨_,rfl⟩,h⟩
def Gl(X:Cx)(x:Str):Prop:=X.env.kindOf x=some .globalImplicit
theorem JN{E:Value→Shared→Prop}{pins:List (Addr×Obj)}{s:Shared}{σ:St}{H:Hp}{x:Str}{u:Value}{pos:Pos}{Q:Value→Shared→Prop}(I:Inv X pins σ H s)(hg:Gl X x)(hm:X.mg x=some u)(h:Q u s)
 (hd:(x==("__debug__" : Str))=false:=by decide):wpAny (model X.prog X.w) X.A (eval (.Name x pos) X.env) Q E s :=
 Calls.Name_function_global I.ok.kind hg (Calls.loadGlobal_global (by rw[I.ok.glob];exact I.mod.glob.keeps I.bk) hm h) hd
theorem Hb{E:Value→Shared→Prop}{pins:List (Addr×Obj)}{s:Shared}{σ:St}{H:Hp}{x:Str}{u:Value}{pos:Pos}{Q:Value→Shared→Prop}(I:Inv X pins σ H s)(hg:Gl X x)(hm:X.mg x=none)(hv:bootBuiltins x=some u)(h:Q u s)
 (hn:x ≠ "__name__" := by decide)(hd:(x==("__debug__" : Str))=false:=by decide):wpAny (model X.prog X.w) X.A (eval (.Name x pos) X.env) Q E s:=by
 obtain⟨mb,h1,h2⟩:=I.mod.blt;exact Calls.Name_function_global I.ok.kind hg (Calls.loadGlobal_builtin (by rw[I.ok.glob];exact I.mod.glob.keeps I.bk) hm (by rw[I.ok.blt];exact h1.keeps I.bk) ((h2 x hn).trans hv) h) hd
theorem Bv{x:Str}{v:V}{u:Value}{pos:Pos}(hg:Gl X x)(hm:X.mg x=some u)(r:RelV v u)(hd:(x==("__debug__" : Str))=false:=by decide):PE X (.Name x pos) (tC v) :=
 fun _ _ _ H _ I h=>JN I hg hm ⟨v,H,I,r,h⟩ hd
theorem C7{x:Str}{v:V}{u:Value}{pos:Pos}(hg:Gl X x)(hm:X.mg x=none)(hv:bootBuiltins x=some u)(r:RelV v u)(hn:x ≠ "__name__" := by decide)(hd:(x==("__debug__" : Str))=false:=by decide):PE X (.Name x pos) (tC v) :=
 fun _ _ _ H _ I h=>Hb I hg hm hv ⟨v,H,I,r,h⟩ hn hd
variable{a b:Expr}{ta tb:TE}{pos:Pos}
def tB(t:TE):TT:=fun σ H Q=>t σ H fun x H1=>∃c,x=.bl c∧Q c H1
theorem CU{e : Expr}{t : TE}(h : PE X e t)(he : ∀ whole,isTrue e X.env whole = (do let v ← whole; standAt e.pos; holding [v] (truthy v)) := by intro _; rfl) : PT X e (tB t) := by
  intro pins s σ H Q I hw
  refine isTrue_plain (Ar (h pins s σ H _ I hw) fun v s1 ⟨x,H1,I1,r1,q1⟩ => ?_) (he _)
  obtain ⟨d,rfl,q⟩:=q1
  cases r1
  exact wpAny_truthy_bool ⟨H1,I1,q⟩
variable{tA tB':TT}{rest:List Expr}
def fI(t u:TT):TT:=fun σ H Q=>t σ H fun c H1=>if c=true then u σ H1 Q else Q false H1
def fj(t u:TT):TT:=fun σ H Q=>t σ H fun c H1=>if c=true then Q true H1 else u σ H1 Q
def eg(t:TT):TT:=fun σ H Q=>t σ H fun c H1=>Q (!c) H1
theorem RQ(ha:PT X a tA):PW X (.BoolOp .And [a] pos) tA:=by
 intro wh pins s σ H Q I h;refine isTrue_and (Ar (ha pins s σ H Q I h) fun c s1 e=>?_);cases c with
 |true=>exact isTrue_and_nil e
 |false=>exact e
theorem EN(ha:PT X a tA):PW X (.BoolOp .Or [a] pos) tA:=by
 intro wh pins s σ H Q I h;refine isTrue_or (Ar (ha pins s σ H Q I h) fun c s1 e=>?_);cases c with
 |false=>exact isTrue_or_nil e
 |true=>exact e
theorem T8(ha:PT X a tA)(hb:PW X (.BoolOp .And (b::rest) pos) tB'):PW X (.BoolOp .And (a::b::rest) pos) (fI tA tB'):=by
 intro wh pins s σ H Q I h;refine isTrue_and (Ar (ha pins s σ H _ I h) fun c s1 ⟨H1,I1,q1⟩=>?_);cases c with
 |true=>exact hb wh pins s1 σ H1 Q I1 q1
 |false=>exact⟨H1,I1,q1⟩
theorem Eg(ha:PT X a tA)(hb:PW X (.BoolOp .Or (b::rest) pos) tB'):PW X (.BoolOp .Or (a::b::rest) pos) (fj tA tB'):=by
 intro wh pins s σ H Q I h;refine isTrue_or (Ar (ha pins s σ H _ I h) fun c s1 ⟨H1,I1,q1⟩=>?_);cases c with
 |true=>exact⟨H1,I1,q1⟩
 |false=>exact hb wh pins s1 σ H1 Q I1 q1
theorem CT(ha:PT X a tA):PT X (.UnaryOp .Not a pos) (eg tA):=by
 intro pins s σ H Q I h;exact isTrue_not (ha pins s σ H (fun c H1=>Q (!c) H1) I h)
def dG(ta tb:TE):TE:=fun σ H Q=>ta σ H fun x H1=>∃c,x=.bl c∧if c=true then tb σ H1 Q else Q (.bl false) H1
def b3(ta:TE):TE:=fun σ H Q=>ta σ H fun x H1=>∃c,x=.bl c∧Q (.bl (!c)) H1
theorem Mr{op}{t:TE}(h:PE X a t):PE X (.BoolOp op [a] pos) t:=fun pins s σ H Q I hw=>BoolOp_one (h pins s σ H Q I hw)
theorem K9(ha:PE X a ta)(hb:PE X (.BoolOp .And (b::rest) pos) tb):PE X (.BoolOp .And (a::b::rest) pos) (dG ta tb):=by
 intro pins s σ H Q I h;refine BoolOp_and (Ar (ha pins s σ H _ I h) fun v s1 ⟨x,H1,I1,r1,q1⟩=>?_);obtain⟨c,rfl,q1⟩:=q1;cases r1;refine wpAny_truthy_bool ?_;cases c with
 |true=>exact hb pins s1 σ H1 Q I1 q1
 |false=>exact⟨.bl false,H1,I1,rfl,q1⟩
theorem Yg(ha:PE X a ta):PE X (.UnaryOp .Not a pos) (b3 ta):=by
 intro pins s σ H Q I h;refine UnaryOp_ (Ar (ha pins s σ H _ I h) fun v s1 ⟨x,H1,I1,r1,q1⟩=>?_);obtain⟨c,rfl,q1⟩:=q1;cases r1;exact not_of (wpAny_truthy_bool ⟨.bl (!c),H1,I1,rfl,q1⟩)
def fP(t:TT)(ta tb:TE):TE:=fun σ H Q=>t σ H fun c H1=>if c=true then ta σ H1 Q else tb σ H1 Q
theorem Vp{c:Expr}(hc:PT X c tA)(ha:PE X a ta)(hb:PE X b tb):PE X (.IfExp c a b pos) (fP tA ta tb):=by
 intro pins s σ H Q I h;refine wpAny_IfExp (Ar (hc pins s σ H _ I h) fun d s1 ⟨H1,I1,q1⟩=>?_);cases d with
 |true=>exact ha pins s1 σ H1 Q I1 q1
 |false=>exact hb pins s1 σ H1 Q I1 q1
end
def A3(K:PySem.W.Frag)(H:Hp)(a:Addr)(xs:List V):Prop :=
 Rd H a (.lst xs) ∨
  ∃(o:Obj) (its:Array Value) (n:Nat),K.lookup a=some o∧o.cls=.type "list" ∧ o.dict=none∧o.data=.seq its n∧its.size≤sizeLine∧Vals xs its.toList
def A9(K:PySem.W.Frag)(H:Hp)(a:Addr)(xs:List V):Prop :=
 Rd H a (.tup xs) ∨
  ∃(o:Obj) (its:Array Value) (n:Nat),K.lookup a=some o∧o.cls=.type "tuple" ∧ o.data=.seq its n∧its.size≤sizeLine∧Vals xs its.toList
def Nq:Value→Option V
 |.none=>some .BR
 |.bool b=>some (.bl b)
 |.int i _=>some (.int i)
 |.str x _=>some (.str x)
 |.bytes b _=>some (.Kf b)
 |.float b _=>some (.RO b)
 |.ref a=>some (.ref a)
 |.type n=>some (.ty n)
 |_=>none
theorem RelV.abs{x:V}{u:Value}(r:RelV x u):Nq u=some x:=by
 cases x with
 |BR=>cases r;rfl
 |bl _=>cases r;rfl
 |int _=>obtain⟨t,rfl⟩:=r;rfl
 |str _=>obtain⟨t,rfl⟩:=r;rfl
 |Kf _=>obtain⟨t,rfl⟩:=r;rfl
 |RO _=>obtain⟨t,rfl⟩:=r;rfl
 |ref _=>cases r;rfl
 |ty _=>cases r;rfl
theorem RelV.inj{x y:V}{u:Value}(r:RelV x u)(q:RelV y u):x=y:=aS (r.abs.symm.trans q.abs)
theorem Vals.inj:∀ {xs ys:List V} {us:List Value},Vals xs us→Vals ys us→xs=ys
 |_,_,_,.nil,.nil=>rfl
 |_,_,_,.cons r t,.cons r' t'=>by rw[r.inj r',Vals.inj t t']
section
variable{X:Cx}{pins:List (Addr×Obj)}{σ:St}{H:Hp}{s:Shared}{a:Addr}{xs ys:List V}
theorem A3.of{K:PySem.W.Frag}(h:H a=some (.lst xs)):A3 K H a xs:=.inl (.inl h)
theorem A9.of{K:PySem.W.Frag}(h:H a=some (.tup xs)):A9 K H a xs:=.inl (.inl h)
theorem Inv.list(I:Inv X pins σ H s)(h:A3 X.K H a xs):∃its:List Value,Vals xs its∧PlainL s.heap a its.toArray∧xs.length≤sizeLine:=by
 rcases h with h|⟨o,its,n,hk,hc,hd,hs,hz,r⟩
 ·obtain⟨z,its,n,r,e⟩:=h.ok I.Aa;exact⟨its,r,⟨_,n,e,rfl,rfl,rfl⟩,z⟩
 ·refine⟨its.toList,r,⟨o,n,I.EG a o hk,hc,hd,by simpa using hs⟩,?_⟩;have e:=r.length;simp only[Array.length_toList]at e
  lia
theorem Inv.tuple(I:Inv X pins σ H s)(h:A9 X.K H a xs):∃its:List Value,Vals xs its∧IsTup s.heap a its.toArray∧xs.length≤sizeLine:=by
 rcases h with h|⟨o,its,n,hk,hc,hs,hz,r⟩
 ·obtain⟨z,its,r,p⟩:=h.ok I.Aa;exact⟨its,r,p,z⟩
 ·refine⟨its.toList,r,⟨o,I.EG a o hk,hc,n,by simpa using hs⟩,?_⟩;have e:=r.length;simp only[Array.length_toList]at e
  lia
theorem Inv.PD(I:Inv X pins σ H s)(h:A3 X.K H a xs)(h':A3 X.K H a ys):xs=ys:=by
 obtain⟨its,r,⟨o,n,e,_,_,d⟩,_⟩:=I.list h;obtain⟨its',r',⟨o',n',e',_,_,d'⟩,_⟩:=I.list h';rw[e]at e';cases e';rw[d]at d'
 injection d' with d1 _
 have:its=its':=by simpa using bA Array.toList d1
 subst this;exact r.inj r'
theorem Inv.OW(I:Inv X pins σ H s)(h:A9 X.K H a xs)(h':A9 X.K H a ys):xs=ys:=by
 obtain⟨its,r,⟨o,e,_,n,d⟩,_⟩:=I.tuple h;obtain⟨its',r',⟨o',e',_,n',d'⟩,_⟩:=I.tuple h';rw[e]at e';cases e';rw[d]at d'
 injection d' with d1 _
 have:its=its':=by simpa using bA Array.toList d1
 subst this;exact r.inj r'
end
abbrev Cx.FL(X:Cx)(E:Value→Shared→Prop):Cx:={X with xe:=E}
abbrev Cx.GR(X:Cx):Cx:=X.FL fun _ _=>False
theorem Cx.Ok.FL{X:Cx}(ok:X.Ok)(E:Value→Shared→Prop):(X.FL E).Ok :=
 ⟨ok.mod,ok.kind,ok.glob,ok.blt,ok.above,ok.inj,ok.has,ok.Pn,ok.hd,ok.frames,ok.TN,ok.Zu,ok.bs,ok.M1,ok.Np,ok.Nj,ok.Ff,ok.Mg,ok.kt⟩
theorem Cx.Ok.Cz{X:Cx}{E:Value→Shared→Prop}(ok:(X.FL E).Ok):X.Ok :=
 ⟨ok.mod,ok.kind,ok.glob,ok.blt,ok.above,ok.inj,ok.has,ok.Pn,ok.hd,ok.frames,ok.TN,ok.Zu,ok.bs,ok.M1,ok.Np,ok.Nj,ok.Ff,ok.Mg,ok.kt⟩
section
variable{X:Cx}{pins:List (Addr×Obj)}{σ:St}{H:Hp}{s:Shared}{E:Value→Shared→Prop}
theorem Inv.FL(I:Inv X pins σ H s)(E:Value→Shared→Prop):Inv (X.FL E) pins σ H s:=⟨I.ok.FL E,I.os,I.bare,I.base,I.loc,I.cell,I.free,I.EH,I.pin,I.Aa,I.len⟩
theorem Inv.Cz(I:Inv (X.FL E) pins σ H s):Inv X pins σ H s:=⟨I.ok.Cz,I.os,I.bare,I.base,I.loc,I.cell,I.free,I.EH,I.pin,I.Aa,I.len⟩
theorem SP.Cz{D:Ends}{f:Flow}{s':Shared}(h:SP (X.FL E) pins D f s'):SP X pins D f s':=by
 cases f with
 |next=>obtain⟨σ',H',I,q⟩:=h;exact⟨σ',H',I.Cz,q⟩
 |brk=>obtain⟨σ',H',I,q⟩:=h;exact⟨σ',H',I.Cz,q⟩
 |cont=>obtain⟨σ',H',I,q⟩:=h;exact⟨σ',H',I.Cz,q⟩
 |ret u=>obtain⟨v,σ',H',I,r,q⟩:=h;exact⟨v,σ',H',I.Cz,r,q⟩
theorem FZ.GR{st:List Stmt}{t:TS}(h:FZ X.GR st t):FZ X st t:=fun pins s σ H D I hw =>
 aN (h pins s σ H D (I.FL _) hw) (fun _ _ q=>q.Cz) fun _ _ z=>False.elim z
end
section
variable{X:Cx}{st:Stmt}{rest:List Stmt}{t u:TS}{e:Expr}{te:TE}{pos:Pos}
def cI:TS:=fun D σ H=>D.nx σ H
def Z0(t u:TS):TS:=fun D σ H=>t {D with nx:=u D} σ H
theorem B3:FZ X [] cI:=fun _ _ σ H _ I h=>wpAny_execs_nil ⟨σ,H,I,h⟩
theorem A7(h1:PS X st t)(h2:FZ X rest u):FZ X (st::rest) (Z0 t u):=by
 intro pins s σ H D I h;refine wpAny_execs_cons (Ar (h1 pins s σ H {D with nx:=u D} I h) fun f s1 q=>?_);cases f with
 |next =>
  obtain⟨σ',H',I',q⟩:=q;exact h2 pins s1 σ' H' D I' q
 |ret v=>exact q
 |brk=>exact q
 |cont=>exact q
theorem Aq(h1:PS X st t):FZ X [st] t:=by
 intro pins s σ H D I h;refine wpAny_execs_cons (Ar (h1 pins s σ H D I h) fun f s1 q=>?_);cases f with
 |next=>exact wpAny_execs_nil q
 |ret v=>exact q
 |brk=>exact q
 |cont=>exact q
def cA:TS:=fun D σ H=>D.ct σ H
theorem Qs:PS X (.Continue pos) cA:=fun _ _ σ H _ I h=>wpAny_Continue ⟨σ,H,I,h⟩
theorem Inv.quiet{pins:List (Addr×Obj)}{σ:St}{H:Hp}{s:Shared}(I:Inv X pins σ H s):interactive X.env=false:=by simp[interactive,I.ok.kind]
def Ot(te:TE):TS:=fun D σ H=>te σ H fun _ H1=>D.nx σ H1
theorem D8(he:PE X e te)(hs:swapsWith e none pos.line X.env=pure false:=by rfl):PS X (.Expr e pos) (Ot te):=by
 intro pins s σ H D I h;exact wpAny_Expr_any (Ar (he pins s σ H _ I h) fun v s1 ⟨x,H1,I1,r1,q1⟩=>⟨σ,H1,I1,q1⟩) I.quiet hs
def eL(te:TE):TS:=fun D σ H=>te σ H D.rt
theorem BM(he:PE X e te):PS X (.Return (some e) pos) (eL te):=by
 intro pins s σ H D I h;exact wpAny_Return_some (Ar (he pins s σ H _ I h) fun v s1 ⟨x,H1,I1,r1,q1⟩=>⟨x,σ,H1,I1,r1,q1⟩)
def er(c:TT)(t u:TS):TS:=fun D σ H=>c σ H fun b H1=>if b=true then t D σ H1 else u D σ H1
theorem DH{c:Expr}{a b:List Stmt}{tc:TT}(hc:PT X c tc)(ha:FZ X a t)(hb:FZ X b u):PS X (.If c a b pos) (er tc t u):=by
 intro pins s σ H D I h;refine wpAny_If (Ar (hc pins s σ H _ I h) fun d s1 ⟨H1,I1,q1⟩=>?_);cases d with
 |true=>exact ha pins s1 σ H1 D I1 q1
 |false=>exact hb pins s1 σ H1 D I1 q1
end
abbrev TG:=V→St→Hp→(St→Hp→Prop)→Prop
abbrev Pz:=List V→St→Hp→(St→Hp→Prop)→Prop
def PG(X:Cx)(target:Expr)(t:TG):Prop :=
 ∀(pins:List (Addr×Obj)) (s:Shared) (σ:St) (H:Hp) (v:V) (u:Value) (Q:St→Hp→Prop),Inv X pins σ H s→RelV v u→t v σ H Q →
  wpAny (model X.prog X.w) X.A (assign target X.env u) (fun _ s'=>∃σ' H',Inv X pins σ' H' s'∧Q σ' H') X.xe s
def Wo(X:Cx)(ts:List Expr)(t:Pz):Prop :=
 ∀(pins:List (Addr×Obj)) (s:Shared) (σ:St) (H:Hp) (vs:List V) (us:List Value) (Q:St→Hp→Prop),Inv X pins σ H s→Vals vs us→t vs σ H Q →
  wpAny (model X.prog X.w) X.A (assignInOrder ((assignEach ts X.env).map (·.2)) us) (fun _ s'=>∃σ' H',Inv X pins σ' H' s'∧Q σ' H') X.xe s
abbrev PN:=V→V→V→Hp→(Hp→Prop)→Prop
def VX(X:Cx)(t:PN):Prop :=
 ∀(pins:List (Addr×Obj)) (s:Shared) (σ:St) (H:Hp) (o i v:V) (ov iv u:Value) (Q:Hp→Prop),Inv X pins σ H s→RelV o ov→RelV i iv→RelV v u→t o i v H Q →
  wpAny (model X.prog X.w) X.A (setItem ov iv u) (fun _ s'=>∃H',Inv X pins σ H' s'∧Q H') X.xe s
abbrev Wk:=V→V→Hp→VK→Prop
def dc(X:Cx)(op:Operator)(t:Wk):Prop :=
 ∀(pins:List (Addr×Obj)) (s:Shared) (σ:St) (H:Hp) (x y:V) (v u:Value) (Q:VK),Inv X pins σ H s→RelV x v→RelV y u→t x y H Q →
  wpAny (model X.prog X.w) X.A (inplaceOp op v u) (EP X pins σ Q) X.xe s
section
variable{X:Cx}{pos:Pos}
def Fj(i:Nat):TG:=fun v σ H Q=>Q (σ.set i (some v)) H
theorem Bg{i:Nat}{x:Str}(hN:X.N.Nodup)(hi:X.N[i]? = some x)(hx:Loc X.env.scope x)(hf:X.fn x=true∨X.env.scope.names.lookup x=some .local:=by first|exact .inl rfl|exact .inr rfl|assumption):PG X (.Name x pos) (Fj i):=by
 intro pins s σ H v u Q I r h;exact wpAny_assign_Name (ID I hN hi hx r (fun s' I'=>⟨_,H,I',h⟩) hf)
def Vq:Pz:=fun vs σ H Q=>vs=[]∧Q σ H
def Me(t:TG)(u:Pz):Pz:=fun vs σ H Q=>∃v r,vs=v::r∧t v σ H fun σ' H'=>u r σ' H' Q
theorem HM:Wo X [] Vq:=by
 intro pins s σ H vs us Q I r h;obtain⟨e,h⟩:=h;subst e;cases r;exact assignInOrder_nil ⟨σ,H,I,h⟩
theorem Cd{e:Expr}{es:List Expr}{t:TG}{u:Pz}(h1:PG X e t)(h2:Wo X es u)
 (hs:(assignEach (e::es) X.env).map (·.2)=assign e X.env::(assignEach es X.env).map (·.2):=by rfl):Wo X (e::es) (Me t u):=by
 intro pins s σ H vs us Q I r h;obtain⟨v,vr,e1,h⟩:=h;subst e1;cases r with
 |cons r rr =>
  rw[hs];refine assignInOrder_cons (Ar (h1 pins s σ H _ _ _ I r h) fun _ s1 ⟨σ1,H1,I1,q1⟩=>?_);exact h2 pins s1 σ1 H1 _ _ Q I1 rr q1
def U3(K:PySem.W.Frag)(n:Nat)(t:Pz):TG:=fun v σ H Q=>∃a xs,v=.ref a∧A9 K H a xs∧xs.length=n∧t xs σ H Q
theorem Jh{es:List Expr}{k:Nat}{t:Pz}{n:Nat}(hc:X.calm=true)(h:Wo X es t)
 (hn:(assignEach es X.env).length=n:=by rfl)(hst:(assignEach es X.env).findIdx? (·.1)=none:=by rfl):PG X (.Tuple es k pos) (U3 X.K n t):=by
 intro pins s σ H v u Q I r hw;obtain⟨a,xs,e1,hq,hl,hw⟩:=hw;subst e1;cases r;obtain⟨its,rv,ht,hz⟩:=I.tuple hq;refine assign_Tuple_tuple (I.ok.hd hc) ht (by simp[hn,←hl,rv.length]) hst fun h' hx=>?_;have I1:Inv X pins σ H {s with heap:=h'}:=I.kept (t':=s.toks) fun b o e=>hx b o (aL (aF e)) e;exact h pins _ σ H xs _ Q I1 (by simpa using rv) hw
def ZF(to ti:TE)(t:PN):TG:=fun v σ H Q=>to σ H fun o H1=>ti σ H1 fun i H2=>t o i v H2 fun H3=>Q σ H3
theorem Kp{o i:Expr}{to ti:TE}{t:PN}(ho:PE X o to)(hi:PE X i ti)(hs:VX X t)
 (ha:∀v,assign (.Subscript o i pos) X.env v=(do
      let ov ←holding [v] (eval o X.env)
      let iv ←holding [v,ov] (eval i X.env)
      standAt pos
      holding [v,ov,iv] (setItem ov iv v)
      release [v,ov,iv] []):=by intro _;rfl):PG X (.Subscript o i pos) (ZF to ti t):=by
  intro pins s σ H v u Q I r h
  rw[ha]
  refine aA (bF (Ar (ho pins s σ H _ I h) fun ov s1 ⟨x,H1,I1,r1,q1⟩=>?_))
  refine aA (bF (Ar (hi pins s1 σ H1 _ I1 q1) fun iv s2 ⟨y,H2,I2,r2,q2⟩=>?_))
  refine aA (wpAny_standAt (aA (bF (Ar (hs pins s2 σ H2 x y v ov iv u _ I2 r1 r2 r q2) fun _ s3 ⟨H3,I3,q3⟩=>?_))))
  exact wpAny_release ⟨σ,H3,I3,q3⟩
def Pg(te:TE)(g:TG):TS:=fun D σ H=>te σ H fun x H1=>g x σ H1 D.nx
theorem JG{tg e:Expr}{te:TE}{g:TG}(he:PE X e te)(hg:PG X tg g)(hs:swapsWithSole [tg] e pos.line X.env=pure false:=by rfl)(hw:swappedStores [tg] e X.env=pure none:=by rfl)
 (h1:(assignEach [tg] X.env).map (·.2)=[assign tg X.env]:=by rfl):PS X (.Assign [tg] e pos) (Pg te g):=by
 intro pins s σ H D I h;refine wpAny_Assign_stores (Ar (he pins s σ H _ I h) fun v s1 ⟨x,H1,I1,r1,q1⟩=>?_) hs hw;rw[h1];exact Ar (hg pins s1 σ H1 x v _ I1 r1 q1) fun _ s2 q=>q
theorem Dj{i:Nat}{x:Str}{e:Expr}{te:TE}{pos':Pos}(hN:X.N.Nodup)(hi:X.N[i]? = some x)(hx:Loc X.env.scope x)(he:PE X e te)(hs:swapsWith e (some (.Name x pos')) pos.line X.env=pure false:=by rfl)(hf:X.fn x=true∨X.env.scope.names.lookup x=some .local:=by first|exact .inl rfl|exact .inr rfl|assumption) :
  PS X (.Assign [.Name x pos'] e pos) (Pg te (Fj i)):=by
 intro pins s σ H D I h;refine wpAny_Assign_Name (Ar (he pins s σ H _ I h) fun v s1 ⟨y,H1,I1,r1,q1⟩=>?_) hs;exact ID I1 hN hi hx r1 (fun s2 I2=>⟨_,H1,I2,q1⟩) hf
def ei(i j:Nat)(ta:TA):TS:=fun D σ H=>ta σ H fun vs H1=>∃v w,vs=[v,w]∧D.nx ((σ.set i (some v)).set j (some w)) H1
theorem Z5{i j:Nat}{x y:Str}{a b:Expr}{ta:TA}{px py pt:Pos}{kt k2 pt2}(hc:X.calm=true)(hN:X.N.Nodup)(hi:X.N[i]? = some x)(hj:X.N[j]? = some y)(hij:i≠j)
 (hx:X.env.scope.names.lookup x=some .local)(hy:X.env.scope.names.lookup y=some .local)(ha:PA X [a,b] ta)
 (hw:swappedStores [.Tuple [.Name x px,.Name y py] kt pt] (.Tuple [a,b] k2 pt2) X.env=pure (some [x,y]))
 (hs:swapsWithSole [.Tuple [.Name x px,.Name y py] kt pt] (.Tuple [a,b] k2 pt2) pos.line X.env=pure false:=by rfl) :
  PS X (.Assign [.Tuple [.Name x px,.Name y py] kt pt] (.Tuple [a,b] k2 pt2) pos) (ei i j ta):=by
 intro pins s σ H D I h;rw[exec_Assign_arm];refine aA (wpAny_standAt ?_);rw[hs];refine aA (aD ?_);rw[if_neg (by decide)];refine aA (Tuple_ (Ar (ha _ pins s σ H _ I h) fun us s1 ⟨vs,H1,I1,r1,q1⟩=>?_));obtain⟨v,w,e1,q1⟩:=q1;subst e1;obtain⟨u1,u2,rfl,rv,rw'⟩:∃u1 u2,us=[u1,u2]∧RelV v u1∧RelV w u2:=by
  cases r1 with
  |cons p q =>
   cases q with
   |cons p' q' =>
    cases q';exact⟨_,_,rfl,p,p'⟩
 refine aT ?_ (by show 2≤sizeLine;decide);have I2:Inv X pins σ H1 {s1 with heap:=s1.heap.push { cls:=.type "tuple",data:=.seq [u1,u2].toArray} }:=I1.kept (t':=s1.toks) fun b o e=>aE _ e;rw[hw];refine aA (aD ?_);show wpAny (model X.prog X.w) X.A (do rule "assign.swapped-stores"; let items ←unpackItems (.ref s1.heap.objs.size) 2 none;assignInOrder [fun v=>bindName X.env y v,fun v=>bindName X.env x v] items.reverse;pure Flow.next) _ _ _;refine aA (wpAny_rule (aA (unpackItems_tuple (items:=#[u1,u2]) (I.ok.hd hc) (IsTup.new s1.heap _) fun h' hx'=>?_)));have I3:=I2.kept (h':=h') (t':=s1.toks) fun b o e=>hx' b o (aL (aF e)) e;show wpAny _ _ (assignInOrder [fun v=>bindName X.env y v,fun v=>bindName X.env x v] [u2,u1]>>=fun _=>pure Flow.next) _ _ _;refine aA (assignInOrder_cons (wpAny_bindName (ID I3 hN hj (.inl hy) rw' (fun s2 I4=>?_) (.inr hy))));refine assignInOrder_cons (wpAny_bindName (ID I4 hN hi (.inl hx) rv (fun s3 I5=>assignInOrder_nil (aD ?_)) (.inr hx)));rw[List.set_comm _ _ (Ne.symm hij)]at I5;exact⟨_,H1,I5,q1⟩
def cY(to ti te:TE)(tget:V→V→Hp→VK→Prop)(tip:Wk)(tset:PN):TS:=fun D σ H=>to σ H fun o H1=>ti σ H1 fun i H2=>tget o i H2 fun x H3=>te σ H3 fun y H4=>tip x y H4 fun z H5=>tset o i z H5 fun H6=>D.nx σ H6
def Y5(X:Cx)(t:V→V→Hp→VK→Prop):Prop :=
 ∀(pins:List (Addr×Obj)) (s:Shared) (σ:St) (H:Hp) (o i:V) (ov iv:Value) (Q:VK),Inv X pins σ H s→RelV o ov→RelV i iv→t o i H Q →
  wpAny (model X.prog X.w) X.A (getItem ov iv) (EP X pins σ Q) X.xe s
theorem XI{o i e:Expr}{to ti te:TE}{tget:V→V→Hp→VK→Prop}{tip:Wk}{tset:PN}{op:Operator}{tpos:Pos}(ho:PE X o to)(hi:PE X i ti)(hg:Y5 X tget)(he:PE X e te)(hp:dc X op tip)(hs:VX X tset)
 (ha:∀ov iv new,augStore i ov iv new=(do holding [new,ov,iv] (setItem ov iv new);release [new,ov,iv] [];pure .next):=by intros;rfl):PS X (.AugAssign (.Subscript o i tpos) op e pos) (cY to ti te tget tip tset):=by
 intro pins s σ H D I h;refine wpAny_AugAssign_SubscriptAny (Ar (ho pins s σ H _ I h) fun ov s1 ⟨x1,H1,I1,r1,q1⟩=>?_) ha;refine Ar (hi pins s1 σ H1 _ I1 q1) fun iv s2 ⟨x2,H2,I2,r2,q2⟩=>?_;refine Ar (hg pins s2 σ H2 x1 x2 ov iv _ I2 r1 r2 q2) fun old s3 ⟨x3,H3,I3,r3,q3⟩=>?_;refine Ar (he pins s3 σ H3 _ I3 q3) fun v s4 ⟨x4,H4,I4,r4,q4⟩=>?_;refine Ar (hp pins s4 σ H4 x3 x4 old v _ I4 r3 r4 q4) fun new s5 ⟨x5,H5,I5,r5,q5⟩=>?_;exact Ar (hs pins s5 σ H5 x1 x2 x5 ov iv new _ I5 r1 r2 r5 q5) fun _ s6 ⟨H6,I6,q6⟩=>⟨σ,H6,I6,q6⟩
def fi(f:Int→Int→Int):Wk:=fun x y H Q=>∃i j,x=.int i∧y=.int j∧Q (.int (f i j)) H
theorem Yy:dc X .Add (fi fun i j=>i+j):=by
 intro pins s σ H x y v u Q I r1 r2 h;obtain⟨i,j,e1,e2,q⟩:=h;subst e1;subst e2;obtain⟨t,rfl⟩:=r1;obtain⟨t',rfl⟩:=r2;exact iadd_int ⟨.int _,H,I.tok _,⟨_,rfl⟩,q⟩
end
section
variable{X:Cx}{pos:Pos}
def UL(c:TT)(tb:TS):TS:=fun D σ H=>∃W:Nat→St→Hp→Prop,(∃m,W m σ H)∧∀m σ H,W m σ H →
 c σ H fun b H1=>if b=true then ∃N:St→Hp→Prop,(∀σ' H',N σ' H'→∃m',m'<m∧W m' σ' H')∧tb {D with nx:=N,ct:=N,bk:=D.nx} σ H1 else D.nx σ H1
theorem Py{c:Expr}{body:List Stmt}{tc:TT}{tb:TS}(hp:PassesOwn (model X.prog X.w) X.A X.env X.xe)(hc:PT X c tc)(hb:FZ X body tb):PS X (.While c body [] pos) (UL tc tb):=by
 intro pins s σ H D I h;obtain⟨W,⟨m0,w0⟩,turn⟩:=h;refine wpAny_While (codeAny_whileLoop (fun n s'=>∃σ' H',Inv X pins σ' H' s'∧W n σ' H') ?_ m0 ⟨σ,H,I,w0⟩);rintro n s1 ⟨σ1,H1,I1,w1⟩;refine wpAny_passesOwn hp (Ar (hc pins s1 σ1 H1 _ I1 (turn n σ1 H1 w1)) fun b s2 ⟨H2,I2,q2⟩=>?_);cases b with
 |true =>
  obtain⟨N,hN,q2⟩:=q2;rw[if_pos rfl];refine wpAny_passesOwn hp (Ar (hb pins s2 σ1 H2 _ I2 q2) fun f s3 q3=>?_);cases f with
  |next =>
   obtain⟨σ3,H3,I3,n3⟩:=q3;obtain⟨m',hm,w3⟩:=hN σ3 H3 n3;exact⟨m',hm,σ3,H3,I3,w3⟩
  |cont =>
   obtain⟨σ3,H3,I3,n3⟩:=q3;obtain⟨m',hm,w3⟩:=hN σ3 H3 n3;exact⟨m',hm,σ3,H3,I3,w3⟩
  |brk=>exact q3
  |ret v=>exact q3
 |false =>
  rw[if_neg aK];exact wpAny_execs_nil ⟨σ1,H2,I2,q2⟩
end
structure It where
 go:Nat→Hp→Prop
 Dm:Nat→Hp→V→Hp→Prop
 stop:Nat→Hp→Prop
def Gm(X:Cx)(pins:List (Addr×Obj))(H:Hp)(b:Addr):Prop :=
 H b=none∧b≠X.env.locals∧b ∉ X.fs∧(b∈X.ex∨X.s₀.heap.objs.size≤b)∧(∀x c,X.env.cells.lookup x=some c→c≠b)∧∀p∈X.pn++pins,p.1≠b
theorem Inv.NL{X:Cx}{pins:List (Addr×Obj)}{σ:St}{H H':Hp}{s:Shared}{b:Addr}(I:Inv X pins σ H s)(hb:s.heap.objs.size≤b)(hn:H' b=none):Gm X pins H' b:=by
 refine⟨hn,Nat.ne_of_gt (aJ I.lt hb),I.eu hb,.inr (af I.sz hb),fun x c e z=>?_,fun p hp z=>?_⟩
 ·obtain⟨v,q⟩:=I.cell x c e;exact absurd (aJ q.lt (by rw[z];exact hb)) (Nat.lt_irrefl _)
 ·exact absurd (aJ (aF (I.pin p hp).1) (by rw[z];exact hb)) (Nat.lt_irrefl _)
structure Turn(P:Program)(w:World)(K:PySem.W.Frag)(tg:Expr)(J:It)(fp:List Addr)(it:Addr)(tn:Nat→Heap→Prop):Prop where
 mem:it∈fp
 obj:∀i h,tn i h→∀b∈fp,∃o,h.get? b=some o∧∀v,o.data≠.cell v
 keep:∀i h h',tn i h→(∀b∈fp,∀o,h.get? b=some o→h'.get? b=some o)→tn i h'
 item:∀(X:Cx),X.prog=P→X.w=w→X.K=K→X.calm=true→∀(i:Nat) (pins:List (Addr×Obj)) (s:Shared) (σ:St) (H:Hp) (E:Value→Shared→Prop),Inv X pins σ H s→(∀b∈fp,Gm X pins H b)→tn i s.heap→J.go i H →
  wpAny (model P w) X.A (pyNext (.ref it)) (fun r s1=>∃u,r=some u ∧
   wpAny (model P w) X.A (letOwnedTupleGo tg (.ref it) u) (fun _ s2=>∃x H',Inv X pins σ H' s2∧RelV x u∧J.Dm i H x H'∧tn (i+1) s2.heap∧∀b∈fp,H' b=none) E s1) E s
 done:∀(X:Cx),X.prog=P→X.w=w→X.K=K→X.calm=true→∀(i:Nat) (pins:List (Addr×Obj)) (s:Shared) (σ:St) (H:Hp) (E:Value→Shared→Prop),Inv X pins σ H s→(∀b∈fp,Gm X pins H b)→tn i s.heap→J.stop i H →
  wpAny (model P w) X.A (pyNext (.ref it)) (fun r s1=>r=none∧Inv X pins σ H s1) E s
 self:∀(A:Around) (i:Nat) (s:Shared) (Q:Value→Shared→Prop) (E:Value→Shared→Prop),tn i s.heap→Q (.ref it) s→wpAny (model P w) A (pyIter (.ref it)) Q E s
abbrev TI:=St→Hp→(It→Hp→Prop)→Prop
def dy(X:Cx)(pins:List (Addr×Obj))(σ:St)(tg:Expr)(R:It→Hp→Prop)(itv:Value)(s2:Shared):Prop :=
 ∃(it:Addr) (fp:List Addr) (tn:Nat→Heap→Prop) (J:It) (H':Hp),itv=.ref it∧Inv X pins σ H' s2∧Turn X.prog X.w X.K tg J fp it tn∧tn 0 s2.heap∧(∀b∈fp,Gm X pins H' b)∧R J H'
def PI(X:Cx)(tg iter:Expr)(wi:TI):Prop :=
 ∀(pins:List (Addr×Obj)) (s:Shared) (σ:St) (H:Hp) (R:It→Hp→Prop),Inv X pins σ H s→wi σ H R →
  wpAny (model X.prog X.w) X.A (eval iter X.env) (fun v s1=>wpAny (model X.prog X.w) X.A (pyIter v) (dy X pins σ tg R) X.xe s1) X.xe s
theorem R5{M:Model}{A:Around}{E:Value→Shared→Prop}{s:Shared}{tg:Expr}{it:Addr}{u:Value}{o:Obj}{n:String}{vs:Array Value}{Q:Unit→Shared→Prop}(ho:s.heap.get? it=some o)(hc:o.cls=.type n)(hd:o.data=.fields vs)
 (hn:["enumerate", "zip", "dict_itemiterator", "dict_reverseitemiterator", "odict_iterator", "itertools.zip_longest", "itertools.pairwise"].contains n=false)(hQ:Q () s):wpAny M A (letOwnedTupleGo tg (.ref it) u) Q E s:=by
 unfold letOwnedTupleGo;cases tg<;>first
  |exact aD hQ
  |(cases u<;>first
    |exact aD hQ
    |(refine aA (wpAny_load ho ?_)
      rw[hc,hd];show wpAny M A (if(["enumerate", "zip", "dict_itemiterator", "dict_reverseitemiterator", "odict_iterator", "itertools.zip_longest", "itertools.pairwise"].contains n&&vs[0]? == some (rawInt _))=true then _ else _) Q E s;rw[if_neg (by intro h;rw[hn,Bool.false_and]at h;cases h)];exact aD hQ))
def Q4(K:PySem.W.Frag)(a:Addr):It :=
 ⟨fun i H=>∃xs x,A3 K H a xs∧xs[i]? = some x,fun i H x H'=>H'=H∧∀xs,A3 K H a xs→xs[i]? = some x,fun i H=>∃xs,A3 K H a xs∧xs.length≤i⟩
def Q5(K:PySem.W.Frag)(a:Addr):It :=
 ⟨fun i H=>∃xs x,A9 K H a xs∧xs[i]? = some x,fun i H x H'=>H'=H∧∀xs,A9 K H a xs→xs[i]? = some x,fun i H=>∃xs,A9 K H a xs∧xs.length≤i⟩
def WM(lo:Int)(n:Nat):It:=⟨fun i _=>i<n,fun i H x H'=>H'=H∧x=.int (lo+i),fun i _=>n≤i⟩
theorem Ui{P:Program}{w:World}{K:PySem.W.Frag}{tg:Expr}(a it:Addr):Turn P w K tg (Q4 K a) [it] it (fun i h=>h.IsListIter it a i) where
 mem:=by simp
 obj:=fun i h st b hb=>by
  have e:b=it:=by simpa using hb
  subst e;obtain⟨o,e,c,d⟩:=st;exact⟨o,e,fun v z=>by rw[d]at z;cases z⟩
 keep:=fun i h h' st k=>st.at fun o e=>k it (by simp) o e
 item:=by
  intro X hP hw hK hc i pins s σ H E I hf st hg;subst hP hw hK;obtain⟨xs,x,hq,hx⟩:=hg;obtain⟨its,rv,p,hz⟩:=I.list hq;obtain⟨u,hu,ru⟩:=rv.get hx;obtain⟨f0,f1,f2,f3,f4,f5⟩:=hf it (by simp);refine wpAny_pyNext_list_item st p.isList (x:=u) (by simpa using hu) fun h' st' sb=>?_;have I1:Inv X pins σ H {s with heap:=h'}:=I.turned (t':=s.toks) (fun b o hb e=>(sb.2 b hb).trans e) f0 f1 f3 f4 f5;obtain⟨o,e,c,d⟩:=id st';exact⟨u,rfl,R5 (s:={s with heap:=h'}) e c d (by decide) ⟨x,H,I1,ru,⟨rfl,fun ys hy=>by rw[I.PD hy hq];exact hx⟩,st',fun b hb=>(hf b hb).1⟩⟩
 done:=by
  intro X hP hw hK hc i pins s σ H E I hf st hg;subst hP hw hK;obtain⟨xs,hq,hx⟩:=hg;obtain⟨its,rv,p,hz⟩:=I.list hq;obtain⟨f0,f1,f2,f3,f4,f5⟩:=hf it (by simp);have hl:=rv.length;exact wpAny_pyNext_list_end (I.ok.hd hc) st p.isList (by simp;lia) fun h' eb=>⟨rfl,I.turned (t':=s.toks) (fun b o hb e=>eb b o hb e) f0 f1 f3 f4 f5⟩
 self:=fun _ _ _ _ _ st h=>wpAny_pyIter_listiter st h
theorem SI{P:Program}{w:World}{K:PySem.W.Frag}{tg:Expr}(a it:Addr):Turn P w K tg (Q5 K a) [it] it (fun i h=>h.IsTupleIter it a i) where
 mem:=by simp
 obj:=fun i h st b hb=>by
  have e:b=it:=by simpa using hb
  subst e;obtain⟨o,e,c,d⟩:=st;exact⟨o,e,fun v z=>by rw[d]at z;cases z⟩
 keep:=fun i h h' st k=>st.at fun o e=>k it (by simp) o e
 item:=by
  intro X hP hw hK hc i pins s σ H E I hf st hg;subst hP hw hK;obtain⟨xs,x,hq,hx⟩:=hg;obtain⟨its,rv,p,hz⟩:=I.tuple hq;obtain⟨u,hu,ru⟩:=rv.get hx;obtain⟨f0,f1,f2,f3,f4,f5⟩:=hf it (by simp);refine wpAny_pyNext_tuple_item st (show s.heap.IsTuple a its.toArray from p) (x:=u) (by simpa using hu) fun h' st' sb=>?_;have I1:Inv X pins σ H {s with heap:=h'}:=I.turned (t':=s.toks) (fun b o hb e=>(sb.2 b hb).trans e) f0 f1 f3 f4 f5;obtain⟨o,e,c,d⟩:=id st';exact⟨u,rfl,R5 (s:={s with heap:=h'}) e c d (by decide) ⟨x,H,I1,ru,⟨rfl,fun ys hy=>by rw[I.OW hy hq];exact hx⟩,st',fun b hb=>(hf b hb).1⟩⟩
 done:=by
  intro X hP hw hK hc i pins s σ H E I hf st hg;subst hP hw hK;obtain⟨xs,hq,hx⟩:=hg;obtain⟨its,rv,p,hz⟩:=I.tuple hq;obtain⟨f0,f1,f2,f3,f4,f5⟩:=hf it (by simp);have hl:=rv.length;exact wpAny_pyNext_tuple_end (I.ok.hd hc) st (show s.heap.IsTuple a its.toArray from p) (by simp;lia) fun h' eb=>⟨rfl,I.turned (t':=s.toks) (fun b o hb e=>eb b o hb e) f0 f1 f3 f4 f5⟩
 self:=fun _ _ _ _ _ st h=>wpAny_pyIter_tupleiter st h
theorem SH{P:Program}{w:World}{K:PySem.W.Frag}{tg:Expr}(it:Addr)(lo:Int)(n:Nat):Turn P w K tg (WM lo n) [it] it (fun i h=>IsRangeIter h it (lo+(i:Nat)*1) ((n:Int)-(i:Nat)) 1) where
 mem:=by simp
 obj:=fun i h st b hb=>by
  have e:b=it:=by simpa using hb
  subst e;exact⟨_,st,fun v z=>by
   have z':Data.fields _=Data.cell v:=z;cases z'⟩
 keep:=fun i h h' st k=>k it (by simp) _ st
 item:=by
  intro X hP hw hK hc i pins s σ H E I hf st hg;subst hP hw hK;obtain⟨f0,f1,f2,f3,f4,f5⟩:=hf it (by simp);have W:=Walks.range (prog:=X.prog) (w:=X.w) (I.ok.hd hc) it lo 1 n;refine W.item i s _ _ hg st fun v h' tk hv st' kk=>?_;obtain⟨t,rfl⟩:=hv;have I1:Inv X pins σ H {s with heap:=h',toks:=tk}:=I.turned (fun b o hb e=>kk b o (by simpa using hb) e) f0 f1 f3 f4 f5;refine⟨_,rfl,R5 (s:={s with heap:=h',toks:=tk}) (n := "range_iterator") st' rfl rfl (by decide) ⟨.int (lo+i),H,I1,⟨t,?_⟩,⟨rfl,rfl⟩,st',fun b hb=>(hf b hb).1⟩⟩;rw[Int.mul_one]
 done:=by
  intro X hP hw hK hc i pins s σ H E I hf st hg;subst hP hw hK;obtain⟨f0,f1,f2,f3,f4,f5⟩:=hf it (by simp);exact wpAny_pyNext_range_end (I.ok.hd hc) st (by have:n≤i:=hg;lia) fun h' eb=>⟨rfl,I.turned (t':=s.toks) (fun b o hb e=>eb b o hb e) f0 f1 f3 f4 f5⟩
 self:=fun _ _ _ _ _ st h=>wpAny_pyIter_rangeiter st h
section
variable{X:Cx}{tg:Expr}
def cD(K:PySem.W.Frag)(tl:TE):TI:=fun σ H R=>tl σ H fun x H1=>∃a,x=.ref a∧(∃xs,A3 K H1 a xs)∧R (Q4 K a) H1
def eS(K:PySem.W.Frag)(tl:TE):TI:=fun σ H R=>tl σ H fun x H1=>∃a,x=.ref a∧(∃xs,A9 K H1 a xs)∧R (Q5 K a) H1
theorem Na{l:Expr}{tl:TE}(hl:PE X l tl):PI X tg l (cD X.K tl):=by
 intro pins s σ H R I h;refine Ar (hl pins s σ H _ I h) fun v s1 ⟨x,H1,I1,r1,q1⟩=>?_;obtain⟨a,e,⟨xs,hq⟩,q⟩:=q1;subst e;cases r1;obtain⟨its,rv,p,hz⟩:=I1.list hq;refine wpAny_pyIter_list p.isList ?_;refine⟨s1.heap.objs.size,[s1.heap.objs.size],_,_,H1,rfl,I1.kept (t':=s1.toks) fun b o e=>aE _ e,Ui a _,⟨_,Heap.get?_push_size _ rfl,rfl,rfl⟩,fun b hb=>?_,q⟩;have e:b=s1.heap.objs.size:=by simpa using hb
 subst e;exact I1.NL (aH _) (I1.Aa.fresh (aH _))
theorem TJ{l:Expr}{tl:TE}(hl:PE X l tl):PI X tg l (eS X.K tl):=by
 intro pins s σ H R I h;refine Ar (hl pins s σ H _ I h) fun v s1 ⟨x,H1,I1,r1,q1⟩=>?_;obtain⟨a,e,⟨xs,hq⟩,q⟩:=q1;subst e;cases r1;obtain⟨its,rv,p,hz⟩:=I1.tuple hq;refine wpAny_pyIter_tuple (show s1.heap.IsTuple a its.toArray from p) ?_;refine⟨s1.heap.objs.size,[s1.heap.objs.size],_,_,H1,rfl,I1.kept (t':=s1.toks) fun b o e=>aE _ e,SI a _,⟨_,Heap.get?_push_size _ rfl,rfl,rfl⟩,fun b hb=>?_,q⟩;have e:b=s1.heap.objs.size:=by simpa using hb
 subst e;exact I1.NL (aH _) (I1.Aa.fresh (aH _))
theorem U0{pins:List (Addr×Obj)}{σ:St}{H:Hp}{s:Shared}{R:It→Hp→Prop}{E:Value→Shared→Prop}{lo hi:Int}{t u v:Tok}{tk:Nat}(I:Inv X pins σ H s)(h1:-(2^62)≤lo)(h2:lo<2^62)(h3:-(2^62)≤hi)(h4:hi<2^62)
 (q:R (WM lo (hi-lo).toNat) H):wpAny (model X.prog X.w) X.A (pyIter (.ref s.heap.objs.size)) (dy X pins σ tg R) E {s with heap:=s.heap.push { cls:=.type "range",data:=.fields #[.int lo t,.int hi u,.int 1 v]},toks:=tk}:=by
 refine wpAny_pyIter_range (IsRange.new ..) (small_one h1 h2 h3 h4) ?_;have I1:Inv X pins σ H {s with heap:=s.heap.push { cls:=.type "range",data:=.fields #[.int lo t,.int hi u,.int 1 v]},toks:=tk}:=I.kept fun b o e=>aE _ e;refine⟨(s.heap.push { cls:=.type "range",data:=.fields #[.int lo t,.int hi u,.int 1 v]}).objs.size,[(s.heap.push { cls:=.type "range",data:=.fields #[.int lo t,.int hi u,.int 1 v]}).objs.size],_,_,H,rfl,
  I1.kept (t':=tk) fun b o e=>aE _ e,SH _ lo (hi-lo).toNat,?_,fun b hb=>?_,q⟩
 ·have e1:lo+((0:Nat):Int)*1=lo:=by simp
  have e2:(((hi-lo).toNat:Nat):Int)-((0:Nat):Int)=Builtin.Range.rangeSize lo hi 1:=by rw[rangeSize_one];split<;>lia
  show IsRangeIter _ _ (lo+((0:Nat):Int)*1) ((((hi-lo).toNat:Nat):Int)-((0:Nat):Int)) 1;rw[e1,e2];exact aR _ rfl
 ·have e:b=(s.heap.push { cls:=.type "range",data:=.fields #[.int lo t,.int hi u,.int 1 v]}).objs.size:=by simpa using hb
  subst e;exact I1.NL (aH _) (I1.Aa.fresh (aH _))
def cS(ta:TA):TI:=fun σ H R=>ta σ H fun vs H1=>∃j:Int,vs=[.int j]∧-(2^62)≤j∧j<2^62∧R (WM 0 j.toNat) H1
theorem Ub{a:Expr}{ta:TA}{p pos:Pos}(hg:Gl X "range")(hm:X.mg "range" = none)(ha:PA X [a] ta)(hs:starEach [a] X.env=[(false,eval a X.env)]:=by rfl):PI X tg (.Call (.Name "range" p) [a] [] pos) (cS ta):=by
 intro pins s σ H R I h;refine Call_ (Hb I hg hm boot_range (az (Ar (ha pos pins s σ H _ I h) fun us s1 ⟨vs,H1,I1,r1,q1⟩=>?_) hs rfl));obtain⟨j,e,q1,q2,q⟩:=q1;subst e;cases r1 with
 |cons r rr =>
  cases rr;obtain⟨t,rfl⟩:=r;exact call_range_1 (U0 I1 (by lia) (by lia) q1 q2 (by simpa using q))
def fB(wi:TI)(g:TG)(tb:TS):TS:=fun D σ H=>wi σ H fun J H1=>∃W:Nat→Nat→St→Hp→Prop,(∃m,W 0 m σ H1)∧∀i m σ H,W i m σ H →
 (J.stop i H∧D.nx σ H)∨(J.go i H∧∃N:St→Hp→Prop,(∀σ' H',N σ' H'→∃m',m'<m∧W (i+1) m' σ' H')∧∀x H',J.Dm i H x H'→g x σ H' fun σ2 H2=>tb {D with nx:=N,ct:=N,bk:=D.nx} σ2 H2)
def Kr(fp:List Addr)(h:Heap):List (Addr×Obj):=fp.filterMap fun b=>(h.get? b).map fun o=>(b,o)
theorem HD{fp:List Addr}{h:Heap}{b:Addr}{o:Obj}(hb:b∈fp)(e:h.get? b=some o):(b,o)∈Kr fp h:=List.mem_filterMap.mpr ⟨b,hb,by rw[e];rfl⟩
theorem Uq{fp:List Addr}{h:Heap}{p:Addr×Obj}(hp:p∈Kr fp h):p.1∈fp∧h.get? p.1=some p.2:=by
 obtain⟨b,hb,e⟩:=List.mem_filterMap.mp hp;cases q:h.get? b with
 |none=>rw[q]at e;cases e
 |some o =>
  rw[q]at e;have e':(b,o)=p:=aS e;subst e';exact⟨hb,q⟩
theorem Inv.pinned{pins:List (Addr×Obj)}{σ:St}{H:Hp}{s:Shared}{fp:List Addr}(I:Inv X pins σ H s)(hf:∀b∈fp,Gm X pins H b)(ho:∀b∈fp,∃o,s.heap.get? b=some o∧∀v,o.data≠.cell v):Inv X (pins++Kr fp s.heap) σ H s :=
 I.RZ fun p hp=>(ay.mp hp).elim (fun z=>I.pin p (aV _ z)) fun z=>by
  obtain⟨hb,e⟩:=Uq z;obtain⟨f0,f1,f2,_⟩:=hf p.1 hb;obtain⟨o,e',d⟩:=ho p.1 hb;rw[e]at e';cases e';exact⟨e,f0,f1,f2,d⟩
theorem Inv.Jw{pins pl:List (Addr×Obj)}{σ:St}{H:Hp}{s:Shared}(I:Inv X (pins++pl) σ H s):Inv X pins σ H s:=I.RZ fun p hp=>I.pin p (aV _ (List.mem_append_left _ hp))
theorem JU{iter:Expr}{body:List Stmt}{wi:TI}{g:TG}{tb:TS}{pos:Pos}(hp:PassesOwn (model X.prog X.w) X.A X.env X.xe)(hc:X.calm=true)(hi:PI X tg iter wi)(hg:PG X tg g)(hb:FZ X body tb)
 (hs:∀x,foldedSetIterable iter X.env x=pure x:=by intro _;rfl):PS X (.For tg iter body [] pos) (fB wi g tb):=by
 intro pins s σ H D I h;refine wpAny_For (Ar (hi pins s σ H _ I h) fun v s1 h1=>Ar h1 fun itv s2 h2=>?_) hs;obtain⟨it,fp,tn,J,H2,e,I2,T,st2,f2,W,⟨m0,w0⟩,turn⟩:=h2;subst e;have stat:∀ {H':Hp},(∀b∈fp,H' b=none)→∀b∈fp,Gm X pins H' b:=fun hn b hb=>⟨hn b hb,(f2 b hb).2⟩;refine codeAny_forLoop_any (fun n s'=>∃i σ' H',Inv X pins σ' H' s'∧tn i s'.heap∧(∀b∈fp,H' b=none)∧W i n σ' H') ?_ m0 ⟨0,σ,H2,I2,st2,fun b hb=>(f2 b hb).1,w0⟩;rintro n s3 ⟨i,σ3,H3,I3,st3,fr3,w3⟩;rcases turn i n σ3 H3 w3 with ⟨stop,qn⟩|⟨go,N,hN,step⟩
 ·refine wpAny_passesOwn hp (Ar (T.done X rfl rfl rfl hc i pins s3 σ3 H3 X.xe I3 (stat fr3) st3 stop) fun r s4 ⟨hr,I4⟩=>?_);subst hr;exact wpAny_execs_nil ⟨σ3,H3,I4,qn⟩
 ·refine wpAny_passesOwn hp (Ar (T.item X rfl rfl rfl hc i pins s3 σ3 H3 X.xe I3 (stat fr3) st3 go) fun r s4 ⟨u,hr,h4⟩=>?_);subst hr;refine wpAny_passesOwn hp (Ar h4 fun _ s5 ⟨x,H5,I5,r5,y5,st5,fr5⟩=>?_);have I5':=I5.pinned (stat fr5) (T.obj _ _ st5);refine wpAny_passesOwn hp (Ar (hg _ s5 σ3 H5 x u _ I5' r5 (step x H5 y5)) fun _ s6 ⟨σ6,H6,I6,q6⟩=>?_);refine wpAny_passesOwn hp (Ar (hb _ s6 σ6 H6 _ I6 q6) fun f s7 q7=>?_);have again:∀ {σ7:St} {H7:Hp},Inv X (pins++Kr fp s5.heap) σ7 H7 s7→N σ7 H7→∃m,m<n∧∃i σ' H',Inv X pins σ' H' s7∧tn i s7.heap∧(∀b∈fp,H' b=none)∧W i m σ' H':=fun {σ7 H7} I7 n7=>by
   obtain⟨m',hm,w7⟩:=hN σ7 H7 n7;refine⟨m',hm,i+1,σ7,H7,I7.Jw,T.keep _ _ _ st5 fun b hb o e=>(I7.pin (b,o) (aV _ (aV _ (HD hb e)))).1,fun b hb=>?_,w7⟩;obtain⟨o,e,d⟩:=T.obj _ _ st5 b hb;exact(I7.pin (b,o) (aV _ (aV _ (HD hb e)))).2.1
  cases f with
  |next=>obtain⟨σ7,H7,I7,n7⟩:=q7;exact again I7 n7
  |cont=>obtain⟨σ7,H7,I7,n7⟩:=q7;exact again I7 n7
  |brk=>obtain⟨σ7,H7,I7,q7⟩:=q7;exact⟨σ7,H7,I7.Jw,q7⟩
  |ret v=>obtain⟨x7,σ7,H7,I7,r7,q7⟩:=q7;exact⟨x7,σ7,H7,I7.Jw,r7,q7⟩
end
theorem Po{K:PySem.W.Frag}{a:Addr}{xs:List V}{g:TG}{tb:TS}{D:Ends}{σ:St}{H:Hp}(Pv:Nat→St→Hp→Prop)(h0:Pv 0 σ H)(hl:∀i σ H,i≤xs.length→Pv i σ H→A3 K H a xs)
 (hs:∀i x σ H,xs[i]? = some x→Pv i σ H→g x σ H fun σ2 H2=>tb {D with nx:=Pv (i+1),ct:=Pv (i+1),bk:=D.nx} σ2 H2)(hd:∀σ H,Pv xs.length σ H→D.nx σ H) :
  ∃W:Nat→Nat→St→Hp→Prop,(∃m,W 0 m σ H)∧∀i m σ H,W i m σ H →
   ((Q4 K a).stop i H∧D.nx σ H)∨((Q4 K a).go i H∧∃N:St→Hp→Prop,(∀σ' H',N σ' H'→∃m',m'<m∧W (i+1) m' σ' H')∧∀x H',(Q4 K a).Dm i H x H'→g x σ H' fun σ2 H2=>tb {D with nx:=N,ct:=N,bk:=D.nx} σ2 H2):=by
 refine⟨fun i m σ H=>m=xs.length-i∧i≤xs.length∧Pv i σ H,⟨xs.length,by simp,Nat.zero_le _,h0⟩,?_⟩;rintro i m σ H ⟨rfl,hi,p⟩;have q:=hl i σ H hi p;by_cases hlt:i<xs.length
 ·refine .inr ⟨⟨xs,xs[i],q,by simp[hlt]⟩,Pv (i+1),fun σ' H' p'=>⟨xs.length-(i+1),by lia,rfl,hlt,p'⟩,fun x H' y=>?_⟩;obtain⟨e,y⟩:=y;subst e;exact hs i x σ _ (y xs q) p
 ·have e:i=xs.length:=by lia
  subst e;exact .inl ⟨⟨xs,q,Nat.le_refl _⟩,hd σ H p⟩
theorem Xd{K:PySem.W.Frag}{a:Addr}{xs:List V}{g:TG}{tb:TS}{D:Ends}{σ:St}{H:Hp}(Pv:Nat→St→Hp→Prop)(h0:Pv 0 σ H)(hl:∀i σ H,i≤xs.length→Pv i σ H→A9 K H a xs)
 (hs:∀i x σ H,xs[i]? = some x→Pv i σ H→g x σ H fun σ2 H2=>tb {D with nx:=Pv (i+1),ct:=Pv (i+1),bk:=D.nx} σ2 H2)(hd:∀σ H,Pv xs.length σ H→D.nx σ H) :
  ∃W:Nat→Nat→St→Hp→Prop,(∃m,W 0 m σ H)∧∀i m σ H,W i m σ H →
   ((Q5 K a).stop i H∧D.nx σ H)∨((Q5 K a).go i H∧∃N:St→Hp→Prop,(∀σ' H',N σ' H'→∃m',m'<m∧W (i+1) m' σ' H')∧∀x H',(Q5 K a).Dm i H x H'→g x σ H' fun σ2 H2=>tb {D with nx:=N,ct:=N,bk:=D.nx} σ2 H2):=by
 refine⟨fun i m σ H=>m=xs.length-i∧i≤xs.length∧Pv i σ H,⟨xs.length,by simp,Nat.zero_le _,h0⟩,?_⟩;rintro i m σ H ⟨rfl,hi,p⟩;have q:=hl i σ H hi p;by_cases hlt:i<xs.length
 ·refine .inr ⟨⟨xs,xs[i],q,by simp[hlt]⟩,Pv (i+1),fun σ' H' p'=>⟨xs.length-(i+1),by lia,rfl,hlt,p'⟩,fun x H' y=>?_⟩;obtain⟨e,y⟩:=y;subst e;exact hs i x σ _ (y xs q) p
 ·have e:i=xs.length:=by lia
  subst e;exact .inl ⟨⟨xs,q,Nat.le_refl _⟩,hd σ H p⟩
theorem P6{c:TT}{tb:TS}{D:Ends}{σ:St}{H:Hp}(Pv:St→Hp→Prop)(μ:St→Hp→Nat)(h0:Pv σ H)
 (hs:∀σ H,Pv σ H→c σ H fun b H1=>if b=true then tb {D with nx:=fun σ' H'=>Pv σ' H'∧μ σ' H'<μ σ H,ct:=fun σ' H'=>Pv σ' H'∧μ σ' H'<μ σ H,bk:=D.nx} σ H1 else D.nx σ H1)
 (mono:∀σ H Q Q',(∀b H1,Q b H1→Q' b H1)→c σ H Q→c σ H Q'):UL c tb D σ H:=by
 refine⟨fun m σ H=>m=μ σ H∧Pv σ H,⟨_,rfl,h0⟩,?_⟩;rintro m σ H ⟨rfl,p⟩;refine mono σ H _ _ (fun b H1 q=>?_) (hs σ H p);cases b with
 |true=>exact⟨_,fun σ' H' ⟨p',l⟩=>⟨_,l,rfl,p'⟩,q⟩
 |false=>exact q
abbrev R2:=V→V→Hp→VK→Prop
def CH(X:Cx)(f:Value→Value→Sem Value)(r:R2):Prop :=
 ∀(pins:List (Addr×Obj)) (s:Shared) (σ:St) (H:Hp) (x y:V) (v u:Value) (Q:VK),Inv X pins σ H s→RelV x v→RelV y u→r x y H Q →
  wpAny (model X.prog X.w) X.A (f v u) (EP X pins σ Q) X.xe s
def ba(X:Cx)(f:Value→Sem Value)(r:V→Hp→VK→Prop):Prop :=
 ∀(pins:List (Addr×Obj)) (s:Shared) (σ:St) (H:Hp) (x:V) (v:Value) (Q:VK),Inv X pins σ H s→RelV x v→r x H Q →
  wpAny (model X.prog X.w) X.A (f v) (EP X pins σ Q) X.xe s
def GC(X:Cx)(f:Value)(r:List V→Hp→VK→Prop):Prop :=
 ∀(pins:List (Addr×Obj)) (s:Shared) (σ:St) (H:Hp) (xs:List V) (us:List Value) (Q:VK),Inv X pins σ H s→Vals xs us→r xs H Q →
  wpAny (model X.prog X.w) X.A (call f us) (EP X pins σ Q) X.xe s
def WB(r:R2)(ta tb:TE):TE:=fun σ H Q=>ta σ H fun x H1=>tb σ H1 fun y H2=>r x y H2 Q
def fh(r:V→Hp→VK→Prop)(ta:TE):TE:=fun σ H Q=>ta σ H fun x H1=>r x H1 Q
def rI(C:Int→Int→Prop)(g:Int→Int→V):R2:=fun x y H Q=>∃i j,x=.int i∧y=.int j∧C i j∧Q (g i j) H
def N6(g:Int→Int→V):R2:=fun x y H Q=>∃i j,x=.int i∧y=.int j∧Q (g i j) H
def rU(g:Int→V):V→Hp→VK→Prop:=fun x H Q=>∃i,x=.int i∧Q (g i) H
section
variable{X:Cx}{a b:Expr}{ta tb:TE}{pos:Pos}
theorem Vz(ha:PE X a ta)(hb:PE X b tb){pins:List (Addr×Obj)}{s:Shared}{σ:St}{H:Hp}{R:V→V→Hp→Prop}(I:Inv X pins σ H s)
 (h:ta σ H fun x H1=>tb σ H1 fun y H2=>R x y H2){Q:Value→Shared→Prop}{f:Value→Value→Sem Value}
 (hf:∀v u s2 x y H2,Inv X pins σ H2 s2→RelV x v→RelV y u→R x y H2→wpAny (model X.prog X.w) X.A (f v u) Q X.xe s2) :
  wpAny (model X.prog X.w) X.A (eval a X.env) (fun v s₁=>wpAny (model X.prog X.w) X.A (eval b X.env) (fun u s₂=>wpAny (model X.prog X.w) X.A (f v u) Q X.xe s₂) X.xe s₁) X.xe s:=by
 refine Ar (ha pins s σ H _ I h) fun v s1 ⟨x,H1,I1,r1,q1⟩=>?_;refine Ar (hb pins s1 σ H1 _ I1 q1) fun u s2 ⟨y,H2,I2,r2,q2⟩=>?_;exact hf v u s2 x y H2 I2 r1 r2 q2
theorem HJ{op:Operator}{r:R2}(ho:CH X (binaryOp op) r)(ha:PE X a ta)(hb:PE X b tb):PE X (.BinOp a op b pos) (WB r ta tb):=by
 intro pins s σ H Q I h;exact wpAny_BinOp (Vz ha hb I h fun v u s2 x y H2 I2 rx ry q=>ho pins s2 σ H2 x y v u Q I2 rx ry q)
theorem dD{op:UnaryOp}{r:V→Hp→VK→Prop}(ho:ba X (unaryOp op) r)(ha:PE X a ta):PE X (.UnaryOp op a pos) (fh r ta):=by
 intro pins s σ H Q I h;exact UnaryOp_ (Ar (ha pins s σ H _ I h) fun v s1 ⟨x,H1,I1,r1,q1⟩=>ho pins s1 σ H1 x v Q I1 r1 q1)
theorem WZ{f:Value→Value→Sem Value}{C:Int→Int→Prop}{g:Int→Int→Int}
 (rule:∀(i j:Int) (t u:Tok) (s:Shared) (Q:Value→Shared→Prop) (E:Value→Shared→Prop),C i j→Q (.int (g i j) s.toks) {s with toks:=s.toks+1}→wpAny (model X.prog X.w) X.A (f (.int i t) (.int j u)) Q E s) :
  CH X f (rI C fun i j=>.int (g i j)):=by
 intro pins s σ H x y v u Q I rx ry h;obtain⟨i,j,rfl,rfl,hc,q⟩:=h;obtain⟨t,rfl⟩:=rx;obtain⟨t',rfl⟩:=ry;exact rule i j t t' s _ _ hc ⟨.int (g i j),H,I.tok _,⟨_,rfl⟩,q⟩
theorem ZX{f:Value→Value→Sem Value}{g:Int→Int→Int}
 (rule:∀(i j:Int) (t u:Tok) (s:Shared) (Q:Value→Shared→Prop) (E:Value→Shared→Prop),Q (.int (g i j) s.toks) {s with toks:=s.toks+1}→wpAny (model X.prog X.w) X.A (f (.int i t) (.int j u)) Q E s) :
  CH X f (N6 fun i j=>.int (g i j)):=by
 intro pins s σ H x y v u Q I rx ry h;obtain⟨i,j,rfl,rfl,q⟩:=h;obtain⟨t,rfl⟩:=rx;obtain⟨t',rfl⟩:=ry;exact rule i j t t' s _ _ ⟨.int (g i j),H,I.tok _,⟨_,rfl⟩,q⟩
theorem Vb{f:Value→Value→Sem Value}{g:Int→Int→Bool}
 (rule:∀(i j:Int) (t u:Tok) (s:Shared) (Q:Value→Shared→Prop) (E:Value→Shared→Prop),Q (.bool (g i j)) s→wpAny (model X.prog X.w) X.A (f (.int i t) (.int j u)) Q E s) :
  CH X f (N6 fun i j=>.bl (g i j)):=by
 intro pins s σ H x y v u Q I rx ry h;obtain⟨i,j,rfl,rfl,q⟩:=h;obtain⟨t,rfl⟩:=rx;obtain⟨t',rfl⟩:=ry;exact rule i j t t' s _ _ ⟨.bl (g i j),H,I,rfl,q⟩
def fG(i j:Int):Prop:=0≤j∧j≤1000000∧i.natAbs<2^64
def Uv(i j:Int):Prop:=(-(2^64)<i∧i<2^64)∨(-(2^64)<j∧j<2^64)
theorem Uv.ok{i j:Int}(h:Uv i j):IntMulOk i j:=by
 rcases h with ⟨h1,h2⟩|⟨h1,h2⟩
 ·exact .of_left (intBits_le_64 h1 h2)
 ·exact .of_right (intBits_le_64 h1 h2)
theorem YJ:CH X (binaryOp .Add) (N6 fun i j=>.int (i+j)):=ZX fun _ _ _ _ _ _ _ q=>add_int q
theorem QD:CH X (binaryOp .Sub) (N6 fun i j=>.int (i-j)):=ZX fun _ _ _ _ _ _ _ q=>sub_int q
theorem Nu:CH X (binaryOp .Mod) (rI (fun _ j=>j≠0) fun i j=>.int (i.fmod j)):=WZ fun _ _ _ _ _ _ _ hc q=>mod_int' hc q
theorem Zx:CH X (binaryOp .Pow) (rI fG fun i j=>.int (i^j.toNat)):=WZ fun _ _ _ _ _ _ _ hc q=>pow_int_small hc.1 hc.2.1 hc.2.2 q
theorem fZ{f:Value→Sem Value}{g:Int→Int}
 (rule:∀(i:Int) (t:Tok) (s:Shared) (Q:Value→Shared→Prop) (E:Value→Shared→Prop),Q (.int (g i) s.toks) {s with toks:=s.toks+1}→wpAny (model X.prog X.w) X.A (f (.int i t)) Q E s) :
  ba X f (rU fun i=>.int (g i)):=by
 intro pins s σ H x v Q I rx h;obtain⟨i,rfl,q⟩:=h;obtain⟨t,rfl⟩:=rx;exact rule i t s _ _ ⟨.int (g i),H,I.tok _,⟨_,rfl⟩,q⟩
theorem YL:ba X (unaryOp .USub) (rU fun i=>.int (-i)):=fZ fun _ _ _ _ _ q=>neg_int q
end
def bV:V→V→Bool
 |.BR,.BR=>true|.BR,.int _=>true|.int _,.BR=>true|.BR,.bl _=>true|.bl _,.BR=>true|.BR,.str _=>true|.str _,.BR=>true
 |.int _,.int _=>true|.bl _,.bl _=>true|.str _,.str _=>true|.Kf _,.Kf _=>true
 |.int _,.str _=>true|.str _,.int _=>true|.bl _,.str _=>true|.str _,.bl _=>true
 |_,_=>false
def fT:R2:=fun x y H Q=>bV x y=true∧Q (.bl (decide (x=y))) H
def fm:R2:=fun x y H Q=>bV x y=true∧Q (.bl (!decide (x=y))) H
theorem RI{i j:Int}:decide (V.int i=V.int j)=(i==j):=by
 rw[Bool.eq_iff_iff];simp
theorem Sz{i j:Bool}:decide (V.bl i=V.bl j)=(i==j):=by
 rw[Bool.eq_iff_iff];simp
theorem RJ{i j:Str}:decide (V.str i=V.str j)=(i==j):=by
 rw[Bool.eq_iff_iff];simp
theorem RN{i j:Array UInt8}:decide (V.Kf i=V.Kf j)=(i.toList==j.toList):=by
 rw[Bool.eq_iff_iff];cases i;cases j;simp
section
variable{X:Cx}{a b c:Expr}{ta tb:TE}{pos:Pos}
theorem BF{pins:List (Addr×Obj)}{σ:St}{H:Hp}{s:Shared}{Q:VK}{k k':Bool}(I:Inv X pins σ H s)(q:Q (.bl k) H)(e:k=k'):EP X pins σ Q (.bool k') s:=by
 subst e;exact⟨.bl k,H,I,rfl,q⟩
theorem Ru:CH X (compareOp .Eq) fT:=by
 intro pins s σ H x y v u Q I rx ry h;obtain⟨hs,q⟩:=h;cases x with
 |BR =>
  cases rx;cases y with
  |BR=>cases ry;exact PySem.EqNone.eq_none_none (BF I q (by simp))
  |bl j=>cases ry;exact PySem.EqNone.eq_none_bool (BF I q (by simp))
  |int j=>obtain⟨t',rfl⟩:=ry;exact PySem.EqNone.eq_none_int (BF I q (by simp))
  |str j=>obtain⟨t',rfl⟩:=ry;exact PySem.EqNone.eq_none_str (BF I q (by simp))
  |_=>exact absurd (show false=true from hs) aK
 |bl i =>
  cases rx;cases y with
  |BR=>cases ry;exact PySem.EqNone.eq_bool_none (BF I q (by simp))
  |bl j=>cases ry;exact eq_bool (BF I q Sz)
  |str j=>obtain⟨t',rfl⟩:=ry;exact PySem.EqMixed.eq_bool_str (BF I q (by simp))
  |_=>exact absurd (show false=true from hs) aK
 |int i =>
  obtain⟨t,rfl⟩:=rx;cases y with
  |BR=>cases ry;exact PySem.EqNone.eq_int_none (BF I q (by simp))
  |int j=>obtain⟨t',rfl⟩:=ry;exact eq_int (BF I q RI)
  |str j=>obtain⟨t',rfl⟩:=ry;exact PySem.EqMixed.eq_int_str (BF I q (by simp))
  |_=>exact absurd (show false=true from hs) aK
 |str i =>
  obtain⟨t,rfl⟩:=rx;cases y with
  |BR=>cases ry;exact PySem.EqNone.eq_str_none (BF I q (by simp))
  |bl j=>cases ry;exact PySem.EqMixed.eq_str_bool (BF I q (by simp))
  |int j=>obtain⟨t',rfl⟩:=ry;exact PySem.EqMixed.eq_str_int (BF I q (by simp))
  |str j=>obtain⟨t',rfl⟩:=ry;exact eq_str (BF I q RJ)
  |_=>exact absurd (show false=true from hs) aK
 |Kf i =>
  obtain⟨t,rfl⟩:=rx;cases y with
  |Kf j=>obtain⟨t',rfl⟩:=ry;exact PySem.W.eq_bytes (BF I q RN)
  |_=>exact absurd (show false=true from hs) aK
 |_=>cases y<;>exact absurd (show false=true from hs) aK
theorem KA:CH X (compareOp .NotEq) fm:=by
 intro pins s σ H x y v u Q I rx ry h;obtain⟨hs,q⟩:=h;cases x with
 |BR =>
  cases rx;cases y with
  |BR=>cases ry;exact PySem.EqNone.ne_none_none (BF I q (by simp))
  |bl j=>cases ry;exact PySem.EqNone.ne_none_bool (BF I q (by simp))
  |int j=>obtain⟨t',rfl⟩:=ry;exact PySem.EqNone.ne_none_int (BF I q (by simp))
  |str j=>obtain⟨t',rfl⟩:=ry;exact PySem.EqNone.ne_none_str (BF I q (by simp))
  |_=>exact absurd (show false=true from hs) aK
 |bl i =>
  cases rx;cases y with
  |BR=>cases ry;exact PySem.EqNone.ne_bool_none (BF I q (by simp))
  |bl j=>cases ry;exact ne_bool (BF I q (bA not Sz))
  |str j=>obtain⟨t',rfl⟩:=ry;exact PySem.EqMixed.ne_bool_str (BF I q (by simp))
  |_=>exact absurd (show false=true from hs) aK
 |int i =>
  obtain⟨t,rfl⟩:=rx;cases y with
  |BR=>cases ry;exact PySem.EqNone.ne_int_none (BF I q (by simp))
  |int j=>obtain⟨t',rfl⟩:=ry;exact ne_int (BF I q (bA not RI))
  |str j=>obtain⟨t',rfl⟩:=ry;exact PySem.EqMixed.ne_int_str (BF I q (by simp))
  |_=>exact absurd (show false=true from hs) aK
 |str i =>
  obtain⟨t,rfl⟩:=rx;cases y with
  |BR=>cases ry;exact PySem.EqNone.ne_str_none (BF I q (by simp))
  |bl j=>cases ry;exact PySem.EqMixed.ne_str_bool (BF I q (by simp))
  |int j=>obtain⟨t',rfl⟩:=ry;exact PySem.EqMixed.ne_str_int (BF I q (by simp))
  |str j=>obtain⟨t',rfl⟩:=ry;exact ne_str (BF I q (bA not RJ))
  |_=>exact absurd (show false=true from hs) aK
 |Kf i =>
  obtain⟨t,rfl⟩:=rx;cases y with
  |Kf j=>obtain⟨t',rfl⟩:=ry;exact PySem.W.ne_bytes (BF I q (bA not RN))
  |_=>exact absurd (show false=true from hs) aK
 |_=>cases y<;>exact absurd (show false=true from hs) aK
theorem O6:CH X (compareOp .Lt) (N6 fun i j=>.bl (decide (i<j))):=Vb fun _ _ _ _ _ _ _ q=>lt_int q
theorem Oq:CH X (compareOp .Gt) (N6 fun i j=>.bl (decide (j<i))):=Vb fun _ _ _ _ _ _ _ q=>gt_int q
theorem WU:CH X (compareOp .GtE) (N6 fun i j=>.bl (decide (j≤i))):=Vb fun _ _ _ _ _ _ _ q=>ge_int q
theorem YE:CH X (compareOp .IsNot) (fun x y H Q=>y=.BR∧Q (.bl (!decide (x=.BR))) H):=by
 intro pins s σ H x y v u Q I rx ry h;obtain⟨rfl,q⟩:=h;cases ry;refine isnot_none_gen (BF I q ?_);cases x<;>first
  |(cases rx;rfl)
  |(obtain⟨t,rfl⟩:=rx;rfl)
theorem CH.or{f:Value→Value→Sem Value}{r r':R2}(h:CH X f r)(h':CH X f r'):CH X f (fun x y H Q=>r x y H Q∨r' x y H Q):=by
 intro pins s σ H x y v u Q I rx ry q;rcases q with q|q
 ·exact h pins s σ H x y v u Q I rx ry q
 ·exact h' pins s σ H x y v u Q I rx ry q
theorem Ae(b:Expr){op:CmpOp}(h:op≠.In:=by decide)(h2:op≠.NotIn:=by decide):behindInMarks op b=false:=by
 have e1:(op==CmpOp.In)=false:=by cases op<;>first|rfl|exact absurd rfl h
 have e2:(op==CmpOp.NotIn)=false:=by cases op<;>first|rfl|exact absurd rfl h2
 cases b<;>simp[behindInMarks,e1,e2]
theorem JM{op:CmpOp}{r:R2}(ho:CH X (compareOp op) r)(ha:PE X a ta)(hb:PE X b tb)(hm:behindInMarks op b=false):PE X (.Compare a [op] [b] pos) (WB r ta tb):=by
 intro pins s σ H Q I h;exact wpAny_Compare1 (Vz ha hb I h fun v u s2 x y H2 I2 rx ry q=>ho pins s2 σ H2 x y v u Q I2 rx ry q) hm
def cF(t:TE):TT:=fun σ H Q=>t σ H fun x H'=>∃k,x=.bl k∧Q k H'
theorem CN{op:CmpOp}{r:R2}(ho:CH X (compareOp op) r)(ha:PE X a ta)(hb:PE X b tb)(hm:behindInMarks op b=false):PT X (.Compare a [op] [b] pos) (cF (WB r ta tb)):=by
 intro pins s σ H Q I h;refine wpAny_isTrue_Compare1 (Ar (ha pins s σ H _ I h) fun v s1 ⟨x,H1,I1,r1,q1⟩=>Ar (hb pins s1 σ H1 _ I1 q1) fun u s2 ⟨y,H2,I2,r2,q2⟩ =>
  Ar (ho pins s2 σ H2 x y v u _ I2 r1 r2 q2) fun c s3 ⟨z,H3,I3,r3,k,e,q3⟩=>?_) hm
 subst e;cases r3;exact wpAny_truthy_bool ⟨H3,I3,q3⟩
theorem JZ:(sizeLine:Nat)<2^63:=by rw[sizeLine_eq];decide
theorem Rn:CH X (binaryOp .Add) (fun x y H Q=>∃i j,x=.str i∧y=.str j∧i.length+j.length≤sizeLine∧Q (.str (i++j)) H):=by
 intro pins s σ H x y v u Q I rx ry h;obtain⟨i,j,rfl,rfl,hz,q⟩:=h;obtain⟨t,rfl⟩:=rx;obtain⟨t',rfl⟩:=ry;exact add_str (fun t' tk=>⟨.str (i++j),H,I.tok _,⟨_,rfl⟩,q⟩) hz
theorem vals1{x:V}{us:List Value}(r:Vals [x] us):∃u,us=[u]∧RelV x u:=by
 cases r with
 |cons r1 r2=>cases r2;exact⟨_,rfl,r1⟩
theorem Hu:GC X (.builtin "abs") (fun xs H Q=>∃i,xs=[.int i]∧Q (.int (if i<0 then -i else i)) H):=by
 intro pins s σ H xs us Q I r h;obtain⟨i,rfl,q⟩:=h;obtain⟨u,rfl,t,rfl⟩:=vals1 r;exact call_abs_int fun u tk=>⟨.int (if i<0 then -i else i),H,I.tok _,⟨_,rfl⟩,q⟩
end
structure Vo(h:Heap)(x dx C:Addr)(mA:Str→Option Value):Prop where
 obj:h.get? x=some (PySem.W.instObj C dx)
 ns:h.Ns1 dx mA
 ne:dx≠x
theorem Tf{h:Heap}{dx:Addr}{mA:Str→Option Value}(n:h.Ns1 dx mA):∃od,h.get? dx=some od∧∀name,PySem.W.lookIn name od=some (mA name):=by
 obtain⟨o,es,ep,ho,hd,hk,_,hm⟩:=n;refine⟨o,ho,fun name=>?_⟩;have e:=hm name;unfold nsFind findBy at e;rw[←Array.find?_toList]at e;unfold PySem.W.lookIn;rw[hd];dsimp only;split
 ·rename_i y q;rw[q]at e;exact bA some e
 ·rename_i q;rw[q]at e;have a:es.toList.any (·.refKey)=false:=by
   rw[List.any_eq_false];intro y hy;obtain⟨z,t,hkey⟩:=hk y (Array.mem_toList_iff.mp hy);simp[DictEntry.refKey,hkey]
  have a':¬es.toList.any (·.refKey)=true:=by rw[a];exact aK
  rw[if_neg a'];exact bA some e
theorem Vo.look{h:Heap}{x dx C:Addr}{mA:Str→Option Value}(I:Vo h x dx C mA):∃od,PySem.W.InstAt h x (PySem.W.instObj C dx) C (some od)∧∀name,PySem.W.lookIn name od=some (mA name) :=
 let⟨od,ho,hl⟩:=Tf I.ns
 ⟨od,⟨I.obj,rfl,rfl,ho⟩,hl⟩
theorem IE.some_of{v:V}{o:Option Value}(r:IE (some v) o):∃u,o=some u∧RelV v u:=by
 cases o with
 |none=>exact(show False from r).elim
 |some u=>exact⟨u,rfl,r⟩
section
variable{P:Program}{w:World}{H:Hp}{h:Heap}{a C dx:Addr}{fs:List (Str×V)}
theorem X0(Aa:CV P w H h)(e:H a=some (.ins C dx fs)):∃mA,Vo h a dx C mA∧(∀f,IE (fs.lookup f) (mA f))∧PySem.Within mA (fs.map (·.1))∧fs.length≤1000∧H dx=some (.own a):=by
 obtain⟨d,z,ne,ob,mA,n,r,q⟩:=(show Bb P w H h a (.ins C dx fs) from Aa a _ e);exact⟨mA,⟨ob,n,ne⟩,r,q,z,d⟩
end
structure YW(K:PySem.W.Frag)(C:Addr):Prop where
 pg:PySem.W.plainGet K C Str.empty=true
 hd:PySem.W.hasDictIn K C=true
 po:PySem.W.plainOver K C=true
 sa:PySem.W.findIn K (.ref C) "__setattr__" = some (some (.builtin "object.__setattr__"))
theorem YW.get{K:PySem.W.Frag}{C:Addr}(c:YW K C)(f:Str):PySem.W.plainGet K C f=true:=c.pg
section
variable{X:Cx}{pins:List (Addr×Obj)}{σ:St}{H:Hp}{s:Shared}{A:Around}{E:Value→Shared→Prop}{Q:Value→Shared→Prop}{c:Value}{b:Bool}
inductive E5(K:PySem.W.Frag)(H:Hp):V→Value→Prop where
 |BR:E5 K H .BR (.type "NoneType")
 |bl (x:Bool):E5 K H (.bl x) (.type "bool")
 |int (i:Int):E5 K H (.int i) (.type "int")
 |str (x:Str):E5 K H (.str x) (.type "str")
 |RO (x:UInt64):E5 K H (.RO x) (.type "float")
 |lst {a:Addr} {xs:List V} (e:H a=some (.lst xs)):E5 K H (.ref a) (.type "list")
 |DV {a:Addr} {o:Obj} {xs:List V} (e:H a=some (.DV o (.lst xs))):E5 K H (.ref a) (.type "list")
 |tup {a:Addr} {xs:List V} (e:H a=some (.tup xs)):E5 K H (.ref a) (.type "tuple")
 |dK {a:Addr} {kvs:List (Key×V)} (e:H a=some (.dK kvs)):E5 K H (.ref a) (.type "dict")
 |dT {a:Addr} {kvs:List (List Key×V)} (e:H a=some (.dT kvs)):E5 K H (.ref a) (.type "dict")
 |ins {a C dx:Addr} {fs:List (Str×V)} (e:H a=some (.ins C dx fs)) (cl:YW K C) (ha:PySem.W.findIn K (.ref C) "__class__" = some (some (.builtin "object.__class__")))
   (hn:PySem.W.specialIn K (.builtin "object.__class__") "__get__" = some (some (.builtin "getset_descriptor.__get__"))) (htk:PySem.W.takesIn K (.builtin "object.__class__")=some true)
   (hm:PySem.W.mroIn K C (.type "object")=some true):E5 K H (.ref a) (.ref C)
theorem TY{x:V}{u t:Value}(I:Inv X pins σ H s)(rx:RelV x u)(ty:E5 X.K H x t)(e:PySem.W.kitOne X.K t c=some b)(h:∀tk,Q (.bool b) {s with toks:=tk}) :
  wpAny (model X.prog X.w) A (call (.builtin "isinstance") [u,c]) Q E s:=by
 cases ty with
 |BR=>cases (show u=Value.none from rx);exact ae PySem.W.kitx_none I.EG True.intro e (fun z=>nomatch z) h
 |bl y=>cases (show u=Value.bool y from rx);exact ae PySem.W.kitx_bool I.EG True.intro e (fun z=>nomatch z) h
 |int i=>obtain⟨t,q⟩:=(show ∃t,u=Value.int i t from rx);cases q;exact ae PySem.W.kitx_int I.EG True.intro e (fun z=>nomatch z) h
 |str y=>obtain⟨t,q⟩:=(show ∃t,u=Value.str y t from rx);cases q;exact ae PySem.W.kitx_str I.EG True.intro e (fun z=>nomatch z) h
 |RO y=>obtain⟨t,q⟩:=(show ∃t,u=Value.float y t from rx);cases q;exact ae PySem.W.kitx_float I.EG True.intro e (fun z=>nomatch z) h
 | @lst a xs ea =>
  cases (show u=Value.ref a from rx);obtain⟨_,_,n,_,h1⟩:=(show Bb X.prog X.w H s.heap a (.lst xs) from I.Aa a _ ea);exact ae PySem.W.kitx_list I.EG ⟨_,h1,rfl⟩ e (fun z=>nomatch z) h
 | @DV a ob xs ea =>
  cases (show u=Value.ref a from rx);obtain⟨_,_,_,n,_,h1⟩:=(show Bb X.prog X.w H s.heap a (.DV ob (.lst xs)) from I.Aa a _ ea);exact ae PySem.W.kitx_list I.EG ⟨_,h1,rfl⟩ e (fun z=>nomatch z) h
 | @tup a xs ea =>
  cases (show u=Value.ref a from rx);obtain⟨_,_,_,p⟩:=(show Bb X.prog X.w H s.heap a (.tup xs) from I.Aa a _ ea);obtain⟨o,h1,h2,_⟩:=p;exact ae PySem.W.kitx_tuple I.EG ⟨o,h1,h2⟩ e (fun z=>nomatch z) h
 | @dK a kvs ea =>
  cases (show u=Value.ref a from rx);obtain⟨_,_,vs,_,p⟩:=(show Bb X.prog X.w H s.heap a (.dK kvs) from I.Aa a _ ea);obtain⟨o,es,ep,h1,h2,_⟩:=p;exact ae PySem.W.kitx_dict I.EG ⟨o,h1,h2.1⟩ e (fun z=>nomatch z) h
 | @dT a kvs ea =>
  cases (show u=Value.ref a from rx);obtain⟨_,_,xs,_,o,es,ep,h1,h2,_⟩:=(show Bb X.prog X.w H s.heap a (.dT kvs) from I.Aa a _ ea);exact ae PySem.W.kitx_dict I.EG ⟨o,h1,h2.1⟩ e (fun z=>nomatch z) h
 | @ins a C dx fs ea cl ha hn htk hm =>
  cases (show u=Value.ref a from rx);obtain⟨mA,O,_⟩:=X0 I.Aa ea;obtain⟨od,J,_⟩:=O.look;exact ae (PySem.W.kitx_own (cl.get _) cl.hd ha hn htk hm) I.EG J e (fun z=>nomatch z) h
end
structure CM(k:Nat)(A:Around):Prop where
 hd:A.handled=none
 dp:A.depth+3*k+5<recursionLimit
 un:A.units+16*k+200<cLine
theorem CM.mono{j k:Nat}{A:Around}(r:CM k A)(h:j≤k:=by decide):CM j A:=⟨r.hd,by have:=r.dp;lia,by have:=r.un;lia⟩
theorem CM.deeper{k:Nat}{A:Around}(r:CM (k+1) A)(env:Env):CM k (A.deeper env) :=
 ⟨r.hd,by have:=r.dp;show A.depth+1+3*k+5<_;lia,by have:=r.un;show A.units+3+16*k+200<_;lia⟩
theorem CM.depth{k:Nat}{A:Around}(r:CM k A):A.depth<recursionLimit:=by have:=r.dp;lia
theorem CM.units{k:Nat}{A:Around}(r:CM k A):A.units+64<cLine:=by have:=r.un;lia
def eF:TA:=fun _ H Q=>Q [] H
def dM(ta:TE)(tr:TA):TA:=fun σ H Q=>ta σ H fun x H1=>tr σ H1 fun xs H2=>Q (x::xs) H2
section
variable{X:Cx}{e:Expr}{es:List Expr}{te:TE}{t:TA}{pos:Pos}
theorem AZ:PA X [] eF:=fun _ _ _ _ H Q I h=>Calls.spliced_nil ⟨[],H,I,.nil,h⟩
theorem AL(ha:PE X e te)(hr:PA X es t)(hs:starEach (e::es) X.env=(false,eval e X.env)::starEach es X.env:=by rfl):PA X (e::es) (dM te t):=by
 intro pos pins s σ H Q I h;rw[hs];show wpAny _ _ (spliced ((false,eval e X.env)::backTo pos (starEach es X.env))) _ _ s;refine Calls.spliced_cons (Ar (ha pins s σ H _ I h) fun u s1 ⟨x,H1,I1,r1,q1⟩=>?_);exact Ar (hr pos pins s1 σ H1 _ I1 q1) fun us s2 ⟨xs,H2,I2,r2,q2⟩=>⟨x::xs,H2,I2,.cons r1 r2,q2⟩
def et(t:TA):TE:=fun σ H Q=>t σ H fun xs H1=>xs.length≤sizeLine∧∀p,H1 p=none→Q (.ref p) (upd H1 p (.tup xs))
def fH(t:TA):TE:=fun σ H Q=>t σ H fun xs H1=>xs.length≤sizeLine∧∀p,H1 p=none→Q (.ref p) (upd H1 p (.lst xs))
theorem S3{x1}(h:PA X es t):PE X (.Tuple es x1 pos) (et t):=by
 intro pins s σ H Q I hq;refine wpAny_Tuple_spliced (Ar (h pos pins s σ H _ I hq) fun us s1 ⟨xs,H1,I1,r,z,q⟩=>⟨by rw[←r.length];exact z,?_⟩);have hf:H1 s1.heap.objs.size=none:=I1.Aa.fresh (aH _);refine⟨.ref s1.heap.objs.size,upd H1 s1.heap.objs.size (.tup xs),I1.laid (t':=s1.toks) (fun b u e=>aE _ e) (aH _) ?_,rfl,q _ hf⟩;exact⟨z,us,r,⟨_,Heap.get?_push_size _ rfl,rfl,_,rfl⟩⟩
theorem QF(h:PA X es t):PE X (.List es pos) (fH t):=by
 intro pins s σ H Q I hq;refine wpAny_List_spliced (Ar (h pos pins s σ H _ I hq) fun us s1 ⟨xs,H1,I1,r,z,q⟩=>⟨by rw[←r.length];exact z,?_⟩);have hf:H1 s1.heap.objs.size=none:=I1.Aa.fresh (aH _);refine⟨.ref s1.heap.objs.size,upd H1 s1.heap.objs.size (.lst xs),I1.laid (t':=s1.toks) (fun b u e=>aE _ e) (aH _) ?_,rfl,q _ hf⟩;exact⟨z,us,0,r,Heap.get?_push_size _ rfl⟩
end
abbrev Sp:=List V→Hp→VK→XK→Prop
abbrev Fs:=List Env→Hp→Shared→XK→Value→Shared→Prop
structure Sk(P:Program)(w:World)(K:PySem.W.Frag)(mg:Str→Option Value)(base:Heap)(A:Around)(outer:List Env)(s:Shared)(H:Hp):Prop where
 frames:A.frames=some outer
 mod:Mod K mg base
 bs:∀b o,base.get? b=some o→s.heap.get? b=some o∧H b=none
 M1:base.objs.size≤s.heap.objs.size
 Ff:s.heap.FunFrames base outer
 Mg:∀b∈EF outer,H b=none
 Aa:CV P w H s.heap
 bare:AllBare s.gens
 kt:KTb mg H
def CE(outer:List Env)(P:Program)(w:World)(H:Hp)(s:Shared)(Q:VK)(u:Value)(s':Shared):Prop :=
 ∃v H',s'.os=s.os∧AllBare s'.gens∧Un (EF outer) [] H H' s.heap s'.heap∧CV P w H' s'.heap∧RelV v u∧Q v H'
def CR(CX:Fs)(outer:List Env)(P:Program)(w:World)(H:Hp)(s:Shared)(Q:VK)(E:XK)(r:Result)(s':Shared):Prop :=
 match r with
 |.ok (.ret u)=>CE outer P w H s Q u s'
 |.ok _=>False
 |.error e=>CX outer H s E e s'
structure AM(P:Program)(w:World)(K:PySem.W.Frag)(mg:Str→Option Value)(base:Heap)(CX:Fs)(k:Nat)(f:Addr)(fd:FuncData)(ps:List Str)(sp:Sp):Prop where
 len:∀vs H Q E,sp vs H Q E→vs.length=ps.length
 run:∀(A:Around) (outer:List Env) (s:Shared) (H:Hp) (args:Args) (us:List Value) (vs:List V) (Q:VK) (E:XK),CM k A→Sk P w K mg base A outer s H→BindsTo s fd args (ps.zip us)→Vals vs us→sp vs H Q E →
  codeAny (model P w) A (.call (.ref f) args) (CR CX outer P w H s Q E) s
theorem AM.mono{P:Program}{w:World}{K:PySem.W.Frag}{mg:Str→Option Value}{base:Heap}{CX:Fs}{j k:Nat}{f:Addr}{fd:FuncData}{ps:List Str}{sp:Sp}(F:AM P w K mg base CX j f fd ps sp)(h:j≤k:=by decide) :
  AM P w K mg base CX k f fd ps sp:=⟨F.len,fun A outer s H args us vs Q E hr=>F.run A outer s H args us vs Q E (hr.mono h)⟩
theorem AM.imp{P:Program}{w:World}{K:PySem.W.Frag}{mg:Str→Option Value}{base:Heap}{CX:Fs}{k:Nat}{f:Addr}{fd:FuncData}{ps:List Str}{sp sp':Sp}(F:AM P w K mg base CX k f fd ps sp)
 (h:∀vs H Q E,sp' vs H Q E→sp vs H Q E):AM P w K mg base CX k f fd ps sp' :=
 ⟨fun vs H Q E q=>F.len vs H Q E (h _ _ _ _ q),fun A outer s H args us vs Q E hr he hb hv hs=>F.run A outer s H args us vs Q E hr he hb hv (h _ _ _ _ hs)⟩
section
variable{X:Cx}{pins:List (Addr×Obj)}{σ:St}{H:Hp}{s s':Shared}
theorem Inv.Y9(I:Inv X pins σ H s):Sk X.prog X.w X.K X.mg X.base X.A X.stack s H :=
 ⟨I.ok.frames,I.ok.mod,I.bs,Nat.le_trans I.ok.M1 I.sz,I.stack,I.NK,I.Aa,I.bare,I.kt⟩
theorem Inv.after{Q:VK}{u:Value}(I:Inv X pins σ H s)(h:CE X.stack X.prog X.w H s Q u s'):EP X pins σ Q u s':=by
 obtain⟨v,H',os,bare,un,Aa,r,q⟩:=h;obtain⟨hh,g,d,t,os'⟩:=s';obtain rfl:os'=s.os:=os;exact⟨v,H',I.call (h':=hh) (g':=g) (d':=d) (t':=t) (ch:=[]) un Aa bare (fun b z=>absurd z (by simp)),r,q⟩
end
def So(sp:Sp)(dvs:List V)(E:XK)(t:TA):TE:=fun σ H Q=>t σ H fun vs H1=>sp (vs++dvs) H1 Q E
def Binds(K:PySem.W.Frag)(fd:FuncData)(ps:List Str)(ds:List Value):Prop :=
 ∀(s:Shared) (us:List Value),K.In s.heap→(us++ds).length=ps.length→BindsTo s fd ⟨us,[]⟩ (ps.zip (us++ds))
theorem Binds.all{K:PySem.W.Frag}{fd:FuncData}{ps:List Str}(h:∀us:List Value,us.length=ps.length→bindArgs fd ⟨us,[]⟩=pure (ps.zip us)):Binds K fd ps []:=fun s us _ hl=>by
 rw[List.append_nil]at hl ⊢;exact .of_eq (h us hl)
def Passes(CX:Fs)(X:Cx)(E:XK):Prop:=∀(pins:List (Addr×Obj)) (σ:St) (H:Hp) (s:Shared) (e:Value) (s':Shared),Inv X pins σ H s→CX X.stack H s E e s'→X.xe e s'
section
variable{X:Cx}{CX:Fs}{k:Nat}{f:Addr}{fd:FuncData}{ps:List Str}{sp:Sp}{dvs:List V}{ds:List Value}{E:XK}{x:Str}{p pos:Pos}{e:Expr}{es:List Expr}{t:TA}
theorem bZ{pins:List (Addr×Obj)}{σ:St}{H:Hp}{s:Shared}{Q:VK}{us:List Value}{vs:List V}(F:AM X.prog X.w X.K X.mg X.base CX k f fd ps sp)(hr:CM k X.A)(hb:Binds X.K fd ps ds)(hd:Vals dvs ds)(hx:Passes CX X E)
 (I:Inv X pins σ H s)(r:Vals vs us)(h:sp (vs++dvs) H Q E):wpAny (model X.prog X.w) X.A (call (.ref f) us) (EP X pins σ Q) X.xe s:=by
 have r2:Vals (vs++dvs) (us++ds):=r.append hd;have hl:(us++ds).length=ps.length:=by rw[←r2.length];exact F.len _ _ _ _ h
 refine wpAny_call (codeAny_mono (F.run X.A X.stack s H ⟨us,[]⟩ (us++ds) (vs++dvs) Q E hr I.Y9 (hb s us I.EG hl) r2 h) fun r s' hq=>?_);cases r with
 |error e=>exact hx pins σ H s e s' I hq
 |ok fl =>
  cases fl with
  |ret u=>exact I.after hq
  |next=>exact False.elim hq
  |brk=>exact False.elim hq
  |cont=>exact False.elim hq
theorem RY(F:AM X.prog X.w X.K X.mg X.base CX k f fd ps sp)(hr:CM k X.A)(hg:Gl X x)(hm:X.mg x=some (.ref f))(hk:PySem.W.keepIn X.K (.ref f)=true)(hb:Binds X.K fd ps ds)(hd:Vals dvs ds)(hx:Passes CX X E)
 (ha:PA X (e::es) t)(hdb:(x==("__debug__" : Str))=false:=by decide)(he:starEach (e::es) X.env=(false,eval e X.env)::starEach es X.env:=by rfl)(hpl:(backTo pos (starEach es X.env)).any (·.1)=false:=by rfl) :
  PE X (.Call (.Name x p) (e::es) [] pos) (So sp dvs E t):=by
 intro pins s σ H Q I h;refine wpAny_Call_Name_kw (JN I hg hm ?_ hdb);refine PySem.W.callWith_K (h₀:=X.base) I.ok.mod.KH hk (Ar (ha pos pins s σ H _ I h) fun us s1 ⟨vs,H1,I1,r,q⟩=>⟨I1.EG,?_⟩) he hpl;exact bZ F hr hb hd hx I1 r q
end
structure Af(N P:List Str)(sc:Scope):Prop where
 kind:sc.kind=.function
 co:sc.isCoroutine=false
 gen:sc.isGenerator=false
 nd:N.Nodup
 pre:N.take P.length=P
 par:∀x∈P,sc.names.lookup x=some .local∨sc.names.lookup x=some .cell
 Yt:∀y∈sc.names,y.2≠.free
theorem OV{kindOf:Str→Option NameKind}{x:Str}:∀ {binds:List (Str×Value)} {m:Str→Option Value},(∀v,(x,v) ∉ binds)→bindL kindOf binds m x=m x
 |[],_,_=>rfl
 |(n,v)::r,m,h=>by
  unfold bindL;rw[OV fun w hw=>h w (aa _ hw)];split
  ·have:x≠n:=by rintro rfl;exact h v bC
   simp[this]
  ·rfl
theorem Nz{kindOf:Str→Option NameKind}{x:Str}:∀ {binds:List (Str×Value)} {m:Str→Option Value},(∀v,(x,v) ∉ binds)→bindC kindOf binds m x=m x
 |[],_,_=>rfl
 |(n,v)::r,m,h=>by
  unfold bindC;rw[Nz fun w hw=>h w (aa _ hw)];split
  ·rfl
  ·have:x≠n:=by rintro rfl;exact h v bC
   simp[this]
theorem OQ{kindOf:Str→Option NameKind}{x:Str}{v:Value}:∀ {P:List Str} {vs:List Value} {i:Nat} {m:Str→Option Value},P.Nodup→P[i]? = some x→vs[i]? = some v→kindOf x=some .local →
  bindL kindOf (P.zip vs) m x=some v
 |[],_,_,_,_,h,_,_=>by simp at h
 |_::_,[],_,_,_,_,h,_=>by simp at h
 |p::P,w::vs,0,m,nd,h1,h2,hk=>by
  simp at h1 h2;subst h1;subst h2;show bindL kindOf ((p,w)::P.zip vs) m p=_;unfold bindL;rw[OV fun v hv=>(List.nodup_cons.mp nd).1 (List.of_mem_zip hv).1,if_pos hk];simp
 |p::P,w::vs,i+1,m,nd,h1,h2,hk=>by
  show bindL kindOf ((p,w)::P.zip vs) m x=_;unfold bindL;exact OQ (i:=i) (List.nodup_cons.mp nd).2 (by simpa using h1) (by simpa using h2) hk
theorem N5{kindOf:Str→Option NameKind}{x:Str}{v:Value}:∀ {P:List Str} {vs:List Value} {i:Nat} {m:Str→Option Value},P.Nodup→P[i]? = some x→vs[i]? = some v→kindOf x≠some .local →
  bindC kindOf (P.zip vs) m x=some v
 |[],_,_,_,_,h,_,_=>by simp at h
 |_::_,[],_,_,_,_,h,_=>by simp at h
 |p::P,w::vs,0,m,nd,h1,h2,hk=>by
  simp at h1 h2;subst h1;subst h2;show bindC kindOf ((p,w)::P.zip vs) m p=_;unfold bindC;rw[Nz fun v hv=>(List.nodup_cons.mp nd).1 (List.of_mem_zip hv).1,if_neg hk];simp
 |p::P,w::vs,i+1,m,nd,h1,h2,hk=>by
  show bindC kindOf ((p,w)::P.zip vs) m x=_;unfold bindC;exact N5 (i:=i) (List.nodup_cons.mp nd).2 (by simpa using h1) (by simpa using h2) hk
def start(N:List Str)(vs:List V):St:=vs.map some++List.replicate (N.length-vs.length) none
def B4(CX:Fs)(P:Program)(w:World)(K:PySem.W.Frag)(mg:Str→Option Value)(base:Heap)(N:List Str)(qual:Str)(scope:Scope)(f:Addr)(cd:Value)(A:Around)(outer:List Env)(s:Shared)(H:Hp)(E:XK):Cx where
 prog:=P
 w:=w
 K:=K
 mg:=mg
 base:=base
 A:=A.deeper (envOfC qual scope s.heap.objs.size f cd)
 N:=N
 s₀:=s
 H₀:=H
 env:=envOfC qual scope s.heap.objs.size f cd
 outer:=outer
 stack:=envOfC qual scope s.heap.objs.size f cd::outer
 ex:=[]
 calm:=true
 fn:=fun _=>true
 pn:=[]
 xe:=fun e s'=>wpAny (model P w) (A.deeper (envOfC qual scope s.heap.objs.size f cd)) (leaving (envOfC qual scope s.heap.objs.size f cd) e) (fun _ s''=>CX outer H s E e s'') (fun e' s''=>CX outer H s E e' s'') s'
theorem QV{sc:Scope}{n:Nat}{x:Str}(h:sc.names.lookup x=some .cell):∃c,(cellsFrom n sc.names []).lookup x=some c:=by
 have q:=PySem.W.cellsFrom_some sc.names n [] (.inl h);exact Option.isSome_iff_exists.mp q
theorem Th{CX:Fs}{P:Program}{w:World}{K:PySem.W.Frag}{mg:Str→Option Value}{base:Heap}{N ps:List Str}{qual:Str}{scope:Scope}{f:Addr}{cd:Value}{A:Around}{outer:List Env}{s s1:Shared}{H:Hp}{E:XK}{us:List Value}{vs:List V}
 (S:Af N ps scope)(hd:A.handled=none)(e0:Sk P w K mg base A outer s H)(hl:vs.length=ps.length)(r:Vals vs us)
 (x:InCallC s s.heap.objs.size (bindL (envOfC qual scope s.heap.objs.size f cd).kindOf (ps.zip us) fun _=>none) (cellsFrom (s.heap.objs.size+1) scope.names []) (bindC (envOfC qual scope s.heap.objs.size f cd).kindOf (ps.zip us) fun _=>none) s1) :
  Inv (B4 CX P w K mg base N qual scope f cd A outer s H E) [] (start N vs) H s1:=by
 have hpl:ps.length≤N.length:=by have:=bA List.length S.pre;rw[List.length_take]at this;lia
 obtain⟨h1,tk,rfl,hk⟩:=x.done;have noA:∀b:Addr,b ∉ (B4 CX P w K mg base N qual scope f cd A outer s H E).ex:=fun b z=>absurd (show b∈([]:List Addr) from z) (by simp);refine⟨⟨e0.mod,S.kind,rfl,rfl,Nat.le_refl _,fun y z c h1 h2=>?_,fun y hy=>?_,fun y c _ h=>?_,fun _=>hd,Around.frames_deeper e0.frames,.inr ⟨rfl,rfl⟩,fun b z=>absurd z (noA b),e0.bs,e0.M1,fun b _ _=>noA b,fun b z=>absurd z (noA b),e0.Ff,e0.Mg,e0.kt⟩,
  rfl,e0.bare,Un.kept hk,⟨_,x.toInCall.ns,fun i y v h1 h2 h3=>?_⟩,fun y c h=>⟨_,x.cell y c h⟩,e0.Aa.fresh (aH _),fun y c h=>?_,fun p hp=>absurd (show p∈([]:List (Addr×Obj)) from hp) (by simp),e0.Aa.kept hk,?_⟩
 ·exact name_of_addr x.apart (PySem.mem_of_lookup h1) (PySem.mem_of_lookup h2)
 ·have hy:scope.names.lookup y=some .cell∨scope.names.lookup y=some .free:=hy;rcases hy with hy|hy
  ·exact QV hy
  ·exact absurd rfl (S.Yt _ (PySem.mem_of_lookup hy))
 ·exact Nat.le_of_lt (x.above y c (PySem.mem_of_lookup h))
 ·have hi:i<vs.length:=by
   unfold start at h2;by_cases hi:i<vs.length
   ·exact hi
   ·rw[List.getElem?_append_right (by simpa using hi)]at h2;rw[List.getElem?_replicate]at h2;split at h2<;>cases h2
  have ha:vs[i]? = some v:=by
   unfold start at h2;rw[List.getElem?_append_left (by simpa using hi),List.getElem?_map]at h2;cases e:vs[i]? with
   |none=>rw[e]at h2;cases h2
   |some a=>rw[e]at h2;cases h2;rfl
  obtain⟨u,hu,rv⟩:=r.get ha;have hp:ps[i]? = some y:=by
   rw[←S.pre,List.getElem?_take_of_lt (by lia)];exact h1
  have ndP:ps.Nodup:=by rw[←S.pre];exact S.nd.sublist (List.take_sublist _ _)
  refine⟨u,rv,?_⟩;rcases S.par y (au hp) with k|k
  ·exact .inl ⟨k,OQ ndP hp hu k⟩
  ·obtain⟨c,e⟩:=QV (n:=s.heap.objs.size+1) k;refine .inr ⟨.inl k,c,e,?_⟩;have q:=x.cell y c e;rw[N5 ndP hp hu (by show scope.names.lookup y≠_;rw[k];decide)]at q;exact q
 ·exact e0.Aa.fresh (Nat.le_of_lt (x.above y c (PySem.mem_of_lookup h)))
 ·unfold start;show _=N.length;rw[List.length_append,List.length_map,List.length_replicate]
  lia
theorem Wu{CX:Fs}{P:Program}{w:World}{K:PySem.W.Frag}{mg:Str→Option Value}{base:Heap}{k:Nat}{f:Addr}{name qual:Str}{params:Arguments}{body:List Stmt}{scope:Scope}{dV kV doc pm cdv ct oc:Value}{an od:Option Addr}
 {osl:Array (Option Value)}{N ps:List Str}{sp:Sp}(lk:K.lookup f=some ⟨oc,od,.func (PySem.W.fnOf name qual params body scope dV kV doc pm an cdv ct),osl⟩)(hcd:PySem.W.codeIn K cdv qual=true)(S:Af N ps scope)
 (len:∀vs H Q E,sp vs H Q E→vs.length=ps.length)
 (hbody:∀(A:Around) (outer:List Env) (s:Shared) (H:Hp) (vs:List V) (Q:VK) (E:XK),CM k (A.deeper (envOfC qual scope s.heap.objs.size f cdv))→sp vs H Q E →
   ∃t,FZ (B4 CX P w K mg base N qual scope f cdv A outer s H E) body t∧t { nx:=fun _ H'=>Q .BR H',rt:=Q} (start N vs) H) :
  AM P w K mg base CX (k+1) f (PySem.W.fnOf name qual params body scope dV kV doc pm an cdv ct) ps sp:=by
 refine⟨len,fun A outer s H args us vs Q E hr e0 hb r hsp=>?_⟩;have hl:=len _ _ _ _ hsp;have KX:K.In s.heap:=e0.mod.KH.keeps fun b o e=>(e0.bs b o e).1;have lim:s.heap.NoLimit:=e0.mod.nolimit.keeps fun b o e=>(e0.bs b o e).1;have hkind:∀y∈ps.zip us,scope.names.lookup y.1=some .local∨(scope.names.lookup y.1=some .cell∧((cellsFrom (s.heap.objs.size+1) scope.names []).lookup y.1).isSome=true):=fun⟨n,v⟩ hy=>by
  rcases S.par n (List.of_mem_zip hy).1 with q|q
  ·exact .inl q
  ·exact .inr ⟨q,PySem.W.cellsFrom_some _ _ _ (.inl q)⟩
 refine codeAny_call_function hr.depth (KX _ _ lk) rfl S.co S.gen rfl (PySem.W.codeRec_of KX hcd) (hb _ _ _ _ ?_);refine wpAny_newFunctionEnv_cells S.kind hkind fun env he s1 x=>?_;subst he;refine⟨lim.keeps x.toInCall.keep,codeAny_func ?_⟩;obtain⟨t,ht,hq⟩:=hbody A outer s H vs Q E (hr.deeper _) hsp;have I:Inv (B4 CX P w K mg base N qual scope f cdv A outer s H E) [] (start N vs) H s1:=Th S hr.hd e0 hl r x;refine aN (ht [] s1 (start N vs) H _ I hq) (fun fl s' hs=>?_) fun e s' hs=>hs;have fin:∀ {σ':St} {H':Hp} {v:V} {u:Value},Inv (B4 CX P w K mg base N qual scope f cdv A outer s H E) [] σ' H' s'→RelV v u→Q v H'→CE outer P w H s Q u s' :=
  fun {σ' H' v u} J rv q=>⟨v,H',J.os,J.bare,J.base,J.Aa,rv,q⟩
 cases fl with
 |ret u =>
  obtain⟨v,σ',H',J,rv,q⟩:=hs;exact fin J rv q
 |next =>
  obtain⟨σ',H',J,q⟩:=hs;exact fin (v:=V.BR) (u:=Value.none) J rfl q
 |brk =>
  obtain⟨_,_,_,q⟩:=hs;exact False.elim q
 |cont =>
  obtain⟨_,_,_,q⟩:=hs;exact False.elim q
section
variable{X:Cx}{x:Str}{p pos:Pos}{e:Expr}{es:List Expr}{t:TA}{id T:String}{r:List V→Hp→VK→Prop}
def d8(r:List V→Hp→VK→Prop)(t:TA):TE:=fun σ H Q=>t σ H fun vs H1=>r vs H1 Q
theorem Au(hc:GC X (.builtin id) r)(hg:Gl X x)(hm:X.mg x=none)(hv:bootBuiltins x=some (.builtin id))(ha:PA X (e::es) t)(hn:x ≠ "__name__" := by decide)(hdb:(x==("__debug__" : Str))=false:=by decide)
 (he:starEach (e::es) X.env=(false,eval e X.env)::starEach es X.env:=by rfl)(hpl:(backTo pos (starEach es X.env)).any (·.1)=false:=by rfl):PE X (.Call (.Name x p) (e::es) [] pos) (d8 r t):=by
 intro pins s σ H Q I h;refine wpAny_Call_Name_kw (Hb I hg hm hv ?_ hn hdb);exact PyProof.Rows.callWith_builtin1 (Ar (ha pos pins s σ H _ I h) fun us s1 ⟨vs,H1,I1,r1,q1⟩=>hc pins s1 σ H1 vs us Q I1 r1 q1) he hpl
theorem TZ(hc:GC X (.type T) r)(hg:Gl X x)(hm:X.mg x=none)(hv:bootBuiltins x=some (.type T))(ha:PA X (e::es) t)(hn:x ≠ "__name__" := by decide)(hdb:(x==("__debug__" : Str))=false:=by decide)
 (he:starEach (e::es) X.env=(false,eval e X.env)::starEach es X.env:=by rfl)(hpl:(backTo pos (starEach es X.env)).any (·.1)=false:=by rfl):PE X (.Call (.Name x p) (e::es) [] pos) (d8 r t):=by
 intro pins s σ H Q I h;refine wpAny_Call_Name_kw (Hb I hg hm hv ?_ hn hdb);exact az (Ar (ha pos pins s σ H _ I h) fun us s1 ⟨vs,H1,I1,r1,q1⟩=>hc pins s1 σ H1 vs us Q I1 r1 q1) he hpl
end
end L2
namespace HT
open PySem PyProof.Rows
section
variable{prog:Program}{w:World}{A:Around}{E:Value→Shared→Prop}{s:Shared}
theorem W6{t b:Addr}{vs ws:List Value}{Q:Value→Shared→Prop}(ht:IsTup s.heap t vs.toArray)(hb:IsTup s.heap b ws.toArray)(hv:vs≠[])
 (h1:ws=[]→Q (.ref t) s)(h2:ws≠[]→Q (.ref s.heap.objs.size) {s with heap:=s.heap.push { cls:=.type "tuple",data:=.seq (vs++ws).toArray} })
 (hsz:vs.length+ws.length≤sizeLine):wpAny (model prog w) A (binaryOp .Add (.ref t) (.ref b)) Q E s:=by
 obtain⟨⟨cls,dd,data,sl⟩,ho,hc,n,hd⟩:=id ht;obtain⟨⟨cls2,dd2,data2,sl2⟩,ho2,hc2,n2,hd2⟩:=id hb;simp only at hc hd hc2 hd2;subst hc hd hc2 hd2;have e:vs.toArray++ws.toArray=(vs++ws).toArray:=by simp
 by_cases hw:ws=[]
 ·exact concat_meets ⟨_,ho,rfl⟩ ⟨_,ho2,rfl⟩ noFill_tuple_add seq_tuple_add PySem.F.slot_tuple_add PySem.F.entry_tuple_add (PySem.F.args_tuple_add_2 _ _)
   (tuple_addW1 t b vs.toArray ws.toArray n n2 dd dd2 sl sl2 (by simpa using hv) (by simp[hw])) ⟨ho,ho2,h1 hw⟩
 ·refine concat_meets ⟨_,ho,rfl⟩ ⟨_,ho2,rfl⟩ noFill_tuple_add seq_tuple_add PySem.F.slot_tuple_add PySem.F.entry_tuple_add (PySem.F.args_tuple_add_2 _ _)
   (tuple_addW2 t b vs.toArray ws.toArray n n2 dd dd2 sl sl2 (by simpa using hv) (by simpa using hw) (by rw[List.size_toArray,List.size_toArray];exact hsz)) ⟨ho,ho2,?_⟩
  rw[e];exact h2 hw
def BJ(n d:Nat):Option Int→Nat
 |none=>d
 |some v=>if v<0 then(v+(n:Int)).toNat else min v.toNat n
theorem U6(n d:Nat):BJ n d none=d:=rfl
theorem Q1(n d k:Nat):BJ n d (some (k:Int))=min k n:=by
 show(if(k:Int)<0 then((k:Int)+(n:Int)).toNat else min (k:Int).toNat n)=min k n;rw[if_neg (by lia),Int.toNat_natCast]
theorem Ys(n d:Nat)(hd:d≤n)(o:Option Int):BJ n d o≤n:=by
 cases o with
 |none=>exact hd
 |some v =>
  show(if v<0 then(v+(n:Int)).toNat else min v.toNat n)≤n;by_cases hv:v<0
  ·rw[if_pos hv];lia
  ·rw[if_neg hv];exact Nat.min_le_right _ _
theorem RC(v:Int)(n d:Nat):(if v<0 then max (v+(n:Int)) 0 else min v (n:Int))=((BJ n d (some v):Nat):Int):=by
 show(if v<0 then max (v+(n:Int)) 0 else min v (n:Int))=(((if v<0 then(v+(n:Int)).toNat else min v.toNat n):Nat):Int);by_cases hv:v<0
 ·simp only[if_pos hv];lia
 ·simp only[if_neg hv];lia
theorem SS(lo hi:Option Int)(n:Nat):Builtin.Slice.sliceAdjust lo hi 1 (n:Int)=(((BJ n 0 lo:Nat):Int),((BJ n n hi:Nat):Int)):=by
 have h1:¬((1:Int)<0):=by lia
 unfold Builtin.Slice.sliceAdjust;simp only[h1,if_false];refine Prod.ext ?_ ?_
 ·cases lo with
  |none=>rfl
  |some v=>exact RC v n 0
 ·cases hi with
  |none=>rfl
  |some v=>exact RC v n n
theorem Si(i j:Nat):Builtin.Slice.slicePlaces (i:Int) (j:Int) 1=j-i:=by
 unfold Builtin.Slice.slicePlaces;have h1:(1:Int) > 0:=by lia
 simp only[h1,if_true,Int.ediv_one];split<;>lia
theorem NC{v:Value}{o:Option Int}{Q:Option Int→Shared→Prop}(p:IsPart v o)(h:Q o s):wpAny (model prog w) A (Builtin.Slice.slicePartIndex v) Q E s:=by
 cases p with
 |none=>exact slicePart_none h
 |int i t=>exact slicePart_int h
theorem L4{sl:Addr}{vl vu:Value}{lo hi:Option Int}{n:Nat}{Q:Int×Int×Nat→Shared→Prop}(hs:s.heap.IsSliceOf sl vl vu .none)(pl:IsPart vl lo)(pu:IsPart vu hi)
 (h:Q (((BJ n 0 lo:Nat):Int),1,BJ n n hi-BJ n 0 lo) s):wpAny (model prog w) A (Builtin.Slice.sliceApplied (.ref sl) (pure (n:Int))) Q E s:=by
 obtain⟨os,hos,hcs,hds⟩:=id hs;unfold Builtin.Slice.sliceApplied Builtin.Slice.sliceFields;refine aA (aA (ag hos hds (x:=vl) rfl (aA (ag hos hds (x:=vu) rfl (aA (ag hos hds (x:=.none) rfl (aD ?_)))))));refine aA (slicePart_none ?_);show wpAny _ _ (if((1:Int)==0)=true then _ else _) _ _ s;rw[if_neg (by decide)];refine aA (NC pl (aA (NC pu (aA (aD ?_)))));show wpAny _ _ (match Builtin.Slice.sliceAdjust lo hi 1 (n:Int) with|(lo,hi)=>pure (lo,(1:Int),Builtin.Slice.slicePlaces lo hi 1)) _ _ s;rw[SS lo hi n];show wpAny _ _ (pure (((BJ n 0 lo:Nat):Int),(1:Int),Builtin.Slice.slicePlaces ((BJ n 0 lo:Nat):Int) ((BJ n n hi:Nat):Int) 1)) _ _ s;rw[Si];exact aD h
theorem V2(xs:Array Value)(i k:Nat):((List.range k).filterMap fun(m:Nat)=>xs[((i:Int)+(m:Int)*1).toNat]?).toArray=((xs.toList.drop i).take k).toArray:=by
 have e:(fun(m:Nat)=>xs[((i:Int)+(m:Int)*1).toNat]?)=fun m=>xs[i+m]? := by
  funext m
  have:((i:Int)+(m:Int)*1).toNat=i+m:=by lia
  rw[this]
 rw[e];have:=pick_run xs i k;rw[List.filterMap_map]at this;have e2:((fun x=>xs[x]?) ∘ fun x=>i+x)=fun m=>xs[i+m]?:=rfl;rw[e2]at this;rw[this]
theorem Le{t sl:Addr}{items:Array Value}{vl vu:Value}{lo hi:Option Int}{Q:Value→Shared→Prop}(ht:IsTup s.heap t items)(hs:s.heap.IsSliceOf sl vl vu .none)(pl:IsPart vl lo)(pu:IsPart vu hi)
 (hw:¬(BJ items.size 0 lo=0∧BJ items.size items.size hi=items.size))
 (h:Q (.ref s.heap.objs.size) {s with heap:=s.heap.push { cls:=.type "tuple",data:=.seq ((items.toList.drop (BJ items.size 0 lo)).take (BJ items.size items.size hi-BJ items.size 0 lo)).toArray} })
 (hsz:items.size≤sizeLine):wpAny (model prog w) A (getItem (.ref t) (.ref sl)) Q E s:=by
 have htake:sizeOk (.seq ((items.toList.drop (BJ items.size 0 lo)).take (BJ items.size items.size hi-BJ items.size 0 lo)).toArray):=by
  show((items.toList.drop (BJ items.size 0 lo)).take (BJ items.size items.size hi-BJ items.size 0 lo)).toArray.size≤sizeLine;rw[List.size_toArray,List.length_take,List.length_drop,Array.length_toList]
  lia
 have hj:BJ items.size items.size hi≤items.size:=Ys _ _ (aH _) hi;obtain⟨os,hos,hcs,hds⟩:=id hs;have hTs:s.TypeIs (.ref sl) "slice" := ⟨os,hos,hcs⟩;unfold getItem
 try with_reducible refine bF ?_
 first|refine aA (aD ?_)|skip
 refine aA (wpAny_sequenceKey ht.typeIs (by decide) ?_);refine aA (ai (name:=Str.ofString "__getitem__") ht.typeIs PyProof.Rows.slot_tuple_getitem
  (aj PyProof.Rows.slot_tuple_getitem ht.typeIs entry_tuple_getitem ?_ (args_tuple_getitem _ _)))
 show wpAny _ _ (Builtin.Tuple.tupleItemsOf (.ref t)>>=_) _ _ s;refine aA (tupleItemsOf_ ht ?_);refine aA (wpAny_typeOf hTs ?_);rw[if_pos (by decide)];refine aA (L4 hs pl pu ?_);have hno:¬((((BJ items.size 0 lo:Nat):Int)==0&&(1:Int)==1&&(BJ items.size items.size hi-BJ items.size 0 lo)==items.size)=true):=by
  intro q;rw[Bool.and_eq_true,Bool.and_eq_true]at q;have q1:((BJ items.size 0 lo:Nat):Int)=0:=eq_of_beq q.1.1;have q2:BJ items.size items.size hi-BJ items.size 0 lo=items.size:=eq_of_beq q.2;exact hw ⟨by lia,by lia⟩
 show wpAny _ _ (if(((BJ items.size 0 lo:Nat):Int)==0&&(1:Int)==1&&(BJ items.size items.size hi-BJ items.size 0 lo)==items.size)=true then _ else _) _ _ s;rw[if_neg hno,V2]
 first
  |exact aA (m:=Builtin.Tuple.tupleExact _) (aT (aD ⟨_,rfl,wpAny_pure h⟩) htake)
  |exact aA (m:=Builtin.Tuple.tupleExact _) (aT (aA (aD (aD ⟨_,rfl,wpAny_pure h⟩))) htake)
  |exact aA (aA (m:=Builtin.Tuple.tupleExact _) (aT (aD (aD ⟨_,rfl,wpAny_pure h⟩)) htake))
  |exact aA (aA (m:=Builtin.Tuple.tupleExact _) (aT (aD ⟨_,rfl,wpAny_pure h⟩) htake))
end
end HT
namespace L2
open PySem PySem.Spec PyProof.Rows
abbrev TO:=St→Hp→(Option Int→Hp→Prop)→Prop
def PO(X:Cx)(e:Option Expr)(t:TO):Prop :=
 ∀(pins:List (Addr×Obj)) (s:Shared) (σ:St) (H:Hp) (Q:Option Int→Hp→Prop),Inv X pins σ H s→t σ H Q →
  wpAny (model X.prog X.w) X.A (evalPart e X.env) (fun u s'=>∃o H',Inv X pins σ H' s'∧IsPart u o∧Q o H') X.xe s
def Xh:TO:=fun _ H Q=>Q none H
def b7(t:TE):TO:=fun σ H Q=>t σ H fun x H1=>∃i,x=.int i∧Q (some i) H1
section
variable{X:Cx}{e:Expr}{te:TE}{lo hi:Option Expr}{tl th:TO}{pos p2:Pos}
theorem XS:PO X none Xh:=by
 intro pins s σ H Q I h;rw[evalPart_none];exact aD ⟨none,H,I,.none,h⟩
theorem W4(h:PE X e te):PO X (some e) (b7 te):=by
 intro pins s σ H Q I hw;rw[evalPart_some];refine Ar (h pins s σ H _ I hw) fun u s1 ⟨x,H1,I1,r1,q1⟩=>?_;obtain⟨i,rfl,q⟩:=q1;obtain⟨t,rfl⟩:=r1;exact⟨some i,H1,I1,.int i t,q⟩
def QQ(X:Cx)(r:V→Option Int→Option Int→Hp→VK→Prop):Prop :=
 ∀(pins:List (Addr×Obj)) (s:Shared) (σ:St) (H:Hp) (x:V) (v vl vu:Value) (lo hi:Option Int) (sl:Addr) (Q:VK),Inv X pins σ H s→RelV x v→s.heap.IsSliceOf sl vl vu .none→IsPart vl lo→IsPart vu hi→r x lo hi H Q →
  ∃T id,typeLookup (.type T) "__getitem__" = pure (some (.builtin id))∧s.TypeIs v T∧wpAny (model X.prog X.w) X.A (getItem v (.ref sl)) (EP X pins σ Q) X.xe s
theorem QQ.or{r r':V→Option Int→Option Int→Hp→VK→Prop}(h:QQ X r)(h':QQ X r'):QQ X (fun x lo hi H Q=>r x lo hi H Q∨r' x lo hi H Q):=by
 intro pins s σ H x v vl vu lo hi sl Q I rx hs pl pu q;rcases q with q|q
 ·exact h pins s σ H x v vl vu lo hi sl Q I rx hs pl pu q
 ·exact h' pins s σ H x v vl vu lo hi sl Q I rx hs pl pu q
def fV(r:V→Option Int→Option Int→Hp→VK→Prop)(te:TE)(tl th:TO):TE:=fun σ H Q=>te σ H fun x H1=>tl σ H1 fun l H2=>th σ H2 fun u H3=>r x l u H3 Q
theorem VV{r:V→Option Int→Option Int→Hp→VK→Prop}(hr:QQ X r)(he:PE X e te)(hl:PO X lo tl)(hu:PO X hi th):PE X (.Subscript e (.Slice lo hi none p2) pos) (fV r te tl th):=by
 intro pins s σ H Q I h;refine Subscript_ (Ar (he pins s σ H _ I h) fun v s1 ⟨x,H1,I1,r1,q1⟩=>?_);refine wpAny_Slice (Ar (hl pins s1 σ H1 _ I1 q1) fun vl s2 ⟨l,H2,I2,pl,q2⟩=>Ar (hu pins s2 σ H2 _ I2 q2) fun vu s3 ⟨u,H3,I3,pu,q3⟩=>?_);rw[evalPart_none];refine aD ?_;have I4:Inv X pins σ H3 {s3 with heap:=s3.heap.push { cls:=.type "slice",data:=.fields #[vl,vu,.none]} }:=I3.kept (t':=s3.toks) fun b ob q=>aE _ q;obtain⟨T,id,hT,ht,hg⟩:=hr pins {s3 with heap:=s3.heap.push { cls:=.type "slice",data:=.fields #[vl,vu,.none]} } σ H3 x v vl vu l u s3.heap.objs.size Q I4 r1 (Heap.IsSliceOf.new ..) pl pu q3;show wpAny (model X.prog X.w) X.A (subscriptTail e (.Slice lo hi none p2) v (.ref s3.heap.objs.size)) (EP X pins σ Q) X.xe {s3 with heap:=s3.heap.push { cls:=.type "slice",data:=.fields #[vl,vu,.none]} };exact tail_any (ops:=[.ref s3.heap.objs.size,v]) ht hT hg (by with_unfolding_all rfl)
def Kz(xs:List V)(lo hi:Option Int):List V:=(xs.drop (HT.BJ xs.length 0 lo)).take (HT.BJ xs.length xs.length hi-HT.BJ xs.length 0 lo)
theorem Lo(xs:List V)(lo hi:Option Int):(Kz xs lo hi).length≤xs.length:=by
 unfold Kz;rw[List.length_take,List.length_drop]
 lia
def fF(K:PySem.W.Frag):V→Option Int→Option Int→Hp→VK→Prop:=fun x lo hi H Q=>∃a xs,x=.ref a∧A9 K H a xs ∧
 ¬(HT.BJ xs.length 0 lo=0∧HT.BJ xs.length xs.length hi=xs.length)∧∀p,H p=none→Q (.ref p) (upd H p (.tup (Kz xs lo hi)))
theorem YX:QQ X (fF X.K):=by
 intro pins s σ H x v vl vu lo hi sl Q I rx hs pl pu h;obtain⟨a,xs,rfl,hx,hw,q⟩:=h;cases rx;obtain⟨its,r,ht,hz⟩:=I.tuple hx;have hlen:its.toArray.size=xs.length:=by rw[List.size_toArray];exact r.length.symm
 refine⟨"tuple",_,PyProof.Rows.slot_tuple_getitem.lookup,ht.typeIs,?_⟩;refine HT.Le ht hs pl pu (by rw[hlen];exact hw) ?_ (by rw[hlen];exact hz);rw[hlen];refine⟨.ref s.heap.objs.size,_,I.laid (t':=s.toks) (o:=.tup (Kz xs lo hi)) (fun b ob q=>aE _ q) (aH _) ?_,rfl,q _ (I.Aa.fresh (aH _))⟩;exact⟨af (Lo xs lo hi) hz,_,(r.drop (HT.BJ xs.length 0 lo)).take (HT.BJ xs.length xs.length hi-HT.BJ xs.length 0 lo),IsTup.new _ _⟩
theorem Vals.LJ{xs:List V}{us:List Value}(r:Vals xs us):us=[] ↔ xs=[]:=by
 cases r with
 |nil=>simp
 |cons _ _=>simp
end
def HS(n:Nat)(i:Int):Option Nat:=if 0≤i then(if i<n then some i.toNat else none) else if -(n:Int)≤i then some (i+n).toNat else none
def ED{α:Type}(xs:List α)(i:Int):Option α:=(HS xs.length i).bind fun j=>xs[j]?
theorem RP{n:Nat}{i:Int}{j:Nat}(h:HS n i=some j):seqIndex? i n=some j∧j<n∧-(n:Int)≤i∧i<n:=by
 unfold HS at h;by_cases h0:0≤i
 ·rw[if_pos h0]at h;by_cases h1:i<n
  ·rw[if_pos h1]at h;have e:i.toNat=j:=aS h;exact⟨by rw[seqIndex_of h0 h1,e],by lia,by lia,h1⟩
  ·rw[if_neg h1]at h;cases h
 ·rw[if_neg h0]at h;by_cases h1:-(n:Int)≤i
  ·rw[if_pos h1]at h;have e:(i+n).toNat=j:=aS h;exact⟨by rw[seqIndex_neg (by lia) h1,e],by lia,h1,by lia⟩
  ·rw[if_neg h1]at h;cases h
theorem NS{α:Type}{xs:List α}{i:Int}{v:α}(h:ED xs i=some v):∃j,seqIndex? i xs.length=some j∧xs[j]? = some v∧j<xs.length∧-(xs.length:Int)≤i∧i<xs.length:=by
 unfold ED at h;cases e:HS xs.length i with
 |none=>rw[e]at h;cases h
 |some j =>
  rw[e]at h;obtain⟨h1,h2,h3,h4⟩:=RP e;exact⟨j,h1,h,h2,h3,h4⟩
theorem RD{α:Type}{xs:List α}{j:Nat}{v:α}(h:xs[j]? = some v):ED xs (j:Int)=some v:=by
 have hj:j<xs.length:=(aG.mp h).1;have e:HS xs.length (j:Int)=some j:=by
  unfold HS;rw[if_pos (by lia),if_pos (by lia)];simp
 unfold ED;rw[e];exact h
def LH(b:Expr):Prop:=∀o i,subscripted b false o i=operate [o,i] (getItem o i)
def Mo(X:Cx)(r:R2):Prop :=
 ∀(value slice:Expr) (pins:List (Addr×Obj)) (s:Shared) (σ:St) (H:Hp) (x y:V) (v u:Value) (Q:VK),Inv X pins σ H s→RelV x v→RelV y u→r x y H Q →
  subscripted slice false v u=operate [v,u] (getItem v u)→wpAny (model X.prog X.w) X.A (subscriptTail value slice v u) (EP X pins σ Q) X.xe s
def eA(X:Cx)(id:String)(r:V→List V→Hp→VK→Prop):Prop :=
 ∀(pins:List (Addr×Obj)) (s:Shared) (σ:St) (H:Hp) (x:V) (xs:List V) (v:Value) (us:List Value) (Q:VK),Inv X pins σ H s→RelV x v→Vals xs us→r x xs H Q →
  wpAny (model X.prog X.w) X.A (call (.builtin id) (v::us)) (EP X pins σ Q) X.xe s
section
variable{X:Cx}{a b:Expr}{ta tb:TE}{pos:Pos}
theorem Mo.or{r r':R2}(h:Mo X r)(h':Mo X r'):Mo X (fun x y H Q=>r x y H Q∨r' x y H Q):=by
 intro value slice pins s σ H x y v u Q I rx ry q hs;rcases q with q|q
 ·exact h value slice pins s σ H x y v u Q I rx ry q hs
 ·exact h' value slice pins s σ H x y v u Q I rx ry q hs
theorem Cp{r:R2}(hr:Mo X r)(ha:PE X a ta)(hb:PE X b tb)(hs:LH b):PE X (.Subscript a b pos) (WB r ta tb):=by
 intro pins s σ H Q I h;exact Subscript_ (Vz ha hb I h fun v u s2 x y H2 I2 rx ry q=>hr a b pins s2 σ H2 x y v u Q I2 rx ry q (hs _ _))
def bR(K:PySem.W.Frag):R2:=fun x y H Q=>∃p xs i v,x=.ref p∧y=.int i∧A3 K H p xs∧ED xs i=some v∧Q v H
def Zj(K:PySem.W.Frag):R2:=fun x y H Q=>∃p xs i v,x=.ref p∧y=.int i∧A9 K H p xs∧ED xs i=some v∧Q v H
def Yz:R2:=fun x y H Q=>∃z i c,x=.str z∧y=.int i∧z.length≤sizeLine∧ED z.cps.toList i=some c∧Q (.str ⟨#[c]⟩) H
theorem LV:Mo X (bR X.K):=by
 intro value slice pins s σ H x y v u Q I rx ry h hs;obtain⟨p,xs,i,z,rfl,rfl,hq,he,q⟩:=h;cases rx;obtain⟨t,rfl⟩:=ry;obtain⟨its,r,pl,hz⟩:=I.list hq;obtain⟨j,h1,h2,h3,h4,h5⟩:=NS he;obtain⟨w,ew,rw'⟩:=r.get h2;have hl:=r.length;have hn:=JZ;have fin:EP X pins σ Q w s:=⟨z,H,I,rw',q⟩;by_cases h0:0≤i
 ·have hj:i.toNat=j:=by
   rw[seqIndex_of h0 h5]at h1;exact aS h1
  exact item_listR pl.isList h0 (by lia) (by rw[hj];simpa using ew) fin hs
 ·have hj:(i+(its.toArray.size:Int)).toNat=j:=by
   rw[seqIndex_neg (by lia) h4]at h1;rw[List.size_toArray,←hl];exact aS h1
  exact subscriptTail_builtinR (x:=w) pl.isList.typeIs slot_list_getitem.lookup
   (wpAny_getItem_list_neg (Q:=fun r s'=>r=w∧EP X pins σ Q r s') pl.isList (by lia) (by rw[List.size_toArray]<;>lia) (by lia) (by rw[hj];simpa using ew) ⟨rfl,fin⟩) hs
theorem Ci:Mo X (Zj X.K):=by
 intro value slice pins s σ H x y v u Q I rx ry h hs;obtain⟨p,xs,i,z,rfl,rfl,hq,he,q⟩:=h;cases rx;obtain⟨t,rfl⟩:=ry;obtain⟨its,r,pl,hz⟩:=I.tuple hq;obtain⟨j,h1,h2,h3,h4,h5⟩:=NS he;obtain⟨w,ew,rw'⟩:=r.get h2;have hl:=r.length;have hn:=JZ;have fin:EP X pins σ Q w s:=⟨z,H,I,rw',q⟩;exact subscriptTail_builtinR (x:=w) pl.typeIs slot_tuple_getitem.lookup
  (getItem_tuple (j:=j) (Q:=fun r s'=>r=w∧EP X pins σ Q r s') pl (by lia) (by lia) (by rw[List.size_toArray,←hl];exact h1) (by simpa using ew) ⟨rfl,fin⟩) hs
theorem Zc:Mo X Yz:=by
 intro value slice pins s σ H x y v u Q I rx ry h hs;obtain⟨z,i,c,rfl,rfl,hz,he,q⟩:=h;obtain⟨t,rfl⟩:=rx;obtain⟨t',rfl⟩:=ry;obtain⟨j,h1,h2,h3,h4,h5⟩:=NS he;have hl:z.cps.toList.length=z.length:=by simp[Str.length]
 rw[hl]at h1 h4 h5;have hn:=JZ;exact tail_any (typeIs_str s z t) slot_str_getitem.lookup (getItem_str (c:=c) (by
  have e1:decide (i < -(2^63:Int))=false:=aO (by lia);have e2:decide (i ≥ 2^63)=false:=aO (by lia);rw[e1,e2,Bool.or_false]) (by rw[h1];simpa using h2) ⟨.str ⟨#[c]⟩,H,I.tok _,⟨_,rfl⟩,q⟩) hs
def fk(K:PySem.W.Frag):R2:=fun x y H Q=>bR K x y H Q∨Zj K x y H Q∨Yz x y H Q
theorem Z6:Mo X (fk X.K):=LV.or (Ci.or Zc)
theorem SO(its:List Value)(n j:Nat)(u:Value):Obj.mapSeq (·.setIfInBounds j u) { cls:=.type "list",data:=.seq its.toArray n}={ cls:=.type "list",data:=.seq (its.set j u).toArray n}:=by
 simp[Obj.mapSeq]
theorem Inv.lst{pins:List (Addr×Obj)}{σ:St}{H:Hp}{s:Shared}{p:Addr}{xs:List V}(I:Inv X pins σ H s)(h:H p=some (.lst xs)) :
  ∃(its:List Value) (n:Nat),Vals xs its∧s.heap.get? p=some { cls:=.type "list",data:=.seq its.toArray n}∧xs.length≤sizeLine:=by
 obtain⟨z,its,n,r,e⟩:=I.Aa p _ h;exact⟨its,n,r,e,z⟩
theorem Inv.ZK{pins:List (Addr×Obj)}{σ:St}{H:Hp}{s:Shared}{p:Addr}{xs ys:List V}{its its':List Value}{n n':Nat}{f:Obj→Obj}(I:Inv X pins σ H s)(h:H p=some (.lst xs))
 (ho:s.heap.get? p=some { cls:=.type "list",data:=.seq its.toArray n})(hf:f { cls:=.type "list",data:=.seq its.toArray n}={ cls:=.type "list",data:=.seq its'.toArray n'})(r:Vals ys its')(hz:ys.length≤sizeLine)(t:Nat) :
  Inv X pins σ (upd H p (.lst ys)) {s with heap:=s.heap.update p f,toks:=t}:=by
 have e:(s.heap.update p f).get? p=some { cls:=.type "list",data:=.seq its'.toArray n'}:=by
  rw[Heap.get?_update_self f ho (by rw[hf]<;>rfl),hf]
 refine I.write (x:=p) (e:=p) (by rw[h];trivial) (.inl rfl) (fun b u hb q=>(Heap.get?_update_other _ _ (Ne.symm hb)).trans q) ⟨_,e⟩ ?_;exact⟨hz,its',n',r,e⟩
def WS:V→V→V→Hp→(Hp→Prop)→Prop:=fun o i v H Q=>∃p xs k j,o=.ref p∧i=.int k∧H p=some (.lst xs)∧HS xs.length k=some j∧Q (upd H p (.lst (xs.set j v)))
theorem set_list:VX X WS:=by
 intro pins s σ H o i v ov iv u Q I ro ri rv h;obtain⟨p,xs,k,j,rfl,rfl,hp,hj,q⟩:=h;cases ro;obtain⟨t,rfl⟩:=ri;obtain⟨its,n,r,ho,hz⟩:=I.lst hp;obtain⟨h1,h2,h3,h4⟩:=RP hj;have hl:=r.length;have hn:=JZ;have I':Inv X pins σ (upd H p (.lst (xs.set j v))) {s with heap:=s.heap.update p (Obj.mapSeq (·.setIfInBounds j u))} :=
  I.ZK hp ho (SO its n j u) (r.set rv j) (by rw[List.length_set];exact hz) s.toks
 by_cases h0:0≤k
 ·have hk:k.toNat=j:=by
   rw[seqIndex_of h0 h4]at h1;exact aS h1
  exact PySem.W.ki_setAt ho h0 (by lia) (by rw[List.size_toArray,←hl];exact h4) (by rw[hk];exact⟨_,I',q⟩)
 ·have hk:(k+(its.toArray.size:Int)).toNat=j:=by
   rw[seqIndex_neg (by lia) h3]at h1;rw[List.size_toArray,←hl];exact aS h1
  exact PySem.W.ki_setBack ho (by lia) (by rw[List.size_toArray,←hl];exact h3) (by lia) (by rw[hk];exact⟨_,I',q⟩)
theorem Pl(lo hi:Option Int)(n:Nat):(sliceBounds lo hi none n).1=((HT.BJ n 0 lo:Nat):Int)∧(sliceBounds lo hi none n).2.1=((HT.BJ n n hi:Nat):Int)∧(sliceBounds lo hi none n).2.2=1:=by
 refine⟨?_,?_,rfl⟩
 ·cases lo with
  |none=>simp[sliceBounds,HT.BJ]
  |some i =>
   simp only[sliceBounds,HT.BJ,Option.getD_none,show(1:Int) > 0 by decide,if_true];by_cases h:i<0
   ·simp only[h,if_true]<;>lia
   ·simp only[h,if_false]<;>lia
 ·cases hi with
  |none=>simp[sliceBounds,HT.BJ]
  |some i =>
   simp only[sliceBounds,HT.BJ,Option.getD_none,show(1:Int) > 0 by decide,if_true];by_cases h:i<0
   ·simp only[h,if_true]<;>lia
   ·simp only[h,if_false]<;>lia
theorem Oa(its:List Value)(lo hi:Option Int):slicePick its.toArray lo hi none=((its.drop (HT.BJ its.length 0 lo)).take (HT.BJ its.length its.length hi-HT.BJ its.length 0 lo)).toArray:=by
 obtain⟨h1,h2,h3⟩:=Pl lo hi its.toArray.size;unfold slicePick;rw[h1,h2,h3];simp only[sliceRange_one,pick_run,List.size_toArray]<;>rfl
def eN(K:PySem.W.Frag):V→Option Int→Option Int→Hp→VK→Prop:=fun x lo hi H Q=>∃a xs,x=.ref a∧A3 K H a xs∧∀p,H p=none→Q (.ref p) (upd H p (.lst (Kz xs lo hi)))
theorem Xu:QQ X (eN X.K):=by
 intro pins s σ H x v vl vu lo hi sl Q I rx hs pl pu h;obtain⟨a,xs,rfl,hx,q⟩:=h;cases rx;obtain⟨its,r,ht,hz⟩:=I.list hx;have hlen:=r.length;refine⟨"list",_,slot_list_getitem.lookup,ht.isList.typeIs,?_⟩;refine wpAny_getItem_list_slice ht.isList hs pl pu .none (by simp) ?_ (by rw[List.size_toArray]<;>lia);rw[Oa,←hlen];refine⟨.ref s.heap.objs.size,_,I.laid (t':=s.toks) (o:=.lst (Kz xs lo hi)) (fun b ob q=>aE _ q) (aH _) ?_,rfl,q _ (I.Aa.fresh (aH _))⟩;exact⟨af (Lo xs lo hi) hz,_,0,(r.drop (HT.BJ xs.length 0 lo)).take (HT.BJ xs.length xs.length hi-HT.BJ xs.length 0 lo),Heap.get?_push_size _ rfl⟩
theorem BQ:GC X (.builtin "len") (fun xs H Q=>∃p ys,xs=[.ref p]∧(A3 X.K H p ys∨A9 X.K H p ys)∧Q (.int ys.length) H):=by
 intro pins s σ H xs us Q I r h;obtain⟨p,ys,rfl,hq,q⟩:=h;obtain⟨u,rfl,rx⟩:=vals1 r;cases rx;have hn:=JZ;rcases hq with hq|hq
 ·obtain⟨its,r',pl,hz⟩:=I.list hq;have hlen:=r'.length;exact Calls.call_len_list pl.isList (by simp only[List.size_toArray]<;>lia) ⟨.int ys.length,H,I.tok _,⟨s.toks+1,by rw[List.size_toArray,hlen]⟩,q⟩
 ·obtain⟨its,r',pl,hz⟩:=I.tuple hq;have hlen:=r'.length;exact len_tuple pl (by simp only[List.size_toArray]<;>lia) ⟨.int ys.length,H,I.tok _,⟨s.toks+1,by rw[List.size_toArray,hlen]⟩,q⟩
theorem PF:GC X (.type "list") (fun xs H Q=>∃p ys,xs=[.ref p]∧(A3 X.K H p ys∨A9 X.K H p ys)∧∀l,H l=none→Q (.ref l) (upd H l (.lst ys))):=by
 intro pins s σ H xs us Q I r h;obtain⟨p,ys,rfl,hq,q⟩:=h;obtain⟨u,rfl,rx⟩:=vals1 r;cases rx;have fin:∀(its:List Value),Vals ys its→ys.length≤sizeLine→∀(h':Heap) (c':Nat),(∀b o',s.heap.get? b=some o'→h'.get? b=some o') →
   h'.get? s.heap.objs.size=some { cls:=.type "list",dict:=none,data:=.seq its.toArray c',slots:=#[]}→EP X pins σ Q (.ref s.heap.objs.size) {s with heap:=h'}:=fun its r' hz h' c' kp e =>
  ⟨.ref s.heap.objs.size,_,I.laid (t':=s.toks) kp (aH _) (show Bb X.prog X.w _ h' _ (.lst ys) from⟨hz,its,c',r',e⟩),rfl,q _ (I.Aa.fresh (aH _))⟩
 rcases hq with hq|hq
 ·obtain⟨its,r',pl,hz⟩:=I.list hq;have hlen:=r'.length;obtain⟨o,ho,hc,n,hd⟩:=pl.isList;exact call_list_seq p (.inl rfl) ho hc hd (fun h' c' kp e=>fin its r' hz h' c' kp e) (by simp only[List.size_toArray]<;>lia)
 ·obtain⟨its,r',pl,hz⟩:=I.tuple hq;have hlen:=r'.length;obtain⟨o,ho,hc,n,hd⟩:=pl;exact call_list_seq p (.inr rfl) ho hc hd (fun h' c' kp e=>fin its r' hz h' c' kp e) (by simp only[List.size_toArray]<;>lia)
theorem Ob:GC X (.type "tuple") (fun xs H Q=>∃p ys,xs=[.ref p]∧((A3 X.K H p ys∧∀l,H l=none→Q (.ref l) (upd H l (.tup ys)))∨(A9 X.K H p ys∧Q (.ref p) H))):=by
 intro pins s σ H xs us Q I r h;obtain⟨p,ys,rfl,h⟩:=h;obtain⟨u,rfl,rx⟩:=vals1 r;cases rx;rcases h with ⟨hq,q⟩|⟨hq,q⟩
 ·obtain⟨its,r',pl,hz⟩:=I.list hq;have hlen:=r'.length;refine call_tuple_list pl.isList (fun h' kp=>?_) (by simp only[List.size_toArray]<;>lia);have I1:Inv X pins σ H {s with heap:=h'}:=I.kept (t':=s.toks) kp;have I2:Inv X pins σ (upd H h'.objs.size (.tup ys)) {s with heap:=h'.push { cls:=.type "tuple",data:=.seq its.toArray} } :=
   I1.laid (t':=s.toks) (fun b o e=>aE _ e) (aH _) (show Bb X.prog X.w _ _ _ (.tup ys) from⟨hz,its,r',IsTup.new _ _⟩)
  exact⟨.ref h'.objs.size,_,I2,rfl,q _ (I1.Aa.fresh (aH _))⟩
 ·obtain⟨its,r',pl,hz⟩:=I.tuple hq;exact call_tuple_same pl ⟨.ref p,H,I,rfl,q⟩
def dj(K:PySem.W.Frag)(T:String)(x:V)(H:Hp):Prop:=match x with
 |.str _=>T = "str"
 |.int _=>T = "int"
 |.ref p=>(T = "list" ∧ ∃xs,A3 K H p xs)∨(T = "tuple" ∧ ∃o,K.lookup p=some o∧o.cls=.type "tuple" ∧ o.dict=none) ∨
   (T = "dict" ∧((∃kvs,H p=some (.dK kvs))∨∃kvs,H p=some (.dT kvs)))∨(T = "set" ∧ ∃S n,H p=some (.set S n))
 |_=>False
theorem ZM{pins:List (Addr×Obj)}{σ:St}{H:Hp}{s:Shared}{T:String}{x:V}{v:Value}(I:Inv X pins σ H s)(r:RelV x v)(ty:dj X.K T x H) :
  s.TypeIs v T∧∀a,v=.ref a→∃ob,s.heap.get? a=some ob∧ob.dict=none:=by
 cases x with
 |str z =>
  obtain⟨t,rfl⟩:=r;cases (show T = "str" from ty);exact⟨typeIs_str s z t,fun _ e=>nomatch e⟩
 |int i =>
  obtain⟨t,rfl⟩:=r;cases (show T = "int" from ty);exact⟨typeIs_int s i t,fun _ e=>nomatch e⟩
 |ref p =>
  cases r;rcases ty with ⟨rfl,xs,hq⟩|⟨rfl,o,hk,hc,hd⟩|⟨rfl,hk⟩|⟨rfl,S,n,hk⟩
  ·obtain⟨its,_,pl,_⟩:=I.list hq;refine⟨pl.isList.typeIs,fun a e=>?_⟩;cases e;obtain⟨o,n,e,c,hd,_⟩:=pl;exact⟨o,e,hd⟩
  ·refine⟨⟨o,I.EG p o hk,hc⟩,fun a e=>?_⟩;cases e;exact⟨o,I.EG _ o hk,hd⟩
  ·have z:∃o,s.heap.get? p=some o∧o.ExactDict:=by
    rcases hk with ⟨kvs,hk⟩|⟨kvs,hk⟩
    ·obtain⟨_,_,_,_,o,_,_,e,ex,_⟩:=I.Aa p _ hk;exact⟨o,e,ex⟩
    ·obtain⟨_,_,_,_,o,_,_,e,ex,_⟩:=I.Aa p _ hk;exact⟨o,e,ex⟩
   obtain⟨o,e,ex⟩:=z;refine⟨⟨o,e,ex.1⟩,fun a e2=>?_⟩;cases e2;exact⟨o,e,ex.2.1⟩
  ·obtain⟨o,_,_,_,e,ex,_⟩:=I.Aa p _ hk;refine⟨⟨o,e,ex.1⟩,fun a e2=>?_⟩;cases e2;exact⟨o,e,ex.2.1⟩
 |_=>exact False.elim ty
def ZC(K:PySem.W.Frag)(T:String)(r:V→List V→Hp→VK→Prop)(to:TE)(t:TA):TE:=fun σ H Q=>to σ H fun x H1=>dj K T x H1∧t σ H1 fun xs H2=>r x xs H2 Q
variable{o e:Expr}{es:List Expr}{to:TE}{t:TA}{name:Str}{apos cpos:Pos}{T id:String}{r:V→List V→Hp→VK→Prop}
theorem Jr(pa:PlainAttrs T)(slot:Slot T name id)(hty:typeOf (.builtin id)=pure (.type "method_descriptor"))(hm:eA X id r)(ho:PE X o to)(ha:PA X (e::es) t)
 (hbase:attributeBase o name X.env (eval o X.env)=eval o X.env:=by rfl)
 (hfew:((backTo cpos (starEach (e::es) X.env)).all (fun x=>!x.1)&&(backToKw cpos (keywordEach [] X.env)).all (fun x=>x.1.isSome)
   && decide ((e::es).length+([]:List Keyword).length+(if([]:List Keyword).isEmpty then 0 else 1)<30))=true:=by rfl)
 (hline:(apos.endLine==cpos.line)=true:=by rfl)(hs:starEach (e::es) X.env=(false,eval e X.env)::starEach es X.env:=by rfl)(hplain:(backTo cpos (starEach es X.env)).any (·.1)=false:=by rfl) :
  PE X (.Call (.Attribute o name apos) (e::es) [] cpos) (ZC X.K T r to t):=by
 intro pins s σ H Q I h;refine wpAny_Call_method_late hbase hfew hline rfl (Ar (ho pins s σ H _ I h) fun v s1 ⟨x,H1,I1,r1,ty,q1⟩=>?_);obtain⟨h1,h2⟩:=ZM I1 r1 ty;refine⟨T,id,pa,slot,hty,h1,h2,?_⟩;have hA:=ha cpos pins s1 σ H1 _ I1 q1;rw[hs]at hA ⊢;refine Calls.callWith_builtin (by show(false||(backTo cpos (starEach es X.env)).any (·.1))=false;rw[hplain]<;>rfl) (Calls.evalArgs_plain ?_);exact Ar hA fun us s2 ⟨vs,H2,I2,r2,q2⟩=>hm pins s2 σ H2 x vs v us Q I2 r1 r2 q2
end
def dq(X:Cx)(id:String)(r:V→List V→Hp→VK→Prop):Prop :=
 ∀(pins:List (Addr×Obj)) (s:Shared) (σ:St) (H:Hp) (x:V) (xs:List V) (v:Value) (us:List Value) (Q:VK),Inv X pins σ H s→RelV x v→Vals xs us→r x xs H Q →
  wpAny (model X.prog X.w) X.A (call (.builtin id) (v::us)) (EP X pins σ Q) X.xe s
theorem Vals.one:∀ {x:V} {us:List Value},Vals [x] us→∃u,us=[u]∧RelV x u
 |_,_,.cons r .nil=>⟨_,rfl,r⟩
theorem Vals.two:∀ {x y:V} {us:List Value},Vals [x,y] us→∃u v,us=[u,v]∧RelV x u∧RelV y v
 |_,_,_,.cons r (.cons q .nil)=>⟨_,_,rfl,r,q⟩
theorem Vals.reverse{xs:List V}{us:List Value}(h:Vals xs us):Vals xs.reverse us.reverse:=by
 induction h with
 |nil=>exact .nil
 |cons r t ih=>rw[List.reverse_cons,List.reverse_cons];exact Vals.append ih (.cons r .nil)
theorem Vals.rep{xs:List V}{us:List Value}(h:Vals xs us):∀k:Nat,Vals (List.replicate k xs).flatten (List.replicate k us).flatten
 |0=>.nil
 |k+1=>by
  rw[List.replicate_succ,List.replicate_succ,List.flatten_cons,List.flatten_cons];exact Vals.append h (Vals.rep h k)
theorem foldl_rep(its:List Value):∀(k:Nat) (acc:List Value),
  List.foldl (fun x1 x2=>x1++x2) acc.toArray (List.replicate k its.toArray)=(acc++(List.replicate k its).flatten).toArray
 |0,acc=>by simp
 |k+1,acc=>by
  have e:acc.toArray++its.toArray=(acc++its).toArray:=by simp
  have e2:(acc++its)++(List.replicate k its).flatten=acc++(List.replicate (k+1) its).flatten:=by
   rw[List.replicate_succ,List.flatten_cons,List.append_assoc]
  rw[←e2,←foldl_rep its k (acc++its),←e,List.replicate_succ,List.foldl_cons]
section
variable{X:Cx}{pins:List (Addr×Obj)}{σ:St}{H:Hp}{s:Shared}{l:Addr}{xs ys:List V}
theorem Inv.bU{its its':List Value}{n:Nat}{f:Array Value→Array Value}{t':Nat}(I:Inv X pins σ H s)(hH:H l=some (.lst xs))
 (e:s.heap.get? l=some { cls:=.type "list",data:=.seq its.toArray n})(hf:f its.toArray=its'.toArray)(hv:Vals ys its')(hz:ys.length≤sizeLine) :
  Inv X pins σ (upd H l (.lst ys)) {s with heap:=s.heap.update l (Obj.mapSeq f),toks:=t'}:=by
 have q:=PySem.IsL.update e f;rw[hf]at q;refine I.write (x:=l) (e:=l) (by rw[hH];exact trivial) (.inl rfl) (fun b' u hb hu=>(Heap.get?_update_other s.heap (Obj.mapSeq f) (Ne.symm hb)).trans hu) ⟨_,q⟩ ?_;exact⟨hz,its',_,hv,q⟩
theorem Inv.Zd{its:List Value}{t':Nat}(I:Inv X pins σ H s)(hv:Vals ys its)(hz:ys.length≤sizeLine) :
  Inv X pins σ (upd H s.heap.objs.size (.lst ys)) {s with heap:=s.heap.push { cls:=.type "list",data:=.seq its.toArray},toks:=t'} :=
 I.laid (fun _ _ q=>aE _ q) (aH _) ⟨hz,its,0,hv,Heap.get?_push_size _ rfl⟩
theorem Inv.fresh(I:Inv X pins σ H s):H s.heap.objs.size=none:=I.Aa.fresh (aH _)
theorem Inv.Nc(I:Inv X pins σ H s)(hH:H l=some (.lst xs)):xs.length≤sizeLine∧∃(its:List Value) (n:Nat),Vals xs its∧xs.length=its.length∧s.heap.get? l=some { cls:=.type "list",data:=.seq its.toArray n}:=by
 obtain⟨z,its,n,r,e⟩:=I.Aa l _ hH;exact⟨z,its,n,r,r.length,e⟩
theorem QR{n:Nat}(h:n≤sizeLine):Builtin.List.listTooLong n=false:=by
 unfold Builtin.List.listTooLong;exact aO (by lia)
end
section
variable{X:Cx}
def RB:V→List V→Hp→VK→Prop:=fun x vs H Q=>∃l xs y,x=.ref l∧vs=[y]∧H l=some (.lst xs)∧xs.length<sizeLine∧Q .BR (upd H l (.lst (xs++[y])))
theorem GO:dq X "list.append" RB:=by
 intro pins s σ H x vs v us Q I rx rv h;obtain⟨l,xs,y,rfl,rfl,hH,hz,q⟩:=h;cases rx;obtain⟨u,rfl,ru⟩:=rv.one;obtain⟨z,its,n,r,hl,e⟩:=I.Nc hH;refine call_meets F.slot_list_append ⟨_,e,rfl⟩ F.entry_list_append (F.args_list_append_2 _ _) (PySem.list_append l its.toArray n u (by rw[List.size_toArray];lia)) ⟨e,?_⟩;refine⟨.BR,_,I.bU (its':=its++[u]) hH e (by simp) (r.append (.cons ru .nil)) ?_,rfl,q⟩;rw[List.length_append,List.length_singleton]
 lia
def Q7:V→List V→Hp→VK→Prop:=fun x vs H Q=>∃l b xs zs,x=.ref l∧vs=[.ref b]∧H l=some (.lst xs)∧H b=some (.lst zs)∧xs.length+zs.length≤sizeLine∧Q .BR (upd H l (.lst (xs++zs)))
theorem OM:dq X "list.extend" Q7:=by
 intro pins s σ H x vs v us Q I rx rv h;obtain⟨l,b,xs,zs,rfl,rfl,hH,hB,hz,q⟩:=h;cases rx;obtain⟨u,rfl,ru⟩:=rv.one;cases ru;obtain⟨z,its,n,r,hl,e⟩:=I.Nc hH;obtain⟨z2,its2,n2,r2,hl2,e2⟩:=I.Nc hB;have hsz:its.toArray.size+its2.toArray.size≤sizeLine:=by rw[List.size_toArray,List.size_toArray];lia
 have hlong:¬(!its.toArray.isEmpty&&Builtin.List.listTooLong (its.toArray.size+its2.toArray.size))=true:=by
  rw[QR hsz,Bool.and_false];exact aK
 refine call_meets F.slot_list_extend ⟨_,e,rfl⟩ F.entry_list_extend (F.args_list_extend_2 _ _)
  (AutoSeq1.list_extend_list_list_0 l its.toArray n b its2.toArray n2 hlong (by rw[List.size_toArray];lia) (by lia)) ⟨e,e2,?_⟩
 refine⟨.BR,_,I.bU (its':=its++its2) hH e (by simp) (r.append r2) ?_,rfl,q⟩;rw[List.length_append]
 lia
def eO:R2:=fun x y H Q=>∃l b xs zs,x=.ref l∧y=.ref b∧H l=some (.lst xs)∧H b=some (.lst zs)∧xs.length+zs.length≤sizeLine∧∀p,H p=none→Q (.ref p) (upd H p (.lst (xs++zs)))
theorem TF:CH X (binaryOp .Add) eO:=by
 intro pins s σ H x y v u Q I rx ry h;obtain⟨l,b,xs,zs,rfl,rfl,hH,hB,hz,q⟩:=h;cases rx;cases ry;obtain⟨z,its,n,r,hl,e⟩:=I.Nc hH;obtain⟨z2,its2,n2,r2,hl2,e2⟩:=I.Nc hB;refine PySem.P.add_list e e2 ?_ (by rw[List.size_toArray,List.size_toArray];lia);have ea:its.toArray++its2.toArray=(its++its2).toArray:=by simp
 rw[ea];exact⟨.ref _,_,I.Zd (t':=s.toks) (r.append r2) (by rw[List.length_append];lia),rfl,q _ I.fresh⟩
def eB:R2:=fun x y H Q=>∃l k xs,x=.ref l∧y=.int k∧H l=some (.lst xs)∧-(2^63)≤k∧k<2^63∧xs.length*k.toNat≤sizeLine ∧
 ∀p,H p=none→Q (.ref p) (upd H p (.lst (List.replicate k.toNat xs).flatten))
theorem len_rep{α:Type}(xs:List α)(k:Nat):(List.replicate k xs).flatten.length=k*xs.length:=by
 induction k with
 |zero=>simp
 |succ k ih=>rw[List.replicate_succ,List.flatten_cons,List.length_append,ih,Nat.succ_mul,Nat.add_comm]
theorem UG:CH X (binaryOp .Mult) eB:=by
 intro pins s σ H x y v u Q I rx ry h;obtain⟨l,k,xs,rfl,rfl,hH,h1,h2,hz,q⟩:=h;cases rx;obtain⟨t,rfl⟩:=ry;obtain⟨z,its,n,r,hl,e⟩:=I.Nc hH;have hlen:its.toArray.size*k.toNat≤sizeLine:=by rw[List.size_toArray,←hl];exact hz
 have hcap:¬its.toArray.size*k.toNat > (2^63-1) / 8:=by
  have:(sizeLine:Nat)≤(2^63-1) / 8:=by decide
  lia
 have hfit:¬(!Builtin.List.listFitsIndex k)=true:=by
  rw[fitsIndex_both h1 h2];exact aK
 have hlong:¬Builtin.List.listTooLong (its.toArray.size*k.toNat)=true:=by
  rw[QR hlen];exact aK
 have hnew:List.foldl (fun x1 x2=>x1++x2) #[] (List.replicate (if its.toArray.isEmpty=true then 0 else k.toNat) its.toArray)=(List.replicate k.toNat its).flatten.toArray:=by
  have f0:∀m:Nat,List.foldl (fun x1 x2=>x1++x2) #[] (List.replicate m its.toArray)=(List.replicate m its).flatten.toArray:=fun m=>by
   have:=foldl_rep its m [];rw[List.nil_append]at this;exact this
  rw[f0];cases its with
  |nil=>simp
  |cons a r'=>rw[if_neg (by simp)]
 refine wpAny_binaryOp_repeat_ref (T := "list") (U := "int") (by decide) ⟨_,e,rfl⟩ (fun s'=>typeIs_int s' k t) noFill_list_mul F.fills_int_mul F.slot_int_rmul repeat_list F.slot_int_index.lookup
  (call_meets F.slot_int_rmul (typeIs_int s k t) F.entry_int_rmul (F.args_int_rmul_2 _ _) (int___rmul___int_list k t l its.toArray n)
   ⟨e,rfl,⟨_,e,rfl⟩,call_meets F.slot_list_mul ⟨_,e,rfl⟩ F.entry_list_mul (F.args_list_mul_2 _ _) (AutoListH.list___mul___list_int_3 l its.toArray n k t hfit hcap hlong) ⟨e,?_⟩⟩)
 rw[hnew];exact⟨.ref _,_,I.Zd (t':=s.toks) (r.rep k.toNat) (by rw[len_rep,Nat.mul_comm];exact hz),rfl,q _ I.fresh⟩
end
end L2
namespace Att
open PySem PySem.W PySem.Calls PyProof.Rows
theorem NB{P:Params}{h:Heap}:∀(ns:List Int) (vs:List Value),WellAll P h vs (ns.map WData.int)→IntsAre vs ns:=by
 intro ns
 induction ns with
 |nil =>
  intro vs w;rw[List.map_nil]at w;cases w;exact .nil
 |cons n ns ih =>
  intro vs w;rw[List.map_cons]at w;cases w with
  |cons a b =>
   cases a;exact .cons _ _ (ih _ b)
theorem UM{l:OpenLaw}{n:Nat}(hn:l.most=some n){P:Params}{h:Heap}{args:List WData}{vals:List Value}
 (hpre:l.row.toRowW.claim.pre args=true)(hwl:WellAll P h vals args) :
  ∃a vs ns,vals=[Value.ref a]∧args=[WData.list (ns.map WData.int)]∧h.get? a=some { cls:=.type "list",data:=.seq vs.toArray}∧IntsAre vs ns∧ns.length≤n:=by
 have hsh:WShape.hasAll [] args [.list .int]=true:=(pre_splitW hpre).1;have hc:l.pre.holds [] { args:=args}=true:=(pre_splitW hpre).2;obtain⟨d,r,rfl,h1,h2⟩:=hasAllW_cons hsh;obtain rfl:=hasAllW_nil h2;obtain⟨xs,rfl,h3⟩:=hasW_list h1;obtain⟨ns,rfl⟩:=items_int h3;have hlen:ns.length≤n:=by
  unfold OpenLaw.pre at hc;have h4:(WTm.not (.lt (.lit (.int (n:Int))) (.len (.arg 0)))).holds [] { args:=[.list (ns.map .int)]}=true:=by
   have h4:=(holds_andW hc).1;rw[hn]at h4;exact h4
  have h5:=condW_of h4 (w_not (w_lt w_lit (w_len_list (w_arg rfl))));rw[List.length_map]at h5;refine Nat.le_of_not_lt fun q=>?_;have q':(n:Int)<((ns.length:Nat):Int):=by lia
  first
   |(rw[decide_eq_true q']at h5;exact absurd h5 (by decide))
   |(simp at h5;lia)
 cases hwl with
 |cons w1 w2 =>
  cases w2;cases w1 with
  |list ho hall=>exact⟨_,_,ns,rfl,rfl,ho,NB ns _ hall,hlen⟩
theorem Sx(l:OpenLaw)(args:List WData):l.row.toRowW.claim.post args (.bool true) args=true :=
 postW_of (r:=l.row.toRowW) (X:=(true==true))
  (show WShape.has [] (.bool true) .bool=true by first|rfl|decide|simp[WShape.has,WShape.arms,WShape.armsAll])
  (show(WTm.eq .res (.lit (.bool true))).value [] { args:=args,res:=some (.bool true),after:=args}=some (.bool (true==true)) from w_eq_bool (w_res rfl) w_lit) rfl
theorem Qg{l:OpenLaw}{n:Nat}{q:Program}{loose:List Str}{XP:(Str→Option Value)→Heap→Prop}{YP:World→Heap→Prop}{d:DefRec}
 (hn:l.most=some n)(hdf:d.params.defaults=[])
 (call:∀(w:World) (s₀ s₁:Shared) (mg mb:Str→Option Value) (fa:Addr) (o:Obj) (pm cd doc:Value) (a:Addr) (vs:List Value) (ns:List Int),
   Ground q loose [] XP w s₀ mg mb s₁.heap→YP w s₁.heap →
   s₁.heap.get? fa=some o→o.data=.func (docDef d.name d.params d.body d.scope pm cd doc)→s₁.heap.CodeRec cd d.name→mg d.name=some (.ref fa) →
   s₁.heap.get? a=some { cls:=.type "list",data:=.seq vs.toArray}→IntsAre vs ns→ns.length≤n→s₁.gens=#[] →
   codeAny (model l.prog w) callerA (.call (.ref fa) ⟨[.ref a],[]⟩) (fun r s'=>r=.ok (.ret (.bool true))∧OldK s₁.heap s'.heap∧s'.os=s₁.os∧AllBare s'.gens) s₁) :
  WalkO q loose XP YP l.row.toRowW d [] (fun f vs=>PySem.call f vs):=by
 intro w s₀ s₁ mg mb G Y fa o pm cd doc dV kV ho hd hcd hD hmg hg args vals as hpre hlay hrd hwl hlo;obtain rfl:dV=.none:=Dflts.none hD hdf;obtain rfl:kV=.none:=Dflts.noKw hD;obtain⟨a,vs,ns,rfl,rfl,hobj,hints,hlen⟩:=UM hn hpre hwl;refine enter_call (codeAny_mono (call w s₀ s₁ mg mb fa o pm cd doc a vs ns G Y ho (fd_plain hd) hcd hmg hobj hints hlen hg) fun r s' hq=>?_);obtain⟨rfl,h2,h3,h4⟩:=hq;exact⟨.inl ⟨.bool true,.bool true,[],rfl,fun _=>rfl,.bool true,Sx l _,fun _=>⟨List.Pairwise.nil,fun _ hm=>(nomatch hm)⟩⟩,h2,h3,h4⟩
end Att
namespace L2
open PySem PySem.Spec PyProof.Rows
theorem OB:∀ {vs:List Value} {ns:List Int},IntsAre vs ns→Vals (ns.map V.int) vs
 |_,_,.nil=>.nil
 |_,_,.cons n t h=>.cons ⟨t,rfl⟩ (OB h)
end L2
namespace L2
open PySem PySem.Spec PyProof.Rows
abbrev A2:Fs:=fun _ _ _ _ _ _=>False
abbrev E0:XK:=fun _ _ _=>False
theorem dB{X:Cx}:Passes A2 X E0:=fun _ _ _ _ _ _ _ h=>h.elim
structure N7(K:PySem.W.Frag)(x qual:Str)(st:Stmt)(f:Addr)(fd:FuncData):Prop where
 ex:∃(oc:Value) (od:Option Addr) (kV doc pm:Value) (an:Option Addr) (cdv ct:Value) (osl:Array (Option Value)),
  fd=PySem.W.fnOf x qual (EZ st) (Cs st) (AO st) .none kV doc pm an cdv ct∧K.lookup f=some ⟨oc,od,.func fd,osl⟩∧PySem.W.codeIn K cdv qual=true
 kp:PySem.W.keepIn K (.ref f)=true
section
variable{P:Program}{w:World}{K:PySem.W.Frag}{mg:Str→Option Value}{base:Heap}
theorem N7.ok{x qual:Str}{st:Stmt}{f:Addr}{fd:FuncData}{N ps:List Str}{k:Nat}{sp:Sp}(F:N7 K x qual st f fd)(S:Af N ps (AO st))(len:∀vs H Q E,sp vs H Q E→vs.length=ps.length)
 (hbody:∀(cdv:Value) (A:Around) (outer:List Env) (s:Shared) (H:Hp) (vs:List V) (Q:VK) (E:XK),CM k (A.deeper (envOfC qual (AO st) s.heap.objs.size f cdv))→sp vs H Q E →
   ∃t,FZ (B4 A2 P w K mg base N qual (AO st) f cdv A outer s H E).GR (Cs st) t∧t { nx:=fun _ H'=>Q .BR H',rt:=Q} (start N vs) H):AM P w K mg base A2 (k+1) f fd ps sp:=by
 obtain⟨oc,od,kV,doc,pm,an,cdv,ct,osl,rfl,lk,hcd⟩:=F.ex;refine Wu lk hcd S len fun A outer s H vs Q E hr hsp=>?_;obtain⟨t,h,q⟩:=hbody cdv A outer s H vs Q E hr hsp;exact⟨t,h.GR,q⟩
theorem N7.binds{x qual:Str}{st:Stmt}{f:Addr}{fd:FuncData}{ps:List Str}(F:N7 K x qual st f fd)
 (h:∀(kV doc pm:Value) (an:Option Addr) (cdv ct:Value) (us:List Value),us.length=ps.length→bindArgs (PySem.W.fnOf x qual (EZ st) (Cs st) (AO st) .none kV doc pm an cdv ct) ⟨us,[]⟩=pure (ps.zip us)):Binds K fd ps []:=by
 obtain⟨oc,od,kV,doc,pm,an,cdv,ct,osl,rfl,lk,hcd⟩:=F.ex;exact .all (h kV doc pm an cdv ct)
theorem Us{x qual:Str}{st:Stmt}{f:Addr}{oc:Value}{od an:Option Addr}{osl:Array (Option Value)}{kV doc pm cdv ct:Value}(l:K.lookup f=some ⟨oc,od,.func (PySem.W.fnOf x qual (EZ st) (Cs st) (AO st) .none kV doc pm an cdv ct),osl⟩)
 (c:PySem.W.codeIn K cdv qual=true)(k:PySem.W.keepIn K (.ref f)=true):N7 K x qual st f (PySem.W.fnOf x qual (EZ st) (Cs st) (AO st) .none kV doc pm an cdv ct):=⟨⟨oc,od,kV,doc,pm,an,cdv,ct,osl,rfl,l,c⟩,k⟩
end
theorem OU{n:Nat}(h:n≤1000):n<sizeLine:=Nat.lt_of_le_of_lt h (by decide)
section
variable{X:Cx}
theorem pv(i:Nat){x:Str}{pos:Pos}(hN:X.N[i]? = some x:=by rfl)(hv:Za X.env.scope x:=by first|exact Or.inl rfl|exact Or.inr (Or.inl rfl)|exact Or.inr (Or.inr rfl))(hd:(x==("__debug__" : Str))=false:=by decide)
 (hcd:(x==("__classdict__" : Str))=false:=by decide):PE X (.Name x pos) (F8 i):=bM hN hv hd hcd
end
theorem J6{A B:Prop}(h:B):if false=true then A else B:=by
 rw[if_neg aK];exact h
theorem Dy{A B:Prop}(h:A):if true=true then A else B:=by
 rw[if_pos rfl];exact h
theorem CK{c A B:Prop}[Decidable c](h1:c→A)(h2:¬c→B):if c then A else B:=by
 by_cases h:c
 ·rw[if_pos h];exact h1 h
 ·rw[if_neg h];exact h2 h
def AJ(H H':Hp):Prop:=∀b o,H b=some o→H' b=some o
theorem AJ.refl(H:Hp):AJ H H:=fun _ _ h=>h
theorem AJ.trans{H H1 H2:Hp}(a:AJ H H1)(b:AJ H1 H2):AJ H H2:=fun c o h=>b c o (a c o h)
section
variable{X:Cx}
def Rj(i j:Int):Prop:=∃m:Nat,m≤1000000∧i.natAbs<2^m∧j.natAbs<2^m
theorem Rj.ok{i j:Int}(h:Rj i j):IntMulOk i j:=by
 obtain⟨m,hm,h1,h2⟩:=h;exact IntMulOk.of_le (intBits_le_iff.mpr h1) (intBits_le_iff.mpr h2) (by lia)
theorem X3:CH X (binaryOp .Mult) (rI (fun i j=>Uv i j∨Rj i j) fun i j=>.int (i*j)) :=
 WZ fun _ _ _ _ _ _ _ hc q=>mul_int q (hc.elim (fun z=>z.ok) fun z=>z.ok)
def cP(_i j:Int):Prop:=j≠0∧∃m:Nat,m≤9000∧j.natAbs<2^m
theorem L3:CH X (binaryOp .FloorDiv) (rI cP fun i j=>.int (i.fdiv j)):=WZ fun i j _ _ _ _ _ hc q=>by
 obtain⟨h0,m,hm,h1⟩:=hc;refine floordiv_int h0 q (.inl (PyProof.noPylong_of_log2 ?_));have hne:j.natAbs≠0:=by lia
 have:j.natAbs.log2<m:=(Nat.log2_lt hne).mpr h1
 lia
mutual
def Br(K:PySem.W.Frag)(H:Hp):PyData→V→Prop
 |.none,v=>v=.BR
 |.bool b,v=>v=.bl b
 |.int i,v=>v=.int i
 |.str x,v=>v=.str x
 |.tuple ds,v=>∃a xs,v=.ref a∧A9 K H a xs∧Ec K H ds xs
 |.list ds,v=>∃a xs,v=.ref a∧A3 K H a xs∧Ec K H ds xs
 |.dict _,_=>False
def Ec(K:PySem.W.Frag)(H:Hp):List PyData→List V→Prop
 |[],xs=>xs=[]
 |d::ds,xs=>∃x r,xs=x::r∧Br K H d x∧Ec K H ds r
end
theorem AJ.tup{K:PySem.W.Frag}{H H':Hp}{a:Addr}{xs:List V}(e:AJ H H')(h:A9 K H a xs):A9 K H' a xs:=by
 rcases h with (h|⟨o,h⟩)|h
 ·exact .inl (.inl (e _ _ h))
 ·exact .inl (.inr ⟨o,e _ _ h⟩)
 ·exact .inr h
mutual
theorem Br.reads{pins:List (Addr×Obj)}{σ:St}{H:Hp}{s:Shared}(I:Inv X pins σ H s):∀ {d:PyData} {v:V} {u:Value},Br X.K H d v→RelV v u→∃as,Reads s.heap u d as
 |.none,_,u,h,r=>by rw[Br]at h;subst h;cases r;exact⟨_,.none⟩
 |.bool b,_,u,h,r=>by rw[Br]at h;subst h;cases r;exact⟨_,.bool b⟩
 |.int i,_,u,h,r=>by rw[Br]at h;subst h;obtain⟨t,rfl⟩:=r;exact⟨_,.int i t⟩
 |.str x,_,u,h,r=>by rw[Br]at h;subst h;obtain⟨t,rfl⟩:=r;exact⟨_,.str x t⟩
 |.tuple ds,_,u,h,r=>by
  rw[Br]at h;obtain⟨a,xs,e1,h1,h2⟩:=h;subst e1;cases r;obtain⟨its,rv,⟨o,e,c,n,hd⟩,_⟩:=I.tuple h1;obtain⟨as,ra⟩:=Ec.reads I h2 rv;exact⟨_,.tuple e c hd (by simpa using ra)⟩
 |.list ds,_,u,h,r=>by
  rw[Br]at h;obtain⟨a,xs,e1,h1,h2⟩:=h;subst e1;cases r;obtain⟨its,rv,⟨o,n,e,c,_,hd⟩,_⟩:=I.list h1;obtain⟨as,ra⟩:=Ec.reads I h2 rv;exact⟨_,.list e c hd (by simpa using ra)⟩
 |.dict _,_,_,h,_=>by rw[Br]at h;exact h.elim
theorem Ec.reads{pins:List (Addr×Obj)}{σ:St}{H:Hp}{s:Shared}(I:Inv X pins σ H s):∀ {ds:List PyData} {xs:List V} {us:List Value},Ec X.K H ds xs→Vals xs us→∃as,ReadsAll s.heap us ds as
 |[],_,us,h,r=>by rw[Ec]at h;subst h;cases r;exact⟨_,.nil⟩
 |_::_,_,us,h,r=>by
  rw[Ec]at h;obtain⟨x,q,e1,h1,h2⟩:=h;subst e1;cases r with
  |cons r1 r2 =>
   obtain⟨as,ra⟩:=Br.reads I h1 r1;obtain⟨bs,rb⟩:=Ec.reads I h2 r2;exact⟨_,.cons ra rb⟩
end
def U5(K:PySem.W.Frag)(neg:Bool):R2:=fun x y H Q=>∃d e,Br K H d x∧Br K H e y∧SeqAt.shaped d=true∧SeqAt.shaped e=true∧Q (.bl (if neg then !PyData.eqv d e else PyData.eqv d e)) H
theorem ZE(hu:X.A.units+64<cLine):CH X (compareOp .Eq) (U5 X.K false):=by
 intro pins s σ H x y v u Q I rx ry h;obtain⟨d,e,h1,h2,s1,s2,q⟩:=h;obtain⟨as,ra⟩:=Br.reads I h1 rx;obtain⟨bs,rb⟩:=Br.reads I h2 ry;exact eq_dataH ra rb s1 s2 hu ⟨.bl _,H,I,rfl,q⟩
theorem Y7(hu:X.A.units+64<cLine):CH X (compareOp .NotEq) (U5 X.K true):=by
 intro pins s σ H x y v u Q I rx ry h;obtain⟨d,e,h1,h2,s1,s2,q⟩:=h;obtain⟨as,ra⟩:=Br.reads I h1 rx;obtain⟨bs,rb⟩:=Br.reads I h2 ry;exact ne_dataH ra rb s1 s2 hu ⟨.bl _,H,I,rfl,q⟩
end
def KD(X:Cx)(ifs:List Expr)(t:TT):Prop :=
 ∀(pins:List (Addr×Obj)) (s:Shared) (σ:St) (H:Hp) (Q:Bool→Hp→Prop),Inv X pins σ H s→t σ H Q →
  wpAny (model X.prog X.w) X.A (forIn ifs true fun c r=>if r=true then do let ok ←isTrue c X.env (eval c X.env);pure (ForInStep.yield ok) else pure (ForInStep.yield r)) (TP X pins σ Q) X.xe s
def cu:TT:=fun _ H Q=>Q true H
theorem XE{X:Cx}:KD X [] cu:=fun _ _ σ H _ I h=>wpAny_tests_nil ⟨H,I,h⟩
theorem Xf{X:Cx}{c:Expr}{t:TT}(h:PT X c t):KD X [c] t:=by
 intro pins s σ H Q I hw;simp only[List.forIn_cons,List.forIn_nil,if_true];refine aA (aA (Ar (h pins s σ H Q I hw) fun b s1 q=>?_));exact aD (aD q)
def Dg(N XN:List Str)(sc xsc:Scope):List (Option Nat)→Nat→Bool
 |[],_=>true
 |none::r,i=>Dg N XN sc xsc r (i+1)
 |some j::r,i=>(match N[i]?,XN[j]? with
   |some n,some m=>n==m&&sc.names.lookup n==some .free&&xsc.names.lookup n==some .cell
   |_,_=>false)&&Dg N XN sc xsc r (i+1)
theorem MT{N XN:List Str}{sc xsc:Scope}:∀ {fr:List (Option Nat)} {k:Nat},Dg N XN sc xsc fr k=true→∀ {i j:Nat},fr[i]? = some (some j) →
  ∃n,N[k+i]? = some n∧XN[j]? = some n∧sc.names.lookup n=some .free∧xsc.names.lookup n=some .cell
 |[],_,_,i,j,e=>by simp at e
 |none::r,k,h,0,j,e=>by simp at e
 |none::r,k,h,i+1,j,e=>by
  have q:=MT (fr:=r) (k:=k+1) h (i:=i) (j:=j) (by simpa using e);have z:k+(i+1)=k+1+i:=by lia
  rw[z];exact q
 |some j'::r,k,h,0,j,e=>by
  have e':j'=j:=by simpa using e
  subst e';rw[Dg,Bool.and_eq_true]at h;have h1:=h.1;split at h1
  ·rename_i n m hn hm;simp only[Bool.and_eq_true,beq_iff_eq]at h1;obtain⟨⟨rfl,h2⟩,h3⟩:=h1;exact⟨n,by simpa using hn,hm,h2,h3⟩
  ·cases h1
 |some j'::r,k,h,i+1,j,e=>by
  rw[Dg,Bool.and_eq_true]at h;have q:=MT (fr:=r) (k:=k+1) h.2 (i:=i) (j:=j) (by simpa using e);have z:k+(i+1)=k+1+i:=by lia
  rw[z];exact q
def carry(fr:List (Option Nat))(σ:St):St:=fr.map fun o=>match o with
 |some j=>(σ[j]?).join
 |none=>none
theorem S6{fr:List (Option Nat)}{σ:St}{i:Nat}{v:V}(h:(carry fr σ)[i]? = some (some v)):∃j,fr[i]? = some (some j)∧σ[j]? = some (some v):=by
 unfold carry at h;rw[List.getElem?_map]at h;cases e:fr[i]? with
 |none=>rw[e]at h;cases h
 |some o =>
  rw[e]at h;cases o with
  |none=>simp at h
  |some j =>
   refine⟨j,rfl,?_⟩;simp only[Option.map_some,Option.some.injEq]at h;cases q:σ[j]? with
   |none=>rw[q]at h;cases h
   |some w=>rw[q]at h;simp at h;rw[h]
theorem FR{env:Env}:∀(names:List (Str×NameKind)) (cs:List (Str×Addr)),(∀x∈names,x.2=NameKind.free→∃c,env.cells.lookup x.1=some c)→(∀x c,cs.lookup x=some c→env.cells.lookup x=some c) →
  ∃cl,(forIn names cs (fun(x:Str×NameKind) (r:List (Str×Addr))=>do if(x.2==NameKind.free)=true then do let a ←cellOf env x.1;pure (ForInStep.yield ((x.1,a)::r)) else pure (ForInStep.yield r)):Sem (List (Str×Addr)))=pure cl ∧
   (∀x c,cl.lookup x=some c→env.cells.lookup x=some c)∧(∀x,(∃c,cs.lookup x=some c)→∃c,cl.lookup x=some c)∧∀x∈names,x.2=NameKind.free→∃c,cl.lookup x.1=some c
 |[],cs,_,h2=>⟨cs,rfl,h2,fun _ q=>q,fun _ z=>(by cases z)⟩
 |(n,k)::r,cs,h1,h2=>by
  rw[List.forIn_cons];by_cases hk:(k==NameKind.free)=true
  ·obtain⟨c,hc⟩:=h1 (n,k) bC (by simpa using hk);have h2':∀x c',((n,c)::cs).lookup x=some c'→env.cells.lookup x=some c':=fun x c' e=>by
    rw[List.lookup_cons]at e;cases hx:x==n with
    |true=>rw[hx]at e;have:=beq_iff_eq.mp hx;subst this;simp at e;rw[←e];exact hc
    |false=>rw[hx]at e;exact h2 x c' e
   obtain⟨cl,q1,q2,q3,q4⟩:=FR r ((n,c)::cs) (fun x hx=>h1 x (aa _ hx)) h2';have hn:∃c',cl.lookup n=some c':=q3 n ⟨c,by rw[List.lookup_cons,beq_self_eq_true]⟩;refine⟨cl,?_,q2,fun x hx=>?_,fun x hx hf=>?_⟩
   ·simp only[hk,if_true];unfold cellOf;rw[hc];exact q1
   ·refine q3 x ?_;rw[List.lookup_cons];cases hxn:x==n with
    |true=>exact⟨c,rfl⟩
    |false=>exact hx
   ·rcases aI.mp hx with e|hx
    ·subst e;exact hn
    ·exact q4 x hx hf
  ·obtain⟨cl,q1,q2,q3,q4⟩:=FR r cs (fun x hx=>h1 x (aa _ hx)) h2;refine⟨cl,?_,q2,q3,fun x hx hf=>?_⟩
   ·simp only[hk];exact q1
   ·rcases aI.mp hx with e|hx
    ·subst e;exact absurd (by simpa using hf) hk
    ·exact q4 x hx hf
def Ai(X:Cx)(scope:Scope)(cl:List (Str×Addr))(N:List Str)(C:Addr)(s₀:Shared)(H₀:Hp)(fp:List Addr):Cx where
 prog:=X.prog
 w:=X.w
 K:=X.K
 mg:=X.mg
 base:=X.base
 A:=X.A
 N:=N
 s₀:=s₀
 H₀:=H₀
 env:=compEnvC scope cl C X.env
 outer:=X.stack
 stack:=X.stack
 ex:=fp
 fn:=fun _=>false
 calm:=X.calm
 pn:=[]
 xe:=fun _ _=>False
def Jm(wi:TI)(fr:List (Option Nat))(ix:Nat)(tif:TT)(te:TE):TE:=fun σ H Q=>wi σ H fun J H1=>∀D,H1 D=none→∃W:Nat→Nat→List V→Hp→Prop,(∃m,W 0 m [] (upd H1 D (.lst []))) ∧
 ∀i m ys H,W i m ys H→H D=some (.lst ys)∧((J.stop i H∧Q (.ref D) H)∨(J.go i H∧ys.length<sizeLine∧∀x H',J.Dm i H x H' →
  tif ((carry fr σ).set ix (some x)) H' fun b H2=>if b=true then te ((carry fr σ).set ix (some x)) H2 fun y H3=>H3 D=some (.lst ys)∧∃m',m'<m∧W (i+1) m' (ys++[y]) (upd H3 D (.lst (ys++[y])))
   else ∃m',m'<m∧W (i+1) m' ys H2))
structure DC(scope:Scope)(N:List Str)(x:Str)(ix:Nat):Prop where
 kind:scope.kind=.function
 cell:∀y∈scope.names,y.2≠.cell
 names:∀y∈scope.names,y.2=.local→scope.names.lookup y.1=some .local
 free:∀y∈scope.names,y.2=.free→scope.names.lookup y.1=some .free
 loc:scope.names.lookup x=some .local
 nd:N.Nodup
 at_:N[ix]? = some x
theorem lookup_mem{names:List (Str×NameKind)}{n:Str}{k:NameKind}:names.lookup n=some k→(n,k)∈names:=by
 induction names with
 |nil=>intro h;cases h
 |cons y r ih =>
  intro h;obtain⟨m,j⟩:=y;rw[List.lookup_cons]at h;cases e:n==m with
  |true=>rw[e]at h;have:=beq_iff_eq.mp e;subst this;simp at h;subst h;exact bC
  |false=>rw[e]at h;exact aa _ (ih h)
theorem Qb{scope:Scope}{env:Env}(hc:∀y∈scope.names,y.2≠.cell){n:Str}(h:(relabel scope env).names.lookup n=some .cell∨(relabel scope env).names.lookup n=some .free):∃k,(n,k)∈scope.names∧k=NameKind.free:=by
 have key:∀k',(relabel scope env).names.lookup n=some k'→(k'=.cell∨k'=.free)→∃k,(n,k)∈scope.names∧k=NameKind.free:=fun k' h hk=>by
  have hm:=lookup_mem h;unfold relabel at hm;obtain⟨⟨m,k⟩,hy,e⟩:=aP.mp hm;dsimp only at e;by_cases hcond:(k==NameKind.free&&env.scope.kind==.function&&env.kindOf m==some .cell)=true
  ·rw[if_pos hcond]at e
   injection e with e1 e2
   subst e1;refine⟨k,hy,?_⟩;simp only[Bool.and_eq_true,beq_iff_eq]at hcond;exact hcond.1.1
  ·rw[if_neg hcond]at e
   injection e with e1 e2
   subst e1 e2;rcases hk with rfl|rfl
   ·exact absurd rfl (hc _ hy)
   ·exact⟨_,hy,rfl⟩
 rcases h with h|h
 ·exact key _ h (.inl rfl)
 ·exact key _ h (.inr rfl)
section
variable{X:Cx}{elt iter:Expr}{x:Str}{px pos:Pos}{ifs:List Expr}{scope:Scope}{wi:TI}{fr:List (Option Nat)}{ix:Nat}{tif:TT}{te:TE}{N:List Str}
theorem IG{prog:Program}{w:World}{A:Around}{R:Result→Shared→Prop}{s:Shared}{elt target iter:Expr}{ifs:List Expr}{scope:Scope}{pos:Pos}{it acc:Value}{env:Env}(I:Nat→Shared→Prop)
 (turn:∀n s,I n s→wpAny (model prog w) A (pyNext it) (fun r s₁=>match r with
   |none=>R (.ok .next) s₁
   |some v=>wpAny (model prog w) A (letOwnedTupleGo target it v>>=fun _=>assign target env v) (fun _ s₂ =>
     wpAny (model prog w) A (forIn ifs true fun c r=>if r=true then do let ok ←isTrue c env (eval c env);pure (ForInStep.yield ok) else pure (ForInStep.yield r)) (fun ok s₃ =>
      if ok=true then wpAny (model prog w) A (eval elt env) (fun x s₄ =>
       wpAny (model prog w) A (call (.builtin "list.append") [acc,x]) (fun _ s₅=>∃m,m<n∧I m s₅) (notedBy (model prog w) A env fun e s'=>R (.error e) s') s₄) (notedBy (model prog w) A env fun e s'=>R (.error e) s') s₃
      else ∃m,m<n∧I m s₃) (notedBy (model prog w) A env fun e s'=>R (.error e) s') s₂) (notedBy (model prog w) A env fun e s'=>R (.error e) s') s₁) (notedBy (model prog w) A env fun e s'=>R (.error e) s') s)
 (n:Nat)(h:I n s) :
  codeAny (model prog w) A (.compLoop (.ListComp elt [⟨target,iter,ifs,0⟩] scope pos) 0 it acc env) R s:=by
 refine codeAny_loop rfl I (fun n s hI=>?_) n h;show wpAny _ A ((compTurn (.ListComp elt [⟨target,iter,ifs,0⟩] scope pos) 0 it acc env).onRaise (fun x=>do noteFrame x env;theTreesLotGoes x)) _ _ s;refine wpAny_noted ?_;rw[compTurn_list];refine aA (wpAny_standAt (aA (aN (turn n s hI) (fun r s₁ h₁=>?_) fun _ _ h'=>h')));cases r with
 |none=>exact aD h₁
 |some v =>
  show wpAny (model prog w) A (letOwnedTupleGo target it v>>=fun _=>assign target env v>>=_) _ _ s₁;rw[←bind_assoc];refine aA (aN h₁ (fun _ s₂ h₂=>aA (aN h₂ (fun ok s₃ h₃=>?_) fun _ _ h'=>h')) fun _ _ h'=>h');cases ok with
  |false=>exact aD ⟨rfl,h₃⟩
  |true =>
   exact aA (aA (aN h₃ (fun x s₄ h₄=>aA (aN h₄ (fun _ s₅ h₅=>aD (aD ⟨rfl,h₅⟩)) fun _ _ h'=>h')) fun _ _ h'=>h'))
theorem Lm{pins:List (Addr×Obj)}{σ:St}{H2:Hp}{s2:Shared}{Q:VK}{it:Addr}{fp:List Addr}{tn:Nat→Heap→Prop}{J:It}{cl:List (Str×Addr)}{E:Value→Shared→Prop}{RR:Value→Addr→Result→Shared→Prop}
 (S:DC scope N x ix)(hcalm:X.calm=true){tgE:Expr}{g:TG}(Rv:St→Prop)(r0:Rv (carry fr σ))(hpg:∀C,PG (Ai X scope cl N C s2 H2 fp) tgE g)(hfr:Dg N X.N scope X.env.scope fr 0=true)(hlen:fr.length=N.length)
 (hif:∀cl C s₀ H₀ fp,KD (Ai X scope cl N C s₀ H₀ fp) ifs tif)(he:∀cl C s₀ H₀ fp,PE (Ai X scope cl N C s₀ H₀ fp) elt te)
 (I2:Inv X pins σ H2 s2)(T:Turn X.prog X.w X.K tgE J fp it tn)(st2:tn 0 s2.heap)(f2:∀b∈fp,Gm X pins H2 b)
 (c1:∀x c,cl.lookup x=some c→X.env.cells.lookup x=some c)(c2:∀x∈scope.names,x.2=NameKind.free→∃c,cl.lookup x.1=some c)
 (W:∀D,H2 D=none→∃W:Nat→Nat→List V→Hp→Prop,(∃m,W 0 m [] (upd H2 D (.lst []))) ∧
   ∀i m ys H,W i m ys H→H D=some (.lst ys)∧((J.stop i H∧Q (.ref D) H)∨(J.go i H∧ys.length<sizeLine∧∀x H',J.Dm i H x H'→∀σ',Rv σ'→g x σ' H' fun σ6 H6=>Rv σ6 ∧
    tif σ6 H6 fun b H2=>if b=true then te σ6 H2 fun y H3=>H3 D=some (.lst ys)∧∃m',m'<m∧W (i+1) m' (ys++[y]) (upd H3 D (.lst (ys++[y])))
     else ∃m',m'<m∧W (i+1) m' ys H2)))
 (fin:∀(D C:Addr) (s':Shared) (H':Hp) m,s'.heap.Ns C m→Q (.ref D) H'→(∀h',Heap.SameBut C s'.heap h'→Inv X pins σ H' { s' with heap:=h'})→C≠D→(∀b o,s2.heap.get? b=some o→b≠C)→H' C=none→s2.heap.objs.size≤C→RR (.ref D) C (.ok .next) s') :
  wpAny (model X.prog X.w) X.A (newList []) (fun acc s₃=>wpAny (model X.prog X.w) X.A (newFunctionEnv scope X.env.globals cl [] X.env.qual none .none (some X.env)) (fun cenv s₄ =>
   codeAny (model X.prog X.w) X.A (.compStart (.ListComp elt [⟨tgE,iter,ifs,0⟩] scope pos) 0 (.ref it) acc {cenv with scope:=relabel scope X.env}) (RR acc cenv.locals) s₄) E s₃) E s2:=by
 refine aT (wpAny_newFunctionEnv S.cell (by intro y hy;simp at hy) (fun h₁ hns₁ hsb₁=>?_) S.kind);dsimp only at hns₁ hsb₁ ⊢;generalize hHp:s2.heap.push { cls:=.type "list",dict:=none,data:=.seq ([]:List Value).toArray}=Hq at hns₁ hsb₁ ⊢;have hC:Hq.objs.size=s2.heap.objs.size+1:=by rw[←hHp,Heap.size_push]
 have hDC:s2.heap.objs.size≠Hq.objs.size:=by rw[hC];exact aL (Nat.lt_succ_self _)
 have below:∀b,b<s2.heap.objs.size→b≠Hq.objs.size∧b≠s2.heap.objs.size:=fun b hb=>⟨by rw[hC];exact aL (Nat.lt_succ_of_lt hb),Nat.ne_of_lt hb⟩;have old:∀b o,s2.heap.get? b=some o→h₁.get? b=some o:=fun b o e=>hsb₁.extBut b o (below b (aF e)).1 (aE _ (hHp ▸ aE _ e));have hacc:h₁.get? s2.heap.objs.size=some { cls:=.type "list",data:=.seq ([]:List Value).toArray}:=hsb₁.extBut _ _ hDC (aE _ (hHp ▸ aR _ rfl));have hD2:H2 s2.heap.objs.size=none:=I2.Aa.fresh (aH _);have hC2:H2 Hq.objs.size=none:=I2.Aa.fresh (by rw[hC];exact Nat.le_succ _);have fpo:∀b∈fp,b<s2.heap.objs.size:=fun b hb=>by
  obtain⟨o,e,_⟩:=T.obj _ _ st2 b hb;exact aF e
 obtain⟨W,⟨m0,w0⟩,turn⟩:=W s2.heap.objs.size hD2;have ok:(Ai X scope cl N Hq.objs.size s2 H2 fp).Ok:=by
  refine⟨I2.ok.mod,S.kind,I2.ok.glob,I2.ok.blt,by show s2.heap.objs.size≤Hq.objs.size;rw[hC];exact Nat.le_succ _,?_,?_,?_,fun _=>I2.ok.hd hcalm,I2.ok.frames,.inl rfl,?_,I2.bs,Nat.le_trans I2.ok.M1 I2.sz,?_,?_,I2.stack,I2.NK,I2.kt⟩
  ·exact fun a b c h1 h2=>I2.ok.inj a b c (c1 _ _ h1) (c1 _ _ h2)
  ·intro y hy;obtain⟨k,hm,rfl⟩:=Qb S.cell hy;exact c2 _ hm rfl
  ·intro y c hf;cases hf
  ·intro b hb;refine⟨(below b (fpo b hb)).1,fun y c e=>?_⟩;obtain⟨_,_,_,_,f5,_⟩:=f2 b hb;exact f5 y c (c1 _ _ e)
  ·intro b o e hb;obtain⟨_,_,_,f4,_,_⟩:=f2 b hb;rcases f4 with z|z
   ·exact I2.ok.Np b o e z
   ·exact absurd (aJ (aF e) (af I2.ok.M1 z)) (Nat.lt_irrefl _)
  ·intro b hb hs;obtain⟨_,f1,f3,_⟩:=f2 b hb;rcases aI.mp (I2.Kh b hs) with z|z
   ·exact f1 z
   ·exact f3 z
 have I4:Inv (Ai X scope cl N Hq.objs.size s2 H2 fp) [] (carry fr σ) (upd H2 s2.heap.objs.size (.lst [])) {s2 with heap:=h₁,toks:=s2.toks+([]:List (Str×Value)).length}:=by
  refine⟨ok,rfl,I2.bare,Un.laid old (aH _) hD2,⟨_,hns₁,fun i y v h1 h2 h3=>?_⟩,fun y c e=>?_,?_,fun y c e=>?_,fun p hp=>(by cases hp),I2.Aa.laid old (aH _) ⟨ar _,[],0,.nil,hacc⟩,?_⟩
  ·obtain⟨j,e1,e2⟩:=S6 h2;obtain⟨n,n1,n2,n3,n4⟩:=MT hfr e1;rw[Nat.zero_add]at n1;have:y=n:=by
    have h1':N[i]? = some y:=h1;rw[h1']at n1;exact aS n1
   subst this;obtain⟨m,hn,hl⟩:=I2.loc;obtain⟨u,ru,lk⟩:=hl j y v n2 e2 (.inr (.inl n4));refine⟨u,ru,?_⟩;obtain⟨c,hc⟩:=c2 _ (lookup_mem n3) rfl;rcases lk with ⟨k1,_⟩|⟨_,c',hc',hcell⟩
   ·have k1':X.env.scope.names.lookup y=some .local:=k1;rw[n4]at k1';cases k1'
   ·have:=c1 _ _ hc;rw[hc']at this;cases this;refine .inr ⟨?_,c,hc,hcell.keeps old⟩;rcases h3 with z|z|z
    ·obtain⟨k,hm⟩:∃k,(y,k)∈scope.names∧k=NameKind.local:=by
      have hm:=lookup_mem z;have hm':(y,NameKind.local)∈(relabel scope X.env).names:=hm;unfold relabel at hm';obtain⟨⟨m',k⟩,hy,e⟩:=aP.mp hm';dsimp only at e;by_cases hcond:(k==NameKind.free&&X.env.scope.kind==.function&&X.env.kindOf m'==some .cell)=true
      ·rw[if_pos hcond]at e;injection e with _ e2';cases e2'
      ·rw[if_neg hcond]at e;injection e with e1' e2';subst e1' e2';exact⟨_,hy,rfl⟩
     obtain⟨hm,rfl⟩:=hm;have:=S.names _ hm rfl;rw[n3]at this;cases this
    ·exact .inl z
    ·exact .inr z
  ·obtain⟨v,z⟩:=I2.cell y c (c1 _ _ e);exact⟨v,z.keeps old⟩
  ·show upd H2 s2.heap.objs.size _ Hq.objs.size=none;rw[AR (Ne.symm hDC)];exact hC2
  ·obtain⟨v,o,ho,_⟩:=I2.cell y c (c1 _ _ e);rw[AR (below c (aF ho)).2];exact I2.EH y c (c1 _ _ e)
  ·show(carry fr σ).length=N.length;unfold carry;rw[List.length_map];exact hlen
 have fpX:∀(p:List (Addr×Obj)) (H':Hp),(∀q∈p,q.1∈fp→False)→(∀b∈fp,H' b=none)→∀b∈fp,Gm (Ai X scope cl N Hq.objs.size s2 H2 fp) p H' b:=fun p H' hp hn b hb=>by
  obtain⟨_,f1,f3,f4,f5,_⟩:=f2 b hb;refine⟨hn b hb,(below b (fpo b hb)).1,fun hs=>ok.Nj b hb hs,.inl hb,fun y c e=>f5 y c (c1 _ _ e),fun q hq e=>?_⟩;exact hp q hq (e ▸ hb)
 have hxv:(relabel scope X.env).names.lookup x=some .local:=lookup_relabel_local S.loc;have loop:∀s₃:Shared,s₃={s2 with heap:=h₁,toks:=s2.toks+([]:List (Str×Value)).length} →
   codeAny (model X.prog X.w) X.A (.compLoop (.ListComp elt [⟨tgE,iter,ifs,0⟩] scope pos) 0 (.ref it) (.ref s2.heap.objs.size) (compEnvC scope cl Hq.objs.size X.env)) (RR (.ref s2.heap.objs.size) Hq.objs.size) s₃:=by
  rintro s₃ rfl;refine IG (fun n s'=>∃i ys σ' H',Inv (Ai X scope cl N Hq.objs.size s2 H2 fp) [] σ' H' s'∧Rv σ'∧tn i s'.heap∧(∀b∈fp,H' b=none)∧W i n ys H') ?_ m0
   ⟨0,[],carry fr σ,_,I4,r0,T.keep _ _ _ st2 fun b _ o e=>old b o e,fun b hb=>by rw[AR (below b (fpo b hb)).2];exact(f2 b hb).1,w0⟩
  rintro n s3 ⟨i,ys,σ3,H3,I3,hσ,st3,fr3,w3⟩;obtain⟨hD3,way⟩:=turn i n ys H3 w3;rcases way with ⟨stop,qn⟩|⟨go,hsz,step⟩
  ·refine aN (T.done (Ai X scope cl N Hq.objs.size s2 H2 fp) rfl rfl rfl hcalm i [] s3 σ3 H3 (fun _ _=>False) I3 (fpX [] H3 (fun _ z=>by cases z) fr3) st3 stop) (fun r s4 ⟨hr,I5⟩=>?_) fun _ _ z=>z.elim;subst hr;obtain⟨m,hn,_⟩:=id I5.loc;refine fin _ _ s4 H3 m hn qn (fun h' hs'=>?_) (Ne.symm hDC) (fun b o e=>(below b (aF e)).1) I5.free (by rw[hC];exact Nat.le_succ _);have nC:∀b u,H3 b=some u→b≠Hq.objs.size:=fun b u e z=>by
    have:=I5.free;rw[show(Ai X scope cl N Hq.objs.size s2 H2 fp).env.locals=Hq.objs.size from rfl,←z,e]at this;cases this
   have keepU:Un (EF X.stack) fp H2 H3 s2.heap h':=by
    have u:=I5.base;refine⟨fun b o e n hb hx=>?_,fun b o e n hb hx=>?_,fun b o e n hx=>u.free b o e n hx,fun b o e hx=>?_,u.Bm,u.EB,u.Ek,fun b xs o q e hx=>(hs'.2 b (below b (aF e)).1).trans (u.EI b xs o q e hx)⟩
    ·exact(hs'.2 b (below b (aF e)).1).trans (u.keep b o e n hb hx)
    ·obtain⟨sl,e1⟩:=u.slot b o e n hb hx;exact⟨sl,(hs'.2 b (below b (aF e)).1).trans e1⟩
    ·obtain⟨o',e1⟩:=u.there b o e hx;exact⟨o',(hs'.2 b (below b (aF e)).1).trans e1⟩
   have hok':CV X.prog X.w H3 h':=fun b u e=>(I5.Aa b u e).Gr (fun c v hc q=>(hs'.2 c (by
    rcases hc with rfl|hc
    ·exact nC _ _ e
    ·exact nC _ _ hc)).trans q) (fun _ q=>q) fun _ _ q=>q
   refine I2.WQ (s':={s4 with heap:=h'}) (ch:=fp) I5.os keepU hok' I5.bare fun b hb=>?_;obtain⟨_,f1,_,f4,f5,f6⟩:=f2 b hb;exact⟨f4,f1,f5,f6⟩
  ·refine aN (T.item (Ai X scope cl N Hq.objs.size s2 H2 fp) rfl rfl rfl hcalm i [] s3 σ3 H3 (fun _ _=>False) I3 (fpX [] H3 (fun _ z=>by cases z) fr3) st3 go) (fun r s4 ⟨u,hr,h4⟩=>?_) fun _ _ z=>z.elim;subst hr;show wpAny (model X.prog X.w) X.A (letOwnedTupleGo tgE (.ref it) u>>=fun _=>assign tgE (compEnvC scope cl Hq.objs.size X.env) u) _ _ s4;refine aA (aN h4 (fun _ s5 ⟨xv,H5,I5,r5,y5,st5,fr5⟩=>?_) fun _ _ z=>z.elim);have I5':=I5.pinned (fpX [] H5 (fun _ z=>by cases z) fr5) (T.obj _ _ st5);refine aN (hpg _ _ s5 σ3 H5 xv u _ I5' r5 (step xv H5 y5 σ3 hσ)) (fun _ s6 ⟨σ6,H6,I6,rv6,step5⟩=>?_) fun _ _ z=>z.elim;refine aN (hif _ _ _ _ _ _ s6 _ H6 _ I6 step5) (fun b s7 ⟨H7,I7,q7⟩=>?_) fun _ _ z=>z.elim;have again:∀ {s8:Shared} {H8:Hp} {k:Nat} {zs:List V},Inv (Ai X scope cl N Hq.objs.size s2 H2 fp) ([]++Kr fp s5.heap) σ6 H8 s8→W (i+1) k zs H8→k<n →
     ∃m,m<n∧∃i ys σ' H',Inv (Ai X scope cl N Hq.objs.size s2 H2 fp) [] σ' H' s8∧Rv σ'∧tn i s8.heap∧(∀b∈fp,H' b=none)∧W i m ys H':=fun {s8 H8 k zs} I8 w8 hk=>by
    refine⟨k,hk,i+1,zs,_,H8,I8.Jw,rv6,T.keep _ _ _ st5 fun b hb o e=>(I8.pin (b,o) (aV _ (aV _ (HD hb e)))).1,fun b hb=>?_,w8⟩;obtain⟨o,e,d⟩:=T.obj _ _ st5 b hb;exact(I8.pin (b,o) (aV _ (aV _ (HD hb e)))).2.1
   cases b with
   |false =>
    rw[if_neg aK]at q7 ⊢;obtain⟨k,hk,w7⟩:=q7;exact again I7 w7 hk
   |true =>
    rw[if_pos rfl]at q7 ⊢;refine aN (he _ _ _ _ _ _ s7 _ H7 _ I7 q7) (fun yv s8 ⟨y,H8,I8,r8,hD8,k,hk,w8⟩=>?_) fun _ _ z=>z.elim;refine aN (GO (X:=Ai X scope cl N Hq.objs.size s2 H2 fp) _ s8 _ H8 (.ref s2.heap.objs.size) [y] (.ref s2.heap.objs.size) [yv] (fun _ H9=>H9=upd H8 s2.heap.objs.size (.lst (ys++[y]))) I8 rfl (.cons r8 .nil) ⟨_,ys,y,rfl,rfl,hD8,hsz,rfl⟩) (fun _ s9 ⟨_,H9,I9,_,e9⟩=>?_) fun _ _ z=>z.elim;subst e9;exact again I9 w8 hk
 exact codeAny_compStart_list (loop _ rfl) (T.self X.A 0 _ _ _ (T.keep _ _ _ st2 fun b _ o e=>old b o e) (loop _ rfl))
theorem Mn{pins:List (Addr×Obj)}{σ:St}{H2:Hp}{s2:Shared}{Q:VK}{it:Addr}{fp:List Addr}{tn:Nat→Heap→Prop}{J:It}{cl:List (Str×Addr)}{E:Value→Shared→Prop}{RR:Value→Addr→Result→Shared→Prop}
 (S:DC scope N x ix)(hcalm:X.calm=true)(hfr:Dg N X.N scope X.env.scope fr 0=true)(hlen:fr.length=N.length)
 (hif:∀cl C s₀ H₀ fp,KD (Ai X scope cl N C s₀ H₀ fp) ifs tif)(he:∀cl C s₀ H₀ fp,PE (Ai X scope cl N C s₀ H₀ fp) elt te)
 (I2:Inv X pins σ H2 s2)(T:Turn X.prog X.w X.K (.Name x px) J fp it tn)(st2:tn 0 s2.heap)(f2:∀b∈fp,Gm X pins H2 b)
 (c1:∀x c,cl.lookup x=some c→X.env.cells.lookup x=some c)(c2:∀x∈scope.names,x.2=NameKind.free→∃c,cl.lookup x.1=some c)
 (W:∀D,H2 D=none→∃W:Nat→Nat→List V→Hp→Prop,(∃m,W 0 m [] (upd H2 D (.lst []))) ∧
   ∀i m ys H,W i m ys H→H D=some (.lst ys)∧((J.stop i H∧Q (.ref D) H)∨(J.go i H∧ys.length<sizeLine∧∀x H',J.Dm i H x H' →
    tif ((carry fr σ).set ix (some x)) H' fun b H2=>if b=true then te ((carry fr σ).set ix (some x)) H2 fun y H3=>H3 D=some (.lst ys)∧∃m',m'<m∧W (i+1) m' (ys++[y]) (upd H3 D (.lst (ys++[y])))
     else ∃m',m'<m∧W (i+1) m' ys H2)))
 (fin:∀(D C:Addr) (s':Shared) (H':Hp) m,s'.heap.Ns C m→Q (.ref D) H'→(∀h',Heap.SameBut C s'.heap h'→Inv X pins σ H' { s' with heap:=h'})→C≠D→(∀b o,s2.heap.get? b=some o→b≠C)→H' C=none→s2.heap.objs.size≤C→RR (.ref D) C (.ok .next) s') :
  wpAny (model X.prog X.w) X.A (newList []) (fun acc s₃=>wpAny (model X.prog X.w) X.A (newFunctionEnv scope X.env.globals cl [] X.env.qual none .none (some X.env)) (fun cenv s₄ =>
   codeAny (model X.prog X.w) X.A (.compStart (.ListComp elt [⟨.Name x px,iter,ifs,0⟩] scope pos) 0 (.ref it) acc {cenv with scope:=relabel scope X.env}) (RR acc cenv.locals) s₄) E s₃) E s2:=by
 have hxv:(relabel scope X.env).names.lookup x=some .local:=lookup_relabel_local S.loc;refine Lm S hcalm (fun σ'=>∀v,σ'.set ix v=(carry fr σ).set ix v) (fun _=>rfl) (fun C=>Bg (X:=Ai X scope cl N C s2 H2 fp) S.nd S.at_ (.inl hxv) (.inr hxv)) hfr hlen hif he I2 T st2 f2 c1 c2 (fun D hD=>?_) fin;obtain⟨W,w0,st⟩:=W D hD;refine⟨W,w0,fun i m ys H w=>?_⟩;obtain⟨h1,h2|⟨h2,h3,h4⟩⟩:=st i m ys H w
 ·exact⟨h1,.inl h2⟩
 ·refine⟨h1,.inr ⟨h2,h3,fun x H' hy σ' hr=>?_⟩⟩;have:=h4 x H' hy;rw[←hr]at this;exact⟨fun v=>by rw[List.set_set,hr],this⟩
theorem X5(S:DC scope N x ix)(hcalm:X.calm=true)(hfr:Dg N X.N scope X.env.scope fr 0=true)(hlen:fr.length=N.length)(hfree:∀y∈scope.names,y.2=.free→X.env.scope.names.lookup y.1=some .cell∨X.env.scope.names.lookup y.1=some .free)
 (hi:PI X (.Name x px) iter wi)(hif:∀cl C s₀ H₀ fp,KD (Ai X scope cl N C s₀ H₀ fp) ifs tif)(he:∀cl C s₀ H₀ fp,PE (Ai X scope cl N C s₀ H₀ fp) elt te)
 (hs:∀x,foldedSetIterable iter X.env x=pure x:=by intro _;rfl):PE X (.ListComp elt [⟨.Name x px,iter,ifs,0⟩] scope pos) (Jm wi fr ix tif te):=by
 intro pins s σ H Q I hw;obtain⟨cl,hclos,c1,_,c2⟩:=FR (env:=X.env) scope.names [] (fun y hy hf=>I.ok.has y.1 (hfree y hy hf)) (fun y c z=>by cases z);have hclos':closureFor scope X.env=pure cl:=by
  have e:closureFor scope X.env=((forIn scope.names [] (fun(x:Str×NameKind) (r:List (Str×Addr))=>do if(x.2==NameKind.free)=true then do let a ←cellOf X.env x.1;pure (ForInStep.yield ((x.1,a)::r)) else pure (ForInStep.yield r)):Sem (List (Str×Addr)))>>=fun cs=>pure cs):=rfl;rw[e,hclos]
  rfl
 rw[eval_ListComp];refine wpAny_comprehension_free (use:=none) rfl hs hclos' S.kind S.names (Ar (hi pins s σ H _ I hw) fun v s1 h1=>Ar h1 fun itv s2 h2=>?_);obtain⟨it,fp,tn,J,H2,e,I2,T,st2,f2,W⟩:=h2;subst e;refine Mn (RR:=fun acc C=>compPost (model X.prog X.w) X.A X.xe none (EP X pins σ Q) acc C) S hcalm hfr hlen hif he I2 T st2 f2 c1 c2 W ?_;intro D C s' H' m hn q hI _ _ _ _;exact⟨m,hn,fun h' hs'=>⟨.ref D,H',hI h' hs',rfl,q⟩⟩
theorem R7{i : Nat}{y : Str}{py spos : Pos}(hN : X.N.Nodup)(hy : X.N[i]? = some y)(hly : X.env.scope.names.lookup y = some .local)(S : DC scope N x ix)(hcalm : X.calm = true)(hfr : Dg N X.N scope X.env.scope fr 0 = true)(hlen : fr.length = N.length)
 (hfree : ∀ y∈scope.names,y.2 = .free→X.env.scope.names.lookup y.1 = some .cell∨X.env.scope.names.lookup y.1 = some .free)
 (hi : PI X (.Name x px) iter wi)(hif : ∀ cl C s₀ H₀ fp,KD (Ai X scope cl N C s₀ H₀ fp) ifs tif)(he : ∀ cl C s₀ H₀ fp,PE (Ai X scope cl N C s₀ H₀ fp) elt te)
 (hsw : swapsWith (.ListComp elt [⟨.Name x px,iter,ifs,0⟩] scope pos) (some (.Name y py)) spos.line X.env = pure true := by rfl)
 (hs : ∀ x,foldedSetIterable iter X.env x = pure x := by intro _; rfl) :
    PS X (.Assign [.Name y py] (.ListComp elt [⟨.Name x px,iter,ifs,0⟩] scope pos) spos) (Pg (Jm wi fr ix tif te) (Fj i)) := by
  intro pins s σ H D I hw
  obtain ⟨cl,hclos,c1,_,c2⟩:=FR (env:=X.env) scope.names [] (fun y hy hf => I.ok.has y.1 (hfree y hy hf)) (fun y c z => by cases z)
  have hclos' : closureFor scope X.env = pure cl := by
    have e : closureFor scope X.env = ((forIn scope.names [] (fun (x : Str×NameKind) (r : List (Str×Addr)) => do if (x.2 == NameKind.free) = true then do let a ← cellOf X.env x.1; pure (ForInStep.yield ((x.1,a) :: r)) else pure (ForInStep.yield r)) : Sem (List (Str×Addr))) >>= fun cs => pure cs):=rfl
    rw [e,hclos]
    rfl
  rw [exec_Assign_Name_used _ _ _ _ hsw]
  refine aA (wpAny_standAt (aA ?_))
  show wpAny _ X.A (do let _ ← comprehension (.ListComp elt [⟨.Name x px,iter,ifs,0⟩] scope pos) scope X.env _ (newList []) false (eval iter X.env) (some (assign (.Name y py) X.env))) _ _ s
  refine aA (aN (wpAny_comprehension_free (use:=some (assign (.Name y py) X.env)) (Q:=fun _ s' => SP X pins D .next s') rfl hs hclos' S.kind S.names
    (Ar (hi pins s σ H _ I hw) fun v s1 h1 => Ar h1 fun itv s2 h2 => ?_)) (fun _ s' hq => aD (aD hq)) fun _ _ e => e)
  obtain ⟨it,fp,tn,J,H2,e,I2,T,st2,f2,W⟩:=h2
  subst e
  refine Mn (Q:=fun x H1 => Fj i x σ H1 D.nx) (RR:=fun acc C => compPost (model X.prog X.w) X.A X.xe (some (assign (.Name y py) X.env)) (fun _ s' => SP X pins D .next s') acc C) S hcalm hfr hlen hif he I2 T st2 f2 c1 c2 W ?_
  intro D' C s' H' m hn q hI hCD hold hfreeC hsz
  have I5 : Inv X pins σ H' s':=hI s'.heap (Heap.SameBut.refl ..)
  refine wpAny_assign_Name (OE I5 hN hy (.inl hly) (v:=.ref D') rfl (fun s'' I6 ⟨a,hsb,ha⟩ => ?_) (.inr hly))
  have hL : C≠X.env.locals:=fun z => by
    obtain ⟨_,⟨o,_,_,e,_⟩,_⟩:=I2.loc
    exact hold _ _ e z.symm
  have hcl : ∀ z c,X.env.cells.lookup z = some c→c≠C:=fun z c e => by
    obtain ⟨_,o,ho,_⟩:=I2.cell z c e
    exact hold _ _ ho
  have hCa : C≠a := by
    rcases ha with z | z
    · rw [z]; exact hL
    · exact Ne.symm (hcl _ _ z)
  refine ⟨m,hn.sameBut hsb hCa,fun h' hs' => ⟨_,H',I6.turned (t':=s''.toks) (it:=C) (fun b o hb e => (hs'.2 b hb).trans e) hfreeC hL (.inr (af I2.sz hsz)) hcl fun p hp => ?_,q⟩⟩
  obtain ⟨e,_⟩:=I2.pin p hp
  exact hold _ _ e
end
end L2
namespace FM
def gi(a b:Int):Int:=(Int.gcd a b:Int)
theorem Ph(a b:Int):Int.gcd b (a.fmod b)=Int.gcd a b:=by
 have e:a.fmod b=a-b*a.fdiv b:=Int.fmod_def a b;rw[e,Int.gcd_comm a b];exact Int.gcd_sub_mul_left_right b a (a.fdiv b)
theorem OO(a b:Int)(hb:b≠0):(a.fmod b).natAbs<b.natAbs:=by
 rcases Int.lt_or_gt_of_ne hb with h|h
 ·have h1:-(a.fmod b)=(-a).fmod (-b):=by
   rw[Int.fmod_def,Int.fmod_def,Int.neg_fdiv_neg];have:-b*a.fdiv b=-(b*a.fdiv b):=Int.neg_mul _ _
   lia
  have h2:=Int.fmod_nonneg_of_pos (-a) (show 0 < -b by lia);have h3:=Int.fmod_lt_of_pos (-a) (show 0 < -b by lia)
  lia
 ·have h2:=Int.fmod_nonneg_of_pos a h;have h3:=Int.fmod_lt_of_pos a h
  lia
theorem QW{a b:Int}(hb:b≠0):0<gi a b:=by
 have:0<Int.gcd a b:=Int.gcd_pos_of_ne_zero_right a hb;unfold gi;lia
theorem cK{a b:Int}(hb:b≠0):(gi a b).natAbs≤b.natAbs:=by
 have h:Int.gcd a b ∣ b.natAbs:=by
  have:=Int.gcd_dvd_right a b;exact Int.natAbs_dvd_natAbs.mpr this
 have h2:0<b.natAbs:=by lia
 have:=Nat.le_of_dvd h2 h;unfold gi;lia
def gs(t b:Int):Int:=if b<0 then -gi t b else gi t b
theorem cW{t b:Int}(hb:b≠0):gs t b≠0:=by
 have:=QW (a:=t) hb;unfold gs;split<;>lia
theorem cL{t b:Int}(hb:b≠0):(gs t b).natAbs≤b.natAbs:=by
 have:=cK (a:=t) hb;unfold gs;split<;>lia
theorem HG{g x k:Int}(hg:g≠0)(e:x=g*k):x.fdiv g=k:=by
 subst e;exact Int.mul_fdiv_cancel_left k hg
theorem Q0(a b:Int):gi a b ∣ a:=Int.gcd_dvd_left a b
theorem PC(a b:Int):gi a b ∣ b:=Int.gcd_dvd_right a b
theorem ZS{t b:Int}(hb:b≠0):t.fdiv (gs t b)=(Rat.divInt t b).num:=by
 have hp:=QW (a:=t) hb;obtain⟨k,hk⟩:=Q0 t b;rw[Rat.num_divInt,Int.gcd_comm b t];show t.fdiv (gs t b)=b.sign*t / gi t b;unfold gs;generalize gi t b=g at hp hk ⊢;rcases Int.lt_or_gt_of_ne hb with h|h
 ·rw[if_pos h,Int.sign_eq_neg_one_of_neg h,HG (k:=-k) (by lia) (by rw[hk];simp[Int.mul_neg,Int.neg_mul])];have:-1*t=g*(-k):=by rw[hk];simp[Int.mul_neg]
  rw[this,Int.mul_ediv_cancel_left _ (by lia)]
 ·rw[if_neg (by lia),Int.sign_eq_one_of_pos h,HG (k:=k) (by lia) hk,Int.one_mul,hk,Int.mul_ediv_cancel_left _ (by lia)]
theorem Yc{t b:Int}(hb:b≠0):b.fdiv (gs t b)=((Rat.divInt t b).den:Int):=by
 have hp:=QW (a:=t) hb;obtain⟨k,hk⟩:=PC t b;rw[Rat.den_divInt,if_neg hb,Int.gcd_comm b t];have e:(((b.natAbs / Int.gcd t b:Nat)):Int)=(b.natAbs:Int) / gi t b:=by unfold gi;simp
 rw[e];unfold gs;generalize gi t b=g at hp hk ⊢;rcases Int.lt_or_gt_of_ne hb with h|h
 ·rw[if_pos h,HG (k:=-k) (by lia) (by rw[Int.neg_mul_neg];exact hk)];have:(b.natAbs:Int)=g*(-k):=by rw[Int.mul_neg,←hk];lia
  rw[this,Int.mul_ediv_cancel_left _ (by lia)]
 ·rw[if_neg (by lia),HG (k:=k) (by lia) hk];have:(b.natAbs:Int)=g*k:=by rw[←hk];lia
  rw[this,Int.mul_ediv_cancel_left _ (by lia)]
end FM
namespace FM
theorem RA(a b:Int):Int.gcd (if a<0 then -a else a) (if b<0 then -b else b)=Int.gcd a b:=by
 split<;>split<;>simp[Int.gcd_neg,Int.neg_gcd]
theorem abs_nonneg(a:Int):0≤(if a<0 then -a else a):=by split<;>lia
theorem T6{g a b:Int}(h:Int.gcd g 0=Int.gcd a b)(h0:0≤g):g=gi a b:=by
 unfold gi;rw[←h,Int.gcd_zero_right]
 lia
theorem fmod_nonneg{g l:Int}(hl:l≠0)(h:0≤l):0≤g.fmod l:=Int.fmod_nonneg_of_pos g (by lia)
end FM
namespace L2
open PySem PySem.Spec PyProof.Rows
structure Fn(K:PySem.W.Frag)(mg:Str→Option Value)(x:Str)(st:Stmt)(ps:List Str)(f:Addr)(fd:FuncData):Prop where
 F:N7 K x x st f fd
 b:Binds K fd ps []
 m:mg x=some (.ref f)
section
variable{X:Cx}{k:Nat}{f:Addr}{fd:FuncData}{ps:List Str}{sp:Sp}{x:Str}{st:Stmt}{p pos:Pos}{e:Expr}{es:List Expr}{t:TA}
theorem Ei(T:Fn X.K X.mg x st ps f fd)(G:AM X.prog X.w X.K X.mg X.base A2 k f fd ps sp)(hr:CM k X.A)(hg:Gl X x)(ha:PA X (e::es) t)
 (hdb:(x==("__debug__" : Str))=false:=by decide)(he:starEach (e::es) X.env=(false,eval e X.env)::starEach es X.env:=by rfl)(hpl:(backTo pos (starEach es X.env)).any (·.1)=false:=by rfl) :
  PE X (.Call (.Name x p) (e::es) [] pos) (So sp [] E0 t):=RY G hr hg T.m T.F.kp T.b .nil dB ha hdb he hpl
end
theorem VG{t u:TS}{D:Ends}{σ:St}{H:Hp}(P:St→Hp→Prop)(h1:∀nx:St→Hp→Prop,(∀σ' H',P σ' H'→nx σ' H')→t {D with nx:=nx} σ H)(h2:∀σ' H',P σ' H'→u D σ' H'):Z0 t u D σ H:=h1 _ h2
theorem Wq:2≤sizeLine:=by decide
theorem BU{H:Hp}{p:Addr}(h:H p=none)(o:HO):AJ H (upd H p o):=fun b u q=>by rw[AR (BG q h)];exact q
def SameBut(l:Addr)(H H':Hp):Prop:=∀b o,b≠l→H b=some o→H' b=some o
theorem SameBut.of{l:Addr}{H H':Hp}(h:AJ H H'):SameBut l H H':=fun b o _ q=>h b o q
def eR(p:Rat):List V:=[.int p.num,.int (p.den:Int)]
def CG(p:Rat):PyData:=.tuple [.int p.num,.int (p.den:Int)]
theorem Bb.get{P:Program}{w:World}{H:Hp}{h:Heap}{a:Addr}{o:HO}(x:Bb P w H h a o):∃u,h.get? a=some u:=by
 cases o with
 |lst xs=>obtain⟨_,_,_,_,e⟩:=x;exact⟨_,e⟩
 |tup xs=>obtain⟨_,_,_,o,e,_⟩:=x;exact⟨o,e⟩
 |dK kvs=>obtain⟨_,_,_,_,o,_,_,e,_⟩:=x;exact⟨o,e⟩
 |dT kvs=>obtain⟨_,_,_,_,o,_,_,e,_⟩:=x;exact⟨o,e⟩
 |set S n=>obtain⟨o,_,_,_,e,_⟩:=x;exact⟨o,e⟩
 |ins C dx fs=>obtain⟨_,_,_,e,_⟩:=x;exact⟨_,e⟩
 |own y=>obtain⟨o,e⟩:=x;exact⟨o,e⟩
 |xd fs=>obtain⟨_,⟨o,_,_,e,_⟩,_⟩:=x;exact⟨o,e⟩
 |V9 lo hi=>obtain⟨_,_,_,e⟩:=x;exact⟨_,e⟩
 |DV ob u=>obtain⟨e,_⟩:=x;exact⟨_,e⟩
 |Lz ps=>exact⟨_,(show h.get? a=some _ from x)⟩
 |met f y=>exact⟨_,(show h.get? a=some _ from x)⟩
 |ext φ=>obtain⟨_,⟨o,e⟩,_⟩:=x;exact⟨o,e⟩
structure Rr(P:Program)(w:World)(outer:List Env)(H:Hp)(s:Shared)(ea:Addr)(cls a0:Value)(H':Hp)(s':Shared)(B:Heap):Prop where
 os:s'.os=s.os
 bare:AllBare s'.gens
 Zs:Heap.FlyingW B outer ea cls a0 s'.heap
 keep:∀b o,s.heap.get? b=some o→H b=none→b ∉ EF outer→B.get? b=some o
 there:∀b o,s.heap.get? b=some o→b ∉ EF outer→∃o',B.get? b=some o'
 slot:∀b o,s.heap.get? b=some o→b∈EF outer→∃sl,s'.heap.get? b=some {o with slots:=sl}
 free:∀b o,s.heap.get? b=some o→H b=none→H' b=none
 Bm:∀b xs,H b=some (.tup xs)→H' b=some (.tup xs)
 EB:∀b o u,H b=some (.DV o u)→H' b=some (.DV o u)
 Ek:∀b ps,H b=some (.Lz ps)→∃more,H' b=some (.Lz (ps++more))
 EI:∀b xs o,H b=some (.tup xs)→s.heap.get? b=some o→B.get? b=some o
 Aa:CV P w H' B
 new:s.heap.get? ea=none
def Bz(P:Program)(w:World):Fs:=fun outer H s E e s'=>∃ea cls a0 H' B,e=.ref ea∧Rr P w outer H s ea cls a0 H' s' B∧E cls none H'
theorem MD{base h:Heap}{l:List Env}(F:h.FunFrames base l){b:Addr}(hb:b∈EF l):∃o,h.get? b=some o∧∀vs,o.data≠.fields vs:=(F.mem hb).2
section
variable{P:Program}{w:World}{K:PySem.W.Frag}{mg:Str→Option Value}{base:Heap}{N:List Str}{qual:Str}{scope:Scope}{f:Addr}{cd:Value}{A:Around}{outer:List Env}{s:Shared}{H:Hp}{E:XK}
theorem X8{pins:List (Addr×Obj)}{σ:St}{H1:Hp}{s1:Shared}{h':Heap}{ea:Addr}{cls:Value}{args:List Value}(I:Inv (B4 (Bz P w) P w K mg base N qual scope f cd A outer s H E) pins σ H1 s1)
 (hx:Heap.MadeExcOf s1.heap h' ea cls args)(hE:E cls none H1):(B4 (Bz P w) P w K mg base N qual scope f cd A outer s H E).xe (.ref ea) {s1 with heap:=h'}:=by
 show wpAny (model P w) (A.deeper (envOfC qual scope s.heap.objs.size f cd)) (leaving (envOfC qual scope s.heap.objs.size f cd) (.ref ea)) _ _ _;have FF:=I.stack;have hfr:(A.deeper (envOfC qual scope s.heap.objs.size f cd)).frames=some (envOfC qual scope s.heap.objs.size f cd::outer):=I.ok.frames;have hin:∀env∈(envOfC qual scope s.heap.objs.size f cd::outer),∀b,env.frame=some b→b∈(envOfC qual scope s.heap.objs.size f cd::outer).filterMap (·.frame):=fun env he b hb=>List.mem_filterMap.mpr ⟨env,he,hb⟩;have notL:∀b o,s.heap.get? b=some o→b≠s.heap.objs.size:=fun b o e=>aL (aF e);have out:∀b,b≠s.heap.objs.size→b ∉ EF outer→b ∉ (envOfC qual scope s.heap.objs.size f cd::outer).filterMap (·.frame):=fun b h1 h2 hm=>by
  rcases aI.mp (I.Kh b hm) with z|z
  ·exact h1 z
  ·exact h2 z
 have outT:∀b u,H1 b=some u→b ∉ (envOfC qual scope s.heap.objs.size f cd::outer).filterMap (·.frame):=fun b u e hm=>by
  have:=I.NK b hm;rw[e]at this;cases this
 refine wpAny_leaves_madeW (base:=PySem.W.hideAll s1.heap ((envOfC qual scope s.heap.objs.size f cd::outer).filterMap (·.frame))) hfr rfl (fun b o q=>PySem.W.of_hideAll _ q) (PySem.W.funFrames_hide FF hin) hx fun h2 t fl _ _ up=>?_;have hokB:CV P w H1 (PySem.W.hideAll s1.heap ((envOfC qual scope s.heap.objs.size f cd::outer).filterMap (·.frame))):=fun b u e =>
  (I.Aa b u e).Gr (fun c v hc q=>PySem.W.hideAll_get _ q (by
   rcases hc with rfl|hc
   ·exact outT _ _ e
   ·exact outT _ _ hc)) (fun _ q=>q) fun _ _ q=>q
 refine⟨ea,cls,.ref t,H1,_,rfl,⟨I.os,I.bare,fl,fun b o e n hb=>?_,fun b o e hb=>?_,fun b o e hb=>?_,fun b o e n=>I.base.free b o e n (by simp[B4]),I.base.Bm,I.base.EB,I.base.Ek,fun b xs o q e=>PySem.W.hideAll_get _ (I.base.EI b xs o q e (by simp[B4])) (outT b _ (I.base.Bm b xs q)),hokB,?_⟩,hE⟩
 ·exact PySem.W.hideAll_get _ (I.base.keep b o e n hb (by simp[B4])) (out b (notL b o e) hb)
 ·obtain⟨o',e1⟩:=I.base.there b o e (by simp[B4]);exact⟨o',PySem.W.hideAll_get _ e1 (out b (notL b o e) hb)⟩
 ·obtain⟨sl,e1⟩:=I.base.slot b o e (I.ok.Mg b hb) hb (by simp[B4]);obtain⟨o',e2,hd⟩:=MD I.Ff hb;rw[e1]at e2;cases e2;obtain⟨sl',e3⟩:=up b _ (hx.keeps _ _ e1) hd;exact⟨sl',e3⟩
 ·cases q:s.heap.get? ea with
  |none=>rfl
  |some o =>
   obtain⟨o',e1⟩:=I.base.there ea o q (by simp[B4]);have:=hx.new;rw[e1]at this;cases this
theorem cj{E':XK}(hE:∀c a H',E' c a H'→E c a H'):Passes (Bz P w) (B4 (Bz P w) P w K mg base N qual scope f cd A outer s H E) E':=by
 intro pins σ H1 s1 e s2 I ⟨ea,cls,a0,H2,B,ee,F,hq⟩;subst ee;show wpAny (model P w) (A.deeper (envOfC qual scope s.heap.objs.size f cd)) (leaving (envOfC qual scope s.heap.objs.size f cd) (.ref ea)) _ _ _;have notL:∀b o,s.heap.get? b=some o→b≠s.heap.objs.size:=fun b o e=>aL (aF e);have out:∀b,b≠s.heap.objs.size→b ∉ EF outer→b ∉ EF (B4 (Bz P w) P w K mg base N qual scope f cd A outer s H E).stack:=fun b h1 h2 hm=>by
  rcases aI.mp (I.Kh b hm) with z|z
  ·exact h1 z
  ·exact h2 z
 refine wpAny_leaves_onW I.ok.frames rfl F.Zs fun h3 fl up=>?_;refine⟨ea,cls,a0,H2,B,rfl,⟨F.os.trans I.os,F.bare,fl,fun b o e n hb=>?_,fun b o e hb=>?_,fun b o e hb=>?_,fun b o e n=>?_,fun b xs q=>F.Bm b xs (I.base.Bm b xs q),fun b o u q=>F.EB b o u (I.base.EB b o u q),fun b ps q=>?_,fun b xs o q e=>F.EI b xs o (I.base.Bm b xs q) (I.base.EI b xs o q e (by simp[B4])),F.Aa,?_⟩,hE _ _ _ hq⟩
 ·exact F.keep b o (I.base.keep b o e n hb (by simp[B4])) (I.base.free b o e n (by simp[B4])) (out b (notL b o e) hb)
 ·obtain⟨o',e1⟩:=I.base.there b o e (by simp[B4]);exact F.there b o' e1 (out b (notL b o e) hb)
 ·obtain⟨sl,e1⟩:=I.base.slot b o e (I.ok.Mg b hb) hb (by simp[B4]);have hb':b∈EF (B4 (Bz P w) P w K mg base N qual scope f cd A outer s H E).stack:=by
   show b∈EF (envOfC qual scope s.heap.objs.size f cd::outer);unfold EF;rw[List.filterMap_cons];exact aa _ hb
  obtain⟨sl2,e2⟩:=F.slot b _ e1 hb';obtain⟨o',e3,hd⟩:=MD I.Ff hb;rw[e1]at e3;cases e3;obtain⟨sl3,e4⟩:=up b _ e2 hd;exact⟨sl3,e4⟩
 ·obtain⟨o',e1⟩:=I.base.there b o e (by simp[B4]);exact F.free b o' e1 (I.base.free b o e n (by simp[B4]))
 ·obtain⟨m1,e1⟩:=I.base.Ek b ps q;obtain⟨m2,e2⟩:=F.Ek b _ e1;exact⟨m1++m2,by rw[e2,Array.append_assoc]⟩
 ·cases q:s.heap.get? ea with
  |none=>rfl
  |some o =>
   obtain⟨o',e1⟩:=I.base.there ea o q (by simp[B4]);have:=F.new;rw[e1]at this;cases this
theorem N7.fW{x:Str}{st:Stmt}{fd:FuncData}{ps:List Str}{k:Nat}{sp:Sp}(F:N7 K x x st f fd)(S:Af N ps (AO st))(len:∀vs H Q E,sp vs H Q E→vs.length=ps.length)
 (hbody:∀(cdv:Value) (A:Around) (outer:List Env) (s:Shared) (H:Hp) (vs:List V) (Q:VK) (E:XK),CM k (A.deeper (envOfC x (AO st) s.heap.objs.size f cdv))→sp vs H Q E →
   ∃t,FZ (B4 (Bz P w) P w K mg base N x (AO st) f cdv A outer s H E) (Cs st) t∧t { nx:=fun _ H'=>Q .BR H',rt:=Q} (start N vs) H):AM P w K mg base (Bz P w) (k+1) f fd ps sp:=by
 obtain⟨oc,od,kV,doc,pm,an,cdv,ct,osl,rfl,lk,hcd⟩:=F.ex;exact Wu lk hcd S len fun A outer s H vs Q E hr hsp=>hbody cdv A outer s H vs Q E hr hsp
end
structure Exc(K:PySem.W.Frag)(mg:Str→Option Value)(x:Str)(C:Addr):Prop where
 m:mg x=some (.ref C)
 q:PySem.W.excIn K C [.type "ValueError",.type "Exception",.type "BaseException",.type "object"] "ValueError.__new__" = true
theorem YA{K:PySem.W.Frag}{h:Heap}{C:Addr}{bB:List Value}{nid:String}(KH:K.In h)(hq:PySem.W.excIn K C bB nid=true) :
  ∃tl N nm qn bs hd sn sub ab col dd k0 k1 k2 k3 k5 mN,h.get? C=some (excClassObj nm qn C N bs tl hd sn sub ab col dd k0 k1 k2 k3 k5 nid)∧h.Ns N mN∧mN "__init__" = none∧OwnTail h bB tl:=by
 unfold PySem.W.excIn at hq;split at hq
 ·rename_i dd cd sl lk;split at hq
  ·rename_i C1 tl k0 k1 k2 k3 n1 k5 e1 e2;simp only[Bool.and_eq_true,beq_iff_eq,Bool.not_eq_true']at hq;obtain⟨⟨⟨⟨⟨y1,y2⟩,y3⟩,y4⟩,y5⟩,y6⟩:=hq;subst y1 y2;obtain⟨nm,bs,mro,N,qn,hd,sn,sub,ab,col,del⟩:=cd;dsimp only at e1 y3 y5 y6;subst e1 y3;have e3:sl=#[k0,k1,k2,k3,some (.builtin n1),k5]:=by
    cases sl with
    |mk l=>simp only at e2;rw[e2]
   subst e3;exact⟨tl,N,nm,qn,bs,hd,sn,sub,ab,col,dd,k0,k1,k2,k3,k5,_,KH _ _ lk,.of_isNs (PySem.W.isNs_of_in KH y5),PySem.W.nsMap_none_of_in KH y5 y6,PySem.W.tail_of_in KH y4⟩
  ·cases hq
 ·cases hq
section
variable{X:Cx}{x:Str}{C:Addr}{np cpos pos:Pos}{e:Expr}{te:TE}{E:XK}
def Lets(X:Cx)(E:XK):Prop:=∀(pins:List (Addr×Obj)) (σ:St) (H:Hp) (s:Shared) (h':Heap) (ea:Addr) (cls:Value) (args:List Value),Inv X pins σ H s→Heap.MadeExcOf s.heap h' ea cls args→E cls none H→X.xe (.ref ea) {s with heap:=h'}
def Yh(C:Addr)(E:XK)(te:TE):TS:=fun _ σ H=>te σ H fun _ H1=>E (.ref C) none H1
theorem VF(T:Exc X.K X.mg x C)(hL:Lets X E)(hcalm:X.calm=true)(hg:Gl X x)(he:PE X e te)(hd:(x==("__debug__" : Str))=false:=by decide)
 (hst:starEach [e] X.env=[(false,eval e X.env)]:=by rfl):PS X (.Raise (some (.Call (.Name x np) [e] [] cpos)) none pos) (Yh C E te):=by
 intro pins s σ H D I h;obtain⟨tl,N,nm,qn,bs,hdct,sn,sub,ab,col,dd,k0,k1,k2,k3,k5,mN,hC,hN,hni,TL⟩:=YA I.ok.mod.KH T.q;refine wpAny_Raise_call_subT (C:=C) (nm:=nm) (q:=qn) (N:=N) (bs:=bs) (bm:=tl) (hdct:=hdct) (sn:=sn) (sub:=sub) (ab:=ab) (col:=col) (dd:=dd) (k0:=k0) (k1:=k1) (k2:=k2) (k3:=k3) (k5:=k5)
  PySem.F.excBase_ValueError (mN:=mN) (TL.hasType (by decide)) (I.ok.hd hcalm) (by rw[hst];rfl) hni (JN I hg T.m ⟨rfl,?_⟩ hd)
 rw[hst];refine Calls.evalArgs_plain (Calls.spliced_cons (Ar (he pins s σ H _ I h) fun u s1 ⟨v,H1,I1,r1,q1⟩=>Calls.spliced_nil ?_));exact⟨rfl,by show 1≤sizeLine;decide,I1.bk _ _ hC,hN.keeps I1.bk,TL.keeps I1.bk,fun h' ea hm=>hL pins σ H1 s1 h' ea _ _ I1 hm q1⟩
end
def WR(X:Cx)(pins:List (Addr×Obj))(σ:St)(E:XK)(e:Value)(s':Shared):Prop:=∃H0 s0,Inv X pins σ H0 s0∧Bz X.prog X.w X.stack H0 s0 E e s'
abbrev TX:=St→Hp→VK→XK→Prop
def dn(X:Cx)(e:Expr)(t:TX):Prop :=
 ∀(pins:List (Addr×Obj)) (s:Shared) (σ:St) (H:Hp) (Q:VK) (E:XK),Inv X pins σ H s→t σ H Q E→wpAny (model X.prog X.w) X.A (eval e X.env) (EP X pins σ Q) (WR X pins σ E) s
section
variable{X:Cx}{k:Nat}{f:Addr}{fd:FuncData}{ps:List Str}{sp:Sp}{e:Expr}  
theorem NP{pins:List (Addr×Obj)}{σ:St}{H:Hp}{s:Shared}{Q:VK}{E:XK}{us:List Value}{vs:List V}(F:AM X.prog X.w X.K X.mg X.base (Bz X.prog X.w) k f fd ps sp)(hr:CM k X.A)(hb:Binds X.K fd ps [])
 (I:Inv X pins σ H s)(r:Vals vs us)(h:sp (vs++[]) H Q E):wpAny (model X.prog X.w) X.A (call (.ref f) us) (EP X pins σ Q) (WR X pins σ E) s:=by
 rw[List.append_nil]at h;have hl:(us++[]).length=ps.length:=by rw[List.append_nil,←r.length];exact F.len _ _ _ _ h
 have hb':=hb s us I.EG hl;rw[List.append_nil]at hb';refine wpAny_call (codeAny_mono (F.run X.A X.stack s H ⟨us,[]⟩ us vs Q E hr I.Y9 hb' r h) fun r s' hq=>?_);cases r with
 |error e=>exact⟨H,s,I,hq⟩
 |ok fl =>
  cases fl with
  |ret u=>exact I.after hq
  |next=>exact False.elim hq
  |brk=>exact False.elim hq
  |cont=>exact False.elim hq
end
theorem land{X:Cx}{pins:List (Addr×Obj)}{σ:St}{H0 H':Hp}{s0 s':Shared}{ea:Addr}{cls a0:Value}{B:Heap}(I:Inv X pins σ H0 s0)(F:Rr X.prog X.w X.stack H0 s0 ea cls a0 H' s' B)
 {h':Heap}{tk:Nat}(st:B.StaysIn h')(up:s'.heap.UpToSlots h'):Inv X pins σ H' { s' with heap:=h',toks:=tk}:=by
 have fdat:∀b o,s0.heap.get? b=some o→b∈EF X.stack→∃sl,h'.get? b=some {o with slots:=sl}:=fun b o e hb=>by
  obtain⟨sl,e1⟩:=F.slot b o e hb;obtain⟨o',e2,hd⟩:=MD I.stack hb;rw[e]at e2;cases e2;obtain⟨sl',e3⟩:=up b _ e1 hd;exact⟨sl',e3⟩
 refine I.WQ (s':={ s' with heap:=h',toks:=tk}) (ch:=[]) F.os ⟨fun b o e n hb _=>st b o (F.keep b o e n hb),fun b o e n hb _=>fdat b o e hb,fun b o e n _=>F.free b o e n,fun b o e _=>?_,F.Bm,F.EB,F.Ek,fun b xs o q e _=>st b o (F.EI b xs o q e)⟩ (F.Aa.kept st) F.bare fun b z=>absurd z (by simp);by_cases hb:b∈EF X.stack
 ·obtain⟨sl,e1⟩:=fdat b o e hb;exact⟨_,e1⟩
 ·obtain⟨o',e1⟩:=F.there b o e hb;exact⟨o',st _ _ e1⟩
def Im(ea:Addr)(cls:Value):HO:=.ext fun h=>∃o vs,h.get? ea=some o∧o.cls=cls∧o.data=.fields vs
theorem cV{X:Cx}{pins:List (Addr×Obj)}{σ:St}{H0 H':Hp}{s0 s' s6:Shared}{ea:Addr}{cls a0:Value}{B:Heap}(I:Inv X pins σ H0 s0)(F:Rr X.prog X.w X.stack H0 s0 ea cls a0 H' s' B)
 (I6:Inv X pins σ H' s6)(ho:∃o vs,s6.heap.get? ea=some o∧o.cls=cls∧o.data=.fields vs):H' ea=none∧Inv X pins σ (upd H' ea (Im ea cls)) s6:=by
 have hn:H' ea=none:=by
  cases q:H' ea with
  |none=>rfl
  |some u =>
   obtain⟨o,e⟩:=(F.Aa ea u q).get;rw[F.Zs.2.1]at e;cases e
 have ne:∀b o,s0.heap.get? b=some o→b≠ea:=fun b o e z=>by rw[z,F.new]at e;cases e
 have up:∀b,b≠ea→upd H' ea (Im ea cls) b=H' b:=fun b z=>AR z;have neT:∀b u,H' b=some u→b≠ea:=fun b u e z=>by rw[z,hn]at e;cases e
 refine⟨hn,I6.ok,I6.os,I6.bare,⟨I6.base.keep,I6.base.slot,fun b o e n hx=>?_,I6.base.there,fun b xs e=>?_,fun b o u e=>?_,fun b ps e=>?_,I6.base.EI⟩,I6.loc,I6.cell,?_,fun y c e=>?_,fun p hp=>?_,fun b u e=>?_,I6.len⟩
 ·obtain⟨o',e1⟩:=I.base.there b o e hx;rw[up b (ne b o' e1)];exact I6.base.free b o e n hx
 ·have:=I6.base.Bm b xs e;rw[up b (neT _ _ this)];exact this
 ·have:=I6.base.EB b o u e;rw[up b (neT _ _ this)];exact this
 ·obtain⟨m,e1⟩:=I6.base.Ek b ps e;exact⟨m,by rw[up b (neT _ _ e1)];exact e1⟩
 ·obtain⟨m,⟨o,_,_,e,_⟩,_⟩:=I.loc;rw[up _ (ne _ o e)];exact I6.free
 ·obtain⟨v,o,e1,_⟩:=I.cell y c e;rw[up _ (ne _ o e1)];exact I6.EH y c e
 ·obtain⟨e1,e2,e3⟩:=I6.pin p hp;have e0:=(I.pin p hp).1;exact⟨e1,by rw[up _ (ne _ _ e0)];exact e2,e3⟩
 ·by_cases hb:b=ea
  ·subst hb;rw[AW]at e;cases e;obtain⟨o,vs,e1,e2,e3⟩:=ho;exact⟨⟨o,vs,e1,e2,e3⟩,⟨o,e1⟩,fun h1 h2 ⟨o1,vs1,q1,q2⟩ k=>⟨o1,vs1,k _ q1,q2⟩⟩
  ·rw[up b hb]at e;exact(I6.Aa b u e).Gr (fun c v _ q=>q) (fun c q=>by rw[up c (neT _ _ q)];exact q) fun c xs q=>by rw[up c (neT _ _ q)];exact q
structure A5(K:PySem.W.Frag)(C G:Addr)(b:Bool):Prop where
 cl:(PySem.W.clsIn K G).isSome=true
 ty:PySem.W.typeIn K (.ref G)=some (.type "type")
 ex:PySem.W.subIn K (.ref G) (.type "BaseException")=some true
 sub:PySem.W.subIn K (.ref C) (.ref G)=some b
theorem P5{M:Model}{A:Around}{E:Value→Shared→Prop}{s:Shared}{K:PySem.W.Frag}{e C G:Addr}{oe:Obj}{b:Bool}{Q:Bool→Shared→Prop}(X:K.In s.heap)(he:s.heap.get? e=some oe)(hc:oe.cls=.ref C)(B:A5 K C G b)
 (h:Q b s):wpAny M A (excMatches (.ref e) (.ref G)) Q E s:=by
 have l1:PySem.W.Looks M s.heap (isInstance (.ref G) (.type "tuple")) false:=(PySem.W.looks_typeIn X B.ty).andThen (PySem.W.Looks.of_pure tc_notTuple);have l2:PySem.W.Looks M s.heap (isType (.ref G)) true:=by
  have z:=B.cl;unfold PySem.W.clsIn at z;split at z
  ·rename_i c' d' cd' sl' ho;intro A' Q' E' s' k q;unfold isType loadHead;exact aA (wpAny_loadPart (k _ _ (X _ _ ho)) (aD q))
  ·cases z
 have l3:PySem.W.Looks M s.heap (isSubtype (.ref G) (.type "BaseException")) true:=PySem.W.looks_subIn X B.ex;have l4:PySem.W.Looks M s.heap (typeOf (.ref e)) (.ref C):=hc ▸ (PySem.W.Looks.ld he).andThen .now
 have l5:PySem.W.Looks M s.heap (isSubtype (.ref C) (.ref G)) b:=PySem.W.looks_subIn X B.sub;obtain⟨hp,g,d,tk,os⟩:=s;unfold excMatches isExcClass;refine aA (l1.at ?_);simp only[Bool.false_eq_true,if_false];refine aA (aD ?_);simp only[List.forIn_cons,List.forIn_nil];refine aA (aA (aA (aA (l2.at ?_))));simp only[if_true];refine l3.at ?_;simp only[Bool.not_true,Bool.false_eq_true,if_false];refine aD (aD (aA (l4.at (aA (aA (aA (l5.at ?_)))))));cases b with
 |true =>
  simp only[if_true];exact aD (aD (aD h))
 |false =>
  simp only[Bool.false_eq_true,if_false];exact aD (aD (aD h))
def Cx.held(X:Cx)(ea:Addr):Cx:={X with A:=X.A.mark (some (.ref ea)),calm:=false,xe:=fun _ _=>False}
theorem Inv.held{X:Cx}{pins:List (Addr×Obj)}{σ:St}{H:Hp}{s:Shared}(I:Inv X pins σ H s)(ea:Addr):Inv (X.held ea) pins σ H s :=
 ⟨⟨I.ok.mod,I.ok.kind,I.ok.glob,I.ok.blt,I.ok.above,I.ok.inj,I.ok.has,I.ok.Pn,fun z=>(by cases z),I.ok.frames,I.ok.TN,I.ok.Zu,I.ok.bs,I.ok.M1,I.ok.Np,I.ok.Nj,I.ok.Ff,I.ok.Mg,I.ok.kt⟩,I.os,I.bare,I.base,I.loc,I.cell,I.free,I.EH,I.pin,I.Aa,I.len⟩
theorem Inv.Z4{X:Cx}{pins:List (Addr×Obj)}{σ:St}{H:Hp}{s:Shared}{ea:Addr}(ok:X.Ok)(I:Inv (X.held ea) pins σ H s):Inv X pins σ H s :=
 ⟨ok,I.os,I.bare,I.base,I.loc,I.cell,I.free,I.EH,I.pin,I.Aa,I.len⟩
theorem eE{X:Cx}{pins:List (Addr×Obj)}{σ:St}{H:Hp}{s:Shared}{M:Model}{A:Around}{E:Value→Shared→Prop}{i:Nat}{n:Str}{pos:Pos}{Q:Unit→Shared→Prop}(I:Inv X pins σ H s)(hN:X.N.Nodup)(hi:X.N[i]? = some n)
 (hl:X.env.scope.names.lookup n=some .local)(h:∀s',Inv X pins (σ.set i none) H s'→Q () s'):wpAny M A (do bindName X.env n .none;unbindBehindTheSuite X.env n pos) Q E s:=by
 obtain⟨m,hn,hlk⟩:=id I.loc;have hcls:(X.env.scope.kind==.class||(X.env.scope.kind==.module&&X.env.locals != X.env.globals))=false:=by rw[I.ok.kind];rfl
 refine wpAny_nameGoes_keeps hl hn hcls fun h' v hn' hs=>h _ ?_;have hiS:i<σ.length:=by rw[I.len];exact(aG.mp hi).1
 obtain⟨oL,_,_,hoL,_⟩:=id hn;have tr:CV X.prog X.w H h':=fun b ob e=>(I.Aa b ob e).Gr (fun c w' hc q=>(hs.2 c (by
  rintro rfl;rcases hc with hc|hc
  ·rw[←hc,I.free]at e;cases e
  ·rw[I.free]at hc;cases hc)).trans q) (fun _ q=>q) fun _ _ q=>q
 refine⟨I.ok,I.os,I.bare,⟨fun b o e n hb hx=>?_,fun b o e n hb hx=>?_,I.base.free,fun b o e hx=>?_,I.base.Bm,I.base.EB,I.base.Ek,fun b xs o q e hx=>(hs.2 b (aL (aJ (aF e) I.ok.above))).trans (I.base.EI b xs o q e hx)⟩,⟨_,hn',fun j y v' e1 e2 e3=>?_⟩,fun y c e=>?_,I.free,I.EH,fun p hp=>?_,tr,by simpa using I.len⟩
 ·exact(hs.2 b (aL (aJ (aF e) I.ok.above))).trans (I.base.keep b o e n hb hx)
 ·obtain⟨sl,e1⟩:=I.base.slot b o e n hb hx;exact⟨sl,(hs.2 b (aL (aJ (aF e) I.ok.above))).trans e1⟩
 ·obtain⟨o',e1⟩:=I.base.there b o e hx;exact⟨o',(hs.2 b (aL (aJ (aF e) I.ok.above))).trans e1⟩
 ·by_cases hj:j=i
  ·subst hj;rw[List.getElem?_set_self hiS]at e2;cases e2
  ·rw[List.getElem?_set_ne (Ne.symm hj)]at e2;obtain⟨u',r',q⟩:=hlk j y v' e1 e2 e3;refine⟨u',r',?_⟩;rcases q with ⟨k,e⟩|⟨k,c,e,z⟩
   ·refine .inl ⟨k,?_⟩;have:y≠n:=fun e=>hj (L6 hN e1 (e ▸ hi));simp[this,e]
   ·exact .inr ⟨k,c,e,z.sameBut hs (I.M6 y c e)⟩
 ·obtain⟨w',z⟩:=I.cell y c e;exact⟨w',z.sameBut hs (I.M6 y c e)⟩
 ·obtain⟨e,n',ne,nf,d⟩:=I.pin p hp;exact⟨(hs.2 p.1 ne).trans e,n',ne,nf,d⟩
open PySem PySem.Spec PyProof.Rows PySem.Builtin.ObjectAttr PySem.Builtin.Getset_descriptor
structure Bj(K:PySem.W.Frag)(C:Addr):Prop where
 cl:(PySem.W.clsIn K C).isSome=true
 ga:PySem.W.findIn K (.ref C) "__getattribute__" = some (some (.builtin "BaseException.__getattribute__"))
 gh:PySem.W.findIn K (.ref C) "__getattr__" = some none
 at_:PySem.W.findIn K (.ref C) "__class__" = some (some (.builtin "object.__class__"))
 gt:PySem.W.specialIn K (.builtin "object.__class__") "__get__" = some (some (.builtin "getset_descriptor.__get__"))
 tk:PySem.W.takesIn K (.builtin "object.__class__")=some true
 ob:PySem.W.mroIn K C (.type "object")=some true
 be:PySem.W.mroIn K C (.type "BaseException")=some true
def excAt(x C:Addr)(h:Heap):Prop:=∃o vs,h.get? x=some o∧o.cls=.ref C∧o.data=.fields vs
theorem excAt.ty{x C:Addr}{h:Heap}(p:excAt x C h)(M:Model):PySem.W.Looks M h (typeOf (.ref x)) (.ref C):=by
 obtain⟨o,_,e,c,_⟩:=p;exact c ▸ (PySem.W.Looks.ld e).andThen .now
theorem Vw{K:PySem.W.Frag}{C:Addr}{h:Heap}(X:K.In h)(z:(PySem.W.clsIn K C).isSome=true)(M:Model):PySem.W.Looks M h (isType (.ref C)) true:=by
 unfold PySem.W.clsIn at z;split at z
 ·rename_i c' d' cd' sl' ho;intro A' Q' E' s' k q;exact aA (wpAny_loadPart (k _ _ (X _ _ ho)) (aD q))
 ·cases z
section
variable{prog:Program}{w:World}{A:Around}{E:Value→Shared→Prop}{K:PySem.W.Frag}{x C:Addr}{h:Heap}{g:Array GenState}{d:Drawn}{t:Nat}{os:OsState}
theorem Vf(X:K.In h)(F:Bj K C)(M:Model):PySem.W.Looks M h (find (.ref x) (.ref C) "__class__") (.bind (.builtin "getset_descriptor.__get__") (.builtin "object.__class__")):=by
 have a1:=PySem.W.looks_findIn (M:=M) X F.at_;have a2:PySem.W.Looks M h (getOf (some (.builtin "object.__class__"))) (some (.builtin "getset_descriptor.__get__")):=PySem.W.looks_specialIn X F.gt;have a3:=PySem.W.looks_takesIn (M:=M) X F.tk;exact a1.andThen (a2.andThen ((show PySem.W.Looks M h (dataDescriptor? (some (.builtin "object.__class__")) (some (.builtin "getset_descriptor.__get__"))) (some (.builtin "getset_descriptor.__get__",.builtin "object.__class__")) from a3.andThen .now).andThen (PySem.W.Looks.tag .now)))
theorem Xx{tp:Value}{R:Result→Shared→Prop}(X:K.In h)(F:Bj K C)(p:excAt x C h)(hR:R (.ok (.ret (.ref C))) ⟨h,g,d,t,os⟩) :
  codeAny (model prog w) A (.call (.builtin "getset_descriptor.__get__") ⟨[.builtin "object.__class__",.ref x,tp],[]⟩) R ⟨h,g,d,t,os⟩:=by
 have b0:=p.ty (model prog w);have b1:=PySem.W.looks_mroIn (M:=model prog w) X F.ob;refine codeAny_call_builtin PySem.W.KF.slot_gs.plain PySem.W.KF.entry_gs ?_;refine PySem.W.KF.slot_gs.check _ _ _ _ _ _ _ _ PySem.W.KF.type_class (PySem.W.KF.args_gs _ _ _) ?_;unfold Builtin.«getset_descriptor.__get__» descrGet;rw[PySem.W.dga_obj];refine aA (aD ?_);unfold descrGetter descrCheckInstance descrNameAndClass isInstance;simp only[PySem.W.KF.owner_class]
 repeat lk
 refine⟨Code.quiet_builtin _ (by decide +kernel),codeAny_builtin PySem.W.KF.entry_class ?_⟩;unfold Builtin.«object.__class__» shownTypeOf
 repeat lk
 exact hR
theorem UT{tk:Tok}{Q:Fin→Shared→Prop}(X:K.In h)(F:Bj K C)(p:excAt x C h)(hQ:Q (.done (.ret (.ref C))) ⟨h,g,d,t,os⟩) :
  wpAny (model prog w) A (Builtin.«object.__getattribute__» ⟨[.ref x,.str "__class__" tk],[]⟩) Q E ⟨h,g,d,t,os⟩:=by
 have b0:=p.ty (model prog w);have b1:=Vf (x:=x) X F (model prog w);unfold Builtin.«object.__getattribute__»
 repeat lk
 refine wpAny_run (Xx X F p ?_);exact aD (aD hQ)
theorem UR{nameV:Value}{Q:Unit→Shared→Prop}(X:K.In h)(F:Bj K C)(p:excAt x C h)(hQ:Q () ⟨h,g,d,t,os⟩) :
  wpAny (model prog w) A (checkBuiltinCall "BaseException.__getattribute__" ⟨[.ref x,nameV],[]⟩) Q E ⟨h,g,d,t,os⟩:=by
 have c1:builtinKind "BaseException.__getattribute__" = some .slot:=by decide +kernel
 have c2:splitId "BaseException.__getattribute__" = some ("BaseException", "__getattribute__"):=by decide +kernel
 have c3:=PySem.F.args_bexc_ga (.ref x) nameV;have b0:=p.ty (model prog w);have b1:=PySem.W.looks_mroIn (M:=model prog w) X F.be;simp only[checkBuiltinCall,c1,c2];refine aA ?_;unfold isInstance
 repeat lk
 exact hQ
theorem Tz{Q:Option Value→Shared→Prop}(X:K.In h)(F:Bj K C)(p:excAt x C h)(hQ:Q (some (.ref C)) ⟨h,g,d,t+1,os⟩) :
  wpAny (model prog w) A (getAttr? (.ref x) "__class__") Q E ⟨h,g,d,t,os⟩:=by
 have b0:=p.ty (model prog w);have b1:=PySem.W.looks_findIn (M:=model prog w) X F.ga;have b2:=PySem.W.looks_findIn (M:=model prog w) X F.gh;unfold getAttr? getAttrBy? getAttrBy;refine aA (wpAny_mkText (aA (wpAny_attempt (bF (aA (b0.at (aA (b1.at ?_))))))));have c2:(Value.builtin "BaseException.__getattribute__" == Value.builtin "object.__getattribute__")=false:=by decide +kernel
 have c1:¬((onTheHeap (Value.ref C)&&Value.builtin "BaseException.__getattribute__" == Value.builtin "object.__getattribute__")=true):=by rw[c2,Bool.and_false];exact aK
 show wpAny _ _ (if(onTheHeap (Value.ref C)&&Value.builtin "BaseException.__getattribute__" == Value.builtin "object.__getattribute__")=true then _ else _) _ _ _;rw[if_neg c1];unfold getAttrByItsOwn;refine aA (show wpAny _ _ (typeLookup (Value.ref C) "__getattr__") _ _ _ from b2.at ?_);refine aA (wpAny_attempt (bF ?_));show wpAny _ _ (boundAndCalled _ _ _) _ _ _;unfold boundAndCalled;have f3:=(PySem.F.excAttr_ValueError).ga.bind (.ref x);refine aA (wpAny_of_eq f3 ?_);refine wpAny_call (codeAny_call_builtin (PySem.F.excAttr_ValueError).ga.plain PySem.F.entry_bexc_ga (UR X F p (UT X F p ?_)));exact aD (aD hQ)
end
theorem Ve{K:PySem.W.Frag}{x C:Addr}(F:Bj K C):PySem.W.KitX K (.ref x) (.ref C) (excAt x C) where
 ty:=fun M h _ p=>p.ty M
 it:=fun M h X _=>Vw X F.cl M
 ne:=fun h tp dd its n sl X htp=>by
  have z:=F.cl;refine aU.mpr fun q=>?_;have e:C=tp:=Value.ref.inj (beq_iff_eq.mp q);subst e;unfold PySem.W.clsIn at z;split at z
  ·rename_i c' d' cd' sl' ho;have y:=(X _ _ ho).symm.trans htp;cases y
  ·cases z
 ca:=fun {prog w A E Q s} X p k=>by
  obtain⟨h,g,d,t,os⟩:=s;exact Tz X F p k
def Bq:V→Value
 |.ref C=>.ref C
 |.ty n=>.type n
 |_=>.none
theorem RV{c:V}{u:Value}(r:RelV c u)(h:Bq c≠.none):u=Bq c:=by
 cases c with
 |ref C=>exact r
 |ty n=>exact r
 |_=>exact absurd rfl h
section
variable{X:Cx}
def e8(K:PySem.W.Frag):List V→Hp→VK→Prop:=fun xs H Q=>∃x c t b,xs=[x,c]∧Bq c≠.none∧E5 K H x t∧PySem.W.kitOne K t (Bq c)=some b∧Q (.bl b) H
theorem C0:GC X (.builtin "isinstance") (e8 X.K):=by
 intro pins s σ H xs us Q I r h;obtain⟨x,c,t,b,rfl,hc,ty,e,q⟩:=h;obtain⟨u,v,rfl,r1,r2⟩:=r.two;rw[RV r2 hc];exact TY I r1 ty e fun tk=>⟨.bl b,H,I.tok tk,rfl,q⟩
def bh(K:PySem.W.Frag):List V→Hp→VK→Prop:=fun xs H Q=>∃ea C c b,xs=[.ref ea,c]∧Bq c≠.none∧H ea=some (Im ea (.ref C))∧Bj K C∧PySem.W.kitOne K (.ref C) (Bq c)=some b∧Q (.bl b) H
theorem UX:GC X (.builtin "isinstance") (bh X.K):=by
 intro pins s σ H xs us Q I r h;obtain⟨ea,C,c,b,rfl,hc,he,F,e,q⟩:=h;obtain⟨u,v,rfl,r1,r2⟩:=r.two;rw[RV r2 hc];cases (show u=Value.ref ea from r1);obtain⟨p,_,_⟩:=(show Bb X.prog X.w H s.heap ea (Im ea (.ref C)) from I.Aa ea _ he);exact ae (Ve F) I.EG p e (fun z=>nomatch z) fun tk=>⟨.bl b,H,I.tok tk,rfl,q⟩
end
theorem Z9(K:PySem.W.Frag):PySem.W.kitOne K (.type "tuple") (.type "tuple")=some true:=rfl
theorem Yl(K:PySem.W.Frag):PySem.W.kitOne K (.type "int") (.type "int")=some true:=rfl
theorem Ye(K:PySem.W.Frag):PySem.W.kitOne K (.type "bool") (.type "bool")=some true:=rfl
theorem YY(K:PySem.W.Frag):PySem.W.kitOne K (.type "int") (.type "bool")=some false:=by kernel_rfl
theorem Zq(K:PySem.W.Frag):PySem.W.kitOne K (.type "bool") (.type "int")=some true:=by kernel_rfl
theorem Zr(K:PySem.W.Frag):PySem.W.kitOne K (.type "list") (.type "tuple")=some false:=by kernel_rfl
theorem YN(K:PySem.W.Frag):PySem.W.kitOne K (.type "tuple") (.type "list")=some false:=by kernel_rfl
theorem Z3(K:PySem.W.Frag):PySem.W.kitOne K (.type "list") (.type "list")=some true:=rfl
theorem bL(K:PySem.W.Frag):PySem.W.kitOne K (.type "int") (.type "tuple")=some false:=by kernel_rfl
theorem YH(K:PySem.W.Frag):PySem.W.kitOne K (.type "bool") (.type "tuple")=some false:=by kernel_rfl
theorem ZO(K:PySem.W.Frag):PySem.W.kitOne K (.type "NoneType") (.type "tuple")=some false:=by kernel_rfl
theorem Y2(K:PySem.W.Frag):PySem.W.kitOne K (.type "str") (.type "tuple")=some false:=by kernel_rfl
theorem Zy(K:PySem.W.Frag):PySem.W.kitOne K (.type "tuple") (.type "int")=some false:=by kernel_rfl
theorem ZD(K:PySem.W.Frag):PySem.W.kitOne K (.type "list") (.type "int")=some false:=by kernel_rfl
theorem Zi(K:PySem.W.Frag):PySem.W.kitOne K (.type "NoneType") (.type "int")=some false:=by kernel_rfl
theorem Zl(K:PySem.W.Frag):PySem.W.kitOne K (.type "str") (.type "int")=some false:=by kernel_rfl
theorem bO(K:PySem.W.Frag):PySem.W.kitOne K (.type "int") (.type "list")=some false:=by kernel_rfl
theorem ZI(K:PySem.W.Frag):PySem.W.kitOne K (.type "bool") (.type "list")=some false:=by kernel_rfl
theorem Yp(K:PySem.W.Frag):PySem.W.kitOne K (.type "NoneType") (.type "list")=some false:=by kernel_rfl
theorem ZP(K:PySem.W.Frag):PySem.W.kitOne K (.type "str") (.type "list")=some false:=by kernel_rfl
def freeOk(xsc:Scope)(names:List (Str×NameKind)):Bool:=names.all fun y=>y.2 != .free||xsc.names.lookup y.1==some .cell||xsc.names.lookup y.1==some .free
theorem Ky{xsc:Scope}{names:List (Str×NameKind)}(h:freeOk xsc names=true):∀y∈names,y.2=.free→xsc.names.lookup y.1=some .cell∨xsc.names.lookup y.1=some .free:=fun y hy hf=>by
 have q:=List.all_eq_true.mp h y hy;rw[hf]at q;simp only[bne_self_eq_false,Bool.false_or,Bool.or_eq_true,beq_iff_eq]at q;exact q
def Bd(scope:Scope)(N:List Str)(x:Str)(ix:Nat):Bool :=
 scope.kind==.function&&(scope.names.all fun y=>y.2 != .cell&&(y.2 != .local||scope.names.lookup y.1==some .local)&&(y.2 != .free||scope.names.lookup y.1==some .free))&&scope.names.lookup x==some .local&&decide N.Nodup&&N[ix]? == some x
theorem Fb{scope:Scope}{N:List Str}{x:Str}{ix:Nat}(h:Bd scope N x ix=true):DC scope N x ix:=by
 unfold Bd at h;simp only[Bool.and_eq_true,beq_iff_eq,decide_eq_true_eq,List.all_eq_true,bne_iff_ne,Bool.or_eq_true]at h;obtain⟨⟨⟨⟨h1,h2⟩,h3⟩,h4⟩,h5⟩:=h;exact⟨h1,fun y hy=>(h2 y hy).1.1,fun y hy hl=>(h2 y hy).1.2.resolve_left fun z=>z hl,fun y hy hl=>(h2 y hy).2.resolve_left fun z=>z hl,h3,h4,h5⟩
section
variable{X:Cx}{elt iter:Expr}{x:Str}{px pos:Pos}{ifs:List Expr}{scope:Scope}{wi:TI}{tif:TT}{te:TE}
theorem Ma(N:List Str)(ix:Nat)(fr:List (Option Nat))(hi:PI X (.Name x px) iter wi)(hif:∀cl C s₀ H₀ fp,KD (Ai X scope cl N C s₀ H₀ fp) ifs tif)(he:∀cl C s₀ H₀ fp,PE (Ai X scope cl N C s₀ H₀ fp) elt te)
 (h1:Bd scope N x ix=true:=by decide +kernel)(h2:X.calm=true:=by rfl)(h3:Dg N X.N scope X.env.scope fr 0=true:=by rfl)(h4:fr.length=N.length:=by rfl)(h5:freeOk X.env.scope scope.names=true:=by rfl)
 (hs:∀x,foldedSetIterable iter X.env x=pure x:=by intro _;rfl):PE X (.ListComp elt [⟨.Name x px,iter,ifs,0⟩] scope pos) (Jm wi fr ix tif te) :=
 X5 (Fb h1) h2 h3 h4 (Ky h5) hi hif he hs
theorem Lv{i:Nat}{y:Str}{py spos:Pos}(N:List Str)(ix:Nat)(fr:List (Option Nat))(hN:X.N.Nodup)(hy:X.N[i]? = some y)(hly:X.env.scope.names.lookup y=some .local)
 (hi:PI X (.Name x px) iter wi)(hif:∀cl C s₀ H₀ fp,KD (Ai X scope cl N C s₀ H₀ fp) ifs tif)(he:∀cl C s₀ H₀ fp,PE (Ai X scope cl N C s₀ H₀ fp) elt te)
 (h1:Bd scope N x ix=true:=by decide +kernel)(h2:X.calm=true:=by rfl)(h3:Dg N X.N scope X.env.scope fr 0=true:=by rfl)(h4:fr.length=N.length:=by rfl)(h5:freeOk X.env.scope scope.names=true:=by rfl)
 (hsw:swapsWith (.ListComp elt [⟨.Name x px,iter,ifs,0⟩] scope pos) (some (.Name y py)) spos.line X.env=pure true:=by rfl)
 (hs:∀x,foldedSetIterable iter X.env x=pure x:=by intro _;rfl):PS X (.Assign [.Name y py] (.ListComp elt [⟨.Name x px,iter,ifs,0⟩] scope pos) spos) (Pg (Jm wi fr ix tif te) (Fj i)) :=
 R7 hN hy hly (Fb h1) h2 h3 h4 (Ky h5) hi hif he hsw hs
end
section
variable{X:Cx}{k:Nat}{f:Addr}{fd:FuncData}{ps:List Str}{sp:Sp}{x:Str}{st:Stmt}{p pos:Pos}{e:Expr}{es:List Expr}{t:TA}{E:XK}
theorem ZZ(T:Fn X.K X.mg x st ps f fd)(G:AM X.prog X.w X.K X.mg X.base (Bz X.prog X.w) k f fd ps sp)(hr:CM k X.A)(hg:Gl X x)(hP:Passes (Bz X.prog X.w) X E)(ha:PA X (e::es) t)
 (hdb:(x==("__debug__" : Str))=false:=by decide)(he:starEach (e::es) X.env=(false,eval e X.env)::starEach es X.env:=by rfl)(hpl:(backTo pos (starEach es X.env)).any (·.1)=false:=by rfl) :
  PE X (.Call (.Name x p) (e::es) [] pos) (So sp [] E t):=RY G hr hg T.m T.F.kp T.b .nil hP ha hdb he hpl
end
end L2
inductive Tr where
 |nil
 |cons (b r:Tr)
 deriving DecidableEq
namespace Tr
def bs:Tr→List Tr
 |.nil=>[]
 |.cons b r=>b::r.bs
def of:List Tr→Tr
 |[]=>.nil
 |b::r=>.cons b (of r)
theorem Sr:∀t:Tr,of t.bs=t
 |.nil=>rfl
 |.cons b r=>by rw[bs,of,Sr r]
theorem Yw{t u:Tr}(h:t.bs=u.bs):t=u:=by rw[←Sr t,h,Sr]
def len:Tr→Nat
 |.nil=>0
 |.cons _ r=>r.len+1
theorem PZ:∀t:Tr,t.bs.length=t.len
 |.nil=>rfl
 |.cons _ r=>by rw[bs,List.length_cons,PZ r,len]
def deep:Tr→Nat
 |.nil=>0
 |.cons b r=>max (b.deep+1) r.deep
def lt:Tr→Tr→Bool
 |.nil,.nil=>false
 |.nil,.cons _ _=>true
 |.cons _ _,.nil=>false
 |.cons b r,.cons c q=>if b=c then lt r q else lt b c
end Tr
namespace TH
open PySem PyProof.Rows PySem.SeqAt
def Vs(h:Heap):Tr→List Value→Prop
 |.nil,us=>us=[]
 |.cons b r,us=>∃(a:Addr) (its rest:List Value),us=.ref a::rest∧h.IsTuple a its.toArray∧Vs h b its∧Vs h r rest
theorem Vs.length{h:Heap}:∀ {t:Tr} {us:List Value},Vs h t us→us.length=t.len
 |.nil,us,e=>by rw[Vs]at e;rw[e];rfl
 |.cons b r,us,e=>by
  rw[Vs]at e;obtain⟨a,its,rest,rfl,_,_,q⟩:=e;rw[List.length_cons,Tr.len,Vs.length q]
theorem NA{h:Heap}{a:Addr}{x y:Array Value}(h1:h.IsTuple a x)(h2:h.IsTuple a y):x=y:=by
 obtain⟨o,e,_,n,d⟩:=h1;obtain⟨o',e',_,n',d'⟩:=h2;rw[e]at e';cases e';rw[d]at d';cases d';rfl
theorem Vs.inj{h:Heap}:∀ {t u:Tr} {us:List Value},Vs h t us→Vs h u us→t=u
 |.nil,.nil,_,_,_=>rfl
 |.nil,.cons _ _,us,e,f=>by
  rw[Vs]at e;rw[Vs]at f;obtain⟨_,_,_,f,_⟩:=f;rw[e]at f;cases f
 |.cons _ _,.nil,us,e,f=>by
  rw[Vs]at e;rw[Vs]at f;obtain⟨_,_,_,e,_⟩:=e;rw[f]at e;cases e
 |.cons b r,.cons c q,us,e,f=>by
  rw[Vs]at e f;obtain⟨a,its,rest,rfl,h1,h2,h3⟩:=e;obtain⟨a',its',rest',e',k1,k2,k3⟩:=f;cases e';have:=NA h1 k1;have e2:its=its':=by simpa using this
  subst e2;rw[Vs.inj h2 k2,Vs.inj h3 k3]
theorem SW{s:Shared}:∀(t u:Tr) (A:Around) (us vs:List Value),Vs s.heap t us→Vs s.heap u vs→A.units+t.deep≤cLine →
  ∀j (h1:j<us.length) (h2:j<vs.length),EqAt A s us[j] vs[j] (decide (t.bs[j]? = u.bs[j]?))
 |.nil,u,A,us,vs,e,f,_,j,h1,h2=>by
  rw[Vs]at e;subst e;exact absurd h1 (bD _)
 |.cons b r,.nil,A,us,vs,e,f,_,j,h1,h2=>by
  rw[Vs]at f;subst f;exact absurd h2 (bD _)
 |.cons b r,.cons c q,A,us,vs,e,f,hu,j,h1,h2=>by
  rw[Vs]at e f;obtain⟨a,its,rest,rfl,k1,k2,k3⟩:=e;obtain⟨a',its',rest',rfl,l1,l2,l3⟩:=f;have hd:(Tr.cons b r).deep=max (b.deep+1) r.deep:=rfl;cases j with
  |zero =>
   show EqAt A s (.ref a) (.ref a') (decide (some b=some c));by_cases ea:a=a'
   ·subst ea;have:=NA k1 l1;have e2:its=its':=by simpa using this
    subst e2;rw[Vs.inj k2 l2,decide_eq_true rfl];exact EqAt.same _
   ·refine EqAt.of_refs ea ?_;have key:=RcAt.tuples (s:=s) (A:=A) (e:=fun j=>decide (b.bs[j]? = c.bs[j]?)) k1 l1 (by lia) fun j x1 x2=>by
     have:=SW b c A.in1 its its' k2 l2 (by rw[show A.in1.units=A.units+1 from rfl];lia) j (by simpa using x1) (by simpa using x2)
     simpa using this
    have ev:((List.range (min its.toArray.size its'.toArray.size)).all (fun j=>decide (b.bs[j]? = c.bs[j]?))&&its.toArray.size==its'.toArray.size)=decide (some b=some c):=by
     have z1:its.toArray.size=b.bs.length:=by rw[Tr.PZ,←Vs.length k2];simp
     have z2:its'.toArray.size=c.bs.length:=by rw[Tr.PZ,←Vs.length l2];simp
     rw[z1,z2];by_cases hbc:b=c
     ·subst hbc;simp
     ·rw[decide_eq_false (fun z=>hbc (aS z))];cases hl:b.bs.length==c.bs.length with
      |false=>rw[Bool.and_false]
      |true =>
       rw[Bool.and_true];have hl':b.bs.length=c.bs.length:=by simpa using hl
       refine aU.mpr fun z=>hbc (Tr.Yw (List.ext_getElem? fun i=>?_));by_cases hi:i<b.bs.length
       ·have:=List.all_eq_true.mp z i (List.mem_range.mpr (by lia))
        simpa using this
       ·rw[List.getElem?_eq_none (by lia),List.getElem?_eq_none (by lia)]
    rw[ev]at key;exact key
  |succ j =>
   exact SW r q A rest rest' k3 l3 (by lia) j (by simpa using h1) (by simpa using h2)
theorem eU{s:Shared}{t u:Tr}{A:Around}{a b:Addr}{its its':List Value}(h1:s.heap.IsTuple a its.toArray)(k1:Vs s.heap t its)(h2:s.heap.IsTuple b its'.toArray)(k2:Vs s.heap u its')(hu:A.units+t.deep<cLine) :
  EqAt A s (.ref a) (.ref b) (decide (t=u)):=by
 have:=SW (.cons t .nil) (.cons u .nil) A [.ref a] [.ref b] ⟨a,its,[],rfl,h1,k1,by rw[Vs]⟩ ⟨b,its',[],rfl,h2,k2,by rw[Vs]⟩ (by show A.units+max (t.deep+1) 0≤cLine;lia) 0 (by simp) (by simp)
 simpa[Tr.bs]using this
section
open PySem.AutoSeq1 (wpAny_loadPart')
open PySem.MeetsSeq PySem.MeetsSeq2 PySem.MeetsSeq3
theorem U7(n0:Nat)(ih:∀(t u:Tr) (A:Around) (s:Shared) (a b:Addr) (its its':List Value),t.deep<n0→s.heap.IsTuple a its.toArray→Vs s.heap t its→s.heap.IsTuple b its'.toArray→Vs s.heap u its'→A.units+t.deep<cLine →
   ∀(prog:Program) (w:World) (E:Value→Shared→Prop) (Q:Value→Shared→Prop),Q (.bool (Tr.lt u t)) s→wpAny (model prog w) A (richCompare .Gt (.ref a) (.ref b)) Q E s)
 (l b:Addr)(items items2:Array Value)(n n2:Nat)(dd dd2:Option Addr)(sl sl2:Array (Option Value))(t u:Tr)(ht:t.deep≤n0) :
  Meets (Builtin.«tuple.__gt__» ⟨[.ref l,.ref b],[]⟩)
   (fun A R s=>s.heap.get? l=some { cls:=.type "tuple",dict:=dd,data:=.seq items n,slots:=sl}∧s.heap.get? b=some { cls:=.type "tuple",dict:=dd2,data:=.seq items2 n2,slots:=sl2} ∧
    Vs s.heap t items.toList∧Vs s.heap u items2.toList∧A.units+t.deep<cLine∧R (.ok (.ret (.bool (Tr.lt u t)))) s) :=
 .of_wp fun prog w A R s h=>by
  obtain⟨hp,g,d,tk,os⟩:=s;obtain⟨hl,hb,hi,hj,hun,h⟩:=h;have f2:=AutoSeq1.sub_tuple_tuple;have z1:items.size=t.len:=by rw[←Vs.length hi];simp
  have z2:items2.size=u.len:=by rw[←Vs.length hj];simp
  wp_walk using wpAny_loadPart' hl,wpAny_loadPart' hb,wpAny_forIn_list _ (fun rest b s'=>b.1=none∧s'=⟨hp,g,d,tk,os⟩∧∃(vs ws:List Value) (t' u':Tr),rest=vs.zip ws ∧
   Vs hp t' vs∧Vs hp u' ws∧t'.deep≤t.deep∧t'.len+items2.size=u'.len+items.size∧R (.ok (.ret (.bool (Tr.lt u' t')))) ⟨hp,g,d,tk,os⟩) _
  case turn =>
   rintro⟨y,x⟩ rest b s' ⟨hb',rfl,vs,ws,t',u',hz,hvi,hwi,hdp,hlen,hR⟩;cases t' with
   |nil=>rw[Vs]at hvi;subst hvi;rw[List.zip_nil_left]at hz;cases hz
   |cons bt rt =>
    cases u' with
    |nil=>rw[Vs]at hwi;subst hwi;rw[List.zip_nil_right]at hz;cases hz
    |cons bu ru =>
     rw[Vs]at hvi hwi;obtain⟨a1,i1,v1,rfl,p1,p2,p3⟩:=hvi;obtain⟨a2,i2,v2,rfl,q1,q2,q3⟩:=hwi;rw[List.zip_cons_cons]at hz
     injection hz with hyx hrest
     injection hyx with hy hx
     subst hy hx;have hdd:(Tr.cons bt rt).deep=max (bt.deep+1) rt.deep:=rfl;rw[Tr.lt]at hR;simp only[Tr.len]at hlen;have he:=eU (s:=⟨hp,g,d,tk,os⟩) (A:=A.in1) p1 p2 q1 q2 (by rw[show A.in1.units=A.units+1 from rfl];lia);refine aA (he prog w _ _ ?_);cases hc:decide (bt=bu) with
     |true =>
      rw[if_pos (aX hc).symm]at hR
      wp_walk
      exact⟨rfl,rfl,_,_,_,_,hrest,p3,q3,by lia,by lia,hR⟩
     |false =>
      rw[if_neg (fun z=>ah hc z.symm)]at hR;have hri:=ih bt bu A.in1 ⟨hp,g,d,tk,os⟩ a1 a2 i1 i2 (by lia) p1 p2 q1 q2 (by rw[show A.in1.units=A.units+1 from rfl];lia) prog w
      wp_walk using hri
      exact⟨_,rfl,by simpa using hR⟩
  case fin =>
   rintro⟨b1,b2⟩ s' ⟨hb',rfl,vs,ws,t',u',hz,hvi,hwi,hdp,hlen,hR⟩;simp only at hb';subst hb';have hv:Tr.lt u' t'=decide (items2.size<items.size):=by
    cases t' with
    |nil =>
     cases u' with
     |nil =>
      simp only[Tr.len]at hlen;exact(aO (by lia)).symm
     |cons c q =>
      simp only[Tr.len]at hlen;exact(aO (by lia)).symm
    |cons bt rt =>
     cases u' with
     |nil =>
      simp only[Tr.len]at hlen;exact(av (by lia)).symm
     |cons c q =>
      rw[Vs]at hvi hwi;obtain⟨_,_,_,rfl,_⟩:=hvi;obtain⟨_,_,_,rfl,_⟩:=hwi;rw[List.zip_cons_cons]at hz;cases hz
   rw[hv]at hR
   wp_walk
   exact⟨_,rfl,by simpa[Builtin.Tuple.tupleCompareSizes]using hR⟩
  case h =>
   exact⟨rfl,rfl,items.toList,items2.toList,t,u,rfl,hi,hj,Nat.le_refl _,by lia,h⟩
theorem WI:∀(n0:Nat) (t u:Tr) (A:Around) (s:Shared) (a b:Addr) (its its':List Value),t.deep<n0→s.heap.IsTuple a its.toArray→Vs s.heap t its→s.heap.IsTuple b its'.toArray→Vs s.heap u its'→A.units+t.deep<cLine →
   ∀(prog:Program) (w:World) (E:Value→Shared→Prop) (Q:Value→Shared→Prop),Q (.bool (Tr.lt u t)) s→wpAny (model prog w) A (richCompare .Gt (.ref a) (.ref b)) Q E s
 |0,_,_,_,_,_,_,_,_,h,_,_,_,_,_=>absurd h (bD _)
 |n0+1,t,u,A,s,a,b,its,its',hd,hl,ht,hb,hu',hun=>fun prog w E Q h=>by
  obtain⟨⟨cls,dd,data,sl⟩,ho,hc,n,hdt⟩:=id hl;obtain⟨⟨cls2,dd2,data2,sl2⟩,ho2,hc2,n2,hdt2⟩:=id hb;simp only at hc hdt hc2 hdt2;subst hc hdt hc2 hdt2;exact richCompare_meets_room (op:=.Gt) ⟨_,ho,rfl⟩ ⟨_,ho2,rfl⟩ PySem.F.slot_tuple_gt PySem.F.entry_tuple_gt (PySem.F.args_tuple_gt_2 _ _) (U7 n0 (WI n0) a b its.toArray its'.toArray n n2 dd dd2 sl sl2 t u (by lia))
   ⟨ho,ho2,by simpa using ht,by simpa using hu',hun,show Value.bool (Tr.lt u t)≠Value.notImplemented∧Q (.bool (Tr.lt u t)) s from⟨(fun x=>nomatch x),h⟩⟩ (by lia)
end
end TH
namespace SM
open PySem.W PyProof.Rows
def Wp{α:Type}(lt:Nat→Nat→Bool)(n:Nat):KasT α→(α→Prop)→Prop
 |.ret a,Q=>Q a
 |.ask i j k,Q=>i<n∧j<n∧Wp lt n (k (lt i j)) Q
theorem Wp.mono{α:Type}{lt:Nat→Nat→Bool}{n:Nat}{Q Q':α→Prop}(hq:∀a,Q a→Q' a):∀t:KasT α,Wp lt n t Q→Wp lt n t Q'
 |.ret a,h=>hq a h
 |.ask i j k,h=>⟨h.1,h.2.1,Wp.mono hq (k (lt i j)) h.2.2⟩
theorem Wp.bind{α β:Type}{lt:Nat→Nat→Bool}{n:Nat}{f:α→KasT β}{Q:β→Prop}:∀t:KasT α,Wp lt n t (fun a=>Wp lt n (f a) Q)→Wp lt n (t.bind f) Q
 |.ret _,h=>h
 |.ask i j k,h=>⟨h.1,h.2.1,Wp.bind (k (lt i j)) h.2.2⟩
theorem IC{p:Array Nat}{i j:Nat}(hj:j≤p.size)(k:Nat):(kas_rev p i j).getD k 0=if i≤k∧k<j then p.getD (i+j-1-k) 0 else p.getD k 0:=by
 have e:=getElem?_mirror_all (i:=i) hj k;unfold kas_rev;rw[Array.getD_eq_getD_getElem?,Array.getD_eq_getD_getElem?,Array.getD_eq_getD_getElem?,e];split<;>rfl
theorem Qe{p:Array Nat}{src d:Nat}(hs:src<p.size)(hd:d≤src)(k:Nat) :
  (bubble p src d).getD k 0=if k=src-d then p.getD src 0 else if src-d<k∧k≤src then p.getD (k-1) 0 else p.getD k 0:=by
 have e:=getElem?_bubble hs d hd k;simp only[Array.getD_eq_getD_getElem?,e];split
 ·rfl
 ·split<;>rfl
section
variable{O:KeyOrd}{key:Nat→O.α}{n:Nat}
def Key(key:Nat→O.α)(p:Array Nat)(i:Nat):O.α:=key (p.getD i 0)
def Up(key:Nat→O.α)(p:Array Nat)(m:Nat):Prop:=∀i j,i≤j→j<m→O.kle (Key key p i) (Key key p j)
def Dn(key:Nat→O.α)(p:Array Nat)(m:Nat):Prop:=∀i j,i≤j→j<m→O.kle (Key key p j) (Key key p i)
structure Pm(n:Nat)(p:Array Nat):Prop where
 perm:p.Perm (List.toArray (List.range n))
 pos:0<n
theorem Pm.size{p:Array Nat}(h:Pm n p):p.size=n:=by rw[h.perm.size_eq];simp
theorem Pm.lt{p:Array Nat}(h:Pm n p)(i:Nat):p.getD i 0<n:=by
 rw[Array.getD_eq_getD_getElem?];by_cases hi:i<p.size
 ·rw[Array.getElem?_eq_getElem hi];have hm:p[i]∈p:=Array.getElem_mem hi;have:=(h.perm.mem_iff).mp hm
  simpa using this
 ·rw[Array.getElem?_eq_none (by lia)];exact h.pos
theorem Pm.rev{p:Array Nat}(h:Pm n p)(i j:Nat):Pm n (kas_rev p i j):=⟨(mirror_perm _ _ _ _).trans h.perm,h.pos⟩
theorem Pm.bubble{p:Array Nat}(h:Pm n p)(i j:Nat):Pm n (bubble p i j):=⟨(bubble_perm _ _ _).trans h.perm,h.pos⟩
abbrev FH(key:Nat→O.α):Nat→Nat→Bool:=fun i j=>O.blt (key i) (key j)
theorem Up.one{p:Array Nat}:Up key p 1:=fun i j h1 h2=>by
 have:i=j:=by lia
 subst this;exact bE _
theorem Up.more{p:Array Nat}{m:Nat}(h:Up key p m)(h1:1≤m)(hk:O.kle (Key key p (m-1)) (Key key p m)):Up key p (m+1):=fun i j hij hj=>by
 by_cases e:j=m
 ·subst e;by_cases e2:i=j
  ·subst e2;exact bE _
  ·exact KeyOrd.kle_trans (h i (j-1) (by lia) (by lia)) hk
 ·exact h i j hij (by lia)
theorem Dn.more{p:Array Nat}{m:Nat}(h:Dn key p m)(h1:1≤m)(hk:O.kle (Key key p m) (Key key p (m-1))):Dn key p (m+1):=fun i j hij hj=>by
 by_cases e:j=m
 ·subst e;by_cases e2:i=j
  ·subst e2;exact bE _
  ·exact KeyOrd.kle_trans hk (h i (j-1) (by lia) (by lia))
 ·exact h i j hij (by lia)
theorem asc{p:Array Nat}(hp:Pm n p):∀(f m:Nat),1≤m→Up key p m→Wp (FH key) n (kas_asc p f m) fun r=>m≤r∧r≤m+f∧Up key p r∧(r=m+f∨O.klt (Key key p r) (Key key p (r-1)))
 |0,m,_,h=>⟨aH _,Nat.le_refl _,h,.inl rfl⟩
 |f+1,m,h1,h=>by
  refine⟨hp.lt _,hp.lt _,?_⟩;cases c:FH key (p.getD m 0) (p.getD (m-1) 0) with
  |true=>exact⟨aH _,by lia,h,.inr c⟩
  |false =>
   simp only[Bool.false_eq_true,if_false];refine Wp.mono (fun r hr=>?_) _ (asc hp f (m+1) (by lia) (h.more h1 c));exact⟨by lia,by lia,hr.2.2.1,hr.2.2.2.elim (fun z=>.inl (by lia)) .inr⟩
def Eq(key:Nat→O.α)(p:Array Nat)(m q:Nat):Prop:=q<m∧∀k,m-(q+1)≤k→k<m→Key key p k=Key key p (m-1)
theorem rev_eq{p:Array Nat}{m q:Nat}(h:Eq key p m q)(hm:m≤p.size)(k:Nat):Key key (kas_rev p (m-(q+1)) m) k=Key key p k:=by
 unfold Key;rw[IC hm];split
 ·have a:=h.2 (m-(q+1)+m-1-k) (by have:=h.1;lia) (by have:=h.1;lia);have b:=h.2 k (by lia) (by lia);exact a.trans b.symm
 ·rfl
theorem desc:∀(f:Nat) (p:Array Nat) (m q:Nat),Pm n p→1≤m→m+f≤n→Dn key p m→Eq key p m q→Wp (FH key) n (kas_desc f p m q) fun r=>Pm n r.1∧m≤r.2.1∧r.2.1≤m+f∧Dn key r.1 r.2.1∧Eq key r.1 r.2.1 r.2.2
 |0,p,m,q,hp,_,_,h,e=>⟨hp,Nat.le_refl _,Nat.le_refl _,h,e⟩
 |f+1,p,m,q,hp,h1,hf,h,e=>by
  refine⟨hp.lt _,hp.lt _,?_⟩;have hm:m≤p.size:=by rw[hp.size];lia
  cases c:FH key (p.getD m 0) (p.getD (m-1) 0) with
  |true =>
   have ck:O.klt (Key key p m) (Key key p (m-1)):=c;simp only[if_true];have fin:∀p':Array Nat,Pm n p'→(∀k,Key key p' k=Key key p k)→Wp (FH key) n (kas_desc f p' (m+1) 0) fun r=>Pm n r.1∧m≤r.2.1∧r.2.1≤m+(f+1)∧Dn key r.1 r.2.1∧Eq key r.1 r.2.1 r.2.2:=fun p' hp' hk=>by
    have hd:Dn key p' (m+1):=fun i j hij hj=>by rw[hk,hk];exact h.more h1 (KeyOrd.kle_of_klt ck) i j hij hj
    have he:Eq key p' (m+1) 0:=⟨by lia,fun k h1 h2=>by rw[show k=m+1-1 by lia]⟩;exact Wp.mono (fun r hr=>⟨hr.1,by lia,by lia,hr.2.2.2.1,hr.2.2.2.2⟩) _ (desc f p' (m+1) 0 hp' (by lia) (by lia) hd he)
   split
   ·exact fin _ (hp.rev _ _) (rev_eq e hm)
   ·exact fin _ hp fun _=>rfl
  |false =>
   simp only[Bool.false_eq_true,if_false];refine⟨hp.lt _,hp.lt _,?_⟩;cases d:FH key (p.getD (m-1) 0) (p.getD m 0) with
   |true =>
    simp only[if_true];exact⟨hp,Nat.le_refl _,Nat.le_add_right _ _,h,e⟩
   |false =>
    simp only[Bool.false_eq_true,if_false];have ek:Key key p m=Key key p (m-1):=KeyOrd.kle_antisymm (show O.kle (Key key p m) (Key key p (m-1)) from d) (show O.kle (Key key p (m-1)) (Key key p m) from c);refine Wp.mono (fun r hr=>⟨hr.1,by lia,by lia,hr.2.2.2.1,hr.2.2.2.2⟩) _ (desc f p (m+1) (q+1) hp (by lia) (by lia) (h.more h1 (by rw[ek];exact bE _)) ⟨by have:=e.1;lia,fun k h2 h3=>?_⟩);rw[show m+1-1=m by lia,ek];by_cases z:k=m
    ·rw[z,ek]
    ·exact e.2 k (by lia) (by lia)
theorem YQ{p:Array Nat}{m:Nat}(h:Dn key p m)(hm:m≤p.size):Up key (kas_rev p 0 m) m:=fun i j hij hj=>by
 unfold Key;rw[IC hm,IC hm,if_pos ⟨ar _,by lia⟩,if_pos ⟨ar _,by lia⟩];exact h (0+m-1-j) (0+m-1-i) (by lia) (by lia)
theorem tail3{p:Array Nat}{m:Nat}(hp:Pm n p)(h1:1≤m)(hm:m≤n)(h:Dn key p m):Wp (FH key) n (kas_tail3 m n p) fun r=>Pm n r.2∧1≤r.1∧r.1≤n∧Up key r.2 r.1:=by
 unfold kas_tail3;refine Wp.bind _ (Wp.mono (fun r hr=>?_) _ (asc (hp.rev 0 m) (n-m) m h1 (YQ h (by rw[hp.size];exact hm))));exact⟨hp.rev 0 m,by lia,by lia,hr.2.2.1⟩
theorem descPart{p:Array Nat}{m:Nat}(hp:Pm n p)(h1:1≤m)(hm:m+1≤n)(h:Dn key p (m+1)):Wp (FH key) n (kas_descPart m n p) fun r=>Pm n r.2∧1≤r.1∧r.1≤n∧Up key r.2 r.1:=by
 unfold kas_descPart;refine Wp.bind _ (Wp.mono (fun r hr=>?_) _ (desc (n-(m+1)) p (m+1) 0 hp (by lia) (by lia) h ⟨by lia,fun k h1 h2=>by rw[show k=m+1-1 by lia]⟩));obtain⟨a,b,c,d,e⟩:=hr;have hz:r.2.1≤r.1.size:=by rw[a.size];lia
 split
 ·refine tail3 (a.rev _ _) (by lia) (by lia) fun i j hij hj=>?_;rw[rev_eq e hz,rev_eq e hz];exact d i j hij hj
 ·exact tail3 a (by lia) (by lia) d
theorem count{p:Array Nat}(hp:Pm n p):Wp (FH key) n (kas_count n p) fun r=>Pm n r.2∧1≤r.1∧r.1≤n∧Up key r.2 r.1:=by
 have hn:=hp.pos;unfold kas_count;refine Wp.bind _ (Wp.mono (fun m hm=>?_) _ (asc hp (n-1) 1 (aH _) Up.one));obtain⟨h1,h2,h3,h4⟩:=hm;split
 ·exact⟨hp,h1,by lia,h3⟩
 ·rename_i hne;have hne':m≠n:=by simpa using hne
  have hk:O.klt (Key key p m) (Key key p (m-1)):=by
   rcases h4 with z|z
   ·exact absurd (by lia) hne'
   ·exact z
  have hz:m≤p.size:=by rw[hp.size];lia
  split
  ·refine⟨hp.lt _,hp.lt _,?_⟩;cases c:FH key (p.getD 0 0) (p.getD (m-1) 0) with
   |true=>simp only[if_true];exact⟨hp,h1,by lia,h3⟩
   |false =>
    simp only[Bool.false_eq_true,if_false];have all:∀k,k<m→Key key p k=Key key p (m-1):=fun k hk'=>KeyOrd.kle_antisymm (h3 k (m-1) (by lia) (by lia)) (KeyOrd.kle_trans (show O.kle (Key key p (m-1)) (Key key p 0) from c) (h3 0 k (by lia) hk'));have ek:∀k,Key key (kas_rev p 0 m) k=Key key p k:=fun k=>by
     by_cases hk':k<m
     ·have:Key key (kas_rev p 0 m) k=Key key p (0+m-1-k):=by
       unfold Key;rw[IC hz,if_pos ⟨ar _,hk'⟩]
      rw[this,all _ (by lia),all k hk']
     ·unfold Key;rw[IC hz,if_neg (by lia)]
    refine descPart (hp.rev _ _) h1 (by lia) fun i j hij hj=>?_;rw[ek,ek];by_cases e:j=m
    ·subst e;by_cases e2:i=j
     ·subst e2;exact bE _
     ·rw[all i (by lia)];exact KeyOrd.kle_of_klt hk
    ·rw[all i (by lia),all j (by lia)];exact bE _
  ·have:m=1:=by lia
   subst this;refine descPart hp h1 (by lia) fun i j hij hj=>?_;by_cases e:i=j
   ·subst e;exact bE _
   ·rw[show i=0 by lia,show j=1 by lia];exact KeyOrd.kle_of_klt hk
theorem place{p:Array Nat}{k:Nat}(hp:Pm n p)(hs:Up key p k):∀(f l r:Nat),l≤r→r≤k→r-l≤f→(∀i,i<l→O.kle (Key key p i) (Key key p k))→(∀i,r≤i→i<k→O.klt (Key key p k) (Key key p i)) →
  Wp (FH key) n (kas_place p k f l r) fun x=>x≤k∧(∀i,i<x→O.kle (Key key p i) (Key key p k))∧∀i,x≤i→i<k→O.klt (Key key p k) (Key key p i)
 |0,l,r,h1,h2,h3,a,b=>by
  have:l=r:=by lia
  subst this;exact⟨h2,a,b⟩
 |f+1,l,r,h1,h2,h3,a,b=>by
  unfold kas_place;split
  ·have:l=r:=by lia
   subst this;exact⟨h2,a,b⟩
  ·refine⟨hp.lt _,hp.lt _,?_⟩;cases c:FH key (p.getD k 0) (p.getD ((l+r) / 2) 0) with
   |true =>
    simp only[if_true];exact place hp hs f l ((l+r) / 2) (by lia) (by lia) (by lia) a fun i x1 x2=>KeyOrd.klt_of_klt_of_kle (show O.klt (Key key p k) (Key key p ((l+r) / 2)) from c) (hs _ _ x1 x2)
   |false =>
    simp only[Bool.false_eq_true,if_false];exact place hp hs f ((l+r) / 2+1) r (by lia) h2 (by lia) (fun i x1=>KeyOrd.kle_trans (hs i ((l+r) / 2) (by lia) (by lia)) (show O.kle (Key key p ((l+r) / 2)) (Key key p k) from c)) b
theorem bin:∀(f:Nat) (p:Array Nat) (k:Nat),Pm n p→1≤k→k+f=n→Up key p k→Wp (FH key) n (kas_bin f p k) fun r=>Pm n r∧Up key r n
 |0,p,k,hp,_,hk,h=>by
  have:k=n:=by lia
  subst this;exact⟨hp,h⟩
 |f+1,p,k,hp,h1,hk,h=>by
  have hks:k<p.size:=by rw[hp.size];lia
  refine Wp.bind _ (Wp.mono (fun l hl=>?_) _ (place hp h k 0 k (ar _) (aH _) (by lia) (fun i z=>absurd z (by lia)) fun i z1 z2=>absurd z1 (by lia)));obtain⟨hlk,hlo,hhi⟩:=hl;refine bin f _ (k+1) (hp.bubble _ _) (by lia) (by lia) fun i j hij hj=>?_;have kb:∀x,Key key (PyProof.Rows.bubble p k (k-l)) x=if x=l then Key key p k else if l<x∧x≤k then Key key p (x-1) else Key key p x:=fun x=>by
   unfold Key;rw[Qe hks (by lia),show k-(k-l)=l by lia];split
   ·rfl
   ·split<;>rfl
  rw[kb,kb]
  repeat' split
  all_goals first
   |(exfalso;lia)
   |exact bE _
   |exact hlo _ (by lia)
   |exact KeyOrd.kle_of_klt (hhi _ (by lia) (by lia))
   |exact h _ _ (by lia) (by lia)
theorem sort(hn:0<n):Wp (FH key) n (kas_sort n) fun p=>Pm n p∧Up key p n:=by
 have hp:Pm n (List.toArray (List.range n)):=⟨Array.Perm.refl _,hn⟩;unfold kas_sort;refine Wp.bind _ (Wp.mono (fun r hr=>?_) _ (count hp));obtain⟨a,b,c,d⟩:=hr;split
 ·rw[show max r.1 1=r.1 by lia];exact bin _ _ _ a b (by lia) d
 ·have:r.1=n:=by lia
  rw[this]at d;exact⟨a,d⟩
end
end SM
namespace TH
open PySem PySem.W PyProof.Rows PySem.SeqAt
section
variable{A:Around}{E:Value→Shared→Prop}{s:Shared}{a:Addr}{Q:Bool→Shared→Prop}
theorem Qf{M:Model}{h:Heap}{a:Addr}{x:Array Value}(h1:h.IsTuple a x):Looks M h (typeOf (.ref a)) (.type "tuple"):=by
 obtain⟨o,ho,hc,_⟩:=h1;exact hc ▸ (Looks.ld ho).andThen .now
theorem XB{M:Model}{vs:List Value}{Q:Option Value→Shared→Prop}(hT:∀v∈vs,Looks M s.heap (typeOf v) (.type "tuple"))(h0:vs=[]→Q none s)(h1:Q (some (.type "tuple")) s):wpAny M A (oneTypeOnly' vs.toArray) Q E s:=by
 rw[oneTypeOnly'_eq,List.mapM_toArray,map_eq_pure_bind];refine aA (aA (kas_mapM (r:=Value.type "tuple") _ (fun v hv Q' hq=>(hT v hv).here hq) (aD ?_)));cases vs with
 |nil=>exact aD (h0 rfl)
 |cons f r =>
  have hall:((List.map (fun _=>Value.type "tuple") (f::r)).toArray.all fun x=>x==Value.type "tuple")=true:=by
   simp only[List.all_toArray,List.all_map,List.all_eq_true];intro _ _
   rfl
  have e0:(List.map (fun _=>Value.type "tuple") (f::r)).toArray[0]? = some (Value.type "tuple"):=by simp
  rw[e0];simp only[hall,if_true];exact aD h1
theorem P9{α:Type}{cmp:Nat→Nat→(Bool→Shared→Prop)→Shared→Prop}{lt:Nat→Nat→Bool}{n:Nat}{Q':α→Prop}(hc:∀i j C,i<n→j<n→C (lt i j) s→cmp i j C s):∀T:KasT α,SM.Wp lt n T Q'→T.kasWp cmp (fun a s'=>s'=s∧Q' a) s
 |.ret a,h=>⟨rfl,h⟩
 |.ask i j k,h=>hc i j _ h.1 h.2.1 (P9 hc (k (lt i j)) h.2.2)
end
end TH
namespace TH
open PySem PySem.W PyProof.Rows PySem.SeqAt
theorem map_getD{α:Type}(d:α)(l:List α):(List.range l.length).map (fun i=>l.getD i d)=l:=by
 refine List.ext_getElem (by simp) fun i h1 h2=>?_;simp[h2]
section
theorem UQ(b:Bool)(us:List Value)(hz:us.length<2):(if b=true then((if b=true then(us.toArray.zip us.toArray).reverse else us.toArray.zip us.toArray).map (·.2)).reverse else(if b=true then(us.toArray.zip us.toArray).reverse else us.toArray.zip us.toArray).map (·.2))=us.toArray:=by
 match us,hz with
 |[],_=>cases b<;>simp
 |[x],_=>cases b<;>simp
end
end TH
namespace ET
open PySem
section
variable{prog:Program}{w:World}{A:Around}{E:Value→Shared→Prop}{s:Shared}
theorem next_item{it t:Addr}{i:Nat}{items}{x:Value}{Q:Value→Shared→Prop}(hit:s.heap.IsTupleIter it t i)(ht:s.heap.IsTuple t items)(hx:items[i]? = some x)
 (hQ:∀h',h'.IsTupleIter it t (i+1)→Heap.SameBut it s.heap h'→Q x {s with heap:=h'}):wpAny (model prog w) A (Builtin.SmallTypes.nextOf (.ref it)) Q E s:=by
 obtain⟨o,ho,hc,hd⟩:=id hit;obtain⟨ol,hol,_,nl,hdl⟩:=ht;unfold Builtin.SmallTypes.nextOf;refine aA (ai (name:=Str.ofString "__next__") hit.typeIs F.slot_tuple_iterator_next
  (aj F.slot_tuple_iterator_next hit.typeIs F.entry_tuple_iterator_next ?_ (F.args_tuple_iterator_next_1 _)))
 show wpAny _ _ (field (.ref it) 0>>=_) _ _ s;refine aA (ag ho hd (x:=.ref t) rfl ?_);show wpAny _ _ (if(Value.ref t==Value.none)=true then _ else _) _ _ s;rw[if_neg (show ¬((Value.ref t==Value.none)=true) from aK)];show wpAny _ _ (field (.ref it) 1>>=_) _ _ s;refine aA (ag ho hd (x:=.int i 0) rfl ?_);show wpAny _ _ (seqItems? (.ref t)>>=_) _ _ s;refine aA (bG hol hdl ?_);simp only[Int.toNat_natCast,hx];refine aA (wpAny_setField ho hd (by simp) (aD ⟨x,rfl,wpAny_pure (hQ _ ?_ (Heap.SameBut.update ..))⟩));exact⟨_,Heap.get?_update_self _ ho (Obj.isFreed_of_fields (Obj.data_mapFields hd _)),(Obj.cls_mapFields ..).trans hc,by
  rw[Obj.data_mapFields hd];simp[rawInt]⟩
theorem next_end{it t:Addr}{i:Nat}{items}{Q:Value→Shared→Prop}(hh:A.handled=none)(hit:s.heap.IsTupleIter it t i)(ht:s.heap.IsTuple t items)(hx:items[i]? = none)
 (hE:∀h' e,Heap.ExtBut it s.heap h'→(∃o,h'.get? e=some o∧o.cls=.type "StopIteration")→E (.ref e) {s with heap:=h'}):wpAny (model prog w) A (Builtin.SmallTypes.nextOf (.ref it)) Q E s:=by
 obtain⟨o,ho,hc,hd⟩:=id hit;obtain⟨ol,hol,_,nl,hdl⟩:=ht;unfold Builtin.SmallTypes.nextOf;refine aA (ai (name:=Str.ofString "__next__") hit.typeIs F.slot_tuple_iterator_next
  (aj F.slot_tuple_iterator_next hit.typeIs F.entry_tuple_iterator_next ?_ (F.args_tuple_iterator_next_1 _)))
 show wpAny _ _ (field (.ref it) 0>>=_) _ _ s;refine aA (ag ho hd (x:=.ref t) rfl ?_);show wpAny _ _ (if(Value.ref t==Value.none)=true then _ else _) _ _ s;rw[if_neg (show ¬((Value.ref t==Value.none)=true) from aK)];show wpAny _ _ (field (.ref it) 1>>=_) _ _ s;refine aA (ag ho hd (x:=.int i 0) rfl ?_);show wpAny _ _ (seqItems? (.ref t)>>=_) _ _ s;refine aA (bG hol hdl ?_);simp only[Int.toNat_natCast,hx];refine aA (wpAny_rule (aA (wpAny_setField ho hd (by simp) ?_)));show wpAny _ _ (newExc (.type "StopIteration") []>>=_) _ _ _;refine aA ?_;simp only[newExc,newTuple];refine aA (aT ?_ (by size_fits));refine aA (m:=firstArgMember _ _) (wpAny_of_eq (a:=Value.none) (by first|rfl|(simp only[firstArgMember];rfl)) ?_);refine aT ?_ (by size_fits);simp only[raiseNew];refine aA (wpAny_handled ?_)
 first|rw[show A.in1.handled=none from hh]|rw[hh]
 refine aA (aD (wpAny_throw ?_));exact hE _ _ (((Heap.SameBut.update ..).extBut.push _).push _) ⟨_,Heap.get?_push_size _ rfl,rfl⟩
end
section
open AutoSeq1 (wpAny_loadPart')
theorem Ud(l:Addr)(items:Array Value)(n:Nat)(dct:Option Addr)(sl:Array (Option Value)) :
  Meets (Builtin.«enumerate.__new__» ⟨[.type "enumerate",.ref l],[]⟩) (fun _ R s=>s.heap.get? l=some { cls:=.type "tuple",dict:=dct,data:=.seq items n,slots:=sl} ∧
   R (.ok (.ret (.ref (s.heap.push { cls:=.type "tuple_iterator",data:=.fields #[.ref l,.int 0 0]}).objs.size)))
    {s with heap:=(s.heap.push { cls:=.type "tuple_iterator",data:=.fields #[.ref l,.int 0 0]}).push { cls:=.type "enumerate",data:=.fields #[.none,.bool false,.ref s.heap.objs.size,rawInt 0,.none,.none]} }) :=
 .of_wp fun prog w A R s h=>by
  obtain⟨hp,g,d,tk,os⟩:=s;obtain⟨hl,h⟩:=h;have hsub:=sub_enumerate;have hL:Heap.IsTuple (Shared.heap ⟨hp,g,d,tk,os⟩) l items:=⟨_,hl,rfl,n,rfl⟩
  wp_walk using wpAny_loadPart' hl
  refine wpAny_stack_any fun st=>aD ?_;split
  ·rename_i c _ _ _ _ _;cases (c==Value.type "enumerate")
   ·wp_walk using wpAny_loadPart' hl,wpAny_pyIter_tuple hL
    exact⟨_,rfl,h⟩
   ·wp_walk using wpAny_loadPart' hl,wpAny_pyIter_tuple hL
    exact⟨_,rfl,h⟩
  ·wp_walk using wpAny_loadPart' hl,wpAny_pyIter_tuple hL
   exact⟨_,rfl,h⟩
theorem Ul{prog:Program}{w:World}{A:Around}{E:Value→Shared→Prop}{s:Shared}{l:Addr}{items:Array Value}{Q:Value→Shared→Prop}(hL:s.heap.IsTuple l items)
 (h:∀h',IsEnum h' (s.heap.objs.size+1) s.heap.objs.size 0 .none→h'.IsTupleIter s.heap.objs.size l 0→h'.objs.size=s.heap.objs.size+2 →
   (∀b o,s.heap.get? b=some o→h'.get? b=some o)→Q (.ref (s.heap.objs.size+1)) {s with heap:=h'}) :
  wpAny (model prog w) A (call (.type "enumerate") [.ref l]) Q E s:=by
 obtain⟨⟨c,dct,dt,sl⟩,hl,hc,n,hd⟩:=hL
 replace hc:c=.type "tuple" := hc
 replace hd:dt=.seq items n:=hd
 subst hc hd;refine callType_new F.called_enumerate (by decide) (F.typeCall_enumerate_1 _) (F.newCall_enumerate_1 _) (fun obj=>F.args_object_init_2 obj _) F.entry_enumerate_new
  (Ud l items n dct sl) ⟨hl,?_⟩
 have hz:(s.heap.push { cls:=.type "tuple_iterator",data:=.fields #[.ref l,.int 0 0]}).objs.size=s.heap.objs.size+1:=Heap.size_push ..;show _∧_;rw[hz];have he:IsEnum ((s.heap.push { cls:=.type "tuple_iterator",data:=.fields #[.ref l,.int 0 0]}).push
   { cls:=.type "enumerate",data:=.fields #[.none,.bool false,.ref s.heap.objs.size,rawInt 0,.none,.none]}) (s.heap.objs.size+1) s.heap.objs.size 0 .none:=by
  have:=aR (s.heap.push { cls:=.type "tuple_iterator",data:=.fields #[.ref l,.int 0 0]})
   (o:={ cls:=.type "enumerate",data:=.fields #[.none,.bool false,.ref s.heap.objs.size,rawInt 0,.none,.none]}) rfl
  rw[hz]at this;exact this
 refine⟨⟨_,he,rfl⟩,h _ he ⟨_,Heap.get?_push_of_some _ (aR _ rfl),rfl,rfl⟩ (by rw[Heap.size_push,hz]) fun b o x=>aE _ (aE _ x)⟩
end
theorem draws{prog:Program}{w:World}{A:Around}(hh:A.handled=none)(it a:Addr)(its:List Value)(hne:a≠it) :
  Draws prog w A it [it,a] its.length (fun i x=>its[i]? = some x) (fun i h=>h.IsTupleIter it a i∧h.IsTuple a its.toArray) where
 live:=fun i h st=>let⟨o,e,_⟩:=st.1;⟨o,e⟩
 frame:=fun i h h' st k=>by
  obtain⟨⟨o,e,r⟩,o2,e2,r2⟩:=st;exact⟨⟨o,k it (by simp) o e,r⟩,o2,k a (by simp) o2 e2,r2⟩
 item:=fun i s Q E hi st hQ=>next_item st.1 st.2 (x:=its[i]) (by simp[hi]) fun h' st' sb =>
  hQ _ h' s.toks (by simp[hi]) ⟨st',let⟨o,e,r⟩:=st.2;⟨o,(sb.2 a hne).trans e,r⟩⟩ sb
 done:=fun s Q E st hE=>next_end hh st.1 st.2 (by simp) hE
end ET
namespace L2
open PySem PySem.Spec PyProof.Rows
section
variable{X:Cx}{pins:List (Addr×Obj)}{σ:St}{H:Hp}{s:Shared}{h':Heap}{tk:Nat}{ch:List Addr}
theorem Inv.turn(I:Inv X pins σ H s)(hf:∀b∈ch,Gm X pins H b)(keep:∀b o,b ∉ ch→s.heap.get? b=some o→h'.get? b=some o):Inv X pins σ H {s with heap:=h',toks:=tk}:=by
 have Lu:∀b o,H b=some o→b ∉ ch:=fun b o q hb=>by rw[(hf b hb).1]at q;cases q
 show Inv X pins σ _ {s with heap:=h',gens:=s.gens,drawn:=s.drawn,toks:=tk};refine I.step (h':=h') (g':=s.gens) (d':=s.drawn) (t':=tk) (ch:=ch) (fun b hb=>?_) (fun b o _ _ hc q _=>keep b o hc q) (fun b o _ _ hc q _=>⟨o.slots,keep b o hc q⟩)
  (fun b o _ q n=>n) (fun b o hc q=>⟨o,keep b o hc q⟩) (fun b ys q=>q) (fun b o u q=>q)
  (fun b ps q=>⟨#[],by rw[q];simp⟩) (fun b _ o hc _ q=>keep b o hc q) (fun m hm=>?_) (fun b o q=>?_) I.bare
 ·obtain⟨_,f1,_,f3,f4,f5⟩:=hf b hb;exact⟨f3,f1,f4,f5⟩
 ·obtain⟨o,es,ep,ho,r⟩:=hm;exact⟨o,es,ep,keep _ o (fun hb=>(hf _ hb).2.1 rfl) ho,r⟩
 ·refine(I.Aa b o q).Gr (fun c w hc r=>keep c w ?_ r) (fun c r=>r) fun c ys r=>r;rcases hc with rfl|hc
  ·exact Lu _ _ q
  ·exact Lu _ _ hc
theorem Inv.QH(I:Inv X pins σ H s)(hf:∀b∈ch,Gm X pins H b)(keep:∀b o,b ∉ ch→s.heap.get? b=some o→h'.get? b=some o){xs:List V}{us:List Value}(hz:xs.length≤sizeLine)(rv:Vals xs us)
 (hT:h'.get? s.heap.objs.size=some { cls:=.type "tuple",data:=.seq us.toArray}):Inv X pins σ (upd H s.heap.objs.size (.tup xs)) {s with heap:=h',toks:=tk}:=by
 have hTn:H s.heap.objs.size=none:=I.Aa.fresh (aH _);have neT:∀b o,s.heap.get? b=some o→b≠s.heap.objs.size:=fun b o q=>aL (aF q);have Lu:∀b o,H b=some o→b ∉ ch:=fun b o q hb=>by rw[(hf b hb).1]at q;cases q
 show Inv X pins σ _ {s with heap:=h',gens:=s.gens,drawn:=s.drawn,toks:=tk};refine I.step (h':=h') (g':=s.gens) (d':=s.drawn) (t':=tk) (ch:=ch) (fun b hb=>?_) (fun b o _ _ hc q _=>keep b o hc q) (fun b o _ _ hc q _=>⟨o.slots,keep b o hc q⟩)
  (fun b o _ q n=>by rw[AR (neT b o q)];exact n) (fun b o hc q=>⟨o,keep b o hc q⟩) (fun b ys q=>by rw[AR (BG q hTn)];exact q) (fun b o u q=>by rw[AR (BG q hTn)];exact q)
  (fun b ps q=>⟨#[],by rw[AR (BG q hTn),q];simp⟩) (fun b _ o hc _ q=>keep b o hc q) (fun m hm=>?_) (fun b o q=>?_) I.bare
 ·obtain⟨_,f1,_,f3,f4,f5⟩:=hf b hb;exact⟨f3,f1,f4,f5⟩
 ·obtain⟨o,es,ep,ho,r⟩:=hm;exact⟨o,es,ep,keep _ o (fun hb=>(hf _ hb).2.1 rfl) ho,r⟩
 ·by_cases hb:b=s.heap.objs.size
  ·subst hb;rw[AW]at q;cases q;exact⟨hz,us,rv,_,hT,rfl,_,rfl⟩
  ·rw[AR hb]at q;refine(I.Aa b o q).Gr (fun c w hc r=>keep c w ?_ r) (fun c r=>by rw[AR (BG r hTn)];exact r) fun c ys r=>by rw[AR (BG r hTn)];exact r
   rcases hc with rfl|hc
   ·exact Lu _ _ q
   ·exact Lu _ _ hc
end
def Ts(H:Hp):Tr→List V→Prop
 |.nil,xs=>xs=[]
 |.cons b r,xs=>∃(a:Addr) (ys zs:List V),xs=.ref a::zs∧H a=some (.tup ys)∧Ts H b ys∧Ts H r zs
def Tv(H:Hp)(t:Tr)(v:V):Prop:=∃(a:Addr) (ys:List V),v=.ref a∧H a=some (.tup ys)∧Ts H t ys
theorem Ts.same{H H':Hp}(e:AJ H H'):∀ {t:Tr} {xs:List V},Ts H t xs→Ts H' t xs
 |.nil,xs,h=>by rw[Ts]at h ⊢;exact h
 |.cons b r,xs,h=>by
  rw[Ts]at h ⊢;obtain⟨a,ys,zs,e1,h1,h2,h3⟩:=h;exact⟨a,ys,zs,e1,e _ _ h1,h2.same e,h3.same e⟩
theorem Tv.same{H H':Hp}{t:Tr}{v:V}(h:Tv H t v)(e:AJ H H'):Tv H' t v:=let⟨a,ys,e1,h1,h2⟩:=h;⟨a,ys,e1,e _ _ h1,h2.same e⟩
section
variable{X:Cx}{pins:List (Addr×Obj)}{σ:St}{H:Hp}{s:Shared}
theorem Ts.vs(I:Inv X pins σ H s):∀ {t:Tr} {xs:List V} {us:List Value},Ts H t xs→Vals xs us→TH.Vs s.heap t us
 |.nil,xs,us,h,r=>by
  rw[Ts]at h;subst h;cases r;rw[TH.Vs]
 |.cons b rr,xs,us,h,r=>by
  rw[Ts]at h;obtain⟨a,ys,zs,rfl,h1,h2,h3⟩:=h;cases r with
  |cons r1 r2 =>
   cases r1;obtain⟨its,rv,p,_⟩:=I.tuple (A9.of (K:=X.K) h1);rw[TH.Vs];exact⟨a,its,_,rfl,p,Ts.vs I h2 rv,Ts.vs I h3 r2⟩
theorem Tv.at(I:Inv X pins σ H s){t:Tr}{v:V}{u:Value}(h:Tv H t v)(r:RelV v u):∃(a:Addr) (its:List Value),u=.ref a∧s.heap.IsTuple a its.toArray∧TH.Vs s.heap t its:=by
 obtain⟨a,ys,rfl,h1,h2⟩:=h;cases r;obtain⟨its,rv,p,_⟩:=I.tuple (A9.of (K:=X.K) h1);exact⟨a,its,rfl,p,Ts.vs I h2 rv⟩
def dI:R2:=fun x y H Q=>∃t u,Tv H t x∧Tv H u y∧t.deep≤60∧Q (.bl (Tr.lt u t)) H
theorem W9(hu:X.A.units+64<cLine):CH X (compareOp .Gt) dI:=by
 intro pins s σ H x y v u' Q I rx ry h;obtain⟨t,u,h1,h2,hd,q⟩:=h;obtain⟨a,its,rfl,p1,k1⟩:=h1.at I rx;obtain⟨b,its',rfl,p2,k2⟩:=h2.at I ry;exact TH.WI (t.deep+1) t u X.A s a b its its' (Nat.lt_succ_self _) p1 k1 p2 k2 (by lia) X.prog X.w X.xe _ ⟨.bl _,H,I,rfl,q⟩
end
def ZW(K:PySem.W.Frag)(a:Addr):It :=
 ⟨fun i H=>∃xs x,A9 K H a xs∧xs[i]? = some x,fun i H v H'=>∃p x,v=.ref p∧H p=none∧H'=upd H p (.tup [.int i,x])∧∀xs,A9 K H a xs→xs[i]? = some x,fun i H=>∃xs,A9 K H a xs∧xs.length=i⟩
theorem T4{P:Program}{w:World}{K:PySem.W.Frag}{elts:List Expr}{x1}{pos:Pos}(a e it:Addr)(hne:e≠it) :
  Turn P w K (.Tuple elts x1 pos) (ZW K a) [e,it] e (fun i h=>(∃old,IsEnum h e it (i:Nat) old)∧h.IsTupleIter it a i) where
 mem:=by simp
 obj:=fun i h st b hb=>by
  rcases aI.mp hb with rfl|hb
  ·obtain⟨⟨old,q⟩,_⟩:=st;exact⟨_,q,fun v z=>by cases z⟩
  ·have e2:b=it:=by simpa using hb
   subst e2;obtain⟨_,o,q,c,d⟩:=st;exact⟨o,q,fun v z=>by rw[d]at z;cases z⟩
 keep:=fun i h h' st k=>by
  obtain⟨⟨old,q⟩,o,q2,r⟩:=st;exact⟨⟨old,k e (by simp) _ q⟩,o,k it (by simp) _ q2,r⟩
 item:=by
  intro X hP hw hK hc i pins s σ H E I hf st hg;subst hP hw hK;obtain⟨xs,x,hq,hx⟩:=hg;obtain⟨its,rv,p,hz⟩:=I.tuple hq;obtain⟨u,hu,ru⟩:=rv.get hx;obtain⟨⟨old,he⟩,hit⟩:=st;have hai:a≠it:=fun z=>by
   obtain⟨o,e1,c1,_⟩:=p;obtain⟨o2,e2,c2,_⟩:=hit;rw[z,e2]at e1;cases e1;rw[c1]at c2;exact absurd c2 (by decide)
  have hae:a≠e:=fun z=>by
   obtain⟨o,e1,c1,_⟩:=p;rw[z,he]at e1;cases e1;exact absurd (show Value.type "enumerate" = Value.type "tuple" from c1) (by decide)
  have hlt:i<its.length:=(aG.mp hu).1;have hE0:=hf e (by simp);have hI0:=hf it (by simp);refine wpAny_pyNext_enum_itemD (ET.draws (prog:=X.prog) (w:=X.w) (A:=X.A.in1) (I.ok.hd hc) it a its hai) he ⟨hit,p⟩ hlt hne (by simp[hne,Ne.symm hae]) fun y h' tk hy ho hs' hT hsz hk=>⟨_,rfl,wpAny_letOwnedTupleGo_enum (s:={s with heap:=h',toks:=tk+1}) ho fun h'' he'' sb=>?_⟩;have hyu:y=u:=by rw[hu]at hy;exact(aS hy).symm
  subst hyu;have keep:∀b o,b≠e→b≠it→s.heap.get? b=some o→h''.get? b=some o:=fun b o h1 h2 q=>(sb.2 b h1).trans (hk b o h1 h2 q);have hTe:s.heap.objs.size≠e:=Nat.ne_of_gt (aF he);have hTi:s.heap.objs.size≠it:=let⟨_,q,_⟩:=hit;Nat.ne_of_gt (aF q);have hT'':h''.get? s.heap.objs.size=some { cls:=.type "tuple",data:=.seq #[.int i tk,y]}:=(sb.2 _ hTe).trans hT;have hTn:H s.heap.objs.size=none:=I.Aa.fresh (aH _);refine⟨.ref s.heap.objs.size,upd H s.heap.objs.size (.tup [.int i,x]),?_,rfl,⟨_,x,rfl,hTn,rfl,fun ys hy=>by rw[I.OW hy hq];exact hx⟩,⟨⟨_,by simpa using he''⟩,?_⟩,fun b hb=>?_⟩
  ·exact I.QH (ch:=[e,it]) hf (fun b o hb q=>keep b o (fun z=>hb (by simp[z])) (fun z=>hb (by simp[z])) q) Wq (.cons ⟨tk,rfl⟩ (.cons ru .nil)) hT''
  ·obtain⟨⟨o,q,r⟩,_⟩:=hs';exact⟨o,(sb.2 it (Ne.symm hne)).trans q,r⟩
  ·rcases aI.mp hb with rfl|hb
   ·rw[AR (Ne.symm hTe)];exact hE0.1
   ·have e2:b=it:=by simpa using hb
    subst e2;rw[AR (Ne.symm hTi)];exact hI0.1
 done:=by
  intro X hP hw hK hc i pins s σ H E I hf st hg;subst hP hw hK;obtain⟨xs,hq,hx⟩:=hg;obtain⟨its,rv,p,hz⟩:=I.tuple hq;obtain⟨⟨old,he⟩,hit⟩:=st;have hai:a≠it:=fun z=>by
   obtain⟨o,e1,c1,_⟩:=p;obtain⟨o2,e2,c2,_⟩:=hit;rw[z,e2]at e1;cases e1;rw[c1]at c2;exact absurd c2 (by decide)
  have hl:its.length=i:=by rw[←rv.length];exact hx
  subst hl;obtain⟨f0,f1,f2,f3,f4,f5⟩:=hf it (by simp);exact wpAny_pyNext_enum_endD (ET.draws (prog:=X.prog) (w:=X.w) (A:=X.A.in1) (I.ok.hd hc) it a its hai) he ⟨hit,p⟩ fun h' eb=>⟨rfl,I.turned (t':=s.toks) (fun b o hb q=>eb b o hb q) f0 f1 f3 f4 f5⟩
 self:=fun _ _ _ _ _ st h=>by
  obtain⟨⟨old,he⟩,_⟩:=st;exact wpAny_pyIter_enum he h
def dQ(K:PySem.W.Frag)(ta:TA):TI:=fun σ H R=>ta σ H fun vs H1=>∃a,vs=[.ref a]∧(∃xs,A9 K H1 a xs)∧R (ZW K a) H1
theorem XQ{X:Cx}{elts:List Expr}{x1}{tpos:Pos}{a:Expr}{ta:TA}{p pos:Pos}(hg:Gl X "enumerate")(hm:X.mg "enumerate" = none)(ha:PA X [a] ta)(hs:starEach [a] X.env=[(false,eval a X.env)]:=by rfl) :
  PI X (.Tuple elts x1 tpos) (.Call (.Name "enumerate" p) [a] [] pos) (dQ X.K ta):=by
 intro pins s σ H R I h;refine Call_ (Hb I hg hm boot_enumerate (az (Ar (ha pos pins s σ H _ I h) fun us s1 ⟨vs,H1,I1,r1,q1⟩=>?_) hs rfl));obtain⟨t,e,⟨xs,hq⟩,q⟩:=q1;subst e;cases r1 with
 |cons r rr =>
  cases rr;cases r;obtain⟨its,rv,p',hz⟩:=I1.tuple hq;refine ET.Ul (show s1.heap.IsTuple t its.toArray from p') fun h' he hit hsz hk=>wpAny_pyIter_enum he ?_;have I2:Inv X pins σ H1 {s1 with heap:=h'}:=I1.kept (t':=s1.toks) hk;have hn:s1.heap.objs.size+1≠s1.heap.objs.size:=by lia
  refine⟨s1.heap.objs.size+1,[s1.heap.objs.size+1,s1.heap.objs.size],_,_,H1,rfl,I2,T4 t _ _ hn,⟨⟨_,he⟩,hit⟩,fun b hb=>?_,q⟩;have hb':s1.heap.objs.size≤b:=by
   have hb2:b=s1.heap.objs.size+1∨b=s1.heap.objs.size:=by simpa using hb
   rcases hb2 with z|z
   ·rw[z];exact Nat.le_succ _
   ·rw[z];exact aH _
  exact I1.NL hb' (I1.Aa.fresh hb')
end L2
namespace TH
open PySem PySem.W PyProof.Rows PySem.SeqAt
section
theorem NZ(a:Addr):Builtin.«list.sort» ⟨[.ref a],[]⟩=Builtin.«list.sort» ⟨[.ref a],[(Str.ofString "reverse",.bool false)]⟩:=by
 rw[list_sort_rev,list_sort_plain]
 rfl
end
end TH
namespace Tim
open PySem PyProof.Rows
section pure
end pure
section
section pure
end pure
section pure
end pure
end
end Tim
namespace GS
open PySem PySem.W PyProof.Rows PySem.SeqAt
abbrev Ext(h0 h:Heap):Prop:=∀c o,h0.get? c=some o→h.get? c=some o
def NJ(O:KeyOrd)(prog:Program)(w:World)(κ:SortKind)(A:Around)(s:Shared)(ks:List O.α)(us:List Value):Prop :=
 ∀(E:Value→Shared→Prop) (i j:Nat) (x y:O.α) (u v:Value) (Q:Bool→Shared→Prop),us[i]? = some u→us[j]? = some v→ks[i]? = some x→ks[j]? = some y→Q (O.blt x y) s→wpAny (model prog w) A (keyLt' κ u v) Q E s
structure Td(O:KeyOrd)(prog:Program)(w:World)(h0:Heap)(r:Nat)(ks:List O.α)(us:List Value):Prop where
 len:us.length=ks.length
 go:∃ok:SortKind→Prop,(∀(A:Around) (E:Value→Shared→Prop) (s:Shared) (Q:SortKind→Shared→Prop),Ext h0 s.heap→(∀κ,ok κ→Q κ s)→wpAny (model prog w) A (keyKind' us.toArray) Q E s) ∧
  ∀(A:Around) (s:Shared) (κ:SortKind),Ext h0 s.heap→A.units+r<cLine→ok κ→NJ O prog w κ A s ks us
def Runs(O:KeyOrd)(prog:Program)(w:World)(ks:List O.α):Prop :=
 ∀(d:O.α) (A:Around) (E:Value→Shared→Prop) (s:Shared) (κ:SortKind) (ws:List Value),ws.length=ks.length→2≤ws.length→NJ O prog w κ A s ks ws →
  wpAny (model prog w) A ((sortRuns').run (SortSt.mk' κ (ws.toArray.zip ws.toArray) #[] 7 none)) (fun r s'=>s'=s∧failedOf r.2=none∧∃ix:List Nat,ix.Perm (List.range ws.length) ∧
   (arrOf r.2).map (·.2)=(ix.map fun i=>ws.getD i Value.none).toArray∧(ix.map fun i=>ks.getD i d).Pairwise O.kle) E s
theorem SD{O:KeyOrd}{prog:Program}{w:World}{ks:List O.α}(h64:ks.length<64):Runs O prog w ks:=by
 intro d A E s κ ws hl h2 ask;have h64:ws.length<64:=by lia
 refine kat_run (Q:=fun st' s'=>s'=s∧failedOf st'=none∧∃ix:List Nat,ix.Perm (List.range ws.length)∧(arrOf st').map (·.2)=(ix.map fun i=>ws.getD i Value.none).toArray∧(ix.map fun i=>ks.getD i d).Pairwise O.kle)
  (G:=fun p s'=>s'=s∧SM.Pm ws.length p∧SM.Up (O:=O) (fun i=>ks.getD i d) p ws.length) rfl h2 h64 (fun p st' s' hp har hf hG=>?_)
  (TH.P9 (lt:=SM.FH (O:=O) fun i=>ks.getD i d) (n:=ws.length) (fun i j C hi hj hC=>?_) _ (SM.sort (by lia)))
 ·obtain⟨rfl,hpm,hup⟩:=hG;have h1:p.toList.Perm (List.range ws.length):=by simpa using Array.perm_iff_toList_perm.mp hpm.perm
  refine⟨rfl,hf,p.toList,h1,kat_snds rfl har,?_⟩;refine List.pairwise_iff_getElem.mpr fun i j hi hj hij=>?_;rw[List.length_map,Array.length_toList,hp]at hi hj;have:=hup i j (by lia) hj;have e1:∀k,k<ws.length→∀hk,(p.toList.map fun i=>ks.getD i d)[k]' hk=ks.getD (p.getD k 0) d:=fun k hk hk'=>by
   rw[List.getElem_map,Array.getElem_toList,Array.getD,dif_pos (by lia)]
   rfl
  rw[e1 i hi,e1 j hj];exact this
 ·have gi:∀k,k<ws.length→∃u x,ws[k]? = some u∧ks[k]? = some x∧ws.getD k Value.none=u∧ks.getD k d=x:=fun k hk=>by
   refine⟨ws[k],ks[k]'(by lia),List.getElem?_eq_getElem hk,List.getElem?_eq_getElem (by lia),?_,?_⟩
   ·rw[List.getD_eq_getElem?_getD,List.getElem?_eq_getElem hk];rfl
   ·rw[List.getD_eq_getElem?_getD,List.getElem?_eq_getElem (by lia)];rfl
  obtain⟨u,x,q1,q2,q3,q4⟩:=gi i hi;obtain⟨v,y,r1,r2,r3,r4⟩:=gi j hj;unfold kas_ask;rw[q3,r3];refine ask _ i j x y u v C q1 r1 q2 r2 ?_;have hC:C (O.blt (ks.getD i d) (ks.getD j d)) s:=hC;rw[q4,r4]at hC;exact hC
section
variable{O:KeyOrd}{prog:Program}{w:World}{A:Around}{E:Value→Shared→Prop}{s:Shared}{h0:Heap}{r:Nat}{ks:List O.α}{us:List Value}
theorem NJ.rev{κ:SortKind}(hl:us.length=ks.length)(a:NJ O prog w κ A s ks us):NJ O prog w κ A s ks.reverse us.reverse:=fun E i j x y u v Q h1 h2 h3 h4 q=>by
 have b1:=(aG.mp h1).1;have b2:=(aG.mp h2).1;rw[List.length_reverse]at b1 b2;rw[List.getElem?_reverse (by lia)]at h1 h2 h3 h4;rw[←hl]at h3 h4;exact a E _ _ x y u v Q h1 h2 h3 h4 q
theorem Vn{α:Type}{R:α→α→Prop}:∀ {l:List α},l.length<2→l.Pairwise R
 |[],_=>.nil
 |[_],_=>List.pairwise_singleton ..
 |_::_::_,h=>by simp at h;lia
theorem Ti(d : O.α){a : Addr}{n : Nat}{b : Bool}{P : PySem.Fin→Shared→Prop}(C : Td O prog w h0 r ks us)(hx : Ext h0 s.heap)(ha0 : h0.objs.size≤a)(ho : s.heap.get? a = some (seqObj "list" us.toArray n))(hsz : us.length≤1000)(hr : Runs O prog w (if b then ks.reverse else ks))(hu : A.units + r < cLine)
 (h : ∀ ix : List Nat,ix.Perm (List.range us.length)→(ix.map fun i => ks.getD i d).Pairwise (fun x y => if b = true then O.kle y x else O.kle x y)→P (.done (.ret .none)) { s with heap:=sortedHeap s.heap a us (ix.map fun i => us.getD i Value.none).toArray }) :
    wpAny (model prog w) A (Builtin.«list.sort» ⟨[.ref a],[(Str.ofString "reverse",.bool b)]⟩) P E s := by
  rw [list_sort_rev]
  have ha : a < s.heap.objs.size:=aF ho
  refine aA (listItems_at ho rfl ?_)
  refine aA (listUpdate_at ho rfl ?_ (by rw [List.size_toArray,sizeLine_eq]; lia) (ar _))
  obtain ⟨e1,ho1⟩ : ∃ e1,(s.heap.update a (Obj.mapSeq fun _ => #[])).get? a = some (seqObj "list" #[] e1):=⟨_,get?_update_seq ho (fun _ => #[])⟩
  refine aA (seqEpoch_at ho1 rfl ?_)
  refine aA (wpAny_newTuple ?_ (by show us.length≤_; rw [sizeLine_eq]; lia))
  refine aA (wpAny_newList ?_ (ar _))
  refine bF ?_
  have ho6 : (((s.heap.update a (Obj.mapSeq fun _ => #[])).push (seqObj "tuple" us.toArray 0)).push (seqObj "list" #[] 0)).get? a = some (seqObj "list" #[] e1) := by
    rw [Heap.get?_push_ne _ _ _ (by rw [size_push',Heap.size_update]; exact aL (Nat.lt_succ_of_lt ha)),Heap.get?_push_ne _ _ _ (by rw [Heap.size_update]; exact aL ha)]
    exact ho1
  have keep : Ext h0 (((s.heap.update a (Obj.mapSeq fun _ => #[])).push (seqObj "tuple" us.toArray 0)).push (seqObj "list" #[] 0)):=fun c o hc => by
    have hlt : c < h0.objs.size:=aF hc
    have hne : c≠a:=fun z => Nat.not_lt.mpr ha0 (z ▸ hlt)
    refine aE _ (aE _ ?_)
    rw [Heap.get?_update_ne _ _ _ _ hne]
    exact hx c o hc
  show wpAny (model prog w) A _ P E { s with heap:=((s.heap.update a (Obj.mapSeq fun _ => #[])).push (seqObj "tuple" us.toArray 0)).push (seqObj "list" #[] 0) }
  dsimp only
  have step : ∀ T : Sem PySem.Fin,wpAny (model prog w) A T P E { s with heap:=((s.heap.update a (Obj.mapSeq fun _ => #[])).push (seqObj "tuple" us.toArray 0)).push (seqObj "list" #[] 0) } →
      wpAny (model prog w) A (if b = true then (do let _ ← rule "list.sort.reverse"; T) else T) P E { s with heap:=((s.heap.update a (Obj.mapSeq fun _ => #[])).push (seqObj "tuple" us.toArray 0)).push (seqObj "list" #[] 0) } := by
    intro T hT
    split
    · exact aA (wpAny_rule hT)
    · exact hT
  refine step _ ?_
  obtain ⟨ok,hkind,hask⟩:=C.go
  have hl:=C.len
  by_cases h2 : us.toArray.size < 2
  · rw [if_pos h2,if_pos h2]
    refine aA (aD ?_)
    rw [StateT.run_pure]
    refine aA (aD ?_)
    dsimp only
    have hz : us.length < 2 := by simpa using h2
    have hout:=TH.UQ b us hz
    refine aA (seqEpoch_at ho6 rfl ?_)
    refine aA (listUpdate_at ho6 rfl ?_ (ar _) (by
      refine af (Nat.le_of_eq (bA Array.size hout)) ?_
      rw [List.size_toArray,sizeLine_eq]; lia))
    simp only [bne_self_eq_false,Bool.false_eq_true,if_false]
    have fin:=h (List.range us.length) (.refl _) (Vn (by simpa using hz))
    rw [TH.map_getD] at fin
    rw [← hout] at fin
    exact aD fin
  · rw [if_neg h2,if_neg h2]
    have hz : 2≤us.length := by simpa using h2
    refine aA (hkind A E { s with heap:=((s.heap.update a (Obj.mapSeq fun _ => #[])).push (seqObj "tuple" us.toArray 0)).push (seqObj "list" #[] 0) } _ keep fun κ hκ => ?_)
    have ask:=hask A { s with heap:=((s.heap.update a (Obj.mapSeq fun _ => #[])).push (seqObj "tuple" us.toArray 0)).push (seqObj "list" #[] 0) } κ keep hu hκ
    obtain ⟨ws,kw,aw,hwl,hwk,hws,hrw,pick⟩ : ∃ (ws : List Value) (kw : List O.α),NJ O prog w κ A { s with heap:=((s.heap.update a (Obj.mapSeq fun _ => #[])).push (seqObj "tuple" us.toArray 0)).push (seqObj "list" #[] 0) } kw ws∧ws.length = us.length∧ws.length = kw.length ∧
        (if b = true then (us.toArray.zip us.toArray).reverse else us.toArray.zip us.toArray) = ws.toArray.zip ws.toArray∧Runs O prog w kw ∧
        ∀ ix : List Nat,ix.Perm (List.range ws.length)→(ix.map fun i => kw.getD i d).Pairwise O.kle→∃ iy : List Nat,iy.Perm (List.range us.length)∧(iy.map fun i => ks.getD i d).Pairwise (fun x y => if b = true then O.kle y x else O.kle x y) ∧
          (if b = true then ((ix.map fun i => ws.getD i Value.none).toArray).reverse else (ix.map fun i => ws.getD i Value.none).toArray) = (iy.map fun i => us.getD i Value.none).toArray := by
      cases b with
      | false => exact ⟨us,ks,ask,rfl,hl,rfl,hr,fun ix h1 h2 => ⟨ix,h1,by simpa using h2,rfl⟩⟩
      | true =>
        refine ⟨us.reverse,ks.reverse,ask.rev hl,by simp,by simp [hl],kat_pairs (ks:=us) (vs:=us) true rfl,hr,fun ix h1 h2 => ⟨(ix.map fun i => us.length - 1 - i).reverse,?_,?_,?_⟩⟩
        · rw [List.length_reverse] at h1
          refine (List.reverse_perm _).trans ((h1.map fun i => us.length - 1 - i).trans ?_)
          have : (List.range us.length).map (fun i => us.length - 1 - i) = (List.range us.length).reverse := by
            refine List.ext_getElem (by simp) fun i a1 a2 => ?_
            simp
          rw [this]
          exact List.reverse_perm _
        · have hb : ∀ i∈ix,i < us.length:=fun i hi => by simpa using h1.mem_iff.mp hi
          have e : ((ix.map fun i => us.length - 1 - i).reverse.map fun i => ks.getD i d) = (ix.map fun i => ks.reverse.getD i d).reverse := by
            rw [List.map_reverse,List.map_map]
            congr 1
            exact ao fun i hi => by
              have:=hb i hi
              show ks.getD (us.length - 1 - i) d = _
              rw [List.getD_eq_getElem?_getD,List.getD_eq_getElem?_getD,List.getElem?_reverse (by lia),hl]
          rw [e,List.pairwise_reverse]
          simpa using h2
        · have hb : ∀ i∈ix,i < us.length:=fun i hi => by simpa using h1.mem_iff.mp hi
          rw [if_pos rfl,List.map_reverse,List.map_map,List.reverse_toArray]
          congr 2
          exact ao fun i hi => by
            have:=hb i hi
            show us.reverse.getD i Value.none = us.getD (us.length - 1 - i) Value.none
            rw [List.getD_eq_getElem?_getD,List.getD_eq_getElem?_getD,List.getElem?_reverse (by lia)]
    rw [hws]
    refine aA (aN (hrw d A E { s with heap:=((s.heap.update a (Obj.mapSeq fun _ => #[])).push (seqObj "tuple" us.toArray 0)).push (seqObj "list" #[] 0) } κ ws hwk (by lia) aw) ?_ fun _ _ z => z)
    rintro ⟨⟨⟩,st'⟩ s' ⟨rfl,hf,ix,hix,hout,hst⟩
    dsimp only
    refine aA (seqEpoch_at ho6 rfl ?_)
    obtain ⟨iy,y1,y2,hfin⟩ : ∃ iy : List Nat,iy.Perm (List.range us.length)∧(iy.map fun i => ks.getD i d).Pairwise (fun x y => if b = true then O.kle y x else O.kle x y) ∧
        (if b = true then ((arrOf st').map (·.2)).reverse else (arrOf st').map (·.2)) = (iy.map fun i => us.getD i Value.none).toArray := by
      rw [show (arrOf st').map (·.2) = _ from hout]
      exact pick ix hix hst
    refine aA (listUpdate_at ho6 rfl ?_ (ar _) (by
      refine af (Nat.le_of_eq (bA Array.size hfin)) ?_
      have:=y1.length_eq
      rw [List.length_range] at this
      rw [List.size_toArray,List.length_map,this,sizeLine_eq]; lia))
    rw [show failedOf st' = none from hf]
    simp only [bne_self_eq_false,Bool.false_eq_true,if_false]
    have fin:=h iy y1 y2
    rw [← hfin] at fin
    exact aD fin
def RM(prog:Program)(w:World)(A:Around)(E:Value→Shared→Prop)(s:Shared)(v:Value)(us:List Value):Prop :=
 ∀Q:List Value→Shared→Prop,(∀(h1:Heap) (tk:Nat),Ext s.heap h1→s.heap.objs.size≤h1.objs.size→Q us {s with heap:=h1,toks:=tk})→wpAny (model prog w) A (collect v) Q E s
theorem Qy(d:O.α){b:Bool}{Q:Value→Shared→Prop}{h1:Heap}{tk:Nat}{T:Sem PySem.Fin}(C:Td O prog w s.heap r ks us)(hsz:us.length≤1000)(hr:Runs O prog w (if b then ks.reverse else ks))(x1:Ext s.heap h1)(z1:s.heap.objs.size≤h1.objs.size)
 (h:∀(h':Heap) (D tk:Nat) (ix:List Nat) (e1:Nat),s.heap.objs.size≤D→Ext s.heap h'→h'.get? D=some (seqObj "list" (ix.map fun i=>us.getD i Value.none).toArray e1)→ix.Perm (List.range us.length)→(ix.map fun i=>ks.getD i d).Pairwise (fun x y=>if b=true then O.kle y x else O.kle x y)→Q (.ref D) {s with heap:=h',toks:=tk}) :
  (h1.push (seqObj "list" us.toArray 0)).get? h1.objs.size=some (seqObj "list" us.toArray 0)∧Ext s.heap (h1.push (seqObj "list" us.toArray 0)) ∧
  ∀ix:List Nat,ix.Perm (List.range us.length)→(ix.map fun i=>ks.getD i d).Pairwise (fun x y=>if b=true then O.kle y x else O.kle x y)→Q (.ref h1.objs.size) {s with heap:=sortedHeap (h1.push (seqObj "list" us.toArray 0)) h1.objs.size us (ix.map fun i=>us.getD i Value.none).toArray,toks:=tk}:=by
 have g1:(h1.push (seqObj "list" us.toArray 0)).get? h1.objs.size=some (seqObj "list" us.toArray 0):=aR _ rfl;refine⟨g1,fun b u e=>aE _ (x1 b u e),fun ix p1 p2=>?_⟩;obtain⟨e1,he1⟩:=sortedHeap_at (vs:=us) (out:=(ix.map fun i=>us.getD i Value.none).toArray) g1;refine h _ h1.objs.size tk ix e1 z1 (fun b u e=>?_) he1 p1 p2;have lb:b<h1.objs.size:=aF (x1 b u e);rw[sortedHeap_old (aL lb) (by rw[Heap.size_push];exact Nat.lt_succ_of_lt lb)];exact aE _ (x1 b u e)
theorem VC(d:O.α){v:Value}{Q:Value→Shared→Prop}(G:RM prog w A.in1 E s v us)(C:Td O prog w s.heap r ks us)(hsz:us.length≤1000)(hr:Runs O prog w ks)(hu:A.units+2+r<cLine)
 (h:∀(h':Heap) (D tk:Nat) (ix:List Nat) (e1:Nat),s.heap.objs.size≤D→Ext s.heap h'→h'.get? D=some (seqObj "list" (ix.map fun i=>us.getD i Value.none).toArray e1)→ix.Perm (List.range us.length)→(ix.map fun i=>ks.getD i d).Pairwise O.kle→Q (.ref D) {s with heap:=h',toks:=tk}) :
  wpAny (model prog w) A (call (.builtin "sorted") [v]) Q E s:=by
 refine Calls.call_function_entry kind_sorted plain_sorted entry_sorted (args_sorted1 _) ?_;unfold Builtin.«sorted»;refine aA (m:=checkCount "sorted" 1 1 _) (aD ?_);refine aA (G _ fun h1 tk x1 z1=>?_);refine aA (wpAny_newList ?_ (by rw[sizeLine_eq];lia));obtain⟨g1,x2,fin⟩:=Qy (T:=pure (.done (.ret .none))) (tk:=tk) (b:=false) d C hsz (by simpa using hr) x1 z1 (fun h' D tk ix e1 a1 a2 a3 a4 a5=>h h' D tk ix e1 a1 a2 a3 a4 (by simpa using a5));refine aA (bF (aj slot_list_sort ⟨_,g1,rfl⟩ entry_list_sort ?_ (args_list_sort _)));rw[TH.NZ];refine Ti (s:={s with heap:=h1.push (seqObj "list" us.toArray 0),toks:=tk}) d C x2 z1 g1 hsz (by simpa using hr) (by rw[show A.in1.in1.units=A.units+2 from rfl];lia) fun ix p1 p2=>⟨_,rfl,?_⟩;exact aD ⟨_,rfl,fin ix p1 p2⟩
end
end GS
namespace L2
open PySem PySem.Spec PyProof.Rows
section
variable{X:Cx}
theorem Yj{e k:Expr}{te tk:TE}{pos p2:Pos}(he:PE X e te)(hk:PE X k tk):PE X (.Subscript e (.Slice none none (some k) p2) pos)
  (fun σ H Q=>te σ H fun x H1=>tk σ H1 fun z H2=>∃(a:Addr) (xs:List V),x=.ref a∧z=.int (-1)∧A3 X.K H2 a xs∧∀p,H2 p=none→Q (.ref p) (upd H2 p (.lst xs.reverse))):=by
 intro pins s σ H Q I h;refine Subscript_ (Ar (he pins s σ H _ I h) fun v s1 ⟨x,H1,I1,r1,q1⟩=>?_);refine wpAny_Slice ?_;rw[evalPart_none];refine aD ?_;refine aD ?_;rw[evalPart_some];refine Ar (hk pins s1 σ H1 _ I1 q1) fun vk s3 ⟨z,H3,I3,r3,q3⟩=>?_;obtain⟨a,xs,rfl,rfl,hq,q⟩:=q3;cases r1;obtain⟨tk',rfl⟩:=r3;have I4:Inv X pins σ H3 {s3 with heap:=s3.heap.push { cls:=.type "slice",data:=.fields #[.none,.none,.int (-1) tk']} }:=I3.kept (t':=s3.toks) fun b ob q=>aE _ q;obtain⟨its,rv,pl,hz⟩:=I4.list hq;have hlen:=rv.length;show wpAny (model X.prog X.w) X.A (subscriptTail e (.Slice none none (some k) p2) (.ref a) (.ref s3.heap.objs.size)) (EP X pins σ Q) X.xe {s3 with heap:=s3.heap.push { cls:=.type "slice",data:=.fields #[.none,.none,.int (-1) tk']} };refine tail_any (ops:=[.ref a,.ref s3.heap.objs.size]) (T := "list") pl.isList.typeIs slot_list_getitem.lookup ?_ (by with_unfolding_all rfl);refine wpAny_getItem_list_slice pl.isList (Heap.IsSliceOf.new ..) .none .none (.int (-1) tk') (by decide) ?_ (by rw[List.size_toArray]<;>lia);rw[PySem.W.krv_pick];refine⟨.ref _,_,I4.laid (t':=s3.toks) (o:=.lst xs.reverse) (fun b ob q=>aE _ q) (aH _) ?_,rfl,q _ (I4.Aa.fresh (aH _))⟩;exact⟨by rw[List.length_reverse];exact hz,its.reverse,0,rv.reverse,Heap.get?_push_size _ rfl⟩
end
def CW(Pv:Nat→List V→Hp→Prop)(n:Nat)(D:Addr):Nat→Nat→List V→Hp→Prop:=fun i m ys H=>m=n-i∧i≤n∧H D=some (.lst ys)∧Pv i ys H
theorem ND{Pv:Nat→List V→Hp→Prop}{n i:Nat}{D:Addr}{ys:List V}{y:V}{H:Hp}(hi:i<n)(p:Pv (i+1) (ys++[y]) (upd H D (.lst (ys++[y])))):∃m',m'<n-i∧CW Pv n D (i+1) m' (ys++[y]) (upd H D (.lst (ys++[y]))) :=
 ⟨n-(i+1),by lia,rfl,hi,AW,p⟩
theorem NO{Pv:Nat→List V→Hp→Prop}{n i:Nat}{D:Addr}{ys:List V}{H:Hp}(hi:i<n)(hD:H D=some (.lst ys))(p:Pv (i+1) ys H):∃m',m'<n-i∧CW Pv n D (i+1) m' ys H:=⟨n-(i+1),by lia,rfl,hi,hD,p⟩
theorem Q9{J:It}{n:Nat}{D:Addr}{H1:Hp}{fr:List (Option Nat)}{σ:St}{ix:Nat}{tif:TT}{te:TE}{G:Hp→Prop}(Pv:Nat→List V→Hp→Prop)(h0:Pv 0 [] (upd H1 D (.lst [])))
 (hgo:∀i ys H,i<n→Pv i ys H→H D=some (.lst ys)→J.go i H∧ys.length<sizeLine∧∀x H',J.Dm i H x H' →
   tif ((carry fr σ).set ix (some x)) H' fun b H2=>if b=true then te ((carry fr σ).set ix (some x)) H2 fun y H3=>H3 D=some (.lst ys)∧∃m',m'<n-i∧CW Pv n D (i+1) m' (ys++[y]) (upd H3 D (.lst (ys++[y])))
    else ∃m',m'<n-i∧CW Pv n D (i+1) m' ys H2)
 (hstop:∀ys H,Pv n ys H→H D=some (.lst ys)→J.stop n H∧G H) :
  ∃W:Nat→Nat→List V→Hp→Prop,(∃m,W 0 m [] (upd H1 D (.lst []))) ∧
   ∀i m ys H,W i m ys H→H D=some (.lst ys)∧((J.stop i H∧G H)∨(J.go i H∧ys.length<sizeLine∧∀x H',J.Dm i H x H' →
    tif ((carry fr σ).set ix (some x)) H' fun b H2=>if b=true then te ((carry fr σ).set ix (some x)) H2 fun y H3=>H3 D=some (.lst ys)∧∃m',m'<m∧W (i+1) m' (ys++[y]) (upd H3 D (.lst (ys++[y])))
     else ∃m',m'<m∧W (i+1) m' ys H2)):=by
 refine⟨CW Pv n D,⟨n,by simp,Nat.zero_le _,AW,h0⟩,?_⟩;rintro i m ys H ⟨rfl,hi,hH,p⟩;refine⟨hH,?_⟩;by_cases hlt:i<n
 ·exact .inr (hgo i ys H hlt p hH)
 ·have e:i=n:=by lia
  subst e;exact .inl (hstop ys H p hH)
mutual
def Dt(l:Addr)(H:Hp):PyData→V→Prop
 |.none,v=>v=.BR
 |.bool b,v=>v=.bl b
 |.int i,v=>v=.int i
 |.str x,v=>v=.str x
 |.tuple ds,v=>∃(a:Addr) (xs:List V),v=.ref a∧a≠l∧H a=some (.tup xs)∧Ax l H ds xs
 |.list ds,v=>∃(a:Addr) (xs:List V),v=.ref a∧a≠l∧H a=some (.lst xs)∧Ax l H ds xs
 |.dict _,_=>False
def Ax(l:Addr)(H:Hp):List PyData→List V→Prop
 |[],xs=>xs=[]
 |d::ds,xs=>∃x r,xs=x::r∧Dt l H d x∧Ax l H ds r
end
mutual
theorem Dt.but{l:Addr}{H H':Hp}(e:SameBut l H H'):∀ {d:PyData} {v:V},Dt l H d v→Dt l H' d v
 |.none,_,h=>by rw[Dt]at h ⊢;exact h
 |.bool _,_,h=>by rw[Dt]at h ⊢;exact h
 |.int _,_,h=>by rw[Dt]at h ⊢;exact h
 |.str _,_,h=>by rw[Dt]at h ⊢;exact h
 |.tuple _,_,h=>by
  rw[Dt]at h ⊢;obtain⟨a,xs,e1,n,h1,h2⟩:=h;exact⟨a,xs,e1,n,e _ _ n h1,Ax.but e h2⟩
 |.list _,_,h=>by
  rw[Dt]at h ⊢;obtain⟨a,xs,e1,n,h1,h2⟩:=h;exact⟨a,xs,e1,n,e _ _ n h1,Ax.but e h2⟩
 |.dict _,_,h=>by rw[Dt]at h;exact h.elim
theorem Ax.but{l:Addr}{H H':Hp}(e:SameBut l H H'):∀ {ds:List PyData} {xs:List V},Ax l H ds xs→Ax l H' ds xs
 |[],_,h=>by rw[Ax]at h ⊢;exact h
 |_::_,_,h=>by
  rw[Ax]at h ⊢;obtain⟨x,r,e1,h1,h2⟩:=h;exact⟨x,r,e1,Dt.but e h1,Ax.but e h2⟩
end
theorem Dt.same{l:Addr}{H H':Hp}{d:PyData}{v:V}(h:Dt l H d v)(e:AJ H H'):Dt l H' d v:=Dt.but (.of e) h
theorem Ax.len{l:Addr}{H:Hp}:∀ {ds:List PyData} {xs:List V},Ax l H ds xs→xs.length=ds.length
 |[],_,h=>by rw[Ax]at h;rw[h];rfl
 |_::_,_,h=>by
  rw[Ax]at h;obtain⟨x,r,rfl,_,h2⟩:=h;rw[List.length_cons,List.length_cons,Ax.len h2]
theorem Ax.get{l:Addr}{H:Hp}:∀ {ds:List PyData} {xs:List V} {i:Nat} {v:V},Ax l H ds xs→xs[i]? = some v→∃d,ds[i]? = some d∧Dt l H d v
 |[],_,i,v,h,e=>by rw[Ax]at h;subst h;simp at e
 |d::ds,_,i,v,h,e=>by
  rw[Ax]at h;obtain⟨x,r,rfl,h1,h2⟩:=h;cases i with
  |zero=>simp at e;subst e;exact⟨d,rfl,h1⟩
  |succ i =>
   obtain⟨c,q1,q2⟩:=h2.get (i:=i) (v:=v) (by simpa using e);exact⟨c,by simpa using q1,q2⟩
theorem Ax.nil{l:Addr}{H:Hp}:Ax l H [] []:=by rw[Ax]
theorem Ax.cons{l:Addr}{H:Hp}{d:PyData}{ds:List PyData}{x:V}{xs:List V}(h:Dt l H d x)(k:Ax l H ds xs):Ax l H (d::ds) (x::xs):=by
 rw[Ax];exact⟨x,xs,rfl,h,k⟩
theorem Dt.int{l:Addr}{H:Hp}{i:Int}:Dt l H (.int i) (.int i):=by rw[Dt]
theorem Dt.bool{l:Addr}{H:Hp}{b:Bool}:Dt l H (.bool b) (.bl b):=by rw[Dt]
theorem Dt.BR{l:Addr}{H:Hp}:Dt l H .none .BR:=by rw[Dt]
theorem Dt.str{l:Addr}{H:Hp}{x:Str}:Dt l H (.str x) (.str x):=by rw[Dt]
theorem Dt.tup{l a:Addr}{H:Hp}{ds:List PyData}{xs:List V}(n:a≠l)(h:H a=some (.tup xs))(k:Ax l H ds xs):Dt l H (.tuple ds) (.ref a):=by rw[Dt];exact⟨a,xs,rfl,n,h,k⟩
theorem Dt.lst{l a:Addr}{H:Hp}{ds:List PyData}{xs:List V}(n:a≠l)(h:H a=some (.lst xs))(k:Ax l H ds xs):Dt l H (.list ds) (.ref a):=by rw[Dt];exact⟨a,xs,rfl,n,h,k⟩
def Ok(n:Nat)(d:PyData):Prop:=d.canLay0=true∧d.depth≤n
def Sv(n:Nat)(ds:List PyData):Prop:=PyData.canLayAll0 ds=true∧PyData.depthAll ds≤n
theorem Ok.shaped{n:Nat}{d:PyData}(h:Ok n d)(hn:n≤64):SeqAt.shaped d=true:=by
 unfold SeqAt.shaped;rw[h.1,Bool.true_and];exact av (af h.2 hn)
theorem Ok.tup{n:Nat}{ds:List PyData}(h:Sv n ds):Ok (n+1) (.tuple ds):=⟨by simp only[PyData.canLay0];exact h.1,by simp only[PyData.depth];exact Nat.succ_le_succ h.2⟩
theorem Ok.lst{n:Nat}{ds:List PyData}(h:Sv n ds):Ok (n+1) (.list ds):=⟨by simp only[PyData.canLay0];exact h.1,by simp only[PyData.depth];exact Nat.succ_le_succ h.2⟩
theorem Ok.int{n:Nat}{i:Int}:Ok n (.int i):=⟨by simp[PyData.canLay0],by simp[PyData.depth]⟩
theorem Ok.bool{n:Nat}{b:Bool}:Ok n (.bool b):=⟨by simp[PyData.canLay0],by simp[PyData.depth]⟩
theorem Ok.BR{n:Nat}:Ok n .none:=⟨by simp[PyData.canLay0],by simp[PyData.depth]⟩
theorem Ok.mono{m n:Nat}{d:PyData}(h:Ok m d)(l:m≤n:=by decide):Ok n d:=⟨h.1,Nat.le_trans h.2 l⟩
mutual
theorem MF:∀d:PyData,d.canLay0=true→PyData.eqv d d=true
 |.none,_=>by simp[PyData.eqv]
 |.bool _,_=>by simp[PyData.eqv]
 |.int _,_=>by simp[PyData.eqv]
 |.str _,_=>by simp[PyData.eqv]
 |.tuple ds,h=>by simp only[PyData.eqv];exact Iw ds (by simpa only[PyData.canLay0]using h)
 |.list ds,h=>by simp only[PyData.eqv];exact Iw ds (by simpa only[PyData.canLay0]using h)
 |.dict _,h=>by simp[PyData.canLay0]at h
theorem Iw:∀ds:List PyData,PyData.canLayAll0 ds=true→PyData.eqvAll ds ds=true
 |[],_=>by simp[PyData.eqvAll]
 |d::ds,h=>by
  simp only[PyData.canLayAll0,Bool.and_eq_true]at h;simp only[PyData.eqvAll,MF d h.1,Iw ds h.2,Bool.and_self]
end
def MA:PyData→String
 |.none => "NoneType"
 |.bool _ => "bool"
 |.int _ => "int"
 |.str _ => "str"
 |.tuple _ => "tuple"
 |.list _ => "list"
 |.dict _ => "dict"
theorem Dt.ty{K:PySem.W.Frag}{l:Addr}{H:Hp}:∀ {d:PyData} {v:V},Dt l H d v→E5 K H v (.type (MA d))
 |.none,_,h=>by rw[Dt]at h;subst h;exact .BR
 |.bool _,_,h=>by rw[Dt]at h;subst h;exact .bl _
 |.int _,_,h=>by rw[Dt]at h;subst h;exact .int _
 |.str _,_,h=>by rw[Dt]at h;subst h;exact .str _
 |.tuple _,_,h=>by rw[Dt]at h;obtain⟨a,xs,rfl,_,h1,_⟩:=h;exact .tup h1
 |.list _,_,h=>by rw[Dt]at h;obtain⟨a,xs,rfl,_,h1,_⟩:=h;exact .lst h1
 |.dict _,_,h=>by rw[Dt]at h;exact h.elim
def B2:PyData→Bool
 |.tuple _=>true
 |_=>false
def Bw:PyData→Bool
 |.list _=>true
 |_=>false
def GQ:PyData→Bool
 |.int _=>true
 |.bool _=>true
 |_=>false
def FO:PyData→Bool
 |.bool _=>true
 |_=>false
theorem Hl(K:PySem.W.Frag):∀d:PyData,(∀kv,d≠.dict kv)→PySem.W.kitOne K (.type (MA d)) (.type "tuple")=some (B2 d)
 |.none,_=>ZO K
 |.bool _,_=>YH K
 |.int _,_=>bL K
 |.str _,_=>Y2 K
 |.tuple _,_=>Z9 K
 |.list _,_=>Zr K
 |.dict kv,h=>absurd rfl (h kv)
theorem J7(K:PySem.W.Frag):∀d:PyData,(∀kv,d≠.dict kv)→PySem.W.kitOne K (.type (MA d)) (.type "list")=some (Bw d)
 |.none,_=>Yp K
 |.bool _,_=>ZI K
 |.int _,_=>bO K
 |.str _,_=>ZP K
 |.tuple _,_=>YN K
 |.list _,_=>Z3 K
 |.dict kv,h=>absurd rfl (h kv)
theorem YM(K:PySem.W.Frag):PySem.W.kitOne K (.type "NoneType") (.type "bool")=some false:=by kernel_rfl
theorem Yv(K:PySem.W.Frag):PySem.W.kitOne K (.type "str") (.type "bool")=some false:=by kernel_rfl
theorem Yu(K:PySem.W.Frag):PySem.W.kitOne K (.type "tuple") (.type "bool")=some false:=by kernel_rfl
theorem ZY(K:PySem.W.Frag):PySem.W.kitOne K (.type "list") (.type "bool")=some false:=by kernel_rfl
theorem Vh(K:PySem.W.Frag):∀d:PyData,(∀kv,d≠.dict kv)→PySem.W.kitOne K (.type (MA d)) (.type "int")=some (GQ d)
 |.none,_=>Zi K
 |.bool _,_=>Zq K
 |.int _,_=>Yl K
 |.str _,_=>Zl K
 |.tuple _,_=>Zy K
 |.list _,_=>ZD K
 |.dict kv,h=>absurd rfl (h kv)
theorem Uo(K:PySem.W.Frag):∀d:PyData,(∀kv,d≠.dict kv)→PySem.W.kitOne K (.type (MA d)) (.type "bool")=some (FO d)
 |.none,_=>YM K
 |.bool _,_=>Ye K
 |.int _,_=>YY K
 |.str _,_=>Yv K
 |.tuple _,_=>Yu K
 |.list _,_=>ZY K
 |.dict kv,h=>absurd rfl (h kv)
theorem Dt.nodict{l:Addr}{H:Hp}{d:PyData}{v:V}(h:Dt l H d v):∀kv,d≠.dict kv:=fun kv z=>by subst z;rw[Dt]at h;exact h
end L2
namespace L2
open PySem PySem.Spec PyProof.Rows
mutual
def Fg:PyData→Option Tr
 |.tuple ds=>My ds
 |_=>none
def My:List PyData→Option Tr
 |[]=>some .nil
 |d::ds=>(Fg d).bind fun b=>(My ds).map fun r=>.cons b r
end
section
variable{X:Cx}
def dA:R2:=fun x y H Q=>∃a b xs ys,x=.ref a∧y=.ref b∧H a=some (.tup xs)∧H b=some (.tup ys)∧xs.length+ys.length≤sizeLine∧∀p H',AJ H H'→H' p=some (.tup (xs++ys))→Q (.ref p) H'
theorem XX:CH X (binaryOp .Add) dA:=by
 intro pins s σ H x y v u Q I rx ry h;obtain⟨a,b,xs,ys,rfl,rfl,ha,hb,hz,q⟩:=h;cases rx;cases ry;obtain⟨its,r1,p1,_⟩:=I.tuple (A9.of (K:=X.K) ha);obtain⟨its2,r2,p2,_⟩:=I.tuple (A9.of (K:=X.K) hb);by_cases hv:its=[]
 ·have hx:=r1.LJ.mp hv;subst hv hx;obtain⟨⟨cls,dd,data,sl⟩,ho,hc,n,hd⟩:=id p1;obtain⟨⟨cls2,dd2,data2,sl2⟩,ho2,hc2,n2,hd2⟩:=id p2;simp only at hc hd hc2 hd2;subst hc hd hc2 hd2;exact concat_meets ⟨_,ho,rfl⟩ ⟨_,ho2,rfl⟩ noFill_tuple_add seq_tuple_add PySem.F.slot_tuple_add PySem.F.entry_tuple_add (PySem.F.args_tuple_add_2 _ _)
   (tuple_addW0 a b _ _ n n2 dd dd2 sl sl2 (by simp)) ⟨ho,ho2,⟨.ref b,H,I,rfl,q b H (.refl H) (by simpa using hb)⟩⟩
 ·refine HT.W6 p1 p2 hv (fun z=>?_) (fun z=>?_) (by rw[←r1.length,←r2.length];exact hz)
  ·have hy:=r2.LJ.mp z;subst hy;exact⟨.ref a,H,I,rfl,q a H (.refl H) (by simpa using ha)⟩
  ·refine⟨.ref s.heap.objs.size,_,I.laid (t':=s.toks) (o:=.tup (xs++ys)) (fun b ob q=>aE _ q) (aH _) ?_,rfl,q _ _ (BU (I.Aa.fresh (aH _)) _) AW⟩;exact⟨by rw[List.length_append];exact hz,_,r1.append r2,IsTup.new _ _⟩
end
end L2
set_option maxHeartbeats 0
set_option maxHeartbeats 4000000
namespace TH
open PySem PySem.W PyProof.Rows PySem.SeqAt
theorem X4{h h':Heap}(k:GS.Ext h h'){a:Addr}{x:Array Value}(e:h.IsTuple a x):h'.IsTuple a x:=let⟨o,e1,c,n,d⟩:=e;⟨o,k _ _ e1,c,n,d⟩
section
open PySem.MeetsSeq PySem.MeetsSeq2 PySem.MeetsSeq3
variable{A:Around}{E:Value→Shared→Prop}{s:Shared}
def UO(h:Heap)(v:Value):Prop:=∃(a b:Addr) (xs:Array Value) (its:List Value),v=.ref a∧h.IsTuple a ((.ref b::its).toArray)∧h.IsTuple b xs
theorem OD{M:Model}:∀(us:List Value) {Q:List (Option Value)→Shared→Prop},(∀v∈us,UO s.heap v)→(∀fs:List Value,fs.length=us.length→(∀v∈fs,Looks M s.heap (typeOf v) (.type "tuple"))→Q (fs.map some) s)→wpAny M A (us.mapM firstOfTuple') Q E s
 |[],Q,_,h=>by
  rw[List.mapM_nil];exact aD (h [] rfl fun _ z=>by cases z)
 |v::us,Q,e,h=>by
  obtain⟨a,b,xs,its,rfl,h1,h2⟩:=e v bC;obtain⟨o,ho,hc,n,hd⟩:=id h1;rw[List.mapM_cons];refine aA ?_;rw[kas_first_eq];refine aA (Looks.here (show Looks M s.heap (typeOf (.ref a)) o.cls from(Looks.ld ho).andThen .now) ?_);rw[hc,if_neg (by first|decide|simp)];refine aA (listItems_at ho hd (aD ?_));refine aA (OD us (Q:=fun bs s'=>wpAny M A (pure ((.ref b::its).toArray[0]? :: bs)) Q E s') (fun v hv=>e v (aa _ hv)) fun fs hl hfs=>aD ?_);have:=h (.ref b::fs) (by simp[hl]) fun v hv=>by
   rcases aI.mp hv with rfl|hv
   ·exact Qf h2
   ·exact hfs v hv
  simpa using this
theorem Xm{M:Model}{us:List Value}{Q:SortKind→Shared→Prop}(e:∀v∈us,UO s.heap v)(h:Q (tuples' false) s):wpAny M A (keyKind' us.toArray) Q E s:=by
 rw[kat_kind_eq,List.mapM_toArray,map_eq_pure_bind];refine aA (aA (OD us e fun fs hl hfs=>aD ?_));rw[if_pos (by simp)];refine aA (wpAny_rule ?_);have e1:((fs.map some).toArray.filterMap id)=fs.toArray:=by simp
 rw[e1];exact aA (XB hfs (fun _=>aD h) (aD h))
end
end TH
namespace L2
open PySem PySem.Spec PyProof.Rows
abbrev Uc(x y:Str)(px py:Pos)(tk:Nat)(tp:Pos):Expr:=.Tuple [.Name x px,.Name y py] tk tp
theorem Xn{ix iy:Nat}(h:ix≠iy)(σ:St)(a b c d:Option V):((((σ.set ix a).set iy b).set ix c).set iy d)=(σ.set ix c).set iy d:=by
 rw[List.set_comm _ _ h.symm,List.set_set,List.set_set]
def Mx(K:PySem.W.Frag)(wi:TI)(fr:List (Option Nat))(ix iy:Nat)(tif:TT)(te:TE):TE:=fun σ H Q=>wi σ H fun J H1=>∀D,H1 D=none→∃W:Nat→Nat→List V→Hp→Prop,(∃m,W 0 m [] (upd H1 D (.lst []))) ∧
 ∀i m ys H,W i m ys H→H D=some (.lst ys)∧((J.stop i H∧Q (.ref D) H)∨(J.go i H∧ys.length<sizeLine∧∀x H',J.Dm i H x H'→∃a v1 v2,x=.ref a∧A9 K H' a [v1,v2] ∧
  tif (((carry fr σ).set ix (some v1)).set iy (some v2)) H' fun b H2=>if b=true then te (((carry fr σ).set ix (some v1)).set iy (some v2)) H2 fun y H3=>H3 D=some (.lst ys)∧∃m',m'<m∧W (i+1) m' (ys++[y]) (upd H3 D (.lst (ys++[y])))
   else ∃m',m'<m∧W (i+1) m' ys H2))
section
variable{X:Cx}{elt iter:Expr}{x y:Str}{px py tp pos:Pos}{tk:Nat}{ifs:List Expr}{scope:Scope}{wi:TI}{fr:List (Option Nat)}{ix iy:Nat}{tif:TT}{te:TE}{N:List Str}
theorem Qt{pins:List (Addr×Obj)}{σ:St}{H2:Hp}{s2:Shared}{Q:VK}{it:Addr}{fp:List Addr}{tn:Nat→Heap→Prop}{J:It}{cl:List (Str×Addr)}{E:Value→Shared→Prop}{RR:Value→Addr→Result→Shared→Prop}
 (S:DC scope N x ix)(S2:DC scope N y iy)(hxy:ix≠iy)(hcalm:X.calm=true)(hfr:Dg N X.N scope X.env.scope fr 0=true)(hlen:fr.length=N.length)
 (hif:∀cl C s₀ H₀ fp,KD (Ai X scope cl N C s₀ H₀ fp) ifs tif)(he:∀cl C s₀ H₀ fp,PE (Ai X scope cl N C s₀ H₀ fp) elt te)
 (I2:Inv X pins σ H2 s2)(T:Turn X.prog X.w X.K (Uc x y px py tk tp) J fp it tn)(st2:tn 0 s2.heap)(f2:∀b∈fp,Gm X pins H2 b)
 (c1:∀x c,cl.lookup x=some c→X.env.cells.lookup x=some c)(c2:∀x∈scope.names,x.2=NameKind.free→∃c,cl.lookup x.1=some c)
 (W:∀D,H2 D=none→∃W:Nat→Nat→List V→Hp→Prop,(∃m,W 0 m [] (upd H2 D (.lst []))) ∧
   ∀i m ys H,W i m ys H→H D=some (.lst ys)∧((J.stop i H∧Q (.ref D) H)∨(J.go i H∧ys.length<sizeLine∧∀x H',J.Dm i H x H'→∃a v1 v2,x=.ref a∧A9 X.K H' a [v1,v2] ∧
    tif (((carry fr σ).set ix (some v1)).set iy (some v2)) H' fun b H2=>if b=true then te (((carry fr σ).set ix (some v1)).set iy (some v2)) H2 fun y H3=>H3 D=some (.lst ys)∧∃m',m'<m∧W (i+1) m' (ys++[y]) (upd H3 D (.lst (ys++[y])))
     else ∃m',m'<m∧W (i+1) m' ys H2)))
 (fin:∀(D C:Addr) (s':Shared) (H':Hp) m,s'.heap.Ns C m→Q (.ref D) H'→(∀h',Heap.SameBut C s'.heap h'→Inv X pins σ H' { s' with heap:=h'})→C≠D→(∀b o,s2.heap.get? b=some o→b≠C)→H' C=none→s2.heap.objs.size≤C→RR (.ref D) C (.ok .next) s') :
  wpAny (model X.prog X.w) X.A (newList []) (fun acc s₃=>wpAny (model X.prog X.w) X.A (newFunctionEnv scope X.env.globals cl [] X.env.qual none .none (some X.env)) (fun cenv s₄ =>
   codeAny (model X.prog X.w) X.A (.compStart (.ListComp elt [⟨Uc x y px py tk tp,iter,ifs,0⟩] scope pos) 0 (.ref it) acc {cenv with scope:=relabel scope X.env}) (RR acc cenv.locals) s₄) E s₃) E s2:=by
 have hxv:(relabel scope X.env).names.lookup x=some .local:=lookup_relabel_local S.loc;have hyv:(relabel scope X.env).names.lookup y=some .local:=lookup_relabel_local S2.loc;refine Lm (g:=U3 X.K 2 (Me (Fj ix) (Me (Fj iy) Vq))) S hcalm (fun σ'=>∀v w,(σ'.set ix v).set iy w=((carry fr σ).set ix v).set iy w) (fun _ _=>rfl) (fun C=>Jh (X:=Ai X scope cl N C s2 H2 fp) hcalm (Cd (Bg (X:=Ai X scope cl N C s2 H2 fp) S.nd S.at_ (.inl hxv) (.inr hxv)) (Cd (Bg (X:=Ai X scope cl N C s2 H2 fp) S2.nd S2.at_ (.inl hyv) (.inr hyv)) HM))) hfr hlen hif he I2 T st2 f2 c1 c2 (fun D hD=>?_) fin;obtain⟨W,w0,st⟩:=W D hD;refine⟨W,w0,fun i m ys H w=>?_⟩;obtain⟨h1,h2|⟨h2,h3,h4⟩⟩:=st i m ys H w
 ·exact⟨h1,.inl h2⟩
 ·refine⟨h1,.inr ⟨h2,h3,fun x H' hy σ' hr=>?_⟩⟩;obtain⟨a,v1,v2,rfl,hs,q⟩:=h4 x H' hy;rw[←hr]at q;exact⟨a,[v1,v2],rfl,hs,rfl,v1,[v2],rfl,v2,[],rfl,rfl,fun v w=>by rw[Xn hxy,hr],q⟩
theorem V6(S:DC scope N x ix)(S2:DC scope N y iy)(hxy:ix≠iy)(hcalm:X.calm=true)(hfr:Dg N X.N scope X.env.scope fr 0=true)(hlen:fr.length=N.length)(hfree:∀y∈scope.names,y.2=.free→X.env.scope.names.lookup y.1=some .cell∨X.env.scope.names.lookup y.1=some .free)
 (hi:PI X (Uc x y px py tk tp) iter wi)(hif:∀cl C s₀ H₀ fp,KD (Ai X scope cl N C s₀ H₀ fp) ifs tif)(he:∀cl C s₀ H₀ fp,PE (Ai X scope cl N C s₀ H₀ fp) elt te)
 (hs:∀x,foldedSetIterable iter X.env x=pure x:=by intro _;rfl):PE X (.ListComp elt [⟨Uc x y px py tk tp,iter,ifs,0⟩] scope pos) (Mx X.K wi fr ix iy tif te):=by
 intro pins s σ H Q I hw;obtain⟨cl,hclos,c1,_,c2⟩:=FR (env:=X.env) scope.names [] (fun y hy hf=>I.ok.has y.1 (hfree y hy hf)) (fun y c z=>by cases z);have hclos':closureFor scope X.env=pure cl:=by
  have e:closureFor scope X.env=((forIn scope.names [] (fun(x:Str×NameKind) (r:List (Str×Addr))=>do if(x.2==NameKind.free)=true then do let a ←cellOf X.env x.1;pure (ForInStep.yield ((x.1,a)::r)) else pure (ForInStep.yield r)):Sem (List (Str×Addr)))>>=fun cs=>pure cs):=rfl;rw[e,hclos]
  rfl
 rw[eval_ListComp];refine wpAny_comprehension_free (use:=none) rfl hs hclos' S.kind S.names (Ar (hi pins s σ H _ I hw) fun v s1 h1=>Ar h1 fun itv s2 h2=>?_);obtain⟨it,fp,tn,J,H2,e,I2,T,st2,f2,W⟩:=h2;subst e;refine Qt (RR:=fun acc C=>compPost (model X.prog X.w) X.A X.xe none (EP X pins σ Q) acc C) S S2 hxy hcalm hfr hlen hif he I2 T st2 f2 c1 c2 W ?_;intro D C s' H' m hn q hI _ _ _ _;exact⟨m,hn,fun h' hs'=>⟨.ref D,H',hI h' hs',rfl,q⟩⟩
end
section
variable{X:Cx}{elt iter:Expr}{x y:Str}{px py tp pos:Pos}{tk:Nat}{ifs:List Expr}{scope:Scope}{wi:TI}{tif:TT}{te:TE}
theorem US(N:List Str)(ix iy:Nat)(fr:List (Option Nat))(hi:PI X (Uc x y px py tk tp) iter wi)(hif:∀cl C s₀ H₀ fp,KD (Ai X scope cl N C s₀ H₀ fp) ifs tif)(he:∀cl C s₀ H₀ fp,PE (Ai X scope cl N C s₀ H₀ fp) elt te)
 (h1:Bd scope N x ix=true:=by decide +kernel)(h1':Bd scope N y iy=true:=by decide +kernel)(hxy:ix≠iy:=by decide)(h2:X.calm=true:=by rfl)(h3:Dg N X.N scope X.env.scope fr 0=true:=by rfl)(h4:fr.length=N.length:=by rfl)(h5:freeOk X.env.scope scope.names=true:=by rfl)
 (hs:∀x,foldedSetIterable iter X.env x=pure x:=by intro _;rfl):PE X (.ListComp elt [⟨.Tuple [.Name x px,.Name y py] tk tp,iter,ifs,0⟩] scope pos) (Mx X.K wi fr ix iy tif te) :=
 V6 (Fb h1) (Fb h1') hxy h2 h3 h4 (Ky h5) hi hif he hs
end
theorem VR{K:PySem.W.Frag}{J:It}{n:Nat}{D:Addr}{H1:Hp}{fr:List (Option Nat)}{σ:St}{ix iy:Nat}{tif:TT}{te:TE}{G:Hp→Prop}(Pv:Nat→List V→Hp→Prop)(h0:Pv 0 [] (upd H1 D (.lst [])))
 (hgo:∀i ys H,i<n→Pv i ys H→H D=some (.lst ys)→J.go i H∧ys.length<sizeLine∧∀x H',J.Dm i H x H'→∃a v1 v2,x=.ref a∧A9 K H' a [v1,v2] ∧
   tif (((carry fr σ).set ix (some v1)).set iy (some v2)) H' fun b H2=>if b=true then te (((carry fr σ).set ix (some v1)).set iy (some v2)) H2 fun y H3=>H3 D=some (.lst ys)∧∃m',m'<n-i∧CW Pv n D (i+1) m' (ys++[y]) (upd H3 D (.lst (ys++[y])))
    else ∃m',m'<n-i∧CW Pv n D (i+1) m' ys H2)
 (hstop:∀ys H,Pv n ys H→H D=some (.lst ys)→J.stop n H∧G H) :
  ∃W:Nat→Nat→List V→Hp→Prop,(∃m,W 0 m [] (upd H1 D (.lst []))) ∧
   ∀i m ys H,W i m ys H→H D=some (.lst ys)∧((J.stop i H∧G H)∨(J.go i H∧ys.length<sizeLine∧∀x H',J.Dm i H x H'→∃a v1 v2,x=.ref a∧A9 K H' a [v1,v2] ∧
    tif (((carry fr σ).set ix (some v1)).set iy (some v2)) H' fun b H2=>if b=true then te (((carry fr σ).set ix (some v1)).set iy (some v2)) H2 fun y H3=>H3 D=some (.lst ys)∧∃m',m'<m∧W (i+1) m' (ys++[y]) (upd H3 D (.lst (ys++[y])))
     else ∃m',m'<m∧W (i+1) m' ys H2)):=by
 refine⟨CW Pv n D,⟨n,by simp,Nat.zero_le _,AW,h0⟩,?_⟩;rintro i m ys H ⟨rfl,hi,hH,p⟩;refine⟨hH,?_⟩;by_cases hlt:i<n
 ·exact .inr (hgo i ys H hlt p hH)
 ·have:i=n:=by lia
  subst this;exact .inl (hstop ys H p hH)
end L2
namespace ZT
open PySem PyProof.Rows
structure Apart(z TI TO i1 i2:Addr)(f1 f2:List Addr):Prop where
 a1:TI≠z∧TI≠TO∧TI≠i1∧TI≠i2
 a2:TO≠z∧TO≠i1∧TO≠i2
 a3:i1≠z∧i2≠z∧i1≠i2
 b1:z ∉ f1∧TO ∉ f1∧i2 ∉ f1
 b2:z ∉ f2∧TO ∉ f2∧i1 ∉ f2
section
variable{prog:Program}{w:World}{A:Around}{E:Value→Shared→Prop}{s:Shared}{z TI TO i1 i2:Addr}{f1 f2:List Addr}{n1 n2 k:Nat}{P1 P2:Nat→Value→Prop}{S1 S2:Nat→Heap→Prop}{a b:Value}
theorem C6{f:List Addr}{x:Addr}{h h':Heap}(hx:x ∉ f)(e:Heap.SameBut x h h'):∀c∈f,∀o,h.get? c=some o→h'.get? c=some o:=fun c hc o q=>(e.2 c fun y=>hx (y ▸ hc)).trans q
theorem item{Q:Value→Shared→Prop}(D1:Draws prog w A i1 f1 n1 P1 S1)(D2:Draws prog w A i2 f2 n2 P2 S2)(ap:Apart z TI TO i1 i2 f1 f2)(hz:IsZip s.heap z TI TO .none)(hI:IsPair s.heap TI (.ref i1) (.ref i2))(hO:IsPair s.heap TO a b)
 (t1:S1 k s.heap)(t2:S2 k s.heap)(l1:k<n1)(l2:k<n2)
 (q:∀x y h' tk,P1 k x→P2 k y→IsZip h' z TI TO (rawInt s.heap.objs.size)→IsPair h' TO x y→S1 (k+1) h'→S2 (k+1) h'→IsPair h' s.heap.objs.size x y→h'.objs.size=s.heap.objs.size+1 →
   (∀c o,c≠z→c≠TO→c≠i1→c≠i2→s.heap.get? c=some o→h'.get? c=some o)→Q (.ref s.heap.objs.size) {s with heap:=h',toks:=tk}) :
  wpAny (model prog w) A (Builtin.«zip.__next__» ⟨[.ref z],[]⟩) (fun fin s'=>∃v,fin=.done (.ret v)∧Q v s') E s:=by
 obtain⟨⟨c1,c2,c3,c4⟩,⟨c5,c6,c7⟩,⟨c8,c9,c10⟩,⟨d1,d2,d3⟩,d4,d5,d6⟩:=ap;show wpAny _ _ (field (.ref z) 2>>=_) _ _ _;refine aA (ag hz rfl (x:=.bool false) rfl ?_);show wpAny _ _ (field (.ref z) 3>>=_) _ _ _;refine aA (ag hz rfl (x:=.ref TI) rfl (aA (bG hI rfl ?_)));show wpAny _ _ (Builtin.SmallTypes.ownedTupleIsFree (.ref z)>>=_) _ _ _;unfold Builtin.SmallTypes.ownedTupleIsFree;refine aA (aA (ag hz rfl (x:=.none) rfl (aD ?_)));simp only[if_true];refine aA (wpAny_rule (aA (ag hz rfl (x:=.ref TO) rfl (aA (wpAny_setField_rec hz (by simp) fun g1 z1 m1=>aA ?_)))));have m1:Heap.SameBut z s.heap g1:=m1;have z1:IsZip g1 z TI TO .ellipsis:=z1;simp only[List.zipIdx_cons,List.zipIdx_nil,List.forIn_cons,List.forIn_nil];refine aA (aA (wpAny_onRaise ?_));show wpAny _ _ (Builtin.SmallTypes.nextOf (.ref i1)>>=_) _ _ _;refine aA (D1.item k _ _ _ l1 (D1.frame _ _ _ t1 (C6 d1 m1)) fun x g2 tk2 p1 u1 m2=>aD ?_);have o2:IsPair g2 TO a b:=(m2.2 _ c6).trans ((m1.2 _ c5).trans hO);refine aA (bG o2 rfl (aA (wpAny_updateSeq_pair o2 fun g3 o3 m3=>aA (wpAny_letGo (aD ?_)))));have o3:IsPair g3 TO x b:=o3;have t2':S2 k g3:=D2.frame _ _ _ (D2.frame _ _ _ (D2.frame _ _ _ t2 (C6 d4 m1)) (C6 d6 m2)) (C6 d5 m3);refine aA (aA (wpAny_onRaise ?_));show wpAny _ _ (Builtin.SmallTypes.nextOf (.ref i2)>>=_) _ _ _;refine aA (D2.item k _ _ _ l2 t2' fun y g4 tk4 p2 u2 m4=>aD ?_);have m3:Heap.SameBut TO g2 g3:=m3;have m4:Heap.SameBut i2 g3 g4:=m4;have o4:IsPair g4 TO x b:=(m4.2 _ c7).trans o3;refine aA (bG o4 rfl (aA (wpAny_updateSeq_pair o4 fun g5 o5 m5=>aA (wpAny_letGo (aD (aD ?_))))));have m5:Heap.SameBut TO g4 g5:=m5;have o5:IsPair g5 TO x y:=o5;refine aA (bG o5 rfl (aA (wpAny_newTuple ?_)));have m2:Heap.SameBut i1 g1 g2:=m2;have sz:g5.objs.size=s.heap.objs.size:=by rw[m5.1,m4.1,m3.1,m2.1,m1.1]
 have z5:IsZip g5 z TI TO .ellipsis:=(m5.2 _ c5.symm).trans ((m4.2 _ c9.symm).trans ((m3.2 _ c5.symm).trans ((m2.2 _ c8.symm).trans z1)));have kp:∀c o,c≠z→c≠TO→c≠i1→c≠i2→s.heap.get? c=some o→g5.get? c=some o:=fun c o e1 e2 e3 e4 e=>(m5.2 _ e2).trans ((m4.2 _ e4).trans ((m3.2 _ e2).trans ((m2.2 _ e3).trans ((m1.2 _ e1).trans e))));have v1:S1 (k+1) g5:=D1.frame _ _ _ (D1.frame _ _ _ (D1.frame _ _ _ u1 (C6 d2 m3)) (C6 d3 m4)) (C6 d2 m5);have v2:S2 (k+1) g5:=D2.frame _ _ _ u2 (C6 d5 m5);show wpAny _ _ (Builtin.SmallTypes.ownedTupleHandOut (.ref z) (.ref g5.objs.size)>>=_) _ _ _;unfold Builtin.SmallTypes.ownedTupleHandOut;have z6:IsZip (g5.push { cls:=.type "tuple",data:=.seq #[x,y]}) z TI TO .ellipsis:=aE _ z5;refine aA (aA (wpAny_setField_rec z6 (by simp) fun g7 z7 m7=>wpAny_setField_rec (show IsZip g7 z TI TO (rawInt g5.objs.size) from z7) (by simp) fun g8 z8 m8=>?_));have z8:IsZip g8 z TI TO (rawInt g5.objs.size):=z8;have up:∀c o,c≠z→(g5.push { cls:=.type "tuple",data:=.seq #[x,y]}).get? c=some o→g8.get? c=some o:=fun c o e1 e=>(m8.2 _ e1).trans ((m7.2 _ e1).trans e);have zl:z<g5.objs.size:=aF z5;refine aD ⟨_,rfl,?_⟩;show Q (.ref g5.objs.size) _;have fin:=q x y g8 tk4 p1 p2 (by rw[←sz];exact z8) (up _ _ c5 (aE _ o5)) (D1.frame _ _ _ v1 fun c hc o e=>up c o (fun y=>d1 (y ▸ hc)) (aE _ e)) (D2.frame _ _ _ v2 fun c hc o e=>up c o (fun y=>d4 (y ▸ hc)) (aE _ e))
  (by rw[←sz];exact up _ _ (Nat.ne_of_gt zl) (aR _ rfl)) (by rw[←sz,m8.1,m7.1,Heap.size_push]) fun c o e1 e2 e3 e4 e=>up c o e1 (aE _ (kp c o e1 e2 e3 e4 e))
 rw[sz];exact fin
theorem ended{Q:Fin→Shared→Prop}(D1:Draws prog w A i1 f1 n1 P1 S1)(D2:Draws prog w A i2 f2 n2 P2 S2)(ap:Apart z TI TO i1 i2 f1 f2)(hz:IsZip s.heap z TI TO .none)(hI:IsPair s.heap TI (.ref i1) (.ref i2))(hO:IsPair s.heap TO a b)
 (t1:S1 k s.heap)(t2:S2 k s.heap)(he:k=n1∨(k<n1∧k=n2))
 (q:∀h' e tk,(∀c o,c≠z→c≠TO→c≠i1→c≠i2→s.heap.get? c=some o→h'.get? c=some o)→(∃o,h'.get? e=some o∧o.cls=.type "StopIteration")→E (.ref e) {s with heap:=h',toks:=tk}) :
  wpAny (model prog w) A (Builtin.«zip.__next__» ⟨[.ref z],[]⟩) Q E s:=by
 obtain⟨⟨c1,c2,c3,c4⟩,⟨c5,c6,c7⟩,⟨c8,c9,c10⟩,⟨d1,d2,d3⟩,d4,d5,d6⟩:=ap;show wpAny _ _ (field (.ref z) 2>>=_) _ _ _;refine aA (ag hz rfl (x:=.bool false) rfl ?_);show wpAny _ _ (field (.ref z) 3>>=_) _ _ _;refine aA (ag hz rfl (x:=.ref TI) rfl (aA (bG hI rfl ?_)));show wpAny _ _ (Builtin.SmallTypes.ownedTupleIsFree (.ref z)>>=_) _ _ _;unfold Builtin.SmallTypes.ownedTupleIsFree;refine aA (aA (ag hz rfl (x:=.none) rfl (aD ?_)));simp only[if_true];refine aA (wpAny_rule (aA (ag hz rfl (x:=.ref TO) rfl (aA (wpAny_setField_rec hz (by simp) fun g1 z1 m1=>aA ?_)))));have m1:Heap.SameBut z s.heap g1:=m1;have z1:IsZip g1 z TI TO .ellipsis:=z1;simp only[List.zipIdx_cons,List.zipIdx_nil,List.forIn_cons,List.forIn_nil];refine aA (aA (wpAny_onRaise ?_));show wpAny _ _ (Builtin.SmallTypes.nextOf (.ref i1)>>=_) _ _ _;have t1':=D1.frame _ _ _ t1 (C6 d1 m1);rcases he with he|⟨he1,he2⟩
 ·rw[he]at t1';refine aA (D1.done _ _ _ t1' fun g2 e m2 ho=>?_);obtain⟨o,ho,hc⟩:=ho;have z2:IsZip g2 z TI TO .ellipsis:=m2 _ _ c8.symm z1;have ez:e≠z:=fun y=>by subst y;rw[z2]at ho;cases ho;simp at hc
  exact wpAny_setField_rec z2 (by simp) fun g3 _ m3=>q g3 e _ (fun c o e1 e2 e3 e4 y=>(m3.2 _ e1).trans (m2 _ _ e3 ((m1.2 _ e1).trans y))) ⟨o,(m3.2 _ ez).trans ho,hc⟩
 ·refine aA (D1.item k _ _ _ he1 t1' fun x g2 tk2 p1 u1 m2=>aD ?_);have o2:IsPair g2 TO a b:=(m2.2 _ c6).trans ((m1.2 _ c5).trans hO);refine aA (bG o2 rfl (aA (wpAny_updateSeq_pair o2 fun g3 o3 m3=>aA (wpAny_letGo (aD ?_)))));have t2':S2 k g3:=D2.frame _ _ _ (D2.frame _ _ _ (D2.frame _ _ _ t2 (C6 d4 m1)) (C6 d6 m2)) (C6 d5 m3);rw[he2]at t2';have m2:Heap.SameBut i1 g1 g2:=m2;have m3:Heap.SameBut TO g2 g3:=m3;refine aA (aA (wpAny_onRaise ?_));show wpAny _ _ (Builtin.SmallTypes.nextOf (.ref i2)>>=_) _ _ _;refine aA (D2.done _ _ _ t2' fun g4 e m4 ho=>?_);obtain⟨o,ho,hc⟩:=ho;have z4:IsZip g4 z TI TO .ellipsis:=m4 _ _ c9.symm ((m3.2 _ c5.symm).trans ((m2.2 _ c8.symm).trans z1));have ez:e≠z:=fun y=>by subst y;rw[z4]at ho;cases ho;simp at hc
  exact wpAny_setField_rec z4 (by simp) fun g5 _ m5=>q g5 e _ (fun c o e1 e2 e3 e4 y=>(m5.2 _ e1).trans (m4 _ _ e4 ((m3.2 _ e2).trans ((m2.2 _ e3).trans ((m1.2 _ e1).trans y))))) ⟨o,(m5.2 _ ez).trans ho,hc⟩
theorem next_item{Q:Option Value→Shared→Prop}(D1:Draws prog w A.in1 i1 f1 n1 P1 S1)(D2:Draws prog w A.in1 i2 f2 n2 P2 S2)(ap:Apart z TI TO i1 i2 f1 f2)(hz:IsZip s.heap z TI TO .none)(hI:IsPair s.heap TI (.ref i1) (.ref i2))(hO:IsPair s.heap TO a b)
 (t1:S1 k s.heap)(t2:S2 k s.heap)(l1:k<n1)(l2:k<n2)
 (q:∀x y h' tk,P1 k x→P2 k y→IsZip h' z TI TO (rawInt s.heap.objs.size)→IsPair h' TO x y→S1 (k+1) h'→S2 (k+1) h'→IsPair h' s.heap.objs.size x y→h'.objs.size=s.heap.objs.size+1 →
   (∀c o,c≠z→c≠TO→c≠i1→c≠i2→s.heap.get? c=some o→h'.get? c=some o)→Q (some (.ref s.heap.objs.size)) {s with heap:=h',toks:=tk}) :
  wpAny (model prog w) A (pyNext (.ref z)) Q E s:=by
 have hT:s.TypeIs (.ref z) "zip" := ⟨_,hz,rfl⟩;unfold pyNext;exact aA (wpAny_attempt (ai (name:=Str.ofString "__next__") hT F.slot_zip_next
  (aj F.slot_zip_next hT F.entry_zip_next (item D1 D2 ap hz hI hO t1 t2 l1 l2 fun x y h' tk r1 r2 r3 r4 r5 r6 r7 r8 r9=>aD (q x y h' tk r1 r2 r3 r4 r5 r6 r7 r8 r9)) (F.args_zip_next_1 _))))
theorem next_end{Q:Option Value→Shared→Prop}(D1:Draws prog w A.in1 i1 f1 n1 P1 S1)(D2:Draws prog w A.in1 i2 f2 n2 P2 S2)(ap:Apart z TI TO i1 i2 f1 f2)(hz:IsZip s.heap z TI TO .none)(hI:IsPair s.heap TI (.ref i1) (.ref i2))(hO:IsPair s.heap TO a b)
 (t1:S1 k s.heap)(t2:S2 k s.heap)(he:k=n1∨(k<n1∧k=n2))
 (q:∀h' tk,(∀c o,c≠z→c≠TO→c≠i1→c≠i2→s.heap.get? c=some o→h'.get? c=some o)→Q none {s with heap:=h',toks:=tk}) :
  wpAny (model prog w) A (pyNext (.ref z)) Q E s:=by
 have hT:s.TypeIs (.ref z) "zip" := ⟨_,hz,rfl⟩;unfold pyNext;refine aA (wpAny_attempt (ai (name:=Str.ofString "__next__") hT F.slot_zip_next
  (aj F.slot_zip_next hT F.entry_zip_next (ended D1 D2 ap hz hI hO t1 t2 he fun h' e tk kp ho=>?_) (F.args_zip_next_1 _))))
 obtain⟨o,ho,hc⟩:=ho;exact aA (wpAny_isInstance (T := "StopIteration") (b:=true) ⟨o,ho,hc⟩ isSubtype_stop (aD (q _ _ kp)))
end
end ZT
namespace ZT
open PySem PyProof.Rows
def Sq(b:Bool)(h:Heap)(l:Addr)(xs:List Value):Prop:=if b then h.IsTuple l xs.toArray else h.IsList l xs.toArray
def Dl(b:Bool)(l:Addr):Obj:=if b then { cls:=.type "tuple_iterator",data:=.fields #[.ref l,.int 0 0]} else { cls:=.type "list_iterator",data:=.fields #[.ref l,.int 0 0]}
def Mj(b:Bool)(h:Heap)(it l:Addr)(k:Nat):Prop:=if b then h.IsTupleIter it l k else h.IsListIter it l k
theorem Sq.push{b:Bool}{h:Heap}{l:Addr}{xs:List Value}(o:Obj)(x:Sq b h l xs):Sq b (h.push o) l xs:=by
 cases b with
 |true=>obtain⟨u,e,r⟩:=(show h.IsTuple l xs.toArray from x);exact(show(h.push o).IsTuple l xs.toArray from⟨u,Heap.get?_push_of_some _ e,r⟩)
 |false=>obtain⟨u,e,r⟩:=(show h.IsList l xs.toArray from x);exact(show(h.push o).IsList l xs.toArray from⟨u,Heap.get?_push_of_some _ e,r⟩)
section
variable{prog:Program}{w:World}{A:Around}{E:Value→Shared→Prop}{s:Shared}
theorem RE{b:Bool}{l:Addr}{xs:List Value}{Q:Value→Shared→Prop}(x:Sq b s.heap l xs)(h:Q (.ref s.heap.objs.size) {s with heap:=s.heap.push (Dl b l)}):wpAny (model prog w) A (pyIter (.ref l)) Q E s:=by
 cases b with
 |true=>exact wpAny_pyIter_tuple x h
 |false=>exact wpAny_pyIter_list x h
theorem Ju(hh:A.handled=none)(b:Bool)(it l:Addr)(xs:List Value)(hne:l≠it):Draws prog w A it [it,l] xs.length (fun i v=>xs[i]? = some v) (fun i h=>Mj b h it l i∧Sq b h l xs):=by
 cases b with
 |true=>exact ET.draws hh it l xs hne
 |false =>
  have:=Draws.list (prog:=prog) (w:=w) hh it l hne xs.toArray
  simpa[Mj,Sq]using this
def zh(b1 b2:Bool)(h:Heap)(l1 l2:Addr):Heap :=
 ((((h.push (Dl b1 l1)).push (Dl b2 l2)).push { cls:=.type "tuple",data:=.seq #[.ref h.objs.size,.ref (h.push (Dl b1 l1)).objs.size]}).push { cls:=.type "tuple",data:=.seq #[.none,.none]}).push
  { cls:=.type "zip",data:=.fields #[.none,.bool false,.bool false,.ref ((h.push (Dl b1 l1)).push (Dl b2 l2)).objs.size,.ref (((h.push (Dl b1 l1)).push (Dl b2 l2)).push { cls:=.type "tuple",data:=.seq #[.ref h.objs.size,.ref (h.push (Dl b1 l1)).objs.size]}).objs.size]}
theorem XU(b1 b2:Bool)(l1 l2:Addr)(xs ys:List Value) :
  Meets (Builtin.«zip.__new__» ⟨[.type "zip",.ref l1,.ref l2],[]⟩) (fun _ R s=>Sq b1 s.heap l1 xs∧Sq b2 s.heap l2 ys ∧
   R (.ok (.ret (.ref ((((s.heap.push (Dl b1 l1)).push (Dl b2 l2)).push { cls:=.type "tuple",data:=.seq #[.ref s.heap.objs.size,.ref (s.heap.push (Dl b1 l1)).objs.size]}).push { cls:=.type "tuple",data:=.seq #[.none,.none]}).objs.size)) ) {s with heap:=zh b1 b2 s.heap l1 l2}) :=
 .of_wp fun prog w A R s h=>by
  obtain⟨hp,g,d,tk,os⟩:=s;obtain⟨h1,h2,h⟩:=h;have hsub:=sub_zip;have i1:∀(A:Around) (E:Value→Shared→Prop) (Q:Value→Shared→Prop),Q (.ref hp.objs.size) ⟨hp.push (Dl b1 l1),g,d,tk,os⟩→wpAny (model prog w) A (pyIter (.ref l1)) Q E ⟨hp,g,d,tk,os⟩:=fun A E Q q=>RE (s:=⟨hp,g,d,tk,os⟩) h1 q;have i2:∀(A:Around) (E:Value→Shared→Prop) (Q:Value→Shared→Prop),Q (.ref (hp.push (Dl b1 l1)).objs.size) ⟨(hp.push (Dl b1 l1)).push (Dl b2 l2),g,d,tk,os⟩→wpAny (model prog w) A (pyIter (.ref l2)) Q E ⟨hp.push (Dl b1 l1),g,d,tk,os⟩:=fun A E Q q=>RE (s:=⟨hp.push (Dl b1 l1),g,d,tk,os⟩) (h2.push _) q
  wp_walk using i1,i2
  exact⟨_,rfl,h⟩
theorem U2{b1 b2:Bool}{l1 l2:Addr}{xs ys:List Value}{Q:Value→Shared→Prop}(h1:Sq b1 s.heap l1 xs)(h2:Sq b2 s.heap l2 ys)
 (h:∀h',IsZip h' (s.heap.objs.size+4) (s.heap.objs.size+2) (s.heap.objs.size+3) .none→IsPair h' (s.heap.objs.size+2) (.ref s.heap.objs.size) (.ref (s.heap.objs.size+1))→IsPair h' (s.heap.objs.size+3) .none .none →
   Mj b1 h' s.heap.objs.size l1 0→Mj b2 h' (s.heap.objs.size+1) l2 0→(∀c o,s.heap.get? c=some o→h'.get? c=some o)→Q (.ref (s.heap.objs.size+4)) {s with heap:=h'}) :
  wpAny (model prog w) A (call (.type "zip") [.ref l1,.ref l2]) Q E s:=by
 refine callType_new F.called_zip (by decide) (F.typeCall_zip_2 _ _) (F.newCall_zip_2 _ _) (fun obj=>F.args_object_init_3 obj _ _) F.entry_zip_new (XU b1 b2 l1 l2 xs ys) ⟨h1,h2,?_⟩;have n1:(s.heap.push (Dl b1 l1)).objs.size=s.heap.objs.size+1:=Heap.size_push ..;have up:∀(g:Heap) (o:Obj) (c:Addr) (u:Obj),g.get? c=some u→(g.push o).get? c=some u:=fun g o c u e=>aE _ e;have a0:(s.heap.push (Dl b1 l1)).get? s.heap.objs.size=some (Dl b1 l1):=aR _ (by cases b1<;>rfl);generalize hg1:s.heap.push (Dl b1 l1)=g1 at n1 a0;have k1:∀c o,s.heap.get? c=some o→g1.get? c=some o:=fun c o e=>by rw[←hg1];exact up _ _ _ _ e
 have n2:(g1.push (Dl b2 l2)).objs.size=s.heap.objs.size+2:=by rw[Heap.size_push,n1]
 have a1:(g1.push (Dl b2 l2)).get? (s.heap.objs.size+1)=some (Dl b2 l2):=by rw[←n1];exact aR _ (by cases b2<;>rfl)
 generalize hg2:g1.push (Dl b2 l2)=g2 at n2 a1;have k2:∀c o,g1.get? c=some o→g2.get? c=some o:=fun c o e=>by rw[←hg2];exact up _ _ _ _ e
 have n3:(g2.push { cls:=.type "tuple",data:=.seq #[.ref s.heap.objs.size,.ref (s.heap.objs.size+1)]}).objs.size=s.heap.objs.size+3:=by rw[Heap.size_push,n2]
 have a2:IsPair (g2.push { cls:=.type "tuple",data:=.seq #[.ref s.heap.objs.size,.ref (s.heap.objs.size+1)]}) (s.heap.objs.size+2) (.ref s.heap.objs.size) (.ref (s.heap.objs.size+1)):=by rw[←n2];exact aR _ rfl
 generalize hg3:g2.push { cls:=.type "tuple",data:=.seq #[.ref s.heap.objs.size,.ref (s.heap.objs.size+1)]}=g3 at n3 a2;have k3:∀c o,g2.get? c=some o→g3.get? c=some o:=fun c o e=>by rw[←hg3];exact up _ _ _ _ e
 have n4:(g3.push { cls:=.type "tuple",data:=.seq #[.none,.none]}).objs.size=s.heap.objs.size+4:=by rw[Heap.size_push,n3]
 have a3:IsPair (g3.push { cls:=.type "tuple",data:=.seq #[.none,.none]}) (s.heap.objs.size+3) .none .none:=by rw[←n3];exact aR _ rfl
 generalize hg4:g3.push { cls:=.type "tuple",data:=.seq #[.none,.none]}=g4 at n4 a3;have k4:∀c o,g3.get? c=some o→g4.get? c=some o:=fun c o e=>by rw[←hg4];exact up _ _ _ _ e
 have ez:zh b1 b2 s.heap l1 l2=g4.push { cls:=.type "zip",data:=.fields #[.none,.bool false,.bool false,.ref (s.heap.objs.size+2),.ref (s.heap.objs.size+3)]}:=by
  unfold zh;rw[hg1,hg2,n1,hg3,hg4,n2,n3]
 have a4:IsZip (g4.push { cls:=.type "zip",data:=.fields #[.none,.bool false,.bool false,.ref (s.heap.objs.size+2),.ref (s.heap.objs.size+3)]}) (s.heap.objs.size+4) (s.heap.objs.size+2) (s.heap.objs.size+3) .none:=by rw[←n4];exact aR _ rfl
 rw[n1,hg3,hg4,n4,ez];show _∧_;have k5:∀c o,g4.get? c=some o→(g4.push { cls:=.type "zip",data:=.fields #[.none,.bool false,.bool false,.ref (s.heap.objs.size+2),.ref (s.heap.objs.size+3)]}).get? c=some o:=fun c o e=>up _ _ _ _ e;refine⟨⟨_,a4,rfl⟩,h _ a4 (k5 _ _ (k4 _ _ a2)) (k5 _ _ a3) ?_ ?_ fun c o e=>k5 _ _ (k4 _ _ (k3 _ _ (k2 _ _ (k1 _ _ e))))⟩
 ·have:=k5 _ _ (k4 _ _ (k3 _ _ (k2 _ _ a0)));cases b1 with
  |true=>exact⟨_,this,rfl,rfl⟩
  |false=>exact⟨_,this,rfl,rfl⟩
 ·have:=k5 _ _ (k4 _ _ (k3 _ _ a1));cases b2 with
  |true=>exact⟨_,this,rfl,rfl⟩
  |false=>exact⟨_,this,rfl,rfl⟩
end
end ZT
namespace L2
open PySem PySem.Spec PyProof.Rows
def EL(b:Bool)(H:Hp)(a:Addr)(xs:List V):Prop:=if b then H a=some (.tup xs) else H a=some (.lst xs)
theorem EL.inj{b:Bool}{H:Hp}{a:Addr}{xs ys:List V}(h:EL b H a xs)(k:EL b H a ys):xs=ys:=by
 cases b with
 |true=>have h:H a=some (.tup xs):=h;have k:H a=some (.tup ys):=k;rw[h]at k;cases k;rfl
 |false=>have h:H a=some (.lst xs):=h;have k:H a=some (.lst ys):=k;rw[h]at k;cases k;rfl
theorem EL.none{b:Bool}{H:Hp}{a c:Addr}{xs:List V}(h:EL b H a xs)(k:H c=none):a≠c:=fun z=>by
 subst z;cases b with
 |true=>have h:H a=some (.tup xs):=h;rw[k]at h;cases h
 |false=>have h:H a=some (.lst xs):=h;rw[k]at h;cases h
theorem EL.raw{X:Cx}{pins:List (Addr×Obj)}{σ:St}{H:Hp}{s:Shared}(I:Inv X pins σ H s){b:Bool}{a:Addr}{xs:List V}(h:EL b H a xs):∃its,Vals xs its∧ZT.Sq b s.heap a its:=by
 cases b with
 |true =>
  obtain⟨its,rv,p,_⟩:=I.tuple (A9.of (K:=X.K) (show H a=some (.tup xs) from h));exact⟨its,rv,p⟩
 |false =>
  obtain⟨its,rv,p,_⟩:=I.list (A3.of (K:=X.K) (show H a=some (.lst xs) from h));exact⟨its,rv,p.isList⟩
def YI(b1 b2:Bool)(a1 a2:Addr):It :=
 ⟨fun i H=>∃xs x ys y,EL b1 H a1 xs∧EL b2 H a2 ys∧xs[i]? = some x∧ys[i]? = some y,
  fun i H v H'=>∃p x y,v=.ref p∧H p=none∧H'=upd H p (.tup [x,y])∧(∀xs,EL b1 H a1 xs→xs[i]? = some x)∧∀ys,EL b2 H a2 ys→ys[i]? = some y,
  fun i H=>∃xs ys,EL b1 H a1 xs∧EL b2 H a2 ys∧(i=xs.length∨(i<xs.length∧i=ys.length))⟩
def fY(b1 b2:Bool)(a1 a2 z TI TO i1 i2:Addr):Nat→Heap→Prop:=fun i h=>IsZip h z TI TO .none∧IsPair h TI (.ref i1) (.ref i2)∧(∃a b,IsPair h TO a b)∧ZT.Mj b1 h i1 a1 i∧ZT.Mj b2 h i2 a2 i
theorem LL{b:Bool}{h:Heap}{it l:Addr}{k:Nat}(x:ZT.Mj b h it l k):∃o,h.get? it=some o∧∀v,o.data≠.cell v:=by
 cases b with
 |true=>obtain⟨o,e,_,d⟩:=(show h.IsTupleIter it l k from x);exact⟨o,e,fun v z=>by rw[d]at z;cases z⟩
 |false=>obtain⟨o,e,_,d⟩:=(show h.IsListIter it l k from x);exact⟨o,e,fun v z=>by rw[d]at z;cases z⟩
theorem J4{b:Bool}{h h':Heap}{it l:Addr}{k:Nat}(x:ZT.Mj b h it l k)(e:∀o,h.get? it=some o→h'.get? it=some o):ZT.Mj b h' it l k:=by
 cases b with
 |true=>obtain⟨o,q,r⟩:=(show h.IsTupleIter it l k from x);exact(show h'.IsTupleIter it l k from⟨o,e _ q,r⟩)
 |false=>obtain⟨o,q,r⟩:=(show h.IsListIter it l k from x);exact(show h'.IsListIter it l k from⟨o,e _ q,r⟩)
theorem Vj{P:Program}{w:World}{K:PySem.W.Frag}{elts:List Expr}{x1}{pos:Pos}{b1 b2:Bool}{a1 a2 z TI TO i1 i2:Addr}(ne:[z,TI,TO,i1,i2].Nodup) :
  Turn P w K (.Tuple elts x1 pos) (YI b1 b2 a1 a2) [z,TI,TO,i1,i2] z (fY b1 b2 a1 a2 z TI TO i1 i2) where
 mem:=by simp
 obj:=fun i h st b hb=>by
  obtain⟨h1,h2,⟨u,v,h3⟩,h4,h5⟩:=st;have hb:b=z∨b=TI∨b=TO∨b=i1∨b=i2:=by simpa using hb
  rcases hb with rfl|rfl|rfl|rfl|rfl
  ·exact⟨_,h1,fun v y=>by cases y⟩
  ·exact⟨_,h2,fun v y=>by cases y⟩
  ·exact⟨_,h3,fun v y=>by cases y⟩
  ·exact LL h4
  ·exact LL h5
 keep:=fun i h h' st k=>by
  obtain⟨h1,h2,⟨u,v,h3⟩,h4,h5⟩:=st;exact⟨k z (by simp) _ h1,k TI (by simp) _ h2,⟨u,v,k TO (by simp) _ h3⟩,J4 h4 fun o e=>k i1 (by simp) o e,J4 h5 fun o e=>k i2 (by simp) o e⟩
 item:=by
  intro X hP hw hK hc i pins s σ H E I hf st hg;subst hP hw hK;obtain⟨xs,x,ys,y,q1,q2,hx,hy⟩:=hg;obtain⟨us,rv1,p1⟩:=q1.raw I;obtain⟨vs,rv2,p2⟩:=q2.raw I;obtain⟨u,hu,ru⟩:=rv1.get hx;obtain⟨v,hv,rv⟩:=rv2.get hy;obtain⟨t1,t2,⟨ta,tb,t3⟩,t4,t5⟩:=st;have e1:∀b∈[z,TI,TO,i1,i2],a1≠b:=fun b hb=>q1.none (hf b hb).1;have e2:∀b∈[z,TI,TO,i1,i2],a2≠b:=fun b hb=>q2.none (hf b hb).1;simp only[List.nodup_cons,List.mem_cons,List.not_mem_nil,or_false,not_or]at ne;obtain⟨⟨n1,n2,n3,n4⟩,⟨n5,n6,n7⟩,⟨n8,n9⟩,n10,_⟩:=ne;have ap:ZT.Apart z TI TO i1 i2 [i1,a1] [i2,a2]:=⟨⟨Ne.symm n1,n5,n6,n7⟩,⟨Ne.symm n2,n8,n9⟩,⟨Ne.symm n3,Ne.symm n4,n10⟩,
   ⟨by simp[n3,Ne.symm (e1 z (by simp))],by simp[n8,Ne.symm (e1 TO (by simp))],by simp[Ne.symm n10,Ne.symm (e1 i2 (by simp))]⟩,⟨by simp[n4,Ne.symm (e2 z (by simp))],by simp[n9,Ne.symm (e2 TO (by simp))],by simp[n10,Ne.symm (e2 i1 (by simp))]⟩⟩
  refine ZT.next_item (ZT.Ju (prog:=X.prog) (w:=X.w) (A:=X.A.in1) (I.ok.hd hc) b1 i1 a1 us (e1 i1 (by simp))) (ZT.Ju (prog:=X.prog) (w:=X.w) (A:=X.A.in1) (I.ok.hd hc) b2 i2 a2 vs (e2 i2 (by simp))) ap t1 t2 t3 ⟨t4,p1⟩ ⟨t5,p2⟩ (aG.mp hu).1 (aG.mp hv).1
   fun u' v' h' tk r1 r2 r3 r4 r5 r6 r7 r8 r9=>⟨_,rfl,wpAny_letOwnedTupleGo_zip (s:={s with heap:=h',toks:=tk}) r3 fun h'' z'' sb=>?_⟩
  rw[hu]at r1;rw[hv]at r2;cases r1;cases r2;have keep:∀b o,b ∉ [z,TI,TO,i1,i2]→s.heap.get? b=some o→h''.get? b=some o:=fun b o hb q=>by
   simp only[List.mem_cons,List.not_mem_nil,or_false,not_or]at hb;exact(sb.2 b hb.1).trans (r9 b o hb.1 hb.2.2.1 hb.2.2.2.1 hb.2.2.2.2 q)
  have lt:∀b∈[z,TI,TO,i1,i2],b<s.heap.objs.size:=fun b hb=>by
   have hb:b=z∨b=TI∨b=TO∨b=i1∨b=i2:=by simpa using hb
   rcases hb with rfl|rfl|rfl|rfl|rfl
   ·exact aF t1
   ·exact aF t2
   ·exact aF t3
   ·obtain⟨o,e,_⟩:=LL t4;exact aF e
   ·obtain⟨o,e,_⟩:=LL t5;exact aF e
  have hTn:H s.heap.objs.size=none:=I.Aa.fresh (aH _);have hT'':h''.get? s.heap.objs.size=some { cls:=.type "tuple",data:=.seq #[u,v]}:=(sb.2 _ (Nat.ne_of_gt (lt z (by simp)))).trans r7;refine⟨.ref s.heap.objs.size,upd H s.heap.objs.size (.tup [x,y]),?_,rfl,⟨_,x,y,rfl,hTn,rfl,fun zs hz=>by rw[hz.inj q1];exact hx,fun zs hz=>by rw[hz.inj q2];exact hy⟩,⟨z'',?_,⟨u,v,?_⟩,?_,?_⟩,fun b hb=>?_⟩
  ·exact I.QH hf keep Wq (.cons ru (.cons rv .nil)) hT''
  ·exact(sb.2 _ (Ne.symm n1)).trans (r9 _ _ (Ne.symm n1) n5 n6 n7 t2)
  ·exact(sb.2 _ (Ne.symm n2)).trans r4
  ·exact J4 r5.1 fun o e=>(sb.2 _ (Ne.symm n3)).trans e
  ·exact J4 r6.1 fun o e=>(sb.2 _ (Ne.symm n4)).trans e
  ·rw[AR (aL (lt b hb))];exact(hf b hb).1
 done:=by
  intro X hP hw hK hc i pins s σ H E I hf st hg;subst hP hw hK;obtain⟨xs,ys,q1,q2,he⟩:=hg;obtain⟨us,rv1,p1⟩:=q1.raw I;obtain⟨vs,rv2,p2⟩:=q2.raw I;obtain⟨t1,t2,⟨ta,tb,t3⟩,t4,t5⟩:=st;have e1:∀b∈[z,TI,TO,i1,i2],a1≠b:=fun b hb=>q1.none (hf b hb).1;have e2:∀b∈[z,TI,TO,i1,i2],a2≠b:=fun b hb=>q2.none (hf b hb).1;simp only[List.nodup_cons,List.mem_cons,List.not_mem_nil,or_false,not_or]at ne;obtain⟨⟨n1,n2,n3,n4⟩,⟨n5,n6,n7⟩,⟨n8,n9⟩,n10,_⟩:=ne;have ap:ZT.Apart z TI TO i1 i2 [i1,a1] [i2,a2]:=⟨⟨Ne.symm n1,n5,n6,n7⟩,⟨Ne.symm n2,n8,n9⟩,⟨Ne.symm n3,Ne.symm n4,n10⟩,
   ⟨by simp[n3,Ne.symm (e1 z (by simp))],by simp[n8,Ne.symm (e1 TO (by simp))],by simp[Ne.symm n10,Ne.symm (e1 i2 (by simp))]⟩,⟨by simp[n4,Ne.symm (e2 z (by simp))],by simp[n9,Ne.symm (e2 TO (by simp))],by simp[n10,Ne.symm (e2 i1 (by simp))]⟩⟩
  have he':i=us.length∨(i<us.length∧i=vs.length):=by rw[←rv1.length,←rv2.length];exact he
  refine ZT.next_end (ZT.Ju (prog:=X.prog) (w:=X.w) (A:=X.A.in1) (I.ok.hd hc) b1 i1 a1 us (e1 i1 (by simp))) (ZT.Ju (prog:=X.prog) (w:=X.w) (A:=X.A.in1) (I.ok.hd hc) b2 i2 a2 vs (e2 i2 (by simp))) ap t1 t2 t3 ⟨t4,p1⟩ ⟨t5,p2⟩ he' fun h' tk kp=>⟨rfl,?_⟩;have keep:∀b o,b ∉ [z,TI,TO,i1,i2]→s.heap.get? b=some o→h'.get? b=some o:=fun b o hb q=>by
   simp only[List.mem_cons,List.not_mem_nil,or_false,not_or]at hb;exact kp b o hb.1 hb.2.2.1 hb.2.2.2.1 hb.2.2.2.2 q
  exact I.turn hf keep
 self:=fun _ _ _ _ _ st h=>wpAny_pyIter_zip st.1 h
def eI(ta:TA):TI:=fun σ H R=>ta σ H fun vs H1=>∃(b1 b2:Bool) (a1 a2:Addr),vs=[.ref a1,.ref a2]∧(∃xs,EL b1 H1 a1 xs)∧(∃ys,EL b2 H1 a2 ys)∧R (YI b1 b2 a1 a2) H1
theorem YS{X:Cx}{elts:List Expr}{x1}{tpos:Pos}{a b:Expr}{ta:TA}{p pos:Pos}(hg:Gl X "zip")(hm:X.mg "zip" = none)(ha:PA X [a,b] ta)(hs:starEach [a,b] X.env=[(false,eval a X.env),(false,eval b X.env)]:=by rfl)(hs2:starEach [b] X.env=[(false,eval b X.env)]:=by rfl) :
  PI X (.Tuple elts x1 tpos) (.Call (.Name "zip" p) [a,b] [] pos) (eI ta):=by
 intro pins s σ H R I h;refine Call_ (Hb I hg hm boot_zip (az (Ar (ha pos pins s σ H _ I h) fun us s1 ⟨vs,H1,I1,r1,q1⟩=>?_) (by rw[hs,hs2]) (by rw[hs2];rfl)));obtain⟨b1,b2,l1,l2,e,⟨xs,h1⟩,⟨ys,h2⟩,q⟩:=q1;subst e;cases r1 with
 |cons r rr =>
  cases rr with
  |cons r' rr =>
   cases rr;cases r;cases r';obtain⟨us,_,p1⟩:=h1.raw I1;obtain⟨vs,_,p2⟩:=h2.raw I1;refine ZT.U2 p1 p2 fun h' z1 z2 z3 z4 z5 hk=>wpAny_pyIter_zip z1 ?_;have I2:Inv X pins σ H1 {s1 with heap:=h'}:=I1.kept (t':=s1.toks) hk;refine⟨_,[s1.heap.objs.size+4,s1.heap.objs.size+2,s1.heap.objs.size+3,s1.heap.objs.size,s1.heap.objs.size+1],_,_,H1,rfl,I2,Vj ?_,⟨z1,z2,⟨_,_,z3⟩,z4,z5⟩,fun b hb=>?_,q⟩
   ·simp
   have hb':s1.heap.objs.size≤b:=by
    have hb2:b=s1.heap.objs.size+4∨b=s1.heap.objs.size+2∨b=s1.heap.objs.size+3∨b=s1.heap.objs.size∨b=s1.heap.objs.size+1:=by simpa using hb
    rcases hb2 with h|h|h|h|h<;>rw[h]<;>first|exact aH _|exact Nat.le_add_right _ _
   exact I1.NL hb' (I1.Aa.fresh hb')
def RS(K:PySem.W.Frag)(a:Addr):It :=
 ⟨fun i H=>∃xs x,A3 K H a xs∧xs[i]? = some x,fun i H v H'=>∃p x,v=.ref p∧H p=none∧H'=upd H p (.tup [.int i,x])∧∀xs,A3 K H a xs→xs[i]? = some x,fun i H=>∃xs,A3 K H a xs∧xs.length=i⟩
theorem Sd{P:Program}{w:World}{K:PySem.W.Frag}{elts:List Expr}{x1}{pos:Pos}(a e it:Addr)(hne:e≠it) :
  Turn P w K (.Tuple elts x1 pos) (RS K a) [e,it] e (fun i h=>(∃old,IsEnum h e it (i:Nat) old)∧h.IsListIter it a i) where
 mem:=by simp
 obj:=fun i h st b hb=>by
  rcases aI.mp hb with rfl|hb
  ·obtain⟨⟨old,q⟩,_⟩:=st;exact⟨_,q,fun v z=>by cases z⟩
  ·have e2:b=it:=by simpa using hb
   subst e2;obtain⟨_,o,q,c,d⟩:=st;exact⟨o,q,fun v z=>by rw[d]at z;cases z⟩
 keep:=fun i h h' st k=>by
  obtain⟨⟨old,q⟩,o,q2,r⟩:=st;exact⟨⟨old,k e (by simp) _ q⟩,o,k it (by simp) _ q2,r⟩
 item:=by
  intro X hP hw hK hc i pins s σ H E I hf st hg;subst hP hw hK;obtain⟨xs,x,hq,hx⟩:=hg;obtain⟨its,rv,pL,hz⟩:=I.list hq;have p:=pL.isList;obtain⟨u,hu,ru⟩:=rv.get hx;obtain⟨⟨old,he⟩,hit⟩:=st;have hai:a≠it:=fun z=>by
   obtain⟨o,e1,c1,_⟩:=p;obtain⟨o2,e2,c2,_⟩:=hit;rw[z,e2]at e1;cases e1;rw[c1]at c2;exact absurd c2 (by decide)
  have hae:a≠e:=fun z=>by
   obtain⟨o,e1,c1,_⟩:=p;rw[z,he]at e1;cases e1;exact absurd (show Value.type "enumerate" = Value.type "list" from c1) (by decide)
  have hlt:i<its.length:=(aG.mp hu).1;have hE0:=hf e (by simp);have hI0:=hf it (by simp);refine wpAny_pyNext_enum_itemD (Draws.list (prog:=X.prog) (w:=X.w) (A:=X.A.in1) (I.ok.hd hc) it a hai its.toArray) he ⟨hit,p⟩ (by simpa using hlt) hne (by simp[hne,Ne.symm hae]) fun y h' tk hy ho hs' hT hsz hk=>⟨_,rfl,wpAny_letOwnedTupleGo_enum (s:={s with heap:=h',toks:=tk+1}) ho fun h'' he'' sb=>?_⟩;have hyu:y=u:=by
   have hy:its[i]? = some y:=by simpa using hy
   rw[hu]at hy;exact(aS hy).symm
  subst hyu;have keep:∀b o,b≠e→b≠it→s.heap.get? b=some o→h''.get? b=some o:=fun b o h1 h2 q=>(sb.2 b h1).trans (hk b o h1 h2 q);have hTe:s.heap.objs.size≠e:=Nat.ne_of_gt (aF he);have hTi:s.heap.objs.size≠it:=let⟨_,q,_⟩:=hit;Nat.ne_of_gt (aF q);have hT'':h''.get? s.heap.objs.size=some { cls:=.type "tuple",data:=.seq #[.int i tk,y]}:=(sb.2 _ hTe).trans hT;have hTn:H s.heap.objs.size=none:=I.Aa.fresh (aH _);refine⟨.ref s.heap.objs.size,upd H s.heap.objs.size (.tup [.int i,x]),?_,rfl,⟨_,x,rfl,hTn,rfl,fun ys hy=>by rw[I.PD hy hq];exact hx⟩,⟨⟨_,by simpa using he''⟩,?_⟩,fun b hb=>?_⟩
  ·exact I.QH (ch:=[e,it]) hf (fun b o hb q=>keep b o (fun z=>hb (by simp[z])) (fun z=>hb (by simp[z])) q) Wq (.cons ⟨tk,rfl⟩ (.cons ru .nil)) hT''
  ·obtain⟨⟨o,q,r⟩,_⟩:=hs';exact⟨o,(sb.2 it (Ne.symm hne)).trans q,r⟩
  ·rcases aI.mp hb with rfl|hb
   ·rw[AR (Ne.symm hTe)];exact hE0.1
   ·have e2:b=it:=by simpa using hb
    subst e2;rw[AR (Ne.symm hTi)];exact hI0.1
 done:=by
  intro X hP hw hK hc i pins s σ H E I hf st hg;subst hP hw hK;obtain⟨xs,hq,hx⟩:=hg;obtain⟨its,rv,pL,hz⟩:=I.list hq;have p:=pL.isList;obtain⟨⟨old,he⟩,hit⟩:=st;have hai:a≠it:=fun z=>by
   obtain⟨o,e1,c1,_⟩:=p;obtain⟨o2,e2,c2,_⟩:=hit;rw[z,e2]at e1;cases e1;rw[c1]at c2;exact absurd c2 (by decide)
  have hl:its.length=i:=by rw[←rv.length];exact hx
  subst hl;obtain⟨f0,f1,f2,f3,f4,f5⟩:=hf it (by simp);exact wpAny_pyNext_enum_endD (Draws.list (prog:=X.prog) (w:=X.w) (A:=X.A.in1) (I.ok.hd hc) it a hai its.toArray) he ⟨hit,p⟩ fun h' eb=>⟨rfl,I.turned (t':=s.toks) (fun b o hb q=>eb b o hb q) f0 f1 f3 f4 f5⟩
 self:=fun _ _ _ _ _ st h=>by
  obtain⟨⟨old,he⟩,_⟩:=st;exact wpAny_pyIter_enum he h
def Zv(K:PySem.W.Frag)(ta:TA):TI:=fun σ H R=>ta σ H fun vs H1=>∃a,vs=[.ref a]∧(∃xs,A3 K H1 a xs)∧R (RS K a) H1
theorem MY{X:Cx}{elts:List Expr}{x1}{tpos:Pos}{a:Expr}{ta:TA}{p pos:Pos}(hg:Gl X "enumerate")(hm:X.mg "enumerate" = none)(ha:PA X [a] ta)(hs:starEach [a] X.env=[(false,eval a X.env)]:=by rfl) :
  PI X (.Tuple elts x1 tpos) (.Call (.Name "enumerate" p) [a] [] pos) (Zv X.K ta):=by
 intro pins s σ H R I h;refine Call_ (Hb I hg hm boot_enumerate (az (Ar (ha pos pins s σ H _ I h) fun us s1 ⟨vs,H1,I1,r1,q1⟩=>?_) hs rfl));obtain⟨t,e,⟨xs,hq⟩,q⟩:=q1;subst e;cases r1 with
 |cons r rr =>
  cases rr;cases r;obtain⟨its,rv,p',hz⟩:=I1.list hq;refine call_enumerate_list (show s1.heap.IsList t its.toArray from p'.isList) fun h' he hit hsz hk=>wpAny_pyIter_enum he ?_;have I2:Inv X pins σ H1 {s1 with heap:=h'}:=I1.kept (t':=s1.toks) hk;have hn:s1.heap.objs.size+1≠s1.heap.objs.size:=by lia
  refine⟨s1.heap.objs.size+1,[s1.heap.objs.size+1,s1.heap.objs.size],_,_,H1,rfl,I2,Sd t _ _ hn,⟨⟨_,he⟩,hit⟩,fun b hb=>?_,q⟩;have hb':s1.heap.objs.size≤b:=by
   have hb2:b=s1.heap.objs.size+1∨b=s1.heap.objs.size:=by simpa using hb
   rcases hb2 with z|z
   ·rw[z];exact Nat.le_succ _
   ·rw[z];exact aH _
  exact I1.NL hb' (I1.Aa.fresh hb')
theorem OJ{K:PySem.W.Frag}{a:Addr}{xs:List V}{g:TG}{tb:TS}{D:Ends}{σ:St}{H:Hp}(Pv:Nat→St→Hp→Prop)(h0:Pv 0 σ H)(hl:∀i σ H,i≤xs.length→Pv i σ H→A3 K H a xs)
 (hs:∀i x σ H,xs[i]? = some x→Pv i σ H→∀p,H p=none→g (.ref p) σ (upd H p (.tup [.int (i:Nat),x])) fun σ2 H2=>tb {D with nx:=Pv (i+1),ct:=Pv (i+1),bk:=D.nx} σ2 H2)(hd:∀σ H,Pv xs.length σ H→D.nx σ H) :
  ∃W:Nat→Nat→St→Hp→Prop,(∃m,W 0 m σ H)∧∀i m σ H,W i m σ H →
   ((RS K a).stop i H∧D.nx σ H)∨((RS K a).go i H∧∃N:St→Hp→Prop,(∀σ' H',N σ' H'→∃m',m'<m∧W (i+1) m' σ' H')∧∀x H',(RS K a).Dm i H x H'→g x σ H' fun σ2 H2=>tb {D with nx:=N,ct:=N,bk:=D.nx} σ2 H2):=by
 refine⟨fun i m σ H=>m=xs.length-i∧i≤xs.length∧Pv i σ H,⟨xs.length,by simp,Nat.zero_le _,h0⟩,?_⟩;rintro i m σ H ⟨rfl,hi,p⟩;have q:=hl i σ H hi p;by_cases hlt:i<xs.length
 ·refine .inr ⟨⟨xs,xs[i],q,by simp[hlt]⟩,Pv (i+1),fun σ' H' p'=>⟨xs.length-(i+1),by lia,rfl,hlt,p'⟩,fun x H' y=>?_⟩;obtain⟨pp,x',rfl,hn,rfl,y⟩:=y;exact hs i x' σ _ (y xs q) p pp hn
 ·have e:i=xs.length:=by lia
  subst e;exact .inl ⟨⟨xs,q,rfl⟩,hd σ H p⟩
section
variable{κ:Type}[DecidableEq κ]
def Fi(kvs:List (κ×V))(k:κ):Option V:=(kvs.find? fun kv=>decide (kv.1=k)).map (·.2)
def putK(kvs:List (κ×V))(k:κ)(v:V):List (κ×V) :=
 if(kvs.any fun kv=>decide (kv.1=k))=true then kvs.map (fun kv=>if kv.1=k then(kv.1,v) else kv) else kvs++[(k,v)]
theorem ME{p:κ×V}{r:List (κ×V)}{k:κ}(e:p.1=k):Fi (p::r) k=some p.2:=by simp[Fi,List.find?_cons,e]
theorem MU{p:κ×V}{r:List (κ×V)}{k:κ}(e:¬p.1=k):Fi (p::r) k=Fi r k:=by simp[Fi,List.find?_cons,e]
theorem QK(k:κ):∀kvs:List (κ×V),(kvs.any fun kv=>decide (kv.1=k))=(Fi kvs k).isSome
 |[]=>rfl
 |p::r=>by
  rw[List.any_cons];by_cases e:p.1=k
  ·simp only[ME e,decide_eq_true e,Bool.true_or,Option.isSome_some]
  ·rw[MU e,decide_eq_false e,Bool.false_or];exact QK k r
theorem Ly(kvs:List (κ×V))(k:κ)(v:V):(putK kvs k v).length≤kvs.length+1:=by
 unfold putK;split
 ·rw[List.length_map];lia
 ·rw[List.length_append,List.length_cons,List.length_nil];lia
theorem IE.Ug{o:Option V}{u:Option Value}(r:IE o u):o.isSome=u.isSome:=by
 cases o with
 |none=>cases u with
  |none=>rfl
  |some _=>exact(show False from r).elim
 |some _=>cases u with
  |none=>exact(show False from r).elim
  |some _=>rfl
theorem KV.val{kvs:List (κ×V)}{vs:List (κ×Value)}(r:KV kvs vs)(k:κ):IE (Fi kvs k) (valueAt vs k):=by
 unfold KV at r
 induction r with
 |nil=>exact True.intro
 | @cons p q ps qs h t ih =>
  obtain⟨h1,h2⟩:=h;by_cases e:p.1=k
  ·have e':q.1=k:=h1.symm.trans e;have b:valueAt (q::qs) k=some q.2:=by simp[valueAt,List.find?_cons,e']
   rw[ME e,b];exact h2
  ·have e':¬q.1=k:=fun z=>e (h1.trans z);have b:valueAt (q::qs) k=valueAt qs k:=by simp[valueAt,List.find?_cons,e']
   rw[MU e,b];exact ih
theorem KV.any{kvs:List (κ×V)}{vs:List (κ×Value)}(r:KV kvs vs)(k:κ):(kvs.any fun kv=>decide (kv.1=k))=vs.any fun kv=>decide (kv.1=k):=by
 unfold KV at r
 induction r with
 |nil=>rfl
 |cons h t ih=>rw[List.any_cons,List.any_cons,ih,h.1]
theorem KV.V5{kvs:List (κ×V)}{vs:List (κ×Value)}(r:KV kvs vs)(k:κ){y:V}{u:Value}(ry:RelV y u) :
  KV (kvs.map fun kv=>if kv.1=k then(kv.1,y) else kv) (vs.map fun kv=>if kv.1=k then(kv.1,u) else kv):=by
 unfold KV at r ⊢
 induction r with
 |nil=>exact .nil
 | @cons p q ps qs h t ih =>
  rw[List.map_cons,List.map_cons];refine .cons ?_ ih;obtain⟨h1,h2⟩:=h;by_cases e:p.1=k
  ·rw[if_pos e,if_pos (h1.symm.trans e)];exact⟨h1,ry⟩
  ·rw[if_neg e,if_neg (fun z=>e (h1.trans z))];exact⟨h1,h2⟩
theorem KV.put{kvs:List (κ×V)}{vs:List (κ×Value)}(r:KV kvs vs)(k:κ){y:V}{u:Value}(ry:RelV y u):KV (putK kvs k y) (stored vs k u):=by
 unfold putK stored;rw[r.any k];by_cases e:(vs.any fun kv=>decide (kv.1=k))=true
 ·rw[if_pos e,if_pos e];exact r.V5 k ry
 ·rw[if_neg e,if_neg e];exact Paired.snoc r ⟨rfl,ry⟩
theorem KV.length{kvs:List (κ×V)}{vs:List (κ×Value)}(r:KV kvs vs):kvs.length=vs.length:=Paired.length r
end
theorem SY{P:Program}{w:World}{k:Key}{u:Value}(r:RelV (kV k) u):(Cr P w).is k u=true:=by
 cases k with
 |inl i=>obtain⟨t,e⟩:=(show ∃t,u=Value.int i t from r);subst e;exact Qv P w i t
 |inr x=>obtain⟨t,e⟩:=(show ∃t,u=Value.str x t from r);subst e;exact Qj P w x t
theorem OG{P:Program}{w:World}:∀ {ks:List Key} {us:List Value},Vals (ks.map kV) us→ItemsAre (Cr P w) ks us
 |[],_,r=>by rw[List.map_nil]at r;cases r;exact .nil
 |k::ks,_,r=>by
  rw[List.map_cons]at r;cases r with
  |cons h t=>exact .cons (SY h) (OG t)
abbrev KT(H:Hp):List (List Key×V)→List (List Key×Addr×Value)→Prop:=Paired fun p q=>p.1=q.1∧H q.2.1=some (.tup (p.1.map kV))∧RelV p.2 q.2.2
theorem KT.val{H:Hp}{kvs:List (List Key×V)}{xs:List (List Key×Addr×Value)}(r:KT H kvs xs)(k:List Key):IE (Fi kvs k) ((atKey xs k).map (·.2)):=by
 induction r with
 |nil=>exact True.intro
 | @cons p q ps qs h t ih =>
  obtain⟨h1,_,h2⟩:=h;by_cases e:p.1=k
  ·have e':q.1=k:=h1.symm.trans e;have b:atKey (q::qs) k=some q.2:=by simp[atKey,List.find?_cons,e']
   rw[ME e,b];exact h2
  ·have e':¬q.1=k:=fun z=>e (h1.trans z);have b:atKey (q::qs) k=atKey qs k:=by simp[atKey,List.find?_cons,e']
   rw[MU e,b];exact ih
theorem KT.V5{H:Hp}{kvs:List (List Key×V)}{xs:List (List Key×Addr×Value)}(r:KT H kvs xs)(k:List Key){y:V}{u:Value}(ry:RelV y u) :
  KT H (kvs.map fun kv=>if kv.1=k then(kv.1,y) else kv) (xs.map (putAt k u)):=by
 induction r with
 |nil=>exact .nil
 | @cons p q ps qs h t ih =>
  rw[List.map_cons,List.map_cons];refine .cons ?_ ih;obtain⟨h1,h2,h3⟩:=h;unfold putAt;by_cases e:p.1=k
  ·rw[if_pos e,if_pos (h1.symm.trans e)];exact⟨h1,h2,ry⟩
  ·rw[if_neg e,if_neg (fun z=>e (h1.trans z))];exact⟨h1,h2,h3⟩
theorem KT.put{H:Hp}{kvs:List (List Key×V)}{xs:List (List Key×Addr×Value)}(r:KT H kvs xs)(k:List Key){b:Addr}{y:V}{u:Value}(hb:H b=some (.tup (k.map kV)))(ry:RelV y u) :
  KT H (putK kvs k y) (storedH xs k b u):=by
 have e:(kvs.any fun kv=>decide (kv.1=k))=(atKey xs k).isSome:=by
  rw[QK,(r.val k).Ug,Option.isSome_map]
 unfold putK storedH;rw[e];by_cases q:(atKey xs k).isSome=true
 ·rw[if_pos q,if_pos q];exact r.V5 k ry
 ·rw[if_neg q,if_neg q];exact Paired.snoc r ⟨rfl,hb,ry⟩
theorem KT.keeps{H H':Hp}{kvs:List (List Key×V)}{xs:List (List Key×Addr×Value)}(r:KT H kvs xs)(ht:∀b ys,H b=some (.tup ys)→H' b=some (.tup ys)):KT H' kvs xs :=
 Paired.Vu r fun _ _ z=>⟨z.1,ht _ _ z.2.1,z.2.2⟩
section
variable{P:Program}{w:World}{H:Hp}{h:Heap}{a:Addr}
theorem WL{u:HO}(ok:CV P w H h)(e:Rd H a u):Bb P w H h a u:=e.ok ok
theorem SQ{kvs:List (Key×V)}(ok:CV P w H h)(e:Rd H a (.dK kvs)):kvs.length≤sizeLine∧(a==sysModules)=false∧∃vs,KV kvs vs∧h.DictOf (Cr P w) a vs :=
 show Bb P w H h a (.dK kvs) from WL ok e
theorem bw{kvs:List (Key×V)}(ok:CV P w H h)(e:H a=some (.dK kvs)):kvs.length≤sizeLine∧(a==sysModules)=false∧∃vs,KV kvs vs∧h.DictOf (Cr P w) a vs:=SQ ok (.inl e)
theorem Pb{ks:List Key}(ok:CV P w H h)(e:H a=some (.tup (ks.map kV))):(tupleKind (Cr P w)).is h ks a:=by
 obtain⟨_,its,r,o,h1,h2,n,h3⟩:=(show Bb P w H h a (.tup (ks.map kV)) from ok a _ e);exact⟨o,its.toArray,n,h1,h2,h3,by simpa using OG r⟩
theorem Rz{kvs:List (List Key×V)}(ok:CV P w H h)(e:Rd H a (.dT kvs)):kvs.length≤sizeLine∧(a==sysModules)=false ∧
  ∃xs,KT H kvs xs∧h.DictOfH (tupleKind (Cr P w)) a xs:=by
 obtain⟨z,y,xs,r,o,es,ep,h1,h2,h3,h4,h5⟩:=(show Bb P w H h a (.dT kvs) from WL ok e);refine⟨z,y,xs,r,o,es,ep,h1,h2,h3,h4,fun x hx=>?_,h5⟩;have all:∀ {l:List (List Key×V)} {m:List (List Key×Addr×Value)},KT H l m→∀x∈m,(tupleKind (Cr P w)).is h x.1 x.2.1:=by
  intro l m q
  induction q with
  |nil=>intro x hx;exact nomatch hx
  | @cons p q ps qs hq t ih =>
   intro x hx;rcases aI.mp hx with e|hx
   ·subst e;exact Pb ok (by rw[←hq.1];exact hq.2.1)
   ·exact ih x hx
 exact all r x hx
theorem WD{kvs:List (List Key×V)}(ok:CV P w H h)(e:H a=some (.dT kvs)):kvs.length≤sizeLine∧(a==sysModules)=false ∧
  ∃xs,KT H kvs xs∧h.DictOfH (tupleKind (Cr P w)) a xs:=Rz ok (.inl e)
end
def NW(H:Hp)(a:Addr)(y:V)(r:Option V):Prop :=
 (∃kvs k,Rd H a (.dK kvs)∧y=kV k∧r=Fi kvs k)∨∃kvs k b,Rd H a (.dT kvs)∧y=.ref b∧H b=some (.tup (k.map kV))∧r=Fi kvs k
def QP(H:Hp)(a:Addr)(y v:V)(H':Hp):Prop :=
 (∃kvs k,H a=some (.dK kvs)∧y=kV k∧kvs.length<sizeLine∧H'=upd H a (.dK (putK kvs k v))) ∨
 ∃kvs k b,H a=some (.dT kvs)∧y=.ref b∧H b=some (.tup (k.map kV))∧kvs.length<sizeLine∧H'=upd H a (.dT (putK kvs k v))
theorem NW.t{H:Hp}{a b:Addr}{kvs:List (List Key×V)}{k:List Key}(e:H a=some (.dT kvs))(eb:H b=some (.tup (k.map kV))):NW H a (.ref b) (Fi kvs k):=.inr ⟨kvs,k,b,.inl e,rfl,eb,rfl⟩
theorem QP.t{H:Hp}{a b:Addr}{kvs:List (List Key×V)}{k:List Key}{v:V}(e:H a=some (.dT kvs))(eb:H b=some (.tup (k.map kV)))(hl:kvs.length<sizeLine) :
  QP H a (.ref b) v (upd H a (.dT (putK kvs k v))):=.inr ⟨kvs,k,b,e,rfl,eb,hl,rfl⟩
section
variable{X:Cx}{pins:List (Addr×Obj)}{σ:St}{H:Hp}{s:Shared}{a:Addr}{y v:V}{u r:Value}{o:Option V}{A:Around}{E:Value→Shared→Prop}
theorem Inv.big(I:Inv X pins σ H s):sysModules<s.heap.objs.size:=by
 have h:mainGlobals<s.heap.objs.size:=(I.mod.glob.keeps I.bk).lt;exact Nat.lt_trans (by decide) h
theorem Ua{Q:Value→Shared→Prop}(hu:A.units+1<cLine)(I:Inv X pins σ H s)(g:NW H a y (some v))(ry:RelV y u)(h:∀w' s',Inv X pins σ H s'→RelV v w'→Q w' s') :
  wpAny (model X.prog X.w) A (getItem (.ref a) u) Q E s:=by
 rcases g with ⟨kvs,k,e,ey,l⟩|⟨kvs,k,b,e,ey,eb,l⟩
 ·subst ey;obtain⟨z,hd,vs,rel,dd⟩:=SQ I.Aa e;obtain⟨w',hw,rw'⟩:=IE.some_of (v:=v) (o:=valueAt vs k) (by rw[l];exact rel.val k);exact wpAny_getItem_of (SY ry) dd.mapOf hw (h w' _ (I.tok _) rw')
 ·subst ey;cases (show u=Value.ref b from ry);obtain⟨z,hd,xs,rel,dd⟩:=Rz I.Aa e;obtain⟨w',hw,rw'⟩:=IE.some_of (v:=v) (o:=(atKey xs k).map (·.2)) (by rw[l];exact rel.val k);obtain⟨p,hp,hp2⟩:=aC.mp hw;refine wpAny_getItem_heap (tupleKind_room_in1 hu) (Pb I.Aa eb) dd hp ?_;rw[hp2];exact h w' _ (I.tok _) rw'
theorem Rf{h':Heap}{t':Nat}{ob:HO}(I:Inv X pins σ H s)(mu:UH (H a))(hs:Heap.SameBut a s.heap h')(he:∃q,h'.get? a=some q)(new:Bb X.prog X.w (upd H a ob) h' a ob) :
  Inv X pins σ (upd H a ob) {s with heap:=h',toks:=t'} :=
 I.write (x:=a) (e:=a) mu (.inl rfl) (fun b q hb z=>(hs.2 b hb).trans z) he new
theorem bf{P:Program}{w:World}{H':Hp}{h':Heap}{kvs:List (Key×V)}{vs:List (Key×Value)}(z:kvs.length≤sizeLine)(hd:(a==sysModules)=false)(rel:KV kvs vs)(dd:h'.DictOf (Cr P w) a vs) :
  Bb P w H' h' a (.dK kvs):=⟨z,hd,vs,rel,dd⟩
theorem UA{H':Hp}{Q:Unit→Shared→Prop}(hu:A.units+1<cLine)(I:Inv X pins σ H s)(g:QP H a y v H')(ry:RelV y u)(rv:RelV v r)(h:∀s',Inv X pins σ H' s'→Q () s') :
  wpAny (model X.prog X.w) A (setItem (.ref a) u r) Q E s:=by
 rcases g with ⟨kvs,k,e,ey,l,eH⟩|⟨kvs,k,b,e,ey,eb,l,eH⟩
 ·subst ey eH;obtain⟨z,hd,vs,rel,dd⟩:=bw I.Aa e;have hz:vs.length≤sizeLine:=by rw[←rel.length];exact z
  have hl:(putK kvs k v).length≤sizeLine:=by have:=Ly kvs k v;lia
  refine wpAny_setItem_pairs (hsz:=hz) (SY ry) dd fun h' dd' hs=>h _ ?_;have he:∃q,h'.get? a=some q:=let⟨q,_,_,hq,_⟩:=dd';⟨q,hq⟩;exact Rf I (by rw[e];exact True.intro) hs he (bf hl hd (rel.put k rv) dd')
 ·subst ey eH;cases (show u=Value.ref b from ry);obtain⟨z,hd,xs,rel,dd⟩:=WD I.Aa e;have hz:xs.length≤sizeLine:=by rw[←Paired.length rel];exact z
  have hl:(putK kvs k v).length≤sizeLine:=by have:=Ly kvs k v;lia
  refine wpAny_setItem_heap (hsz:=hz) (tupleKind_room_in1 hu) (Pb I.Aa eb) dd fun h' dd' hs=>h _ ?_;obtain⟨q,es,ep,hq,h2,h3,h4,_,h5⟩:=dd';refine Rf I (by rw[e];exact True.intro) hs ⟨q,hq⟩ ⟨hl,hd,_,(rel.put k eb rv).keeps fun c ys ec=>?_,q,es,ep,hq,h2,h3,h4,h5⟩;rw[AR (cG ec e (fun z=>nomatch z))];exact ec
end
def U1(i:Expr):Prop:=∀ov iv,subscripted i false ov iv=operate [ov,iv] (getItem ov iv)
theorem Xw{prog:Program}{w:World}{A:Around}{E:Value→Shared→Prop}{s:Shared}{env:Env}{value slice:Expr}{pos:Pos}{T id:String}{Q:Value→Shared→Prop}
 (hl:typeLookup (.type T) "__getitem__" = pure (some (.builtin id)))(hs:U1 slice)
 (h:wpAny (model prog w) A (eval value env) (fun o s₁=>wpAny (model prog w) A (eval slice env) (fun i s₂=>s₂.TypeIs o T∧wpAny (model prog w) A (getItem o i) Q E s₂) E s₁) E s) :
  wpAny (model prog w) A (eval (.Subscript value slice pos) env) Q E s:=by
 refine Subscript_ (aN h (fun o s₁ h₁=>aN h₁ (fun i s₂ h₂=>?_) fun _ _ x=>x) fun _ _ x=>x);obtain⟨hT,h₂⟩:=h₂;unfold subscriptTail;refine aA ?_;rw[getitemInPython_of_ne hT.not_modules];refine aA (wpAny_specialOf hT hl ?_);have fin:wpAny (model prog w) A (subscripted slice false o i) (fun r s₃=>wpAny (model prog w) A (letTemporaryGo value o r>>=fun _=>pure r) Q E s₃) E s₂:=by
  rw[hs o i];exact wpAny_operating (aN h₂ (fun r s₃ h₃=>aA (wpAny_letTemporaryGo (aD h₃))) fun _ _ x=>x)
 first
  |exact aD (aA fin)
  |exact aA (aD (aA fin))
  |exact aA fin
theorem Qq{X:Cx}{pins:List (Addr×Obj)}{σ:St}{H:Hp}{s:Shared}{a:Addr}{y:V}{o:Option V}(I:Inv X pins σ H s)(g:NW H a y o):s.TypeIs (.ref a) "dict" := by
 rcases g with ⟨kvs,k,e,_,_⟩|⟨kvs,k,b,e,_,_,_⟩
 ·obtain⟨_,_,vs,_,dd⟩:=SQ I.Aa e;exact dd.typeIs
 ·obtain⟨_,_,xs,_,dd⟩:=Rz I.Aa e;exact dd.typeIs
def cX(td ty:TE):TE:=fun σ H Q=>td σ H fun x H1=>ty σ H1 fun y H2=>∃a v,x=.ref a∧NW H2 a y (some v)∧Q v H2
def WV(td ty tv:TE):TS:=fun D σ H=>tv σ H fun v H1=>td σ H1 fun x H2=>ty σ H2 fun y H3=>∃a H4,x=.ref a∧QP H3 a y v H4∧D.nx σ H4
section
variable{X:Cx}{o i value:Expr}{pos pos':Pos}{td ty tv:TE}
theorem XT(hu:X.A.units+1<cLine)(ho:PE X o td)(hi:PE X i ty)(hs:U1 i):PE X (.Subscript o i pos) (cX td ty):=by
 intro pins s σ H Q I h;refine Xw PySem.F.slot_dict_getitem.lookup hs (Ar (ho pins s σ H _ I h) fun u s1 ⟨x,H1,I1,rx,q1⟩=>Ar (hi pins s1 σ H1 _ I1 q1) fun iv s2 ⟨y,H2,I2,ry,a,v,ex,g,q2⟩=>?_);subst ex;obtain rfl:u=Value.ref a:=rx;exact⟨Qq I2 g,Ua hu I2 g ry fun w' s3 I3 rw'=>⟨v,H2,I3,rw',q2⟩⟩
theorem X1(hu:X.A.units+1<cLine)(ho:PE X o td)(hi:PE X i ty)(hv:PE X value tv)(hs:swapsWith value (some (.Subscript o i pos')) pos.line X.env=pure false) :
  PS X (.Assign [.Subscript o i pos'] value pos) (WV td ty tv):=by
 intro pins s σ H D I h;refine wpAny_Assign_Subscript (Ar (hv pins s σ H _ I h) fun r s1 ⟨v,H1,I1,rv,q1⟩=>Ar (ho pins s1 σ H1 _ I1 q1) fun u s2 ⟨x,H2,I2,rx,q2⟩=>Ar (hi pins s2 σ H2 _ I2 q2) fun iv s3 ⟨y,H3,I3,ry,a,H4,ex,g,q3⟩=>?_) hs;subst ex;obtain rfl:u=Value.ref a:=rx;exact UA hu I3 g ry rv fun s4 I4=>⟨σ,H4,I4,q3⟩
end
theorem VM{P:Program}{w:World}{H:Hp}(h:Heap)(hb:sysModules<h.objs.size):Bb P w H (h.push { cls:=.type "dict",data:=.dict #[]}) h.objs.size (.dT []) :=
 ⟨ar _,beq_eq_false_iff_ne.mpr (Ne.symm (aL hb)),[],.nil,_,#[],0,Heap.get?_push_size _ rfl,⟨rfl,rfl,rfl⟩,rfl,rfl,List.nodup_nil⟩
def Yq:TE:=fun _ H Q=>∀p,H p=none→Q (.ref p) (upd H p (.dT []))
section
variable{X:Cx}{pos:Pos}
theorem Va:PE X (.Dict [] [] pos) Yq:=fun pins s σ H Q I h =>
 wpAny_Dict_empty ⟨.ref s.heap.objs.size,_,I.laid (a:=s.heap.objs.size) (o:=.dT []) (t':=s.toks) (fun _ _ q=>aE _ q) (aH _) (VM s.heap I.big),rfl,h _ (I.Aa.fresh (aH _))⟩
end
end L2
namespace IT
open PySem PySem.W PyProof.Rows PySem.SeqAt
def lt:List Int→List Int→Bool
 |[],[]=>false
 |[],_::_=>true
 |_::_,[]=>false
 |a::r,b::q=>if a=b then lt r q else decide (a<b)
theorem lt_irrefl:∀a,lt a a=false
 |[]=>rfl
 |a::r=>by rw[lt,if_pos rfl,lt_irrefl r]
theorem lt_trans:∀a b c,lt a b=true→lt b c=true→lt a c=true
 |[],[],_,h,_=>by cases h
 |[],_::_,[],_,h=>by cases h
 |[],_::_,_::_,_,_=>rfl
 |_::_,[],_,h,_=>by cases h
 |_::_,_::_,[],_,h=>by cases h
 |a::r,b::q,c::p,h,k=>by
  rw[lt]at h k ⊢;by_cases e1:a=b
  ·subst e1;rw[if_pos rfl]at h;by_cases e2:a=c
   ·rw[if_pos e2]at k ⊢;exact lt_trans r q p h k
   ·rw[if_neg e2]at k ⊢;exact k
  ·rw[if_neg e1]at h;have h:=aX h;by_cases e2:b=c
   ·subst e2;rw[if_neg e1];exact av h
   ·rw[if_neg e2]at k;have k:=aX k;rw[if_neg (by lia)];exact av (by lia)
theorem HV:∀a b,lt a b=false→lt b a=false→a=b
 |[],[],_,_=>rfl
 |[],_::_,h,_=>by cases h
 |_::_,[],_,h=>by cases h
 |a::r,b::q,h,k=>by
  rw[lt]at h k;by_cases e:a=b
  ·subst e;rw[if_pos rfl]at h k;rw[HV r q h k]
  ·rw[if_neg e]at h;rw[if_neg (Ne.symm e)]at k;have h:=ah h;have k:=ah k
   lia
theorem Qk(a b c:List Int)(h:lt a c=true):lt a b=true∨lt b c=true:=by
 cases k:lt a b with
 |true=>exact .inl rfl
 |false =>
  right
  cases m:lt b c with
  |true=>rfl
  |false =>
   cases n:lt b a with
   |true=>have:=lt_trans b a c n h;rw[m]at this;cases this
   |false=>have:=HV a b k n;subst this;rw[m]at h;cases h
def ord:KeyOrd where
 α:=List Int
 blt:=lt
 irrefl:=lt_irrefl
 trans:=lt_trans
 negTrans:=Qk
 total:=HV
def Is:List Int→List Value→Prop
 |[],us=>us=[]
 |k::r,us=>∃t rest,us=.int k t::rest∧Is r rest
theorem Is.length:∀ {ks:List Int} {us:List Value},Is ks us→us.length=ks.length
 |[],us,h=>by rw[Is]at h;subst h;rfl
 |k::r,us,h=>by
  rw[Is]at h;obtain⟨t,rest,rfl,h⟩:=h;rw[List.length_cons,List.length_cons,Is.length h]
end IT
namespace L2
open PySem PySem.Spec PyProof.Rows
theorem Ov:∀ {ps:List Int} {us:List Value},Vals (ps.map V.int) us→IT.Is ps us
 |[],_,r=>by rw[List.map_nil]at r;cases r;rw[IT.Is]
 |p::ps,_,r=>by
  rw[List.map_cons]at r;cases r with
  |cons h t =>
   obtain⟨tk,rfl⟩:=h;rw[IT.Is];exact⟨tk,_,rfl,Ov t⟩
theorem Zb(ps:List Int):(ps.map (Sum.inl:Int→Key)).map kV=ps.map V.int:=by rw[List.map_map];rfl
theorem OP{α β:Type}{F:α→β→Prop}:∀ {xs:List α} {ys:List β} {j:Nat} {x:α} {y:β},Paired F xs ys→xs[j]? = some x→ys[j]? = some y→F x y
 |_,_,j,x,y,.nil,h,_=>by simp at h
 |_,_,0,x,y,.cons f _,h,k=>by simp at h k;subst h k;exact f
 |_,_,j+1,x,y,.cons _ r,h,k=>OP r (by simpa using h) (by simpa using k)
theorem OY:∀as:List Addr,Vals (as.map V.ref) (as.map Value.ref)
 |[]=>.nil
 |a::as=>.cons rfl (OY as)
end L2
namespace IT
open PySem PySem.W PyProof.Rows PySem.SeqAt
section
open PySem.AutoSeq1 (wpAny_loadPart')
open PySem.MeetsSeq PySem.MeetsSeq2 PySem.MeetsSeq3
theorem Vd(l b:Addr)(items items2:Array Value)(n n2:Nat)(dd dd2:Option Addr)(sl sl2:Array (Option Value))(t u:List Int) :
  Meets (Builtin.«tuple.__ge__» ⟨[.ref l,.ref b],[]⟩)
   (fun A R s=>s.heap.get? l=some { cls:=.type "tuple",dict:=dd,data:=.seq items n,slots:=sl}∧s.heap.get? b=some { cls:=.type "tuple",dict:=dd2,data:=.seq items2 n2,slots:=sl2} ∧
    Is t items.toList∧Is u items2.toList∧A.units<cLine∧R (.ok (.ret (.bool (!lt t u)))) s) :=
 .of_wp fun prog w A R s h=>by
  obtain⟨hp,g,d,tk,os⟩:=s;obtain⟨hl,hb,hi,hj,hun,h⟩:=h;have f2:=AutoSeq1.sub_tuple_tuple;have z1:items.size=t.length:=by rw[←Is.length hi];simp
  have z2:items2.size=u.length:=by rw[←Is.length hj];simp
  wp_walk using wpAny_loadPart' hl,wpAny_loadPart' hb,wpAny_forIn_list _ (fun rest b s'=>b.1=none∧s'=⟨hp,g,d,tk,os⟩∧∃(vs ws:List Value) (t' u':List Int),rest=vs.zip ws ∧
   Is t' vs∧Is u' ws∧t'.length+items2.size=u'.length+items.size∧R (.ok (.ret (.bool (!lt t' u')))) ⟨hp,g,d,tk,os⟩) _
  case turn =>
   rintro⟨y,x⟩ rest b s' ⟨hb',rfl,vs,ws,t',u',hz,hvi,hwi,hlen,hR⟩;cases t' with
   |nil=>rw[Is]at hvi;subst hvi;rw[List.zip_nil_left]at hz;cases hz
   |cons bt rt =>
    cases u' with
    |nil=>rw[Is]at hwi;subst hwi;rw[List.zip_nil_right]at hz;cases hz
    |cons bu ru =>
     rw[Is]at hvi hwi;obtain⟨a1,v1,rfl,p3⟩:=hvi;obtain⟨a2,v2,rfl,q3⟩:=hwi;rw[List.zip_cons_cons]at hz
     injection hz with hyx hrest
     injection hyx with hy hx
     subst hy hx;rw[lt]at hR;simp only[List.length_cons]at hlen;have he:=EqAt.int_int (A:=A.in1) (s:=⟨hp,g,d,tk,os⟩) bt a1 bu a2;refine aA (he prog w _ _ ?_);by_cases hc:bt=bu
     ·rw[if_pos hc]at hR;rw[beq_iff_eq.mpr hc]
      wp_walk
      exact⟨rfl,rfl,_,_,_,_,hrest,p3,q3,by lia,hR⟩
     ·rw[if_neg hc]at hR;rw[beq_eq_false_iff_ne.mpr hc];have hri:∀(E:Value→Shared→Prop) (Q:Value→Shared→Prop),Q (.bool (decide (bu≤bt))) ⟨hp,g,d,tk,os⟩→wpAny (model prog w) A.in1 (richCompare .GtE (.int bt a1) (.int bu a2)) Q E ⟨hp,g,d,tk,os⟩:=fun E Q h=>PyProof.Rows.ge_int h;have e:(!decide (bt<bu))=decide (bu≤bt):=by rw[Bool.eq_iff_iff];simp
      rw[e]at hR
      wp_walk using hri
      exact⟨_,rfl,by simpa using hR⟩
  case fin =>
   rintro⟨b1,b2⟩ s' ⟨hb',rfl,vs,ws,t',u',hz,hvi,hwi,hlen,hR⟩;simp only at hb';subst hb';have hv:lt t' u'=decide (items.size<items2.size):=by
    cases t' with
    |nil =>
     cases u' with
     |nil =>
      simp only[List.length_nil]at hlen;exact(aO (by lia)).symm
     |cons c q =>
      simp only[List.length_cons,List.length_nil]at hlen;exact(av (by lia)).symm
    |cons bt rt =>
     cases u' with
     |nil =>
      simp only[List.length_cons,List.length_nil]at hlen;exact(aO (by lia)).symm
     |cons c q =>
      rw[Is]at hvi hwi;obtain⟨_,_,rfl,_⟩:=hvi;obtain⟨_,_,rfl,_⟩:=hwi;rw[List.zip_cons_cons]at hz;cases hz
   have e:(!decide (items.size<items2.size))=decide (items2.size≤items.size):=by rw[Bool.eq_iff_iff];simp
   rw[hv,e]at hR
   wp_walk
   exact⟨_,rfl,by simpa[Builtin.Tuple.tupleCompareSizes]using hR⟩
  case h =>
   exact⟨rfl,rfl,items.toList,items2.toList,t,u,rfl,hi,hj,by lia,h⟩
end
section
open PySem.MeetsSeq PySem.MeetsSeq2 PySem.MeetsSeq3
variable{prog:Program}{w:World}{A:Around}{E:Value→Shared→Prop}{s:Shared}{t u:List Int}{a b:Addr}{its its':List Value}
theorem cC{Q:Value→Shared→Prop}(h1:s.heap.IsTuple a its.toArray)(k1:Is t its)(h2:s.heap.IsTuple b its'.toArray)(k2:Is u its')(hu:A.units+1<cLine)(h:Q (.bool (!lt t u)) s):wpAny (model prog w) A (richCompare .GtE (.ref a) (.ref b)) Q E s:=by
 obtain⟨⟨cls,dd,data,sl⟩,ho,hc,n,hdt⟩:=id h1;obtain⟨⟨cls2,dd2,data2,sl2⟩,ho2,hc2,n2,hdt2⟩:=id h2;simp only at hc hdt hc2 hdt2;subst hc hdt hc2 hdt2;exact richCompare_meets_room (op:=.GtE) ⟨_,ho,rfl⟩ ⟨_,ho2,rfl⟩ PySem.F.slot_tuple_ge PySem.F.entry_tuple_ge (PySem.F.args_tuple_ge_2 _ _) (Vd a b its.toArray its'.toArray n n2 dd dd2 sl sl2 t u)
  ⟨ho,ho2,by simpa using k1,by simpa using k2,by lia,show Value.bool (!lt t u)≠Value.notImplemented∧Q (.bool (!lt t u)) s from⟨(fun x=>nomatch x),h⟩⟩ (by lia)
end
end IT
namespace L2
open PySem PySem.Spec PyProof.Rows
theorem ZL{X:Cx}(hu:X.A.units+64<cLine):CH X (compareOp .GtE) (fun x y H Q=>∃(a b:Addr) (ps qs:List Int),x=.ref a∧y=.ref b∧H a=some (.tup (ps.map V.int))∧H b=some (.tup (qs.map V.int))∧Q (.bl (!IT.lt ps qs)) H):=by
 intro pins s σ H x y v u' Q I rx ry h;obtain⟨a,b,ps,qs,rfl,rfl,ha,hb,q⟩:=h;cases rx;cases ry;obtain⟨i1,v1,p1,_⟩:=I.tuple (A9.of (K:=X.K) ha);obtain⟨i2,v2,p2,_⟩:=I.tuple (A9.of (K:=X.K) hb);exact IT.cC p1 (Ov v1) p2 (Ov v2) (by lia) ⟨.bl _,H,I,rfl,q⟩
end L2
namespace TH
open PySem PyProof.Rows PySem.SeqAt
def SR:Tr→List Int
 |.nil=>[]
 |.cons b r=>reduceHash (Builtin.Tuple.tupleHashOf (SR b))::SR r
def cf(t:Tr):Int:=reduceHash (Builtin.Tuple.tupleHashOf (SR t))
end TH
namespace TH
open PySem PyProof.Rows PySem.SeqAt
section
variable{prog:Program}{w:World}{A:Around}{E:Value→Shared→Prop}{s:Shared}
theorem gather{T:String}{r d:Addr}{n:Nat}{P:Nat→Value→Prop}{OK:Heap→Prop}{R:List Value→Shared→Prop}(K:PySem.W.KdlSrc prog w T r d n P OK)(hA:A.handled=none)(Aa:OK s.heap)(hn:n≤sizeLine)
 (k:∀(h1:Heap) (tk:Nat) (acc:Array Value),s.heap.objs.size<h1.objs.size→(∀b u,s.heap.get? b=some u→h1.get? b=some u)→ItemsOf P acc n→R acc.toList {s with heap:=h1,toks:=tk}) :
  wpAny (model prog w) A (collect (.ref r)) R E s:=by
 obtain⟨lr,ld⟩:=K.there _ Aa;unfold collect;refine aA (wpAny_runValue (codeAny_builtin entry_proto_collect' ?_));rw[Around.under_plainId PySem.F.plain_proto_collect _];show wpAny _ A.in1 (newList []>>=fun v=>again (.builtin "list.__iadd__" ⟨[v,.ref r],[]⟩)) _ _ s;refine aA (aT (aD ⟨plainId_quiet PySem.F.plain_list_iadd _,codeAny_builtin entry_list_iadd' ?_⟩));rw[Around.under_plainId PySem.F.plain_list_iadd _];have g0:(s.heap.push { cls:=.type "list",data:=.seq ([]:List Value).toArray}).get? s.heap.objs.size=some { cls:=.type "list",data:=.seq #[]}:=aR _ rfl;have main:=PySem.W.kdl_extend (A:=A) (s:={s with heap:=s.heap.push { cls:=.type "list",data:=.seq ([]:List Value).toArray} }) K hA
  (K.keep _ _ Aa fun _ _ _ e=>aE _ e) s.heap.objs.size (Nat.ne_of_gt lr) (Nat.ne_of_gt ld) (.ref s.heap.objs.size) 0 g0
  (R:=fun q s1=>∃h1 tk acc c,q=.ok (.ret (.ref s.heap.objs.size))∧s1={s with heap:=h1,toks:=tk}∧(∀b u,s.heap.get? b=some u→h1.get? b=some u)∧h1.get? s.heap.objs.size=some { cls:=.type "list",dict:=none,data:=.seq acc c,slots:=#[]}∧ItemsOf P acc n)
  (fun h1 tk acc c k1 g1 ha=>⟨h1,tk,acc,c,rfl,rfl,fun b u e=>k1 b u (aL (aF e)) (aE _ e),g1,ha⟩) hn
 refine aN main (fun fin s1 x=>?_) fun e s1 x=>?_
 ·cases fin with
  |done f =>
   obtain⟨h1,tk,acc,c,e,rfl,k1,g1,ha⟩:=x;cases e;show wpAny _ A (load s.heap.objs.size>>=_) _ _ _;exact aA (wpAny_load g1 (aD (k h1 tk acc (aF g1) k1 ha)))
  |again c1 =>
   refine⟨x.1,codeAny_mono x.2 fun q s2 y=>?_⟩;obtain⟨h1,tk,acc,c,rfl,rfl,k1,g1,ha⟩:=y;show wpAny _ A (load s.heap.objs.size>>=_) _ _ _;exact aA (wpAny_load g1 (aD (k h1 tk acc (aF g1) k1 ha)))
 ·obtain⟨_,_,_,_,z,_⟩:=x;cases z
end
end TH
namespace TH
open PySem PyProof.Rows
def dF:Option Tr→Int
 |none=>4238894112
 |some t=>cf t
abbrev KE:=Option Tr×Value×Value
def fJ(x:KE):DictEntry:=⟨dF x.1,x.2.1,x.2.2⟩
end TH
namespace L2
open PySem PySem.Spec PyProof.Rows
abbrev KR:=Option Tr×V×V
def fM(q:KR)(x:TH.KE):Prop:=x.1=q.1∧RelV q.2.1 x.2.1∧RelV q.2.2 x.2.2
def dN(d:Addr)(r:List KR):HO:=.ext fun h=>(d==sysModules)=false∧∃o es ep xs,h.get? d=some o∧o.ExactDict∧o.data=.dict es ep∧es.toList=xs.map TH.fJ∧PySem.Paired fM r xs
def Rh(H:Hp):Option Tr→V→Prop
 |none,v=>v=.BR
 |some t,v=>t.deep<8∧Tv H t v
theorem Rh.same{H H':Hp}{k:Option Tr}{v:V}(h:Rh H k v)(e:AJ H H'):Rh H' k v:=by
 cases k with
 |none=>exact h
 |some t=>exact⟨h.1,h.2.same e⟩
end L2
set_option maxHeartbeats 1000000
namespace L2
open PySem PySem.Spec PyProof.Rows
theorem Hx:fillsNumberSlot (.type "tuple") "mul" = pure false:=PySem.fillsNumberSlot_seq F.slot_tuple_mul.lookup (by decide +kernel) F.slot_tuple_rmul.lookup (by decide +kernel)
theorem K2:seqRepeat? (.type "tuple")=pure (some (.builtin "tuple.__mul__")):=by
 unfold seqRepeat?;rw[show seqSlot? (.type "tuple") (Str.ofString "__mul__")=_ from PySem.seqSlot_of F.slot_tuple_mul.lookup (by decide +kernel),show seqSlot? (.type "tuple") (Str.ofString "__rmul__")=_ from PySem.seqSlot_of F.slot_tuple_rmul.lookup (by decide +kernel)]
 rfl
theorem JD(a:Int)(t:Tok)(l:Addr)(items:Array Value)(n:Nat)(dd:Option Addr)(sl:Array (Option Value)) :
  Meets (Builtin.«int.__rmul__» { pos:=[.int a t,.ref l]}) fun _ R s=>s.heap.get? l=some { cls:=.type "tuple",dict:=dd,data:=.seq items n,slots:=sl}∧R (.ok (.ret .notImplemented)) s :=
 Meets.of_wp fun prog w A R s h=>by
  obtain⟨hp,g,d,tk,os⟩:=s;obtain⟨hl,h⟩:=h;unfold Builtin.«int.__rmul__» Builtin.Int.intBinary;refine aA ?_;unfold slotArgs;refine aq (by rfl) (aq (by rfl) (aD ?_));refine aA ?_;refine aA (aD (aD ?_));refine aA ?_;refine aA (wpAny_load' hl (aD ?_));refine aA (wpAny_rule ?_);exact aD ⟨_,rfl,h⟩
theorem Qz(t:Tok)(l:Addr)(items:Array Value)(n:Nat)(dd:Option Addr)(sl:Array (Option Value)) :
  Meets (Builtin.«tuple.__mul__» { pos:=[.ref l,.int 1 t]}) fun _ R s=>s.heap.get? l=some { cls:=.type "tuple",dict:=dd,data:=.seq items n,slots:=sl}∧R (.ok (.ret (.ref l))) s :=
 Meets.of_wp fun prog w A R s h=>by
  obtain⟨hl,h⟩:=h;show wpAny _ _ (asIndex (.int 1 t)>>=_) _ _ s;refine aA ?_;refine aA (aD (aD ?_));refine aq (by decide) ?_;refine aA (wpAny_tupleItemsOf hl rfl ?_);refine wpAny_ite_true (by simp) ?_;refine aA ?_;unfold Builtin.Tuple.tupleIsExact;refine aA (wpAny_typeOf (T := "tuple") ⟨_,hl,rfl⟩ (aD ?_));refine wpAny_ite_true (by decide) ?_;refine aA (wpAny_rule ?_);exact aD ⟨_,rfl,h⟩
theorem Qi(k:Int)(t:Tok)(l:Addr)(items:Array Value)(n:Nat)(dd:Option Addr)(sl:Array (Option Value))(hk:2≤k)(hk2:k≤1000)(he:items.isEmpty=false)(hs:items.size*k.toNat≤1000)(hz:sizeOk (.seq (List.foldl (fun x1 x2=>x1++x2) #[] (List.replicate k.toNat items)))) :
  Meets (Builtin.«tuple.__mul__» { pos:=[.ref l,.int k t]}) fun _ R s=>s.heap.get? l=some { cls:=.type "tuple",dict:=dd,data:=.seq items n,slots:=sl}∧R (.ok (.ret (.ref s.heap.objs.size))) {s with heap:=s.heap.push { cls:=.type "tuple",data:=.seq (List.foldl (fun x1 x2=>x1++x2) #[] (List.replicate k.toNat items))} } :=
 Meets.of_wp fun prog w A R s h=>by
  obtain⟨hl,h⟩:=h;have hsz:((items.size:Nat):Int)*k≤1000:=by
   have:((items.size*k.toNat:Nat):Int)≤1000:=by exact_mod_cast hs
   rwa [Int.natCast_mul,Int.toNat_of_nonneg (by lia)]at this
  show wpAny _ _ (asIndex (.int k t)>>=_) _ _ s;refine aA ?_;refine aA (aD (aD ?_));refine aq (by simp;lia) ?_;refine aA (wpAny_tupleItemsOf hl rfl ?_);refine aq (by simp[he];lia) ?_;refine aq (by simp[he];lia) ?_;refine aq (by simp;lia) ?_;refine aq (by
   unfold Builtin.Tuple.tupleTooMany;have:1000<sizeLine:=by rw[sizeLine_eq];decide
   simp;lia) ?_
  exact aA (m:=Builtin.Tuple.tupleExact _) (aT (aD ⟨_,rfl,h⟩) hz)
section
variable{X:Cx}
def cq:R2:=fun x y H Q=>∃a k xs,x=.ref a∧y=.int k∧H a=some (.tup xs)∧xs≠[]∧1≤k∧k≤1000∧xs.length*k.toNat≤1000∧∀p H',AJ H H'→H' p=some (.tup (List.replicate k.toNat xs).flatten)→Q (.ref p) H'
theorem Xo:CH X (binaryOp .Mult) cq:=by
 intro pins s σ H x y v u Q I rx ry h;obtain⟨a,k,xs,rfl,rfl,ha,hne,h1,h2,hz,q⟩:=h;cases rx;obtain⟨t,rfl⟩:=ry;obtain⟨its,r1,p1,_⟩:=I.tuple (A9.of (K:=X.K) ha);have hl:=r1.length;obtain⟨⟨cls,dd,data,sl⟩,ho,hc,n,hd⟩:=id p1;simp only at hc hd;subst hc hd;have hie:its.toArray.isEmpty=false:=by
  cases its with
  |nil=>exact absurd (r1.LJ.mp rfl) hne
  |cons=>simp
 have hsz:its.toArray.size*k.toNat≤1000:=by rw[List.size_toArray,←hl];exact hz
 have big:1000<sizeLine:=by rw[sizeLine_eq];decide
 have hnew:List.foldl (fun x1 x2=>x1++x2) #[] (List.replicate k.toNat its.toArray)=(List.replicate k.toNat its).flatten.toArray:=by
  have:=foldl_rep its k.toNat [];rw[List.nil_append]at this;exact this
 refine wpAny_binaryOp_repeat_ref (T := "tuple") (U := "int") (by decide) ⟨_,ho,rfl⟩ (fun s'=>typeIs_int s' k t) Hx F.fills_int_mul F.slot_int_rmul K2 F.slot_int_index.lookup
  (call_meets F.slot_int_rmul (typeIs_int s k t) F.entry_int_rmul (F.args_int_rmul_2 _ _) (JD k t a its.toArray n dd sl) ⟨ho,rfl,⟨_,ho,rfl⟩,?_⟩)
 by_cases h3:k=1
 ·subst h3;refine call_meets F.slot_tuple_mul ⟨_,ho,rfl⟩ F.entry_tuple_mul (F.args_tuple_mul_2 _ _) (Qz t a its.toArray n dd sl) ⟨ho,?_⟩;exact⟨.ref a,H,I,rfl,q a H (.refl H) (by simpa using ha)⟩
 ·refine call_meets F.slot_tuple_mul ⟨_,ho,rfl⟩ F.entry_tuple_mul (F.args_tuple_mul_2 _ _) (Qi k t a its.toArray n dd sl (by lia) h2 hie hsz ?_) ⟨ho,?_⟩
  ·rw[hnew];show(List.replicate k.toNat its).flatten.toArray.size≤sizeLine;rw[List.size_toArray,len_rep,Nat.mul_comm];rw[List.size_toArray]at hsz
   lia
  ·rw[hnew];refine⟨.ref s.heap.objs.size,_,I.laid (t':=s.toks) (o:=.tup (List.replicate k.toNat xs).flatten) (fun b ob q=>aE _ q) (aH _) ?_,rfl,q _ _ (BU (I.Aa.fresh (aH _)) _) AW⟩;exact⟨by rw[len_rep,Nat.mul_comm];lia,_,r1.rep k.toNat,IsTup.new _ _⟩
end
theorem Rd.same{H H':Hp}{a:Addr}{u:HO}(e:AJ H H')(h:Rd H a u):Rd H' a u:=by
 rcases h with h|⟨o,h⟩
 ·exact .inl (e _ _ h)
 ·exact .inr ⟨o,e _ _ h⟩
def Iq:Tr→List PyData
 |.nil=>[]
 |.cons b r=>.tuple (Iq b)::Iq r
def Z7:Option Tr→PyData
 |none=>.none
 |some t=>.tuple (Iq t)
mutual
def Du(H:Hp):PyData→V→Prop
 |.none,v=>v=.BR
 |.bool b,v=>v=.bl b
 |.int i,v=>v=.int i
 |.str x,v=>v=.str x
 |.tuple ds,v=>∃a xs,v=.ref a∧H a=some (.tup xs)∧Ac H ds xs
 |.list ds,v=>∃a xs,v=.ref a∧H a=some (.lst xs)∧Ac H ds xs
 |.dict kv,v=>(∃ea C:Addr,kv=[(.int (C:Nat),.none)]∧v=.ref ea∧H ea=some (Im ea (.ref C)))∨(∃(a:Addr) (ns:List Int),kv=[(.none,.list (ns.map .int))]∧v=.ref a∧Rd H a (.lst (ns.map V.int)))∨IZ H kv v
def Ac(H:Hp):List PyData→List V→Prop
 |[],xs=>xs=[]
 |d::ds,xs=>∃x r,xs=x::r∧Du H d x∧Ac H ds r
def IZ(H:Hp):List (PyData×PyData)→V→Prop
 |[],_=>False
 |(k0,d0)::t,v=>k0=.bool true∧d0=.none∧∃a r,v=.ref a∧H a=some (dN a r)∧(r.map (·.1)).Nodup∧JI H t r
def JI(H:Hp):List (PyData×PyData)→List KR→Prop
 |[],r=>r=[]
 |(k,d)::t,r=>∃q r',r=q::r'∧k=Z7 q.1∧Rh H q.1 q.2.1∧Du H d q.2.2∧JI H t r'
end
mutual
theorem Du.same{H H':Hp}(e:AJ H H'):∀ {d:PyData} {v:V},Du H d v→Du H' d v
 |.none,_,h=>by rw[Du]at h ⊢;exact h
 |.bool _,_,h=>by rw[Du]at h ⊢;exact h
 |.int _,_,h=>by rw[Du]at h ⊢;exact h
 |.str _,_,h=>by rw[Du]at h ⊢;exact h
 |.tuple _,_,h=>by
  rw[Du]at h ⊢;obtain⟨a,xs,e1,h1,h2⟩:=h;exact⟨a,xs,e1,e _ _ h1,Ac.same e h2⟩
 |.list _,_,h=>by
  rw[Du]at h ⊢;obtain⟨a,xs,e1,h1,h2⟩:=h;exact⟨a,xs,e1,e _ _ h1,Ac.same e h2⟩
 |.dict _,_,h=>by
  rw[Du]at h ⊢;rcases h with ⟨ea,C,e1,e2,h1⟩|⟨a,ns,e1,e2,h1⟩|h
  ·exact .inl ⟨ea,C,e1,e2,e _ _ h1⟩
  ·exact .inr (.inl ⟨a,ns,e1,e2,h1.same e⟩)
  ·exact .inr (.inr (IZ.same e h))
theorem Ac.same{H H':Hp}(e:AJ H H'):∀ {ds:List PyData} {xs:List V},Ac H ds xs→Ac H' ds xs
 |[],_,h=>by rw[Ac]at h ⊢;exact h
 |_::_,_,h=>by
  rw[Ac]at h ⊢;obtain⟨x,r,e1,h1,h2⟩:=h;exact⟨x,r,e1,Du.same e h1,Ac.same e h2⟩
theorem IZ.same{H H':Hp}(e:AJ H H'):∀ {kv:List (PyData×PyData)} {v:V},IZ H kv v→IZ H' kv v
 |[],_,h=>by rw[IZ]at h;exact h.elim
 |(_,_)::_,_,h=>by
  rw[IZ]at h ⊢;obtain⟨h1,h2,a,r,h3,h4,h5,h6⟩:=h;exact⟨h1,h2,a,r,h3,e _ _ h4,h5,JI.same e h6⟩
theorem JI.same{H H':Hp}(e:AJ H H'):∀ {kv:List (PyData×PyData)} {r:List KR},JI H kv r→JI H' kv r
 |[],_,h=>by rw[JI]at h ⊢;exact h
 |(_,_)::_,_,h=>by
  rw[JI]at h ⊢;obtain⟨q,r',h1,h2,h3,h4,h5⟩:=h;exact⟨q,r',h1,h2,h3.same e,Du.same e h4,JI.same e h5⟩
end
mutual
theorem Du.br{K:PySem.W.Frag}{H:Hp}:∀ {d:PyData} {v:V},d.canLay0=true→Du H d v→Br K H d v
 |.none,_,_,h=>by rw[Du]at h;rw[Br];exact h
 |.bool _,_,_,h=>by rw[Du]at h;rw[Br];exact h
 |.int _,_,_,h=>by rw[Du]at h;rw[Br];exact h
 |.str _,_,_,h=>by rw[Du]at h;rw[Br];exact h
 |.tuple _,_,c,h=>by
  rw[Du]at h;rw[Br];obtain⟨a,xs,e1,h1,h2⟩:=h;exact⟨a,xs,e1,A9.of h1,Ac.br (by simp only[PyData.canLay0,Bool.and_eq_true]at c;first|exact c|exact c.2|exact c.1) h2⟩
 |.list _,_,c,h=>by
  rw[Du]at h;rw[Br];obtain⟨a,xs,e1,h1,h2⟩:=h;exact⟨a,xs,e1,A3.of h1,Ac.br (by simp only[PyData.canLay0,Bool.and_eq_true]at c;first|exact c|exact c.2|exact c.1) h2⟩
 |.dict _,_,c,h=>by simp[PyData.canLay0]at c
theorem Ac.br{K:PySem.W.Frag}{H:Hp}:∀ {ds:List PyData} {xs:List V},PyData.canLayAll0 ds=true→Ac H ds xs→Ec K H ds xs
 |[],_,_,h=>by rw[Ac]at h;rw[Ec];exact h
 |_::_,_,c,h=>by
  rw[Ac]at h;rw[Ec];obtain⟨x,r,e1,h1,h2⟩:=h;simp only[PyData.canLayAll0,Bool.and_eq_true]at c;exact⟨x,r,e1,Du.br c.1 h1,Ac.br c.2 h2⟩
end
theorem Ac.nil{H:Hp}:Ac H [] []:=by rw[Ac]
theorem Ac.cons{H:Hp}{d:PyData}{ds:List PyData}{x:V}{xs:List V}(h:Du H d x)(k:Ac H ds xs):Ac H (d::ds) (x::xs):=by rw[Ac];exact⟨x,xs,rfl,h,k⟩
theorem Ac.un{H:Hp}{d:PyData}{ds:List PyData}{xs:List V}(h:Ac H (d::ds) xs):∃x r,xs=x::r∧Du H d x∧Ac H ds r:=by rw[Ac]at h;exact h
theorem Ac.nil_eq{H:Hp}{xs:List V}(h:Ac H [] xs):xs=[]:=by rw[Ac]at h;exact h
theorem Ac.len{H:Hp}:∀ {ds:List PyData} {xs:List V},Ac H ds xs→xs.length=ds.length
 |[],_,h=>by rw[h.nil_eq];rfl
 |_::_,_,h=>by obtain⟨x,r,rfl,_,h2⟩:=h.un;simp[h2.len]
theorem Ac.get{H:Hp}:∀ {ds:List PyData} {xs:List V} {i:Nat} {d:PyData},Ac H ds xs→ds[i]? = some d→∃v,xs[i]? = some v∧Du H d v
 |[],_,i,_,_,e=>by simp at e
 |_::_,_,0,_,h,e=>by
  obtain⟨x,r,rfl,h1,_⟩:=h.un;simp at e;subst e;exact⟨x,rfl,h1⟩
 |_::_,_,i+1,_,h,e=>by
  obtain⟨x,r,rfl,_,h2⟩:=h.un;obtain⟨v,k1,k2⟩:=h2.get (i:=i) (by simpa using e);exact⟨v,by simpa using k1,k2⟩
theorem Ac.back{H:Hp}{ds:List PyData}{xs:List V}{i:Nat}{v:V}(h:Ac H ds xs)(e:xs[i]? = some v):∃d,ds[i]? = some d∧Du H d v:=by
 have hl:=h.len;have hi:i<ds.length:=by rw[←hl];exact(aG.mp e).1
 have hd:ds[i]? = some ds[i]:=by simp[hi]
 obtain⟨w,k1,k2⟩:=h.get hd;rw[e]at k1;cases k1;exact⟨_,hd,k2⟩
theorem Ac.app{H:Hp}:∀ {ds es:List PyData} {xs ys:List V},Ac H ds xs→Ac H es ys→Ac H (ds++es) (xs++ys)
 |[],_,_,_,h,k=>by rw[h.nil_eq];exact k
 |_::_,_,_,_,h,k=>by obtain⟨x,r,rfl,h1,h2⟩:=h.un;exact .cons h1 (h2.app k)
theorem Ac.take{H:Hp}:∀ {ds:List PyData} {xs:List V} (i:Nat),Ac H ds xs→Ac H (ds.take i) (xs.take i)
 |_,_,0,_=>by rw[List.take_zero,List.take_zero];exact .nil
 |[],_,i+1,h=>by rw[h.nil_eq];exact .nil
 |_::_,_,i+1,h=>by obtain⟨x,r,rfl,h1,h2⟩:=h.un;exact .cons h1 (h2.take i)
theorem Ac.drop{H:Hp}:∀ {ds:List PyData} {xs:List V} (i:Nat),Ac H ds xs→Ac H (ds.drop i) (xs.drop i)
 |_,_,0,h=>h
 |[],_,i+1,h=>by rw[h.nil_eq];exact .nil
 |_::_,_,i+1,h=>by obtain⟨x,r,rfl,h1,h2⟩:=h.un;exact h2.drop i
theorem Ac.rev{H:Hp}:∀ {ds:List PyData} {xs:List V},Ac H ds xs→Ac H ds.reverse xs.reverse
 |[],_,h=>by rw[h.nil_eq];exact .nil
 |_::_,_,h=>by
  obtain⟨x,r,rfl,h1,h2⟩:=h.un;rw[List.reverse_cons,List.reverse_cons];exact h2.rev.app (.cons h1 .nil)
inductive Oc where
 |lst (xs:List PyData)|Bs (kvs:List (List Key×PyData))|QC (kvs:List (Option Tr×PyData))
inductive L where
 |no|d (x:PyData)|own (c:Oc)
abbrev Dv:=List L
def Bp(G:Hp):List (List Key×PyData)→List (List Key×V)→Prop
 |[],r=>r=[]
 |q::t,r=>∃v r',r=(q.1,v)::r'∧Du G q.2 v∧Bp G t r'
theorem Bp.same{G G':Hp}(e:AJ G G'):∀ {t:List (List Key×PyData)} {r:List (List Key×V)},Bp G t r→Bp G' t r
 |[],r,h=>h
 |q::t,r,h=>by
  obtain⟨v,r',rfl,h1,h2⟩:=h;exact⟨v,r',rfl,h1.same e,Bp.same e h2⟩
abbrev We(kvs:List (Option Tr×PyData)):List (PyData×PyData):=kvs.map fun q=>(Z7 q.1,q.2)
abbrev O0(kvs:List (Option Tr×PyData)):PyData:=.dict ((.bool true,.none)::We kvs)
def GB(G:Hp)(a:Addr):Oc→HO→Prop
 |.lst xs,o=>∃ys,o=.lst ys∧Ac G xs ys
 |.Bs kvs,o=>∃r,o=.dT r∧Bp G kvs r
 |.QC kvs,o=>∃r,o=dN a r∧(r.map (·.1)).Nodup∧JI G (We kvs) r
theorem GB.same{G G':Hp}{a:Addr}{c:Oc}{o:HO}(h:GB G a c o)(e:AJ G G'):GB G' a c o:=by
 cases c with
 |QC kvs=>obtain⟨r,h1,h2,h3⟩:=h;exact⟨r,h1,h2,JI.same e h3⟩
 |lst xs=>obtain⟨ys,h1,h2⟩:=h;exact⟨ys,h1,h2.same e⟩
 |Bs kvs=>obtain⟨ys,h1,h2⟩:=h;exact⟨ys,h1,h2.same e⟩
theorem GB.MQ{G:Hp}{a:Addr}{c:Oc}{xs:List V}(h:GB G a c (.tup xs)):False:=by
 cases c with
 |QC kvs=>obtain⟨r,h1,h2,h3⟩:=h;unfold dN at h1;cases h1
 |lst xs=>obtain⟨ys,h1,h2⟩:=h;cases h1
 |Bs kvs=>obtain⟨ys,h1,h2⟩:=h;cases h1
def Nw(G0 H0 G:Hp):Prop:=∀a o,G a=some o→G0 a=some o∨H0 a=none∨∃xs,o=HO.tup xs
structure Rw(G0 H0 G H:Hp)(σ:St)(δ:Dv)(ts:List (PyData×V)):Prop where
 ext:AJ G0 G
 new:Nw G0 H0 G
 ins:AJ G H
 keep:AJ H0 H
 len:σ.length=δ.length
 dat:∀(i:Nat) (x:PyData),δ[i]? = some (L.d x)→∃v,σ[i]? = some (some v)∧Du G x v
 own:∀(i:Nat) (xs:Oc),δ[i]? = some (L.own xs)→∃(a:Addr) (ys:HO),σ[i]? = some (some (V.ref a))∧G a=none∧H0 a=none∧H a=some ys∧GB G a xs ys
 apart:∀(i j:Nat) (xs ys:Oc),i≠j→δ[i]? = some (L.own xs)→δ[j]? = some (L.own ys)→σ[i]?≠σ[j]?
 A0:∀p∈ts,Du G p.1 p.2
def DE(X:Cx)(e:Expr)(f:Dv→Option PyData):Prop:=∃t,PE X e t∧∀δ x,f δ=some x→∀G0 H0 G H σ ts (Q:VK),Rw G0 H0 G H σ δ ts→(∀v G' H',Rw G0 H0 G' H' σ δ ((x,v)::ts)→Q v H')→t σ H Q
def DA(X:Cx)(es:List Expr)(f:Dv→Option (List PyData)):Prop:=∃t,PA X es t∧∀δ xs,f δ=some xs→∀G0 H0 G H σ ts (Q:List V→Hp→Prop),Rw G0 H0 G H σ δ ts→(∀vs G' H',Rw G0 H0 G' H' σ δ (xs.zip vs++ts)→vs.length=xs.length→Q vs H')→t σ H Q
def DT(X:Cx)(e:Expr)(f:Dv→Option Bool):Prop:=∃t,PT X e t∧∀δ b,f δ=some b→∀G0 H0 G H σ ts (Q:Bool→Hp→Prop),Rw G0 H0 G H σ δ ts→(∀G' H',Rw G0 H0 G' H' σ δ ts→Q b H')→t σ H Q
section
variable{G0 H0 G H:Hp}{σ:St}{δ:Dv}{ts:List (PyData×V)}
theorem Rw.drop{p:PyData×V}(r:Rw G0 H0 G H σ δ (p::ts)):Rw G0 H0 G H σ δ ts:={r with A0:=fun q hq=>r.A0 q (.tail _ hq)}
theorem Rw.less{us:List (PyData×V)}(r:Rw G0 H0 G H σ δ ts)(h:∀p∈us,p∈ts):Rw G0 H0 G H σ δ us:={r with A0:=fun q hq=>r.A0 q (h q hq)}
theorem Rw.put{x:PyData}{v:V}(r:Rw G0 H0 G H σ δ ts)(h:Du G x v):Rw G0 H0 G H σ δ ((x,v)::ts):={r with A0:=fun q hq=>by rcases aI.mp hq with rfl|hq;exact h;exact r.A0 q hq}
theorem Rw.newObj{p:Addr}{o:HO}(r:Rw G0 H0 G H σ δ ts)(hp:H p=none):Rw G0 H0 (upd G p o) (upd H p o) σ δ ts:=by
 have hG:G p=none:=by
  cases q:G p with
  |none=>rfl
  |some u=>rw[r.ins _ _ q]at hp;cases hp
 have h0:H0 p=none:=by
  cases q:H0 p with
  |none=>rfl
  |some u=>rw[r.keep _ _ q]at hp;cases hp
 have e:AJ G (upd G p o):=BU hG o;refine⟨r.ext.trans e,fun a u h=>?_,fun a u h=>?_,r.keep.trans (BU hp o),r.len,fun i x h=>?_,fun i xs h=>?_,r.apart,fun q hq=>(r.A0 q hq).same e⟩
 ·by_cases ha:a=p
  ·subst ha;exact .inr (.inl h0)
  ·rw[AR ha]at h;exact r.new _ _ h
 ·by_cases ha:a=p
  ·subst ha;rw[AW]at h ⊢;exact h
  ·rw[AR ha]at h ⊢;exact r.ins _ _ h
 ·obtain⟨v,k1,k2⟩:=r.dat i x h;exact⟨v,k1,k2.same e⟩
 ·obtain⟨a,ys,k1,k2,k3,k4,k5⟩:=r.own i xs h;have ha:a≠p:=fun z=>by subst z;rw[k4]at hp;cases hp
  exact⟨a,ys,k1,by rw[AR ha];exact k2,k3,by rw[AR ha];exact k4,k5.same e⟩
theorem Rw.S4{p:Addr}{xs:List V}{H':Hp}(r:Rw G0 H0 G H σ δ ts)(e:AJ H H')(hp:H' p=some (.tup xs)):Rw G0 H0 (upd G p (.tup xs)) H' σ δ ts:=by
 have e1:AJ G (upd G p (.tup xs)):=fun a o h=>by
  by_cases ha:a=p
  ·subst ha;have:=e _ _ (r.ins _ _ h);rw[hp]at this;rw[AW];exact this
  ·rw[AR ha];exact h
 refine⟨r.ext.trans e1,fun a u h=>?_,fun a u h=>?_,r.keep.trans e,r.len,fun i x h=>?_,fun i xs h=>?_,r.apart,fun q hq=>(r.A0 q hq).same e1⟩
 ·by_cases ha:a=p
  ·subst ha;rw[AW]at h;cases h;exact .inr (.inr ⟨_,rfl⟩)
  ·rw[AR ha]at h;exact r.new _ _ h
 ·by_cases ha:a=p
  ·subst ha;rw[AW]at h;rw[hp];exact h
  ·rw[AR ha]at h;exact e _ _ (r.ins _ _ h)
 ·obtain⟨v,k1,k2⟩:=r.dat i x h;exact⟨v,k1,k2.same e1⟩
 ·obtain⟨a,ys,k1,k2,k3,k4,k5⟩:=r.own i xs h;have ha:a≠p:=fun z=>by subst z;rw[e _ _ k4]at hp;cases hp;exact k5.MQ
  exact⟨a,ys,k1,by rw[AR ha];exact k2,k3,e _ _ k4,k5.same e1⟩
theorem Rw.lift{G' H':Hp}(r:Rw G0 H0 G H σ δ ts)(h1:AJ G G')(h2:Nw G H G')(h3:AJ G' H')(h4:AJ H H'):Rw G0 H0 G' H' σ δ ts:=by
 refine⟨r.ext.trans h1,fun a o h=>?_,h3,r.keep.trans h4,r.len,fun i x h=>?_,fun i xs h=>?_,r.apart,fun q hq=>(r.A0 q hq).same h1⟩
 ·rcases h2 a o h with k|k|k
  ·exact r.new a o k
  ·right;left
   cases q:H0 a with
   |none=>rfl
   |some u=>rw[r.keep _ _ q]at k;cases k
  ·exact .inr (.inr k)
 ·obtain⟨v,k1,k2⟩:=r.dat i x h;exact⟨v,k1,k2.same h1⟩
 ·obtain⟨a,ys,k1,k2,k3,k4,k5⟩:=r.own i xs h;refine⟨a,ys,k1,?_,k3,h4 _ _ k4,k5.same h1⟩;cases q:G' a with
  |none=>rfl
  |some u =>
   rcases h2 a u q with z|z|⟨xs',z⟩
   ·rw[k2]at z;cases z
   ·rw[k4]at z;cases z
   ·have:=h3 _ _ q;rw[h4 _ _ k4,z]at this;cases this;exact k5.MQ.elim
end
section
variable{X:Cx}{a b e:Expr}{f g h:Dv→Option PyData}{pos:Pos}
theorem AG{i j pos}:DE X (.Constant (.int i) j pos) (fun _=>some (.int i)):=⟨_,BE,fun δ x h G0 H0 G H σ ts Q r k=>by cases h;exact k _ _ _ (r.put (by rw[Du]))⟩
theorem HB{i j pos}:DE X (.Constant (.bool i) j pos) (fun _=>some (.bool i)):=⟨_,Ca,fun δ x h G0 H0 G H σ ts Q r k=>by cases h;exact k _ _ _ (r.put (by rw[Du]))⟩
theorem JS{j pos}:DE X (.Constant .none j pos) (fun _=>some .none):=⟨_,bX,fun δ x h G0 H0 G H σ ts Q r k=>by cases h;exact k _ _ _ (r.put (by rw[Du]))⟩
theorem BC{i j pos}:DE X (.Constant (.str i) j pos) (fun _=>some (.str i)):=⟨_,Zo,fun δ x h G0 H0 G H σ ts Q r k=>by cases h;exact k _ _ _ (r.put (by rw[Du]))⟩
def nm(i:Nat)(δ:Dv):Option PyData:=match δ[i]? with|some (.d x)=>some x|_=>none
theorem cR{i:Nat}{δ:Dv}{x:PyData}(h:nm i δ=some x):δ[i]? = some (.d x):=by
 unfold nm at h;split at h
 ·rename_i y e;cases h;exact e
 ·cases h
theorem AD{i:Nat}{x:Str}(h:PE X (.Name x pos) (F8 i)):DE X (.Name x pos) (nm i):=⟨_,h,fun δ y hy G0 H0 G H σ ts Q r k=>by
 obtain⟨v,h1,h2⟩:=r.dat _ _ (cR hy);exact⟨v,h1,k _ _ _ (r.put h2)⟩⟩
def AK(o:PyData→PyData→Option PyData)(f g:Dv→Option PyData)(δ:Dv):Option PyData:=(f δ).bind fun x=>(g δ).bind fun y=>o x y
def Cf(X:Cx)(m:Value→Value→Sem Value)(o:PyData→PyData→Option PyData):Prop:=∃r:R2,CH X m r∧∀x y z,o x y=some z→∀G0 H0 G H σ δ ts u v (Q:VK),Rw G0 H0 G H σ δ ts→Du G x u→Du G y v→(∀w G' H',Rw G0 H0 G' H' σ δ ((z,w)::ts)→Q w H')→r u v H Q
theorem two{x y:PyData}{f g:Dv→Option PyData}{δ:Dv}{o:PyData→PyData→Option PyData}{z:PyData}(h:AK o f g δ=some z):∃x y,f δ=some x∧g δ=some y∧o x y=some z:=by
 unfold AK at h;obtain⟨x,h1,h2⟩:=aB.mp h;obtain⟨y,h3,h4⟩:=aB.mp h2;exact⟨x,y,h1,h3,h4⟩
theorem AU{op:Operator}{o:PyData→PyData→Option PyData}(ho:Cf X (binaryOp op) o)(ha:DE X a f)(hb:DE X b g):DE X (.BinOp a op b pos) (AK o f g):=by
 obtain⟨r,hr,kr⟩:=ho;obtain⟨ta,pa,ka⟩:=ha;obtain⟨tb,pb,kb⟩:=hb;refine⟨_,HJ hr pa pb,fun δ z hz G0 H0 G H σ ts Q R0 k=>?_⟩;obtain⟨x,y,h1,h2,h3⟩:=two (x:=.none) (y:=.none) hz;refine ka δ x h1 G0 H0 G H σ ts _ R0 fun u G1 H1 R1=>?_;refine kb δ y h2 G0 H0 G1 H1 σ _ _ R1 fun v G2 H2 R2=>?_;exact kr x y z h3 G0 H0 G2 H2 σ δ ts u v Q (R2.drop.drop) (R2.A0 (x,u) (.tail _ (.head _))) (R2.A0 (y,v) (.head _)) k
theorem UB{op:CmpOp}{o:PyData→PyData→Option PyData}(ho:Cf X (compareOp op) o)(ha:DE X a f)(hb:DE X b g)(hm:behindInMarks op b=false):DE X (.Compare a [op] [b] pos) (AK o f g):=by
 obtain⟨r,hr,kr⟩:=ho;obtain⟨ta,pa,ka⟩:=ha;obtain⟨tb,pb,kb⟩:=hb;refine⟨_,JM hr pa pb hm,fun δ z hz G0 H0 G H σ ts Q R0 k=>?_⟩;obtain⟨x,y,h1,h2,h3⟩:=two (x:=.none) (y:=.none) hz;refine ka δ x h1 G0 H0 G H σ ts _ R0 fun u G1 H1 R1=>?_;refine kb δ y h2 G0 H0 G1 H1 σ _ _ R1 fun v G2 H2 R2=>?_;exact kr x y z h3 G0 H0 G2 H2 σ δ ts u v Q (R2.drop.drop) (R2.A0 (x,u) (.tail _ (.head _))) (R2.A0 (y,v) (.head _)) k
end
section
variable{X:Cx}
def Ft(o o':PyData→PyData→Option PyData)(x y:PyData):Option PyData:=match o x y with|some z=>some z|none=>o' x y
theorem Cf.or{m:Value→Value→Sem Value}{o o':PyData→PyData→Option PyData}(h:Cf X m o)(h':Cf X m o'):Cf X m (Ft o o'):=by
 obtain⟨r,hr,kr⟩:=h;obtain⟨r',hr',kr'⟩:=h';refine⟨_,CH.or hr hr',fun x y z hz G0 H0 G H σ δ ts u v Q R0 du dv k=>?_⟩;unfold Ft at hz;split at hz
 ·rename_i z' e;cases hz;exact .inl (kr x y z e G0 H0 G H σ δ ts u v Q R0 du dv k)
 ·exact .inr (kr' x y z hz G0 H0 G H σ δ ts u v Q R0 du dv k)
theorem LP{m:Value→Value→Sem Value}{C:Int→Int→Prop}{gv:Int→Int→V}{o:Int→Int→Option PyData}(ho:CH X m (rI C gv))(hC:∀i j z,o i j=some z→C i j∧∀H,Du H z (gv i j)) :
  Cf X m (fun x y=>match x,y with|.int i,.int j=>o i j|_,_=>none):=by
 refine⟨_,ho,fun x y z hz G0 H0 G H σ δ ts u v Q R0 du dv k=>?_⟩;dsimp only at hz;split at hz
 ·rename_i i j;rw[Du]at du dv;obtain⟨h1,h2⟩:=hC i j z hz;exact⟨i,j,du,dv,h1,k _ _ _ (R0.put (h2 _))⟩
 ·cases hz
theorem Hn{m:Value→Value→Sem Value}{gv:Int→Int→V}{o:Int→Int→PyData}(ho:CH X m (N6 gv))(hC:∀i j H,Du H (o i j) (gv i j)) :
  Cf X m (fun x y=>match x,y with|.int i,.int j=>some (o i j)|_,_=>none):=by
 refine⟨_,ho,fun x y z hz G0 H0 G H σ δ ts u v Q R0 du dv k=>?_⟩;dsimp only at hz;split at hz
 ·rename_i i j;cases hz;rw[Du]at du dv;exact⟨i,j,du,dv,k _ _ _ (R0.put (hC _ _ _))⟩
 ·cases hz
def Co:Nat:=1000
theorem Ji{n:Nat}(h:n≤Co):n<sizeLine:=OU h
theorem Di{n:Nat}(h:n≤Co):n≤sizeLine:=Nat.le_of_lt (OU h)
def Sw:PyData→PyData→Option PyData:=fun x y=>match x,y with|.int i,.int j=>some (.int (i+j))|_,_=>none
def HR:PyData→PyData→Option PyData:=fun x y=>match x,y with|.int i,.int j=>some (.int (i-j))|_,_=>none
def Gp(n:Nat)(i:Int):Bool:=decide (i.natAbs<2^n)
def M3(i j:Int):Bool:=Gp 64 i||Gp 64 j||(Gp 9000 i&&Gp 9000 j)
def Sg:PyData→PyData→Option PyData:=fun x y=>match x,y with|.int i,.int j=>(if M3 i j=true then some (.int (i*j)) else none)|_,_=>none
def Cw:PyData→PyData→Option PyData:=fun x y=>match x,y with|.int i,.int j=>(if j≠0∧Gp 9000 j=true then some (.int (i.fdiv j)) else none)|_,_=>none
def Cn:PyData→PyData→Option PyData:=fun x y=>match x,y with|.int i,.int j=>(if j≠0 then some (.int (i.fmod j)) else none)|_,_=>none
def Qa:PyData→PyData→Option PyData:=fun x y=>match x,y with|.int i,.int j=>(if 0≤j∧j≤1000∧Gp 64 i=true then some (.int (i^j.toNat)) else none)|_,_=>none
theorem Xa:Cf X (binaryOp .Add) Sw:=Hn YJ fun _ _ _=>by rw[Du]
theorem FN:Cf X (binaryOp .Sub) HR:=Hn QD fun _ _ _=>by rw[Du]
theorem WC{i:Int}(h:Gp 64 i=true):-(2^64)<i∧i<2^64:=by
 have:=aX h
 lia
theorem W0:Cf X (binaryOp .Mult) Sg:=LP (o:=fun i j=>if M3 i j=true then some (.int (i*j)) else none) X3 fun i j z h=>by
 split at h
 ·rename_i q;cases h;refine⟨?_,fun _=>by rw[Du]⟩;unfold M3 at q;rw[Bool.or_eq_true,Bool.or_eq_true,Bool.and_eq_true]at q;rcases q with (q|q)|q
  ·exact .inl (.inl (WC q))
  ·exact .inl (.inr (WC q))
  ·exact .inr ⟨9000,by decide,of_decide_eq_true q.1,of_decide_eq_true q.2⟩
 ·cases h
theorem De:Cf X (binaryOp .FloorDiv) Cw:=LP (o:=fun i j=>if j≠0∧Gp 9000 j=true then some (.int (i.fdiv j)) else none) L3 fun i j z h=>by
 split at h
 ·rename_i q;cases h;exact⟨⟨q.1,9000,Nat.le_refl _,of_decide_eq_true q.2⟩,fun _=>by rw[Du]⟩
 ·cases h
theorem CI:Cf X (binaryOp .Mod) Cn:=LP (o:=fun i j=>if j≠0 then some (.int (i.fmod j)) else none) Nu fun i j z h=>by
 split at h
 ·rename_i q;cases h;exact⟨q,fun _=>by rw[Du]⟩
 ·cases h
theorem XJ:Cf X (binaryOp .Pow) Qa:=LP (o:=fun i j=>if 0≤j∧j≤1000∧Gp 64 i=true then some (.int (i^j.toNat)) else none) Zx fun i j z h=>by
 split at h
 ·rename_i q;cases h;exact⟨⟨q.1,by lia,of_decide_eq_true q.2.2⟩,fun _=>by rw[Du]⟩
 ·cases h
def F4(p:Int→Int→Bool):PyData→PyData→Option PyData:=fun x y=>match x,y with|.int i,.int j=>some (.bool (p i j))|_,_=>none
theorem Wc:Cf X (compareOp .Lt) (F4 fun i j=>decide (i<j)):=Hn (o:=fun i j=>.bool (decide (i<j))) O6 fun _ _ _=>by rw[Du]
theorem O1:Cf X (compareOp .Gt) (F4 fun i j=>decide (j<i)):=Hn (o:=fun i j=>.bool (decide (j<i))) Oq fun _ _ _=>by rw[Du]
theorem cZ:Cf X (compareOp .GtE) (F4 fun i j=>decide (j≤i)):=Hn (o:=fun i j=>.bool (decide (j≤i))) WU fun _ _ _=>by rw[Du]
def HX:PyData→PyData→Option PyData:=fun x y=>match x,y with|.list a,.list b=>(if a.length+b.length≤Co then some (.list (a++b)) else none)|_,_=>none
theorem W5:Cf X (binaryOp .Add) HX:=by
 refine⟨_,TF,fun x y z hz G0 H0 G H σ δ ts u v Q R0 du dv k=>?_⟩;unfold HX at hz;split at hz
 ·rename_i a b;split at hz
  ·rename_i hl;cases hz;rw[Du]at du dv;obtain⟨p,xs,rfl,h1,h2⟩:=du;obtain⟨q,ys,rfl,h3,h4⟩:=dv;refine⟨p,q,xs,ys,rfl,rfl,R0.ins _ _ h1,R0.ins _ _ h3,Di (by rw[h2.len,h4.len];exact hl),fun l hl'=>?_⟩;have R1:=R0.newObj (o:=.lst (xs++ys)) hl';refine k _ _ _ (R1.put ?_);rw[Du];have e:AJ G (upd G l (.lst (xs++ys))):=fun a o h=>by
    have:=R0.ins _ _ h;rw[AR (BG this hl')];exact h
   exact⟨l,xs++ys,rfl,AW,(h2.same e).app (h4.same e)⟩
  ·cases hz
 ·cases hz
def Jz:PyData→PyData→Option PyData:=fun x y=>match x,y with|.tuple a,.tuple b=>(if a.length+b.length≤Co then some (.tuple (a++b)) else none)|_,_=>none
theorem Xb:Cf X (binaryOp .Add) Jz:=by
 refine⟨_,XX,fun x y z hz G0 H0 G H σ δ ts u v Q R0 du dv k=>?_⟩;unfold Jz at hz;split at hz
 ·rename_i a b;split at hz
  ·rename_i hl;cases hz;rw[Du]at du dv;obtain⟨p,xs,rfl,h1,h2⟩:=du;obtain⟨q,ys,rfl,h3,h4⟩:=dv;refine⟨p,q,xs,ys,rfl,rfl,R0.ins _ _ h1,R0.ins _ _ h3,Di (by rw[h2.len,h4.len];exact hl),fun l H' e hp=>?_⟩;have R1:=R0.S4 e hp;refine k _ _ _ (R1.put ?_);rw[Du];have e1:AJ G (upd G l (.tup (xs++ys))):=fun a o h=>by
    by_cases ha:a=l
    ·subst ha;have:=e _ _ (R0.ins _ _ h);rw[hp]at this;rw[AW];exact this
    ·rw[AR ha];exact h
   exact⟨l,xs++ys,rfl,AW,(h2.same e1).app (h4.same e1)⟩
  ·cases hz
 ·cases hz
def NN:PyData→PyData→Option PyData:=fun x y=>match x,y with|.str a,.str b=>(if a.length+b.length≤Co then some (.str (a++b)) else none)|_,_=>none
theorem W7:Cf X (binaryOp .Add) NN:=by
 refine⟨_,Rn,fun x y z hz G0 H0 G H σ δ ts u v Q R0 du dv k=>?_⟩;unfold NN at hz;split at hz
 ·rename_i a b;split at hz
  ·rename_i hl;cases hz;rw[Du]at du dv;exact⟨a,b,du,dv,Di hl,k _ _ _ (R0.put (by rw[Du]))⟩
  ·cases hz
 ·cases hz
def BB:PyData→PyData→Option PyData:=Ft Sw (Ft HX (Ft Jz NN))
theorem A4:Cf X (binaryOp .Add) BB:=Xa.or (W5.or (Xb.or W7))
def Ik:PyData→PyData→Option PyData:=fun x y=>match x,y with|.list a,.int k=>(if a.length*k.toNat≤Co∧-1000000≤k∧k≤1000000 then some (.list (List.replicate k.toNat a).flatten) else none)|_,_=>none
theorem Ac.rep{H:Hp}{ds:List PyData}{xs:List V}(h:Ac H ds xs):∀n,Ac H (List.replicate n ds).flatten (List.replicate n xs).flatten
 |0=>.nil
 |n+1=>by rw[List.replicate_succ,List.replicate_succ,List.flatten_cons,List.flatten_cons];exact h.app (h.rep n)
theorem W2:Cf X (binaryOp .Mult) Ik:=by
 refine⟨_,UG,fun x y z hz G0 H0 G H σ δ ts u v Q R0 du dv k=>?_⟩;unfold Ik at hz;split at hz
 ·rename_i a n;split at hz
  ·rename_i hl;cases hz;rw[Du]at du;rw[Du]at dv;obtain⟨p,xs,rfl,h1,h2⟩:=du;subst dv;refine⟨p,n,xs,rfl,rfl,R0.ins _ _ h1,by lia,by lia,Di (by rw[h2.len];exact hl.1),fun l hl'=>?_⟩;have R1:=R0.newObj (o:=.lst (List.replicate n.toNat xs).flatten) hl';refine k _ _ _ (R1.put ?_);rw[Du];have e:AJ G (upd G l (.lst (List.replicate n.toNat xs).flatten)):=fun a o h=>by
    have:=R0.ins _ _ h;rw[AR (BG this hl')];exact h
   exact⟨l,_,rfl,AW,(h2.same e).rep _⟩
  ·cases hz
 ·cases hz
def FD:PyData→PyData→Option PyData:=Ft Sg Ik
theorem Et:Cf X (binaryOp .Mult) FD:=W0.or W2
theorem Ny{d:PyData}(h:SeqAt.shaped d=true):d.canLay0=true:=by unfold SeqAt.shaped at h;rw[Bool.and_eq_true]at h;exact h.1
def CY(neg:Bool):PyData→PyData→Option PyData:=fun x y=>if SeqAt.shaped x=true∧SeqAt.shaped y=true then some (.bool (if neg then !PyData.eqv x y else PyData.eqv x y)) else none
theorem Tc{m:Value→Value→Sem Value}{neg:Bool}(ho:CH X m (U5 X.K neg)):Cf X m (CY neg):=by
 refine⟨_,ho,fun x y z hz G0 H0 G H σ δ ts u v Q R0 du dv k=>?_⟩;unfold CY at hz;split at hz
 ·rename_i hs;cases hz;exact⟨x,y,(du.same R0.ins).br (Ny hs.1),(dv.same R0.ins).br (Ny hs.2),hs.1,hs.2,k _ _ _ (R0.put (by rw[Du]))⟩
 ·cases hz
theorem Fo(hu:X.A.units+64<cLine):Cf X (compareOp .Eq) (CY false):=Tc (ZE hu)
theorem HK(hu:X.A.units+64<cLine):Cf X (compareOp .NotEq) (CY true):=Tc (Y7 hu)
def PyData.Vt:PyData→Bool
 |.none=>true
 |_=>false
theorem Z1{H:Hp}:∀ {x:PyData} {u:V},Du H x u→decide (u=.BR)=PyData.Vt x
 |.none,u,h=>by rw[Du]at h;subst h;rfl
 |.bool _,u,h=>by rw[Du]at h;subst h;rfl
 |.int _,u,h=>by rw[Du]at h;subst h;rfl
 |.str _,u,h=>by rw[Du]at h;subst h;rfl
 |.tuple _,u,h=>by rw[Du]at h;obtain⟨a,xs,rfl,_⟩:=h;rfl
 |.list _,u,h=>by rw[Du]at h;obtain⟨a,xs,rfl,_⟩:=h;rfl
 |.dict [],u,h=>by rw[Du,IZ]at h;rcases h with ⟨ea,C,_,rfl,_⟩|⟨a,ns,_,rfl,_⟩|h;rfl;rfl;exact h.elim
 |.dict ((_,_)::_),u,h=>by rw[Du,IZ]at h;rcases h with ⟨ea,C,_,rfl,_⟩|⟨a,ns,_,rfl,_⟩|⟨_,_,a,r,rfl,_⟩<;>rfl
def Zp(neg:Bool):PyData→PyData→Option PyData:=fun x y=>match y with
 |.none=>some (.bool (if neg then !PyData.Vt x else PyData.Vt x))
 |_=>none
theorem VQ:Cf X (compareOp .IsNot) (Zp true):=by
 refine⟨_,YE,fun x y z hz G0 H0 G H σ δ ts u v Q R0 du dv k=>?_⟩;unfold Zp at hz;split at hz
 ·cases hz;rw[Du]at dv;refine⟨dv,?_⟩;rw[Z1 du];exact k _ _ _ (R0.put (by rw[Du];rfl))
 ·cases hz
end
section
variable{X:Cx}{a b c e:Expr}{es:List Expr}{f g h:Dv→Option PyData}{pos p:Pos}
def OL:PyData→Option Bool
 |.bool b=>some b
 |_=>none
def JO:PyData→Option Int
 |.int b=>some b
 |_=>none
theorem Ue{x:PyData}{b:Bool}(h:OL x=some b):x=.bool b:=by
 unfold OL at h;split at h
 ·cases h;rfl
 ·cases h
theorem Hw{x:PyData}{b:Int}(h:JO x=some b):x=.int b:=by
 unfold JO at h;split at h
 ·cases h;rfl
 ·cases h
theorem UU(ha:DE X a f):DE X (.UnaryOp .USub a pos) (fun δ=>(f δ).bind fun x=>(JO x).map fun i=>.int (-i)):=by
 obtain⟨ta,pa,ka⟩:=ha;refine⟨_,dD YL pa,fun δ z hz G0 H0 G H σ ts Q R0 k=>?_⟩;obtain⟨x,h1,h2⟩:=aB.mp hz;obtain⟨i,h3,rfl⟩:=aC.mp h2;have:=Hw h3;subst this;refine ka δ _ h1 G0 H0 G H σ ts _ R0 fun u G1 H1 R1=>?_;have:=R1.A0 _ (.head _);rw[Du]at this;exact⟨i,this,k _ _ _ (R1.drop.put (by rw[Du]))⟩
variable{fa fb:Dv→Option Bool}
def DW(X:Cx)(e:Expr)(f:Dv→Option Bool):Prop:=∃t,PW X e t∧∀δ b,f δ=some b→∀G0 H0 G H σ ts (Q:Bool→Hp→Prop),Rw G0 H0 G H σ δ ts→(∀G' H',Rw G0 H0 G' H' σ δ ts→Q b H')→t σ H Q
theorem DW.dt(h:DW X e fa):DT X e fa:=let⟨t,p,k⟩:=h;⟨t,p.pt,k⟩
theorem BP{op:CmpOp}{o:PyData→PyData→Option PyData}(ho:Cf X (compareOp op) o)(ha:DE X a f)(hb:DE X b g)(hm:behindInMarks op b=false):DT X (.Compare a [op] [b] pos) (fun δ=>(AK o f g δ).bind OL):=by
 obtain⟨r,hr,kr⟩:=ho;obtain⟨ta,pa,ka⟩:=ha;obtain⟨tb,pb,kb⟩:=hb;refine⟨_,CN hr pa pb hm,fun δ z hz G0 H0 G H σ ts Q R0 k=>?_⟩;obtain⟨q,h0,h4⟩:=aB.mp hz;have:=Ue h4;subst this;obtain⟨x,y,h1,h2,h3⟩:=two (x:=.none) (y:=.none) h0;refine ka δ x h1 G0 H0 G H σ ts _ R0 fun u G1 H1 R1=>?_;refine kb δ y h2 G0 H0 G1 H1 σ _ _ R1 fun v G2 H2 R2=>?_;refine kr x y _ h3 G0 H0 G2 H2 σ δ ts u v _ (R2.drop.drop) (R2.A0 (x,u) (.tail _ (.head _))) (R2.A0 (y,v) (.head _)) fun w G3 H3 R3=>?_;have hu:=R3.A0 _ (.head _);rw[Du]at hu;exact⟨z,hu,k _ _ R3.drop⟩
theorem Fp(ha : DE X e f)(he : ∀ whole,isTrue e X.env whole = (do let v ← whole; standAt e.pos; holding [v] (truthy v)) := by intro _; rfl) : DT X e (fun δ => (f δ).bind OL) := by
  obtain ⟨ta,pa,ka⟩:=ha
  refine ⟨_,CU pa he,fun δ z hz G0 H0 G H σ ts Q R0 k => ?_⟩
  obtain ⟨q,h0,h4⟩:=aB.mp hz
  have:=Ue h4; subst this
  refine ka δ _ h0 G0 H0 G H σ ts _ R0 fun u G1 H1 R1 => ?_
  have hu:=R1.A0 _ (.head _)
  rw [Du] at hu
  exact ⟨z,hu,k _ _ R1.drop⟩
theorem GK(ha:DT X a fa):DT X (.UnaryOp .Not a pos) (fun δ=>(fa δ).map fun c=>!c):=by
 obtain⟨ta,pa,ka⟩:=ha;refine⟨_,CT pa,fun δ z hz G0 H0 G H σ ts Q R0 k=>?_⟩;obtain⟨i,h3,rfl⟩:=aC.mp hz;exact ka δ _ h3 G0 H0 G H σ ts _ R0 fun G1 H1 R1=>k _ _ R1
theorem FV{op:BoolOp}(ha:DT X a fa):DW X (.BoolOp op [a] pos) fa:=by
 obtain⟨ta,pa,ka⟩:=ha;cases op
 ·exact⟨_,RQ pa,ka⟩
 ·exact⟨_,EN pa,ka⟩
theorem Pj{rest:List Expr}(ha:DT X a fa)(hb:DW X (.BoolOp .And (b::rest) pos) fb):DW X (.BoolOp .And (a::b::rest) pos) (fun δ=>(fa δ).bind fun c=>if c=true then fb δ else some false):=by
 obtain⟨ta,pa,ka⟩:=ha;obtain⟨tb,pb,kb⟩:=hb;refine⟨_,T8 pa pb,fun δ z hz G0 H0 G H σ ts Q R0 k=>?_⟩;obtain⟨i,h3,h4⟩:=aB.mp hz;refine ka δ _ h3 G0 H0 G H σ ts _ R0 fun G1 H1 R1=>?_;split
 ·rename_i hc;rw[if_pos hc]at h4;exact kb δ z h4 G0 H0 G1 H1 σ ts Q R1 k
 ·rename_i hc;rw[if_neg hc]at h4;cases h4;exact k _ _ R1
theorem LS{rest:List Expr}(ha:DT X a fa)(hb:DW X (.BoolOp .Or (b::rest) pos) fb):DW X (.BoolOp .Or (a::b::rest) pos) (fun δ=>(fa δ).bind fun c=>if c=true then some true else fb δ):=by
 obtain⟨ta,pa,ka⟩:=ha;obtain⟨tb,pb,kb⟩:=hb;refine⟨_,Eg pa pb,fun δ z hz G0 H0 G H σ ts Q R0 k=>?_⟩;obtain⟨i,h3,h4⟩:=aB.mp hz;refine ka δ _ h3 G0 H0 G H σ ts _ R0 fun G1 H1 R1=>?_;split
 ·rename_i hc;rw[if_pos hc]at h4;cases h4;exact k _ _ R1
 ·rename_i hc;rw[if_neg hc]at h4;exact kb δ z h4 G0 H0 G1 H1 σ ts Q R1 k
theorem WK(hc:DT X c fa)(ha:DE X a f)(hb:DE X b g):DE X (.IfExp c a b pos) (fun δ=>(fa δ).bind fun c=>if c=true then f δ else g δ):=by
 obtain⟨tc,pc,kc⟩:=hc;obtain⟨ta,pa,ka⟩:=ha;obtain⟨tb,pb,kb⟩:=hb;refine⟨_,Vp pc pa pb,fun δ z hz G0 H0 G H σ ts Q R0 k=>?_⟩;obtain⟨i,h3,h4⟩:=aB.mp hz;refine kc δ _ h3 G0 H0 G H σ ts _ R0 fun G1 H1 R1=>?_;split
 ·rename_i hc;rw[if_pos hc]at h4;exact ka δ z h4 G0 H0 G1 H1 σ ts Q R1 k
 ·rename_i hc;rw[if_neg hc]at h4;exact kb δ z h4 G0 H0 G1 H1 σ ts Q R1 k
variable{fs:Dv→Option (List PyData)}
theorem AE:DA X [] (fun _=>some []):=⟨_,AZ,fun δ xs h G0 H0 G H σ ts Q R0 k=>by cases h;exact k [] G H (by simpa using R0) rfl⟩
theorem AA(ha:DE X e f)(hr:DA X es fs)(hs:starEach (e::es) X.env=(false,eval e X.env)::starEach es X.env:=by rfl):DA X (e::es) (fun δ=>(f δ).bind fun x=>(fs δ).map fun xs=>x::xs):=by
 obtain⟨ta,pa,ka⟩:=ha;obtain⟨tr,pr,kr⟩:=hr;refine⟨_,AL pa pr hs,fun δ z hz G0 H0 G H σ ts Q R0 k=>?_⟩;obtain⟨x,h1,h2⟩:=aB.mp hz;obtain⟨xs,h3,rfl⟩:=aC.mp h2;refine ka δ x h1 G0 H0 G H σ ts _ R0 fun u G1 H1 R1=>?_;refine kr δ xs h3 G0 H0 G1 H1 σ _ _ R1 fun vs G2 H2 R2 hl=>?_;refine k (u::vs) G2 H2 (R2.less fun q hq=>?_) (by simp[hl]);simp only[List.zip_cons_cons,List.cons_append,List.mem_cons,List.mem_append]at hq ⊢;rcases hq with h|h|h
 ·exact .inr (.inl h)
 ·exact .inl h
 ·exact .inr (.inr h)
theorem UK{G:Hp}:∀ {xs:List PyData} {vs:List V},vs.length=xs.length→(∀q∈xs.zip vs,Du G q.1 q.2)→Ac G xs vs
 |[],vs,hl,_=>by rw[List.eq_nil_of_length_eq_zero hl];exact .nil
 |x::xs,[],hl,_=>by simp at hl
 |x::xs,v::vs,hl,h=>.cons (h (x,v) (by simp)) (UK (by simpa using hl) fun q hq=>h q (by simp[hq]))
theorem Rw.args{G0 H0 G H:Hp}{σ:St}{δ:Dv}{ts:List (PyData×V)}{xs:List PyData}{vs:List V}(r:Rw G0 H0 G H σ δ (xs.zip vs++ts))(hl:vs.length=xs.length):Ac G xs vs∧Rw G0 H0 G H σ δ ts :=
 ⟨UK hl fun q hq=>r.A0 q (List.mem_append_left _ hq),r.less fun q hq=>aV _ hq⟩
theorem Rw.NT{G0 H0 G H:Hp}{σ:St}{δ:Dv}{ts:List (PyData×V)}{xs:List PyData}{vs:List V}{p:Addr}(r:Rw G0 H0 G H σ δ ts)(d:Ac G xs vs)(hp:H p=none):Rw G0 H0 (upd G p (.lst vs)) (upd H p (.lst vs)) σ δ ((.list xs,.ref p)::ts):=by
 refine(r.newObj hp).put ?_;have e:AJ G (upd G p (.lst vs)):=fun a o h=>by rw[AR (BG (r.ins _ _ h) hp)];exact h
 rw[Du];exact⟨p,vs,rfl,AW,d.same e⟩
theorem Rw.SK{G0 H0 G H:Hp}{σ:St}{δ:Dv}{ts:List (PyData×V)}{xs:List PyData}{vs:List V}{p:Addr}(r:Rw G0 H0 G H σ δ ts)(d:Ac G xs vs)(hp:H p=none):Rw G0 H0 (upd G p (.tup vs)) (upd H p (.tup vs)) σ δ ((.tuple xs,.ref p)::ts):=by
 refine(r.newObj hp).put ?_;have e:AJ G (upd G p (.tup vs)):=fun a o h=>by rw[AR (BG (r.ins _ _ h) hp)];exact h
 rw[Du];exact⟨p,vs,rfl,AW,d.same e⟩
def Bt(xs:List PyData):Option (List PyData):=if xs.length≤Co then some xs else none
theorem JY{xs ys:List PyData}(h:Bt xs=some ys):xs=ys∧xs.length≤Co:=by
 unfold Bt at h;split at h
 ·rename_i q;cases h;exact⟨rfl,q⟩
 ·cases h
theorem Ab{x1}(ha:DA X es fs):DE X (.Tuple es x1 pos) (fun δ=>((fs δ).bind Bt).map .tuple):=by
 obtain⟨ta,pa,ka⟩:=ha;refine⟨_,S3 pa,fun δ z hz G0 H0 G H σ ts Q R0 k=>?_⟩;obtain⟨ys,h1,rfl⟩:=aC.mp hz;obtain⟨xs,h2,h3⟩:=aB.mp h1;obtain⟨rfl,hl⟩:=JY h3;refine ka δ _ h2 G0 H0 G H σ ts _ R0 fun vs G1 H1 R1 hv=>?_;obtain⟨d,R2⟩:=R1.args hv;exact⟨Di (by rw[hv];exact hl),fun q hq=>k _ _ _ (R2.SK d hq)⟩
theorem Al(ha:DA X es fs):DE X (.List es pos) (fun δ=>((fs δ).bind Bt).map .list):=by
 obtain⟨ta,pa,ka⟩:=ha;refine⟨_,QF pa,fun δ z hz G0 H0 G H σ ts Q R0 k=>?_⟩;obtain⟨ys,h1,rfl⟩:=aC.mp hz;obtain⟨xs,h2,h3⟩:=aB.mp h1;obtain⟨rfl,hl⟩:=JY h3;refine ka δ _ h2 G0 H0 G H σ ts _ R0 fun vs G1 H1 R1 hv=>?_;obtain⟨d,R2⟩:=R1.args hv;exact⟨Di (by rw[hv];exact hl),fun q hq=>k _ _ _ (R2.NT d hq)⟩
theorem Ac.ED{H:Hp}{ds:List PyData}{xs:List V}{i:Int}{d:PyData}(h:Ac H ds xs)(e:ED ds i=some d):∃v,ED xs i=some v∧Du H d v:=by
 unfold L2.ED at e ⊢;rw[h.len];obtain⟨j,h1,h2⟩:=aB.mp e;obtain⟨v,h3,h4⟩:=h.get h2;exact⟨v,by rw[h1];exact h3,h4⟩
theorem Ku{G:Hp}:∀ns:List Int,Ac G (ns.map .int) (ns.map V.int)
 |[]=>.nil
 |n::ns=>.cons (by rw[Du]) (Ku ns)
def FQ:PyData→PyData→Option PyData:=fun x y=>match x,y with
 |.list xs,.int i=>ED xs i
 |.tuple xs,.int i=>ED xs i
 |.dict [(.none,.list xs)],.int i=>ED xs i
 |.str z,.int i=>if z.length≤Co then(ED z.cps.toList i).map fun c=>.str ⟨#[c]⟩ else none
 |_,_=>none
theorem Dw(ha:DE X a f)(hb:DE X b g)(hs:LH b):DE X (.Subscript a b pos) (AK FQ f g):=by
 obtain⟨ta,pa,ka⟩:=ha;obtain⟨tb,pb,kb⟩:=hb;refine⟨_,Cp Z6 pa pb hs,fun δ z hz G0 H0 G H σ ts Q R0 k=>?_⟩;obtain⟨x,y,h1,h2,h3⟩:=two (x:=.none) (y:=.none) hz;refine ka δ x h1 G0 H0 G H σ ts _ R0 fun u G1 H1 R1=>?_;refine kb δ y h2 G0 H0 G1 H1 σ _ _ R1 fun v G2 H2 R2=>?_;have du:=R2.A0 (x,u) (.tail _ (.head _));have dv:=R2.A0 (y,v) (.head _);unfold FQ at h3;split at h3
 ·rw[Du]at du;rw[Du]at dv;obtain⟨p,xs,rfl,h4,h5⟩:=du;obtain⟨w,h6,h7⟩:=h5.ED h3;exact .inl ⟨p,xs,_,w,rfl,dv,A3.of (R2.ins _ _ h4),h6,k _ _ _ (R2.drop.drop.put h7)⟩
 ·rw[Du]at du;rw[Du]at dv;obtain⟨p,xs,rfl,h4,h5⟩:=du;obtain⟨w,h6,h7⟩:=h5.ED h3;exact .inr (.inl ⟨p,xs,_,w,rfl,dv,A9.of (R2.ins _ _ h4),h6,k _ _ _ (R2.drop.drop.put h7)⟩)
 ·rw[Du]at du;rw[Du]at dv;rcases du with ⟨ea,C,e1,_⟩|⟨p,ns,e1,rfl,h4⟩|z
  rotate_left 2
  ·rw[IZ]at z;cases z.1
  ·simp at e1
  ·obtain rfl:_=ns.map PyData.int:=by simpa using e1
   obtain⟨w,h6,h7⟩:=(Ku (G:=_) ns).ED h3;exact .inl ⟨p,_,_,w,rfl,dv,.inl (h4.same R2.ins),h6,k _ _ _ (R2.drop.drop.put h7)⟩
 ·rw[Du]at du;rw[Du]at dv;split at h3
  ·rename_i hl;obtain⟨ch,h6,rfl⟩:=aC.mp h3;exact .inr (.inr ⟨_,_,ch,du,dv,Di hl,h6,k _ _ _ (R2.drop.drop.put (by rw[Du]))⟩)
  ·cases h3
 ·cases h3
end
def Bu(g:List PyData→Option PyData):Sp:=fun vs H Q _=>∃ds x G,g ds=some x∧Ac G ds vs∧AJ G H∧∀v G' H',AJ G G'→Nw G H G'→AJ G' H'→AJ H H'→Du G' x v→Q v H'
section
variable{X:Cx}{a e:Expr}{es:List Expr}{f h:Dv→Option PyData}{fs:Dv→Option (List PyData)}{pos p:Pos}
theorem An{k:Nat}{fA:Addr}{fd:FuncData}{ps:List Str}{m:List PyData→Option PyData}{x:Str}{st:Stmt}(T:Fn X.K X.mg x st ps fA fd)(F:AM X.prog X.w X.K X.mg X.base A2 k fA fd ps (Bu m))(hr:CM k X.A)(hg:Gl X x)(ha:DA X (e::es) fs)
 (hdb:(x==("__debug__" : Str))=false:=by decide)(he:starEach (e::es) X.env=(false,eval e X.env)::starEach es X.env:=by rfl)(hpl:(backTo pos (starEach es X.env)).any (·.1)=false:=by rfl) :
  DE X (.Call (.Name x p) (e::es) [] pos) (fun δ=>(fs δ).bind m):=by
 obtain⟨ta,pa,ka⟩:=ha;refine⟨_,Ei T F hr hg pa hdb he hpl,fun δ z hz G0 H0 G H σ ts Q R0 k=>?_⟩;obtain⟨xs,h1,h2⟩:=aB.mp hz;refine ka δ _ h1 G0 H0 G H σ ts _ R0 fun vs G1 H1 R1 hv=>?_;obtain⟨d,R2⟩:=R1.args hv;refine⟨xs,z,G1,h2,by rw[List.append_nil];exact d,R2.ins,fun v G' H' h3 h4 h5 h6 h7=>?_⟩;exact k _ _ _ ((R2.lift h3 h4 h5 h6).put h7)
def LK(X:Cx)(v:Value)(o:List PyData→Option PyData):Prop:=∃r,GC X v r∧∀xs z,o xs=some z→∀G0 H0 G H σ δ ts us (Q:VK),Rw G0 H0 G H σ δ ts→Ac G xs us→(∀w G' H',Rw G0 H0 G' H' σ δ ((z,w)::ts)→Q w H')→r us H Q
theorem EO{x:Str}{id:String}{o:List PyData→Option PyData}(hc:LK X (.builtin id) o)(hg:Gl X x)(hm:X.mg x=none)(hv:bootBuiltins x=some (.builtin id))(ha:DA X (e::es) fs)(hn:x ≠ "__name__" := by decide)(hdb:(x==("__debug__" : Str))=false:=by decide)
 (he:starEach (e::es) X.env=(false,eval e X.env)::starEach es X.env:=by rfl)(hpl:(backTo pos (starEach es X.env)).any (·.1)=false:=by rfl):DE X (.Call (.Name x p) (e::es) [] pos) (fun δ=>(fs δ).bind o):=by
 obtain⟨r,hr,kr⟩:=hc;obtain⟨ta,pa,ka⟩:=ha;refine⟨_,Au hr hg hm hv pa hn hdb he hpl,fun δ z hz G0 H0 G H σ ts Q R0 k=>?_⟩;obtain⟨xs,h1,h2⟩:=aB.mp hz;refine ka δ _ h1 G0 H0 G H σ ts _ R0 fun vs G1 H1 R1 hv=>?_;obtain⟨d,R2⟩:=R1.args hv;exact kr xs z h2 G0 H0 G1 H1 σ δ ts vs Q R2 d k
theorem Dq{x:Str}{T:String}{o:List PyData→Option PyData}(hc:LK X (.type T) o)(hg:Gl X x)(hm:X.mg x=none)(hv:bootBuiltins x=some (.type T))(ha:DA X (e::es) fs)(hn:x ≠ "__name__" := by decide)(hdb:(x==("__debug__" : Str))=false:=by decide)
 (he:starEach (e::es) X.env=(false,eval e X.env)::starEach es X.env:=by rfl)(hpl:(backTo pos (starEach es X.env)).any (·.1)=false:=by rfl):DE X (.Call (.Name x p) (e::es) [] pos) (fun δ=>(fs δ).bind o):=by
 obtain⟨r,hr,kr⟩:=hc;obtain⟨ta,pa,ka⟩:=ha;refine⟨_,TZ hr hg hm hv pa hn hdb he hpl,fun δ z hz G0 H0 G H σ ts Q R0 k=>?_⟩;obtain⟨xs,h1,h2⟩:=aB.mp hz;refine ka δ _ h1 G0 H0 G H σ ts _ R0 fun vs G1 H1 R1 hv=>?_;obtain⟨d,R2⟩:=R1.args hv;exact kr xs z h2 G0 H0 G1 H1 σ δ ts vs Q R2 d k
theorem Ac.JV{H:Hp}{d:PyData}{xs:List V}(h:Ac H [d] xs):∃x,xs=[x]∧Du H d x:=by
 obtain⟨x,r,rfl,h1,h2⟩:=h.un;rw[h2.nil_eq];exact⟨x,rfl,h1⟩
theorem Ac.WT{H:Hp}{d e:PyData}{xs:List V}(h:Ac H [d,e] xs):∃x y,xs=[x,y]∧Du H d x∧Du H e y:=by
 obtain⟨x,r,rfl,h1,h2⟩:=h.un;obtain⟨y,rfl,h3⟩:=h2.JV;exact⟨x,y,rfl,h1,h3⟩
def Io:List PyData→Option PyData
 |[.list xs]=>some (.int xs.length)
 |[.tuple xs]=>some (.int xs.length)
 |[.dict [(.none,.list xs)]]=>some (.int xs.length)
 |_=>none
theorem Hv:LK X (.builtin "len") Io:=by
 refine⟨_,BQ,fun xs z hz G0 H0 G H σ δ ts us Q R0 d k=>?_⟩;unfold Io at hz;split at hz
 ·cases hz;obtain⟨u,rfl,du⟩:=d.JV;rw[Du]at du;obtain⟨p,ys,rfl,h4,h5⟩:=du;refine⟨p,ys,rfl,.inl (A3.of (R0.ins _ _ h4)),?_⟩;rw[h5.len];exact k _ _ _ (R0.put (by rw[Du]))
 ·cases hz;obtain⟨u,rfl,du⟩:=d.JV;rw[Du]at du;obtain⟨p,ys,rfl,h4,h5⟩:=du;refine⟨p,ys,rfl,.inr (A9.of (R0.ins _ _ h4)),?_⟩;rw[h5.len];exact k _ _ _ (R0.put (by rw[Du]))
 ·cases hz;obtain⟨u,rfl,du⟩:=d.JV;rw[Du]at du;rcases du with ⟨ea,C,e1,_⟩|⟨p,ns,e1,rfl,h4⟩|z
  rotate_left 2
  ·rw[IZ]at z;cases z.1
  ·simp at e1
  ·obtain rfl:_=ns.map PyData.int:=by simpa using e1
   refine⟨p,_,rfl,.inl (.inl (h4.same R0.ins)),?_⟩;rw[List.length_map]at k ⊢;exact k _ _ _ (R0.put (by rw[Du]))
 ·cases hz
def P8:List PyData→Option PyData
 |[.int i]=>some (.int (if i<0 then -i else i))
 |_=>none
theorem YZ:LK X (.builtin "abs") P8:=by
 refine⟨_,Hu,fun xs z hz G0 H0 G H σ δ ts us Q R0 d k=>?_⟩;unfold P8 at hz;split at hz
 ·cases hz;obtain⟨u,rfl,du⟩:=d.JV;rw[Du]at du;subst du;exact⟨_,rfl,k _ _ _ (R0.put (by rw[Du]))⟩
 ·cases hz
def EW:List PyData→Option PyData
 |[.list xs]=>some (.tuple xs)
 |[.tuple xs]=>some (.tuple xs)
 |_=>none
theorem HZ:LK X (.type "tuple") EW:=by
 refine⟨_,Ob,fun xs z hz G0 H0 G H σ δ ts us Q R0 d k=>?_⟩;unfold EW at hz;split at hz
 ·cases hz;obtain⟨u,rfl,du⟩:=d.JV;rw[Du]at du;obtain⟨p,ys,rfl,h4,h5⟩:=du;exact⟨p,ys,rfl,.inl ⟨A3.of (R0.ins _ _ h4),fun l hl=>k _ _ _ (R0.SK h5 hl)⟩⟩
 ·cases hz;obtain⟨u,rfl,du⟩:=d.JV;have du':=du;rw[Du]at du;obtain⟨p,ys,rfl,h4,h5⟩:=du;exact⟨p,ys,rfl,.inr ⟨A9.of (R0.ins _ _ h4),k _ _ _ (R0.put du')⟩⟩
 ·cases hz
def HN:List PyData→Option PyData
 |[.list xs]=>some (.list xs)
 |[.tuple xs]=>some (.list xs)
 |_=>none
theorem Nd:LK X (.type "list") HN:=by
 refine⟨_,PF,fun xs z hz G0 H0 G H σ δ ts us Q R0 d k=>?_⟩;unfold HN at hz;split at hz
 ·cases hz;obtain⟨u,rfl,du⟩:=d.JV;rw[Du]at du;obtain⟨p,ys,rfl,h4,h5⟩:=du;exact⟨p,ys,rfl,.inl (A3.of (R0.ins _ _ h4)),fun l hl=>k _ _ _ (R0.NT h5 hl)⟩
 ·cases hz;obtain⟨u,rfl,du⟩:=d.JV;rw[Du]at du;obtain⟨p,ys,rfl,h4,h5⟩:=du;exact⟨p,ys,rfl,.inr (A9.of (R0.ins _ _ h4)),fun l hl=>k _ _ _ (R0.NT h5 hl)⟩
 ·cases hz
theorem Du.ty{K:PySem.W.Frag}{H:Hp}:∀ {d:PyData} {v:V},(∀kv,d≠.dict kv)→Du H d v→E5 K H v (.type (MA d))∧∀kv,d≠.dict kv
 |.none,_,_,h=>by rw[Du]at h;subst h;exact⟨.BR,by simp⟩
 |.bool _,_,_,h=>by rw[Du]at h;subst h;exact⟨.bl _,by simp⟩
 |.int _,_,_,h=>by rw[Du]at h;subst h;exact⟨.int _,by simp⟩
 |.str _,_,_,h=>by rw[Du]at h;subst h;exact⟨.str _,by simp⟩
 |.tuple _,_,_,h=>by rw[Du]at h;obtain⟨a,xs,rfl,h1,_⟩:=h;exact⟨.tup h1,by simp⟩
 |.list _,_,_,h=>by rw[Du]at h;obtain⟨a,xs,rfl,h1,_⟩:=h;exact⟨.lst h1,by simp⟩
 |.dict _,_,n,h=>absurd rfl (n _)
def Rp(q:PyData→Bool):PyData→Option PyData
 |.dict _=>none
 |x=>some (.bool (q x))
theorem Xi{q:PyData→Bool}{x z:PyData}(h:Rp q x=some z):(∀kv,x≠.dict kv)∧z=.bool (q x):=by
 unfold Rp at h;split at h
 ·cases h
 ·rename_i n;cases h;exact⟨fun kv e=>n kv e,rfl⟩
theorem Y4{T:String}{q:PyData→Bool}{xT:Str}{p1 p2:Pos}(hk:∀d:PyData,(∀kv,d≠.dict kv)→PySem.W.kitOne X.K (.type (MA d)) (.type T)=some (q d))(hg:Gl X "isinstance")(hm:X.mg "isinstance" = none)(hgT:Gl X xT)(hmT:X.mg xT=none)(hvT:bootBuiltins xT=some (.type T))(ha:DE X a f)
 (hnT:xT ≠ "__name__" := by decide)(hdT:(xT==("__debug__" : Str))=false:=by decide)(hs1:starEach [a,.Name xT p2] X.env=(false,eval a X.env)::starEach [.Name xT p2] X.env:=by rfl)(hpl:(backTo pos (starEach [.Name xT p2] X.env)).any (·.1)=false:=by rfl) :
  DE X (.Call (.Name "isinstance" p1) [a,.Name xT p2] [] pos) (fun δ=>(f δ).bind (Rp q)):=by
 obtain⟨ta,pa,ka⟩:=ha;have pT:PE X (.Name xT p2) (tC (.ty T)):=C7 hgT hmT hvT rfl hnT hdT;refine⟨_,Au C0 hg hm aM (AL pa (AL pT AZ) hs1) (by decide) (by decide) hs1 hpl,fun δ z hz G0 H0 G H σ ts Q R0 k=>?_⟩;obtain⟨x,h1,h2⟩:=aB.mp hz;obtain⟨n1,rfl⟩:=Xi h2;refine ka δ _ h1 G0 H0 G H σ ts _ R0 fun u G1 H1 R1=>?_;have du:=R1.A0 _ (.head _);obtain⟨t1,t2⟩:=(du.same R1.ins).ty (K:=X.K) n1;exact⟨u,.ty T,_,q x,rfl,by simp[Bq],t1,hk x t2,k _ _ _ (R1.drop.put (by rw[Du]))⟩
end
inductive Ou where
 |nx (δ:Dv)|rt (x:PyData)|bk (δ:Dv)|ct (δ:Dv)|rn (xs:List PyData)
def Fin(G0 H0:Hp)(D:Ends):Ou→Prop
 |.nx δ=>∀σ G H,Rw G0 H0 G H σ δ []→D.nx σ H
 |.rt x=>∀v G H,AJ G0 G→Nw G0 H0 G→AJ G H→AJ H0 H→Du G x v→D.rt v H
 |.bk δ=>∀σ G H,Rw G0 H0 G H σ δ []→D.bk σ H
 |.ct δ=>∀σ G H,Rw G0 H0 G H σ δ []→D.ct σ H
 |.rn xs=>∀a ys G H,AJ G0 G→Nw G0 H0 G→AJ G H→AJ H0 H→H0 a=none→G a=none→H a=some (.lst ys)→Ac G xs ys→D.rt (.ref a) H
abbrev DF:=Dv→Option Ou
def DS(X:Cx)(st:Stmt)(F:DF):Prop:=∃t,PS X st t∧∀δ r,F δ=some r→∀G0 H0 G H σ D,Rw G0 H0 G H σ δ []→Fin G0 H0 D r→t D σ H
def Li(X:Cx)(st:List Stmt)(F:DF):Prop:=∃t,FZ X st t∧∀δ r,F δ=some r→∀G0 H0 G H σ D,Rw G0 H0 G H σ δ []→Fin G0 H0 D r→t D σ H
def AQ(F1 F2:DF)(δ:Dv):Option Ou:=match F1 δ with
 |some (.nx δ')=>F2 δ'
 |o=>o
section
variable{X:Cx}{c e:Expr}{f h:Dv→Option PyData}{fa:Dv→Option Bool}{pos p:Pos}{st:Stmt}{sts sts':List Stmt}{F1 F2:DF}
theorem Bk:Li X [] (fun δ=>some (.nx δ)):=⟨_,B3,fun δ r h G0 H0 G H σ D R k=>by cases h;exact k _ _ _ R⟩
theorem AH(h1:DS X st F1)(h2:Li X sts F2):Li X (st::sts) (AQ F1 F2):=by
 obtain⟨t1,p1,k1⟩:=h1;obtain⟨t2,p2,k2⟩:=h2;refine⟨_,A7 p1 p2,fun δ r h G0 H0 G H σ D R k=>?_⟩;unfold AQ at h;split at h
 ·rename_i δ' e1;exact k1 δ _ e1 G0 H0 G H σ _ R fun σ' G' H' R'=>k2 δ' r h G0 H0 G' H' σ' D R' k
 ·rename_i hne;refine k1 δ r h G0 H0 G H σ _ R ?_;cases r with
  |nx δ'=>exact absurd h (hne δ')
  |rt x=>exact k
  |bk δ'=>exact k
  |ct δ'=>exact k
  |rn xs=>exact k
theorem AX(h1:DS X st F1):Li X [st] F1:=by
 obtain⟨t1,p1,k1⟩:=h1;exact⟨_,Aq p1,k1⟩
theorem Xl:DS X (.Continue pos) (fun δ=>some (.ct δ)):=⟨_,Qs,fun δ r h G0 H0 G H σ D R k=>by cases h;exact k _ _ _ R⟩
theorem BL(he:DE X e f):DS X (.Return (some e) pos) (fun δ=>(f δ).map .rt):=by
 obtain⟨t,p,k⟩:=he;refine⟨_,BM p,fun δ r h G0 H0 G H σ D R q=>?_⟩;obtain⟨x,h1,rfl⟩:=aC.mp h;exact k δ x h1 G0 H0 G H σ [] _ R fun v G' H' R'=>q v G' H' R'.ext R'.new R'.ins R'.keep (R'.A0 _ (.head _))
theorem CZ(hc:DT X c fa)(h1:Li X sts F1)(h2:Li X sts' F2):DS X (.If c sts sts' pos) (fun δ=>(fa δ).bind fun c=>if c=true then F1 δ else F2 δ):=by
 obtain⟨tc,pc,kc⟩:=hc;obtain⟨t1,p1,k1⟩:=h1;obtain⟨t2,p2,k2⟩:=h2;refine⟨_,DH pc p1 p2,fun δ r h G0 H0 G H σ D R q=>?_⟩;obtain⟨i,h3,h4⟩:=aB.mp h;refine kc δ i h3 G0 H0 G H σ [] _ R fun G' H' R'=>?_;split
 ·rename_i hc;rw[if_pos hc]at h4;exact k1 δ r h4 G0 H0 G' H' σ D R' q
 ·rename_i hc;rw[if_neg hc]at h4;exact k2 δ r h4 G0 H0 G' H' σ D R' q
end
section
variable{G0 H0 G H:Hp}{σ:St}{δ:Dv}{ts:List (PyData×V)}
theorem Rw.Iy{i:Nat}{x:PyData}{v:V}(r:Rw G0 H0 G H σ δ ((x,v)::ts)):Rw G0 H0 G H (σ.set i (some v)) (δ.set i (.d x)) ts:=by
 have hl:=r.len;refine⟨r.ext,r.new,r.ins,r.keep,by simp[hl],fun j y h=>?_,fun j ys h=>?_,fun j l ys zs hjl h1 h2=>?_,fun q hq=>r.A0 q (.tail _ hq)⟩
 ·by_cases hj:i=j
  ·subst hj;by_cases hi:i<δ.length
   ·rw[List.getElem?_set_self hi]at h;cases h;exact⟨v,by rw[List.getElem?_set_self (by lia)],r.A0 _ (.head _)⟩
   ·rw[List.getElem?_eq_none (by simp;lia)]at h;cases h
  ·rw[List.getElem?_set_ne hj]at h;obtain⟨w,k1,k2⟩:=r.dat j y h;exact⟨w,by rw[List.getElem?_set_ne hj];exact k1,k2⟩
 ·by_cases hj:i=j
  ·subst hj;by_cases hi:i<δ.length
   ·rw[List.getElem?_set_self hi]at h;cases h
   ·rw[List.getElem?_eq_none (by simp;lia)]at h;cases h
  ·rw[List.getElem?_set_ne hj]at h;obtain⟨w,k1,k2,k3⟩:=r.own j ys h;exact⟨w,k1,by rw[List.getElem?_set_ne hj];exact k2,k3⟩
 ·have nj:i≠j:=fun z=>by
   subst z;by_cases hi:i<δ.length
   ·rw[List.getElem?_set_self hi]at h1;cases h1
   ·rw[List.getElem?_eq_none (by simp;lia)]at h1;cases h1
  have nl:i≠l:=fun z=>by
   subst z;by_cases hi:i<δ.length
   ·rw[List.getElem?_set_self hi]at h2;cases h2
   ·rw[List.getElem?_eq_none (by simp;lia)]at h2;cases h2
  rw[List.getElem?_set_ne nj]at h1 ⊢;rw[List.getElem?_set_ne nl]at h2 ⊢;exact r.apart j l ys zs hjl h1 h2
end
section
variable{X:Cx}{e:Expr}{f:Dv→Option PyData}{pos p:Pos}
theorem Ag{i:Nat}{x:Str}{pos':Pos}(hN:X.N.Nodup)(hi:X.N[i]? = some x)(hx:Loc X.env.scope x)(he:DE X e f)(hs:swapsWith e (some (.Name x pos')) pos.line X.env=pure false:=by rfl)(hf:X.fn x=true∨X.env.scope.names.lookup x=some .local:=by first|exact .inl rfl|exact .inr rfl|assumption) :
  DS X (.Assign [.Name x pos'] e pos) (fun δ=>(f δ).map fun y=>.nx (δ.set i (.d y))):=by
 obtain⟨t,p,k⟩:=he;refine⟨_,Dj hN hi hx p hs hf,fun δ r h G0 H0 G H σ D R q=>?_⟩;obtain⟨y,h1,rfl⟩:=aC.mp h;exact k δ y h1 G0 H0 G H σ [] _ R fun v G' H' R'=>q _ _ _ R'.Iy
end
section
variable{G0 H0 G H:Hp}{σ:St}{δ:Dv}{ts:List (PyData×V)}
theorem Rw.base(r:Rw G0 H0 G H σ δ ts):Rw G H0 G H σ δ ts:={r with ext:=AJ.refl G,new:=fun _ _ h=>.inl h}
theorem Nw.trans{G1 G2:Hp}(a:Nw G0 H0 G1)(b:Nw G1 H0 G2):Nw G0 H0 G2:=fun c o h=>by
 rcases b c o h with z|z|z
 ·exact a c o z
 ·exact .inr (.inl z)
 ·exact .inr (.inr z)
theorem Rw.Mi{G' H':Hp}{σ':St}{δ':Dv}{ts':List (PyData×V)}(r:Rw G0 H0 G H σ δ ts)(q:Rw G H0 G' H' σ' δ' ts'):Rw G0 H0 G' H' σ' δ' ts':={q with ext:=r.ext.trans q.ext,new:=r.new.trans q.new}
def DV(i:Nat)(δ:Dv):Dv:=match δ[i]? with
 |some (.own (.lst xs))=>δ.set i (.d (.list xs))
 |some (.own (.QC kvs))=>δ.set i (.d (O0 kvs))
 |_=>δ
theorem Rw.letGo{i:Nat}{c:Oc}{x:PyData}(r:Rw G0 H0 G H σ δ ts)(hi:δ[i]? = some (.own c))(hx:∀a o,G a=none→GB G a c o→Du (upd G a o) x (.ref a)):∃a o,σ[i]? = some (some (.ref a))∧G a=none∧H0 a=none∧H a=some o∧GB G a c o∧Rw G0 H0 (upd G a o) H σ (δ.set i (.d x)) ts:=by
 obtain⟨a,o,k1,k2,k3,k4,k5⟩:=r.own i _ hi;have e:AJ G (upd G a o):=BU k2 _;have hlt:i<δ.length:=(aG.mp hi).1;refine⟨a,o,k1,k2,k3,k4,k5,r.ext.trans e,fun b o' h=>?_,fun b o' h=>?_,r.keep,by simp[r.len],fun j y h=>?_,fun j zs h=>?_,fun j l us ws hjl h1 h2=>?_,fun q hq=>(r.A0 q hq).same e⟩
 ·by_cases hb:b=a
  ·subst hb;exact .inr (.inl k3)
  ·rw[AR hb]at h;exact r.new _ _ h
 ·by_cases hb:b=a
  ·subst hb;rw[AW]at h;rw[k4];exact h
  ·rw[AR hb]at h;exact r.ins _ _ h
 ·by_cases hj:i=j
  ·subst hj;rw[List.getElem?_set_self hlt]at h;cases h;exact⟨.ref a,k1,hx a o k2 k5⟩
  ·rw[List.getElem?_set_ne hj]at h;obtain⟨w,m1,m2⟩:=r.dat j y h;exact⟨w,m1,m2.same e⟩
 ·by_cases hj:i=j
  ·subst hj;rw[List.getElem?_set_self hlt]at h;cases h
  ·rw[List.getElem?_set_ne hj]at h;obtain⟨b,us,m1,m2,m3,m4,m5⟩:=r.own j zs h;have nb:b≠a:=fun z=>by subst z;exact r.apart i j _ zs hj hi h (by rw[k1,m1])
   exact⟨b,us,m1,by rw[AR nb];exact m2,m3,m4,m5.same e⟩
 ·have nj:i≠j:=fun z=>by subst z;rw[List.getElem?_set_self hlt]at h1;cases h1
  have nl:i≠l:=fun z=>by subst z;rw[List.getElem?_set_self hlt]at h2;cases h2
  rw[List.getElem?_set_ne nj]at h1;rw[List.getElem?_set_ne nl]at h2;exact r.apart j l us ws hjl h1 h2
theorem Yk{a:Addr}{o:HO}{xs:List PyData}(hG:G a=none)(h:GB G a (.lst xs) o):Du (upd G a o) (.list xs) (.ref a):=by
 obtain⟨ys,rfl,k5⟩:=h;rw[Du];exact⟨a,ys,rfl,AW,k5.same (BU hG _)⟩
theorem bK{a:Addr}{o:HO}{kvs:List (Option Tr×PyData)}(hG:G a=none)(h:GB G a (.QC kvs) o):Du (upd G a o) (O0 kvs) (.ref a):=by
 obtain⟨r,rfl,n,k5⟩:=h;rw[Du,IZ];exact .inr (.inr ⟨rfl,rfl,a,r,rfl,AW,n,JI.same (BU hG _) k5⟩)
theorem Rw.DV(i:Nat)(r:Rw G0 H0 G H σ δ ts):∃G',Rw G0 H0 G' H σ (L2.DV i δ) ts:=by
 unfold L2.DV;split
 ·rename_i xs hi;obtain⟨a,o,_,_,_,_,_,R⟩:=r.letGo (x:=.list xs) hi fun a o h=>Yk h;exact⟨_,R⟩
 ·rename_i kvs hi;obtain⟨a,o,_,_,_,_,_,R⟩:=r.letGo (x:=O0 kvs) hi fun a o h=>bK h;exact⟨_,R⟩
 ·exact⟨G,r⟩
theorem Rw.Mt{i:Nat}{xs:Oc}{ys:HO}{a:Addr}(r:Rw G0 H0 G H σ δ ts)(d:GB G a xs ys)(ha:H a=none):Rw G0 H0 G (upd H a ys) (σ.set i (some (.ref a))) (δ.set i (.own xs)) ts:=by
 have hG:G a=none:=by
  cases q:G a with
  |none=>rfl
  |some u=>rw[r.ins _ _ q]at ha;cases ha
 have h0:H0 a=none:=by
  cases q:H0 a with
  |none=>rfl
  |some u=>rw[r.keep _ _ q]at ha;cases ha
 have e:AJ H (upd H a ys):=BU ha _;have hl:=r.len;have other:∀(j:Nat) (zs:Oc),i≠j→(δ.set i (.own xs))[j]? = some (L.own zs)→δ[j]? = some (L.own zs):=fun j zs hj h=>by rw[List.getElem?_set_ne hj]at h;exact h
 have nota:∀(j:Nat) (zs:Oc),δ[j]? = some (L.own zs)→σ[j]?≠some (some (V.ref a)):=fun j zs h z=>by
  obtain⟨b,us,m1,m2,m3,m4,m5⟩:=r.own j zs h;rw[z]at m1;cases m1;rw[m4]at ha;cases ha
 refine⟨r.ext,r.new,r.ins.trans e,r.keep.trans e,by simp[hl],fun j y h=>?_,fun j zs h=>?_,fun j l us ws hjl h1 h2=>?_,r.A0⟩
 ·by_cases hj:i=j
  ·subst hj;by_cases hi:i<δ.length
   ·rw[List.getElem?_set_self hi]at h;cases h
   ·rw[List.getElem?_eq_none (by simp;lia)]at h;cases h
  ·rw[List.getElem?_set_ne hj]at h;obtain⟨w,m1,m2⟩:=r.dat j y h;exact⟨w,by rw[List.getElem?_set_ne hj];exact m1,m2⟩
 ·by_cases hj:i=j
  ·subst hj;by_cases hi:i<δ.length
   ·rw[List.getElem?_set_self hi]at h;cases h;exact⟨a,ys,by rw[List.getElem?_set_self (by lia)],hG,h0,AW,d⟩
   ·rw[List.getElem?_eq_none (by simp;lia)]at h;cases h
  ·have h:=other j zs hj h;obtain⟨b,us,m1,m2,m3,m4,m5⟩:=r.own j zs h;exact⟨b,us,by rw[List.getElem?_set_ne hj];exact m1,m2,m3,e _ _ m4,m5⟩
 ·by_cases hj:i=j
  ·subst hj;have hl2:i≠l:=hjl;have h2:=other l ws hl2 h2;by_cases hi:i<δ.length
   ·rw[List.getElem?_set_self (by lia),List.getElem?_set_ne hl2];exact fun z=>nota l ws h2 z.symm
   ·rw[List.getElem?_eq_none (by simp;lia)]at h1;cases h1
  ·have h1:=other j us hj h1;by_cases hk:i=l
   ·subst hk;by_cases hi:i<δ.length
    ·rw[List.getElem?_set_self (by lia),List.getElem?_set_ne hj];exact fun z=>nota j us h1 z
    ·rw[List.getElem?_eq_none (by simp;lia)]at h2;cases h2
   ·have h2:=other l ws hk h2;rw[List.getElem?_set_ne hj,List.getElem?_set_ne hk];exact r.apart j l us ws hjl h1 h2
theorem Rw.Ms{i:Nat}{xs xs':Oc}{ys:HO}{a:Addr}(r:Rw G0 H0 G H σ δ ts)(hi:δ[i]? = some (.own xs))(ha:σ[i]? = some (some (.ref a)))(d:GB G a xs' ys):Rw G0 H0 G (upd H a ys) σ (δ.set i (.own xs')) ts:=by
 obtain⟨a',ys0,k1,k2,k3,k4,k5⟩:=r.own i xs hi;rw[ha]at k1;cases k1;have hlt:i<δ.length:=(aG.mp hi).1;have hl:=r.len;refine⟨r.ext,r.new,fun b o h=>?_,fun b o h=>?_,by simp[hl],fun j y h=>?_,fun j zs h=>?_,fun j l us ws hjl h1 h2=>?_,r.A0⟩
 ·rw[AR (fun z=>by subst z;rw[k2]at h;cases h)];exact r.ins _ _ h
 ·rw[AR (fun z=>by subst z;rw[k3]at h;cases h)];exact r.keep _ _ h
 ·by_cases hj:i=j
  ·subst hj;rw[List.getElem?_set_self hlt]at h;cases h
  ·rw[List.getElem?_set_ne hj]at h;exact r.dat j y h
 ·by_cases hj:i=j
  ·subst hj;rw[List.getElem?_set_self hlt]at h;cases h;exact⟨a,ys,ha,k2,k3,AW,d⟩
  ·rw[List.getElem?_set_ne hj]at h;obtain⟨b,us,m1,m2,m3,m4,m5⟩:=r.own j zs h;have nb:b≠a:=fun z=>by subst z;exact r.apart i j xs zs hj hi h (by rw[ha,m1])
   exact⟨b,us,m1,m2,m3,by rw[AR nb];exact m4,m5⟩
 ·have f:∀(j:Nat) (us:Oc),(δ.set i (.own xs'))[j]? = some (L.own us)→∃us',δ[j]? = some (L.own us'):=fun j us h=>by
   by_cases hj:i=j
   ·subst hj;exact⟨xs,hi⟩
   ·rw[List.getElem?_set_ne hj]at h;exact⟨us,h⟩
  obtain⟨us',h1⟩:=f j us h1;obtain⟨ws',h2⟩:=f l ws h2;exact r.apart j l us' ws' hjl h1 h2
end
section
variable{X:Cx}{a b e:Expr}{es:List Expr}{f g h:Dv→Option PyData}{fs:Dv→Option (List PyData)}{pos p:Pos}{st:Stmt}{F:DF}
theorem GW(i:Nat)(h1:DS X st F):DS X st (fun δ=>F (DV i δ)):=by
 obtain⟨t,p,k⟩:=h1;refine⟨t,p,fun δ r h G0 H0 G H σ D R q=>?_⟩;obtain⟨G',R'⟩:=R.DV i;exact k _ r h G0 H0 G' H σ D R' q
theorem Mz{i:Nat}{x:Str}{pos' lp:Pos}(hN:X.N.Nodup)(hi:X.N[i]? = some x)(hx:Loc X.env.scope x)(ha:DA X es fs)(hs:swapsWith (.List es lp) (some (.Name x pos')) pos.line X.env=pure false:=by rfl)(hf:X.fn x=true∨X.env.scope.names.lookup x=some .local:=by first|exact .inl rfl|exact .inr rfl|assumption) :
  DS X (.Assign [.Name x pos'] (.List es lp) pos) (fun δ=>((fs δ).bind Bt).map fun ys=>.nx (δ.set i (.own (.lst ys)))):=by
 obtain⟨t,p,k⟩:=ha;refine⟨_,Dj hN hi hx (QF p) hs hf,fun δ r h G0 H0 G H σ D R q=>?_⟩;obtain⟨y,h1,rfl⟩:=aC.mp h;obtain⟨xs,h2,h3⟩:=aB.mp h1;obtain⟨rfl,hl⟩:=JY h3;refine k δ _ h2 G0 H0 G H σ [] _ R fun vs G1 H1 R1 hv=>?_;obtain⟨d,R2⟩:=R1.args hv;exact⟨Di (by rw[hv];exact hl),fun l hl'=>q _ _ _ (R2.Mt ⟨_,rfl,d⟩ hl')⟩
def ow(i:Nat)(δ:Dv):Option (List PyData):=match δ[i]? with
 |some (.own (.lst xs))=>some xs
 |_=>none
theorem Ia{i:Nat}{δ:Dv}{xs:List PyData}(h:ow i δ=some xs):δ[i]? = some (.own (.lst xs)):=by
 unfold ow at h;split at h
 ·rename_i y e;cases h;exact e
 ·cases h
theorem IL{i:Nat}{x:Str}{np ap cp:Pos}(hv:PE X (.Name x np) (F8 i))(he:DE X e f)
 (hP:∀ {to:TE} {t:TA},PE X (.Name x np) to→PA X [e] t→PS X (.Expr (.Call (.Attribute (.Name x np) "append" ap) [e] [] cp) pos) (Ot (ZC X.K "list" RB to t)))(hs1:starEach [e] X.env=(false,eval e X.env)::starEach [] X.env:=by rfl) :
  DS X (.Expr (.Call (.Attribute (.Name x np) "append" ap) [e] [] cp) pos) (fun δ=>(f δ).bind fun y=>(ow i δ).bind fun xs=>if xs.length<Co then some (.nx (δ.set i (.own (.lst (xs++[y]))))) else none):=by
 obtain⟨t,p,k⟩:=he;refine⟨_,hP hv (AL p AZ hs1),fun δ r h G0 H0 G H σ D R q=>?_⟩;obtain⟨y,h1,h2⟩:=aB.mp h;obtain⟨xs,h3,h4⟩:=aB.mp h2;split at h4
 ·rename_i hl;cases h4;have hi:=Ia h3;obtain⟨a,_,k1,k2,k3,k4,⟨ys,rfl,k5⟩⟩:=R.own i _ hi;refine⟨.ref a,k1,.inl ⟨rfl,ys,A3.of k4⟩,?_⟩;refine k δ y h1 G0 H0 G H σ [] _ R fun u G1 H1 R1=>?_;obtain⟨a',_,m1,m2,m3,m4,⟨zs,rfl,m5⟩⟩:=R1.own i _ hi;rw[k1]at m1;cases m1;refine⟨a,zs,u,rfl,rfl,m4,Ji (by rw[m5.len];lia),?_⟩;exact q _ _ _ (R1.drop.Ms hi k1 ⟨_,rfl,m5.app (.cons (R1.A0 _ (.head _)) .nil)⟩)
 ·cases h4
theorem OS{i:Nat}{x:Str}{np ap cp:Pos}(hv:PE X (.Name x np) (F8 i))(he:DE X e f)
 (hP:∀ {to:TE} {t:TA},PE X (.Name x np) to→PA X [e] t→PS X (.Expr (.Call (.Attribute (.Name x np) "extend" ap) [e] [] cp) pos) (Ot (ZC X.K "list" Q7 to t)))(hs1:starEach [e] X.env=(false,eval e X.env)::starEach [] X.env:=by rfl) :
  DS X (.Expr (.Call (.Attribute (.Name x np) "extend" ap) [e] [] cp) pos) (fun δ=>(f δ).bind fun y=>(ow i δ).bind fun xs=>match y with|.list zs=>(if xs.length+zs.length≤Co then some (.nx (δ.set i (.own (.lst (xs++zs))))) else none)|_=>none):=by
 obtain⟨t,p,k⟩:=he;refine⟨_,hP hv (AL p AZ hs1),fun δ r h G0 H0 G H σ D R q=>?_⟩;obtain⟨y,h1,h2⟩:=aB.mp h;obtain⟨xs,h3,h4⟩:=aB.mp h2;split at h4
 ·rename_i zs;split at h4
  ·rename_i hl;cases h4;have hi:=Ia h3;obtain⟨a,_,k1,k2,k3,k4,⟨ys,rfl,k5⟩⟩:=R.own i _ hi;refine⟨.ref a,k1,.inl ⟨rfl,ys,A3.of k4⟩,?_⟩;refine k δ _ h1 G0 H0 G H σ [] _ R fun u G1 H1 R1=>?_;obtain⟨a',_,m1,m2,m3,m4,⟨us,rfl,m5⟩⟩:=R1.own i _ hi;rw[k1]at m1;cases m1;have du:=R1.A0 _ (.head _);rw[Du]at du;obtain⟨b,ws,rfl,n1,n2⟩:=du;refine⟨a,b,us,ws,rfl,rfl,m4,R1.ins _ _ n1,Di (by rw[m5.len,n2.len];exact hl),?_⟩;exact q _ _ _ (R1.drop.Ms hi k1 ⟨_,rfl,m5.app n2⟩)
  ·cases h4
 ·cases h4
theorem OA{i:Nat}{x:Str}{np:Pos}(hv:PE X (.Name x np) (F8 i))(hg:Gl X "len")(hm:X.mg "len" = none)(hs1:starEach [.Name x np] X.env=(false,eval (.Name x np) X.env)::starEach [] X.env:=by rfl)(hpl:(backTo pos (starEach [] X.env)).any (·.1)=false:=by rfl) :
  DE X (.Call (.Name "len" p) [.Name x np] [] pos) (fun δ=>(ow i δ).map fun xs=>.int xs.length):=by
 refine⟨_,Au BQ hg hm aQ (AL hv AZ hs1) (by decide) (by decide) hs1 hpl,fun δ z hz G0 H0 G H σ ts Q R0 k=>?_⟩;obtain⟨xs,h1,rfl⟩:=aC.mp hz;obtain⟨a,_,k1,k2,k3,k4,⟨ys,rfl,k5⟩⟩:=R0.own i _ (Ia h1);refine⟨.ref a,k1,a,ys,rfl,.inl (A3.of k4),?_⟩;rw[k5.len];exact k _ _ _ (R0.put (by rw[Du]))
theorem MB{i:Nat}{x:Str}{np:Pos}(hv:PE X (.Name x np) (F8 i))(hb:DE X b g)(hs:LH b):DE X (.Subscript (.Name x np) b pos) (fun δ=>(g δ).bind fun y=>(ow i δ).bind fun xs=>(JO y).bind fun k=>ED xs k):=by
 obtain⟨tb,pb,kb⟩:=hb;refine⟨_,Cp LV hv pb hs,fun δ z hz G0 H0 G H σ ts Q R0 k=>?_⟩;obtain⟨y,h1,h2⟩:=aB.mp hz;obtain⟨xs,h3,h4⟩:=aB.mp h2;obtain⟨j,h5,h6⟩:=aB.mp h4;have:=Hw h5;subst this;obtain⟨a,_,k1,k2,k3,k4,⟨ys,rfl,k5⟩⟩:=R0.own i _ (Ia h3);refine⟨.ref a,k1,?_⟩;refine kb δ _ h1 G0 H0 G H σ ts _ R0 fun v G1 H1 R1=>?_;have dv:=R1.A0 _ (.head _);rw[Du]at dv;obtain⟨a',_,m1,m2,m3,m4,⟨us,rfl,m5⟩⟩:=R1.own i _ (Ia h3);rw[k1]at m1;cases m1;obtain⟨w,h7,h8⟩:=m5.ED h6;exact⟨a,us,j,w,rfl,dv,A3.of m4,h7,k _ _ _ (R1.drop.put h8)⟩
end
structure Gs(J:It)(xs:List PyData)(G:Hp):Prop where
 stop:∀H,AJ G H→J.stop xs.length H
 go:∀(i:Nat) (d:PyData) H,xs[i]? = some d→AJ G H→J.go i H
 Dm:∀(i:Nat) (d:PyData) H x H',xs[i]? = some d→AJ G H→J.Dm i H x H'→∀Gc,AJ G Gc→AJ Gc H→∃Gc',AJ Gc Gc'∧Nw Gc H Gc'∧AJ Gc' H'∧AJ H H'∧Du Gc' d x
theorem Nw.refl{G H:Hp}:Nw G H G:=fun _ _ h=>.inl h
theorem Xp{K:PySem.W.Frag}{G:Hp}{a:Addr}{ys:List V}{xs:List PyData}(ha:G a=some (.lst ys))(d:Ac G xs ys):Gs (Q4 K a) xs G where
 stop:=fun H e=>⟨ys,A3.of (e _ _ ha),by rw[d.len];exact aH _⟩
 go:=fun i x H hx e=>by
  obtain⟨v,h1,_⟩:=d.get hx;exact⟨ys,v,A3.of (e _ _ ha),h1⟩
 Dm:=fun i x H v H' hx e y Gc e1 e2=>by
  obtain⟨rfl,y⟩:=y;have h1:=y ys (A3.of (e _ _ ha));obtain⟨x',h2,h3⟩:=d.back h1;rw[hx]at h2;cases h2;exact⟨Gc,AJ.refl _,Nw.refl,e2,AJ.refl _,h3.same e1⟩
theorem bN{K:PySem.W.Frag}{G:Hp}{a:Addr}{ys:List V}{xs:List PyData}(ha:G a=some (.tup ys))(d:Ac G xs ys):Gs (Q5 K a) xs G where
 stop:=fun H e=>⟨ys,A9.of (e _ _ ha),by rw[d.len];exact aH _⟩
 go:=fun i x H hx e=>by
  obtain⟨v,h1,_⟩:=d.get hx;exact⟨ys,v,A9.of (e _ _ ha),h1⟩
 Dm:=fun i x H v H' hx e y Gc e1 e2=>by
  obtain⟨rfl,y⟩:=y;have h1:=y ys (A9.of (e _ _ ha));obtain⟨x',h2,h3⟩:=d.back h1;rw[hx]at h2;cases h2;exact⟨Gc,AJ.refl _,Nw.refl,e2,AJ.refl _,h3.same e1⟩
def El(lo:Int)(n:Nat):List PyData:=(List.range n).map fun k=>.int (lo+(k:Nat))
theorem Y6{G:Hp}{lo:Int}{n:Nat}:Gs (WM lo n) (El lo n) G where
 stop:=fun H e=>by show n≤_;simp[El]
 go:=fun i x H hx e=>by
  have:=(aG.mp hx).1;show i<n
  simpa[El]using this
 Dm:=fun i x H v H' hx e y Gc e1 e2=>by
  obtain⟨rfl,rfl⟩:=y;unfold El at hx;rw[List.getElem?_map]at hx;obtain⟨k,h1,rfl⟩:=aC.mp hx;have hk:k=i:=by
   have:=(aG.mp h1).1;rw[List.getElem?_range (by simpa using this)]at h1;cases h1;rfl
  subst hk;exact⟨Gc,AJ.refl _,Nw.refl,e2,AJ.refl _,by rw[Du]⟩
theorem MZ{Gc H:Hp}{p:Addr}{d1 d2:PyData}{v1 v2:V}(e2:AJ Gc H)(hp:H p=none)(h1:Du Gc d1 v1)(h2:Du Gc d2 v2) :
  ∃Gc',AJ Gc Gc'∧Nw Gc H Gc'∧AJ Gc' (upd H p (.tup [v1,v2]))∧AJ H (upd H p (.tup [v1,v2]))∧Du Gc' (.tuple [d1,d2]) (.ref p):=by
 have hG:Gc p=none:=by
  cases q:Gc p with
  |none=>rfl
  |some u=>rw[e2 _ _ q]at hp;cases hp
 have e:AJ Gc (upd Gc p (.tup [v1,v2])):=BU hG _;refine⟨upd Gc p (.tup [v1,v2]),e,fun a o h=>?_,fun a o h=>?_,BU hp _,?_⟩
 ·by_cases ha:a=p
  ·subst ha;exact .inr (.inl hp)
  ·rw[AR ha]at h;exact .inl h
 ·by_cases ha:a=p
  ·subst ha;rw[AW]at h ⊢;exact h
  ·rw[AR ha]at h ⊢;exact e2 _ _ h
 ·rw[Du];exact⟨p,[v1,v2],rfl,AW,.cons (h1.same e) (.cons (h2.same e) .nil)⟩
def IV(xs:List PyData):List PyData:=xs.zipIdx.map fun q=>.tuple [.int (q.2:Nat),q.1]
theorem IP{xs:List PyData}{i:Nat}{d:PyData}(h:(IV xs)[i]? = some d):∃x,xs[i]? = some x∧d=.tuple [.int (i:Nat),x]:=by
 unfold IV at h;rw[List.getElem?_map]at h;obtain⟨q,h1,rfl⟩:=aC.mp h;rw[List.getElem?_zipIdx]at h1;obtain⟨x,h2,rfl⟩:=aC.mp h1;exact⟨x,h2,by simp⟩
theorem Vi{K:PySem.W.Frag}{G:Hp}{a:Addr}{ys:List V}{xs:List PyData}(ha:G a=some (.tup ys))(d:Ac G xs ys):Gs (ZW K a) (IV xs) G where
 stop:=fun H e=>⟨ys,A9.of (e _ _ ha),by rw[d.len];simp[IV]⟩
 go:=fun i x H hx e=>by
  obtain⟨x',h0,rfl⟩:=IP hx;obtain⟨v,h1,_⟩:=d.get h0;exact⟨ys,v,A9.of (e _ _ ha),h1⟩
 Dm:=fun i x H v H' hx e y Gc e1 e2=>by
  obtain⟨x',h0,rfl⟩:=IP hx;obtain⟨p,u,rfl,hp,rfl,y⟩:=y;have h1:=y ys (A9.of (e _ _ ha));obtain⟨x2,h2,h3⟩:=d.back h1;rw[h0]at h2;cases h2;exact MZ e2 hp (by rw[Du]) (h3.same e1)
theorem VP{K:PySem.W.Frag}{G:Hp}{a:Addr}{ys:List V}{xs:List PyData}(ha:G a=some (.lst ys))(d:Ac G xs ys):Gs (RS K a) (IV xs) G where
 stop:=fun H e=>⟨ys,A3.of (e _ _ ha),by rw[d.len];simp[IV]⟩
 go:=fun i x H hx e=>by
  obtain⟨x',h0,rfl⟩:=IP hx;obtain⟨v,h1,_⟩:=d.get h0;exact⟨ys,v,A3.of (e _ _ ha),h1⟩
 Dm:=fun i x H v H' hx e y Gc e1 e2=>by
  obtain⟨x',h0,rfl⟩:=IP hx;obtain⟨p,u,rfl,hp,rfl,y⟩:=y;have h1:=y ys (A3.of (e _ _ ha));obtain⟨x2,h2,h3⟩:=d.back h1;rw[h0]at h2;cases h2;exact MZ e2 hp (by rw[Du]) (h3.same e1)
def Gh(xs ys:List PyData):List PyData:=(xs.zip ys).map fun q=>.tuple [q.1,q.2]
theorem L8{xs ys:List PyData}{i:Nat}{d:PyData}(h:(Gh xs ys)[i]? = some d):∃x y,xs[i]? = some x∧ys[i]? = some y∧d=.tuple [x,y]:=by
 unfold Gh at h;rw[List.getElem?_map]at h;obtain⟨q,h1,rfl⟩:=aC.mp h;obtain⟨k1,k2⟩:=List.getElem?_zip_eq_some.mp h1;exact⟨q.1,q.2,k1,k2,rfl⟩
theorem Z2{G:Hp}{b1 b2:Bool}{a1 a2:Addr}{us vs:List V}{xs ys:List PyData}(h1:G a1=some (if b1 then .tup us else .lst us))(h2:G a2=some (if b2 then .tup vs else .lst vs))(d1:Ac G xs us)(d2:Ac G ys vs):Gs (YI b1 b2 a1 a2) (Gh xs ys) G where
 stop:=fun H e=>by
  have k1:=e _ _ h1;have k2:=e _ _ h2;refine⟨us,vs,?_,?_,?_⟩
  ·cases b1<;>simpa[EL]using k1
  ·cases b2<;>simpa[EL]using k2
  ·rw[d1.len,d2.len];simp[Gh];lia
 go:=fun i x H hx e=>by
  obtain⟨x1,x2,k1,k2,rfl⟩:=L8 hx;obtain⟨v1,k3,_⟩:=d1.get k1;obtain⟨v2,k4,_⟩:=d2.get k2;have m1:=e _ _ h1;have m2:=e _ _ h2;refine⟨us,v1,vs,v2,?_,?_,k3,k4⟩
  ·cases b1<;>simpa[EL]using m1
  ·cases b2<;>simpa[EL]using m2
 Dm:=fun i x H v H' hx e y Gc e1 e2=>by
  obtain⟨x1,x2,k1,k2,rfl⟩:=L8 hx;obtain⟨p,v1,v2,rfl,hp,rfl,y1,y2⟩:=y;have m1:=e _ _ h1;have m2:=e _ _ h2;have z1:=y1 us (by cases b1<;>simpa[EL]using m1);have z2:=y2 vs (by cases b2<;>simpa[EL]using m2);obtain⟨w1,n1,n2⟩:=d1.back z1;obtain⟨w2,n3,n4⟩:=d2.back z2;rw[k1]at n1;cases n1;rw[k2]at n3;cases n3;exact MZ e2 hp (n2.same e1) (n4.same e1)
def DI(X:Cx)(tg iter:Expr)(f:Dv→Option (List PyData)):Prop:=∃wi,PI X tg iter wi∧∀δ xs,f δ=some xs→∀G0 H0 G H σ ts (R:It→Hp→Prop),Rw G0 H0 G H σ δ ts→(∀J G' H',Rw G0 H0 G' H' σ δ ts→Gs J xs G'→R J H')→wi σ H R
section
variable{X:Cx}{tg a b e:Expr}{f g h:Dv→Option PyData}{fs:Dv→Option (List PyData)}{pos p:Pos}{sts:List Stmt}{F:DF}
theorem PI.or{wi wi':TI}(h:PI X tg e wi)(h':PI X tg e wi'):PI X tg e (fun σ H R=>wi σ H R∨wi' σ H R):=fun pins s σ H R I q=>by
 rcases q with q|q
 ·exact h pins s σ H R I q
 ·exact h' pins s σ H R I q
def HE:PyData→Option (List PyData)
 |.list xs=>some xs
 |.tuple xs=>some xs
 |_=>none
theorem D3(he:DE X e f):DI X tg e (fun δ=>(f δ).bind HE):=by
 obtain⟨t,p,k⟩:=he;refine⟨_,(Na p).or (TJ p),fun δ xs h G0 H0 G H σ ts R R0 q=>?_⟩;obtain⟨x,h1,h2⟩:=aB.mp h;unfold HE at h2;split at h2
 ·cases h2
  left
  refine k δ _ h1 G0 H0 G H σ ts _ R0 fun v G' H' R'=>?_;have du:=R'.A0 _ (.head _);rw[Du]at du;obtain⟨a,ys,rfl,n1,n2⟩:=du;exact⟨a,rfl,⟨ys,A3.of (R'.ins _ _ n1)⟩,q _ _ _ R'.drop (Xp n1 n2)⟩
 ·cases h2
  right
  refine k δ _ h1 G0 H0 G H σ ts _ R0 fun v G' H' R'=>?_;have du:=R'.A0 _ (.head _);rw[Du]at du;obtain⟨a,ys,rfl,n1,n2⟩:=du;exact⟨a,rfl,⟨ys,A9.of (R'.ins _ _ n1)⟩,q _ _ _ R'.drop (bN n1 n2)⟩
 ·cases h2
def Gf:List PyData→Option (List PyData)
 |[.int j]=>if -1000000≤j∧j≤1000000 then some (El 0 j.toNat) else none
 |_=>none
theorem GN(hg:Gl X "range")(hm:X.mg "range" = none)(ha:DA X [a] fs)(hs:starEach [a] X.env=[(false,eval a X.env)]:=by rfl):DI X tg (.Call (.Name "range" p) [a] [] pos) (fun δ=>(fs δ).bind Gf):=by
 obtain⟨t,p,k⟩:=ha;refine⟨_,Ub hg hm p hs,fun δ xs h G0 H0 G H σ ts R R0 q=>?_⟩;obtain⟨x,h1,h2⟩:=aB.mp h;refine k δ _ h1 G0 H0 G H σ ts _ R0 fun vs G' H' R' hv=>?_;obtain⟨d,R2⟩:=R'.args hv;unfold Gf at h2;split at h2
 ·split at h2
  ·cases h2;obtain⟨u,rfl,du⟩:=d.JV;rw[Du]at du;subst du;exact⟨_,rfl,by lia,by lia,q _ _ _ R2 Y6⟩
  ·cases h2
 ·cases h2
def Sa:List PyData→Option (List PyData)
 |[.list xs]=>some (IV xs)
 |[.tuple xs]=>some (IV xs)
 |_=>none
theorem Xv{elts:List Expr}{x1}{tpos:Pos}(hg:Gl X "enumerate")(hm:X.mg "enumerate" = none)(ha:DA X [a] fs)(hs:starEach [a] X.env=[(false,eval a X.env)]:=by rfl):DI X (.Tuple elts x1 tpos) (.Call (.Name "enumerate" p) [a] [] pos) (fun δ=>(fs δ).bind Sa):=by
 obtain⟨t,p,k⟩:=ha;refine⟨_,(MY hg hm p hs).or (XQ hg hm p hs),fun δ xs h G0 H0 G H σ ts R R0 q=>?_⟩;obtain⟨x,h1,h2⟩:=aB.mp h;unfold Sa at h2;split at h2
 ·cases h2
  left
  refine k δ _ h1 G0 H0 G H σ ts _ R0 fun vs G' H' R' hv=>?_;obtain⟨d,R2⟩:=R'.args hv;obtain⟨u,rfl,du⟩:=d.JV;rw[Du]at du;obtain⟨a,ys,rfl,n1,n2⟩:=du;exact⟨a,rfl,⟨ys,A3.of (R2.ins _ _ n1)⟩,q _ _ _ R2 (VP n1 n2)⟩
 ·cases h2
  right
  refine k δ _ h1 G0 H0 G H σ ts _ R0 fun vs G' H' R' hv=>?_;obtain⟨d,R2⟩:=R'.args hv;obtain⟨u,rfl,du⟩:=d.JV;rw[Du]at du;obtain⟨a,ys,rfl,n1,n2⟩:=du;exact⟨a,rfl,⟨ys,A9.of (R2.ins _ _ n1)⟩,q _ _ _ R2 (Vi n1 n2)⟩
 ·cases h2
def zip2:List PyData→Option (List PyData)
 |[x,y]=>(HE x).bind fun xs=>(HE y).map fun ys=>Gh xs ys
 |_=>none
theorem UN{G:Hp}{x:PyData}{v:V}{xs:List PyData}(h:Du G x v)(e:HE x=some xs):∃(b:Bool) (a:Addr) (ys:List V),v=.ref a∧G a=some (if b then .tup ys else .lst ys)∧Ac G xs ys:=by
 unfold HE at e;split at e
 ·cases e;rw[Du]at h;obtain⟨a,ys,rfl,n1,n2⟩:=h;exact⟨false,a,ys,rfl,n1,n2⟩
 ·cases e;rw[Du]at h;obtain⟨a,ys,rfl,n1,n2⟩:=h;exact⟨true,a,ys,rfl,n1,n2⟩
 ·cases e
theorem UD{elts:List Expr}{x1}{tpos:Pos}(hg:Gl X "zip")(hm:X.mg "zip" = none)(ha:DA X [a,b] fs)(hs:starEach [a,b] X.env=[(false,eval a X.env),(false,eval b X.env)]:=by rfl)(hs2:starEach [b] X.env=[(false,eval b X.env)]:=by rfl) :
  DI X (.Tuple elts x1 tpos) (.Call (.Name "zip" p) [a,b] [] pos) (fun δ=>(fs δ).bind zip2):=by
 obtain⟨t,p,k⟩:=ha;refine⟨_,YS hg hm p hs hs2,fun δ xs h G0 H0 G H σ ts R R0 q=>?_⟩;obtain⟨x,h1,h2⟩:=aB.mp h;refine k δ _ h1 G0 H0 G H σ ts _ R0 fun vs G' H' R' hv=>?_;obtain⟨d,R2⟩:=R'.args hv;unfold zip2 at h2;split at h2
 ·obtain⟨xs1,h3,h4⟩:=aB.mp h2;obtain⟨ys1,h5,rfl⟩:=aC.mp h4;obtain⟨u,v,rfl,du,dv⟩:=d.WT;obtain⟨b1,a1,us,rfl,n1,n2⟩:=UN du h3;obtain⟨b2,a2,ws,rfl,m1,m2⟩:=UN dv h5;have s1:=R2.ins _ _ n1;have s2:=R2.ins _ _ m1;exact⟨b1,b2,a1,a2,rfl,⟨us,by cases b1<;>simpa[EL]using s1⟩,⟨ws,by cases b2<;>simpa[EL]using s2⟩,q _ _ _ R2 (Z2 n1 m1 n2 m2)⟩
 ·cases h2
def DG(X:Cx)(tg:Expr)(set:PyData→Dv→Option Dv):Prop:=∃g,PG X tg g∧∀δ x δ',set x δ=some δ'→∀G0 H0 G H σ v (Q:St→Hp→Prop),Rw G0 H0 G H σ δ [(x,v)]→(∀σ' G' H',Rw G0 H0 G' H' σ' δ' []→Q σ' H')→g v σ H Q
theorem JL{i:Nat}{x:Str}(h:PG X (.Name x pos) (Fj i)):DG X (.Name x pos) (fun y δ=>some (δ.set i (.d y))) :=
 ⟨_,h,fun δ y δ' e G0 H0 G H σ v Q R k=>by cases e;exact k _ _ _ R.Iy⟩
def EJ(i j:Nat)(y:PyData)(δ:Dv):Option Dv:=match y with
 |.tuple [u,v]=>some ((δ.set i (.d u)).set j (.d v))
 |_=>none
theorem Pt{x y:Str}{i j:Nat}{px py:Pos}{k1}(h:PG X (.Tuple [.Name x px,.Name y py] k1 pos) (U3 X.K 2 (Me (Fj i) (Me (Fj j) Vq)))):DG X (.Tuple [.Name x px,.Name y py] k1 pos) (EJ i j):=by
 refine⟨_,h,fun δ z δ' e G0 H0 G H σ v Q R k=>?_⟩;unfold EJ at e;split at e
 ·cases e;have du:=R.A0 _ (.head _);rw[Du]at du;obtain⟨a,ys,rfl,n1,n2⟩:=du;obtain⟨w1,w2,rfl,m1,m2⟩:=n2.WT;refine⟨a,[w1,w2],rfl,A9.of (R.ins _ _ n1),rfl,w1,[w2],rfl,w2,[],rfl,rfl,?_⟩;exact k _ _ _ (((R.drop.put m2).put m1).Iy.Iy)
 ·cases e
def JA(set:PyData→Dv→Option Dv)(body:DF):List PyData→Dv→Option Ou
 |[],δ=>some (.nx δ)
 |x::xs,δ=>match (set x δ).bind body with
  |some (.nx δ')=>JA set body xs δ'
  |some (.ct δ')=>JA set body xs δ'
  |some (.bk δ')=>some (.nx δ')
  |some (.rt v)=>some (.rt v)
  |some (.rn v)=>some (.rn v)
  |none=>none
theorem Hm{set:PyData→Dv→Option Dv}(hp:PassesOwn (model X.prog X.w) X.A X.env X.xe)(hc:X.calm=true)(hi:DI X tg e fs)(hg:DG X tg set)(hb:Li X sts F)(hs:∀x,foldedSetIterable e X.env x=pure x:=by intro _;rfl) :
  DS X (.For tg e sts [] pos) (fun δ=>(fs δ).bind fun xs=>JA set F xs δ):=by
 obtain⟨wi,pi,ki⟩:=hi;obtain⟨g,pg,kg⟩:=hg;obtain⟨tb,pb,kb⟩:=hb;refine⟨_,JU hp hc pi pg pb hs,fun δ r h G0 H0 G H σ D R q=>?_⟩;obtain⟨xs,h1,h2⟩:=aB.mp h;refine ki δ xs h1 G0 H0 G H σ [] _ R fun J Ga Ha Ra it=>?_;refine⟨fun i m σ' H'=>m=xs.length-i∧i≤xs.length∧∃δ' G',JA set F (xs.drop i) δ'=some r∧Rw G0 H0 G' H' σ' δ' []∧AJ Ga G',⟨xs.length,by simp,Nat.zero_le _,δ,Ga,by simpa using h2,Ra,AJ.refl _⟩,?_⟩;rintro i m σ1 H1 ⟨rfl,hi,δ1,G1,f1,R1,s1⟩;have sH:AJ Ga H1:=s1.trans R1.ins;by_cases hlt:i<xs.length
 ·right
  have hx:xs[i]? = some xs[i]:=by simp[hlt]
  refine⟨it.go i _ H1 hx sH,fun σ' H'=>i+1≤xs.length∧∃δ' G',JA set F (xs.drop (i+1)) δ'=some r∧Rw G0 H0 G' H' σ' δ' []∧AJ Ga G',fun σ' H' n=>⟨xs.length-(i+1),by lia,rfl,n⟩,fun x H' y=>?_⟩;obtain⟨G2,e1,e2,e3,e4,e5⟩:=it.Dm i _ H1 x H' hx sH y G1 s1 R1.ins;have R2:=(R1.lift e1 e2 e3 e4).put e5;have s2:=s1.trans e1;rw[List.drop_eq_getElem_cons hlt]at f1;unfold JA at f1;cases hb2:(set xs[i] δ1).bind F with
  |none=>rw[hb2]at f1;cases f1
  |some o =>
   obtain⟨δ2,k1,k2⟩:=aB.mp hb2;rw[hb2]at f1;have R2b:=R2.base;refine kg δ1 _ δ2 k1 G2 H0 G2 H' σ1 x _ R2b fun σ3 G3 H3 R3=>?_;refine kb δ2 o k2 G2 H0 G3 H3 σ3 _ R3 ?_;cases o with
   |nx δ3=>exact fun σ4 G4 H4 R4=>⟨hlt,δ3,G4,f1,R2.drop.Mi R4,s2.trans R4.ext⟩
   |ct δ3=>exact fun σ4 G4 H4 R4=>⟨hlt,δ3,G4,f1,R2.drop.Mi R4,s2.trans R4.ext⟩
   |bk δ3=>cases f1;exact fun σ4 G4 H4 R4=>q σ4 G4 H4 (R2.drop.Mi R4)
   |rt v=>cases f1;exact fun w G4 H4 h1 h2 h3 h4 h5=>q w G4 H4 (R2.ext.trans h1) (R2.new.trans h2) h3 h4 h5
   |rn v=>cases f1;exact fun w ys G4 H4 h1 h2=>q w ys G4 H4 (R2.ext.trans h1) (R2.new.trans h2)
 ·left
  have e:i=xs.length:=by lia
  subst e;refine⟨it.stop H1 sH,?_⟩;rw[List.drop_length]at f1;unfold JA at f1;cases f1;exact q _ _ _ R1
end
def tD(f:Dv→Option PyData):TE:=fun σ H Q=>∃δ x G0 H0 G ts,f δ=some x∧Rw G0 H0 G H σ δ ts∧∀v G' H',Rw G0 H0 G' H' σ δ ((x,v)::ts)→Q v H'
def QM(f:Dv→Option Bool):TT:=fun σ H Q=>∃δ x G0 H0 G ts,f δ=some x∧Rw G0 H0 G H σ δ ts∧∀G' H',Rw G0 H0 G' H' σ δ ts→Q x H'
theorem DE.pe{X:Cx}{e:Expr}{f:Dv→Option PyData}(h:DE X e f):PE X e (tD f):=by
 obtain⟨t,p,k⟩:=h;intro pins s σ H Q I q;obtain⟨δ,x,G0,H0,G,ts,h1,h2,h3⟩:=q;exact p pins s σ H Q I (k δ x h1 G0 H0 G H σ ts Q h2 h3)
theorem DT.pt{X:Cx}{e:Expr}{f:Dv→Option Bool}(h:DT X e f):PT X e (QM f):=by
 obtain⟨t,p,k⟩:=h;intro pins s σ H Q I q;obtain⟨δ,x,G0,H0,G,ts,h1,h2,h3⟩:=q;exact p pins s σ H Q I (k δ x h1 G0 H0 G H σ ts Q h2 h3)
def OT(X:Cx)(ifs:List Expr)(f:Dv→Option Bool):Prop:=KD X ifs (QM f)
theorem C9{X:Cx}:OT X [] (fun _=>some true):=by
 intro pins s σ H Q I q;obtain⟨δ,x,G0,H0,G,ts,h1,h2,h3⟩:=q;cases h1;exact XE pins s σ H Q I (h3 _ _ h2)
theorem XD{X:Cx}{c:Expr}{f:Dv→Option Bool}(h:DT X c f):OT X [c] f:=Xf h.pt
def Bh(fr:List (Option Nat))(δ:Dv):Dv:=fr.map fun o=>match o with
 |some j=>(match δ[j]? with|some (.d x)=>.d x|_=>.no)
 |none=>.no
theorem Rw.inner{G0 H0 G H:Hp}{σ:St}{δ:Dv}{ts:List (PyData×V)}(fr:List (Option Nat))(r:Rw G0 H0 G H σ δ ts):Rw G H G H (carry fr σ) (Bh fr δ) ts:=by
 have key:∀(i:Nat) (l:L),(Bh fr δ)[i]? = some l→∃o,fr[i]? = some o∧l=(match o with|some j=>(match δ[j]? with|some (.d x)=>.d x|_=>.no)|none=>.no):=fun i l h=>by
  unfold Bh at h;rw[List.getElem?_map]at h;obtain⟨o,h1,rfl⟩:=aC.mp h;exact⟨o,h1,rfl⟩
 have noown:∀(i:Nat) (xs:Oc),(Bh fr δ)[i]?≠some (L.own xs):=fun i xs h=>by
  obtain⟨o,_,h2⟩:=key i _ h;split at h2
  ·split at h2<;>cases h2
  ·cases h2
 refine⟨AJ.refl _,Nw.refl,r.ins,AJ.refl _,by simp[carry,Bh],fun i x h=>?_,fun i xs h=>absurd h (noown i xs),fun i j xs ys _ h=>absurd h (noown i xs),r.A0⟩;obtain⟨o,h1,h2⟩:=key i _ h;split at h2
 ·rename_i j;split at h2
  ·rename_i y hy;cases h2;obtain⟨v,k1,k2⟩:=r.dat j _ hy;refine⟨v,?_,k2⟩;unfold carry;rw[List.getElem?_map,h1];simp[k1]
  ·cases h2
 ·cases h2
theorem Rw.other{G0 H0 G H:Hp}{σ:St}{δ:Dv}{ts:List (PyData×V)}{D:Addr}{o:HO}(r:Rw G0 H0 G H σ δ ts)(hG:G D=none)(h0:H0 D=none)(ho:∀(i:Nat) (xs:Oc),δ[i]? = some (L.own xs)→σ[i]?≠some (some (V.ref D))):Rw G0 H0 G (upd H D o) σ δ ts:=by
 refine⟨r.ext,r.new,fun a u h=>?_,fun a u h=>?_,r.len,r.dat,fun i xs h=>?_,r.apart,r.A0⟩
 ·rw[AR (fun z=>by subst z;rw[hG]at h;cases h)];exact r.ins _ _ h
 ·rw[AR (fun z=>by subst z;rw[h0]at h;cases h)];exact r.keep _ _ h
 ·obtain⟨a,ys,k1,k2,k3,k4,k5⟩:=r.own i xs h;exact⟨a,ys,k1,k2,k3,by rw[AR (fun z=>by subst z;exact ho i xs h k1)];exact k4,k5⟩
theorem Rw.adopt{G0 H0 G H:Hp}{σ:St}{δ:Dv}{ts:List (PyData×V)}{D:Addr}{ys:List V}(r:Rw G0 H0 G H σ δ ts)(hD:H D=some (.lst ys))(hG:G D=none)(h0:H0 D=none)(ho:∀(i:Nat) (xs:Oc),δ[i]? = some (L.own xs)→σ[i]?≠some (some (V.ref D))):Rw G0 H0 (upd G D (.lst ys)) H σ δ ts:=by
 have e:AJ G (upd G D (.lst ys)):=BU hG _;refine⟨r.ext.trans e,fun a u h=>?_,fun a u h=>?_,r.keep,r.len,fun i x h=>?_,fun i xs h=>?_,r.apart,fun q hq=>(r.A0 q hq).same e⟩
 ·by_cases ha:a=D
  ·subst ha;exact .inr (.inl h0)
  ·rw[AR ha]at h;exact r.new _ _ h
 ·by_cases ha:a=D
  ·subst ha;rw[AW]at h;rw[hD];exact h
  ·rw[AR ha]at h;exact r.ins _ _ h
 ·obtain⟨v,k1,k2⟩:=r.dat i x h;exact⟨v,k1,k2.same e⟩
 ·obtain⟨a,zs,k1,k2,k3,k4,k5⟩:=r.own i xs h;have ha:a≠D:=fun z=>by subst z;exact ho i xs h k1
  exact⟨a,zs,k1,by rw[AR ha];exact k2,k3,k4,k5.same e⟩
def F7(set:PyData→Dv→Option Dv)(tif:Dv→Option Bool)(f:Dv→Option PyData)(δ:Dv)(x:PyData):Option (Option PyData) :=
 (set x δ).bind fun δ1=>(tif δ1).bind fun b=>if b=true then(f δ1).map some else some none
def collect(one:PyData→Option (Option PyData)):List PyData→Option (List PyData)
 |[]=>some []
 |x::xs=>(one x).bind fun o=>(collect one xs).map fun r=>o.toList++r
def Ee(set:PyData→Dv→Option Dv)(tif:Dv→Option Bool)(f:Dv→Option PyData)(fr:List (Option Nat))(fs:Dv→Option (List PyData))(δ:Dv):Option (List PyData) :=
 (fs δ).bind fun xs=>(collect (F7 set tif f (Bh fr δ)) xs).bind Bt
def Cb(set:PyData→Dv→Option Dv)(tif:Dv→Option Bool)(f:Dv→Option PyData)(fr:List (Option Nat))(fs:Dv→Option (List PyData))(δ:Dv):Option PyData :=
 (Ee set tif f fr fs δ).map .list
structure NG(G0 H0 Ga:Hp)(σ:St)(δ:Dv)(ts:List (PyData×V))(one:PyData→Option (Option PyData))(xs full:List PyData)(D:Addr)(i:Nat)(ys:List V)(H:Hp):Prop where
 ex:∃G done rest,Rw G0 H0 G H σ δ ts∧AJ Ga G∧G D=none∧collect one (xs.drop i)=some rest∧done++rest=full∧Ac G done ys
 h0:H0 D=none
 ap:∀(j:Nat) (us:Oc),δ[j]? = some (L.own us)→σ[j]?≠some (some (V.ref D))
theorem Jk{G0 H0 G H:Hp}{D:Addr}{ys:List V}(hG:G0 D=none)(hD:H0 D=some (.lst ys))(n:Nw G0 H0 G)(e:AJ G H)(k:AJ H0 H):G D=none:=by
 cases q:G D with
 |none=>rfl
 |some o =>
  rcases n _ _ q with z|z|⟨us,z⟩
  ·rw[hG]at z;cases z
  ·rw[hD]at z;cases z
  ·have:=e _ _ q;rw[k _ _ hD,z]at this;cases this
section
variable{X:Cx}{elt iter:Expr}{x y:Str}{px pos:Pos}{ifs:List Expr}{scope:Scope}{fs:Dv→Option (List PyData)}{tif:Dv→Option Bool}{f:Dv→Option PyData}
def CD(i:Nat)(y:PyData)(δ:Dv):Option Dv:=some (δ.set i (.d y))
theorem Jv{wi:TI}{ix:Nat}{fr:List (Option Nat)}(ki:∀(δ:Dv) (xs:List PyData),fs δ=some xs→∀(G0 H0 G H:Hp) (σ:St) (ts:List (PyData×V)) (R:It→Hp→Prop),Rw G0 H0 G H σ δ ts→(∀J G' H',Rw G0 H0 G' H' σ δ ts→Gs J xs G'→R J H')→wi σ H R){δ:Dv}{zs:List PyData}(hz:Ee (CD ix) tif f fr fs δ=some zs){G0 H0 G H:Hp}{σ:St}{ts:List (PyData×V)}{Q:VK}(R0:Rw G0 H0 G H σ δ ts)(k:∀D ys G' H',Rw G0 H0 G' H' σ δ ts→H' D=some (.lst ys)→G' D=none→H0 D=none→(∀(j:Nat) (us:Oc),δ[j]? = some (L.own us)→σ[j]?≠some (some (V.ref D)))→Ac G' zs ys→Q (.ref D) H') :
  Jm wi fr ix (QM tif) (tD f) σ H Q:=by
 unfold Ee at hz;obtain⟨xs,m2,m3⟩:=aB.mp hz;obtain⟨full,m4,m5⟩:=aB.mp m3;obtain⟨rfl,hfew⟩:=JY m5;refine ki δ xs m2 G0 H0 G H σ ts _ R0 fun J Ga Ha Ra it D hD=>?_;have hGD:Ga D=none:=by
  cases q:Ga D with
  |none=>rfl
  |some u=>rw[Ra.ins _ _ q]at hD;cases hD
 have hHD:H0 D=none:=by
  cases q:H0 D with
  |none=>rfl
  |some u=>rw[Ra.keep _ _ q]at hD;cases hD
 have hap:∀(j:Nat) (us:Oc),δ[j]? = some (L.own us)→σ[j]?≠some (some (V.ref D)):=fun j us h z=>by
  obtain⟨a,ys,k1,k2,k3,k4,k5⟩:=Ra.own j us h;rw[z]at k1;cases k1;rw[k4]at hD;cases hD
 refine Q9 (n:=xs.length) (NG G0 H0 Ga σ δ ts (F7 (CD ix) tif f (Bh fr δ)) xs full D) ⟨⟨Ga,[],full,Ra.other hGD hHD hap,AJ.refl _,hGD,by simpa using m4,rfl,.nil⟩,hHD,hap⟩ ?_ ?_
 ·rintro i ys H1 hlt ⟨⟨G1,done,rest,R1,s1,g1,c1,e1,d1⟩,_,_⟩ hD1;have hx:xs[i]? = some xs[i]:=by simp[hlt]
  have sH:=s1.trans R1.ins;have hyl:ys.length<sizeLine:=Ji (by
   rw[d1.len];have:done.length≤full.length:=by rw[←e1];simp
   lia)
  refine⟨it.go i _ H1 hx sH,hyl,fun v H' y=>?_⟩;obtain⟨G2,n1,n2,n3,n4,n5⟩:=it.Dm i _ H1 v H' hx sH y G1 s1 R1.ins;have R2:=R1.lift n1 n2 n3 n4;have hD2:=n4 _ _ hD1;have g2:G2 D=none:=Jk g1 hD1 n2 n3 n4;rw[List.drop_eq_getElem_cons hlt]at c1;unfold collect at c1;obtain⟨o,c2,c3⟩:=aB.mp c1;obtain⟨rest',c4,rfl⟩:=aC.mp c3;unfold F7 CD at c2;simp only[Option.bind_some]at c2;obtain⟨b,c5,c6⟩:=aB.mp c2;have Ri:=((R2.inner fr).put n5).Iy (i:=ix);have Ri0:Rw G2 H' G2 H' ((carry fr σ).set ix (some v)) ((Bh fr δ).set ix (.d xs[i])) []:=Ri.less fun q hq=>by cases hq
  refine⟨_,b,G2,H',G2,[],c5,Ri0,fun G3 H3 R3=>?_⟩;have R3o:=R2.lift R3.ext R3.new R3.ins R3.keep;have hD3:=R3.keep _ _ hD2;have g3:G3 D=none:=Jk g2 hD2 R3.new R3.ins R3.keep;dsimp only;split
  ·rename_i hb;rw[if_pos hb]at c6;obtain⟨w,c7,rfl⟩:=aC.mp c6;refine⟨_,w,G2,H',G3,[],c7,R3,fun u G4 H4 R4=>?_⟩;have R4o:=R2.lift R4.ext R4.new R4.ins R4.keep;have hD4:=R4.keep _ _ hD2;have g4:G4 D=none:=Jk g2 hD2 R4.new R4.ins R4.keep;refine⟨hD4,ND hlt ⟨⟨G4,done++[w],rest',R4o.other g4 hHD hap,s1.trans (n1.trans R4.ext),g4,c4,by simpa using e1,(d1.same (n1.trans R4.ext)).app (.cons (R4.A0 _ (.head _)) .nil)⟩,hHD,hap⟩⟩
  ·rename_i hb;rw[if_neg hb]at c6;cases c6;exact NO hlt hD3 ⟨⟨G3,done,rest',R3o,s1.trans (n1.trans R3.ext),g3,c4,by simpa using e1,d1.same (n1.trans R3.ext)⟩,hHD,hap⟩
 ·rintro ys H1 ⟨⟨G1,done,rest,R1,s1,g1,c1,e1,d1⟩,_,_⟩ hD1;refine⟨it.stop H1 (s1.trans R1.ins),?_⟩;rw[List.drop_length]at c1;cases c1;rw[List.append_nil]at e1;subst e1;exact k _ _ _ _ R1 hD1 g1 hHD hap d1
theorem N4{wi:TI}{ix:Nat}{fr:List (Option Nat)}(ki:∀(δ:Dv) (xs:List PyData),fs δ=some xs→∀(G0 H0 G H:Hp) (σ:St) (ts:List (PyData×V)) (R:It→Hp→Prop),Rw G0 H0 G H σ δ ts→(∀J G' H',Rw G0 H0 G' H' σ δ ts→Gs J xs G'→R J H')→wi σ H R){δ:Dv}{z:PyData}(hz:Cb (CD ix) tif f fr fs δ=some z){G0 H0 G H:Hp}{σ:St}{ts:List (PyData×V)}{Q:VK}(R0:Rw G0 H0 G H σ δ ts)(k:∀v G' H',Rw G0 H0 G' H' σ δ ((z,v)::ts)→Q v H') :
  Jm wi fr ix (QM tif) (tD f) σ H Q:=by
 unfold Cb at hz;obtain⟨full,m1,rfl⟩:=aC.mp hz;refine Jv ki m1 R0 fun D ys G1 H1 R1 hD1 g1 hHD hap d1=>?_;have e:AJ G1 (upd G1 D (.lst ys)):=BU g1 _;have R2:=R1.adopt hD1 g1 hHD hap;refine k _ _ _ (R2.put ?_);rw[Du];exact⟨D,ys,rfl,AW,d1.same e⟩
theorem JT(N:List Str)(ix:Nat)(fr:List (Option Nat))(hi:DI X (.Name x px) iter fs)(hif:∀cl C s₀ H₀ fp,OT (Ai X scope cl N C s₀ H₀ fp) ifs tif)(he:∀cl C s₀ H₀ fp,DE (Ai X scope cl N C s₀ H₀ fp) elt f)
 (h1:Bd scope N x ix=true:=by decide +kernel)(h2:X.calm=true:=by rfl)(h3:Dg N X.N scope X.env.scope fr 0=true:=by rfl)(h4:fr.length=N.length:=by rfl)(h5:freeOk X.env.scope scope.names=true:=by rfl)
 (hs:∀x,foldedSetIterable iter X.env x=pure x:=by intro _;rfl):DE X (.ListComp elt [⟨.Name x px,iter,ifs,0⟩] scope pos) (Cb (CD ix) tif f fr fs):=by
 obtain⟨wi,pi,ki⟩:=hi;exact⟨_,Ma N ix fr pi hif (fun cl C s₀ H₀ fp=>(he cl C s₀ H₀ fp).pe) h1 h2 h3 h4 h5 hs,fun δ z hz G0 H0 G H σ ts Q R0 k=>N4 ki hz R0 k⟩
theorem Mp{i:Nat}{z:Str}{pz spos:Pos}(N:List Str)(ix:Nat)(fr:List (Option Nat))(hN:X.N.Nodup)(hy:X.N[i]? = some z)(hly:X.env.scope.names.lookup z=some .local)(hi:DI X (.Name x px) iter fs)(hif:∀cl C s₀ H₀ fp,OT (Ai X scope cl N C s₀ H₀ fp) ifs tif)(he:∀cl C s₀ H₀ fp,DE (Ai X scope cl N C s₀ H₀ fp) elt f)
 (h1:Bd scope N x ix=true:=by decide +kernel)(h2:X.calm=true:=by rfl)(h3:Dg N X.N scope X.env.scope fr 0=true:=by rfl)(h4:fr.length=N.length:=by rfl)(h5:freeOk X.env.scope scope.names=true:=by rfl)
 (hsw:swapsWith (.ListComp elt [⟨.Name x px,iter,ifs,0⟩] scope pos) (some (.Name z pz)) spos.line X.env=pure true:=by rfl)
 (hs:∀x,foldedSetIterable iter X.env x=pure x:=by intro _;rfl):DS X (.Assign [.Name z pz] (.ListComp elt [⟨.Name x px,iter,ifs,0⟩] scope pos) spos) (fun δ=>(Cb (CD ix) tif f fr fs δ).map fun y=>.nx (δ.set i (.d y))):=by
 obtain⟨wi,pi,ki⟩:=hi;refine⟨_,Lv N ix fr hN hy hly pi hif (fun cl C s₀ H₀ fp=>(he cl C s₀ H₀ fp).pe) h1 h2 h3 h4 h5 hsw hs,fun δ r h G0 H0 G H σ D R q=>?_⟩;obtain⟨y,h1,rfl⟩:=aC.mp h;exact N4 ki h1 R fun v G' H' R'=>q _ _ _ R'.Iy
end
section
variable{X:Cx}{elt iter:Expr}{x y:Str}{px py tp pos:Pos}{tk:Nat}{ifs:List Expr}{scope:Scope}{fs:Dv→Option (List PyData)}{tif:Dv→Option Bool}{f:Dv→Option PyData}
theorem Ql{wi:TI}{ix iy:Nat}{fr:List (Option Nat)}(ki:∀(δ:Dv) (xs:List PyData),fs δ=some xs→∀(G0 H0 G H:Hp) (σ:St) (ts:List (PyData×V)) (R:It→Hp→Prop),Rw G0 H0 G H σ δ ts→(∀J G' H',Rw G0 H0 G' H' σ δ ts→Gs J xs G'→R J H')→wi σ H R){δ:Dv}{zs:List PyData}(hz:Ee (EJ ix iy) tif f fr fs δ=some zs){G0 H0 G H:Hp}{σ:St}{ts:List (PyData×V)}{Q:VK}(R0:Rw G0 H0 G H σ δ ts)(k:∀D ys G' H',Rw G0 H0 G' H' σ δ ts→H' D=some (.lst ys)→G' D=none→H0 D=none→(∀(j:Nat) (us:Oc),δ[j]? = some (L.own us)→σ[j]?≠some (some (V.ref D)))→Ac G' zs ys→Q (.ref D) H') :
  Mx X.K wi fr ix iy (QM tif) (tD f) σ H Q:=by
 unfold Ee at hz;obtain⟨xs,m2,m3⟩:=aB.mp hz;obtain⟨full,m4,m5⟩:=aB.mp m3;obtain⟨rfl,hfew⟩:=JY m5;refine ki δ xs m2 G0 H0 G H σ ts _ R0 fun J Ga Ha Ra it D hD=>?_;have hGD:Ga D=none:=by
  cases q:Ga D with
  |none=>rfl
  |some u=>rw[Ra.ins _ _ q]at hD;cases hD
 have hHD:H0 D=none:=by
  cases q:H0 D with
  |none=>rfl
  |some u=>rw[Ra.keep _ _ q]at hD;cases hD
 have hap:∀(j:Nat) (us:Oc),δ[j]? = some (L.own us)→σ[j]?≠some (some (V.ref D)):=fun j us h z=>by
  obtain⟨a,ys,k1,k2,k3,k4,k5⟩:=Ra.own j us h;rw[z]at k1;cases k1;rw[k4]at hD;cases hD
 refine VR (n:=xs.length) (NG G0 H0 Ga σ δ ts (F7 (EJ ix iy) tif f (Bh fr δ)) xs full D) ⟨⟨Ga,[],full,Ra.other hGD hHD hap,AJ.refl _,hGD,by simpa using m4,rfl,.nil⟩,hHD,hap⟩ ?_ ?_
 ·rintro i ys H1 hlt ⟨⟨G1,done,rest,R1,s1,g1,c1,e1,d1⟩,_,_⟩ hD1;have hx:xs[i]? = some xs[i]:=by simp[hlt]
  have sH:=s1.trans R1.ins;have hyl:ys.length<sizeLine:=Ji (by
   rw[d1.len];have:done.length≤full.length:=by rw[←e1];simp
   lia)
  refine⟨it.go i _ H1 hx sH,hyl,fun v H' y=>?_⟩;obtain⟨G2,n1,n2,n3,n4,n5⟩:=it.Dm i _ H1 v H' hx sH y G1 s1 R1.ins;have R2:=R1.lift n1 n2 n3 n4;have hD2:=n4 _ _ hD1;have g2:G2 D=none:=Jk g1 hD1 n2 n3 n4;rw[List.drop_eq_getElem_cons hlt]at c1;unfold collect at c1;obtain⟨o,c2,c3⟩:=aB.mp c1;obtain⟨rest',c4,rfl⟩:=aC.mp c3;unfold F7 at c2;obtain⟨δ1,c8,c9⟩:=aB.mp c2;obtain⟨b,c5,c6⟩:=aB.mp c9;unfold EJ at c8;split at c8
  ·rename_i u1 u2 hu;cases c8;rw[hu,Du]at n5;obtain⟨pa,ps,rfl,q1,q2⟩:=n5;obtain⟨w1,w2,rfl,q3,q4⟩:=q2.WT;have Ri:=(((R2.inner fr).put q4).put q3).Iy (i:=ix) |>.Iy (i:=iy)
   have Ri0:Rw G2 H' G2 H' (((carry fr σ).set ix (some w1)).set iy (some w2)) (((Bh fr δ).set ix (.d u1)).set iy (.d u2)) []:=Ri.less fun q hq=>by cases hq
   refine⟨pa,w1,w2,rfl,A9.of (n3 _ _ q1),?_⟩;refine⟨_,b,G2,H',G2,[],c5,Ri0,fun G3 H3 R3=>?_⟩;have R3o:=R2.lift R3.ext R3.new R3.ins R3.keep;have hD3:=R3.keep _ _ hD2;have g3:G3 D=none:=Jk g2 hD2 R3.new R3.ins R3.keep;dsimp only;split
   ·rename_i hb;rw[if_pos hb]at c6;obtain⟨w,c7,rfl⟩:=aC.mp c6;refine⟨_,w,G2,H',G3,[],c7,R3,fun u G4 H4 R4=>?_⟩;have R4o:=R2.lift R4.ext R4.new R4.ins R4.keep;have hD4:=R4.keep _ _ hD2;have g4:G4 D=none:=Jk g2 hD2 R4.new R4.ins R4.keep;refine⟨hD4,ND hlt ⟨⟨G4,done++[w],rest',R4o.other g4 hHD hap,s1.trans (n1.trans R4.ext),g4,c4,by simpa using e1,(d1.same (n1.trans R4.ext)).app (.cons (R4.A0 _ (.head _)) .nil)⟩,hHD,hap⟩⟩
   ·rename_i hb;rw[if_neg hb]at c6;cases c6;exact NO hlt hD3 ⟨⟨G3,done,rest',R3o,s1.trans (n1.trans R3.ext),g3,c4,by simpa using e1,d1.same (n1.trans R3.ext)⟩,hHD,hap⟩
  ·cases c8
 ·rintro ys H1 ⟨⟨G1,done,rest,R1,s1,g1,c1,e1,d1⟩,_,_⟩ hD1;refine⟨it.stop H1 (s1.trans R1.ins),?_⟩;rw[List.drop_length]at c1;cases c1;rw[List.append_nil]at e1;subst e1;exact k _ _ _ _ R1 hD1 g1 hHD hap d1
theorem SE{wi:TI}{ix iy:Nat}{fr:List (Option Nat)}(ki:∀(δ:Dv) (xs:List PyData),fs δ=some xs→∀(G0 H0 G H:Hp) (σ:St) (ts:List (PyData×V)) (R:It→Hp→Prop),Rw G0 H0 G H σ δ ts→(∀J G' H',Rw G0 H0 G' H' σ δ ts→Gs J xs G'→R J H')→wi σ H R){δ:Dv}{z:PyData}(hz:Cb (EJ ix iy) tif f fr fs δ=some z){G0 H0 G H:Hp}{σ:St}{ts:List (PyData×V)}{Q:VK}(R0:Rw G0 H0 G H σ δ ts)(k:∀v G' H',Rw G0 H0 G' H' σ δ ((z,v)::ts)→Q v H') :
  Mx X.K wi fr ix iy (QM tif) (tD f) σ H Q:=by
 unfold Cb at hz;obtain⟨full,m1,rfl⟩:=aC.mp hz;refine Ql ki m1 R0 fun D ys G1 H1 R1 hD1 g1 hHD hap d1=>?_;have e:AJ G1 (upd G1 D (.lst ys)):=BU g1 _;have R2:=R1.adopt hD1 g1 hHD hap;refine k _ _ _ (R2.put ?_);rw[Du];exact⟨D,ys,rfl,AW,d1.same e⟩
theorem P7(N:List Str)(ix iy:Nat)(fr:List (Option Nat))(hi:DI X (.Tuple [.Name x px,.Name y py] tk tp) iter fs)(hif:∀cl C s₀ H₀ fp,OT (Ai X scope cl N C s₀ H₀ fp) ifs tif)(he:∀cl C s₀ H₀ fp,DE (Ai X scope cl N C s₀ H₀ fp) elt f)
 (h1:Bd scope N x ix=true:=by decide +kernel)(h1':Bd scope N y iy=true:=by decide +kernel)(hxy:ix≠iy:=by decide)(h2:X.calm=true:=by rfl)(h3:Dg N X.N scope X.env.scope fr 0=true:=by rfl)(h4:fr.length=N.length:=by rfl)(h5:freeOk X.env.scope scope.names=true:=by rfl)
 (hs:∀x,foldedSetIterable iter X.env x=pure x:=by intro _;rfl):DE X (.ListComp elt [⟨.Tuple [.Name x px,.Name y py] tk tp,iter,ifs,0⟩] scope pos) (Cb (EJ ix iy) tif f fr fs):=by
 obtain⟨wi,pi,ki⟩:=hi;exact⟨_,US N ix iy fr pi hif (fun cl C s₀ H₀ fp=>(he cl C s₀ H₀ fp).pe) h1 h1' hxy h2 h3 h4 h5 hs,fun δ z hz G0 H0 G H σ ts Q R0 k=>SE ki hz R0 k⟩
def Gb(N:List Str)(ds:List PyData):Dv:=ds.map .d++List.replicate (N.length-ds.length) .no
def Cy(ps N:List Str)(F:DF)(ds:List PyData):Option PyData:=if ds.length=ps.length then(match F (Gb N ds) with
 |some (.rt x)=>some x
 |some (.nx _)=>some .none
 |some (.rn xs)=>some (.list xs)
 |_=>none) else none
theorem Rw.start{N:List Str}{ds:List PyData}{vs:List V}{G H:Hp}(d:Ac G ds vs)(e:AJ G H):Rw G H G H (start N vs) (Gb N ds) []:=by
 have hl:=d.len;refine⟨AJ.refl _,Nw.refl,e,AJ.refl _,by simp[L2.start,Gb,hl],fun i x h=>?_,fun i xs h=>?_,fun i j xs ys _ h=>?_,fun q hq=>by cases hq⟩
 ·unfold Gb at h;by_cases hi:i<ds.length
  ·rw[List.getElem?_append_left (by simpa using hi),List.getElem?_map]at h;obtain⟨y,h1,h2⟩:=aC.mp h;cases h2;obtain⟨v,h3,h4⟩:=d.get h1;refine⟨v,?_,h4⟩;unfold L2.start;rw[List.getElem?_append_left (by simp;lia),List.getElem?_map,h3];rfl
  ·rw[List.getElem?_append_right (by simpa using hi),List.getElem?_replicate]at h;split at h<;>cases h
 ·unfold Gb at h;by_cases hi:i<ds.length
  ·rw[List.getElem?_append_left (by simpa using hi),List.getElem?_map]at h;obtain⟨y,h1,h2⟩:=aC.mp h;cases h2
  ·rw[List.getElem?_append_right (by simpa using hi),List.getElem?_replicate]at h;split at h<;>cases h
 ·unfold Gb at h;by_cases hi:i<ds.length
  ·rw[List.getElem?_append_left (by simpa using hi),List.getElem?_map]at h;obtain⟨y,h1,h2⟩:=aC.mp h;cases h2
  ·rw[List.getElem?_append_right (by simpa using hi),List.getElem?_replicate]at h;split at h<;>cases h
theorem WO{G H G' H':Hp}{a:Addr}{ys:List V}{xs:List PyData}(m1:AJ G G')(m2:Nw G H G')(m3:AJ G' H')(m5:H a=none)(m6:G' a=none)(m7:H' a=some (.lst ys))(m8:Ac G' xs ys) :
  AJ G (upd G' a (.lst ys))∧Nw G H (upd G' a (.lst ys))∧AJ (upd G' a (.lst ys)) H'∧Du (upd G' a (.lst ys)) (.list xs) (.ref a):=by
 refine⟨m1.trans (BU m6 _),fun b o hb=>?_,fun b o hb=>?_,?_⟩
 ·by_cases z:b=a
  ·subst z;exact .inr (.inl m5)
  ·rw[AR z]at hb;exact m2 _ _ hb
 ·by_cases z:b=a
  ·subst z;rw[AW]at hb;rw[m7];exact hb
  ·rw[AR z]at hb;exact m3 _ _ hb
 ·rw[Du];exact⟨a,ys,rfl,AW,m8.same (BU m6 _)⟩
theorem HA{P:Program}{w:World}{K:PySem.W.Frag}{mg:Str→Option Value}{base:Heap}{x:Str}{st:Stmt}{fA:Addr}{fd:FuncData}{N ps:List Str}{k:Nat}{F:DF}(T:Fn K mg x st ps fA fd)(S:Af N ps (AO st))
 (hb:∀(cdv:Value) (A:Around) (outer:List Env) (s:Shared) (H:Hp) (E:XK),CM k (A.deeper (envOfC x (AO st) s.heap.objs.size fA cdv))→Li (B4 A2 P w K mg base N x (AO st) fA cdv A outer s H E).GR (Cs st) F) :
  AM P w K mg base A2 (k+1) fA fd ps (Bu (Cy ps N F)):=by
 refine T.F.ok S (fun vs H Q E h=>?_) fun cdv A outer s H vs Q E hr h=>?_
 ·obtain⟨ds,y,G,h1,h2,_⟩:=h;unfold Cy at h1;split at h1
  ·rename_i hl;rw[h2.len];exact hl
  ·cases h1
 ·obtain⟨ds,y,G,h1,h2,h3,h4⟩:=h;obtain⟨t,p,kk⟩:=hb cdv A outer s H E hr;refine⟨t,p,?_⟩;unfold Cy at h1;split at h1
  ·split at h1
   ·rename_i z e1;cases h1;exact kk _ _ e1 G H G H _ _ (Rw.start h2 h3) fun v G' H' m1 m2 m3 m4 m5=>h4 v G' H' m1 m2 m3 m4 m5
   ·rename_i δ e1;cases h1;exact kk _ _ e1 G H G H _ _ (Rw.start h2 h3) fun σ' G' H' R=>h4 .BR G' H' R.ext R.new R.ins R.keep (by rw[Du])
   ·rename_i xs e1;cases h1;exact kk _ _ e1 G H G H _ _ (Rw.start h2 h3) fun a ys G' H' m1 m2 m3 m4 m5 m6 m7 m8=>let⟨n1,n2,n3,n4⟩:=WO m1 m2 m3 m5 m6 m7 m8;h4 _ _ H' n1 n2 n3 m4 n4
   ·cases h1
  ·cases h1
end
section
variable{X:Cx}{tg a e:Expr}{f g h:Dv→Option PyData}{pos p p2:Pos}   
theorem Yr{set:PyData→Dv→Option Dv}(he:DE X e f)(hg:DG X tg set)(hs:swapsWithSole [tg] e pos.line X.env=pure false:=by rfl)(hw:swappedStores [tg] e X.env=pure none:=by rfl)
 (h1:(assignEach [tg] X.env).map (·.2)=[assign tg X.env]:=by rfl):DS X (.Assign [tg] e pos) (fun δ=>(f δ).bind fun y=>(set y δ).map .nx):=by
 obtain⟨t,p,k⟩:=he;obtain⟨g,pg,kg⟩:=hg;refine⟨_,JG p pg hs hw h1,fun δ r h G0 H0 G H σ D R q=>?_⟩;obtain⟨y,m1,m2⟩:=aB.mp h;obtain⟨δ',m3,rfl⟩:=aC.mp m2;exact k δ y m1 G0 H0 G H σ [] _ R fun v G' H' R'=>kg δ y δ' m3 G0 H0 G' H' σ v _ R' q
def DO(X:Cx)(o:Option Expr)(f:Dv→Option (Option Int)):Prop:=∃t,PO X o t∧∀δ x,f δ=some x→∀G0 H0 G H σ ts (Q:Option Int→Hp→Prop),Rw G0 H0 G H σ δ ts→(∀G' H',Rw G0 H0 G' H' σ δ ts→Q x H')→t σ H Q
variable{fo fu:Dv→Option (Option Int)}{lo hi:Option Expr}
theorem LI:DO X none (fun _=>some none):=⟨_,XS,fun δ x h G0 H0 G H σ ts Q r k=>by cases h;exact k _ _ r⟩
theorem LM(he:DE X e f):DO X (some e) (fun δ=>(f δ).bind fun x=>(JO x).map some):=by
 obtain⟨t,p,k⟩:=he;refine⟨_,W4 p,fun δ z h G0 H0 G H σ ts Q r q=>?_⟩;obtain⟨x,h1,h2⟩:=aB.mp h;obtain⟨i,h3,rfl⟩:=aC.mp h2;have:=Hw h3;subst this;refine k δ _ h1 G0 H0 G H σ ts _ r fun v G' H' R'=>?_;have hv:=R'.A0 _ (.head _);rw[Du]at hv;exact⟨i,hv,q _ _ R'.drop⟩
def cutD(xs:List PyData)(lo hi:Option Int):List PyData:=(xs.drop (HT.BJ xs.length 0 lo)).take (HT.BJ xs.length xs.length hi-HT.BJ xs.length 0 lo)
theorem Ac.cut{H:Hp}{ds:List PyData}{xs:List V}(h:Ac H ds xs)(lo hi:Option Int):Ac H (cutD ds lo hi) (Kz xs lo hi):=by
 unfold cutD Kz;rw[h.len];exact(h.drop _).take _
def Su(x:PyData)(lo hi:Option Int):Option PyData:=match x with
 |.list xs=>some (.list (cutD xs lo hi))
 |.tuple xs=>if ¬(HT.BJ xs.length 0 lo=0∧HT.BJ xs.length xs.length hi=xs.length) then some (.tuple (cutD xs lo hi)) else none
 |_=>none
theorem Jt(he:DE X e f)(hl:DO X lo fo)(hh:DO X hi fu):DE X (.Subscript e (.Slice lo hi none p2) pos) (fun δ=>(f δ).bind fun x=>(fo δ).bind fun l=>(fu δ).bind fun u=>Su x l u):=by
 obtain⟨te,pe,ke⟩:=he;obtain⟨tl,pl,kl⟩:=hl;obtain⟨th,ph,kh⟩:=hh;refine⟨_,VV (Xu.or YX) pe pl ph,fun δ z hz G0 H0 G H σ ts Q R0 k=>?_⟩;obtain⟨x,h1,h2⟩:=aB.mp hz;obtain⟨l,h3,h4⟩:=aB.mp h2;obtain⟨u,h5,h6⟩:=aB.mp h4;refine ke δ x h1 G0 H0 G H σ ts _ R0 fun v G1 H1 R1=>?_;refine kl δ l h3 G0 H0 G1 H1 σ _ _ R1 fun G2 H2 R2=>?_;refine kh δ u h5 G0 H0 G2 H2 σ _ _ R2 fun G3 H3 R3=>?_;have du:=R3.A0 _ (.head _);unfold Su at h6;split at h6
 ·cases h6;rw[Du]at du;obtain⟨a,ys,rfl,n1,n2⟩:=du;exact .inl ⟨a,ys,rfl,A3.of (R3.ins _ _ n1),fun q hq=>k _ _ _ (R3.drop.NT (n2.cut l u) hq)⟩
 ·split at h6
  ·rename_i hc;cases h6;rw[Du]at du;obtain⟨a,ys,rfl,n1,n2⟩:=du;exact .inr ⟨a,ys,rfl,A9.of (R3.ins _ _ n1),by rw[n2.len];exact hc,fun q hq=>k _ _ _ (R3.drop.SK (n2.cut l u) hq)⟩
  ·cases h6
 ·cases h6
end
open PySem
abbrev fC(x:PyData):Dv→Option PyData:=fun _=>some x
abbrev Sh(f:Dv→Option PyData):Dv→Option PyData:=fun δ=>(f δ).bind fun x=>(JO x).map fun i=>.int (-i)
abbrev dk(c:Dv→Option Bool)(f g:Dv→Option PyData):Dv→Option PyData:=fun δ=>(c δ).bind fun c=>if c=true then f δ else g δ
abbrev AF:Dv→Option (List PyData):=fun _=>some []
abbrev AB(f:Dv→Option PyData)(fs:Dv→Option (List PyData)):Dv→Option (List PyData):=fun δ=>(f δ).bind fun x=>(fs δ).map fun xs=>x::xs
abbrev A1(fs:Dv→Option (List PyData)):Dv→Option PyData:=fun δ=>((fs δ).bind Bt).map .tuple
abbrev A8(fs:Dv→Option (List PyData)):Dv→Option PyData:=fun δ=>((fs δ).bind Bt).map .list
abbrev AY(m:List PyData→Option PyData)(fs:Dv→Option (List PyData)):Dv→Option PyData:=fun δ=>(fs δ).bind m
abbrev eK(q:PyData→Bool)(f:Dv→Option PyData):Dv→Option PyData:=fun δ=>(f δ).bind (Rp q)
abbrev RL(i:Nat):Dv→Option PyData:=fun δ=>(ow i δ).map fun xs=>.int xs.length
abbrev JK(i:Nat)(g:Dv→Option PyData):Dv→Option PyData:=fun δ=>(g δ).bind fun y=>(ow i δ).bind fun xs=>(JO y).bind fun k=>ED xs k
abbrev M9:Dv→Option (Option Int):=fun _=>some none
abbrev M5(f:Dv→Option PyData):Dv→Option (Option Int):=fun δ=>(f δ).bind fun x=>(JO x).map some
abbrev QL(f:Dv→Option PyData)(fo fu:Dv→Option (Option Int)):Dv→Option PyData:=fun δ=>(f δ).bind fun x=>(fo δ).bind fun l=>(fu δ).bind fun u=>Su x l u
abbrev He(f:Dv→Option PyData):Dv→Option Bool:=fun δ=>(f δ).bind OL
abbrev Bi(o:PyData→PyData→Option PyData)(f g:Dv→Option PyData):Dv→Option Bool:=fun δ=>(AK o f g δ).bind OL
abbrev Ir(f:Dv→Option Bool):Dv→Option Bool:=fun δ=>(f δ).map fun c=>!c
abbrev Rm(f g:Dv→Option Bool):Dv→Option Bool:=fun δ=>(f δ).bind fun c=>if c=true then g δ else some false
abbrev QX(f g:Dv→Option Bool):Dv→Option Bool:=fun δ=>(f δ).bind fun c=>if c=true then some true else g δ
abbrev ER(f:Dv→Option PyData):Dv→Option (List PyData):=fun δ=>(f δ).bind HE
abbrev Eh(m:List PyData→Option (List PyData))(fs:Dv→Option (List PyData)):Dv→Option (List PyData):=fun δ=>(fs δ).bind m
abbrev DP:Dv→Option Bool:=fun _=>some true
abbrev K6(i:Nat):PyData→Dv→Option Dv:=fun y δ=>some (δ.set i (.d y))
abbrev CP:DF:=fun δ=>some (.nx δ)
abbrev B5(f:Dv→Option PyData):DF:=fun δ=>(f δ).map .rt
abbrev EM(c:Dv→Option Bool)(F G:DF):DF:=fun δ=>(c δ).bind fun c=>if c=true then F δ else G δ
abbrev Ao(i:Nat)(f:Dv→Option PyData):DF:=fun δ=>(f δ).map fun y=>.nx (δ.set i (.d y))
abbrev Nb(i:Nat)(fs:Dv→Option (List PyData)):DF:=fun δ=>((fs δ).bind Bt).map fun ys=>.nx (δ.set i (.own (.lst ys)))
abbrev O8(i:Nat)(f:Dv→Option PyData):DF:=fun δ=>(f δ).bind fun y=>(ow i δ).bind fun xs=>if xs.length<Co then some (.nx (δ.set i (.own (.lst (xs++[y]))))) else none
abbrev VE(i:Nat)(f:Dv→Option PyData):DF:=fun δ=>(f δ).bind fun y=>(ow i δ).bind fun xs=>match y with|.list zs=>(if xs.length+zs.length≤Co then some (.nx (δ.set i (.own (.lst (xs++zs))))) else none)|_=>none
abbrev fK(f:Dv→Option PyData)(set:PyData→Dv→Option Dv):DF:=fun δ=>(f δ).bind fun y=>(set y δ).map .nx
abbrev FX(fs:Dv→Option (List PyData))(set:PyData→Dv→Option Dv)(F:DF):DF:=fun δ=>(fs δ).bind fun xs=>JA set F xs δ
abbrev Js(i:Nat)(F:DF):DF:=fun δ=>F (DV i δ)
abbrev bo:DF:=fun δ=>some (.ct δ)
theorem Kq{P:Program}{w:World}{K:PySem.W.Frag}{mg:Str→Option Value}{base:Heap}{CX:Fs}{k:Nat}{f:Addr}{fd:FuncData}{ps:List Str}{sp:Sp}(h:∀vs H Q E,¬sp vs H Q E):AM P w K mg base CX k f fd ps sp :=
 ⟨fun _ _ _ _ z=>(h _ _ _ _ z).elim,fun _ _ _ _ _ _ _ _ _ _ _ _ _ z=>(h _ _ _ _ z).elim⟩
theorem Rc{P:Program}{w:World}{K:PySem.W.Frag}{mg:Str→Option Value}{base:Heap}{CX:Fs}{k:Nat}{f:Addr}{fd:FuncData}{ps:List Str}{sp:Sp}{m:List PyData→Option PyData}(F:AM P w K mg base CX k f fd ps sp)
 (h:∀ds x,m ds=some x→∀(G H:Hp) (vs:List V) (Q:VK) (E:XK),Ac G ds vs→AJ G H→(∀v G' H',AJ G G'→Nw G H G'→AJ G' H'→AJ H H'→Du G' x v→Q v H')→sp vs H Q E):AM P w K mg base CX k f fd ps (Bu m) :=
 F.imp fun vs H Q E z=>by
  obtain⟨ds,x,G,h1,h2,h3,h4⟩:=z;exact h ds x h1 G H vs Q E h2 h3 h4
def Bm(G H:Hp):Hp:=fun a=>match H a with
 |some (.tup xs)=>some (.tup xs)
 |_=>G a
section
variable{G0 H0 G H:Hp}{σ:St}{δ:Dv}{ts:List (PyData×V)}
theorem Rw.Bm(r:Rw G0 H0 G H σ δ ts):Rw G0 H0 (L2.Bm G H) H σ δ ts:=by
 have e:AJ G (L2.Bm G H):=fun a o h=>by
  unfold L2.Bm;split
  ·rename_i xs hx;rw[r.ins _ _ h]at hx;exact hx.symm ▸ rfl
  ·exact h
 refine⟨r.ext.trans e,fun a o h=>?_,fun a o h=>?_,r.keep,r.len,fun i x h=>?_,fun i xs h=>?_,r.apart,fun q hq=>(r.A0 q hq).same e⟩
 ·unfold L2.Bm at h;split at h
  ·cases h;exact .inr (.inr ⟨_,rfl⟩)
  ·exact r.new _ _ h
 ·unfold L2.Bm at h;split at h
  ·rename_i xs hx;rw[hx];exact h
  ·exact r.ins _ _ h
 ·obtain⟨v,k1,k2⟩:=r.dat i x h;exact⟨v,k1,k2.same e⟩
 ·obtain⟨a,ys,k1,k2,k3,k4,k5⟩:=r.own i xs h;refine⟨a,ys,k1,?_,k3,k4,k5.same e⟩;unfold L2.Bm;rw[k4];split
  ·rename_i q;cases q;exact k5.MQ.elim
  ·exact k2
end
theorem PH{G:Hp}:∀ {t:Tr} {xs:List V},Ac G (Iq t) xs→Ts G t xs
 |.nil,xs,h=>by rw[Iq]at h;rw[Ts];exact h.nil_eq
 |.cons b r,xs,h=>by
  rw[Iq]at h;obtain⟨x,q,rfl,h1,h2⟩:=h.un;rw[Du]at h1;obtain⟨a,ys,rfl,h3,h4⟩:=h1;rw[Ts];exact⟨a,ys,q,rfl,h3,PH h4,PH h2⟩
mutual
theorem Pq:∀ {ds:List PyData} {t:Tr},My ds=some t→ds=Iq t
 |[],t,h=>by rw[My]at h;cases h;rw[Iq]
 |d::ds,t,h=>by
  rw[My]at h;obtain⟨b,h1,h2⟩:=aB.mp h;obtain⟨r,h3,rfl⟩:=aC.mp h2;rw[Iq,←XG h1,←Pq h3]
theorem XG:∀ {d:PyData} {t:Tr},Fg d=some t→d=.tuple (Iq t)
 |.tuple ds,t,h=>by rw[Fg]at h;rw[Pq h]
 |.none,_,h=>by simp[Fg]at h
 |.bool _,_,h=>by simp[Fg]at h
 |.int _,_,h=>by simp[Fg]at h
 |.str _,_,h=>by simp[Fg]at h
 |.list _,_,h=>by simp[Fg]at h
 |.dict _,_,h=>by simp[Fg]at h
end
section
variable{X:Cx}{a e:Expr}{f g h:Dv→Option PyData}{pos:Pos}
def ZG(x k:PyData):Option PyData:=match x,k with
 |.list xs,.int i=>if i=-1 then some (.list xs.reverse) else none
 |_,_=>none
abbrev Rt(f g:Dv→Option PyData):Dv→Option PyData:=AK ZG f g
theorem Y1{p2:Pos}{k:Expr}(he:DE X e f)(hk:DE X k g):DE X (.Subscript e (.Slice none none (some k) p2) pos) (Rt f g):=by
 obtain⟨te,pe,ke⟩:=he;obtain⟨tk,pk,kk⟩:=hk;refine⟨_,Yj pe pk,fun δ z hz G0 H0 G H σ ts Q R0 k=>?_⟩;obtain⟨x,y,h1,h2,h3⟩:=two (x:=.none) (y:=.none) hz;refine ke δ x h1 G0 H0 G H σ ts _ R0 fun u G1 H1 R1=>?_;refine kk δ y h2 G0 H0 G1 H1 σ _ _ R1 fun v G2 H2 R2=>?_;have du:=R2.A0 (x,u) (.tail _ (.head _));have dv:=R2.A0 (y,v) (.head _);unfold ZG at h3;split at h3
 ·split at h3
  ·rename_i hi;cases h3;subst hi;rw[Du]at du;rw[Du]at dv;obtain⟨a,ys,rfl,n1,n2⟩:=du;exact⟨a,ys,rfl,dv,A3.of (R2.ins _ _ n1),fun q hq=>k _ _ _ (R2.drop.drop.NT n2.rev hq)⟩
  ·cases h3
 ·cases h3
abbrev MO(i:Nat)(f g:Dv→Option PyData):DF:=fun δ=>(f δ).bind fun y=>(g δ).bind fun k=>(ow i δ).bind fun xs=>(JO k).bind fun n=>(HS xs.length n).map fun j=>.nx (δ.set i (.own (.lst (xs.set j y))))
theorem Ac.set{H:Hp}{d:PyData}{v:V}(hd:Du H d v):∀ {ds:List PyData} {xs:List V} (j:Nat),Ac H ds xs→Ac H (ds.set j d) (xs.set j v)
 |[],_,_,h=>by rw[h.nil_eq];exact .nil
 |_::_,_,0,h=>by obtain⟨x,r,rfl,_,h2⟩:=h.un;exact .cons hd h2
 |_::_,_,j+1,h=>by obtain⟨x,r,rfl,h1,h2⟩:=h.un;exact .cons h1 (Ac.set hd j h2)
theorem Ks{i:Nat}{x:Str}{np sp:Pos}(hv:PE X (.Name x np) (F8 i))(hk:DE X a g)(he:DE X e f)
 (hP:∀ {te to ti:TE},PE X e te→PE X (.Name x np) to→PE X a ti→PS X (.Assign [.Subscript (.Name x np) a sp] e pos) (Pg te (ZF to ti WS))):DS X (.Assign [.Subscript (.Name x np) a sp] e pos) (MO i f g):=by
 obtain⟨te,pe,ke⟩:=he;obtain⟨tk,pk,kk⟩:=hk;refine⟨_,hP pe hv pk,fun δ r h G0 H0 G H σ D R q=>?_⟩;obtain⟨y,h1,h2⟩:=aB.mp h;obtain⟨n,h3,h4⟩:=aB.mp h2;obtain⟨xs,h5,h6⟩:=aB.mp h4;obtain⟨m,h7,h8⟩:=aB.mp h6;obtain⟨j,h9,rfl⟩:=aC.mp h8;have:=Hw h7;subst this;have hi:=Ia h5;refine ke δ y h1 G0 H0 G H σ [] _ R fun u G1 H1 R1=>?_;obtain⟨ad,_,k1,k2,k3,k4,⟨ys,rfl,k5⟩⟩:=R1.own i _ hi;refine⟨.ref ad,k1,?_⟩;refine kk δ _ h3 G0 H0 G1 H1 σ _ _ R1 fun v G2 H2 R2=>?_;have dv:=R2.A0 (.int m,v) (.head _);rw[Du]at dv;obtain⟨ad',_,m1,m2,m3,m4,⟨zs,rfl,m5⟩⟩:=R2.own i _ hi;rw[k1]at m1;cases m1;refine⟨ad,zs,m,j,rfl,dv,m4,by rw[m5.len];exact h9,?_⟩;exact q _ _ _ (R2.drop.drop.Ms hi k1 ⟨_,rfl,m5.set (R2.A0 (y,u) (.tail _ (.head _))) j⟩)
end
def SN:PyData→Option Key
 |.int i=>some (.inl i)
 |.str x=>some (.inr x)
 |_=>none
def IQ:List PyData→Option (List Key)
 |[]=>some []
 |d::r=>(SN d).bind fun k=>(IQ r).map fun q=>k::q
def Nk:PyData→Option (List Key)
 |.tuple ds=>IQ ds
 |_=>none
theorem XZ{G:Hp}{d:PyData}{v:V}{k:Key}(h:Du G d v)(e:SN d=some k):v=kV k:=by
 unfold SN at e;split at e
 ·cases e;rw[Du]at h;exact h
 ·cases e;rw[Du]at h;exact h
 ·cases e
theorem O7{G:Hp}:∀ {ds:List PyData} {xs:List V} {ks:List Key},Ac G ds xs→IQ ds=some ks→xs=ks.map kV
 |[],xs,ks,h,e=>by cases e;rw[h.nil_eq];rfl
 |d::ds,xs,ks,h,e=>by
  unfold IQ at e;obtain⟨k,h1,h2⟩:=aB.mp e;obtain⟨q,h3,rfl⟩:=aC.mp h2;obtain⟨x,r,rfl,m1,m2⟩:=h.un;rw[List.map_cons,XZ m1 h1,O7 m2 h3]
theorem RX{G:Hp}{d:PyData}{v:V}{ks:List Key}(h:Du G d v)(e:Nk d=some ks):∃b,v=.ref b∧G b=some (.tup (ks.map kV)):=by
 unfold Nk at e;split at e
 ·rw[Du]at h;obtain⟨a,xs,rfl,h1,h2⟩:=h;exact⟨a,rfl,by rw[←O7 h2 e];exact h1⟩
 ·cases e
def NQ(kvs:List (List Key×PyData))(k:List Key):Option PyData:=(kvs.find? fun kv=>decide (kv.1=k)).map (·.2)
def putD(kvs:List (List Key×PyData))(k:List Key)(v:PyData):List (List Key×PyData) :=
 if(kvs.any fun kv=>decide (kv.1=k))=true then kvs.map (fun kv=>if kv.1=k then(kv.1,v) else kv) else kvs++[(k,v)]
theorem Bp.val{G:Hp}{k:List Key}:∀ {t:List (List Key×PyData)} {r:List (List Key×V)},Bp G t r→(match NQ t k with|some d=>∃v,Fi r k=some v∧Du G d v|none=>Fi r k=none)
 |[],r,h=>by rw[Bp]at h;subst h;rfl
 |q::t,r,h=>by
  obtain⟨v,r',rfl,h1,h2⟩:=h;have ih:=Bp.val (k:=k) h2;unfold NQ Fi at ih ⊢;by_cases e:q.1=k
  ·simp only[List.find?_cons,e,decide_true,Option.map_some];exact⟨v,rfl,h1⟩
  ·simp only[List.find?_cons,e,decide_false];exact ih
theorem Bp.app{G:Hp}{k:List Key}{d:PyData}{v:V}(hd:Du G d v):∀ {t:List (List Key×PyData)} {r:List (List Key×V)},Bp G t r→Bp G (t++[(k,d)]) (r++[(k,v)])
 |[],r,h=>by rw[Bp]at h;subst h;exact⟨v,[],rfl,hd,rfl⟩
 |q::t,r,h=>by
  obtain⟨u,r',rfl,h1,h2⟩:=h;exact⟨u,_,rfl,h1,Bp.app hd h2⟩
theorem Bp.any{G:Hp}{k:List Key}:∀ {t:List (List Key×PyData)} {r:List (List Key×V)},Bp G t r→(r.any fun kv=>decide (kv.1=k))=(t.any fun kv=>decide (kv.1=k))
 |[],r,h=>by rw[Bp]at h;subst h;rfl
 |q::t,r,h=>by
  obtain⟨u,r',rfl,h1,h2⟩:=h;simp only[List.any_cons,Bp.any h2]
theorem Bp.over{G:Hp}{k:List Key}{d:PyData}{v:V}(hd:Du G d v):∀ {t:List (List Key×PyData)} {r:List (List Key×V)},Bp G t r→Bp G (t.map fun kv=>if kv.1=k then(kv.1,d) else kv) (r.map fun kv=>if kv.1=k then(kv.1,v) else kv)
 |[],r,h=>by rw[Bp]at h;subst h;rfl
 |q::t,r,h=>by
  obtain⟨u,r',rfl,h1,h2⟩:=h;by_cases e:q.1=k
  ·simp only[List.map_cons,e,if_true];exact⟨v,_,rfl,hd,Bp.over hd h2⟩
  ·simp only[List.map_cons,e,if_false];exact⟨u,_,rfl,h1,Bp.over hd h2⟩
theorem Bp.put{G:Hp}{k:List Key}{d:PyData}{v:V}{t:List (List Key×PyData)}{r:List (List Key×V)}(hd:Du G d v)(h:Bp G t r):Bp G (putD t k d) (putK r k v):=by
 unfold putD putK;rw[h.any (k:=k)];split
 ·exact h.over hd
 ·exact h.app hd
theorem Bp.len{G:Hp}:∀ {t:List (List Key×PyData)} {r:List (List Key×V)},Bp G t r→r.length=t.length
 |[],r,h=>by rw[Bp]at h;subst h;rfl
 |q::t,r,h=>by
  obtain⟨u,r',rfl,h1,h2⟩:=h;simp[h2.len]
def Bs(i:Nat)(δ:Dv):Option (List (List Key×PyData)):=match δ[i]? with
 |some (.own (.Bs kvs))=>some kvs
 |_=>none
theorem Mq{i:Nat}{δ:Dv}{kvs:List (List Key×PyData)}(h:Bs i δ=some kvs):δ[i]? = some (.own (.Bs kvs)):=by
 unfold Bs at h;split at h
 ·rename_i y e;cases h;exact e
 ·cases h
section
variable{X:Cx}{a b e:Expr}{f g h:Dv→Option PyData}{pos:Pos}
abbrev V0(i:Nat):DF:=fun δ=>some (.nx (δ.set i (.own (.Bs []))))
theorem Zg{i:Nat}{x:Str}{pos' dp:Pos}(hN:X.N.Nodup)(hi:X.N[i]? = some x)(hx:Loc X.env.scope x)(hs:swapsWith (.Dict [] [] dp) (some (.Name x pos')) pos.line X.env=pure false:=by rfl)(hf:X.fn x=true∨X.env.scope.names.lookup x=some .local:=by first|exact .inl rfl|exact .inr rfl|assumption) :
  DS X (.Assign [.Name x pos'] (.Dict [] [] dp) pos) (V0 i):=by
 refine⟨_,Dj hN hi hx Va hs hf,fun δ r h G0 H0 G H σ D R q=>?_⟩;cases h;exact fun l hl=>q _ _ _ (R.Mt (xs:=.Bs []) ⟨[],rfl,rfl⟩ hl)
abbrev Pc(i:Nat)(f g:Dv→Option PyData):DF:=fun δ=>(f δ).bind fun y=>(g δ).bind fun k=>(Bs i δ).bind fun kvs=>(Nk k).bind fun q=>if kvs.length<Co then some (.nx (δ.set i (.own (.Bs (putD kvs q y))))) else none
theorem YD{i:Nat}{x:Str}{np sp:Pos}(hv:PE X (.Name x np) (F8 i))(hk:DE X a g)(he:DE X e f)
 (hP:∀ {te to ti:TE},PE X e te→PE X (.Name x np) to→PE X a ti→PS X (.Assign [.Subscript (.Name x np) a sp] e pos) (WV to ti te)):DS X (.Assign [.Subscript (.Name x np) a sp] e pos) (Pc i f g):=by
 obtain⟨te,pe,ke⟩:=he;obtain⟨tk,pk,kk⟩:=hk;refine⟨_,hP pe hv pk,fun δ r h G0 H0 G H σ D R q=>?_⟩;obtain⟨y,h1,h2⟩:=aB.mp h;obtain⟨k,h3,h4⟩:=aB.mp h2;obtain⟨kvs,h5,h6⟩:=aB.mp h4;obtain⟨ks,h7,h8⟩:=aB.mp h6;split at h8
 ·rename_i hl;cases h8;have hi:=Mq h5;refine ke δ y h1 G0 H0 G H σ [] _ R fun u G1 H1 R1=>?_;obtain⟨ad,_,k1,k2,k3,k4,⟨r1,rfl,k5⟩⟩:=R1.own i _ hi;refine⟨.ref ad,k1,?_⟩;refine kk δ _ h3 G0 H0 G1 H1 σ _ _ R1 fun v G2 H2 R2=>?_;obtain⟨b,rfl,hb⟩:=RX (R2.A0 (k,v) (.head _)) h7;obtain⟨ad',_,m1,m2,m3,m4,⟨r2,rfl,m5⟩⟩:=R2.own i _ hi;rw[k1]at m1;cases m1;refine⟨ad,_,rfl,QP.t m4 (R2.ins _ _ hb) (Ji (by rw[m5.len];lia)),?_⟩;exact q _ _ _ (R2.drop.drop.Ms (xs':=.Bs (putD kvs ks y)) hi k1 ⟨_,rfl,m5.put (R2.A0 (y,u) (.tail _ (.head _)))⟩)
 ·cases h8
abbrev Oy(i:Nat)(g:Dv→Option PyData):Dv→Option PyData:=fun δ=>(g δ).bind fun k=>(Bs i δ).bind fun kvs=>(Nk k).bind fun q=>NQ kvs q
theorem Xj{i:Nat}{x:Str}{np:Pos}(hu:X.A.units+1<cLine)(hv:PE X (.Name x np) (F8 i))(hk:DE X a g)(hs:U1 a):DE X (.Subscript (.Name x np) a pos) (Oy i g):=by
 obtain⟨tk,pk,kk⟩:=hk;refine⟨_,XT hu hv pk hs,fun δ z hz G0 H0 G H σ ts Q R0 k=>?_⟩;obtain⟨y,h1,h2⟩:=aB.mp hz;obtain⟨kvs,h3,h4⟩:=aB.mp h2;obtain⟨ks,h5,h6⟩:=aB.mp h4;have hi:=Mq h3;obtain⟨ad,_,k1,k2,k3,k4,⟨r1,rfl,k5⟩⟩:=R0.own i _ hi;refine⟨.ref ad,k1,?_⟩;refine kk δ _ h1 G0 H0 G H σ ts _ R0 fun v G1 H1 R1=>?_;obtain⟨b,rfl,hb⟩:=RX (R1.A0 (y,v) (.head _)) h5;obtain⟨ad',_,m1,m2,m3,m4,⟨r2,rfl,m5⟩⟩:=R1.own i _ hi;rw[k1]at m1;cases m1;have hv:=m5.val (k:=ks);rw[h6]at hv;obtain⟨w,n1,n2⟩:=hv;exact⟨ad,w,rfl,by rw[←n1];exact NW.t m4 (R1.ins _ _ hb),k _ _ _ (R1.drop.put n2)⟩
end
def VS:L→L
 |.own (.lst xs)=>.d (.list xs)
 |.own (.QC kvs)=>.d (O0 kvs)
 |.own _=>.no
 |l=>l
def Hc(δ:Dv):Dv:=δ.map VS
section
variable{G0 H0 G H:Hp}{σ:St}{δ:Dv}{ts:List (PyData×V)}
theorem Rw.Hc(r:Rw G0 H0 G H σ δ ts):Rw H H H H σ (L2.Hc δ) ts:=by
 refine⟨AJ.refl _,fun _ _ h=>.inl h,AJ.refl _,AJ.refl _,by rw[L2.Hc,List.length_map];exact r.len,fun i x h=>?_,fun i xs h=>?_,fun i j xs ys _ h=>?_,fun q hq=>(r.A0 q hq).same r.ins⟩
 ·unfold L2.Hc at h;rw[List.getElem?_map]at h;obtain⟨l,h1,h2⟩:=aC.mp h;unfold VS at h2;split at h2
  ·rename_i xs;cases h2;obtain⟨a,_,k1,k2,k3,k4,⟨ys,rfl,k5⟩⟩:=r.own i _ h1;refine⟨.ref a,k1,?_⟩;rw[Du];exact⟨a,ys,rfl,k4,k5.same r.ins⟩
  ·rename_i kvs;cases h2;obtain⟨a,_,k1,k2,k3,k4,⟨rr,rfl,k5,k6⟩⟩:=r.own i _ h1;refine⟨.ref a,k1,?_⟩;rw[Du,IZ];exact .inr (.inr ⟨rfl,rfl,a,rr,rfl,k4,k5,JI.same r.ins k6⟩)
  ·cases h2
  ·subst h2;obtain⟨v,k1,k2⟩:=r.dat i x h1;exact⟨v,k1,k2.same r.ins⟩
 all_goals
  unfold L2.Hc at h;rw[List.getElem?_map]at h;obtain⟨l,h1,h2⟩:=aC.mp h;unfold VS at h2;split at h2
  ·cases h2
  ·cases h2
  ·cases h2
  ·rename_i n1 n3 n2;subst h2;cases xs with
   |lst zs=>exact(n1 zs rfl).elim
   |QC zs=>exact(n3 zs rfl).elim
   |Bs zs=>exact(n2 (.Bs zs) rfl).elim
theorem Rw.on{H':Hp}(r:Rw G0 H0 G H σ δ ts)(e:AJ H H'):Rw G0 H0 G H' σ δ ts:=r.lift (AJ.refl _) Nw.refl (r.ins.trans e) e
theorem Rw.Wy{i:Nat}{xs:Oc}{ys:HO}{a:Addr}(r:Rw G0 H0 G H σ δ ts)(d:GB G a xs ys)(ha:H a=some ys)(hG:G a=none)(h0:H0 a=none)(nota:∀(j:Nat) (zs:Oc),δ[j]? = some (L.own zs)→σ[j]?≠some (some (V.ref a))):Rw G0 H0 G H (σ.set i (some (.ref a))) (δ.set i (.own xs)) ts:=by
 have hl:=r.len;have other:∀(j:Nat) (zs:Oc),i≠j→(δ.set i (.own xs))[j]? = some (L.own zs)→δ[j]? = some (L.own zs):=fun j zs hj h=>by rw[List.getElem?_set_ne hj]at h;exact h
 refine⟨r.ext,r.new,r.ins,r.keep,by simp[hl],fun j y h=>?_,fun j zs h=>?_,fun j l us ws hjl h1 h2=>?_,r.A0⟩
 ·by_cases hj:i=j
  ·subst hj;by_cases hi:i<δ.length
   ·rw[List.getElem?_set_self hi]at h;cases h
   ·rw[List.getElem?_eq_none (by simp;lia)]at h;cases h
  ·rw[List.getElem?_set_ne hj]at h;obtain⟨w,m1,m2⟩:=r.dat j y h;exact⟨w,by rw[List.getElem?_set_ne hj];exact m1,m2⟩
 ·by_cases hj:i=j
  ·subst hj;by_cases hi:i<δ.length
   ·rw[List.getElem?_set_self hi]at h;cases h;exact⟨a,ys,by rw[List.getElem?_set_self (by lia)],hG,h0,ha,d⟩
   ·rw[List.getElem?_eq_none (by simp;lia)]at h;cases h
  ·have h:=other j zs hj h;obtain⟨b,us,m1,m2,m3,m4,m5⟩:=r.own j zs h;exact⟨b,us,by rw[List.getElem?_set_ne hj];exact m1,m2,m3,m4,m5⟩
 ·by_cases hj:i=j
  ·subst hj;have hl2:i≠l:=hjl;have h2:=other l ws hl2 h2;by_cases hi:i<δ.length
   ·rw[List.getElem?_set_self (by lia),List.getElem?_set_ne hl2];exact fun z=>nota l ws h2 z.symm
   ·rw[List.getElem?_eq_none (by simp;lia)]at h1;cases h1
  ·have h1:=other j us hj h1;by_cases hk:i=l
   ·subst hk;by_cases hi:i<δ.length
    ·rw[List.getElem?_set_self (by lia),List.getElem?_set_ne hj];exact fun z=>nota j us h1 z
    ·rw[List.getElem?_eq_none (by simp;lia)]at h2;cases h2
   ·have h2:=other l ws hk h2;rw[List.getElem?_set_ne hj,List.getElem?_set_ne hk];exact r.apart j l us ws hjl h1 h2
end
section
variable{X:Cx}{e:Expr}{f h:Dv→Option PyData}{fa:Dv→Option Bool}{p:Pos}
abbrev Wn(f:Dv→Option Bool):Dv→Option Bool:=fun δ=>f (Hc δ)
theorem YC(h:DT X e fa):DT X e (Wn fa):=by
 obtain⟨t,p,k⟩:=h;refine⟨t,p,fun δ z hz G0 H0 G H σ ts Q R q=>?_⟩;exact k _ z hz H H H H σ ts Q R.Hc fun G' H' R'=>q _ _ (R.on R'.keep)
end
section
variable{F F1 F2:DF}{δ δ':Dv}{r:Option Ou}{c:Dv→Option Bool}{f g:Dv→Option PyData}{fs:Dv→Option (List PyData)}
theorem Ah(h:F1 δ=some (.nx δ'))(k:F2 δ'=r):AQ F1 F2 δ=r:=by unfold AQ;rw[h];exact k
theorem Ng{x:PyData}(h:F1 δ=some (.rt x)):AQ F1 F2 δ=some (.rt x):=by unfold AQ;rw[h]
theorem E3(h:c δ=some true)(k:F1 δ=r):EM c F1 F2 δ=r:=by show(c δ).bind _=r;rw[h];exact k
theorem BW(h:c δ=some false)(k:F2 δ=r):EM c F1 F2 δ=r:=by show(c δ).bind _=r;rw[h];exact k
theorem Am{i:Nat}{y:PyData}(h:f δ=some y):Ao i f δ=some (.nx (δ.set i (.d y))):=by show(f δ).map _=_;rw[h];rfl
theorem D9{y:PyData}(h:f δ=some y):B5 f δ=some (.rt y):=by show(f δ).map _=_;rw[h];rfl
theorem AV{o:PyData→PyData→Option PyData}{x y:PyData}{z:Option PyData}(h1:f δ=some x)(h2:g δ=some y)(h3:o x y=z):AK o f g δ=z:=by unfold AK;rw[h1,h2];exact h3
theorem Aw{m:List PyData→Option PyData}{xs:List PyData}{z:Option PyData}(h1:fs δ=some xs)(h2:m xs=z):AY m fs δ=z:=by show(fs δ).bind m=z;rw[h1];exact h2
theorem Ak{x:PyData}{xs:List PyData}(h1:f δ=some x)(h2:fs δ=some xs):AB f fs δ=some (x::xs):=by show(f δ).bind _=_;rw[h1];show(fs δ).map _=_;rw[h2];rfl
theorem JW{xs:List PyData}(h:fs δ=some xs)(hl:xs.length≤Co):A8 fs δ=some (.list xs):=by show((fs δ).bind Bt).map _=_;rw[h];show(Bt xs).map _=_;unfold Bt;rw[if_pos hl];rfl
theorem Fz{xs:List PyData}(h:fs δ=some xs)(hl:xs.length≤Co):A1 fs δ=some (.tuple xs):=by show((fs δ).bind Bt).map _=_;rw[h];show(Bt xs).map _=_;unfold Bt;rw[if_pos hl];rfl
theorem BO{o:PyData→PyData→Option PyData}{x y:PyData}{b:Bool}(h1:f δ=some x)(h2:g δ=some y)(h3:o x y=some (.bool b)):Bi o f g δ=some b:=by show(AK o f g δ).bind OL=_;rw[AV h1 h2 h3];rfl
theorem O2{a b:Dv→Option Bool}{q:Option Bool}(h:a δ=some false)(k:b δ=q):QX a b δ=q:=by show(a δ).bind _=q;rw[h];exact k
theorem NX{a:Dv→Option Bool}{b:Bool}(h:a δ=some b):Ir a δ=some (!b):=by show(a δ).map _=_;rw[h];rfl
theorem Nt{b:Bool}(h:f δ=some (.bool b)):He f δ=some b:=by show(f δ).bind OL=_;rw[h];rfl
theorem PY{set:PyData→Dv→Option Dv}(Iv:Nat→Dv→Prop):∀(xs:List PyData) (δ:Dv) (n:Nat),Iv n δ→(∀(i:Nat) (x:PyData) (δ:Dv),xs[i]? = some x→Iv (n+i) δ→∃δ1 δ2,set x δ=some δ1∧F δ1=some (.nx δ2)∧Iv (n+i+1) δ2) →
  ∃δ',JA set F xs δ=some (.nx δ')∧Iv (n+xs.length) δ'
 |[],δ,n,h,_=>⟨δ,rfl,h⟩
 |x::xs,δ,n,h,k=>by
  obtain⟨δ1,δ2,h1,h2,h3⟩:=k 0 x δ rfl h;obtain⟨δ',h4,h5⟩:=PY Iv xs δ2 (n+1) h3 fun i y δ hy hv=>by
   have:=k (i+1) y δ (by simpa using hy) (by rw[show n+(i+1)=n+1+i by lia];exact hv);rw[show n+(i+1)+1=n+1+i+1 by lia]at this;exact this
  refine⟨δ',?_,by rw[List.length_cons,show n+(xs.length+1)=n+1+xs.length by lia];exact h5⟩;unfold JA;rw[h1,Option.bind_some,h2];exact h4
theorem Uw{set:PyData→Dv→Option Dv}{xs:List PyData}(Iv:Nat→Dv→Prop)(hx:fs δ=some xs)(h0:Iv 0 δ)(hs:∀(i:Nat) (x:PyData) (δ:Dv),xs[i]? = some x→Iv i δ→∃δ1 δ2,set x δ=some δ1∧F δ1=some (.nx δ2)∧Iv (i+1) δ2) :
  ∃δ',FX fs set F δ=some (.nx δ')∧Iv xs.length δ':=by
 obtain⟨δ',h1,h2⟩:=PY (F:=F) (set:=set) Iv xs δ 0 h0 fun i x δ hx hv=>by
  have:=hs i x δ hx (by simpa using hv)
  simpa using this
 refine⟨δ',?_,by simpa using h2⟩;show(fs δ).bind _=_;rw[hx];exact h1
theorem Lp{one:PyData→Option (Option PyData)}{g:PyData→PyData}:∀ {xs:List PyData},(∀x∈xs,one x=some (some (g x)))→collect one xs=some (xs.map g)
 |[],_=>rfl
 |x::xs,h=>by
  unfold collect;rw[h x (.head _),Option.bind_some,Lp fun y hy=>h y (.tail _ hy)]
  rfl
theorem comp_map{ix:Nat}{fr:List (Option Nat)}{xs:List PyData}{g:PyData→PyData}(hx:fs δ=some xs)(hl:xs.length≤Co)(h:∀x∈xs,f ((Bh fr δ).set ix (.d x))=some (g x)):Cb (CD ix) DP f fr fs δ=some (.list (xs.map g)):=by
 unfold Cb Ee;rw[hx,Option.bind_some,Lp (g:=g) fun x hx=>?_,Option.bind_some,Bt,if_pos (by rw[List.length_map];exact hl)]
 ·rfl
 ·unfold F7 CD;rw[Option.bind_some];show(some true).bind _=_;rw[Option.bind_some,if_pos rfl,h x hx]
  rfl
end
theorem C8{ps N:List Str}{F:DF}{ds:List PyData}{x:PyData}(hl:ds.length=ps.length)(h:F (Gb N ds)=some (.rt x)):Cy ps N F ds=some x:=by unfold Cy;rw[if_pos hl,h]
theorem NV{lo:Int}{n i:Nat}{x:PyData}(h:(El lo n)[i]? = some x):x=.int (lo+(i:Nat))∧i<n:=by
 unfold El at h;rw[List.getElem?_map]at h;obtain⟨j,hj,rfl⟩:=aC.mp h;have hl:=(aG.mp hj).1;rw[List.getElem?_range (by simpa using hl)]at hj;cases hj;exact⟨rfl,by simpa using hl⟩
theorem Pe{δ:Dv}{f:Dv→Option PyData}{j:Int}(h:f δ=some (.int j))(h0:-1000000≤j)(h1:j≤1000000):Eh Gf (AB f AF) δ=some (El 0 j.toNat):=by
 show(AB f AF δ).bind Gf=_;rw[Ak h (show AF δ=some [] from rfl)];exact if_pos ⟨h0,h1⟩
theorem Tb{n:Nat}{i:Int}(h:i.natAbs<2^n):Gp n i=true:=av h
theorem Zm{i j:Int}(h:M3 i j=true):FD (.int i) (.int j)=some (.int (i*j)):=by
 show Ft Sg Ik (.int i) (.int j)=_;unfold Ft;rw[show Sg (.int i) (.int j)=some (.int (i*j)) from if_pos h]
theorem mul_r{i j:Int}(h:j.natAbs<2^64):FD (.int i) (.int j)=some (.int (i*j)):=Zm (by unfold M3;rw[Tb h];simp)
theorem mod_is{i j:Int}(h:0<j):Cn (.int i) (.int j)=some (.int (i % j)):=by
 show(if j≠0 then some (PyData.int (i.fmod j)) else none)=_;rw[if_pos (by lia),Int.fmod_eq_emod_of_nonneg _ (by lia)]
theorem YU{i:Int}{n:Nat}(hn:n≤1000)(hi:Gp 64 i=true):Qa (.int i) (.int (n:Int))=some (.int (i^n)):=by
 show(if 0≤(n:Int)∧(n:Int)≤1000∧Gp 64 i=true then some (PyData.int (i^(n:Int).toNat)) else none)=_;rw[if_pos ⟨by lia,by lia,hi⟩,Int.toNat_natCast]
def VD:PyData→PyData→Option PyData:=fun x y=>match x,y with|.tuple a,.int k=>(if a.length≠0∧1≤k∧k≤1000∧a.length*k.toNat≤1000 then some (.tuple (List.replicate k.toNat a).flatten) else none)|_,_=>none
theorem Xk{X:Cx}:Cf X (binaryOp .Mult) VD:=by
 refine⟨_,Xo,fun x y z hz G0 H0 G H σ δ ts u v Q R0 du dv k=>?_⟩;unfold VD at hz;split at hz
 ·rename_i a n;split at hz
  ·rename_i hl;cases hz;rw[Du]at du;rw[Du]at dv;obtain⟨p,xs,rfl,h1,h2⟩:=du;subst dv;refine⟨p,n,xs,rfl,rfl,R0.ins _ _ h1,fun z=>hl.1 (by rw[←h2.len,z];rfl),hl.2.1,hl.2.2.1,by rw[h2.len];exact hl.2.2.2,fun l H' e hp=>?_⟩;have R1:=R0.S4 e hp;refine k _ _ _ (R1.put ?_);rw[Du];have e1:AJ G (upd G l (.tup (List.replicate n.toNat xs).flatten)):=fun a o h=>by
    by_cases ha:a=l
    ·subst ha;have:=e _ _ (R0.ins _ _ h);rw[hp]at this;rw[AW];exact this
    ·rw[AR ha];exact h
   exact⟨l,_,rfl,AW,(h2.same e1).rep _⟩
  ·cases hz
 ·cases hz
def Ww:PyData→PyData→Option PyData:=Ft FD VD
theorem XM{X:Cx}:Cf X (binaryOp .Mult) Ww:=Et.or Xk
def FA(C:Addr):PyData:=.dict [(.int (C:Nat),.none)]
def EA(ns:List Int):PyData:=.dict [(.none,.list (ns.map .int))]
theorem Yb{H:Hp}{a:Addr}{ns:List Int}(h:Rd H a (.lst (ns.map V.int))):Du H (EA ns) (.ref a):=by unfold EA;rw[Du];exact .inr (.inl ⟨a,ns,rfl,rfl,h⟩)
def O4(K:PySem.W.Frag):Bool:=K.all fun p=>match p.2.cls with|.type n=>n != "list" |_=>true
theorem Lj{a:Addr}{o:Obj}:∀ {K:PySem.W.Frag},K.lookup a=some o→(a,o)∈K
 |[],h=>by cases h
 |(b,u)::K,h=>by
  rw[List.lookup_cons]at h;split at h
  ·rename_i e;cases h;rw[show a=b from by simpa using e];exact .head _
  ·exact .tail _ (Lj h)
theorem Y0{K:PySem.W.Frag}{H:Hp}{a:Addr}{xs:List V}(hK:O4 K=true)(h:A3 K H a xs):Rd H a (.lst xs):=by
 rcases h with h|⟨o,its,n,h1,h2,_⟩
 ·exact h
 ·unfold O4 at hK;rw[List.all_eq_true]at hK;have:=hK _ (Lj h1);rw[h2]at this;exact absurd this (by decide)
abbrev Xr:=PyData ⊕ Addr
def D0(g:List PyData→Option Xr):Sp:=fun vs H Q E=>∃ds r G,g ds=some r∧Ac G ds vs∧AJ G H∧match r with
 |.inl x=>∀v G' H',AJ G G'→Nw G H G'→AJ G' H'→AJ H H'→Du G' x v→Q v H'
 |.inr C=>∀H',AJ H H'→E (.ref C) none H'
abbrev Wf:=Ou ⊕ Addr
abbrev Ej:=Dv→Option Wf
def Zw(G0 H0:Hp)(D:Ends)(E:XK):Wf→Prop
 |.inl o=>Fin G0 H0 D o
 |.inr C=>∀H',AJ H0 H'→E (.ref C) none H'
def DX(X:Cx)(E:XK)(st:Stmt)(F:Ej):Prop:=∃t,PS X st t∧∀δ r,F δ=some r→∀G0 H0 G H σ D,Rw G0 H0 G H σ δ []→Zw G0 H0 D E r→t D σ H
def N2(X:Cx)(E:XK)(sts:List Stmt)(F:Ej):Prop:=∃t,FZ X sts t∧∀δ r,F δ=some r→∀G0 H0 G H σ D,Rw G0 H0 G H σ δ []→Zw G0 H0 D E r→t D σ H
section
variable{X:Cx}{E:XK}{b c e:Expr}{es:List Expr}{f h:Dv→Option PyData}{fs:Dv→Option (List PyData)}{fa:Dv→Option Bool}{pos p:Pos}{st:Stmt}{sts sts':List Stmt}{F:DF}{J J1 J2:Ej}
theorem VU{t:TS}(h:FZ X.GR sts t):FZ X sts t:=fun pins s σ H D I k=>aN (h pins s σ H D (I.FL _) k) (fun _ _ z=>z.Cz) fun _ _ z=>z.elim
theorem Ze{t:TE}(h:PE X.GR e t):PE X e t:=fun pins s σ H Q I k=>aN (h pins s σ H Q (I.FL _) k) (fun _ _ ⟨v,H',I',r,q⟩=>⟨v,H',I'.Cz,r,q⟩) fun _ _ z=>z.elim
theorem Ym{t:TT}(h:PT X.GR e t):PT X e t:=fun pins s σ H Q I k=>aN (h pins s σ H Q (I.FL _) k) (fun _ _ ⟨H',I',q⟩=>⟨H',I'.Cz,q⟩) fun _ _ z=>z.elim
theorem bQ{t:TA}(h:PA X.GR es t):PA X es t:=fun p pins s σ H Q I k=>aN (h p pins s σ H Q (I.FL _) k) (fun _ _ ⟨v,H',I',r,q⟩=>⟨v,H',I'.Cz,r,q⟩) fun _ _ z=>z.elim
abbrev Uk(F:DF):Ej:=fun δ=>(F δ).map .inl
theorem Mm(h:Li X.GR sts F):N2 X E sts (Uk F):=by
 obtain⟨t,p,k⟩:=h;refine⟨t,VU p,fun δ r h G0 H0 G H σ D R q=>?_⟩;obtain⟨o,h1,rfl⟩:=aC.mp h;exact k δ o h1 G0 H0 G H σ D R q
def IA(J1 J2:Ej)(δ:Dv):Option Wf:=match J1 δ with
 |some (.inl (.nx δ'))=>J2 δ'
 |o=>o
theorem LX:N2 X E [] (fun δ=>some (.inl (.nx δ))):=⟨_,B3,fun δ r h G0 H0 G H σ D R k=>by cases h;exact k _ _ _ R⟩
theorem F0(h:DX X E st J):N2 X E [st] J:=by
 obtain⟨t,p,k⟩:=h;exact⟨t,Aq p,k⟩
theorem Hd(h1:DX X E st J1)(h2:N2 X E sts J2):N2 X E (st::sts) (IA J1 J2):=by
 obtain⟨t1,p1,k1⟩:=h1;obtain⟨t2,p2,k2⟩:=h2;refine⟨_,A7 p1 p2,fun δ r h G0 H0 G H σ D R q=>?_⟩;unfold IA at h;split at h
 ·rename_i δ' e1;exact k1 δ _ e1 G0 H0 G H σ _ R fun σ' G' H' R'=>k2 δ' r h G0 H0 G' H' σ' D R' q
 ·rename_i o hn;cases r with
  |inr C=>exact k1 δ _ h G0 H0 G H σ _ R q
  |inl o' =>
   cases o' with
   |nx δ'=>exact absurd h (hn δ')
   |rt x=>exact k1 δ _ h G0 H0 G H σ _ R q
   |bk x=>exact k1 δ _ h G0 H0 G H σ _ R q
   |ct x=>exact k1 δ _ h G0 H0 G H σ _ R q
   |rn x=>exact k1 δ _ h G0 H0 G H σ _ R q
abbrev O9(c:Dv→Option Bool)(J1 J2:Ej):Ej:=fun δ=>(c δ).bind fun b=>if b=true then J1 δ else J2 δ
theorem O3(hc:DT X.GR c fa)(h1:N2 X E sts J1)(h2:N2 X E sts' J2):DX X E (.If c sts sts' pos) (O9 fa J1 J2):=by
 obtain⟨tc,pc,kc⟩:=hc;obtain⟨t1,p1,k1⟩:=h1;obtain⟨t2,p2,k2⟩:=h2;refine⟨_,DH (Ym pc) p1 p2,fun δ r h G0 H0 G H σ D R q=>?_⟩;obtain⟨b,h3,h4⟩:=aB.mp h;refine kc δ _ h3 G0 H0 G H σ [] _ R fun G1 H1 R1=>?_;split
 ·rename_i hb;rw[if_pos hb]at h4;exact k1 δ r h4 G0 H0 G1 H1 σ D R1 q
 ·rename_i hb;rw[if_neg hb]at h4;exact k2 δ r h4 G0 H0 G1 H1 σ D R1 q
abbrev Kc(C:Addr)(f:Dv→Option PyData):Ej:=fun δ=>(f δ).map fun _=>.inr C
theorem J3{x:Str}{C:Addr}{np cpos:Pos}(T:Exc X.K X.mg x C)(hL:Lets X E)(he:DE X.GR e f)(hcalm:X.calm=true:=by rfl)(hg:Gl X x:=by rfl)(hd:(x==("__debug__" : Str))=false:=by decide)
 (hst:starEach [e] X.env=[(false,eval e X.env)]:=by rfl):DX X E (.Raise (some (.Call (.Name x np) [e] [] cpos)) none pos) (Kc C f):=by
 obtain⟨t,p,k⟩:=he;refine⟨_,VF T hL hcalm hg (Ze p) hd hst,fun δ r h G0 H0 G H σ D R q=>?_⟩;obtain⟨y,h1,rfl⟩:=aC.mp h;exact k δ y h1 G0 H0 G H σ [] _ R fun v G' H' R'=>q _ R'.keep
theorem TM{k:Nat}{m:List PyData→Option Xr}{ta:TA}(ka:∀δ xs,fs δ=some xs→∀G0 H0 G H σ ts (Q:List V→Hp→Prop),Rw G0 H0 G H σ δ ts→(∀vs G' H',Rw G0 H0 G' H' σ δ (xs.zip vs++ts)→vs.length=xs.length→Q vs H')→ta σ H Q)
 {δ:Dv}{r:Xr}(hz:(fs δ).bind m=some r){G0 H0 G H:Hp}{σ:St}{Q:VK}{E':XK}(R:Rw G0 H0 G H σ δ [])(q1:∀x,r=.inl x→∀v G' H',Rw G0 H0 G' H' σ δ [(x,v)]→Q v H')(q2:∀C,r=.inr C→∀G' H',Rw G0 H0 G' H' σ δ []→E' (.ref C) none H') :
  ta σ H fun vs H1=>D0 m (vs++[]) H1 Q E':=by
 obtain⟨xs,h1,h2⟩:=aB.mp hz;refine ka δ _ h1 G0 H0 G H σ [] _ R fun vs G1 H1 R1 hv=>?_;obtain⟨d,R2⟩:=R1.args hv;refine⟨xs,r,G1,h2,by rw[List.append_nil];exact d,R2.ins,?_⟩;cases r with
 |inl x=>exact fun v G' H' h3 h4 h5 h6 h7=>q1 x rfl _ _ _ ((R2.lift h3 h4 h5 h6).put h7)
 |inr C=>exact fun H' h=>q2 C rfl _ _ (R2.on h)
section
variable{k:Nat}{fA:Addr}{fd:FuncData}{ps:List Str}{m:List PyData→Option Xr}{x:Str}{st':Stmt}
abbrev Jq(m:List PyData→Option Xr)(fs:Dv→Option (List PyData))(nx:PyData→Dv→Ou):Ej:=fun δ=>((fs δ).bind m).map fun r=>match r with
 |.inl x=>.inl (nx x δ)
 |.inr C=>.inr C
theorem LR(T:Fn X.K X.mg x st' ps fA fd)(F:AM X.prog X.w X.K X.mg X.base (Bz X.prog X.w) k fA fd ps (D0 m))(hr:CM k X.A)(hP:Passes (Bz X.prog X.w) X E)(ha:DA X.GR (e::es) fs)
 {pos2:Pos}(hP2:∀ {t:TE},PE X (.Call (.Name x p) (e::es) [] pos) t→PS X (.Expr (.Call (.Name x p) (e::es) [] pos) pos2) (Ot t))
 (hg:Gl X x:=by rfl)(hdb:(x==("__debug__" : Str))=false:=by decide)(he:starEach (e::es) X.env=(false,eval e X.env)::starEach es X.env:=by rfl)(hpl:(backTo pos (starEach es X.env)).any (·.1)=false:=by rfl) :
  DX X E (.Expr (.Call (.Name x p) (e::es) [] pos) pos2) (Jq m fs fun _ δ=>.nx δ):=by
 obtain⟨ta,pa,ka⟩:=ha;refine⟨_,hP2 (ZZ T F hr hg hP (bQ pa) hdb he hpl),fun δ r h G0 H0 G H σ D R q=>?_⟩;obtain⟨z,h1,rfl⟩:=aC.mp h;refine TM (k:=k) ka h1 R (fun x hx v G' H' R'=>?_) (fun C hC G' H' R'=>?_)
 ·subst hx;exact q _ _ _ R'.drop
 ·subst hC;exact q _ R'.keep
end
end
theorem Rw.cx{G0 H0 G H:Hp}{σ:St}{δ:Dv}{ts:List (PyData×V)}(k:Nat)(o:Option V)(r:Rw G0 H0 G H σ δ ts):Rw G0 H0 G H (σ.set k o) (δ.set k .no) ts:=by
 have ne:∀(j:Nat) (l:L),l≠.no→(δ.set k .no)[j]? = some l→k≠j∧δ[j]? = some l:=fun j l hl h=>by
  by_cases hj:k=j
  ·subst hj;by_cases hi:k<δ.length
   ·rw[List.getElem?_set_self hi]at h;cases h;exact absurd rfl hl
   ·rw[List.getElem?_eq_none (by simp;lia)]at h;cases h
  ·rw[List.getElem?_set_ne hj]at h;exact⟨hj,h⟩
 refine⟨r.ext,r.new,r.ins,r.keep,by simp[r.len],fun j y h=>?_,fun j zs h=>?_,fun j l us ws hjl h1 h2=>?_,r.A0⟩
 ·obtain⟨n,h⟩:=ne j _ (by simp) h;obtain⟨w,m1,m2⟩:=r.dat j y h;exact⟨w,by rw[List.getElem?_set_ne n];exact m1,m2⟩
 ·obtain⟨n,h⟩:=ne j _ (by simp) h;obtain⟨b,us,m1,m2⟩:=r.own j zs h;exact⟨b,us,by rw[List.getElem?_set_ne n];exact m1,m2⟩
 ·obtain⟨n1,h1⟩:=ne j _ (by simp) h1;obtain⟨n2,h2⟩:=ne l _ (by simp) h2;rw[List.getElem?_set_ne n1,List.getElem?_set_ne n2];exact r.apart j l us ws hjl h1 h2
section
variable{X:Cx}{a b:Expr}{f:Dv→Option PyData}{pos:Pos}
def ZA(T:Addr→Option Bool):PyData→Option PyData
 |.dict [(.int C,.none)]=>(T C.toNat).map .bool
 |_=>none
abbrev FK(T:Addr→Option Bool)(f:Dv→Option PyData):Dv→Option PyData:=fun δ=>(f δ).bind (ZA T)
theorem DN{T:Addr→Option Bool}{cv:V}{xT:Str}{p1 p2:Pos}(hk:∀C b,T C=some b→Bj X.K C∧PySem.W.kitOne X.K (.ref C) (Bq cv)=some b)(hn:Bq cv≠.none)(hg:Gl X "isinstance")(hm:X.mg "isinstance" = none)(hT:PE X (.Name xT p2) (tC cv))(ha:DE X a f)
 (hs1:starEach [a,.Name xT p2] X.env=(false,eval a X.env)::starEach [.Name xT p2] X.env:=by rfl)(hpl:(backTo pos (starEach [.Name xT p2] X.env)).any (·.1)=false:=by rfl) :
  DE X (.Call (.Name "isinstance" p1) [a,.Name xT p2] [] pos) (FK T f):=by
 obtain⟨ta,pa,ka⟩:=ha;refine⟨_,Au UX hg hm aM (AL pa (AL hT AZ) hs1) (by decide) (by decide) hs1 hpl,fun δ z hz G0 H0 G H σ ts Q R0 k=>?_⟩;obtain⟨x,h1,h2⟩:=aB.mp hz;unfold ZA at h2;split at h2
 ·rename_i C;obtain⟨bb,h3,rfl⟩:=aC.mp h2;refine ka δ _ h1 G0 H0 G H σ ts _ R0 fun u G1 H1 R1=>?_;have du:=R1.A0 _ (.head _);rw[Du]at du;rcases du with ⟨ea,C',e1,rfl,h4⟩|⟨_,_,e1,_⟩|z
  rotate_left
  ·simp at e1
  ·rw[IZ]at z;cases z.1
  have:C=(C':Nat):=by simpa using e1
  subst this;obtain⟨k1,k2⟩:=hk _ _ h3;rw[Int.toNat_natCast]at k1 k2;exact⟨ea,C',cv,bb,rfl,hn,R1.ins _ _ h4,k1,k2,k _ _ _ (R1.drop.put (by rw[Du]))⟩
 ·cases h2
end
def Em(ps N:List Str)(J:Ej)(ds:List PyData):Option Xr:=if ds.length=ps.length then(match J (Gb N ds) with
 |some (.inl (.rt x))=>some (.inl x)
 |some (.inl (.nx _))=>some (.inl .none)
 |some (.inl (.rn xs))=>some (.inl (.list xs))
 |some (.inr C)=>some (.inr C)
 |_=>none) else none
section
variable{P:Program}{w:World}{K:PySem.W.Frag}{mg:Str→Option Value}{base:Heap}{x:Str}{st:Stmt}{fA:Addr}{fd:FuncData}{N ps:List Str}{k:Nat}
theorem Oz{qual:Str}{scope:Scope}{cd:Value}{A:Around}{outer:List Env}{s:Shared}{H:Hp}{E:XK} :
  Lets (B4 (Bz P w) P w K mg base N qual scope fA cd A outer s H E) E:=fun _ _ _ _ _ _ _ _ I hx hE=>X8 I hx hE
theorem Ox{qual:Str}{scope:Scope}{cd:Value}{A:Around}{outer:List Env}{s:Shared}{H:Hp}{E:XK}:Passes (Bz P w) (B4 (Bz P w) P w K mg base N qual scope fA cd A outer s H E) E:=cj fun _ _ _ z=>z
theorem PV{J:Ej}(T:Fn K mg x st ps fA fd)(S:Af N ps (AO st))
 (hb:∀(cdv:Value) (A:Around) (outer:List Env) (s:Shared) (H:Hp) (E:XK),CM k (A.deeper (envOfC x (AO st) s.heap.objs.size fA cdv))→N2 (B4 (Bz P w) P w K mg base N x (AO st) fA cdv A outer s H E) E (Cs st) J) :
  AM P w K mg base (Bz P w) (k+1) fA fd ps (D0 (Em ps N J)):=by
 refine T.F.fW S (fun vs H Q E h=>?_) fun cdv A outer s H vs Q E hr h=>?_
 ·obtain⟨ds,y,G,h1,h2,_⟩:=h;unfold Em at h1;split at h1
  ·rename_i hl;rw[h2.len];exact hl
  ·cases h1
 ·obtain⟨ds,y,G,h1,h2,h3,h4⟩:=h;obtain⟨t,p,kk⟩:=hb cdv A outer s H E hr;refine⟨t,p,?_⟩;unfold Em at h1;split at h1
  ·split at h1
   ·rename_i z e1;cases h1;exact kk _ _ e1 G H G H _ _ (Rw.start h2 h3) fun v G' H' m1 m2 m3 m4 m5=>h4 v G' H' m1 m2 m3 m4 m5
   ·rename_i δ e1;cases h1;exact kk _ _ e1 G H G H _ _ (Rw.start h2 h3) fun σ' G' H' R=>h4 .BR G' H' R.ext R.new R.ins R.keep (by rw[Du])
   ·rename_i xs e1;cases h1;exact kk _ _ e1 G H G H _ _ (Rw.start h2 h3) fun a ys G' H' m1 m2 m3 m4 m5 m6 m7 m8=>let⟨n1,n2,n3,n4⟩:=WO m1 m2 m3 m5 m6 m7 m8;h4 _ _ H' n1 n2 n3 m4 n4
   ·rename_i C e1;cases h1;exact kk _ _ e1 G H G H _ _ (Rw.start h2 h3) h4
   ·cases h1
  ·cases h1
theorem AM.fQ{sp sp':Sp}(F:AM P w K mg base (Bz P w) k fA fd ps sp)(h:∀vs H Q E,sp' vs H Q E→sp vs H Q fun _ _ _=>False):AM P w K mg base A2 k fA fd ps sp' :=
 ⟨fun vs H Q E z=>F.len _ _ _ _ (h _ _ _ _ z),fun A outer s H args us vs Q E hr he hb hv hs=>codeAny_mono (F.run A outer s H args us vs Q _ hr he hb hv (h _ _ _ _ hs)) fun r s' z=>by
  cases r with
  |ok fl=>cases fl<;>exact z
  |error e=>obtain⟨_,_,_,_,_,_,_,z⟩:=z;exact z.elim⟩
def good(m:List PyData→Option Xr)(ds:List PyData):Option PyData:=match m ds with
 |some (.inl x)=>some x
 |_=>none
theorem dJ{m:List PyData→Option Xr}(F:AM P w K mg base (Bz P w) k fA fd ps (D0 m)):AM P w K mg base A2 k fA fd ps (Bu (good m)):=F.fQ fun vs H Q E z=>by
 obtain⟨ds,x,G,h1,h2,h3,h4⟩:=z;unfold good at h1;split at h1
 ·rename_i y e;cases h1;exact⟨ds,.inl x,G,e,h2,h3,h4⟩
 ·cases h1
end
abbrev WE(fs:Dv→Option (List PyData)):DF:=fun δ=>(fs δ).map .rn
abbrev Om(i:Nat):DF:=fun δ=>(ow i δ).map .rn
abbrev Ss(i:Nat)(fs:Dv→Option (List PyData)):DF:=fun δ=>(fs δ).map fun ys=>.nx (δ.set i (.own (.lst ys)))
section
variable{X:Cx}{a:Expr}{h:Dv→Option PyData}{pos:Pos}
theorem NU{i:Nat}{x:Str}{np:Pos}(hv:PE X (.Name x np) (F8 i)):DS X (.Return (some (.Name x np)) pos) (Om i):=by
 refine⟨_,BM hv,fun δ r h G0 H0 G H σ D R q=>?_⟩;obtain⟨xs,h1,rfl⟩:=aC.mp h;obtain⟨a,_,k1,k2,k3,k4,⟨ys,rfl,k5⟩⟩:=R.own i _ (Ia h1);exact⟨.ref a,k1,q a ys G H R.ext R.new R.ins R.keep k3 k2 k4 k5⟩
end
section
variable{X:Cx}{elt iter:Expr}{x:Str}{px pos spos:Pos}{ifs:List Expr}{scope:Scope}{fs:Dv→Option (List PyData)}{tif:Dv→Option Bool}{f:Dv→Option PyData}
theorem Xs(N:List Str)(ix:Nat)(fr:List (Option Nat))(hi:DI X (.Name x px) iter fs)(hif:∀cl C s₀ H₀ fp,OT (Ai X scope cl N C s₀ H₀ fp) ifs tif)(he:∀cl C s₀ H₀ fp,DE (Ai X scope cl N C s₀ H₀ fp) elt f)
 (h1:Bd scope N x ix=true:=by decide +kernel)(h2:X.calm=true:=by rfl)(h3:Dg N X.N scope X.env.scope fr 0=true:=by rfl)(h4:fr.length=N.length:=by rfl)(h5:freeOk X.env.scope scope.names=true:=by rfl)
 (hs:∀x,foldedSetIterable iter X.env x=pure x:=by intro _;rfl):DS X (.Return (some (.ListComp elt [⟨.Name x px,iter,ifs,0⟩] scope pos)) spos) (WE (Ee (CD ix) tif f fr fs)):=by
 obtain⟨wi,pi,ki⟩:=hi;refine⟨_,BM (Ma N ix fr pi hif (fun cl C s₀ H₀ fp=>(he cl C s₀ H₀ fp).pe) h1 h2 h3 h4 h5 hs),fun δ r h G0 H0 G H σ D R q=>?_⟩;obtain⟨zs,m1,rfl⟩:=aC.mp h;exact Jv ki m1 R fun D' ys G' H' R' n1 n2 n3 n4 n5=>q _ _ _ _ R'.ext R'.new R'.ins R'.keep n3 n2 n1 n5
theorem RG{i:Nat}{z:Str}{pz spos:Pos}(N:List Str)(ix:Nat)(fr:List (Option Nat))(hN:X.N.Nodup)(hy:X.N[i]? = some z)(hly:X.env.scope.names.lookup z=some .local)(hi:DI X (.Name x px) iter fs)(hif:∀cl C s₀ H₀ fp,OT (Ai X scope cl N C s₀ H₀ fp) ifs tif)(he:∀cl C s₀ H₀ fp,DE (Ai X scope cl N C s₀ H₀ fp) elt f)
 (h1:Bd scope N x ix=true:=by decide +kernel)(h2:X.calm=true:=by rfl)(h3:Dg N X.N scope X.env.scope fr 0=true:=by rfl)(h4:fr.length=N.length:=by rfl)(h5:freeOk X.env.scope scope.names=true:=by rfl)
 (hsw:swapsWith (.ListComp elt [⟨.Name x px,iter,ifs,0⟩] scope pos) (some (.Name z pz)) spos.line X.env=pure true:=by rfl)
 (hs:∀x,foldedSetIterable iter X.env x=pure x:=by intro _;rfl):DS X (.Assign [.Name z pz] (.ListComp elt [⟨.Name x px,iter,ifs,0⟩] scope pos) spos) (Ss i (Ee (CD ix) tif f fr fs)):=by
 obtain⟨wi,pi,ki⟩:=hi;refine⟨_,Lv N ix fr hN hy hly pi hif (fun cl C s₀ H₀ fp=>(he cl C s₀ H₀ fp).pe) h1 h2 h3 h4 h5 hsw hs,fun δ r h G0 H0 G H σ D R q=>?_⟩;obtain⟨zs,m1,rfl⟩:=aC.mp h;exact Jv ki m1 R fun D' ys G' H' R' n1 n2 n3 n4 n5=>q _ _ _ (R'.Wy ⟨_,rfl,n5⟩ n1 n2 n3 n4)
end
section
variable{N ps:List Str} 
theorem Q6{F:DF}{ds xs:List PyData}(hl:ds.length=ps.length)(h:F (Gb N ds)=some (.rn xs)):Cy ps N F ds=some (.list xs):=by unfold Cy;rw[if_pos hl,h]
theorem XY{J:Ej}{ds:List PyData}{y:PyData}(hl:ds.length=ps.length)(h:J (Gb N ds)=some (.inl (.rt y))):Em ps N J ds=some (.inl y):=by unfold Em;rw[if_pos hl,h]
theorem XC{J:Ej}{ds:List PyData}{δ:Dv}(hl:ds.length=ps.length)(h:J (Gb N ds)=some (.inl (.nx δ))):Em ps N J ds=some (.inl .none):=by unfold Em;rw[if_pos hl,h]
theorem NI{J:Ej}{ds:List PyData}{C:Addr}(hl:ds.length=ps.length)(h:J (Gb N ds)=some (.inr C)):Em ps N J ds=some (.inr C):=by unfold Em;rw[if_pos hl,h]
end
section
variable{J1 J2:Ej}{δ δ':Dv}{r:Option Wf}{c:Dv→Option Bool}{fs:Dv→Option (List PyData)}{m:List PyData→Option Xr}{ds xs:List PyData}{f:Dv→Option PyData}{fr:List (Option Nat)}{g:PyData→PyData}
theorem Nv(h:J1 δ=some (.inl (.nx δ')))(k:J2 δ'=r):IA J1 J2 δ=r:=by unfold IA;rw[h];exact k
theorem RF{C:Addr}(h:J1 δ=some (.inr C)):IA J1 J2 δ=some (.inr C):=by unfold IA;rw[h]
theorem WX(h:c δ=some true)(k:J1 δ=r):O9 c J1 J2 δ=r:=by show(c δ).bind _=r;rw[h];exact k
theorem WN(h:c δ=some false)(k:J2 δ=r):O9 c J1 J2 δ=r:=by show(c δ).bind _=r;rw[h];exact k
theorem PM{nx:PyData→Dv→Ou}{y:PyData}(h:fs δ=some ds)(k:m ds=some (.inl y)):Jq m fs nx δ=some (.inl (nx y δ)):=by show((fs δ).bind m).map _=_;rw[h];show(m ds).map _=_;rw[k];rfl
theorem Vx{nx:PyData→Dv→Ou}{C:Addr}(h:fs δ=some ds)(k:m ds=some (.inr C)):Jq m fs nx δ=some (.inr C):=by show((fs δ).bind m).map _=_;rw[h];show(m ds).map _=_;rw[k];rfl
theorem Tn{ix:Nat}(hx:fs δ=some xs)(hl:xs.length≤Co)(h:∀x∈xs,f ((Bh fr δ).set ix (.d x))=some (g x)):Ee (CD ix) DP f fr fs δ=some (xs.map g):=by
 have:=comp_map hx hl h;unfold Cb at this;obtain⟨ys,h1,h2⟩:=aC.mp this;cases h2;exact h1
end
def only(cs:List Addr)(m:List PyData→Option Xr)(ds:List PyData):Option Xr:=match m ds with
 |some (.inr C)=>if C∈cs then some (.inr C) else none
 |r=>r
theorem NF{cs:List Addr}{m:List PyData→Option Xr}{ds:List PyData}{C:Addr}(h:only cs m ds=some (.inr C)):C∈cs:=by
 unfold only at h;split at h
 ·split at h
  ·rename_i hc;cases h;exact hc
  ·cases h
 ·rename_i n;exact absurd h (n C)
theorem Q2{cs:List Addr}{m:List PyData→Option Xr}{ds:List PyData}{C:Addr}(h:m ds=some (.inr C))(hc:C∈cs):only cs m ds=some (.inr C):=by unfold only;rw[h];exact if_pos hc
theorem Xc{cs:List Addr}{m:List PyData→Option Xr}{ds:List PyData}{x:PyData}(h:m ds=some (.inl x)):only cs m ds=some (.inl x):=by unfold only;rw[h]
theorem MG{P:Program}{w:World}{K:PySem.W.Frag}{mg:Str→Option Value}{base:Heap}{CX:Fs}{k:Nat}{f:Addr}{fd:FuncData}{ps:List Str}{m:List PyData→Option Xr}(cs:List Addr)(F:AM P w K mg base CX k f fd ps (D0 m)):AM P w K mg base CX k f fd ps (D0 (only cs m)) :=
 F.imp fun vs H Q E z=>by
  obtain⟨ds,r,G,h1,h2⟩:=z;refine⟨ds,r,G,?_,h2⟩;unfold only at h1;split at h1
  ·rename_i C e;split at h1
   ·cases h1;exact e
   ·cases h1
  ·exact h1
section
variable{xs:List PyData}
theorem add_l{a b:List PyData}(h:a.length+b.length≤Co):BB (.list a) (.list b)=some (.list (a++b)):=by
 show Ft Sw (Ft HX (Ft Jz NN)) (.list a) (.list b)=_;have:HX (.list a) (.list b)=some (.list (a++b)):=if_pos h;unfold Ft;show(match HX (.list a) (.list b) with|some z=>some z|none=>_)=_;rw[this]
theorem UJ(xs:List PyData)(p:Nat):cutD xs (some (p:Int)) none=xs.drop p:=by
 unfold cutD;rw[HT.U6,HT.Q1];by_cases h:p≤xs.length
 ·rw[Nat.min_eq_left h,List.take_of_length_le (by rw[List.length_drop];lia)]
 ·rw[Nat.min_eq_right (by lia),Nat.sub_self,List.take_zero,List.drop_of_length_le (by lia)]
end
section
variable{F F1 F2:DF}{δ δ':Dv}{fs:Dv→Option (List PyData)}{xs:List PyData}{set:PyData→Dv→Option Dv} 
theorem GH{Q:Dv→Prop}(h:F1 δ=some (.nx δ'))(k:∃δ2,F2 δ'=some (.nx δ2)∧Q δ2):∃δ2,AQ F1 F2 δ=some (.nx δ2)∧Q δ2:=let⟨δ2,a,b⟩:=k;⟨δ2,Ah h a,b⟩
theorem ZR(Iv:Nat→Dv→Prop)(hx:fs δ=some xs)(h0:Iv 0 δ)(hs:∀(i:Nat) (x:PyData) (δ:Dv),xs[i]? = some x→Iv i δ→∃δ1,set x δ=some δ1∧∃δ2,F δ1=some (.nx δ2)∧Iv (i+1) δ2) :
  ∃δ',FX fs set F δ=some (.nx δ')∧Iv xs.length δ':=Uw Iv hx h0 fun i x δ a b=>let⟨δ1,c,δ2,e,g⟩:=hs i x δ a b;⟨δ1,δ2,c,e,g⟩
theorem LW{Q:Dv→Prop}(Iv:Nat→Dv→Prop)(hx:fs δ=some xs)(h0:Iv 0 δ)(hs:∀(i:Nat) (x:PyData) (δ:Dv),xs[i]? = some x→Iv i δ→∃δ1,set x δ=some δ1∧∃δ2,F δ1=some (.nx δ2)∧Iv (i+1) δ2)(hq:∀δ,Iv xs.length δ→Q δ) :
  ∃δ',FX fs set F δ=some (.nx δ')∧Q δ':=let⟨δ',a,b⟩:=ZR Iv hx h0 hs;⟨δ',a,hq _ b⟩
theorem W3{f:Dv→Option PyData}{x:PyData}(h:f δ=some x)(k:HE x=some xs):ER f δ=some xs:=by show(f δ).bind HE=_;rw[h];exact k
end
end L2
set_option maxHeartbeats 2000000
namespace L2
open PySem PySem.Spec PyProof.Rows
inductive MX(X:Cx)(C ea:Addr)(k:Nat):List ExceptHandler→TS→Prop
 |hit {x n:Str} {G:Addr} {np hpos:Pos} {b0:Stmt} {suite:List Stmt} {rest:List ExceptHandler} {t:TS} (hg:Gl X x) (hm:X.mg x=some (.ref G)) (hd:(x==("__debug__" : Str))=false) (hB:A5 X.K C G true) (hk:X.N[k]? = some n) (hln:X.env.scope.names.lookup n=some .local) (hb:FZ (X.held ea) (b0::suite) t) :
   MX X C ea k (.ExceptHandler (some (.Name x np)) (some n) (b0::suite) hpos::rest) t
 |miss {x n:Str} {G:Addr} {np hpos:Pos} {b0:Stmt} {suite:List Stmt} {rest:List ExceptHandler} {t:TS} (hg:Gl X x) (hm:X.mg x=some (.ref G)) (hd:(x==("__debug__" : Str))=false) (hB:A5 X.K C G false) (r:MX X C ea k rest t) :
   MX X C ea k (.ExceptHandler (some (.Name x np)) (some n) (b0::suite) hpos::rest) t
def Ow(D:Ends)(k:Nat):Ends:={ nx:=fun σ' H2=>D.nx (σ'.set k none) H2,rt:=fun _ _=>False}
section
variable{X:Cx}{pins:List (Addr×Obj)}{σ:St}{D:Ends}
theorem Vm{H0 H':Hp}{s0 s1:Shared}{ea C:Addr}{a0:Value}{B:Heap}{k:Nat}{h5:Heap}(hN:X.N.Nodup)(hcalm:X.calm=true)(I:Inv X pins σ H0 s0)(F:Rr X.prog X.w X.stack H0 s0 ea (.ref C) a0 H' s1 B){rest':List Env}(hrest:X.stack=X.env::rest')(hfr:X.env.frame=some X.env.locals)
 (fl5:Heap.FlyingW B (X.env::rest') ea (.ref C) a0 h5)(up05:s1.heap.UpToSlots h5)(I5:Inv X pins σ H' {s1 with heap:=h5,toks:=s1.toks}) :
  ∀ {hs:List ExceptHandler} {t:TS},MX X C ea k hs t→(H' ea=none→t (Ow D k) (σ.set k (some (.ref ea))) (upd H' ea (Im ea (.ref C))))→wpAny (model X.prog X.w) X.A (handleBy (.ref ea) X.env hs) (SP X pins D) X.xe {s1 with heap:=h5,toks:=s1.toks}:=by
 obtain⟨ob,hob,hobc⟩:=fl5.there;intro hs t Aa q
 induction Aa with
 |miss hg hm hd hB r ih =>
  refine wpAny_handleBy_cons (codeAny_handlers_test (JN (I5.held ea) hg hm ?_ hd)) (by intro q;cases q);exact P5 (K:=X.K) I5.EG hob hobc hB (ih q)
 | @hit x n G np hpos b0 suite rest t hg hm hd hB hk hln hb =>
  refine wpAny_handleBy_cons (codeAny_handlers_test (JN (I5.held ea) hg hm ?_ hd)) (by intro q;cases q);refine P5 (K:=X.K) I5.EG hob hobc hB (codeAny_handlers_suite_as ?_);refine lands_againW fl5 fun h6 fl6 up6=>?_;have I6:Inv X pins σ H' {s1 with heap:=h6,toks:=s1.toks}:=land I F fl6.1 (up05.trans up6);obtain⟨oe,ws,e1,e2,e3,_⟩:=fl6.first
  obtain⟨hfree,I7⟩:=cV I F I6 ⟨oe,ws,e1,e2,e3⟩;refine ID (X:=X.held ea) (I7.held ea) hN hk (.inl hln) (v:=.ref ea) rfl (fun s8 I8=>?_) (.inr hln);refine aN (hb pins s8 _ _ (Ow D k) I8 (q hfree)) (fun fl s9 h9=>?_) fun _ _ z=>z.elim;cases fl with
  |next =>
   obtain⟨σ9,H9,I9,e9⟩:=h9;exact eE (I9.Z4 I.ok) hN hk hln fun s' I'=>⟨_,_,I',e9⟩
  |brk=>obtain⟨_,_,_,z⟩:=h9;exact z.elim
  |cont=>obtain⟨_,_,_,z⟩:=h9;exact z.elim
  |ret v=>obtain⟨_,_,_,_,_,z⟩:=h9;exact z.elim
def b8(X:Cx)(k:Nat)(hs:List ExceptHandler)(t:TX):TS:=fun D σ H=>t σ H (fun _ H1=>D.nx σ H1) fun cls _ H'=>∃C,cls=.ref C∧∀ea,∃tb,MX X C ea k hs tb∧(H' ea=none→tb (Ow D k) (σ.set k (some (.ref ea))) (upd H' ea (Im ea cls)))
theorem X7{e:Expr}{t:TX}{k:Nat}{h0:ExceptHandler}{hs:List ExceptHandler}{spos pos:Pos}(he:dn X e t)(hN:X.N.Nodup)(hcalm:X.calm=true)(hstk:∃rest,X.stack=X.env::rest)(hfr:X.env.frame=some X.env.locals)
 (hse:swapsWith e none spos.line X.env=pure false:=by rfl):PS X (.Try [.Expr e spos] (h0::hs) [] [] pos) (b8 X k (h0::hs) t):=by
 intro pins s σ H D I h;refine wpAny_Try_except (wpAny_execs_cons (wpAny_Expr_any (aN (he pins s σ H _ _ I h) (fun v s1 ⟨w,H1,I1,r1,q1⟩=>?_) fun ev s1 hf=>?_) I.quiet hse))
 ·exact wpAny_execs_nil (wpAny_execs_nil ⟨_,H1,I1,q1⟩)
 ·obtain⟨H0,s0,I,ea,cls,a0,H',B,ee,F,C,hc,q⟩:=hf;subst ee hc;obtain⟨rest,hrest⟩:=hstk;have F1:=F.Zs;rw[hrest]at F1;have hfrm:X.A.frames=some (X.env::rest):=by rw[←hrest];exact I.ok.frames
  refine wpAny_looks_onW hfrm hfr F1 fun h4 held4 up4=>?_;refine wpAny_landsW held4 fun h5 fl5 up5=>?_;have up05:=up4.trans up5;have I5:Inv X pins σ H' {s1 with heap:=h5,toks:=s1.toks}:=land I F fl5.1 up05;obtain⟨tb,q1,q2⟩:=q ea;exact Vm hN hcalm I F hrest hfr fl5 up05 I5 q1 q2
end
def Wl(X:Cx)(C ea:Addr)(k:Nat)(hs:List ExceptHandler)(F:DF):Prop:=∃tb,MX X C ea k hs tb∧∀δ r,F δ=some r→∀G0 H0 G H σ D,Rw G0 H0 G H σ δ []→Fin G0 H0 D r→tb D σ H
section
variable{X:Cx}{C ea:Addr}{k:Nat}{x n:Str}{G:Addr}{np hpos:Pos}{b0:Stmt}{suite:List Stmt}{rest:List ExceptHandler}{F:DF}
theorem Mh(hm:X.mg x=some (.ref G))(hB:A5 X.K C G true)(hb:Li (X.held ea) (b0::suite) F)(hg:Gl X x:=by rfl)(hd:(x==("__debug__" : Str))=false:=by decide)(hk:X.N[k]? = some n:=by rfl)(hln:X.env.scope.names.lookup n=some .local:=by rfl) :
  Wl X C ea k (.ExceptHandler (some (.Name x np)) (some n) (b0::suite) hpos::rest) F:=let⟨t,p,q⟩:=hb;⟨t,.hit hg hm hd hB hk hln p,q⟩
theorem HP(hm:X.mg x=some (.ref G))(hB:A5 X.K C G false)(r:Wl X C ea k rest F)(hg:Gl X x:=by rfl)(hd:(x==("__debug__" : Str))=false:=by decide) :
  Wl X C ea k (.ExceptHandler (some (.Name x np)) (some n) (b0::suite) hpos::rest) F:=let⟨t,p,q⟩:=r;⟨t,.miss hg hm hd hB p,q⟩
end
def Yx(k:Nat):Ou→Option Ou
 |.nx δ=>some (.nx (δ.set k .no))
 |_=>none
abbrev Oo(k:Nat)(m:List PyData→Option Xr)(fs:Dv→Option (List PyData))(Fh:Addr→DF):DF:=fun δ=>((fs δ).bind m).bind fun r=>match r with
 |.inl _=>some (.nx δ)
 |.inr C=>(Fh C (δ.set k (.d (FA C)))).bind (Yx k)
section
variable{fs:Dv→Option (List PyData)} 
theorem U8{k:Nat}{δ:Dv}{ds:List PyData}{m:List PyData→Option Xr}{Fh:Addr→DF}{y:PyData}(h:fs δ=some ds)(q:m ds=some (.inl y)):Oo k m fs Fh δ=some (.nx δ):=by show((fs δ).bind m).bind _=_;rw[h];show(m ds).bind _=_;rw[q];rfl
theorem Vg{k:Nat}{δ δ':Dv}{ds:List PyData}{m:List PyData→Option Xr}{Fh:Addr→DF}{C:Addr}(h:fs δ=some ds)(q:m ds=some (.inr C))(z:Fh C (δ.set k (.d (FA C)))=some (.nx δ')):Oo k m fs Fh δ=some (.nx (δ'.set k .no)):=by
 show((fs δ).bind m).bind _=_;rw[h];show(m ds).bind _=_;rw[q];show(Fh C (δ.set k (.d (FA C)))).bind (Yx k)=_;rw[z];rfl
end
end L2
set_option maxHeartbeats 1000000
set_option maxHeartbeats 4000000
set_option maxHeartbeats 1000000
set_option maxHeartbeats 4000000
set_option maxHeartbeats 1000000
namespace L2
open PySem PySem.Spec PyProof.Rows
abbrev Kt(i:Nat)(f:Dv→Option PyData):DF:=fun δ=>(f δ).bind fun x=>match x with
 |.list xs=>some (.nx (δ.set i (.own (.lst xs))))
 |_=>none
section
variable{X:Cx}{a b:Expr}{f g:Dv→Option PyData}{i:Nat}{y:Str}{pos pos' p cp:Pos}
theorem UE(ha:DE X a f)(hb:DE X b g)(hN:X.N.Nodup)(hi':X.N[i]? = some y)(hx:Loc X.env.scope y)
 (hs:swapsWith (.BinOp a .Add b cp) (some (.Name y pos')) pos.line X.env=pure false:=by rfl)(hf:X.fn y=true∨X.env.scope.names.lookup y=some .local:=by first|exact .inl rfl|exact .inr rfl|assumption) :
  DS X (.Assign [.Name y pos'] (.BinOp a .Add b cp) pos) (Kt i (AK HX f g)):=by
 obtain⟨ta,pa,ka⟩:=ha;obtain⟨tb,pb,kb⟩:=hb;refine⟨_,Dj hN hi' hx (HJ TF pa pb) hs hf,fun δ r hz G0 H0 G H σ D R q=>?_⟩;obtain⟨z,h1,h2⟩:=aB.mp hz;obtain⟨x,y,h3,h4,h5⟩:=two (x:=.none) (y:=.none) h1;refine ka δ x h3 G0 H0 G H σ [] _ R fun u G1 H1 R1=>?_;refine kb δ y h4 G0 H0 G1 H1 σ _ _ R1 fun v G2 H2 R2=>?_;have du:=R2.A0 (x,u) (.tail _ (.head _));have dv:=R2.A0 (y,v) (.head _);unfold HX at h5;split at h5
 ·split at h5
  ·rename_i hl;cases h5;cases h2;rw[Du]at du dv;obtain⟨p,xs,rfl,k1,k2⟩:=du;obtain⟨q',ys,rfl,k3,k4⟩:=dv;exact⟨p,q',xs,ys,rfl,rfl,R2.ins _ _ k1,R2.ins _ _ k3,Di (by rw[k2.len,k4.len];exact hl),fun l hl'=>q _ _ _ (R2.drop.drop.Mt ⟨_,rfl,k2.app k4⟩ hl')⟩
  ·cases h5
 ·cases h5
end
end L2
set_option maxHeartbeats 4000000
set_option maxHeartbeats 1000000
namespace L2
open PySem PySem.Spec PyProof.Rows
def less(G:Hp)(a:Addr):Hp:=fun b=>if b=a then none else G b
theorem LQ{G:Hp}{a b:Addr}(h:b≠a):less G a b=G b:=if_neg h
theorem Xq{G:Hp}{a:Addr}:less G a a=none:=if_pos rfl
end L2
set_option maxHeartbeats 4000000
set_option maxHeartbeats 1000000
set_option maxHeartbeats 4000000
set_option maxHeartbeats 1000000
set_option maxHeartbeats 2000000
set_option maxHeartbeats 4000000
set_option maxHeartbeats 1000000
namespace L2
open PySem PySem.Spec PyProof.Rows
def Wj:PyData→PyData→Option PyData:=fun x y=>(Fg x).bind fun t=>(Fg y).bind fun u=>if t.deep≤60 then some (.bool (Tr.lt u t)) else none
theorem WJ{G:Hp}{x:PyData}{t:Tr}{v:V}(h:Fg x=some t)(d:Du G x v):Tv G t v:=by
 cases x with
 |tuple ds =>
  rw[Fg]at h;have:=Pq h;subst this;rw[Du]at d;obtain⟨a,xs,rfl,h1,h2⟩:=d;exact⟨a,xs,rfl,h1,PH h2⟩
 |_=>simp[Fg]at h
theorem YB{X:Cx}(hu:X.A.units+64<cLine):Cf X (compareOp .Gt) Wj:=by
 refine⟨_,W9 hu,fun x y z hz G0 H0 G H σ δ ts u v Q R du dv k=>?_⟩;obtain⟨t,h1,hz⟩:=aB.mp hz;obtain⟨t',h2,hz⟩:=aB.mp hz;split at hz
 ·rename_i hd;cases hz;exact⟨t,t',(WJ h1 du).same R.ins,(WJ h2 dv).same R.ins,hd,k _ _ _ (R.put (by rw[Du]))⟩
 ·cases hz
end L2
set_option maxHeartbeats 4000000
set_option maxHeartbeats 1000000
set_option maxHeartbeats 4000000
set_option maxHeartbeats 1000000
namespace L2
open PySem PySem.Spec PyProof.Rows
section
variable{e:Expr}    
def strsOf:List PyData→Option (List Str)
 |[]=>some []
 |.str x::r=>(strsOf r).map (x :: ·)
 |_=>none
theorem N0:∀ {xs:List PyData} {ys:List Str},strsOf xs=some ys→xs=ys.map PyData.str
 |[],_,e=>by cases e;rfl
 |.str x::r,_,e=>by
  rw[strsOf]at e;obtain⟨zs,h1,rfl⟩:=aC.mp e;rw[N0 h1];rfl
 |.none::_,_,e=>by cases e
 |.bool _::_,_,e=>by cases e
 |.int _::_,_,e=>by cases e
 |.tuple _::_,_,e=>by cases e
 |.list _::_,_,e=>by cases e
 |.dict _::_,_,e=>by cases e
theorem M4:∀ys:List Str,strsOf (ys.map PyData.str)=some ys
 |[]=>rfl
 |y::ys=>by rw[List.map_cons,strsOf,M4 ys];rfl
theorem QO{G:Hp}:∀ {ys:List Str} {us:List V},Ac G (ys.map PyData.str) us→us=ys.map V.str
 |[],_,d=>d.nil_eq
 |y::ys,_,d=>by
  obtain⟨u,r,rfl,d1,d2⟩:=d.un;rw[Du]at d1;subst d1;rw[QO d2];rfl
theorem K1:∀ {ys:List Str} {us:List Value},Vals (ys.map V.str) us→CarriedAll us (ys.map PyData.str)
 |[],_,.nil=>.nil
 |y::ys,_,.cons ⟨t,e⟩ r=>by subst e;exact .cons (.str _ _) (K1 r)
end
end L2
set_option maxHeartbeats 4000000
namespace L2
open PySem PySem.Spec PyProof.Rows
theorem Se:∀ {u:Value} {x:V},Nq u=some x→RelV x u
 |.none,_,e=>by cases e;exact rfl
 |.bool _,_,e=>by cases e;exact rfl
 |.int _ _,_,e=>by cases e;exact⟨_,rfl⟩
 |.str _ _,_,e=>by cases e;exact⟨_,rfl⟩
 |.bytes _ _,_,e=>by cases e;exact⟨_,rfl⟩
 |.float _ _,_,e=>by cases e;exact⟨_,rfl⟩
 |.ref _,_,e=>by cases e;exact rfl
 |.type _,_,e=>by cases e;exact rfl
theorem Ll:∀ {us:List Value} {xs:List V},us.map Nq=xs.map some→Vals xs us
 |[],[],_=>.nil
 |[],_::_,e=>by simp at e
 |_::_,[],e=>by simp at e
 |_::_,_::_,e=>by
  simp only[List.map_cons,List.cons.injEq]at e;exact .cons (Se e.1) (Ll e.2)
abbrev Rq(its:List Value):Obj:=⟨.type "tuple",none,.seq its.toArray 0,#[]⟩
def Gw(d:Nat):Hp:=fun(b:Nat)=>if b=d then some (.tup Gd) else none
theorem HW{d b:Nat}{u:HO}(e:Gw d b=some u):b=d∧u=.tup Gd:=by
 unfold Gw at e;split at e
 ·rename_i h;cases e;exact⟨h,rfl⟩
 ·cases e
theorem X9{P:Program}{w:World}{d:Nat}{its:List Value}{h:Heap}(hs:its.map Nq=Gd.map some)(e:h.get? d=some (Rq its)):CV P w (Gw d) h:=fun b u q=>by
 obtain⟨rfl,rfl⟩:=HW q;exact⟨(by decide:(4:Nat)≤sizeLine),its,Ll hs,_,e,rfl,0,rfl⟩
theorem UP:∀ {l:PySem.W.Frag} {b:Nat} {o:Obj},l.lookup b=some o→((b,o):Addr×Obj)∈l
 |[],_,_,e=>by cases e
 |(c,p)::l,b,o,e=>by
  rw[List.lookup_cons]at e;by_cases h:b=c
  ·subst h;simp at e;subst e;exact .head _
  ·rw[beq_eq_false_iff_ne.mpr h]at e;exact .tail _ (UP e)
theorem Um{P:Program}{w:World}{K:PySem.W.Frag}{mg mb:Str→Option Value}{CX:Fs}{k:Nat}{fa a:Addr}{fd:FuncData}{x:Str}{sp:Sp}{s₁:Shared}{vs:List Value}{ns:List Int}{d:Nat}{its:List Value}
 (KX:K.In s₁.heap)(hU:s₁.heap.get? d=some (Rq its))(hsm:its.map Nq=Gd.map some)(hTN:cStatics<d∧mainGlobals<d∧builtinsNs<d)(hTK:K.lookup d=none)(hmg:mg "UNKNOWNS" = some (.ref d))(hun:mg "NAMED_TABLES" = none)
 (hns:s₁.heap.Ns mainGlobals mg)(hb:s₁.heap.Ns builtinsNs mb)(hbb:∀x:Str,x ≠ "__name__" → mb x=bootBuiltins x)(hlim:s₁.heap.NoLimit)(hg:s₁.gens=#[])
 (ha:s₁.heap.get? a=some { cls:=.type "list",data:=.seq vs.toArray})(hi:IntsAre vs ns)(hl:ns.length≤sizeLine)(hr:CM k callerA)
 (F:∀base:Heap,K.In base→base.Ns mainGlobals mg→AM P w K mg base CX k fa fd [x] sp)(hbind:∀(s:Shared) (u:Value),BindsTo s fd ⟨[u],[]⟩ [(x,u)])
 (hsp:∀H:Hp,A3 K H a (ns.map V.int)→sp [.ref a] H (fun v _=>v=.bl true) fun _ _ _=>False)
 (hCX:∀H e s',CX [] H s₁ (fun _ _ _=>False) e s'→False) :
  codeAny (model P w) callerA (.call (.ref fa) ⟨[.ref a],[]⟩) (fun r s'=>r=.ok (.ret (.bool true))∧OldK s₁.heap s'.heap∧s'.os=s₁.os∧AllBare s'.gens) s₁:=by
 have rv:=OB hi;have lenV:=hi.length;have tok:=X9 (P:=P) (w:=w) hsm hU;have Ta:Gw d a=none:=by
  cases q:Gw d a with
  |none=>rfl
  |some u =>
   obtain⟨rfl,_⟩:=HW q;rw[ha]at hU;have z:=bA Obj.cls (aS hU);simp at z
 have core:∀H:Hp,(∀b,b≠a→H b=Gw d b)→(H a=none∨∃o xs,H a=some (.DV o (.lst xs)))→A3 K H a (ns.map V.int)→CV P w H s₁.heap→(H a≠none→K.lookup a=none) →
   codeAny (model P w) callerA (.call (.ref fa) ⟨[.ref a],[]⟩) (fun r s'=>r=.ok (.ret (.bool true))∧OldK s₁.heap s'.heap∧s'.os=s₁.os∧AllBare s'.gens) s₁:=by
  intro H hO hA hS Aa hK;have hT:∀b u,Gw d b=some u→H b=some u:=fun b u e=>by
   rw[hO b (fun z=>by rw[z,Ta]at e;cases e)];exact e
  have dicA:∀ {m:Str→Option Value},s₁.heap.Ns a m→False:=fun {m} ⟨o,es,ep,e,q,_⟩=>by
   rw[ha]at e;cases e;have q':Data.seq vs.toArray _=Data.dict es ep:=q;cases q'
  have nsK:∀ {b:Nat} {m:Str→Option Value},b<d→s₁.heap.Ns b m→(K3 s₁.heap H).Ns b m:=fun {b m} hlt N=>by
   have hn:H b=none:=by
    have hba:b≠a:=fun z=>dicA (z ▸ N);rw[hO b hba];cases q:Gw d b with
    |none=>rfl
    |some u=>have:=(HW q).1;lia
   obtain⟨o,es,ep,e,r⟩:=N;exact⟨o,es,ep,P4 e hn,r⟩
  have hKb:K.In (K3 s₁.heap H):=fun b o e=>P4 (KX b o e) (by
   by_cases hba:b=a
   ·subst hba;cases q:H b with
    |none=>rfl
    |some u=>rw[hK (by rw[q];simp)]at e;cases e
   ·rw[hO b hba];cases q:Gw d b with
    |none=>rfl
    |some u=>rw[(HW q).1,hTK]at e;cases e)
  have hM:Mod K mg (K3 s₁.heap H):=⟨hKb,nsK hTN.2.1 hns,⟨mb,nsK hTN.2.2 hb,hbb⟩,let⟨mc,h1,h2⟩:=hlim;⟨mc,nsK hTN.1 h1,h2⟩⟩;have kt:KTb mg H:=⟨fun d e=>(by rw[hun]at e;cases e),fun d' e=>by
   rw[hmg]at e;cases e;exact hT _ _ (if_pos rfl)⟩
  have e0:Sk P w K mg (K3 s₁.heap H) callerA [] s₁ H:=⟨rfl,hM,fun b o e=>XR e,Nat.le_of_eq (UC _ _),trivial,fun b hb=>absurd (show b∈([]:List Addr) from hb) (by simp),Aa,.of_eq hg,kt⟩;refine codeAny_mono ((F _ hKb (nsK hTN.2.1 hns)).run callerA [] s₁ H ⟨[.ref a],[]⟩ [.ref a] [.ref a] _ _ hr e0 (hbind s₁ (.ref a)) (.cons rfl .nil) (hsp H hS)) fun r s' h=>?_;cases r with
  |error e=>exact(hCX H e s' h).elim
  |ok fl =>
   cases fl with
   |next=>exact False.elim h
   |brk=>exact False.elim h
   |cont=>exact False.elim h
   |ret u =>
    obtain⟨v,H',os,bare,un,hok',r',q⟩:=h;have q':v=.bl true:=q;subst q';obtain rfl:u=Value.bool true:=r';have kf:∀b o ob u,s₁.heap.get? b=some o→H b=some (.DV ob u)→s'.heap.get? b=some o:=fun b o ob u e z=>by
     obtain⟨e1,_⟩:=Aa b _ z;obtain⟨e2,_⟩:=hok' b _ (un.EB b ob _ z);rw[e]at e1;cases e1;exact e2
    refine⟨rfl,OldK.of_keep fun b o e=>?_,os,bare⟩;by_cases hba:b=a
    ·subst hba;rcases hA with z|⟨ob,xs,z⟩
     ·exact un.keep b o e z (by intro z;exact absurd (show b∈([]:List Addr) from z) (by simp)) (by simp)
     ·exact kf b o ob _ e z
    ·have hb':=hO b hba;cases q:Gw d b with
     |none=>exact un.keep b o e (hb'.trans q) (by intro z;exact absurd (show b∈([]:List Addr) from z) (by simp)) (by simp)
     |some u =>
      rw[q]at hb';obtain⟨_,rfl⟩:=HW q;exact un.EI b _ o hb' e (by simp)
 cases hk:K.lookup a with
 |some o =>
  have e:=KX a o hk;rw[ha]at e;cases e;refine core (Gw d) (fun _ _=>rfl) (.inl Ta) (.inr ⟨_,vs.toArray,_,hk,rfl,rfl,rfl,by rw[List.size_toArray,lenV];exact hl,by simpa using rv⟩) tok fun z=>absurd Ta z
 |none =>
  refine core (upd (Gw d) a (.DV { cls:=.type "list",data:=.seq vs.toArray} (.lst (ns.map V.int)))) (fun b hb=>AR hb) (.inr ⟨_,_,AW⟩) (.inl (.inr ⟨{ cls:=.type "list",data:=.seq vs.toArray},AW⟩)) (fun b u z=>?_) fun _=>hk;by_cases hb:b=a
  ·subst hb;rw[AW]at z;cases z;exact⟨ha,by rw[List.length_map];exact hl,vs,_,rv,ha⟩
  ·rw[AR hb]at z;exact(tok b u z).Gr (fun _ _ _ q=>q) (fun c q=>by rw[AR (BG q Ta)];exact q) fun c xs q=>by rw[AR (BG q Ta)];exact q
theorem V1{l:PySem.W.OpenLaw}{n k:Nat}{q:Program}{loose:List Str}{XP:(Str→Option Value)→Heap→Prop}{YP:World→Heap→Prop}{d:DefRec}{K:Params→PySem.W.Frag}{CX:World→Fs}{sp:World→Sp}{x:Str}{da:Nat}{its:List Value}
 (hn:l.most=some n)(hn2:n≤sizeLine)(hdf:d.params.defaults=[])(hr:CM k callerA)
 (hY:∀(w:World) (h:Heap),YP w h→PySem.W.Frag.In ((da,Rq its)::K w.params) h)
 (hsm:its.map Nq=Gd.map some)(hTN:cStatics<da∧mainGlobals<da∧builtinsNs<da)(hTK:∀P,(K P).all (fun p=>decide ((p.1:Nat)<da)||decide (da<(p.1:Nat)))=true)
 (hmg:∀(w:World) (mg:Str→Option Value) (h:Heap),(K w.params).In h→h.Ns mainGlobals mg→mg "UNKNOWNS" = some (.ref da)∧mg "NAMED_TABLES" = none)
 (F:∀(w:World) (mg:Str→Option Value) (fa:Addr) (h:Heap),(K w.params).In h→h.Ns mainGlobals mg→mg d.name=some (.ref fa) →
   ∃fd:FuncData,(∀(s:Shared) (u:Value),BindsTo s fd ⟨[u],[]⟩ [(x,u)]) ∧
    ∀base:Heap,(K w.params).In base→base.Ns mainGlobals mg→AM l.prog w (K w.params) mg base (CX w) k fa fd [x] (sp w))
 (hsp:∀(w:World) (H:Hp) (a:Addr) (ns:List Int),ns.length≤n→A3 (K w.params) H a (ns.map V.int)→sp w [.ref a] H (fun v _=>v=.bl true) fun _ _ _=>False)
 (hCX:∀(w:World) (H:Hp) (s:Shared) (e:Value) (s':Shared),CX w [] H s (fun _ _ _=>False) e s'→False) :
  PySem.W.WalkO q loose XP YP l.row.toRowW d [] (fun f vs=>PySem.call f vs):=by
 refine Att.Qg hn hdf fun w s₀ s₁ mg mb fa o pm cd doc a vs ns G Y ho hd hcd hmg' hobj hints hlen hg=>?_;have KK:=hY w _ Y;have ne:∀(b:Nat) o,(K w.params).lookup b=some o→b≠da:=fun b o e=>by
  have:=List.all_eq_true.mp (hTK w.params) (b,o) (UP e);have:b<da∨da<b:=by simpa using this
  lia
 have KX:(K w.params).In s₁.heap:=fun b o e=>KK b o (by rw[List.lookup_cons,beq_eq_false_iff_ne.mpr (ne b o e)];exact e);have hU:s₁.heap.get? da=some (Rq its):=KK da _ (by rw[List.lookup_cons,beq_self_eq_true]);have hn0:(K w.params).lookup da=none:=by
  cases q:(K w.params).lookup da with
  |none=>rfl
  |some o=>exact absurd rfl (ne da o q)
 obtain⟨fd,hb,hF⟩:=F w mg fa _ KX G.T.g hmg';exact Um KX hU hsm hTN hn0 (hmg w mg _ KX G.T.g).1 (hmg w mg _ KX G.T.g).2 G.T.g G.T.b G.T.builtins G.T.nolimit hg hobj hints (af hlen hn2) hr hF hb (fun H hS=>hsp w H a ns hlen hS) fun H e s'=>hCX w H s₁ e s'
end L2
set_option maxHeartbeats 1000000
namespace L2
open PySem PySem.Spec PyProof.Rows
section
variable{X:Cx}{a b c e:Expr}{ta tb tc:TE}{f g h:Dv→Option PyData}{pos p cp ap:Pos}
def eW:V→Hp→VK→Prop:=fun x H Q=>(∃i:Int,x=.int i∧i.natAbs.log2<1920∧Q (.str (Str.ofString (toString i))) H)∨∃s:Str,x=.str s∧s.length≤sizeLine∧Q (.str s) H
theorem bc(ha:PE X a ta):PE X (.FormattedValue a (-1) none pos) (fun σ H Q=>ta σ H fun x H1=>eW x H1 Q):=by
 intro pins s σ H Q I h;refine wpAny_FormattedValue_plain (Ar (ha pins s σ H _ I h) fun v s1 ⟨x,H1,I1,r1,q1⟩=>?_);rcases q1 with ⟨i,rfl,hi,q⟩|⟨y,rfl,hy,q⟩
 ·obtain⟨t,rfl⟩:=r1;exact wpAny_formatField_int hi ⟨.str (Str.ofString (toString i)),H1,I1.tok _,⟨_,rfl⟩,q⟩
 ·obtain⟨t,rfl⟩:=r1;exact wpAny_formatField_str ⟨.str y,H1,I1,⟨_,rfl⟩,q⟩ ⟨.str y,H1,I1.tok _,⟨_,rfl⟩,q⟩ hy
theorem b4(ha:PE X a ta):PE X (.JoinedStr [a] pos) ta:=fun pins s σ H Q I h=>wpAny_JoinedStr_one (ha pins s σ H Q I h)
theorem cg(ha:PE X a ta)(hb:PE X b tb):PE X (.JoinedStr [a,b] pos) (fun σ H Q=>ta σ H fun x H1=>∃s,x=.str s∧s.length≤100000∧tb σ H1 fun y H2=>∃t,y=.str t∧t.length≤100000∧Q (.str (Str.empty++s++t)) H2):=by
 intro pins s σ H Q I h;refine wpAny_JoinedStr ?_;show wpAny (model X.prog X.w) X.A (eval a X.env) _ X.xe s;refine Ar (ha pins s σ H _ I h) fun v s1 ⟨x,H1,I1,r1,y,ex,hy,q1⟩=>?_;subst ex;obtain⟨t,rfl⟩:=r1;have l0:Str.empty.length=0:=rfl;refine⟨y,t,rfl,by rw[strLen_append,l0,sizeLine_eq];lia,?_⟩;show wpAny (model X.prog X.w) X.A (eval b X.env) _ X.xe s1;refine Ar (hb pins s1 σ H1 _ I1 q1) fun v s2 ⟨x,H2,I2,r2,z,ex,hz,q2⟩=>?_;subst ex;obtain⟨t2,rfl⟩:=r2;have l1:(Str.empty++y++z).length≤sizeLine:=by rw[strLen_append,strLen_append,l0,sizeLine_eq];lia
 exact⟨z,t2,rfl,l1,l1,.str (Str.empty++y++z),H2,I2.tok _,⟨_,rfl⟩,q2⟩
theorem cU(ha:PE X a ta)(hb:PE X b tb)(hc:PE X c tc):PE X (.JoinedStr [a,b,c] pos) (fun σ H Q=>ta σ H fun x H1=>∃s,x=.str s∧s.length≤100000∧tb σ H1 fun y H2=>∃t,y=.str t∧t.length≤100000∧tc σ H2 fun z H3=>∃u,z=.str u∧u.length≤100000∧Q (.str (Str.empty++s++t++u)) H3):=by
 intro pins s σ H Q I h;refine wpAny_JoinedStr ?_;show wpAny (model X.prog X.w) X.A (eval a X.env) _ X.xe s;refine Ar (ha pins s σ H _ I h) fun v s1 ⟨x,H1,I1,r1,y,ex,hy,q1⟩=>?_;subst ex;obtain⟨t,rfl⟩:=r1;have l0:Str.empty.length=0:=rfl;refine⟨y,t,rfl,by rw[strLen_append,l0,sizeLine_eq];lia,?_⟩;show wpAny (model X.prog X.w) X.A (eval b X.env) _ X.xe s1;refine Ar (hb pins s1 σ H1 _ I1 q1) fun v s2 ⟨x,H2,I2,r2,z,ex,hz,q2⟩=>?_;subst ex;obtain⟨t2,rfl⟩:=r2;refine⟨z,t2,rfl,by rw[strLen_append,strLen_append,l0,sizeLine_eq];lia,?_⟩;show wpAny (model X.prog X.w) X.A (eval c X.env) _ X.xe s2;refine Ar (hc pins s2 σ H2 _ I2 q2) fun v s3 ⟨x,H3,I3,r3,u,ex,hu,q3⟩=>?_;subst ex;obtain⟨t3,rfl⟩:=r3;have l1:(Str.empty++y++z++u).length≤sizeLine:=by rw[strLen_append,strLen_append,strLen_append,l0,sizeLine_eq];lia
 exact⟨u,t3,rfl,l1,l1,.str (Str.empty++y++z++u),H3,I3.tok _,⟨_,rfl⟩,q3⟩
def GZ:PyData→Option PyData
 |.int i=>if i.natAbs.log2<1920 then some (.str (Str.ofString (toString i))) else none
 |.str s=>if s.length≤100000 then some (.str s) else none
 |_=>none
theorem Mv(ha:DE X a f):DE X (.FormattedValue a (-1) none pos) (fun δ=>(f δ).bind GZ):=by
 obtain⟨ta,pa,ka⟩:=ha;refine⟨_,bc pa,fun δ z hz G0 H0 G H σ ts Q R0 k=>?_⟩;obtain⟨x,h1,h2⟩:=aB.mp hz;refine ka δ x h1 G0 H0 G H σ ts _ R0 fun u G1 H1 R1=>?_;have du:=R1.A0 (x,u) (.head _);unfold GZ at h2;split at h2
 ·split at h2
  ·rename_i hi;cases h2;rw[Du]at du;subst du;exact .inl ⟨_,rfl,hi,k _ _ _ (R1.drop.put (by rw[Du]))⟩
  ·cases h2
 ·split at h2
  ·rename_i hi;cases h2;rw[Du]at du;subst du;exact .inr ⟨_,rfl,by rw[sizeLine_eq];lia,k _ _ _ (R1.drop.put (by rw[Du]))⟩
  ·cases h2
 ·cases h2
def LU(x y:PyData):Option PyData:=match x,y with|.str s,.str t=>if s.length≤100000∧t.length≤100000 then some (.str (Str.empty++s++t)) else none|_,_=>none
def SG(x y z:PyData):Option PyData:=match x,y,z with|.str s,.str t,.str u=>if s.length≤100000∧t.length≤100000∧u.length≤100000 then some (.str (Str.empty++s++t++u)) else none|_,_,_=>none
abbrev Wb(f g h:Dv→Option PyData):Dv→Option PyData:=fun δ=>(f δ).bind fun x=>(g δ).bind fun y=>(h δ).bind fun z=>SG x y z
theorem cN(ha:DE X a f):DE X (.JoinedStr [a] pos) f:=by
 obtain⟨ta,pa,ka⟩:=ha;exact⟨_,b4 pa,ka⟩
theorem bz(ha:DE X a f)(hb:DE X b g):DE X (.JoinedStr [a,b] pos) (AK LU f g):=by
 obtain⟨ta,pa,ka⟩:=ha;obtain⟨tb,pb,kb⟩:=hb;refine⟨_,cg pa pb,fun δ z hz G0 H0 G H σ ts Q R0 k=>?_⟩;obtain⟨x,y,h1,h2,h3⟩:=two (x:=.none) (y:=.none) hz;unfold LU at h3;split at h3
 ·split at h3
  ·rename_i hs;cases h3;refine ka δ _ h1 G0 H0 G H σ ts _ R0 fun u G1 H1 R1=>?_;have du:=R1.A0 (_,u) (.head _);rw[Du]at du;subst du;refine⟨_,rfl,hs.1,kb δ _ h2 G0 H0 G1 H1 σ _ _ R1.drop fun v G2 H2 R2=>?_⟩;have dv:=R2.A0 (_,v) (.head _);rw[Du]at dv;subst dv;exact⟨_,rfl,hs.2,k _ _ _ (R2.drop.put (by rw[Du]))⟩
  ·cases h3
 ·cases h3
theorem cc(ha:DE X a f)(hb:DE X b g)(hc:DE X c h):DE X (.JoinedStr [a,b,c] pos) (Wb f g h):=by
 obtain⟨ta,pa,ka⟩:=ha;obtain⟨tb,pb,kb⟩:=hb;obtain⟨tc,pc,kc⟩:=hc;refine⟨_,cU pa pb pc,fun δ z hz G0 H0 G H σ ts Q R0 k=>?_⟩;obtain⟨x,h1,hz⟩:=aB.mp hz;obtain⟨y,h2,hz⟩:=aB.mp hz;obtain⟨w,h3,h4⟩:=aB.mp hz;unfold SG at h4;split at h4
 ·split at h4
  ·rename_i hs;cases h4;refine ka δ _ h1 G0 H0 G H σ ts _ R0 fun u G1 H1 R1=>?_;have du:=R1.A0 (_,u) (.head _);rw[Du]at du;subst du;refine⟨_,rfl,hs.1,kb δ _ h2 G0 H0 G1 H1 σ _ _ R1.drop fun v G2 H2 R2=>?_⟩;have dv:=R2.A0 (_,v) (.head _);rw[Du]at dv;subst dv;refine⟨_,rfl,hs.2.1,kc δ _ h3 G0 H0 G2 H2 σ _ _ R2.drop fun v G3 H3 R3=>?_⟩;have dw:=R3.A0 (_,v) (.head _);rw[Du]at dw;subst dw;exact⟨_,rfl,hs.2.2,k _ _ _ (R3.drop.put (by rw[Du]))⟩
  ·cases h4
 ·cases h4
def bW(K:PySem.W.Frag):V→List V→Hp→VK→Prop:=fun x xs H Q=>∃s a ys,x=.str s∧xs=[.ref a]∧A3 K H a (ys.map V.str)∧(ys.map (·.length)).sum+ys.length*s.length≤16777216∧Q (.str (Txt.join s ys)) H
theorem U4:eA X "str.join" (bW X.K):=by
 intro pins s σ H x xs v us Q I rx rv h;obtain⟨z,q,ys,rfl,rfl,hq,hn,h⟩:=h;obtain⟨t,rfl⟩:=rx;obtain⟨u,rfl,ru⟩:=Vals.one rv;cases ru;obtain⟨its,r',pl,_⟩:=I.list hq;exact join_list pl.isList (StrsAre.of_carried (by simpa using K1 r')) hn fun t' k=>⟨.str (Txt.join z ys),H,I.tok _,⟨t',rfl⟩,h⟩
def Es:PyData→PyData→Option PyData:=fun x y=>match x,y with
 |.str s,.list xs=>(strsOf xs).bind fun ys=>if(ys.map (·.length)).sum+ys.length*s.length≤16777216 then some (.str (Txt.join s ys)) else none
 |_,_=>none
theorem FC(ho:DE X a f)(ha:DE X e g)
 (hbase:attributeBase a "join" X.env (eval a X.env)=eval a X.env:=by rfl)
 (hfew:((backTo cp (starEach [e] X.env)).all (fun x=>!x.1)&&(backToKw cp (keywordEach [] X.env)).all (fun x=>x.1.isSome)
   && decide (([e]:List Expr).length+([]:List Keyword).length+(if([]:List Keyword).isEmpty then 0 else 1)<30))=true:=by rfl)
 (hline:(ap.endLine==cp.line)=true:=by rfl)(hs:starEach [e] X.env=(false,eval e X.env)::starEach [] X.env:=by rfl)(hplain:(backTo cp (starEach [] X.env)).any (·.1)=false:=by rfl) :
  DE X (.Call (.Attribute a "join" ap) [e] [] cp) (AK Es f g):=by
 obtain⟨to,po,ko⟩:=ho;obtain⟨ta,pa,ka⟩:=ha;refine⟨_,Jr PySem.F.plainAttrs_str PySem.F.slot_str_join PySem.F.type_str_join U4 po (AL pa AZ hs) hbase hfew hline hs hplain,fun δ z hz G0 H0 G H σ ts Q R0 k=>?_⟩;obtain⟨x,y,h1,h2,h3⟩:=two (x:=.none) (y:=.none) hz;refine ko δ x h1 G0 H0 G H σ ts _ R0 fun u G1 H1 R1=>?_;have du:=R1.A0 (x,u) (.head _);unfold Es at h3;split at h3
 ·rename_i s xs;obtain⟨ys,h4,h5⟩:=aB.mp h3;have:=N0 h4;subst this;split at h5
  ·rename_i hc;cases h5;rw[Du]at du;subst du;refine⟨rfl,ka δ _ h2 G0 H0 G1 H1 σ _ _ R1 fun v G2 H2 R2=>?_⟩;have dv:=R2.A0 (_,v) (.head _);rw[Du]at dv;obtain⟨p,us,rfl,hp,dus⟩:=dv;have:=QO dus;subst this;exact⟨s,p,ys,rfl,rfl,A3.of (R2.ins _ _ hp),hc,k _ _ _ (R2.drop.drop.put (by rw[Du]))⟩
  ·cases h5
 ·cases h3
theorem PE.fc{e:Expr}{t:TE}(h:PE X e t):PE X e (fun σ H Q=>KTb X.mg H→t σ H Q):=fun pins s σ H Q I k=>h pins s σ H Q I (k I.kt)
abbrev PR:PyData:=.tuple [.str "x",.str "y",.str "z",.str "w"]
def LN(G:Hp)(d:Nat):Hp:=fun(b:Nat)=>if b=d then some (.tup Gd) else G b
theorem IM{G H:Hp}{d:Nat}(hG:AJ G H)(hd:H d=some (.tup Gd)):AJ G (LN G d):=fun b o e=>by
 unfold LN;split
 ·rename_i z;subst z;have:=hG _ _ e;rw[hd]at this;exact this
 ·exact e
theorem Km{G:Hp}{d b:Nat}{o:HO}(e:LN G d b=some o):G b=some o∨(b=d∧o=.tup Gd):=by
 unfold LN at e;split at e
 ·rename_i z;cases e;exact .inr ⟨z,rfl⟩
 ·exact .inl e
theorem Vl{G0 H0 G H:Hp}{σ:St}{δ:Dv}{ts:List (PyData×V)}{d:Nat}(R:Rw G0 H0 G H σ δ ts)(hd:H d=some (.tup Gd)):Rw G0 H0 (LN G d) H σ δ ts where
 ext:=fun b o e=>IM R.ins hd b o (R.ext b o e)
 new:=fun b o e=>by
  rcases Km e with h|⟨_,rfl⟩
  ·exact R.new b o h
  ·exact .inr (.inr ⟨_,rfl⟩)
 ins:=fun b o e=>by
  rcases Km e with h|⟨rfl,rfl⟩
  ·exact R.ins b o h
  ·exact hd
 keep:=R.keep
 len:=R.len
 dat:=fun i x h=>by
  obtain⟨v,h1,h2⟩:=R.dat i x h;exact⟨v,h1,h2.same (IM R.ins hd)⟩
 own:=fun i xs h=>by
  obtain⟨a,ys,h1,h2,h3,h4,h5⟩:=R.own i xs h;refine⟨a,ys,h1,?_,h3,h4,h5.same (IM R.ins hd)⟩;cases q:LN G d a with
  |none=>rfl
  |some o =>
   rcases Km q with z|⟨rfl,rfl⟩
   ·rw[h2]at z;cases z
   ·rw[h4]at hd;cases hd;exact h5.MQ.elim
 apart:=R.apart
 A0:=fun p hp=>(R.A0 p hp).same (IM R.ins hd)
theorem P0{d:Addr}(hg:Gl X "UNKNOWNS")(hm:X.mg "UNKNOWNS" = some (.ref d)):DE X (.Name "UNKNOWNS" p) (fC PR):=by
 refine⟨_,(Bv (v:=.ref d) hg hm rfl).fc,fun δ z hz G0 H0 G H σ ts Q R k kt=>?_⟩;cases hz;have hd:=kt.dh d hm;refine k _ _ _ ((Vl R hd).put ?_);rw[Du];refine⟨d,Gd,rfl,if_pos rfl,?_⟩;rw[Gd];exact .cons (by rw[Du]) (.cons (by rw[Du]) (.cons (by rw[Du]) (.cons (by rw[Du]) .nil)))
end
end L2
set_option maxHeartbeats 4000000
namespace TH
open PySem PyProof.Rows PySem.SeqAt
abbrev Kg(d:Addr)(ep n i:Nat):Obj:={ cls:=.type "dict_keyiterator",data:=.fields #[.ref d,.int (i:Int) 0,.int (n:Int) 0,.int (ep:Int) 0]}
section
variable{prog:Program}{w:World}{A:Around}{E:Value→Shared→Prop}{s:Shared}{d I:Addr}{o:Obj}{es:Array DictEntry}{ep i:Nat}
theorem Uy{Q:Option Value→Shared→Prop}{e:DictEntry}(ho:s.heap.get? d=some o)(hd:o.data=.dict es ep)(hI:s.heap.get? I=some (Kg d ep es.size i))(hx:es[i]? = some e)
 (h:∀h',h'.get? I=some (Kg d ep es.size (i+1))→Heap.SameBut I s.heap h'→Q (some e.key) {s with heap:=h'}):wpAny (model prog w) A (pyNext (.ref I)) Q E s:=by
 have hT:s.TypeIs (.ref I) "dict_keyiterator" := ⟨_,hI,rfl⟩;unfold pyNext;refine aA (wpAny_attempt (ai (name:=Str.ofString "__next__") hT F.slot_dict_keyiterator_next (aj F.slot_dict_keyiterator_next hT F.entry_dict_keyiterator_next ?_ (F.args_dict_keyiterator_next_1 _))));refine aA (aD (aA (aA (aA (wpAny_typeNameOfWhole_keyiter hT (aD ?_))))));refine aA (wpAny_fieldsOf hI rfl ?_);have q0:Builtin.Dict_items.ownsTuple "dict_keyiterator" = false:=by decide
 simp only[q0,Bool.false_eq_true,if_false];have q1:¬(Value.ref d==Value.none)=true:=aK;show wpAny _ _ (if(Value.ref d==Value.none)=true then _ else _) _ _ s;rw[if_neg q1];refine aA (aD (aA (wpAny_dictEntries ho hd ?_)));rw[if_neg (by simp)];refine aA (aD (aA (wpAny_dictEpoch ho hd ?_)));rw[if_neg (by simp)];refine aD ?_;have q2:¬((i:Int)<0):=by lia
 simp only[q2,if_false,Int.toNat_natCast,hx];refine aA (aA (wpAny_typeNameOfWhole_keyiter hT (aD ?_)));refine aA (wpAny_isOneOf_keyiter hT ?_);show wpAny _ _ (setField (.ref I) 1 (rawInt ((i:Int)+1))>>=_) _ _ s;refine aA (wpAny_setField hI rfl (by simp) ?_);have g1:(s.heap.update I (Obj.mapFields (·.setIfInBounds 1 (rawInt ((i:Int)+1))))).get? I=some (Kg d ep es.size (i+1)):=Heap.get?_update_self _ hI rfl;refine aA (bF (aA (wpAny_isOneOf_keyiter ⟨_,g1,rfl⟩ ?_)));show wpAny _ _ (pure e.key) _ _ _;exact aD (aD ⟨_,rfl,wpAny_pure (h _ g1 (Heap.SameBut.update ..))⟩)
theorem VY{Q:Option Value→Shared→Prop}(hh:A.handled=none)(ho:s.heap.get? d=some o)(hd:o.data=.dict es ep)(hI:s.heap.get? I=some (Kg d ep es.size es.size))
 (h:∀h',Heap.ExtBut I s.heap h'→Q none {s with heap:=h'}):wpAny (model prog w) A (pyNext (.ref I)) Q E s:=by
 have hT:s.TypeIs (.ref I) "dict_keyiterator" := ⟨_,hI,rfl⟩;unfold pyNext;refine aA (wpAny_attempt (ai (name:=Str.ofString "__next__") hT F.slot_dict_keyiterator_next (aj F.slot_dict_keyiterator_next hT F.entry_dict_keyiterator_next ?_ (F.args_dict_keyiterator_next_1 _))));refine aA (aD (aA (aA (aA (wpAny_typeNameOfWhole_keyiter hT (aD ?_))))));refine aA (wpAny_fieldsOf hI rfl ?_);have q0:Builtin.Dict_items.ownsTuple "dict_keyiterator" = false:=by decide
 simp only[q0,Bool.false_eq_true,if_false];have q1:¬(Value.ref d==Value.none)=true:=aK;show wpAny _ _ (if(Value.ref d==Value.none)=true then _ else _) _ _ s;rw[if_neg q1];refine aA (aD (aA (wpAny_dictEntries ho hd ?_)));rw[if_neg (by simp)];refine aA (aD (aA (wpAny_dictEpoch ho hd ?_)));rw[if_neg (by simp)];refine aD ?_;have q2:¬((es.size:Int)<0):=by lia
 have q3:es[es.size]? = none:=Array.getElem?_eq_none (aH _);simp only[q2,if_false,Int.toNat_natCast,q3];refine aA (aA (wpAny_typeNameOfWhole_keyiter hT (aD ?_)));show wpAny _ _ (setField (.ref I) 0 .none>>=_) _ _ s;refine aA (wpAny_setField hI rfl (by simp) ?_);refine aA ?_;simp only[newExc,newTuple];refine aA (aT ?_ (by size_fits));refine aA (m:=firstArgMember _ _) (wpAny_of_eq (a:=Value.none) (by first|rfl|(simp only[firstArgMember];rfl)) (aT ?_ (by size_fits)));simp only[raiseNew];refine aA (wpAny_handled ?_);have hh1:A.in1.handled=none:=hh;rw[hh1];refine aA (aD (wpAny_throw ?_));refine aA (wpAny_isInstance (b:=true) (T := "StopIteration") ⟨_,Heap.get?_push_size _ rfl,rfl⟩ isSubtype_stop ?_);exact aD (h _ (((Heap.SameBut.update ..).extBut.push _).push _))
theorem VA{Q:Value→Shared→Prop}(hI:s.heap.get? I=some (Kg d ep es.size i))(h:Q (.ref I) s):wpAny (model prog w) A (pyIter (.ref I)) Q E s:=by
 have hT:s.TypeIs (.ref I) "dict_keyiterator" := ⟨_,hI,rfl⟩;refine wpAny_pyIter_slot hT F.slot_dict_keyiterator_iter (aj F.slot_dict_keyiterator_iter hT F.entry_dict_keyiterator_iter ?_ (F.args_dict_keyiterator_iter_1 _));show wpAny _ _ (ret (.ref I)) _ _ s;exact aD ⟨_,rfl, "dict_keyiterator",_,hT,F.slot_dict_keyiterator_next.lookup,h⟩
theorem V4{Q:Value→Shared→Prop}(hs:(d==sysModules)=false)(ho:s.heap.get? d=some o)(hc:o.cls=.type "dict")(hd:o.data=.dict es ep)(h:Q (.ref s.heap.objs.size) {s with heap:=s.heap.push (Kg d ep es.size 0)}) :
  wpAny (model prog w) A (pyIter (.ref d)) Q E s:=by
 have hT:s.TypeIs (.ref d) "dict" := ⟨o,ho,hc⟩;refine wpAny_pyIter_slot hT F.slot_dict_iter (aj F.slot_dict_iter hT F.entry_dict_iter ?_ (F.args_dict_iter_1 _));unfold Builtin.«dict.__iter__»;refine aA ?_;unfold Builtin.Dict.dictSlotNone;refine aA (wpAny_notOrdered_dict hT (show wpAny _ _ (pure (Value.ref d)) _ _ s from aD ?_));have hn:¬(d==sysModules)=true:=by rw[hs];exact aK
 show wpAny _ _ (Builtin.Dict.showsAll d>>=_) _ _ s;unfold Builtin.Dict.showsAll;rw[if_neg hn];refine aA (aD (aA (wpAny_dictEntries ho hd (aA (wpAny_dictEpoch ho hd ?_)))));exact aA (aT (aD ⟨_,rfl, "dict_keyiterator",_,⟨_,Heap.get?_push_size _ rfl,rfl⟩,F.slot_dict_keyiterator_next.lookup,h⟩))
theorem Ro(hh:A.handled=none)(hne:d≠I)(hd:o.data=.dict es ep) :
  Walks prog w A I [I,d] [I] es.size (fun i v=>∃e,es[i]? = some e∧v=e.key) (fun i h=>h.get? I=some (Kg d ep es.size i)∧h.get? d=some o) where
 sub:=fun b hb=>by simp at hb;simp[hb]
 frame:=fun _ _ _ x k=>⟨k I (by simp) _ x.1,k d (by simp) _ x.2⟩
 item:=fun i s Q E hi x hQ=>by
  have hx:es[i]? = some es[i]:=Array.getElem?_eq_getElem hi;refine Uy x.2 hd x.1 hx fun h' g sb=>hQ _ h' s.toks ⟨_,hx,rfl⟩ ⟨g,(sb.2 d hne).trans x.2⟩ fun b u hb e=>?_;rw[sb.2 b fun q=>hb (by simp[q])];exact e
 done:=fun s Q E x hQ=>VY hh x.2 hd x.1 fun h' eb=>hQ h' s.toks fun b u hb e=>eb b u (fun q=>hb (by simp[q])) e
 self:=fun _ _ _ _ x hQ=>VA x.1 hQ
theorem VT(hs:(d==sysModules)=false)(hc:o.cls=.type "dict")(hd:o.data=.dict es ep):PySem.W.KdlSrc prog w "dict" d d es.size (fun i v=>∃e,es[i]? = some e∧v=e.key) (fun h=>h.get? d=some o) where
 type:=fun _ ho=>⟨o,ho,hc⟩
 there:=fun _ ho=>⟨aF ho,Heap.lt_size ho⟩
 keep:=fun _ _ ho k=>k d (.inl rfl) _ ho
 notList:=by decide
 notTuple:=by decide
 hint:=fun _ _ s _ ho h=>PySem.W.kdl_hint_dict ⟨o,ho,hc⟩ h
 iter:=fun A s hh ho=>⟨Kg d ep es.size 0,_,(fun E Q h=>V4 hs ho hc hd h),Ro hh (aL (aF ho)) hd,⟨aR _ rfl,Heap.get?_push_of_some _ ho⟩⟩
end
end TH
namespace IT
open PySem PySem.W PyProof.Rows PySem.SeqAt
def L5(h:Heap)(k:List Int)(v:Value):Prop:=∃(a:Addr) (its:List Value),v=.ref a∧h.IsTuple a its.toArray∧Is k its∧k≠[]
theorem L5.ext{h h':Heap}(e:GS.Ext h h'){k:List Int}{v:Value}(x:L5 h k v):L5 h' k v:=by
 obtain⟨a,i1,rfl,h1,h2,h3⟩:=x;exact⟨a,i1,rfl,TH.X4 e h1,h2,h3⟩
section
open PySem.MeetsSeq PySem.MeetsSeq2 PySem.MeetsSeq3
variable{prog:Program}{w:World}{A:Around}{s:Shared}
theorem lt_int{b:Bool}{x y:Int}{t u:Tok}{Q:Bool→Shared→Prop}{E:Value→Shared→Prop}(h:Q (decide (x<y)) s):wpAny (model prog w) A (oneLt' b (.int x t) (.int y u)) Q E s:=by
 cases b with
 |true=>exact oneLt_int h
 |false =>
  rw[oneLt'_eq];simp only[Bool.false_eq_true,if_false];exact aA (wpAny_lt_int (wpAny_truthy_bool h))
theorem UI{b fin:Bool}{Q:Bool→Shared→Prop}:∀(x y:List Int) (us vs:List Value) (i:Nat),Is x us→Is y vs→fin=decide (x.length<y.length)→Q (lt x y) s→KatLex prog w A b fin Q (us.zip vs) i s
 |[],y,us,vs,i,h1,h2,hf,q=>by
  rw[Is]at h1;subst h1;rw[List.zip_nil_left];refine kat_nil ?_;cases y with
  |nil=>rw[hf];exact q
  |cons c y=>rw[hf,decide_eq_true (by simp)];exact q
 |a::x,[],us,vs,i,h1,h2,hf,q=>by
  rw[Is]at h2;subst h2;rw[List.zip_nil_right];refine kat_nil ?_;rw[hf,decide_eq_false (by simp)];exact q
 |a::x,c::y,us,vs,i,h1,h2,hf,q=>by
  rw[Is]at h1 h2;obtain⟨t,us,rfl,h1⟩:=h1;obtain⟨t',vs,rfl,h2⟩:=h2;rw[List.zip_cons_cons];refine kat_cons (EqAt.int_int a t c t' prog w _ _ ?_);rw[lt]at q;by_cases e:a=c
  ·rw[if_pos e]at q;rw[beq_iff_eq.mpr e];refine kat_yes (UI x y us vs (i+1) h1 h2 (by rw[hf];simp) q)
  ·rw[if_neg e]at q;rw[beq_eq_false_iff_ne.mpr e];exact kat_no (lt_int q)
theorem YT{x y:List Int}{u v:Value}{Q:Bool→Shared→Prop}{E:Value→Shared→Prop}{b:Bool}(h1:L5 s.heap x u)(h2:L5 s.heap y v)(h:Q (lt x y) s):wpAny (model prog w) A (keyLt' (tuples' b) u v) Q E s:=by
 obtain⟨a,i1,rfl,k1,k2,k3⟩:=h1;obtain⟨a',j1,rfl,m1,m2,m3⟩:=h2;obtain⟨o,ho,hc,n,hd⟩:=id k1;obtain⟨o2,ho2,hc2,n2,hd2⟩:=id m1;refine kat_lt ho hd ho2 hd2 ?_;exact UI x y _ _ 0 k2 m2 (by rw[←k2.length,←m2.length];simp) h
theorem Bm{h:Heap}:∀ {us:List Value},(∀v∈us,∃x,L5 h x v)→∃fs,KatTups h us fs∧fs.length=us.length∧∀v∈fs,∃n t,v=.int n t
 |[],_=>⟨[],KatTups.nil,rfl,fun _ h=>by cases h⟩
 |v::us,e=>by
  obtain⟨fs,h1,h2,h3⟩:=Bm (us:=us) fun v hv=>e v (aa _ hv);obtain⟨x,a,its,rfl,k1,k2,k3⟩:=e v bC;obtain⟨o,ho,hc,n,hd⟩:=id k1;cases x with
  |nil=>exact absurd rfl k3
  |cons c x =>
   rw[Is]at k2;obtain⟨t,rest,rfl,k2⟩:=k2;exact⟨.int c t::fs,KatTups.cons ho hc hd rfl h1,by simp[h2],fun v hv=>by
    rcases aI.mp hv with rfl|hv
    ·exact⟨c,t,rfl⟩
    ·exact h3 v hv⟩
theorem Y3{h0:Heap}{ks:List (List Int)}{us:List Value}(hl:us.length=ks.length)(he:∀(i:Nat) (x:List Int) (u:Value),ks[i]? = some x→us[i]? = some u→L5 h0 x u):GS.Td ord prog w h0 0 ks us :=
 ⟨hl,fun κ=>∃b,κ=tuples' b,fun A E s Q hx h=>by
  obtain⟨fs,t1,t2,t3⟩:=Bm (h:=s.heap) (us:=us) fun v hv=>by
   obtain⟨i,hi,rfl⟩:=List.getElem_of_mem hv;exact⟨_,(he i _ _ (List.getElem?_eq_getElem (by lia)) (List.getElem?_eq_getElem hi)).ext hx⟩
  by_cases hne:us=[]
  ·subst hne;exact TH.Xm (us:=[]) (fun v hv=>by cases hv) (h _ ⟨_,rfl⟩)
  refine kat_kind (T:=.type "int") t1 (by rw[t2];exact List.length_pos_iff.mpr hne) (fun v hv=>?_) (by decide) (h _ ⟨_,rfl⟩);obtain⟨n,t,rfl⟩:=t3 v hv;exact Looks.now,
  fun A s κ hx hr hκ E i j x y u v Q h1 h2 h3 h4 q=>by
  obtain⟨b,rfl⟩:=hκ;exact YT ((he i x u h3 h1).ext hx) ((he j y v h4 h2).ext hx) q⟩
end
end IT
namespace GS
open PySem PySem.W PyProof.Rows PySem.SeqAt TH
section
variable{prog:Program}{w:World}{A:Around}{E:Value→Shared→Prop}{s:Shared}{us:List Value}
theorem PB{d:Addr}{o:Obj}{es:Array DictEntry}{ep:Nat}(hs:(d==sysModules)=false)(ho:s.heap.get? d=some o)(hc:o.cls=.type "dict")(hdt:o.data=.dict es ep)(hA:A.handled=none)
 (hv:es.toList.map (·.key)=us)(hz:us.length≤1000):RM prog w A E s (.ref d) us:=fun Q h=>by
 have hes:es.size=us.length:=by rw[←hv,List.length_map,Array.length_toList]
 refine gather (A:=A) (VT hs hc hdt) hA ho (by rw[sizeLine_eq];lia) fun h1 tk acc z1 k1 hacc=>?_;have hal:acc.toList=us:=by
  rw[←hv];apply List.ext_getElem?;intro j;rw[List.getElem?_map];by_cases hj:j<acc.size
  ·have e1:acc[j]? = some acc[j]:=Array.getElem?_eq_getElem hj;obtain⟨e,e2,e3⟩:=hacc.2 j _ e1;rw[Array.getElem?_toList,e1,Array.getElem?_toList,e2,e3]
   rfl
  ·have hj2:¬j<es.size:=by rw[←hacc.1];exact hj
   rw[List.getElem?_eq_none (by simpa using hj),List.getElem?_eq_none (by simpa using hj2)]
   rfl
 rw[hal];exact h h1 tk k1 (Nat.le_of_lt z1)
end
end GS
set_option maxHeartbeats 2000000
namespace L2
open PySem PySem.Spec PyProof.Rows
section
variable{X:Cx}{a b e:Expr}{f g h:Dv→Option PyData}{pos pos' p cp sp np:Pos}{i:Nat}{y:Str}
theorem Tj(ha:DE X a f)(hb:DE X b g)(hN:X.N.Nodup)(hi':X.N[i]? = some y)(hx:Loc X.env.scope y)
 (hs:swapsWith (.BinOp a .Mult b cp) (some (.Name y pos')) pos.line X.env=pure false:=by rfl)(hf:X.fn y=true∨X.env.scope.names.lookup y=some .local:=by first|exact .inl rfl|exact .inr rfl|assumption) :
  DS X (.Assign [.Name y pos'] (.BinOp a .Mult b cp) pos) (Kt i (AK Ik f g)):=by
 obtain⟨ta,pa,ka⟩:=ha;obtain⟨tb,pb,kb⟩:=hb;refine⟨_,Dj hN hi' hx (HJ UG pa pb) hs hf,fun δ r hz G0 H0 G H σ D R q=>?_⟩;obtain⟨z,h1,h2⟩:=aB.mp hz;obtain⟨x,y,h3,h4,h5⟩:=two (x:=.none) (y:=.none) h1;refine ka δ x h3 G0 H0 G H σ [] _ R fun u G1 H1 R1=>?_;refine kb δ y h4 G0 H0 G1 H1 σ _ _ R1 fun v G2 H2 R2=>?_;have du:=R2.A0 (x,u) (.tail _ (.head _));have dv:=R2.A0 (y,v) (.head _);unfold Ik at h5;split at h5
 ·split at h5
  ·rename_i hl;cases h5;cases h2;rw[Du]at du;rw[Du]at dv;obtain⟨p,xs,rfl,k1,k2⟩:=du;subst dv;exact⟨p,_,xs,rfl,rfl,R2.ins _ _ k1,by lia,by lia,Di (by rw[k2.len];exact hl.1),fun l hl'=>q _ _ _ (R2.drop.drop.Mt ⟨_,rfl,k2.rep _⟩ hl')⟩
  ·cases h5
 ·cases h5
def eV(K:PySem.W.Frag):V→V→Hp→VK→Prop:=fun x y H Q=>∃p xs i v,x=.ref p∧y=.int i∧A3 K H p xs∧0≤i∧xs[i.toNat]? = some v∧Q v H
theorem VJ:Y5 X (eV X.K):=by
 intro pins s σ H o i ov iv Q I ro ri h;obtain⟨p,xs,k,v,rfl,rfl,hq,h0,hv,q⟩:=h;cases ro;obtain⟨t,rfl⟩:=ri;obtain⟨its,r,pl,hz⟩:=I.list hq;obtain⟨w,ew,rw'⟩:=r.get hv;have hn:=JZ;have hj:=(aG.mp hv).1;exact wpAny_getItem_list pl.isList h0 (by lia) (by simpa using ew) ⟨v,H,I,rw',q⟩
abbrev O5(i:Nat)(g f:Dv→Option PyData):DF:=fun δ=>(g δ).bind fun n=>(f δ).bind fun y=>(ow i δ).bind fun xs=>(JO n).bind fun m=>(JO y).bind fun d=>(xs[m.toNat]?.bind JO).bind fun o=>if 0≤m then(HS xs.length m).map fun j=>.nx (δ.set i (.own (.lst (xs.set j (.int (o+d)))))) else none
theorem XA(hv:PE X (.Name y np) (F8 i))(hk:DE X a g)(he:DE X e f)(ha:∀ov iv new,augStore a ov iv new=(do holding [new,ov,iv] (setItem ov iv new);release [new,ov,iv] [];pure .next):=by intros;rfl) :
  DS X (.AugAssign (.Subscript (.Name y np) a sp) .Add e pos) (O5 i g f):=by
 obtain⟨te,pe,ke⟩:=he;obtain⟨tk,pk,kk⟩:=hk;refine⟨_,XI hv pk VJ pe Yy set_list ha,fun δ r h G0 H0 G H σ D R q=>?_⟩;obtain⟨n,h1,h⟩:=aB.mp h;obtain⟨y,h2,h⟩:=aB.mp h;obtain⟨xs,h3,h⟩:=aB.mp h;obtain⟨m,h4,h⟩:=aB.mp h;obtain⟨d,h5,h⟩:=aB.mp h;obtain⟨o,h6,h⟩:=aB.mp h;split at h
 case isFalse=>cases h
 rename_i h0;obtain⟨j,h7,rfl⟩:=aC.mp h;obtain⟨od,h8,h9⟩:=aB.mp h6;have:=Hw h4;subst this;have:=Hw h5;subst this;have:=Hw h9;subst this;have hi:=Ia h3;obtain⟨ad,_,k1,k2,k3,k4,⟨ys,rfl,k5⟩⟩:=R.own i _ hi;refine⟨.ref ad,k1,?_⟩;refine kk δ _ h1 G0 H0 G H σ _ _ R fun v G1 H1 R1=>?_;have dv:=R1.A0 (.int m,v) (.head _);rw[Du]at dv;subst dv;obtain⟨ad',_,m1,m2,m3,m4,⟨zs,rfl,m5⟩⟩:=R1.own i _ hi;rw[k1]at m1;cases m1;obtain⟨w,n1,n2⟩:=m5.get h8;rw[Du]at n2;subst n2;refine⟨ad,zs,m,_,rfl,rfl,A3.of m4,h0,n1,?_⟩;refine ke δ _ h2 G0 H0 G1 H1 σ _ _ R1 fun u G2 H2 R2=>?_;have du:=R2.A0 (.int d,u) (.head _);rw[Du]at du;subst du;refine⟨o,d,rfl,rfl,?_⟩;obtain⟨ad',_,m1,m2,m3,m4,⟨zs,rfl,m5⟩⟩:=R2.own i _ hi;rw[k1]at m1;cases m1;refine⟨ad,zs,m,j,rfl,rfl,m4,by rw[m5.len];exact h7,?_⟩;exact q _ _ _ (R2.drop.drop.Ms hi k1 ⟨_,rfl,m5.set (by rw[Du]) j⟩)
end
def Ml(jj jo:Nat)(set:PyData→Dv→Option Dv)(tif:Dv→Option Bool)(f:Dv→Option PyData)(fr:List (Option Nat))(fs:Dv→Option (List PyData))(δ:Dv):Option (List PyData) :=
 (fs δ).bind fun xs=>(Bs jo δ).bind fun kvs=>(collect (F7 set tif f ((Bh fr δ).set jj (.own (.Bs kvs)))) xs).bind Bt
def Jb(jj jo:Nat)(set:PyData→Dv→Option Dv)(tif:Dv→Option Bool)(f:Dv→Option PyData)(fr:List (Option Nat))(fs:Dv→Option (List PyData))(δ:Dv):Option PyData :=
 (Ml jj jo set tif f fr fs δ).map .list
theorem PQ{fr:List (Option Nat)}{σ:St}{jj jo:Nat}{x:Option V}(hfr:fr[jj]? = some (some jo))(h:σ[jo]? = some x):(carry fr σ)[jj]? = some x:=by
 unfold carry;rw[List.getElem?_map,hfr];simp[h]
theorem OI{fr:List (Option Nat)}{δ:Dv}{jj jo:Nat}{l:L}(hfr:fr[jj]? = some (some jo)):((Bh fr δ).set jj l)[jj]? = some l:=by
 have:jj<(Bh fr δ).length:=by
  have:=(aG.mp hfr).1
  simpa[Bh]using this
 simp[this]
theorem Rw.Yi{G0 H0 G H:Hp}{σ:St}{δ:Dv}{ts:List (PyData×V)}{fr:List (Option Nat)}{jj jo:Nat}{kvs:List (List Key×PyData)}{ad:Addr}(r:Rw G0 H0 G H σ δ ts)(hfr:fr[jj]? = some (some jo))(hjo:δ[jo]? = some (.own (.Bs kvs)))(ha:σ[jo]? = some (some (.ref ad))) :
  Rw G (L2.less H ad) G H (carry fr σ) ((Bh fr δ).set jj (.own (.Bs kvs))) ts:=by
 have r0:=r.inner fr;have at_:∀(i:Nat) (l:L),((Bh fr δ).set jj (.own (.Bs kvs)))[i]? = some l→(i=jj∧l=.own (.Bs kvs))∨(i≠jj∧(Bh fr δ)[i]? = some l):=fun i l h=>by
  by_cases e:i=jj
  ·subst e;rw[OI hfr]at h;cases h;exact .inl ⟨rfl,rfl⟩
  ·rw[List.getElem?_set_ne (Ne.symm e)]at h;exact .inr ⟨e,h⟩
 have noown:∀(i:Nat) (xs:Oc),(Bh fr δ)[i]?≠some (L.own xs):=fun i xs h=>by
  unfold Bh at h;rw[List.getElem?_map]at h;obtain⟨o,_,h2⟩:=aC.mp h;split at h2
  ·split at h2<;>cases h2
  ·cases h2
 obtain⟨a,oc,k1,k2,k3,k4,k5⟩:=r.own jo _ hjo;rw[ha]at k1;cases k1;refine⟨AJ.refl _,Nw.refl,r.ins,fun b o h=>?_,by simpa using r0.len,fun i x h=>?_,fun i xs h=>?_,fun i j xs ys hij h1 h2=>?_,r.A0⟩
 ·unfold L2.less at h;split at h
  ·cases h
  ·exact h
 ·rcases at_ i _ h with ⟨_,z⟩|⟨_,z⟩
  ·cases z
  ·exact r0.dat i x z
 ·rcases at_ i _ h with ⟨rfl,z⟩|⟨_,z⟩
  ·cases z;exact⟨ad,oc,PQ hfr ha,k2,Xq,k4,k5⟩
  ·exact absurd z (noown i xs)
 ·rcases at_ i _ h1 with ⟨rfl,_⟩|⟨_,z⟩
  ·rcases at_ j _ h2 with ⟨rfl,_⟩|⟨_,z⟩
   ·exact absurd rfl hij
   ·exact absurd z (noown j ys)
  ·exact absurd z (noown i xs)
theorem Rw.WH{G0 H0 G H G' H':Hp}{σ σi:St}{δ δi:Dv}{ts ti:List (PyData×V)}{jj jo:Nat}{kvs:List (List Key×PyData)}{ad:Addr}(r:Rw G0 H0 G H σ δ ts)(hjo:δ[jo]? = some (.own (.Bs kvs)))(ha:σ[jo]? = some (some (.ref ad)))(hoi:δi[jj]? = some (.own (.Bs kvs)))(hsi:σi[jj]? = some (some (.ref ad)))
 (q:Rw G (L2.less H ad) G' H' σi δi ti):Rw G0 H0 G' H' σ δ ts:=by
 obtain⟨a,oc,k1,k2,k3,k4,k5⟩:=r.own jo _ hjo;rw[ha]at k1;cases k1;obtain⟨a,oq,m1,m2,m3,m4,m5⟩:=q.own jj _ hoi;rw[hsi]at m1;cases m1;have hH:∀b o,b≠ad→H b=some o→H' b=some o:=fun b o n h=>q.keep _ _ (by rw[LQ n];exact h);refine⟨r.ext.trans q.ext,fun b o h=>?_,q.ins,fun b o h=>?_,r.len,fun i x h=>?_,fun i xs h=>?_,r.apart,fun p hp=>(r.A0 p hp).same q.ext⟩
 ·have nb:b≠ad:=fun z=>by subst z;rw[m2]at h;cases h
  rcases q.new b o h with z|z|z
  ·exact r.new b o z
  ·right;left
   rw[LQ nb]at z;cases w:H0 b with
   |none=>rfl
   |some u=>rw[r.keep _ _ w]at z;cases z
  ·exact .inr (.inr z)
 ·exact hH b o (fun z=>by subst z;rw[k3]at h;cases h) (r.keep _ _ h)
 ·obtain⟨v,n1,n2⟩:=r.dat i x h;exact⟨v,n1,n2.same q.ext⟩
 ·by_cases e:i=jo
  ·subst e;rw[hjo]at h;cases h;exact⟨ad,oq,ha,m2,k3,m4,m5⟩
  ·obtain⟨b,ys,n1,n2,n3,n4,n5⟩:=r.own i xs h;have nb:b≠ad:=fun z=>by subst z;exact r.apart i jo _ _ e h hjo (n1.trans ha.symm)
   refine⟨b,ys,n1,?_,n3,hH _ _ nb n4,n5.same q.ext⟩;cases w:G' b with
   |none=>rfl
   |some u =>
    rcases q.new b u w with z|z|⟨xs',z⟩
    ·rw[n2]at z;cases z
    ·rw[LQ nb,n4]at z;cases z
    ·have:=q.ins _ _ w;rw[hH _ _ nb n4,z]at this;cases this;exact n5.MQ.elim
section
variable{X:Cx}{elt iter:Expr}{x y:Str}{px pos:Pos}{ifs:List Expr}{scope:Scope}{fs:Dv→Option (List PyData)}{tif:Dv→Option Bool}{f:Dv→Option PyData}
theorem Sf{wi:TI}{ix jj jo:Nat}{fr:List (Option Nat)}(hfr:fr[jj]? = some (some jo))(hij:ix≠jj)(ki:∀(δ:Dv) (xs:List PyData),fs δ=some xs→∀(G0 H0 G H:Hp) (σ:St) (ts:List (PyData×V)) (R:It→Hp→Prop),Rw G0 H0 G H σ δ ts→(∀J G' H',Rw G0 H0 G' H' σ δ ts→Gs J xs G'→R J H')→wi σ H R){δ:Dv}{zs:List PyData}(hz:Ml jj jo (CD ix) tif f fr fs δ=some zs){G0 H0 G H:Hp}{σ:St}{ts:List (PyData×V)}{Q:VK}(R0:Rw G0 H0 G H σ δ ts)(k:∀D ys G' H',Rw G0 H0 G' H' σ δ ts→H' D=some (.lst ys)→G' D=none→H0 D=none→(∀(j:Nat) (us:Oc),δ[j]? = some (L.own us)→σ[j]?≠some (some (V.ref D)))→Ac G' zs ys→Q (.ref D) H') :
  Jm wi fr ix (QM tif) (tD f) σ H Q:=by
 unfold Ml at hz;obtain⟨xs,m2,m3⟩:=aB.mp hz;obtain⟨kvs,hk0,m3⟩:=aB.mp m3;have hjo:=Mq hk0;obtain⟨full,m4,m5⟩:=aB.mp m3;obtain⟨rfl,hfew⟩:=JY m5;refine ki δ xs m2 G0 H0 G H σ ts _ R0 fun J Ga Ha Ra it D hD=>?_;have hGD:Ga D=none:=by
  cases q:Ga D with
  |none=>rfl
  |some u=>rw[Ra.ins _ _ q]at hD;cases hD
 have hHD:H0 D=none:=by
  cases q:H0 D with
  |none=>rfl
  |some u=>rw[Ra.keep _ _ q]at hD;cases hD
 have hap:∀(j:Nat) (us:Oc),δ[j]? = some (L.own us)→σ[j]?≠some (some (V.ref D)):=fun j us h z=>by
  obtain⟨a,ys,k1,k2,k3,k4,k5⟩:=Ra.own j us h;rw[z]at k1;cases k1;rw[k4]at hD;cases hD
 refine Q9 (n:=xs.length) (NG G0 H0 Ga σ δ ts (F7 (CD ix) tif f ((Bh fr δ).set jj (.own (.Bs kvs)))) xs full D) ⟨⟨Ga,[],full,Ra.other hGD hHD hap,AJ.refl _,hGD,by simpa using m4,rfl,.nil⟩,hHD,hap⟩ ?_ ?_
 ·rintro i ys H1 hlt ⟨⟨G1,done,rest,R1,s1,g1,c1,e1,d1⟩,_,_⟩ hD1;have hx:xs[i]? = some xs[i]:=by simp[hlt]
  have sH:=s1.trans R1.ins;have hyl:ys.length<sizeLine:=Ji (by
   rw[d1.len];have:done.length≤full.length:=by rw[←e1];simp
   lia)
  refine⟨it.go i _ H1 hx sH,hyl,fun v H' y=>?_⟩;obtain⟨G2,n1,n2,n3,n4,n5⟩:=it.Dm i _ H1 v H' hx sH y G1 s1 R1.ins;have R2:=R1.lift n1 n2 n3 n4;have hD2:=n4 _ _ hD1;have g2:G2 D=none:=Jk g1 hD1 n2 n3 n4;rw[List.drop_eq_getElem_cons hlt]at c1;unfold collect at c1;obtain⟨o,c2,c3⟩:=aB.mp c1;obtain⟨rest',c4,rfl⟩:=aC.mp c3;unfold F7 CD at c2;simp only[Option.bind_some]at c2;obtain⟨b,c5,c6⟩:=aB.mp c2;obtain⟨ad,oc,k1,k2,k3,k4,k5⟩:=R2.own jo _ hjo;have nD:D≠ad:=fun z=>hap jo _ hjo (by rw[z];exact k1);have hDl:less H' ad D=some (.lst ys):=by rw[LQ nD];exact hD2
  have Ri:=((R2.Yi hfr hjo k1).put n5).Iy (i:=ix);have Ri0:Rw G2 (less H' ad) G2 H' ((carry fr σ).set ix (some v)) (((Bh fr δ).set jj (.own (.Bs kvs))).set ix (.d xs[i])) []:=Ri.less fun q hq=>by cases hq
  have hoi:((((Bh fr δ).set jj (.own (.Bs kvs))).set ix (.d xs[i])):Dv)[jj]? = some (.own (.Bs kvs)):=by
   rw[List.getElem?_set_ne hij];exact OI hfr
  have hsi:((carry fr σ).set ix (some v))[jj]? = some (some (.ref ad)):=by
   rw[List.getElem?_set_ne hij];exact PQ hfr k1
  refine⟨_,b,G2,less H' ad,G2,[],c5,Ri0,fun G3 H3 R3=>?_⟩;have R3o:=R2.WH hjo k1 hoi hsi R3;have hD3:=R3.keep _ _ hDl;have g3:G3 D=none:=Jk g2 hDl R3.new R3.ins R3.keep;dsimp only;split
  ·rename_i hb;rw[if_pos hb]at c6;obtain⟨w,c7,rfl⟩:=aC.mp c6;refine⟨_,w,G2,less H' ad,G3,[],c7,R3,fun u G4 H4 R4=>?_⟩;have R4o:=R2.WH hjo k1 hoi hsi R4;have hD4:=R4.keep _ _ hDl;have g4:G4 D=none:=Jk g2 hDl R4.new R4.ins R4.keep;refine⟨hD4,ND hlt ⟨⟨G4,done++[w],rest',R4o.other g4 hHD hap,s1.trans (n1.trans R4.ext),g4,c4,by simpa using e1,(d1.same (n1.trans R4.ext)).app (.cons (R4.A0 _ (.head _)) .nil)⟩,hHD,hap⟩⟩
  ·rename_i hb;rw[if_neg hb]at c6;cases c6;exact NO hlt hD3 ⟨⟨G3,done,rest',R3o,s1.trans (n1.trans R3.ext),g3,c4,by simpa using e1,d1.same (n1.trans R3.ext)⟩,hHD,hap⟩
 ·rintro ys H1 ⟨⟨G1,done,rest,R1,s1,g1,c1,e1,d1⟩,_,_⟩ hD1;refine⟨it.stop H1 (s1.trans R1.ins),?_⟩;rw[List.drop_length]at c1;cases c1;rw[List.append_nil]at e1;subst e1;exact k _ _ _ _ R1 hD1 g1 hHD hap d1
theorem VN(N:List Str)(ix:Nat)(fr:List (Option Nat))(jj jo:Nat)(hi:DI X (.Name x px) iter fs)(hif:∀cl C s₀ H₀ fp,OT (Ai X scope cl N C s₀ H₀ fp) ifs tif)(he:∀cl C s₀ H₀ fp,DE (Ai X scope cl N C s₀ H₀ fp) elt f)
 (hfr:fr[jj]? = some (some jo):=by rfl)(hij:ix≠jj:=by decide)
 (h1:Bd scope N x ix=true:=by decide +kernel)(h2:X.calm=true:=by rfl)(h3:Dg N X.N scope X.env.scope fr 0=true:=by rfl)(h4:fr.length=N.length:=by rfl)(h5:freeOk X.env.scope scope.names=true:=by rfl)
 (hs:∀x,foldedSetIterable iter X.env x=pure x:=by intro _;rfl):DE X (.ListComp elt [⟨.Name x px,iter,ifs,0⟩] scope pos) (Jb jj jo (CD ix) tif f fr fs):=by
 obtain⟨wi,pi,ki⟩:=hi;refine⟨_,Ma N ix fr pi hif (fun cl C s₀ H₀ fp=>(he cl C s₀ H₀ fp).pe) h1 h2 h3 h4 h5 hs,fun δ z hz G0 H0 G H σ ts Q R0 k=>?_⟩;unfold Jb at hz;obtain⟨full,m1,rfl⟩:=aC.mp hz;refine Sf hfr hij ki m1 R0 fun D ys G1 H1 R1 hD1 g1 hHD hap d1=>?_;have e:AJ G1 (upd G1 D (.lst ys)):=BU g1 _;have R2:=R1.adopt hD1 g1 hHD hap;refine k _ _ _ (R2.put ?_);rw[Du];exact⟨D,ys,rfl,AW,d1.same e⟩
end
end L2
set_option maxHeartbeats 4000000
namespace L2
open PySem PySem.Spec PyProof.Rows
def WG(H:Hp)(x:V)(Q:VK):Prop:=∃(a:Addr) (kvs:List (List Key×V)) (ps:List (List Int)),x=.ref a∧H a=some (.dT kvs)∧kvs.length≤1000∧(∀prog w,GS.Runs IT.ord prog w ps)∧(∀p∈ps,p≠[])∧kvs.map (·.1)=ps.map (·.map Sum.inl) ∧
 ∀(D:Addr) (L:List (List Int×Addr)),H D=none→(L.map (·.1)).Perm ps→L.Pairwise (fun p q=>IT.ord.kle p.1 q.1)→(∀l∈L,H l.2=some (.tup (l.1.map V.int)))→Q (.ref D) (upd H D (.lst (L.map fun l=>V.ref l.2)))
theorem TR{X:Cx}{pins:List (Addr×Obj)}{σ:St}{H:Hp}{s:Shared}{Q:VK}(I:Inv X pins σ H s){x:V}{v:Value}(rx:RelV x v)(hu:X.A.units+64<cLine)(hc:X.calm=true)(q:WG H x Q) :
  wpAny (model X.prog X.w) X.A (call (.builtin "sorted") [v]) (EP X pins σ Q) X.xe s:=by
 obtain⟨a,kvs,ps,rfl,ha,hk,hr,hne,hps,q⟩:=q;cases rx;obtain⟨hz,nd,xs,kt,o,es,ep,r1,r2,r3,r4,r5,r6⟩:=WD I.Aa ha;have hlen:es.size=kvs.length:=by rw[size_of_entries r4];exact(Paired.length kt).symm
 have hpl:ps.length=kvs.length:=by
  have:=bA List.length hps
  simpa using this.symm
 have hxl:xs.length=kvs.length:=(Paired.length kt).symm
 let L0:List (List Int×Addr):=ps.zip (xs.map (·.2.1))
 have hL:L0.length=kvs.length:=by simp[L0,hpl,hxl]
 have l1:L0.map (·.1)=ps:=by
  show(ps.zip _).map Prod.fst=ps;exact List.map_fst_zip (by simp[hpl,hxl])
 have l2:L0.map (·.2)=xs.map (·.2.1):=by
  show(ps.zip _).map Prod.snd=_;exact List.map_snd_zip (by simp[hpl,hxl])
 have hkey:es.toList.map (·.key)=L0.map fun l=>Value.ref l.2:=by
  have:(L0.map fun l=>Value.ref l.2)=(L0.map (·.2)).map Value.ref:=by simp
  rw[this,l2];apply List.ext_getElem?;intro j;rw[List.getElem?_map,Array.getElem?_toList,entry_at r4 j,List.map_map,List.getElem?_map];cases xs[j]? <;> rfl
 have hin:∀l∈L0,H l.2=some (.tup (l.1.map V.int)):=fun l hl=>by
  obtain⟨j,hj⟩:=List.getElem?_of_mem hl;have h1:(L0.map (·.1))[j]? = some l.1:=by rw[List.getElem?_map,hj];rfl
  have h2:(L0.map (·.2))[j]? = some l.2:=by rw[List.getElem?_map,hj];rfl
  rw[l1]at h1;rw[l2,List.getElem?_map]at h2;obtain⟨y,hy,e⟩:=aC.mp h2;have hjk:j<kvs.length:=by rw[←hxl];exact(aG.mp hy).1
  obtain⟨kv,hkv⟩:∃kv,kvs[j]? = some kv:=⟨kvs[j],by simp[hjk]⟩;have p1:=OP kt hkv hy;have h3:kv.1=l.1.map Sum.inl:=by
   have:=bA (·[j]?) hps;simp only[List.getElem?_map,hkv,h1]at this;exact aS this
  have h4:H y.2.1=some (.tup (kv.1.map kV)):=p1.1 ▸ p1.2.1
  rw[e,h3,Zb]at h4;exact h4
 have C:GS.Td IT.ord X.prog X.w s.heap 0 ps (L0.map fun l=>Value.ref l.2):=IT.Y3 (by rw[List.length_map,hL,hpl]) fun i x u h1 h2=>by
  have h1:(L0.map (·.1))[i]? = some x:=by rw[l1];exact h1
  rw[List.getElem?_map]at h1 h2;obtain⟨l,e1,rfl⟩:=aC.mp h1;rw[e1]at h2;cases h2;have hm:=au e1;obtain⟨its,v1,p1,_⟩:=I.tuple (A9.of (K:=X.K) (hin l hm));exact⟨_,its,rfl,p1,Ov v1,hne _ (l1 ▸ aP.mpr ⟨l,hm,rfl⟩)⟩
 refine GS.VC ([]:List Int) (GS.PB (A:=X.A.in1) nd r1 r2.1 r3 (show X.A.in1.handled=none from I.ok.hd hc) hkey (by rw[List.length_map,hL];exact hk)) C (by rw[List.length_map,hL];exact hk) (show GS.Runs IT.ord X.prog X.w ps from hr _ _) (by lia) fun h' D tk ix e1 hD k1 gD p1 p2=>?_;rw[List.length_map]at p1
 let L:List (List Int×Addr):=ix.map fun i=>L0.getD i ([],0)
 have hix:∀i∈ix,i<L0.length:=fun i hi=>List.mem_range.mp (p1.mem_iff.mp hi);have hp:L.Perm L0:=by
  have:=p1.map fun i=>L0.getD i ([],0);refine this.trans (List.Perm.of_eq ?_);apply List.ext_getElem?;intro j;rw[List.getElem?_map];by_cases hj:j<L0.length
  ·rw[List.getElem?_range hj];simp[hj]
  ·rw[List.getElem?_eq_none (by simpa using hj),List.getElem?_eq_none (by simpa using hj)]
   rfl
 have e3:ix.map (fun i=>(L0.map fun l=>Value.ref l.2).getD i Value.none)=L.map fun l=>Value.ref l.2:=by
  rw[List.map_map];refine ao fun i hi=>?_;have:=hix i hi;simp[this]
 have e4:ix.map (fun i=>ps.getD i [])=L.map (·.1):=by
  rw[←l1,List.map_map];refine ao fun i hi=>?_;have:=hix i hi;simp[this]
 rw[e3]at gD;have p2:(L.map (·.1)).Pairwise (fun x y:List Int=>IT.ord.kle x y):=e4 ▸ (show(ix.map fun i=>ps.getD i []).Pairwise (fun x y:List Int=>IT.ord.kle x y) from p2)
 clear_value L
 have e5:(L.map fun l=>Value.ref l.2)=(L.map (·.2)).map Value.ref:=by rw[List.map_map];rfl
 have e6:(L.map fun l=>V.ref l.2)=(L.map (·.2)).map V.ref:=by rw[List.map_map];rfl
 exact⟨.ref D,upd H D (.lst (L.map fun l=>V.ref l.2)),I.laid (t':=tk) k1 hD ⟨by rw[List.length_map,hp.length_eq,hL];exact hz,L.map (fun l=>Value.ref l.2),e1,by rw[e5,e6];exact OY _,gD⟩,rfl,q D L (I.Aa.fresh hD) (by rw[←l1];exact hp.map _) (List.pairwise_map.mp p2) fun l hl=>hin l (hp.mem_iff.mp hl)⟩
theorem Qx{X:Cx}(hu:X.A.units+64<cLine)(hc:X.calm=true):GC X (.builtin "sorted") (fun xs H Q=>∃x,xs=[x]∧WG H x Q):=by
 intro pins s σ H xs us Q I r h;obtain⟨x,rfl,q⟩:=h;obtain⟨u,rfl,ru⟩:=vals1 r;exact TR I ru hu hc q
def Mw:List Key→Option (List Int)
 |[]=>some []
 |.inl i::r=>(Mw r).map (i :: ·)
 |_=>none
def JQ:List (List Key)→Option (List (List Int))
 |[]=>some []
 |k::r=>(Mw k).bind fun p=>(JQ r).map (p :: ·)
theorem Pk:∀ {k:List Key} {p:List Int},Mw k=some p→k=p.map Sum.inl
 |[],_,h=>by cases h;rfl
 |.inl i::r,p,h=>by
  obtain⟨q,h1,rfl⟩:=aC.mp h;rw[Pk h1];rfl
 |.inr _::_,_,h=>by cases h
theorem N9:∀ {ks:List (List Key)} {ps:List (List Int)},JQ ks=some ps→ks=ps.map (·.map Sum.inl)
 |[],_,h=>by cases h;rfl
 |k::r,ps,h=>by
  obtain⟨p,h1,h2⟩:=aB.mp h;obtain⟨q,h3,rfl⟩:=aC.mp h2;rw[Pk h1,N9 h3];rfl
def KY(p q:List Int):Bool:=!(IT.lt q p)
def sortI(ps:List (List Int)):List (List Int):=ps.mergeSort KY
abbrev tupI(p:List Int):PyData:=.tuple (p.map .int)
def E9(kvs:List (List Key×PyData)):Option PyData:=(JQ (kvs.map (·.1))).bind fun ps=>if ps.length<64∧(ps.all fun p=>decide (p≠[]))=true then some (.list ((sortI ps).map tupI)) else none
theorem F9{p q:List Int}:KY p q=true ↔ IT.ord.kle p q:=by
 unfold KY;show(!(IT.lt q p))=true ↔ IT.lt q p=false;cases IT.lt q p<;>simp
theorem Tu(p q r:List Int)(h:KY p q=true)(k:KY q r=true):KY p r=true:=F9.mpr (KeyOrd.kle_trans (F9.mp h) (F9.mp k))
theorem S0(p q:List Int):(KY p q||KY q p)=true:=by
 unfold KY;cases h:IT.lt q p with
 |false=>rfl
 |true =>
  cases k:IT.lt p q with
  |false=>rfl
  |true=>have:=IT.lt_trans _ _ _ h k;rw[IT.lt_irrefl]at this;cases this
theorem sortI_perm(ps:List (List Int)):(sortI ps).Perm ps:=List.mergeSort_perm ps KY
theorem Ke(ps:List (List Int)):(sortI ps).Pairwise fun p q=>KY p q=true:=List.pairwise_mergeSort Tu S0 ps
theorem V3{ps qs:List (List Int)}(h:qs.Perm ps)(k:qs.Pairwise fun p q=>KY p q=true):qs=sortI ps :=
 (h.trans (sortI_perm ps).symm).eq_of_pairwise (fun p q _ _ h1 h2=>IT.HV _ _ (F9.mp h2) (F9.mp h1)) k (Ke ps)
theorem Bp.keys{G:Hp}:∀ {t:List (List Key×PyData)} {r:List (List Key×V)},Bp G t r→r.map (·.1)=t.map (·.1)
 |[],r,h=>by rw[Bp]at h;subst h;rfl
 |q::t,r,h=>by
  obtain⟨u,r',rfl,h1,h2⟩:=h;rw[List.map_cons,List.map_cons,h2.keys]
theorem Pu{G H:Hp}:∀ {L:List (List Int×Addr)},(∀l∈L,H l.2=some (.tup (l.1.map V.int)))→Ac (L2.Bm G H) (L.map fun l=>tupI l.1) (L.map fun l=>V.ref l.2)
 |[],_=>.nil
 |l::L,h=>by
  refine .cons ?_ (Pu fun q hq=>h q (.tail _ hq));rw[Du];refine⟨l.2,l.1.map V.int,rfl,?_,Ku _⟩;unfold L2.Bm;rw[h l (.head _)]
section
variable{X:Cx}{j:Nat}{y:Str}{np p pos:Pos}
theorem VI(hu:X.A.units+64<cLine)(hc:X.calm=true)(hg:Gl X "sorted")(hm:X.mg "sorted" = none)(hv:PE X (.Name y np) (F8 j))(hs1:starEach [.Name y np] X.env=(false,eval (.Name y np) X.env)::starEach [] X.env:=by rfl)(hpl:(backTo pos (starEach [] X.env)).any (·.1)=false:=by rfl) :
  DE X (.Call (.Name "sorted" p) [.Name y np] [] pos) (fun δ=>(Bs j δ).bind E9):=by
 refine⟨_,Au (Qx hu hc) hg hm PyProof.Rows.boot_sorted (AL hv AZ hs1) (he:=hs1) (hpl:=hpl),fun δ z hz G0 H0 G H σ ts Q R k=>?_⟩;obtain⟨kvs,h1,h2⟩:=aB.mp hz;have hi:=Mq h1;obtain⟨ad,_,k1,k2,k3,k4,⟨r,rfl,k5⟩⟩:=R.own j _ hi;unfold E9 at h2;obtain⟨ps,h3,h4⟩:=aB.mp h2;split at h4
 case isFalse=>cases h4
 rename_i hc2;cases h4;have e:=N9 h3;have hl:r.length=ps.length:=by
  have:=bA List.length e
  simpa[k5.len]using this
 refine⟨.ref ad,k1,.ref ad,rfl,ad,r,ps,rfl,k4,by lia,fun _ _=>GS.SD hc2.1,fun p hp=>aX (List.all_eq_true.mp hc2.2 p hp),by rw[k5.keys];exact e,fun D L hD p1 p2 p3=>?_⟩;have e2:(sortI ps).map tupI=L.map fun l=>tupI l.1:=by
  rw[←V3 p1 (List.pairwise_map.mpr (p2.imp fun h=>F9.mpr h)),List.map_map];rfl
 have R':=R.Bm.NT (Pu (G:=G) p3) hD;rw[←e2]at R';exact k _ _ _ R'
end
end L2
set_option maxHeartbeats 2000000
namespace L2
open PySem PySem.Spec PyProof.Rows
section
variable{X:Cx}{k:Nat}{f1 f2 f3:Addr}{fd1 fd2 fd3:FuncData}{ps1 ps2 ps3:List Str}{sp1 sp2 sp3:Sp}{x1 x2 x3:Str}{st1 st2 st3:Stmt}{pos:Pos}{fe e:Expr}{es:List Expr}{tf:TE}{t:TA}
def YO(f1 f2 f3:Addr)(sp1 sp2 sp3:Sp)(tf:TE)(t:TA):TX:=fun σ H Q E=>tf σ H fun v H1=>(v=.ref f1∧t σ H1 fun vs H2=>sp1 (vs++[]) H2 Q E)∨(v=.ref f2∧t σ H1 fun vs H2=>sp2 (vs++[]) H2 Q E)∨(v=.ref f3∧t σ H1 fun vs H2=>sp3 (vs++[]) H2 Q E)
theorem Ur(T1:Fn X.K X.mg x1 st1 ps1 f1 fd1)(G1:AM X.prog X.w X.K X.mg X.base (Bz X.prog X.w) k f1 fd1 ps1 sp1)(T2:Fn X.K X.mg x2 st2 ps2 f2 fd2)(G2:AM X.prog X.w X.K X.mg X.base (Bz X.prog X.w) k f2 fd2 ps2 sp2)(T3:Fn X.K X.mg x3 st3 ps3 f3 fd3)(G3:AM X.prog X.w X.K X.mg X.base (Bz X.prog X.w) k f3 fd3 ps3 sp3)
 (hr:CM k X.A)(hf:PE X.GR fe tf)(ha:PA X.GR (e::es) t)
 (harm:eval (.Call fe (e::es) [] pos) X.env=(do callWith pos (←eval fe X.env) [] (backTo pos (starEach (e::es) X.env)) (backToKw pos (keywordEach [] X.env))):=by rfl)
 (he:starEach (e::es) X.env=(false,eval e X.env)::starEach es X.env:=by rfl)(hpl:(backTo pos (starEach es X.env)).any (·.1)=false:=by rfl):dn X (.Call fe (e::es) [] pos) (YO f1 f2 f3 sp1 sp2 sp3 tf t):=by
 intro pins s σ H Q E I h;rw[harm];refine aA (aN (hf pins s σ H _ (I.FL _) h) (fun u s1 ⟨v,H1,I1,r1,q⟩=>?_) fun _ _ z=>z.elim);rcases q with ⟨rfl,q⟩|⟨rfl,q⟩|⟨rfl,q⟩
 ·cases r1;refine PySem.W.callWith_K (h₀:=X.base) I.ok.mod.KH T1.F.kp (aN (ha pos pins s1 σ H1 _ I1 q) (fun us s2 ⟨vs,H2,I2,r,q⟩=>⟨I2.EG,?_⟩) fun _ _ z=>z.elim) he hpl;exact NP G1 hr T1.b I2.Cz r q
 ·cases r1;refine PySem.W.callWith_K (h₀:=X.base) I.ok.mod.KH T2.F.kp (aN (ha pos pins s1 σ H1 _ I1 q) (fun us s2 ⟨vs,H2,I2,r,q⟩=>⟨I2.EG,?_⟩) fun _ _ z=>z.elim) he hpl;exact NP G2 hr T2.b I2.Cz r q
 ·cases r1;refine PySem.W.callWith_K (h₀:=X.base) I.ok.mod.KH T3.F.kp (aN (ha pos pins s1 σ H1 _ I1 q) (fun us s2 ⟨vs,H2,I2,r,q⟩=>⟨I2.EG,?_⟩) fun _ _ z=>z.elim) he hpl;exact NP G3 hr T3.b I2.Cz r q
end
theorem dg{n:Nat}(h:n+64<cLine):n+1<cLine:=by lia
def Eu(m1 m2 m3:List PyData→Option Xr):List PyData→Option Xr
 |[.int w,x]=>if w=0 then m1 [x] else if w=1 then m2 [x] else if w=2 then m3 [x] else none
 |_=>none
section
variable{X:Cx}{a e:Expr}{fa fe:Dv→Option PyData}{pos lp sp p1 p2 p3:Pos}{x1 x2 x3:Str}{st1 st2 st3:Stmt}{ps1 ps2 ps3:List Str}{f1 f2 f3:Addr}{fd1 fd2 fd3:FuncData}{m1 m2 m3:List PyData→Option Xr}
theorem X6{kk k:Nat}{h0:ExceptHandler}{hs:List ExceptHandler}{spos tp:Pos}{Fh:Addr→DF}(T1:Fn X.K X.mg x1 st1 ps1 f1 fd1)(G1:AM X.prog X.w X.K X.mg X.base (Bz X.prog X.w) kk f1 fd1 ps1 (D0 m1))(T2:Fn X.K X.mg x2 st2 ps2 f2 fd2)(G2:AM X.prog X.w X.K X.mg X.base (Bz X.prog X.w) kk f2 fd2 ps2 (D0 m2))(T3:Fn X.K X.mg x3 st3 ps3 f3 fd3)(G3:AM X.prog X.w X.K X.mg X.base (Bz X.prog X.w) kk f3 fd3 ps3 (D0 m3))
 (hr:CM kk X.A)(ha:DE X.GR a fa)(hx:DA X.GR [e] (fun δ=>(fe δ).bind fun x=>some [x]))(hpx:LH a)
 (hN:X.N.Nodup)(hH:∀ds C,Eu m1 m2 m3 ds=some (.inr C)→∀ea,Wl X C ea k (h0::hs) (Fh C))
 (hcalm:X.calm=true:=by rfl)(hstk:∃rest,X.stack=X.env::rest:=by exact⟨_,rfl⟩)(hfr:X.env.frame=some X.env.locals:=by rfl)(hg1:Gl X x1:=by rfl)(hg2:Gl X x2:=by rfl)(hg3:Gl X x3:=by rfl)
 (hd1:(x1==("__debug__" : Str))=false:=by decide)(hd2:(x2==("__debug__" : Str))=false:=by decide)(hd3:(x3==("__debug__" : Str))=false:=by decide)
 (hs0:starEach [.Name x1 p1,.Name x2 p2,.Name x3 p3] X.env=(false,eval (.Name x1 p1) X.env)::starEach [.Name x2 p2,.Name x3 p3] X.env:=by rfl)(hs1:starEach [.Name x2 p2,.Name x3 p3] X.env=(false,eval (.Name x2 p2) X.env)::starEach [.Name x3 p3] X.env:=by rfl)(hs2:starEach [.Name x3 p3] X.env=(false,eval (.Name x3 p3) X.env)::starEach [] X.env:=by rfl)
 (he:starEach [e] X.env=(false,eval e X.env)::starEach [] X.env:=by rfl)(hpl:(backTo pos (starEach [] X.env)).any (·.1)=false:=by rfl)
 (harm:eval (.Call (.Subscript (.List [.Name x1 p1,.Name x2 p2,.Name x3 p3] lp) a sp) [e] [] pos) X.env=(do callWith pos (←eval (.Subscript (.List [.Name x1 p1,.Name x2 p2,.Name x3 p3] lp) a sp) X.env) [] (backTo pos (starEach [e] X.env)) (backToKw pos (keywordEach [] X.env))):=by rfl)
 (hse:swapsWith (.Call (.Subscript (.List [.Name x1 p1,.Name x2 p2,.Name x3 p3] lp) a sp) [e] [] pos) none spos.line X.env=pure false:=by rfl) :
  DS X (.Try [.Expr (.Call (.Subscript (.List [.Name x1 p1,.Name x2 p2,.Name x3 p3] lp) a sp) [e] [] pos) spos] (h0::hs) [] [] tp) (Oo k (Eu m1 m2 m3) (fun δ=>(fa δ).bind fun w=>(fe δ).map fun x=>[w,x]) Fh):=by
 obtain⟨ta,pa,ka⟩:=ha;obtain⟨tx,px,kx⟩:=hx;refine⟨_,X7 (k:=k) (Ur T1 G1 T2 G2 T3 G3 hr (Cp LV (QF (AL (Bv (v:=.ref f1) hg1 T1.m rfl hd1) (AL (Bv (v:=.ref f2) hg2 T2.m rfl hd2) (AL (Bv (v:=.ref f3) hg3 T3.m rfl hd3) AZ hs2) hs1) hs0)) pa hpx) px harm he hpl) hN hcalm hstk hfr hse,fun δ r h G0 H0 G H σ D R q=>?_⟩;obtain⟨w,h1,h2⟩:=aB.mp h;have h1':=h1;obtain⟨ds,h5,hm⟩:=aB.mp h1';obtain⟨wd,h6,h7⟩:=aB.mp h5;obtain⟨x,h8,rfl⟩:=aC.mp h7;have hm0:=hm;unfold Eu at hm;split at hm
 case h_2=>cases hm
 rename_i wi x' heq;cases heq;refine⟨(by show 3≤sizeLine;decide),fun pF nF=>?_⟩;have R1:=R.newObj (o:=.lst [.ref f1,.ref f2,.ref f3]) nF;refine ka δ _ h6 _ H0 _ _ σ _ _ R1.base fun u G2 H2 R2=>?_;have du:=R2.A0 (.int wi,u) (.head _);rw[Du]at du;subst du;have hL:H2 pF=some (.lst [.ref f1,.ref f2,.ref f3]):=R2.ins _ _ (R2.ext _ _ AW);have R3:Rw G0 H0 G2 H2 σ δ []:=(R1.Mi R2).drop;have fin:∀m:List PyData→Option Xr,m [x]=some w→tx σ H2 fun vs H3=>D0 m (vs++[]) H3 (fun _ H1=>D.nx σ H1) fun cls _ H'=>∃C,cls=.ref C∧∀ea,∃tb,MX X C ea k (h0::hs) tb∧(H' ea=none→tb (Ow D k) (σ.set k (some (.ref ea))) (upd H' ea (Im ea cls))):=fun m em=>by
  refine TM (k:=kk) kx (show((fe δ).bind fun x=>some [x]).bind m=some w by rw[h8];exact em) R3 (fun x hx v G' H' R'=>?_) (fun C hC G' H' R'=>?_)
  ·subst hx;cases h2;exact q _ _ _ R'.drop
  ·subst hC;refine⟨C,rfl,fun ea=>?_⟩;obtain⟨tb,p1,p2⟩:=hH _ C hm0 ea;refine⟨tb,p1,fun hea=>?_⟩;obtain⟨o,h3,h4⟩:=aB.mp h2;have R2:=R'.newObj (o:=Im ea (.ref C)) hea;have de:Du (upd G' ea (Im ea (.ref C))) (FA C) (.ref ea):=by unfold FA;rw[Du];exact .inl ⟨ea,C,rfl,rfl,AW⟩
   refine p2 _ o h3 G0 H0 _ _ _ _ ((R2.put de).Iy) ?_;cases o with
   |nx δ'=>cases h4;exact fun σ4 G4 H4 R4=>q _ _ _ (R4.cx k none)
   |rt v=>cases h4
   |bk v=>cases h4
   |ct v=>cases h4
   |rn v=>cases h4
 split at hm
 ·rename_i e0;subst e0;exact⟨pF,_,0,.ref f1,rfl,rfl,A3.of hL,rfl,.inl ⟨rfl,fin m1 hm⟩⟩
 split at hm
 ·rename_i e0;subst e0;exact⟨pF,_,1,.ref f2,rfl,rfl,A3.of hL,rfl,.inr (.inl ⟨rfl,fin m2 hm⟩)⟩
 split at hm
 ·rename_i e0;subst e0;exact⟨pF,_,2,.ref f3,rfl,rfl,A3.of hL,rfl,.inr (.inr ⟨rfl,fin m3 hm⟩)⟩
 ·cases hm
end
theorem Qd(t:Tok)(l:Addr)(items:Array Value)(n:Nat)(dd:Option Addr)(sl:Array (Option Value))(he:items.isEmpty=false) :
  Meets (Builtin.«tuple.__mul__» { pos:=[.ref l,.int 0 t]}) fun _ R s=>s.heap.get? l=some { cls:=.type "tuple",dict:=dd,data:=.seq items n,slots:=sl}∧R (.ok (.ret (.ref s.heap.objs.size))) {s with heap:=s.heap.push { cls:=.type "tuple",data:=.seq #[]} } :=
 Meets.of_wp fun prog w A R s h=>by
  obtain⟨hl,h⟩:=h;show wpAny _ _ (asIndex (.int 0 t)>>=_) _ _ s;refine aA ?_;refine aA (aD (aD ?_));refine aq (by decide) ?_;refine aA (wpAny_tupleItemsOf hl rfl ?_);refine aq (by simp[he]) ?_;refine wpAny_ite_true (by simp) ?_;exact aA (m:=Builtin.Tuple.tupleExact _) (aT (aD ⟨_,rfl,h⟩) (by show(#[]:Array Value).size≤sizeLine;exact ar _))
section
variable{X:Cx}
def Yo:R2:=fun x y H Q=>∃a xs,x=.ref a∧y=.int 0∧H a=some (.tup xs)∧xs≠[]∧∀p,H p=none→Q (.ref p) (upd H p (.tup []))
theorem VH:CH X (binaryOp .Mult) Yo:=by
 intro pins s σ H x y v u Q I rx ry h;obtain⟨a,xs,rfl,rfl,ha,hne,q⟩:=h;cases rx;obtain⟨t,rfl⟩:=ry;obtain⟨its,r1,p1,_⟩:=I.tuple (A9.of (K:=X.K) ha);obtain⟨⟨cls,dd,data,sl⟩,ho,hc,n,hd⟩:=id p1;simp only at hc hd;subst hc hd;have hie:its.toArray.isEmpty=false:=by
  cases its with
  |nil=>exact absurd (r1.LJ.mp rfl) hne
  |cons=>simp
 refine wpAny_binaryOp_repeat_ref (T := "tuple") (U := "int") (by decide) ⟨_,ho,rfl⟩ (fun s'=>typeIs_int s' 0 t) Hx F.fills_int_mul F.slot_int_rmul K2 F.slot_int_index.lookup
  (call_meets F.slot_int_rmul (typeIs_int s 0 t) F.entry_int_rmul (F.args_int_rmul_2 _ _) (JD 0 t a its.toArray n dd sl) ⟨ho,rfl,⟨_,ho,rfl⟩,?_⟩)
 refine call_meets F.slot_tuple_mul ⟨_,ho,rfl⟩ F.entry_tuple_mul (F.args_tuple_mul_2 _ _) (Qd t a its.toArray n dd sl hie) ⟨ho,?_⟩;refine⟨.ref s.heap.objs.size,_,I.laid (t':=s.toks) (o:=.tup []) (fun b ob q=>aE _ q) (aH _) ?_,rfl,q _ (I.Aa.fresh (aH _))⟩;exact⟨ar _,[],.nil,IsTup.new _ _⟩
def Sn:PyData→PyData→Option PyData:=fun x y=>match x,y with|.tuple a,.int k=>(if a.length≠0∧k=0 then some (.tuple []) else none)|_,_=>none
theorem VL:Cf X (binaryOp .Mult) Sn:=by
 refine⟨_,VH,fun x y z hz G0 H0 G H σ δ ts u v Q R0 du dv k=>?_⟩;unfold Sn at hz;split at hz
 ·split at hz
  ·rename_i hl;cases hz;rw[Du]at du;rw[Du]at dv;obtain⟨p,xs,rfl,h1,h2⟩:=du;subst dv;refine⟨p,xs,rfl,by rw[hl.2],R0.ins _ _ h1,fun z=>hl.1 (by rw[←h2.len,z];rfl),fun l hl'=>k _ _ _ (R0.SK (xs:=[]) .nil hl')⟩
  ·cases hz
 ·cases hz
def JR:PyData→PyData→Option PyData:=Ft Ww Sn
theorem J8:Cf X (binaryOp .Mult) JR:=XM.or VL
end
end L2
set_option maxHeartbeats 4000000
namespace Q81
open PySem L2
abbrev Ex:Stmt:=top 15
abbrev EC:Stmt:=top 16
abbrev HH:Stmt:=top 17
abbrev EU:Stmt:=top 18
abbrev Kj:Stmt:=top 20
abbrev LA:Stmt:=top 21
abbrev Hk:Stmt:=top 22
abbrev Ki:Stmt:=top 24
abbrev Dr:Stmt:=top 25
abbrev FG:Stmt:=top 26
abbrev Ig:Stmt:=top 28
abbrev EV:Stmt:=top 29
abbrev Jy:Stmt:=top 32
abbrev Eo:Stmt:=top 33
abbrev J5:Stmt:=top 34
abbrev HU:Stmt:=top 37
abbrev Gj:Stmt:=top 38
abbrev F5:Stmt:=top 39
abbrev EE:Stmt:=top 40
abbrev FJ:Stmt:=top 41
abbrev Ie:Stmt:=top 42
abbrev Gu:Stmt:=top 43
abbrev Ii:Stmt:=top 44
abbrev Iz:Stmt:=top 45
abbrev FE:Stmt:=top 47
abbrev Ef:Stmt:=top 49
abbrev Fm:Stmt:=top 50
abbrev Ic:Stmt:=top 51
abbrev Hh:Stmt:=top 52
abbrev GX:Stmt:=top 55
abbrev Hj:Stmt:=top 56
abbrev F6:Stmt:=top 57
abbrev Gv:Stmt:=top 58
abbrev Wt:Stmt:=top 59
theorem Lh{n:String}:Bq (.ty n)≠.none:=fun z=>nomatch z
def ZQ:Sp:=fun vs H Q _=>∃a b,vs=[.int a,.int b]∧Q (.int (FM.gi a b)) H
def bI:Sp:=fun vs H Q _=>∃t b m,vs=[.int t,.int b]∧b≠0∧m≤9000∧b.natAbs<2^m∧∀l H',AJ H H'→H' l=some (.tup (eR (Rat.divInt t b)))→Q (.ref l) H'
section
variable{P:Program}{w:World}{K:PySem.W.Frag}{mg:Str→Option Value}{base:Heap}{f g:Addr}{fd:FuncData}
theorem Ka:Af ["one", "other", "greater", "lesser", "rest"] ["one", "other"] (AO EU):=⟨rfl,rfl,rfl,by decide +kernel,rfl,by decide +kernel,by decide +kernel⟩
def dU(σ:St):Nat:=match σ[3]? with|some (some (V.int l))=>l.natAbs|_=>0
theorem Kb(F:Fn K mg "greatest_divisor" EU ["one", "other"] f fd)(FU:mg "abs" = none):AM P w K mg base A2 1 f fd ["one", "other"] ZQ:=by
 have sc:=Ka;refine F.F.ok (k:=0) sc (fun vs H Q E h=>?_) (fun cdv A outer s H vs Q E hr h=>?_)
 ·obtain⟨a,b,rfl,_⟩:=h
  rfl
 obtain⟨a,b,rfl,q⟩:=h;refine⟨_,(A7 (Dj (i:=2) sc.nd rfl (Or.inl rfl) (Au Hu rfl FU bH (AL (pv 0) AZ)))
 (A7 (Dj (i:=3) sc.nd rfl (Or.inl rfl) (Au Hu rfl FU bH (AL (pv 1) AZ)))
 (A7 (Py aZ (CN KA (pv 3) BE (Ae _))
  (A7 (Dj (i:=4) sc.nd rfl (Or.inl rfl) (HJ Nu (pv 2) (pv 3)))
  (A7 (Dj (i:=2) sc.nd rfl (Or.inl rfl) (pv 3))
  (Aq (Dj (i:=3) sc.nd rfl (Or.inl rfl) (pv 4))))))
 (Aq (BM (pv 2)))))),?_⟩
 refine⟨_,rfl,_,rfl,_,rfl,_,rfl,?_⟩;refine P6 (fun σ H'=>∃g l r,σ=[some (.int a),some (.int b),some (.int g),some (.int l),r]∧H=H'∧Int.gcd g l=Int.gcd a b∧0≤g∧0≤l) (fun σ _=>dU σ) ?_ ?_ ?_
 ·exact⟨_,_,_,rfl,rfl,FM.RA a b,FM.abs_nonneg a,FM.abs_nonneg b⟩
 ·rintro σ H' ⟨g,l,r,rfl,rfl,hg,h0,h1⟩;refine⟨_,rfl,rfl,_,rfl,CK (fun c=>?_) (fun c=>?_)⟩
  ·have hl:l≠0:=fun z=>by subst z;simp at c
   refine⟨_,rfl,_,rfl,_,_,rfl,rfl,hl,_,rfl,_,rfl,⟨_,_,_,rfl,rfl,?_,h1,FM.fmod_nonneg hl h1⟩,?_⟩
   ·rw[FM.Ph];exact hg
   ·exact FM.OO g l hl
  ·have hl:l=0:=by simpa using c
   subst hl;refine⟨_,rfl,?_⟩;rw[FM.T6 hg h0];exact q
 ·exact fun σ H Q Q' hq ⟨v,e,s,k,e2,q⟩=>⟨v,e,s,k,e2,hq _ _ q⟩
end
def DU(H:Hp)(d:PyData)(v:V):Prop:=∃N:Nat,∀l,N≤l→Dt l H d v
def OH(H:Hp)(ds:List PyData)(xs:List V):Prop:=∃N:Nat,∀l,N≤l→Ax l H ds xs
theorem DU.int{H:Hp}{i:Int}:DU H (.int i) (.int i):=⟨0,fun _ _=>.int⟩
theorem DU.bool{H:Hp}{i:Bool}:DU H (.bool i) (.bl i):=⟨0,fun _ _=>.bool⟩
theorem DU.BR{H:Hp}:DU H .none .BR:=⟨0,fun _ _=>.BR⟩
theorem DU.str{H:Hp}{x:Str}:DU H (.str x) (.str x):=⟨0,fun _ _=>.str⟩
theorem OH.nil{H:Hp}:OH H [] []:=⟨0,fun _ _=>.nil⟩
theorem OH.cons{H:Hp}{d:PyData}{ds:List PyData}{x:V}{xs:List V}(h:DU H d x)(k:OH H ds xs):OH H (d::ds) (x::xs) :=
 let⟨N,a⟩:=h;let⟨M,b⟩:=k;⟨max N M,fun l hl=>.cons (a l (by lia)) (b l (by lia))⟩
theorem DU.lst{H:Hp}{a:Addr}{ds:List PyData}{xs:List V}(h:H a=some (.lst xs))(k:OH H ds xs):DU H (.list ds) (.ref a) :=
 let⟨N,b⟩:=k;⟨max N (a+1),fun l hl=>.lst (aL (show a<l from aJ (Nat.lt_succ_self a) (af (Nat.le_max_right _ _) hl))) h (b l (by lia))⟩
theorem DU.tup{H:Hp}{a:Addr}{ds:List PyData}{xs:List V}(h:H a=some (.tup xs))(k:OH H ds xs):DU H (.tuple ds) (.ref a) :=
 let⟨N,b⟩:=k;⟨max N (a+1),fun l hl=>.tup (aL (show a<l from aJ (Nat.lt_succ_self a) (af (Nat.le_max_right _ _) hl))) h (b l (by lia))⟩
def Ck:PyData→Bool
 |.tuple [.int a,.int b]=>decide (1≤b)&&(FM.gi a b==1)
 |_=>false
theorem MR{ds:List PyData}(h:ds.length≠2∨∃d0 d1,ds=[d0,d1]∧((GQ d0 && !FO d0)=false∨(GQ d1 && !FO d1)=false)):Ck (.tuple ds)=false:=by
 rcases h with h|⟨d0,d1,rfl,h⟩
 ·match ds,h with
  |[],_=>rfl
  |[a],_=>cases a<;>rfl
  |[_,_],h=>exact absurd rfl h
  |a::b::_::_,_=>cases a<;>first|rfl|(cases b<;>rfl)
 ·cases d0<;>first|rfl|(cases d1<;>first|rfl|(exfalso;rcases h with h|h<;>exact absurd h (by simp[GQ,FO])))
def QE:Sp:=fun vs H Q _=>∃l d v,vs=[v]∧Dt l H d v∧Q (.bl (GQ d && !FO d)) H
def QI:Sp:=fun vs H Q _=>∃l d v,vs=[v]∧Dt l H d v∧Q (.bl (Ck d)) H
theorem K7{d:PyData}(h:(GQ d && !FO d)=true):∃i,d=.int i:=by
 cases d<;>first|exact⟨_,rfl⟩|(exact absurd h (by simp[GQ,FO]))|(rename_i b;cases b<;>exact absurd h (by decide))
section
variable{P:Program}{w:World}{K:PySem.W.Frag}{mg:Str→Option Value}{base:Heap}{f g1 g2:Addr}{fd gd1 gd2:FuncData}
theorem Qw:Af ["thing"] ["thing"] (AO HH):=⟨rfl,rfl,rfl,by decide +kernel,rfl,by decide +kernel,by decide +kernel⟩
theorem Qp(F:Fn K mg "is_whole" HH ["thing"] f fd)(AI:mg "isinstance" = none)(Sl:mg "int" = none)(QU:mg "bool" = none):AM P w K mg base A2 1 f fd ["thing"] QE:=by
 have sc:=Qw;refine F.F.ok (k:=0) sc (fun vs H Q E h=>?_) (fun cdv A outer s H vs Q E hr h=>?_)
 ·obtain⟨l,d,v,rfl,_⟩:=h
  rfl
 obtain⟨l,d,v,rfl,hd,q⟩:=h;refine⟨_,(Aq (BM (K9 (Au C0 rfl AI aM (AL (pv 0) (AL (C7 (v:=.ty "int") rfl Sl PyProof.Rows.boot_int rfl) AZ))) (Mr (Yg (Au C0 rfl AI aM (AL (pv 0) (AL (C7 (v:=.ty "bool") rfl QU PyProof.Rows.boot_bool rfl) AZ)))))))),?_⟩;refine⟨_,rfl,_,_,_,_,rfl,Lh,hd.ty,Vh K d hd.nodict,_,rfl,CK (fun c=>⟨_,rfl,_,_,_,_,rfl,Lh,hd.ty,Uo K d hd.nodict,_,rfl,?_⟩) (fun c=>?_)⟩
 ·rw[c,Bool.true_and]at q;exact q
 ·rw[Bool.eq_false_iff.mpr c,Bool.false_and]at q;exact q
theorem NM:Af ["thing"] ["thing"] (AO Ex):=⟨rfl,rfl,rfl,by decide +kernel,rfl,by decide +kernel,by decide +kernel⟩
theorem Nh(F:Fn K mg "is_fraction" Ex ["thing"] f fd)(DM:Fn K mg "is_whole" HH ["thing"] g1 gd1)(DK:Fn K mg "greatest_divisor" EU ["one", "other"] g2 gd2)
 (HC:AM P w K mg base A2 1 g1 gd1 ["thing"] QE)(Kk:AM P w K mg base A2 1 g2 gd2 ["one", "other"] ZQ)(AI:mg "isinstance" = none)(BD:mg "tuple" = none)(Av:mg "len" = none):AM P w K mg base A2 2 f fd ["thing"] QI:=by
 have sc:=NM;refine F.F.ok (k:=1) sc (fun vs H Q E h=>?_) (fun cdv A outer s H vs Q E hr h=>?_)
 ·obtain⟨l,d,v,rfl,_⟩:=h
  rfl
 obtain⟨l,d,v,rfl,hd,q⟩:=h;refine⟨_,(A7 (DH (PW.pt (Eg (CT (CU (Au C0 rfl AI aM (AL (pv 0) (AL (C7 (v:=.ty "tuple") rfl BD aW rfl) AZ))))) (EN (CN KA (Au BQ rfl Av aQ (AL (pv 0) AZ)) BE (Ae _)))))
  (Aq (BM Ca))
  B3)
 (A7 (DH (PW.pt (Eg (CT (CU (Ei DM HC hr rfl (AL (Cp Ci (pv 0) BE (fun _ _=>rfl)) AZ)))) (EN (CT (CU (Ei DM HC hr rfl (AL (Cp Ci (pv 0) BE (fun _ _=>rfl)) AZ)))))))
  (Aq (BM Ca))
  B3)
 (Aq (BM (K9 (JM WU (Cp Ci (pv 0) BE (fun _ _=>rfl)) BE (Ae _)) (Mr (JM Ru (Ei DK Kk hr rfl (AL (Cp Ci (pv 0) BE (fun _ _=>rfl)) (AL (Cp Ci (pv 0) BE (fun _ _=>rfl)) AZ))) BE (Ae _)))))))),?_⟩
 refine⟨_,rfl,_,_,_,_,rfl,Lh,hd.ty,Hl K d hd.nodict,_,rfl,?_⟩;have no:B2 d=false→Ck d=false:=fun z=>by cases d<;>first|rfl|exact absurd z (by simp[B2])
 by_cases ht:B2 d=true
 ·rw[ht];obtain⟨ds,rfl⟩:∃ds,d=.tuple ds:=by cases d<;>first|exact⟨_,rfl⟩|exact absurd ht (by simp[B2])
  rw[Dt]at hd;obtain⟨a,xs,rfl,na,ha,hx⟩:=hd;have hlen:=hx.len;have s1:A9 K H a xs:=A9.of ha;refine J6 ⟨_,rfl,a,xs,rfl,.inr s1,rfl,_,rfl,CK (fun c=>?_) (fun c=>?_)⟩
  ·have:ds.length≠2:=by
    rw[←hlen];intro z;rw[z]at c;exact absurd c (by decide)
   rw[MR (.inl this)]at q;exact q
  ·have h2:xs.length=2:=by
    by_cases z:xs.length=2
    ·exact z
    ·exfalso
     refine c ?_;have:¬(V.int (xs.length:Nat)=V.int 2):=by simp;lia
     rw[decide_eq_false this];rfl
   obtain⟨d0,d1,rfl⟩:∃d0 d1,ds=[d0,d1]:=by
    match ds,(show ds.length=2 by lia) with
    |[x,y],_=>exact⟨x,y,rfl⟩
   rw[Ax]at hx;obtain⟨x0,r,rfl,hx0,hx⟩:=hx;rw[Ax]at hx;obtain⟨x1,r,rfl,hx1,hx⟩:=hx;rw[Ax]at hx;subst hx;refine⟨_,rfl,_,_,_,_,rfl,rfl,s1,rfl,l,d0,x0,rfl,hx0,_,rfl,CK (fun c0=>?_) (fun c0=>?_)⟩
   ·rw[MR (.inr ⟨d0,d1,rfl,.inl (by simp at c0;rcases c0 with c|c<;>simp[c])⟩)]at q;exact q
   refine⟨_,rfl,_,_,_,_,rfl,rfl,s1,rfl,l,d1,x1,rfl,hx1,_,rfl,CK (fun c1=>?_) (fun c1=>?_)⟩
   ·rw[MR (.inr ⟨d0,d1,rfl,.inr (by simp at c1;rcases c1 with c|c<;>simp[c])⟩)]at q;exact q
   obtain⟨i,rfl⟩:=K7 (d:=d0) (by simpa using c0);obtain⟨j,rfl⟩:=K7 (d:=d1) (by simpa using c1);rw[Dt]at hx0 hx1;subst hx0 hx1;refine⟨_,rfl,_,_,_,_,rfl,rfl,s1,rfl,_,_,rfl,rfl,_,rfl,CK (fun c=>?_) (fun c=>?_)⟩
   ·refine⟨_,rfl,_,_,_,_,rfl,rfl,s1,rfl,_,rfl,_,_,_,_,rfl,rfl,s1,rfl,i,j,rfl,rfl,?_⟩;have hj:1≤j:=by have:=aX c;lia
    have e:Ck (.tuple [.int i,.int j])=decide (V.int (FM.gi i j)=V.int 1):=by
     rw[Ck,decide_eq_true hj,Bool.true_and,Bool.eq_iff_iff];simp
    rw[e]at q;exact q
   ·have hj:¬1≤j:=fun z=>c (av (by lia));have e:Ck (.tuple [.int i,.int j])=false:=by rw[Ck,decide_eq_false hj,Bool.false_and]
    rw[e]at q;exact q
 ·rw[Bool.eq_false_iff.mpr ht];rw[no (aU.mpr ht)]at q;exact Dy (Dy q)
end
def Df:PyData→Bool
 |.list ds=>ds.all Ck
 |_=>false
def Ij:PyData→Nat
 |.list ds=>ds.length
 |_=>0
def rowAt(ds:List PyData)(i:Nat):Bool:=match ds[i]? with
 |some d=>Df d&&decide (Ij d=i)
 |none=>true
def JH(ds:List PyData):Bool:=(List.range ds.length).all (rowAt ds)
def C4:PyData→Bool
 |.list ds=>decide (1≤ds.length)&&(decide (ds.length≤40)&&JH ds)
 |_=>false
def JF:PyData→Bool
 |.tuple [r,l]=>C4 r&&(Df l&&decide (Ij l=Ij r))
 |_=>false
theorem Tt{d:PyData}(h:Bw d=false):Df d=false:=by cases d<;>first|rfl|exact absurd h (by simp[Bw])
theorem Qh{d:PyData}(h:Bw d=false):C4 d=false:=by cases d<;>first|rfl|exact absurd h (by simp[Bw])
theorem Ut{d:PyData}(h:B2 d=false):JF d=false:=by cases d<;>first|rfl|exact absurd h (by simp[B2])
theorem Sb{ds:List PyData}(h:ds.length≠2):JF (.tuple ds)=false:=by
 match ds,h with
 |[],_=>rfl
 |[_],_=>rfl
 |[_,_],h=>exact absurd rfl h
 |_::_::_::_,_=>rfl
theorem E8{d:PyData}(h:Bw d=true):∃ds,d=.list ds:=by cases d<;>first|exact⟨_,rfl⟩|exact absurd h (by simp[Bw])
theorem MP{d:PyData}(h:B2 d=true):∃ds,d=.tuple ds:=by cases d<;>first|exact⟨_,rfl⟩|exact absurd h (by simp[B2])
theorem Mu{d:PyData}(h:Df d=true):Bw d=true:=by cases d<;>first|rfl|exact absurd h (by simp[Df])
theorem QS{d:PyData}(h:C4 d=true):Bw d=true:=by cases d<;>first|rfl|exact absurd h (by simp[C4])
theorem TQ{ds:List PyData}(h:∀j,j<ds.length→rowAt ds j=true):JH ds=true:=by
 unfold JH;rw[List.all_eq_true];intro j hj;exact h j (List.mem_range.mp hj)
theorem N8{ds:List PyData}{i:Nat}(hi:i<ds.length)(h:rowAt ds i=false):JH ds=false:=by
 refine aU.mpr fun z=>?_;unfold JH at z;rw[List.all_eq_true]at z;rw[z i (List.mem_range.mpr hi)]at h;cases h
theorem MJ{ds:List PyData}{i:Nat}{d:PyData}(h:ds[i]? = some d):rowAt ds i=(Df d&&decide (Ij d=i)):=by unfold rowAt;rw[h]
def NY:Sp:=fun vs H Q _=>∃l d v,vs=[v]∧Dt l H d v∧Q (.bl (Df d)) H
def T7:Sp:=fun vs H Q _=>∃l d v,vs=[v]∧Dt l H d v∧∀H',AJ H H'→Q (.bl (C4 d)) H'
def Wz:Sp:=fun vs H Q _=>∃l d v,vs=[v]∧Dt l H d v∧∀H',AJ H H'→Q (.bl (JF d)) H'
section
variable{P:Program}{w:World}{K:PySem.W.Frag}{mg:Str→Option Value}{base:Heap}{f g1 g2:Addr}{fd gd1 gd2:FuncData}
theorem MN:Af ["thing", "part"] ["thing"] (AO EC):=⟨rfl,rfl,rfl,by decide +kernel,rfl,by decide +kernel,by decide +kernel⟩
theorem MH(F:Fn K mg "are_fractions" EC ["thing"] f fd)(Ce:Fn K mg "is_fraction" Ex ["thing"] g1 gd1)
 (Gq:AM P w K mg base A2 2 g1 gd1 ["thing"] QI)(AI:mg "isinstance" = none)(CC:mg "list" = none):AM P w K mg base A2 3 f fd ["thing"] NY:=by
 have sc:=MN;refine F.F.ok (k:=2) sc (fun vs H Q E h=>?_) (fun cdv A outer s H vs Q E hr h=>?_)
 ·obtain⟨l,d,v,rfl,_⟩:=h
  rfl
 obtain⟨l,d,v,rfl,hd,q⟩:=h;refine⟨_,(A7 (DH (CT (CU (Au C0 rfl AI aM (AL (pv 0) (AL (C7 (v:=.ty "list") rfl CC ak rfl) AZ)))))
  (Aq (BM Ca))
  B3)
 (A7 (JU aZ rfl (Na (pv 0)) (Bg (i:=1) sc.nd rfl (Or.inl rfl))
  (Aq (DH (CT (CU (Ei Ce Gq hr rfl (AL (pv 1) AZ))))
   (Aq (BM Ca))
   B3)))
 (Aq (BM Ca)))),?_⟩
 refine⟨_,rfl,_,_,_,_,rfl,Lh,hd.ty,J7 K d hd.nodict,_,rfl,?_⟩;by_cases hL:Bw d=false
 ·rw[hL];rw[Tt hL]at q;exact Dy q
 have hL:Bw d=true:=by simpa using hL
 rw[hL];refine J6 ?_;obtain⟨ds,rfl⟩:=E8 hL;rw[Dt]at hd;obtain⟨a,xs,rfl,na,ha,ht⟩:=hd;have hlen:=ht.len;refine⟨_,rfl,a,rfl,⟨_,A3.of ha⟩,Po (xs:=xs) (fun i σ H'=>∃r1,σ=[some (.ref a),r1]∧H=H'∧∀j c,j<i→ds[j]? = some c→Ck c=true) ?_ ?_ ?_ ?_⟩
 ·exact⟨_,rfl,rfl,fun j c h=>absurd h (bD _)⟩
 ·rintro i σ H' _ ⟨r1,rfl,rfl,_⟩;exact A3.of ha
 ·rintro i x σ H' hx ⟨r1,rfl,rfl,hf⟩;obtain⟨c,hc,tc⟩:=ht.get hx;refine⟨_,rfl,l,c,x,rfl,tc,_,rfl,CK (fun b=>?_) (fun b=>?_)⟩
  ·have hb:Ck c=false:=by simpa using b
   have e:Df (.list ds)=false:=aU.mpr fun z=>by
    rw[Df,List.all_eq_true]at z;rw[z c (au hc)]at hb;cases hb
   rw[e]at q;exact q
  ·have hb:Ck c=true:=by simpa using b
   refine⟨_,rfl,rfl,fun j e hj he=>?_⟩;by_cases z:j=i
   ·subst z;rw[hc]at he;cases he;exact hb
   ·exact hf j e (by lia) he
 ·rintro σ H' ⟨r1,rfl,rfl,hf⟩;have e:Df (.list ds)=true:=by
   rw[Df,List.all_eq_true];intro c hc;obtain⟨j,hj⟩:=List.getElem?_of_mem hc;exact hf j c (by rw[hlen];exact(aG.mp hj).1) hj
  rw[e]at q;exact q
theorem Qr:Af ["thing", "k", "row"] ["thing"] (AO J5):=⟨rfl,rfl,rfl,by decide +kernel,rfl,by decide +kernel,by decide +kernel⟩
theorem Qn{tk:Tok}(F:Fn K mg "are_rows" J5 ["thing"] f fd)(B9:Fn K mg "are_fractions" EC ["thing"] g1 gd1)
 (Fd:AM P w K mg base A2 3 g1 gd1 ["thing"] NY)(Ih:mg "MOST_ROWS" = some (.int 40 tk))(AI:mg "isinstance" = none)(CC:mg "list" = none)(Av:mg "len" = none)(B7:mg "enumerate" = none):AM P w K mg base A2 4 f fd ["thing"] T7:=by
 have sc:=Qr;refine F.F.ok (k:=3) sc (fun vs H Q E h=>?_) (fun cdv A outer s H vs Q E hr h=>?_)
 ·obtain⟨l,d,v,rfl,_⟩:=h
  rfl
 obtain⟨l,d,v,rfl,hd,q⟩:=h;refine⟨_,(A7 (DH (PW.pt (Eg (CT (CU (Au C0 rfl AI aM (AL (pv 0) (AL (C7 (v:=.ty "list") rfl CC ak rfl) AZ))))) (Eg (CN O6 (Au BQ rfl Av aQ (AL (pv 0) AZ)) BE (Ae _)) (EN (CN Oq (Au BQ rfl Av aQ (AL (pv 0) AZ)) (Bv (v:=.int 40) rfl Ih ⟨_,rfl⟩) (Ae _))))))
  (Aq (BM Ca))
  B3)
 (A7 (JU aZ rfl (MY rfl B7 (AL (pv 0) AZ)) (Jh rfl (Cd (Bg (i:=1) sc.nd rfl (Or.inl rfl)) (Cd (Bg (i:=2) sc.nd rfl (Or.inl rfl)) HM)))
  (Aq (DH (PW.pt (Eg (CT (CU (Ei B9 Fd hr rfl (AL (pv 2) AZ)))) (EN (CN KA (Au BQ rfl Av aQ (AL (pv 2) AZ)) (pv 1) (Ae _)))))
   (Aq (BM Ca))
   B3)))
 (Aq (BM Ca)))),?_⟩
 refine⟨_,rfl,_,_,_,_,rfl,Lh,hd.ty,J7 K d hd.nodict,_,rfl,?_⟩;by_cases hL:Bw d=false
 ·rw[hL];have:=q H (.refl H);rw[Qh hL]at this;exact Dy (Dy this)
 have hL:Bw d=true:=by simpa using hL
 rw[hL];refine J6 ?_;obtain⟨ds,rfl⟩:=E8 hL;rw[Dt]at hd;obtain⟨a,xs,rfl,na,ha,ht⟩:=hd;have hlen:=ht.len;refine⟨_,rfl,a,xs,rfl,.inl (A3.of ha),_,_,rfl,rfl,_,rfl,CK (fun c=>?_) (fun c=>?_)⟩
 ·have e:C4 (.list ds)=false:=by
   have:¬1≤ds.length:=by rw[←hlen];have:=aX c;lia
   rw[C4,decide_eq_false this,Bool.false_and]
  have:=q H (.refl H);rw[e]at this;exact Dy this
 have h1:1≤ds.length:=by rw[←hlen];have:=ah (aU.mpr c);lia
 refine⟨_,rfl,a,xs,rfl,.inl (A3.of ha),_,_,rfl,rfl,_,rfl,CK (fun c=>?_) (fun c=>?_)⟩
 ·have e:C4 (.list ds)=false:=by
   have:¬ds.length≤40:=by rw[←hlen];have:=aX c;lia
   rw[C4,decide_eq_false this,Bool.false_and,Bool.and_false]
  have:=q H (.refl H);rw[e]at this;exact this
 have h2:ds.length≤40:=by rw[←hlen];have:=ah (aU.mpr c);lia
 have e:C4 (.list ds)=JH ds:=by rw[C4,decide_eq_true h1,decide_eq_true h2,Bool.true_and,Bool.true_and]
 rw[e]at q;refine⟨_,rfl,a,rfl,⟨_,A3.of ha⟩,OJ (xs:=xs) (fun i σ H'=>∃r1 r2,σ=[some (.ref a),r1,r2]∧AJ H H'∧∀j,j<i→rowAt ds j=true) ?_ ?_ ?_ ?_⟩
 ·exact⟨_,_,rfl,.refl _,fun j h=>absurd h (bD _)⟩
 ·rintro i σ H' _ ⟨r1,r2,rfl,e,_⟩;exact A3.of (e _ _ ha)
 ·rintro i x σ H0 hx ⟨r1,r2,rfl,e0,hf⟩ p hp;obtain⟨c,hc,tc⟩:=ht.get hx;have hi:i<ds.length:=(aG.mp hc).1;have s1:=BU hp (.tup [.int (i:Nat),x]);have e1:=e0.trans s1;have hp':(upd H0 p (.tup [.int (i:Nat),x])) p=some (.tup [.int (i:Nat),x]):=AW;generalize upd H0 p (.tup [.int (i:Nat),x])=H1 at s1 e1 hp';have tc:=tc.same e1;refine⟨p,_,rfl,A9.of hp',rfl,_,_,rfl,_,_,rfl,rfl,?_⟩;refine⟨_,rfl,l,c,x,rfl,tc,_,rfl,CK (fun b=>?_) (fun b=>?_)⟩
  ·have hb:Df c=false:=by simpa using b
   have:=q H1 e1;rw[N8 hi (by rw[MJ hc,hb,Bool.false_and])]at this;exact Dy this
  have hb:Df c=true:=by simpa using b
  obtain⟨cs,rfl⟩:=E8 (Mu hb);rw[Dt]at tc;obtain⟨b,ys,rfl,nb,hb',hy⟩:=tc;refine⟨_,rfl,b,ys,rfl,.inl (A3.of hb'),_,rfl,rfl,_,rfl,CK (fun z=>?_) (fun z=>?_)⟩
  ·have hne:¬Ij (.list cs)=i:=by
    rw[Ij,←hy.len];intro zz;rw[zz]at z;simp at z
   have:=q H1 e1;rw[N8 hi (by rw[MJ hc,hb,decide_eq_false hne,Bool.and_false])]at this;exact this
  ·have hne:Ij (.list cs)=i:=by
    rw[Ij,←hy.len];by_cases zz:ys.length=i
    ·exact zz
    ·exfalso
     refine z ?_;have:¬(V.int (ys.length:Nat)=V.int (i:Nat)):=by simp;lia
     rw[decide_eq_false this];rfl
   refine⟨_,_,rfl,e1,fun j hj=>?_⟩;by_cases zz:j=i
   ·subst zz;rw[MJ hc,hb,decide_eq_true hne,Bool.and_self]
   ·exact hf j (by lia)
 ·rintro σ H' ⟨r1,r2,rfl,e1,hf⟩;have:=q H' e1;rw[TQ fun j hj=>hf j (by rw[hlen];exact hj)]at this;exact this
theorem Qu:Af ["thing"] ["thing"] (AO Jy):=⟨rfl,rfl,rfl,by decide +kernel,rfl,by decide +kernel,by decide +kernel⟩
theorem Qo(F:Fn K mg "is_table" Jy ["thing"] f fd)(HF:Fn K mg "are_rows" J5 ["thing"] g1 gd1)(B9:Fn K mg "are_fractions" EC ["thing"] g2 gd2)
 (SU:AM P w K mg base A2 4 g1 gd1 ["thing"] T7)(Fd:AM P w K mg base A2 4 g2 gd2 ["thing"] NY)(AI:mg "isinstance" = none)(BD:mg "tuple" = none)(Av:mg "len" = none):AM P w K mg base A2 5 f fd ["thing"] Wz:=by
 have sc:=Qu;refine F.F.ok (k:=4) sc (fun vs H Q E h=>?_) (fun cdv A outer s H vs Q E hr h=>?_)
 ·obtain⟨l,d,v,rfl,_⟩:=h
  rfl
 obtain⟨l,d,v,rfl,hd,q⟩:=h;refine⟨_,(A7 (DH (PW.pt (Eg (CT (CU (Au C0 rfl AI aM (AL (pv 0) (AL (C7 (v:=.ty "tuple") rfl BD aW rfl) AZ))))) (EN (CN KA (Au BQ rfl Av aQ (AL (pv 0) AZ)) BE (Ae _)))))
  (Aq (BM Ca))
  B3)
 (Aq (BM (K9 (Ei HF SU hr rfl (AL (Cp Ci (pv 0) BE (fun _ _=>rfl)) AZ)) (K9 (Ei B9 Fd hr rfl (AL (Cp Ci (pv 0) BE (fun _ _=>rfl)) AZ)) (Mr (JM Ru (Au BQ rfl Av aQ (AL (Cp Ci (pv 0) BE (fun _ _=>rfl)) AZ)) (Au BQ rfl Av aQ (AL (Cp Ci (pv 0) BE (fun _ _=>rfl)) AZ)) (Ae _)))))))),?_⟩
 refine⟨_,rfl,_,_,_,_,rfl,Lh,hd.ty,Hl K d hd.nodict,_,rfl,?_⟩;by_cases hL:B2 d=false
 ·rw[hL];have:=q H (.refl H);rw[Ut hL]at this;exact Dy (Dy this)
 have hL:B2 d=true:=by simpa using hL
 rw[hL];refine J6 ?_;obtain⟨ds,rfl⟩:=MP hL;rw[Dt]at hd;obtain⟨a,xs,rfl,na,ha,hx⟩:=hd;have hlen:=hx.len;have s1:A9 K H a xs:=A9.of ha;refine⟨_,rfl,a,xs,rfl,.inr s1,rfl,_,rfl,CK (fun c=>?_) (fun c=>?_)⟩
 ·have:ds.length≠2:=by
   rw[←hlen];intro z;rw[z]at c;exact absurd c (by decide)
  have q:=q H (.refl H);rw[Sb this]at q;exact q
 have h2:xs.length=2:=by
  by_cases z:xs.length=2
  ·exact z
  ·exfalso
   refine c ?_;have:¬(V.int (xs.length:Nat)=V.int 2):=by simp;lia
   rw[decide_eq_false this];rfl
 obtain⟨d0,d1,rfl⟩:∃d0 d1,ds=[d0,d1]:=by
  match ds,(show ds.length=2 by lia) with
  |[x,y],_=>exact⟨x,y,rfl⟩
 rw[Ax]at hx;obtain⟨x0,r,rfl,hx0,hx⟩:=hx;rw[Ax]at hx;obtain⟨x1,r,rfl,hx1,hx⟩:=hx;rw[Ax]at hx;subst hx;rw[JF]at q;refine⟨_,rfl,_,_,_,_,rfl,rfl,s1,rfl,l,d0,x0,rfl,hx0,fun H1 e1=>⟨_,rfl,CK (fun c0=>?_) (fun c0=>?_)⟩⟩
 ·rw[c0]at q;refine⟨_,rfl,_,_,_,_,rfl,rfl,e1.tup s1,rfl,l,d1,x1,rfl,hx1.same e1,_,rfl,CK (fun c1=>?_) (fun c1=>?_)⟩
  ·rw[c1]at q;obtain⟨r0,rfl⟩:=E8 (QS c0);obtain⟨r1,rfl⟩:=E8 (Mu c1);have hx0:=hx0.same e1;have hx1:=hx1.same e1;rw[Dt]at hx0 hx1;obtain⟨a0,y0,rfl,_,ha0,hy0⟩:=hx0;obtain⟨a1,y1,rfl,_,ha1,hy1⟩:=hx1;refine⟨_,rfl,_,_,_,_,rfl,rfl,e1.tup s1,rfl,a1,y1,rfl,.inl (A3.of ha1),_,rfl,_,_,_,_,rfl,rfl,e1.tup s1,rfl,a0,y0,rfl,.inl (A3.of ha0),rfl,?_⟩;have:=q H1 e1;rw[Bool.true_and,Bool.true_and,Ij,Ij,←hy0.len,←hy1.len]at this;have e:decide (V.int (y1.length:Nat)=V.int (y0.length:Nat))=decide (y1.length=y0.length):=by
    rw[Bool.eq_iff_iff];simp;lia
   rw[←e]at this;exact this
  ·rw[Bool.eq_false_iff.mpr c1,Bool.false_and,Bool.and_false]at q;exact q H1 e1
 ·rw[Bool.eq_false_iff.mpr c0,Bool.false_and]at q;exact q H1 e1
end
def Fl:PyData→Bool
 |.int i=>decide (0≤i)
 |_=>false
def DR(n:Int):PyData→Bool
 |.tuple ds=>decide ((ds.length:Int)=n)&&ds.all Fl
 |_=>false
def ZV:PyData→Int
 |.tuple (.int a::_)=>a
 |_=>0
def C5(n:Int):PyData→Bool
 |.tuple [p,f]=>DR n p&&(Ck f && !decide (ZV f=0))
 |_=>false
def intD:PyData→Int
 |.int i=>i
 |_=>0
def SF:PyData→List Int
 |.tuple ds=>ds.map intD
 |_=>[]
def JJ:PyData→List Int
 |.tuple (p::_)=>SF p
 |_=>[]
def Dz(n:Int)(ds:List PyData)(k:Nat):Bool:=match ds[k]? with
 |some d=>C5 n d&&(decide (k=0)||(match ds[k-1]? with
  |some e=>IT.lt (JJ d) (JJ e)
  |none=>true))
 |none=>true
def Cj(n:Int):PyData→Bool
 |.list ds=>(List.range ds.length).all (Dz n ds)
 |_=>false
def Ep:PyData→Bool
 |.list ds=>!decide (ds.length=0)&&ds.all (Cj ds.length)
 |_=>false
theorem Xy{n:Int}{d:PyData}(h:B2 d=false):DR n d=false:=by cases d<;>first|rfl|exact absurd h (by simp[B2])
theorem Vr{n:Int}{d:PyData}(h:B2 d=false):C5 n d=false:=by cases d<;>first|rfl|exact absurd h (by simp[B2])
theorem Uz{n:Int}{d:PyData}(h:Bw d=false):Cj n d=false:=by cases d<;>first|rfl|exact absurd h (by simp[Bw])
theorem XF{d:PyData}(h:Bw d=false):Ep d=false:=by cases d<;>first|rfl|exact absurd h (by simp[Bw])
theorem Uu{n:Int}{ds:List PyData}(h:ds.length≠2):C5 n (.tuple ds)=false:=by
 match ds,h with
 |[],_=>rfl
 |[_],_=>rfl
 |[_,_],h=>exact absurd rfl h
 |_::_::_::_,_=>rfl
def ZU:Sp:=fun vs H Q _=>∃l d v n,vs=[v,.int n]∧Dt l H d v∧Q (.bl (DR n d)) H
def Zz:Sp:=fun vs H Q _=>∃l d v n,vs=[v,.int n]∧Dt l H d v∧Q (.bl (C5 n d)) H
def Zh:Sp:=fun vs H Q _=>∃l d v n,vs=[v,.int n]∧Dt l H d v∧∀H',AJ H H'→Q (.bl (Cj n d)) H'
def cn:Sp:=fun vs H Q _=>∃l d v,vs=[v]∧Dt l H d v∧∀H',AJ H H'→Q (.bl (Ep d)) H'
section
variable{P:Program}{w:World}{K:PySem.W.Frag}{mg:Str→Option Value}{base:Heap}{f g1 g2:Addr}{fd gd1 gd2:FuncData}
theorem Oe:Af ["thing", "unknowns", "power"] ["thing", "unknowns"] (AO Hk):=⟨rfl,rfl,rfl,by decide +kernel,rfl,by decide +kernel,by decide +kernel⟩
theorem Od(F:Fn K mg "are_powers" Hk ["thing", "unknowns"] f fd)(DM:Fn K mg "is_whole" HH ["thing"] g1 gd1)
 (HC:AM P w K mg base A2 1 g1 gd1 ["thing"] QE)(AI:mg "isinstance" = none)(BD:mg "tuple" = none)(Av:mg "len" = none):AM P w K mg base A2 2 f fd ["thing", "unknowns"] ZU:=by
 have sc:=Oe;refine F.F.ok (k:=1) sc (fun vs H Q E h=>?_) (fun cdv A outer s H vs Q E hr h=>?_)
 ·obtain⟨l,d,v,n,rfl,_⟩:=h
  rfl
 obtain⟨l,d,v,n,rfl,hd,q⟩:=h;refine⟨_,(A7 (DH (PW.pt (Eg (CT (CU (Au C0 rfl AI aM (AL (pv 0) (AL (C7 (v:=.ty "tuple") rfl BD aW rfl) AZ))))) (EN (CN KA (Au BQ rfl Av aQ (AL (pv 0) AZ)) (pv 1) (Ae _)))))
  (Aq (BM Ca))
  B3)
 (A7 (JU aZ rfl (TJ (pv 0)) (Bg (i:=2) sc.nd rfl (Or.inl rfl))
  (Aq (DH (PW.pt (Eg (CT (CU (Ei DM HC hr rfl (AL (pv 2) AZ)))) (EN (CN O6 (pv 2) BE (Ae _)))))
   (Aq (BM Ca))
   B3)))
 (Aq (BM Ca)))),?_⟩
 refine⟨_,rfl,_,_,_,_,rfl,Lh,hd.ty,Hl K d hd.nodict,_,rfl,?_⟩;by_cases hL:B2 d=false
 ·rw[hL];rw[Xy hL]at q;exact Dy (Dy q)
 have hL:B2 d=true:=by simpa using hL
 rw[hL];refine J6 ?_;obtain⟨ds,rfl⟩:=MP hL;rw[Dt]at hd;obtain⟨a,xs,rfl,na,ha,ht⟩:=hd;have hlen:=ht.len;refine⟨_,rfl,a,xs,rfl,.inr (A9.of ha),_,rfl,rfl,_,rfl,CK (fun c=>?_) (fun c=>?_)⟩
 ·have hne:¬(ds.length:Int)=n:=by
   rw[←hlen];intro z;rw[z]at c;simp at c
  rw[DR,decide_eq_false hne,Bool.false_and]at q;exact q
 have hn:(ds.length:Int)=n:=by
  rw[←hlen];by_cases z:(xs.length:Int)=n
  ·exact z
  ·exact absurd (by simp[z]) c
 rw[DR,decide_eq_true hn,Bool.true_and]at q;refine⟨_,rfl,a,rfl,⟨_,A9.of ha⟩,Xd (xs:=xs) (fun i σ H'=>∃r1,σ=[some (.ref a),some (.int n),r1]∧H=H'∧∀j c,j<i→ds[j]? = some c→Fl c=true) ?_ ?_ ?_ ?_⟩
 ·exact⟨_,rfl,rfl,fun j c h=>absurd h (bD _)⟩
 ·rintro i σ H' _ ⟨r1,rfl,rfl,_⟩;exact A9.of ha
 ·rintro i x σ H' hx ⟨r1,rfl,rfl,hf⟩;obtain⟨c,hc,tc⟩:=ht.get hx;have no:Fl c=false→ds.all Fl=false:=fun z=>aU.mpr fun y=>by
   rw[List.all_eq_true]at y;rw[y c (au hc)]at z;cases z
  have next:Fl c=true→∃r1,[some (V.ref a),some (V.int n),some x]=[some (.ref a),some (.int n),r1]∧H=H∧∀j c,j<i+1→ds[j]? = some c→Fl c=true:=fun hb=>by
   refine⟨_,rfl,rfl,fun j e hj he=>?_⟩;by_cases z:j=i
   ·subst z;rw[hc]at he;cases he;exact hb
   ·exact hf j e (by lia) he
  refine⟨_,rfl,l,c,x,rfl,tc,_,rfl,CK (fun b=>?_) (fun b=>?_)⟩
  ·have:Fl c=false:=by cases c<;>first|rfl|(simp[GQ,FO]at b)
   rw[no this]at q;exact Dy q
  ·obtain⟨i',rfl⟩:=K7 (d:=c) (by simpa using b);rw[Dt]at tc;subst tc;refine⟨_,rfl,_,_,rfl,rfl,_,rfl,CK (fun b=>?_) (fun b=>?_)⟩
   ·have:Fl (.int i')=false:=by
     have:=aX b;rw[Fl];exact aO (by lia)
    rw[no this]at q;exact q
   ·have:Fl (.int i')=true:=by
     have:=ah (aU.mpr b);rw[Fl];exact av (by lia)
    exact next this
 ·rintro σ H' ⟨r1,rfl,rfl,hf⟩;have e:ds.all Fl=true:=by
   rw[List.all_eq_true];intro c hc;obtain⟨j,hj⟩:=List.getElem?_of_mem hc;exact hf j c (by rw[hlen];exact(aG.mp hj).1) hj
  rw[e]at q;exact q
theorem R6:Af ["thing", "unknowns"] ["thing", "unknowns"] (AO LA):=⟨rfl,rfl,rfl,by decide +kernel,rfl,by decide +kernel,by decide +kernel⟩
theorem SJ(F:Fn K mg "is_term" LA ["thing", "unknowns"] f fd)(FY:Fn K mg "are_powers" Hk ["thing", "unknowns"] g1 gd1)(Ce:Fn K mg "is_fraction" Ex ["thing"] g2 gd2)
 (Pr:AM P w K mg base A2 2 g1 gd1 ["thing", "unknowns"] ZU)(Gq:AM P w K mg base A2 2 g2 gd2 ["thing"] QI)(AI:mg "isinstance" = none)(BD:mg "tuple" = none)(Av:mg "len" = none):AM P w K mg base A2 3 f fd ["thing", "unknowns"] Zz:=by
 have sc:=R6;refine F.F.ok (k:=2) sc (fun vs H Q E h=>?_) (fun cdv A outer s H vs Q E hr h=>?_)
 ·obtain⟨l,d,v,n,rfl,_⟩:=h
  rfl
 obtain⟨l,d,v,n,rfl,hd,q⟩:=h;refine⟨_,(A7 (DH (PW.pt (Eg (CT (CU (Au C0 rfl AI aM (AL (pv 0) (AL (C7 (v:=.ty "tuple") rfl BD aW rfl) AZ))))) (Eg (CN KA (Au BQ rfl Av aQ (AL (pv 0) AZ)) BE (Ae _)) (EN (CT (CU (Ei FY Pr hr rfl (AL (Cp Ci (pv 0) BE (fun _ _=>rfl)) (AL (pv 1) AZ)))))))))
  (Aq (BM Ca))
  B3)
 (Aq (BM (K9 (Ei Ce Gq hr rfl (AL (Cp Ci (pv 0) BE (fun _ _=>rfl)) AZ)) (Mr (JM KA (Cp Ci (Cp Ci (pv 0) BE (fun _ _=>rfl)) BE (fun _ _=>rfl)) BE (Ae _))))))),?_⟩
 refine⟨_,rfl,_,_,_,_,rfl,Lh,hd.ty,Hl K d hd.nodict,_,rfl,?_⟩;by_cases hL:B2 d=false
 ·rw[hL];rw[Vr hL]at q;exact Dy (Dy q)
 have hL:B2 d=true:=by simpa using hL
 rw[hL];refine J6 ?_;obtain⟨ds,rfl⟩:=MP hL;rw[Dt]at hd;obtain⟨a,xs,rfl,na,ha,hx⟩:=hd;have hlen:=hx.len;have s1:A9 K H a xs:=A9.of ha;refine⟨_,rfl,a,xs,rfl,.inr s1,rfl,_,rfl,CK (fun c=>?_) (fun c=>?_)⟩
 ·have:ds.length≠2:=by
   rw[←hlen];intro z;rw[z]at c;exact absurd c (by decide)
  rw[Uu this]at q;exact Dy q
 have h2:xs.length=2:=by
  by_cases z:xs.length=2
  ·exact z
  ·exfalso
   refine c ?_;have:¬(V.int (xs.length:Nat)=V.int 2):=by simp;lia
   rw[decide_eq_false this];rfl
 obtain⟨d0,d1,rfl⟩:∃d0 d1,ds=[d0,d1]:=by
  match ds,(show ds.length=2 by lia) with
  |[x,y],_=>exact⟨x,y,rfl⟩
 rw[Ax]at hx;obtain⟨x0,r,rfl,hx0,hx⟩:=hx;rw[Ax]at hx;obtain⟨x1,r,rfl,hx1,hx⟩:=hx;rw[Ax]at hx;subst hx;rw[C5]at q;refine⟨_,rfl,_,_,_,_,rfl,rfl,s1,rfl,_,rfl,l,d0,x0,n,rfl,hx0,_,rfl,CK (fun c0=>?_) (fun c0=>?_)⟩
 ·have:DR n d0=false:=by simpa using c0
  rw[this,Bool.false_and]at q;exact q
 have hp:DR n d0=true:=by simpa using c0
 rw[hp,Bool.true_and]at q;refine⟨_,rfl,_,_,_,_,rfl,rfl,s1,rfl,l,d1,x1,rfl,hx1,_,rfl,CK (fun c1=>?_) (fun c1=>?_)⟩
 ·rw[c1,Bool.true_and]at q;obtain⟨i,j,rfl⟩:∃i j,d1=.tuple [.int i,.int j]:=by
   unfold Ck at c1;split at c1
   ·exact⟨_,_,rfl⟩
   ·cases c1
  rw[Dt]at hx1;obtain⟨b,ys,rfl,nb,hb,hy⟩:=hx1;rw[Ax]at hy;obtain⟨y0,r,rfl,hy0,hy⟩:=hy;rw[Ax]at hy;obtain⟨y1,r,rfl,hy1,hy⟩:=hy;rw[Ax]at hy;subst hy;rw[Dt]at hy0;subst hy0;refine⟨_,rfl,_,_,_,_,rfl,rfl,s1,rfl,_,_,_,_,rfl,rfl,A9.of hb,rfl,rfl,?_⟩;rw[ZV]at q;have e:decide (V.int i=V.int 0)=decide (i=0):=by rw[Bool.eq_iff_iff];simp
  show Q (.bl (!decide (V.int i=V.int 0))) H;rw[e];exact q
 ·rw[Bool.eq_false_iff.mpr c1,Bool.false_and]at q;exact q
theorem Sm:Af ["thing", "unknowns", "k", "term"] ["thing", "unknowns"] (AO Kj):=⟨rfl,rfl,rfl,by decide +kernel,rfl,by decide +kernel,by decide +kernel⟩
theorem UW{l:Addr}{H:Hp}{n:Int}{d:PyData}{v:V}(h:Dt l H d v)(k:DR n d=true):∃a,v=.ref a∧H a=some (.tup ((SF d).map V.int)):=by
 cases d with
 |tuple ds =>
  rw[DR,Bool.and_eq_true]at k;rw[Dt]at h;obtain⟨a,xs,rfl,na,ha,hx⟩:=h;refine⟨a,rfl,?_⟩;rw[ha]
  congr 2
  rw[SF];clear ha
  replace k:=k.2
  induction ds generalizing xs with
  |nil=>rw[Ax]at hx;subst hx;rfl
  |cons d ds ih =>
   rw[Ax]at hx;obtain⟨x,r,rfl,h1,h2⟩:=hx;rw[List.all_cons,Bool.and_eq_true]at k;rw[List.map_cons,List.map_cons,←ih r h2 k.2]
   congr 1
   cases d<;>first|(rw[Dt]at h1;subst h1;rfl)|(have:=k.1;simp[Fl]at this)
 |none=>simp[DR]at k
 |bool _=>simp[DR]at k
 |int _=>simp[DR]at k
 |str _=>simp[DR]at k
 |list _=>simp[DR]at k
 |dict _=>simp[DR]at k
theorem PJ{l:Addr}{H:Hp}{n:Int}{d:PyData}{v:V}(h:Dt l H d v)(k:C5 n d=true):∃a b c,v=.ref a∧H a=some (.tup [.ref b,c])∧H b=some (.tup ((JJ d).map V.int)):=by
 unfold C5 at k;split at k
 ·rename_i p f;rw[Bool.and_eq_true]at k;rw[Dt]at h;obtain⟨a,xs,rfl,na,ha,hx⟩:=h;rw[Ax]at hx;obtain⟨x0,r,rfl,hx0,hx⟩:=hx;rw[Ax]at hx;obtain⟨x1,r,rfl,hx1,hx⟩:=hx;rw[Ax]at hx;subst hx;obtain⟨b,rfl,hb⟩:=UW hx0 k.1;exact⟨a,b,x1,rfl,ha,hb⟩
 ·cases k
theorem SA(F:Fn K mg "is_poly" Kj ["thing", "unknowns"] f fd)(IJ:Fn K mg "is_term" LA ["thing", "unknowns"] g1 gd1)
 (UY:AM P w K mg base A2 3 g1 gd1 ["thing", "unknowns"] Zz)(AI:mg "isinstance" = none)(CC:mg "list" = none)(B7:mg "enumerate" = none):AM P w K mg base A2 4 f fd ["thing", "unknowns"] Zh:=by
 have sc:=Sm;refine F.F.ok (k:=3) sc (fun vs H Q E h=>?_) (fun cdv A outer s H vs Q E hr h=>?_)
 ·obtain⟨l,d,v,n,rfl,_⟩:=h
  rfl
 obtain⟨l,d,v,n,rfl,hd,q⟩:=h;refine⟨_,(A7 (DH (CT (CU (Au C0 rfl AI aM (AL (pv 0) (AL (C7 (v:=.ty "list") rfl CC ak rfl) AZ)))))
  (Aq (BM Ca))
  B3)
 (A7 (JU aZ rfl (MY rfl B7 (AL (pv 0) AZ)) (Jh rfl (Cd (Bg (i:=2) sc.nd rfl (Or.inl rfl)) (Cd (Bg (i:=3) sc.nd rfl (Or.inl rfl)) HM)))
  (Aq (DH (PW.pt (Eg (CT (CU (Ei IJ UY hr rfl (AL (pv 3) (AL (pv 1) AZ))))) (EN (PW.pt (T8 (CN Oq (pv 2) BE (Ae _)) (RQ (CN (ZL (by have:=hr.units;exact this)) (Cp Ci (pv 3) BE (fun _ _=>rfl)) (Cp Ci (Cp LV (pv 0) (HJ QD (pv 2) BE) (fun _ _=>rfl)) BE (fun _ _=>rfl)) (Ae _))))))))
   (Aq (BM Ca))
   B3)))
 (Aq (BM Ca)))),?_⟩
 refine⟨_,rfl,_,_,_,_,rfl,Lh,hd.ty,J7 K d hd.nodict,_,rfl,?_⟩;by_cases hL:Bw d=false
 ·rw[hL];have:=q H (.refl H);rw[Uz hL]at this;exact Dy this
 have hL:Bw d=true:=by simpa using hL
 rw[hL];refine J6 ?_;obtain⟨ds,rfl⟩:=E8 hL;rw[Dt]at hd;obtain⟨a,xs,rfl,na,ha,ht⟩:=hd;have hlen:=ht.len;refine⟨_,rfl,a,rfl,⟨_,A3.of ha⟩,OJ (xs:=xs) (fun i σ H'=>∃r1 r2,σ=[some (.ref a),some (.int n),r1,r2]∧AJ H H'∧∀j,j<i→Dz n ds j=true) ?_ ?_ ?_ ?_⟩
 ·exact⟨_,_,rfl,.refl _,fun j h=>absurd h (bD _)⟩
 ·rintro i σ H' _ ⟨r1,r2,rfl,e,_⟩;exact A3.of (e _ _ ha)
 ·rintro i x σ H0 hx ⟨r1,r2,rfl,e0,hf⟩ p hp;obtain⟨c,hc,tc⟩:=ht.get hx;have hi:i<ds.length:=(aG.mp hc).1;have s1:=BU hp (.tup [.int (i:Nat),x]);have e1:=e0.trans s1;have hp':(upd H0 p (.tup [.int (i:Nat),x])) p=some (.tup [.int (i:Nat),x]):=AW;generalize upd H0 p (.tup [.int (i:Nat),x])=H1 at s1 e1 hp';have tc:=tc.same e1;have no:Dz n ds i=false→Q (.bl false) H1:=fun z=>by
   have:=q H1 e1;have e:Cj n (.list ds)=false:=aU.mpr fun y=>by
    rw[Cj,List.all_eq_true]at y;rw[y i (List.mem_range.mpr hi)]at z;cases z
   rw[e]at this;exact this
  have next:Dz n ds i=true→∃r1 r2,[some (V.ref a),some (V.int n),some (V.int (i:Nat)),some x]=[some (.ref a),some (.int n),r1,r2]∧AJ H H1∧∀j,j<i+1→Dz n ds j=true:=fun z=>by
   refine⟨_,_,rfl,e1,fun j hj=>?_⟩;by_cases zz:j=i
   ·subst zz;exact z
   ·exact hf j (by lia)
  have tA:Dz n ds i=(C5 n c&&(decide (i=0)||(match ds[i-1]? with
    |some e=>IT.lt (JJ c) (JJ e)
    |none=>true))):=by unfold Dz;rw[hc];all_goals rfl
  refine⟨p,_,rfl,A9.of hp',rfl,_,_,rfl,_,_,rfl,rfl,?_⟩;refine⟨_,rfl,_,rfl,l,c,x,n,rfl,tc,_,rfl,CK (fun b=>?_) (fun b=>?_)⟩
  ·have hb:C5 n c=false:=by simpa using b
   exact Dy (no (by rw[tA,hb,Bool.false_and]))
  have hb:C5 n c=true:=by simpa using b
  rw[hb,Bool.true_and]at tA;refine⟨_,rfl,_,_,rfl,rfl,_,rfl,CK (fun b=>?_) (fun b=>?_)⟩
  ·have hi0:0<i:=by have:=aX b;lia
   rw[decide_eq_false (show ¬i=0 by lia),Bool.false_or]at tA;have hx':xs[i-1]? = some (xs[i-1]'(by lia)):=by simp[show i-1<xs.length by lia]
   obtain⟨e,he,te⟩:=ht.get hx';have hpe:C5 n e=true:=by
    have:=hf (i-1) (by lia);unfold Dz at this;rw[he]at this;rw[Bool.and_eq_true]at this;exact this.1
   generalize xs[i-1]'(by lia)=v1 at hx' te;obtain⟨a1,b1,c1,rfl,ha1,hb1⟩:=PJ (te.same e1) hpe;obtain⟨a2,b2,c2,rfl,ha2,hb2⟩:=PJ tc hb;have hat:ED xs ((i:Int)-1)=some (.ref a1):=by
    have:=RD (xs:=xs) (j:=i-1) hx'
    rwa [show((i-1:Nat):Int)=(i:Int)-1 by lia]at this
   rw[he]at tA;refine⟨_,rfl,_,_,_,_,rfl,rfl,A9.of ha2,rfl,_,rfl,_,rfl,_,_,rfl,rfl,_,_,_,_,rfl,rfl,A3.of (e1 _ _ ha),hat,_,_,_,_,rfl,rfl,A9.of ha1,rfl,b2,b1,_,_,rfl,rfl,hb2,hb1,_,rfl,CK (fun z=>?_) (fun z=>?_)⟩
   ·exact no (by rw[tA];simpa using z)
   ·exact next (by rw[tA];simpa using z)
  ·have hi0:i=0:=by have:=ah (aU.mpr b);lia
   exact J6 (next (by rw[tA,decide_eq_true hi0,Bool.true_or]))
 ·rintro σ H' ⟨r1,r2,rfl,e1,hf⟩;have:=q H' e1;have e:Cj n (.list ds)=true:=by
   rw[Cj,List.all_eq_true];intro j hj;exact hf j (by rw[hlen];exact List.mem_range.mp hj)
  rw[e]at this;exact this
theorem QB:Af ["thing", "some"] ["thing"] (AO Ig):=⟨rfl,rfl,rfl,by decide +kernel,rfl,by decide +kernel,by decide +kernel⟩
theorem Pp(F:Fn K mg "is_change" Ig ["thing"] f fd)(IU:Fn K mg "is_poly" Kj ["thing", "unknowns"] g1 gd1)
 (S5:AM P w K mg base A2 4 g1 gd1 ["thing", "unknowns"] Zh)(AI:mg "isinstance" = none)(CC:mg "list" = none)(Av:mg "len" = none):AM P w K mg base A2 5 f fd ["thing"] cn:=by
 have sc:=QB;refine F.F.ok (k:=4) sc (fun vs H Q E h=>?_) (fun cdv A outer s H vs Q E hr h=>?_)
 ·obtain⟨l,d,v,rfl,_⟩:=h
  rfl
 obtain⟨l,d,v,rfl,hd,q⟩:=h;refine⟨_,(A7 (DH (PW.pt (Eg (CT (CU (Au C0 rfl AI aM (AL (pv 0) (AL (C7 (v:=.ty "list") rfl CC ak rfl) AZ))))) (EN (CN Ru (Au BQ rfl Av aQ (AL (pv 0) AZ)) BE (Ae _)))))
  (Aq (BM Ca))
  B3)
 (A7 (JU aZ rfl (Na (pv 0)) (Bg (i:=1) sc.nd rfl (Or.inl rfl))
  (Aq (DH (CT (CU (Ei IU S5 hr rfl (AL (pv 1) (AL (Au BQ rfl Av aQ (AL (pv 0) AZ)) AZ)))))
   (Aq (BM Ca))
   B3)))
 (Aq (BM Ca)))),?_⟩
 refine⟨_,rfl,_,_,_,_,rfl,Lh,hd.ty,J7 K d hd.nodict,_,rfl,?_⟩;by_cases hL:Bw d=false
 ·rw[hL];have:=q H (.refl H);rw[XF hL]at this;exact Dy (Dy this)
 have hL:Bw d=true:=by simpa using hL
 rw[hL];refine J6 ?_;obtain⟨ds,rfl⟩:=E8 hL;rw[Dt]at hd;obtain⟨a,xs,rfl,na,ha,ht⟩:=hd;have hlen:=ht.len;refine⟨_,rfl,a,xs,rfl,.inl (A3.of ha),rfl,_,rfl,CK (fun c=>?_) (fun c=>?_)⟩
 ·have:ds.length=0:=by rw[←hlen];have:=aX c;simpa using this
  have q:=q H (.refl H);rw[Ep,decide_eq_true this,Bool.not_true,Bool.false_and]at q;exact q
 have h0:¬ds.length=0:=by
  rw[←hlen];intro z;exact c (by simp[z])
 rw[Ep,decide_eq_false h0,Bool.not_false,Bool.true_and]at q;refine⟨_,rfl,a,rfl,⟨_,A3.of ha⟩,Po (xs:=xs) (fun i σ H'=>∃r1,σ=[some (.ref a),r1]∧AJ H H'∧∀j c,j<i→ds[j]? = some c→Cj ds.length c=true) ?_ ?_ ?_ ?_⟩
 ·exact⟨_,rfl,.refl _,fun j c h=>absurd h (bD _)⟩
 ·rintro i σ H' _ ⟨r1,rfl,e,_⟩;exact A3.of (e _ _ ha)
 ·rintro i x σ H1 hx ⟨r1,rfl,e1,hf⟩;obtain⟨c,hc,tc⟩:=ht.get hx;refine⟨_,rfl,_,rfl,a,xs,rfl,.inl (A3.of (e1 _ _ ha)),l,c,x,_,rfl,tc.same e1,fun H2 e2=>⟨_,rfl,CK (fun b=>?_) (fun b=>?_)⟩⟩
  ·have hb:Cj ds.length c=false:=by rw[←hlen];simpa using b
   have:=q H2 (e1.trans e2);have e:ds.all (Cj ds.length)=false:=aU.mpr fun y=>by
    rw[List.all_eq_true]at y;rw[y c (au hc)]at hb;cases hb
   rw[e]at this;exact this
  ·have hb:Cj ds.length c=true:=by rw[←hlen];simpa using b
   refine⟨_,rfl,e1.trans e2,fun j e hj he=>?_⟩;by_cases z:j=i
   ·subst z;rw[hc]at he;cases he;exact hb
   ·exact hf j e (by lia) he
 ·rintro σ H' ⟨r1,rfl,e1,hf⟩;have e:ds.all (Cj ds.length)=true:=by
   rw[List.all_eq_true];intro c hc;obtain⟨j,hj⟩:=List.getElem?_of_mem hc;exact hf j c (by rw[hlen];exact(aG.mp hj).1) hj
  have:=q H' e1;rw[e]at this;exact this
end
mutual
theorem Wr{H:Hp}:∀ {d:PyData} {v:V},d.canLay0=true→Du H d v→DU H d v
 |.none,_,_,h=>by rw[Du]at h;subst h;exact .BR
 |.bool _,_,_,h=>by rw[Du]at h;subst h;exact .bool
 |.int _,_,_,h=>by rw[Du]at h;subst h;exact .int
 |.str _,_,_,h=>by rw[Du]at h;subst h;exact .str
 |.tuple _,_,c,h=>by
  rw[Du]at h;obtain⟨a,xs,rfl,h1,h2⟩:=h;exact .tup h1 (Ni (by simpa only[PyData.canLay0]using c) h2)
 |.list _,_,c,h=>by
  rw[Du]at h;obtain⟨a,xs,rfl,h1,h2⟩:=h;exact .lst h1 (Ni (by simpa only[PyData.canLay0]using c) h2)
 |.dict _,_,c,h=>by simp[PyData.canLay0]at c
theorem Ni{H:Hp}:∀ {ds:List PyData} {xs:List V},PyData.canLayAll0 ds=true→Ac H ds xs→OH H ds xs
 |[],_,_,h=>by rw[h.nil_eq];exact .nil
 |_::_,_,c,h=>by
  obtain⟨x,r,rfl,h1,h2⟩:=h.un;simp only[PyData.canLayAll0,Bool.and_eq_true]at c;exact .cons (Wr c.1 h1) (Ni c.2 h2)
end
theorem bg{G H H':Hp}{l:Addr}{vs:List V}{ds:List PyData}(e0:AJ G H)(e:AJ H H')(hl:H' l=some (.tup vs))(d:Ac G ds vs):∃G',AJ G G'∧Nw G H G'∧AJ G' H'∧Du G' (.tuple ds) (.ref l):=by
 have e1:AJ G (upd G l (.tup vs)):=fun a o h=>by
  by_cases ha:a=l
  ·subst ha;have:=e _ _ (e0 _ _ h);rw[hl]at this;rw[AW];exact this
  ·rw[AR ha];exact h
 refine⟨upd G l (.tup vs),e1,fun a u h=>?_,fun a u h=>?_,?_⟩
 ·by_cases ha:a=l
  ·subst ha;rw[AW]at h;cases h;exact .inr (.inr ⟨_,rfl⟩)
  ·rw[AR ha]at h;exact .inl h
 ·by_cases ha:a=l
  ·subst ha;rw[AW]at h;rw[hl];exact h
  ·rw[AR ha]at h;exact e _ _ (e0 _ _ h)
 ·rw[Du];exact⟨l,vs,rfl,AW,d.same e1⟩
theorem QT{G:Hp}:∀ps:List Int,Ac G (ps.map .int) (ps.map V.int)
 |[]=>.nil
 |p::ps=>.cons (by rw[Du]) (QT ps)
section
variable{P:Program}{w:World}{K:PySem.W.Frag}{mg:Str→Option Value}{base:Heap}{CX:Fs}{k:Nat}{f:Addr}{fd:FuncData}{ps:List Str}
def mB(q:PyData→Bool):List PyData→Option PyData
 |[d]=>if d.canLay0=true then some (.bool (q d)) else none
 |_=>none
theorem dS{q:PyData→Bool}{d:PyData}(h:d.canLay0=true):mB q [d]=some (.bool (q d)):=if_pos h
theorem Z8{q:PyData→Bool}{d:PyData}{b:Bool}(h:d.canLay0=true)(e:q d=b):mB q [d]=some (.bool b):=(dS h).trans (by rw[e])
theorem di{sp:Sp}{q:PyData→Bool}(F:AM P w K mg base CX k f fd ps sp)(h:∀(l:Addr) d v H Q E,Dt l H d v→(∀H',AJ H H'→Q (.bl (q d)) H')→sp [v] H Q E):AM P w K mg base CX k f fd ps (Bu (mB q)) :=
 Rc F fun ds x hm G H vs Q E d e kk=>by
  unfold mB at hm;split at hm
  ·split at hm
   ·rename_i dd hc;cases hm;obtain⟨v,rfl,d1⟩:=d.JV;obtain⟨N,b⟩:=Wr hc (d1.same e);exact h N _ v H Q E (b N (aH _)) fun H' e'=>kk _ G H' (.refl _) Nw.refl (e.trans e') e' (by rw[Du])
   ·cases hm
  ·cases hm
end
section
variable{P:Program}{w:World}{K:PySem.W.Frag}{mg:Str→Option Value}{base:Heap}{f g:Addr}{fd:FuncData}
theorem Og:Af ["_law_top", "_law_bottom", "_law_one", "_law_other"] ["_law_top", "_law_bottom"] (AO Hh):=⟨rfl,rfl,rfl,by decide +kernel,rfl,by decide +kernel,by decide +kernel⟩
theorem Oj(F:Fn K mg "_law_ratio" Hh ["_law_top", "_law_bottom"] f fd)(FU:mg "abs" = none):AM P w K mg base A2 1 f fd ["_law_top", "_law_bottom"] bI:=by
 have sc:=Og;refine F.F.ok (k:=0) sc (fun vs H Q E h=>?_) (fun cdv A outer s H vs Q E hr h=>?_)
 ·obtain⟨t,b,m,rfl,_⟩:=h
  rfl
 obtain⟨t,b,m,rfl,hb,hm,hs,q⟩:=h;refine⟨_,(A7 (Dj (i:=2) sc.nd rfl (Or.inl rfl) (Au Hu rfl FU bH (AL (pv 0) AZ)))
 (A7 (Dj (i:=3) sc.nd rfl (Or.inl rfl) (Au Hu rfl FU bH (AL (pv 1) AZ)))
 (A7 (Py aZ (CN Oq (pv 3) BE (Ae _))
  (Aq (Z5 (i:=2) (j:=3) rfl sc.nd rfl rfl (by decide) rfl rfl (AL (pv 3) (AL (HJ Nu (pv 2) (pv 3)) AZ)) rfl)))
 (A7 (DH (CN O6 (pv 1) BE (Ae _))
  (Aq (Dj (i:=2) sc.nd rfl (Or.inl rfl) (HJ QD BE (pv 2))))
  B3)
 (Aq (BM (S3 (AL (HJ L3 (pv 0) (pv 2)) (AL (HJ L3 (pv 1) (pv 2)) AZ))))))))),?_⟩
 refine⟨_,rfl,_,rfl,_,rfl,_,rfl,?_⟩;refine P6 (fun σ H'=>∃g l,σ=[some (.int t),some (.int b),some (.int g),some (.int l)]∧H=H'∧Int.gcd g l=Int.gcd t b∧0≤g∧0≤l) (fun σ _=>dU σ) ?_ ?_ ?_
 ·exact⟨_,_,rfl,rfl,FM.RA t b,FM.abs_nonneg t,FM.abs_nonneg b⟩
 ·rintro σ H' ⟨g,l,rfl,rfl,hg,h0,h1⟩;refine⟨_,rfl,_,_,rfl,rfl,_,rfl,CK (fun c=>?_) (fun c=>?_)⟩
  ·have hl':0<l:=aX c;have hl:l≠0:=by lia
   refine⟨_,rfl,_,rfl,_,rfl,_,_,rfl,rfl,hl,_,_,rfl,⟨_,_,rfl,rfl,?_,h1,FM.fmod_nonneg hl h1⟩,?_⟩
   ·rw[FM.Ph];exact hg
   ·exact FM.OO g l hl
  ·have hl':¬0<l:=ah (aU.mpr c);have hl:l=0:=by lia
   subst hl;rw[FM.T6 hg h0]
   try dsimp only[Fj]
   refine VG (fun σ' H'=>σ'=[some (.int t),some (.int b),some (.int (FM.gs t b)),some (.int 0)]∧H=H') (fun nx hn=>?_) ?_
   ·refine⟨_,rfl,_,_,rfl,rfl,_,rfl,CK (fun c=>?_) (fun c=>?_)⟩
    ·have c':b<0:=aX c;refine⟨_,rfl,_,_,rfl,rfl,hn _ _ ⟨?_,rfl⟩⟩;show [some (V.int t),some (V.int b),some (V.int (0-FM.gi t b)),some (V.int 0)]=_;unfold FM.gs;rw[if_pos c',Int.zero_sub]
    ·have c':¬b<0:=ah (aU.mpr c);refine hn _ _ ⟨?_,rfl⟩;unfold FM.gs;rw[if_neg c']
   ·rintro σ' H' ⟨rfl,rfl⟩;have h0:FM.gs t b≠0:=FM.cW hb;have h1:(FM.gs t b).natAbs<2^m:=Nat.lt_of_le_of_lt (FM.cL hb) hs;refine⟨_,rfl,_,rfl,_,_,rfl,rfl,⟨h0,m,hm,h1⟩,_,rfl,_,rfl,_,_,rfl,rfl,⟨h0,m,hm,h1⟩,Wq,fun p hp=>?_⟩;refine q p _ (BU hp _) ?_;rw[AW];show some (HO.tup [V.int (t.fdiv (FM.gs t b)),V.int (b.fdiv (FM.gs t b))])=_;rw[FM.ZS hb,FM.Yc hb]
    rfl
 ·exact fun σ H Q Q' hq ⟨v,e,i,j,e1,e2,k,e3,q⟩=>⟨v,e,i,j,e1,e2,k,e3,hq _ _ q⟩
end
section
variable{P:Program}{w:World}{K:PySem.W.Frag}{mg:Str→Option Value}{base:Heap}{f:Addr}{fd:FuncData}
theorem Fw:Af ["thing"] ["thing"] (AO EV):=⟨rfl,rfl,rfl,by decide +kernel,rfl,by decide +kernel,by decide +kernel⟩
def EY(D7:List PyData→Option PyData)(C_NoChange:Addr):Ej :=
 (O9 (Ir (He (AY D7 (AB (nm 0) AF))))
  (Kc C_NoChange (fC (.str (Str.ofString "a change is a list of n polynomials in n unknowns, n from 1 on"))))
  (fun δ=>some (.inl (.nx δ))))
def BH(D7:List PyData→Option PyData)(C_NoChange:Addr):List PyData→Option Xr:=Em ["thing"] ["thing"] (EY D7 C_NoChange)
theorem KZ{k:Nat}{D7:List PyData→Option PyData}{C_NoChange:Addr}(F:Fn K mg "refuse_no_change" EV ["thing"] f fd)
 {Lq:Addr}{Kn:FuncData}(GG:Fn K mg "is_change" Ig ["thing"] Lq Kn)(Il:AM P w K mg base A2 k Lq Kn ["thing"] (Bu D7))(X_NoChange:Exc K mg "NoChange" C_NoChange) :
  AM P w K mg base (Bz P w) (k+1) f fd ["thing"] (D0 (BH D7 C_NoChange)):=PV F Fw fun cdv A outer s H E hr=>by
 have sc:=Fw;exact(F0 (O3 (GK (Fp (An GG Il hr rfl (AA (AD (pv 0)) AE))))
  (F0 (by exact J3 X_NoChange Oz BC))
  LX))
theorem GL:Af ["thing"] ["thing"] (AO Eo):=⟨rfl,rfl,rfl,by decide +kernel,rfl,by decide +kernel,by decide +kernel⟩
def Lf(Ea:List PyData→Option PyData)(C_NoTable:Addr):Ej :=
 (O9 (Ir (He (AY Ea (AB (nm 0) AF))))
  (Kc C_NoTable (fC (.str (Str.ofString "a table is a tuple of rows, the k-th of k fractions, and a last of as many as there are rows"))))
  (fun δ=>some (.inl (.nx δ))))
def BN(Ea:List PyData→Option PyData)(C_NoTable:Addr):List PyData→Option Xr:=Em ["thing"] ["thing"] (Lf Ea C_NoTable)
theorem K4{k:Nat}{Ea:List PyData→Option PyData}{C_NoTable:Addr}(F:Fn K mg "refuse_no_table" Eo ["thing"] f fd)
 {Mc:Addr}{Lw:FuncData}(HI:Fn K mg "is_table" Jy ["thing"] Mc Lw)(Jo:AM P w K mg base A2 k Mc Lw ["thing"] (Bu Ea))(X_NoTable:Exc K mg "NoTable" C_NoTable) :
  AM P w K mg base (Bz P w) (k+1) f fd ["thing"] (D0 (BN Ea C_NoTable)):=PV F GL fun cdv A outer s H E hr=>by
 have sc:=GL;exact(F0 (O3 (GK (Fp (An HI Jo hr rfl (AA (AD (pv 0)) AE))))
  (F0 (by exact J3 X_NoTable Oz BC))
  LX))
theorem SX:Af ["thing", "k", "bough"] ["thing"] (AO Ki):=⟨rfl,rfl,rfl,by decide +kernel,rfl,by decide +kernel,by decide +kernel⟩
def N3(B1:List PyData→Option PyData):DF :=
 (AQ (EM (Ir (He (eK B2 (nm 0))))
  (B5 (fC (.bool false)))
  CP)
 (AQ (FX (Eh Sa (AB (nm 0) AF)) (EJ 1 2)
  (AQ (EM (Rm (Bi (F4 fun i j=>decide (j<i)) (nm 1) (fC (.int 0))) (Bi (CY false) (nm 2) (AK FQ (nm 0) (AK HR (nm 1) (fC (.int 1))))))
   bo
   CP)
  (EM (QX (Ir (He (AY B1 (AB (nm 2) AF)))) (Rm (Bi (F4 fun i j=>decide (j<i)) (nm 1) (fC (.int 0))) (Bi Wj (nm 2) (AK FQ (nm 0) (AK HR (nm 1) (fC (.int 1)))))))
   (B5 (fC (.bool false)))
   CP)))
 (B5 (fC (.bool true)))))
def B1:Nat→List PyData→Option PyData
 |0=>fun _=>none
 |n+1=>Cy ["thing"] ["thing", "k", "bough"] (N3 (B1 n))
theorem Mk{k:Nat}(Dk:Fn K mg "is_tree" Ki ["thing"] f fd)(B7:mg "enumerate" = none)(AI:mg "isinstance" = none)(BD:mg "tuple" = none):∀n,
  AM P w K mg base A2 (k+n+1) f fd ["thing"] (Bu (B1 n))
 |0=>Kq fun _ _ _ _ ⟨_,_,_,h,_⟩=>by cases h
 |n+1=>by
  have sc:=SX;have GP:=Mk (k:=k) Dk B7 AI BD n;refine HA (k:=k+n+1) (F:=N3 (B1 n)) Dk sc fun cdv A outer s H E hr=>?_;exact(AH (CZ (GK (Fp (Y4 (Hl _) rfl AI rfl BD aW (AD (pv 0)))))
  (AX (BL HB))
  Bk)
 (AH (Hm aZ rfl (Xv rfl B7 (AA (AD (pv 0)) AE)) (Pt (Jh rfl (Cd (Bg (i:=1) sc.nd rfl (Or.inl rfl)) (Cd (Bg (i:=2) sc.nd rfl (Or.inl rfl)) HM))))
  (AH (CZ (DW.dt (Pj (BP O1 (AD (pv 1)) AG (Ae _)) (FV (BP (Fo (by have:=hr.units;exact this)) (AD (pv 2)) (Dw (AD (pv 0)) (AU FN (AD (pv 1)) AG) (fun _ _=>rfl)) (Ae _)))))
   (AX Xl)
   Bk)
  (AX (CZ (DW.dt (LS (GK (Fp (An Dk GP hr rfl (AA (AD (pv 2)) AE)))) (FV (DW.dt (Pj (BP O1 (AD (pv 1)) AG (Ae _)) (FV (BP (YB (by have:=hr.units;exact this)) (AD (pv 2)) (Dw (AD (pv 0)) (AU FN (AD (pv 1)) AG) (fun _ _=>rfl)) (Ae _))))))))
   (AX (BL HB))
   Bk))))
 (AX (BL HB))))
theorem G6:Af ["thing"] ["thing"] (AO Dr):=⟨rfl,rfl,rfl,by decide +kernel,rfl,by decide +kernel,by decide +kernel⟩
def MS(B1:List PyData→Option PyData)(C_NoTree:Addr):Ej :=
 (O9 (Ir (He (AY B1 (AB (nm 0) AF))))
  (Kc C_NoTree (fC (.str (Str.ofString "a tree is told by the tuple of its boughs in falling order"))))
  (fun δ=>some (.inl (.nx δ))))
def Aj(B1:List PyData→Option PyData)(C_NoTree:Addr):List PyData→Option Xr:=Em ["thing"] ["thing"] (MS B1 C_NoTree)
theorem Lb{k:Nat}{B1:List PyData→Option PyData}{C_NoTree:Addr}(F:Fn K mg "refuse_no_tree" Dr ["thing"] f fd)
 {OX:Addr}{M8:FuncData}(Dk:Fn K mg "is_tree" Ki ["thing"] OX M8)(GP:AM P w K mg base A2 k OX M8 ["thing"] (Bu B1))(X_NoTree:Exc K mg "NoTree" C_NoTree) :
  AM P w K mg base (Bz P w) (k+1) f fd ["thing"] (D0 (Aj B1 C_NoTree)):=PV F G6 fun cdv A outer s H E hr=>by
 have sc:=G6;exact(F0 (O3 (GK (Fp (An Dk GP hr rfl (AA (AD (pv 0)) AE))))
  (F0 (by exact J3 X_NoTree Oz BC))
  LX))
theorem Ld:Af ["tree", "parents", "bough", "number"] ["tree"] (AO FG):=⟨rfl,rfl,rfl,by decide +kernel,rfl,by decide +kernel,by decide +kernel⟩
def Ht(Ay:List PyData→Option PyData):DF :=
 (AQ (Nb 1 AF)
 (AQ (FX (ER (nm 0)) (K6 2)
  (AQ (Ao 3 (AK BB (RL 1) (fC (.int 1))))
  (AQ (O8 1 (fC (.int 0)))
  (VE 1 (Cb (CD 1) DP (AK BB (nm 2) (nm 1)) [none,none,some 3] (ER (AY Ay (AB (nm 2) AF))))))))
 (Om 1)))
def Ay:Nat→List PyData→Option PyData
 |0=>fun _=>none
 |n+1=>Cy ["tree"] ["tree", "parents", "bough", "number"] (Ht (Ay n))
theorem Gz{k:Nat}(Bl:Fn K mg "parents_within" FG ["tree"] f fd)(Av:mg "len" = none):∀n,
  AM P w K mg base A2 (k+n+1) f fd ["tree"] (Bu (Ay n))
 |0=>Kq fun _ _ _ _ ⟨_,_,_,h,_⟩=>by cases h
 |n+1=>by
  have sc:=Ld;have Cv:=Gz (k:=k) Bl Av n;refine HA (k:=k+n+1) (F:=Ht (Ay n)) Bl sc fun cdv A outer s H E hr=>?_;exact(AH (Mz (i:=1) sc.nd rfl (Or.inl rfl) AE)
 (AH (Hm aZ rfl (D3 (AD (pv 0))) (JL (Bg (i:=2) sc.nd rfl (Or.inl rfl)))
  (AH (Ag (i:=3) sc.nd rfl (Or.inr rfl) (AU A4 (OA (pv 1) rfl Av) AG))
  (AH (IL (pv 1) AG (fun ho ha=>D8 (Jr ax PySem.F.slot_list_append PySem.F.type_list_append GO ho ha)))
  (AX (OS (pv 1) (JT [".0", "parent", "number"] 1 [none,none,some 3] (D3 (An Bl Cv hr rfl (AA (AD (pv 2)) AE))) (fun _ _ _ _ _=>C9) (fun _ _ _ _ _=>(AU A4 (AD (pv 2)) (AD (pv 1))))) (fun ho ha=>D8 (Jr ax PySem.F.slot_list_extend PySem.F.type_list_extend OM ho ha)))))))
 (AX (NU (pv 1)))))
theorem Hz:Af ["part", "top", "bottom"] ["part"] (AO EE):=⟨rfl,rfl,rfl,by decide +kernel,rfl,by decide +kernel,by decide +kernel⟩
def FW:DF :=
 (AQ (Ao 1 (AK FQ (nm 0) (fC (.int 0))))
 (AQ (Ao 2 (AK FQ (nm 0) (fC (.int 1))))
 (B5 (dk (Bi (CY false) (nm 2) (fC (.int 1))) (fun δ=>((nm 1) δ).bind GZ) (Wb (fun δ=>((nm 1) δ).bind GZ) (fC (.str (Str.ofString "/"))) (fun δ=>((nm 2) δ).bind GZ))))))
def AN:List PyData→Option PyData:=Cy ["part"] ["part", "top", "bottom"] (FW)
theorem L7{k:Nat}(F:Fn K mg "fraction_text" EE ["part"] f fd) :
  AM P w K mg base A2 (k+1) f fd ["part"] (Bu (AN)):=HA F Hz fun cdv A outer s H E hr=>by
 have sc:=Hz;exact(AH (Ag (i:=1) sc.nd rfl (Or.inl rfl) (Dw (AD (pv 0)) AG (fun _ _=>rfl)))
 (AH (Ag (i:=2) sc.nd rfl (Or.inl rfl) (Dw (AD (pv 0)) AG (fun _ _=>rfl)))
 (AX (BL (WK (BP (Fo (by have:=hr.units;exact this)) (AD (pv 2)) AG (Ae _)) (cN (Mv (AD (pv 1)))) (cc (Mv (AD (pv 1))) BC (Mv (AD (pv 2)))))))))
theorem G5:Af ["some"] ["some"] (AO FJ):=⟨rfl,rfl,rfl,by decide +kernel,rfl,by decide +kernel,by decide +kernel⟩
def MI(AN:List PyData→Option PyData):DF :=
 (WE (Ee (CD 1) DP (AY AN (AB (nm 1) AF)) [none,none] (ER (nm 0))))
def BK(AN:List PyData→Option PyData):List PyData→Option PyData:=Cy ["some"] ["some"] (MI AN)
theorem La{k:Nat}{AN:List PyData→Option PyData}(F:Fn K mg "fraction_texts" FJ ["some"] f fd)
 {DL:Addr}{C2:FuncData}(CF:Fn K mg "fraction_text" EE ["part"] DL C2)(Cc:AM P w K mg base A2 k DL C2 ["part"] (Bu AN)) :
  AM P w K mg base A2 (k+1) f fd ["some"] (Bu (BK AN)):=HA F G5 fun cdv A outer s H E hr=>by
 have sc:=G5;exact(AX (Xs [".0", "part"] 1 [none,none] (D3 (AD (pv 0))) (fun _ _ _ _ _=>C9) (fun _ _ _ _ _=>(An CF Cc hr rfl (AA (AD (pv 1)) AE)))))
theorem Pw:Af ["tree"] ["tree"] (AO Ie):=⟨rfl,rfl,rfl,by decide +kernel,rfl,by decide +kernel,by decide +kernel⟩
def Ls(Bf:List PyData→Option PyData):DF :=
 (B5 (AK BB (AK BB (fC (.str (Str.ofString "["))) (AK Es (fC (.str (Str.ofString ""))) (Cb (CD 1) DP (AY Bf (AB (nm 1) AF)) [none,none] (ER (nm 0))))) (fC (.str (Str.ofString "]")))))
def Bf:Nat→List PyData→Option PyData
 |0=>fun _=>none
 |n+1=>Cy ["tree"] ["tree"] (Ls (Bf n))
theorem LB{k:Nat}(Cq:Fn K mg "tree_text" Ie ["tree"] f fd):∀n,
  AM P w K mg base A2 (k+n+1) f fd ["tree"] (Bu (Bf n))
 |0=>Kq fun _ _ _ _ ⟨_,_,_,h,_⟩=>by cases h
 |n+1=>by
  have sc:=Pw;have Ew:=LB (k:=k) Cq n;refine HA (k:=k+n+1) (F:=Ls (Bf n)) Cq sc fun cdv A outer s H E hr=>?_;exact(AX (BL (AU A4 (AU A4 BC (FC BC (JT [".0", "bough"] 1 [none,none] (D3 (AD (pv 0))) (fun _ _ _ _ _=>C9) (fun _ _ _ _ _=>(An Cq Ew hr rfl (AA (AD (pv 1)) AE)))))) BC)))
theorem Kv:Af ["powers", "part", "factors", "name", "power"] ["powers", "part"] (AO Iz):=⟨rfl,rfl,rfl,by decide +kernel,rfl,by decide +kernel,by decide +kernel⟩
def Lx(AN:List PyData→Option PyData):DF :=
 (AQ (Nb 2 (AB (AY AN (AB (nm 1) AF)) AF))
 (AQ (FX (Eh zip2 (AB (fC PR) (AB (nm 0) AF))) (EJ 3 4)
  (VE 2 (AK FD (A8 (AB (nm 3) AF)) (nm 4))))
 (Js 2 (B5 (AK Es (fC (.str (Str.ofString "*"))) (nm 2))))))
def A6(AN:List PyData→Option PyData):List PyData→Option PyData:=Cy ["powers", "part"] ["powers", "part", "factors", "name", "power"] (Lx AN)
theorem QJ{k:Nat}{AN:List PyData→Option PyData}(F:Fn K mg "term_text" Iz ["powers", "part"] f fd)
 {DL:Addr}{C2:FuncData}(CF:Fn K mg "fraction_text" EE ["part"] DL C2)(Cc:AM P w K mg base A2 k DL C2 ["part"] (Bu AN))(LZ:mg "zip" = none){c_UNKNOWNS:Addr}(Cm:mg "UNKNOWNS" = some (.ref c_UNKNOWNS)) :
  AM P w K mg base A2 (k+1) f fd ["powers", "part"] (Bu (A6 AN)):=HA F Kv fun cdv A outer s H E hr=>by
 have sc:=Kv;exact(AH (Mz (i:=2) sc.nd rfl (Or.inl rfl) (AA (An CF Cc hr rfl (AA (AD (pv 1)) AE)) AE))
 (AH (Hm aZ rfl (UD rfl LZ (AA (P0 rfl Cm) (AA (AD (pv 0)) AE))) (Pt (Jh rfl (Cd (Bg (i:=3) sc.nd rfl (Or.inl rfl)) (Cd (Bg (i:=4) sc.nd rfl (Or.inl rfl)) HM))))
  (AX (OS (pv 2) (AU Et (Al (AA (AD (pv 3)) AE)) (AD (pv 4))) (fun ho ha=>D8 (Jr ax PySem.F.slot_list_extend PySem.F.type_list_extend OM ho ha)))))
 (AX (GW 2 (BL (FC BC (AD (pv 2))))))))
theorem K8:Af ["some"] ["some"] (AO Ii):=⟨rfl,rfl,rfl,by decide +kernel,rfl,by decide +kernel,by decide +kernel⟩
def Lk(A6:List PyData→Option PyData):DF :=
 (AQ (EM (Bi (CY false) (AY Io (AB (nm 0) AF)) (fC (.int 0)))
  (B5 (fC (.str (Str.ofString "0"))))
  CP)
 (B5 (AK Es (fC (.str (Str.ofString " + "))) (Cb (EJ 1 2) DP (AY A6 (AB (nm 1) (AB (nm 2) AF))) [none,none,none] (ER (nm 0))))))
def BS(A6:List PyData→Option PyData):List PyData→Option PyData:=Cy ["some"] ["some"] (Lk A6)
theorem QZ{k:Nat}{A6:List PyData→Option PyData}(F:Fn K mg "poly_text" Ii ["some"] f fd)
 {L1:Addr}{Kw:FuncData}(GD:Fn K mg "term_text" Iz ["powers", "part"] L1 Kw)(I0:AM P w K mg base A2 k L1 Kw ["powers", "part"] (Bu A6))(Av:mg "len" = none) :
  AM P w K mg base A2 (k+1) f fd ["some"] (Bu (BS A6)):=HA F K8 fun cdv A outer s H E hr=>by
 have sc:=K8;exact(AH (CZ (BP (Fo (by have:=hr.units;exact this)) (EO Hv rfl Av aQ (AA (AD (pv 0)) AE)) AG (Ae _))
  (AX (BL BC))
  Bk)
 (AX (BL (FC BC (P7 [".0", "powers", "part"] 1 2 [none,none,none] (D3 (AD (pv 0))) (fun _ _ _ _ _=>C9) (fun _ _ _ _ _=>(An GD I0 hr rfl (AA (AD (pv 1)) (AA (AD (pv 2)) AE)))))))))
theorem Jf:Af ["change"] ["change"] (AO Gu):=⟨rfl,rfl,rfl,by decide +kernel,rfl,by decide +kernel,by decide +kernel⟩
def KO(BS:List PyData→Option PyData):DF :=
 (B5 (AK Es (fC (.str (Str.ofString "\n"))) (Cb (EJ 1 2) DP (AK BB (AK LU (fun δ=>((nm 1) δ).bind GZ) (fC (.str (Str.ofString " = ")))) (AY BS (AB (nm 2) AF))) [none,none,none] (Eh zip2 (AB (fC PR) (AB (nm 0) AF))))))
def BX(BS:List PyData→Option PyData):List PyData→Option PyData:=Cy ["change"] ["change"] (KO BS)
theorem Nm{k:Nat}{BS:List PyData→Option PyData}(F:Fn K mg "change_text" Gu ["change"] f fd)
 {Lr:Addr}{LF:FuncData}(GF:Fn K mg "poly_text" Ii ["some"] Lr LF)(Ip:AM P w K mg base A2 k Lr LF ["some"] (Bu BS))(LZ:mg "zip" = none){c_UNKNOWNS:Addr}(Cm:mg "UNKNOWNS" = some (.ref c_UNKNOWNS)) :
  AM P w K mg base A2 (k+1) f fd ["change"] (Bu (BX BS)):=HA F Jf fun cdv A outer s H E hr=>by
 have sc:=Jf;exact(AX (BL (FC BC (P7 [".0", "name", "some"] 1 2 [none,none,none] (UD rfl LZ (AA (P0 rfl Cm) (AA (AD (pv 0)) AE))) (fun _ _ _ _ _=>C9) (fun _ _ _ _ _=>(AU A4 (bz (Mv (AD (pv 1))) BC) (An GF Ip hr rfl (AA (AD (pv 2)) AE))))))))
theorem KU:Af ["tree"] ["tree"] (AO HU):=⟨rfl,rfl,rfl,by decide +kernel,rfl,by decide +kernel,by decide +kernel⟩
def Pa(Aj:List PyData→Option Xr)(Bf:List PyData→Option PyData):Ej :=
 (IA (Jq Aj (AB (nm 0) AF) fun _ δ=>.nx δ)
 (Uk (B5 (AY Bf (AB (nm 0) AF)))))
def Bx(Aj:List PyData→Option Xr)(Bf:List PyData→Option PyData):List PyData→Option Xr:=Em ["tree"] ["tree"] (Pa Aj Bf)
theorem Oh{k:Nat}{Aj:List PyData→Option Xr}{Bf:List PyData→Option PyData}(F:Fn K mg "shown_tree" HU ["tree"] f fd)
 {Cu:Addr}{Cg:FuncData}(B0:Fn K mg "refuse_no_tree" Dr ["thing"] Cu Cg)(CL:AM P w K mg base (Bz P w) k Cu Cg ["thing"] (D0 Aj))
 {Ln:Addr}{LD:FuncData}(Cq:Fn K mg "tree_text" Ie ["tree"] Ln LD)(Ew:AM P w K mg base A2 k Ln LD ["tree"] (Bu Bf)) :
  AM P w K mg base (Bz P w) (k+1) f fd ["tree"] (D0 (Bx Aj Bf)):=PV F KU fun cdv A outer s H E hr=>by
 have sc:=KU;exact(Hd (by exact LR B0 CL hr Ox (by exact(AA (AD (pv 0)) AE)) (fun h=>D8 h))
 (Mm (AX (BL (An Cq Ew hr rfl (AA (AD (pv 0)) AE))))))
theorem Jg:Af ["table", "lines"] ["table"] (AO Gj):=⟨rfl,rfl,rfl,by decide +kernel,rfl,by decide +kernel,by decide +kernel⟩
def OZ(BK:List PyData→Option PyData)(BN:List PyData→Option Xr):Ej :=
 (IA (Jq BN (AB (nm 0) AF) fun _ δ=>.nx δ)
 (Uk (AQ (Ss 1 (Ee (CD 1) DP (AK Es (fC (.str (Str.ofString " "))) (AK BB (A8 (AB (fC (.str (Str.ofString "row"))) AF)) (AY BK (AB (nm 1) AF)))) [none,none] (ER (AK FQ (nm 0) (fC (.int 0))))))
 (AQ (O8 1 (AK Es (fC (.str (Str.ofString " "))) (AK BB (A8 (AB (fC (.str (Str.ofString "last"))) AF)) (AY BK (AB (AK FQ (nm 0) (fC (.int 1))) AF)))))
 (Js 1 (B5 (AK Es (fC (.str (Str.ofString "\n"))) (nm 1))))))))
def Bn(BK:List PyData→Option PyData)(BN:List PyData→Option Xr):List PyData→Option Xr:=Em ["table"] ["table", "lines"] (OZ BK BN)
theorem Nn{k:Nat}{BK:List PyData→Option PyData}{BN:List PyData→Option Xr}(F:Fn K mg "shown_table" Gj ["table"] f fd)
 {HY:Addr}{G9:FuncData}(C3:Fn K mg "fraction_texts" FJ ["some"] HY G9)(Dx:AM P w K mg base A2 k HY G9 ["some"] (Bu BK))
 {G7:Addr}{GU:FuncData}(DZ:Fn K mg "refuse_no_table" Eo ["thing"] G7 GU)(En:AM P w K mg base (Bz P w) k G7 GU ["thing"] (D0 BN)) :
  AM P w K mg base (Bz P w) (k+1) f fd ["table"] (D0 (Bn BK BN)):=PV F Jg fun cdv A outer s H E hr=>by
 have sc:=Jg;exact(Hd (by exact LR DZ En hr Ox (by exact(AA (AD (pv 0)) AE)) (fun h=>D8 h))
 (Mm (AH (RG (i:=1) [".0", "row"] 1 [none,none] sc.nd rfl rfl (D3 (Dw (AD (pv 0)) AG (fun _ _=>rfl))) (fun _ _ _ _ _=>C9) (fun _ _ _ _ _=>(FC BC (AU A4 (Al (AA BC AE)) (An C3 Dx hr rfl (AA (AD (pv 1)) AE))))))
 (AH (IL (pv 1) (FC BC (AU A4 (Al (AA BC AE)) (An C3 Dx hr rfl (AA (Dw (AD (pv 0)) AG (fun _ _=>rfl)) AE)))) (fun ho ha=>D8 (Jr ax PySem.F.slot_list_append PySem.F.type_list_append GO ho ha)))
 (AX (GW 1 (BL (FC BC (AD (pv 1))))))))))
theorem IW:Af ["change"] ["change"] (AO F5):=⟨rfl,rfl,rfl,by decide +kernel,rfl,by decide +kernel,by decide +kernel⟩
def Ed(BX:List PyData→Option PyData)(BH:List PyData→Option Xr)(C_TooMany:Addr):Ej :=
 (IA (Jq BH (AB (nm 0) AF) fun _ δ=>.nx δ)
 (IA (O9 (Bi (F4 fun i j=>decide (j<i)) (AY Io (AB (nm 0) AF)) (AY Io (AB (fC PR) AF)))
  (Kc C_TooMany (fC (.str (Str.ofString "changes are written in up to four unknowns"))))
  (fun δ=>some (.inl (.nx δ))))
 (Uk (B5 (AY BX (AB (nm 0) AF))))))
def Bc(BX:List PyData→Option PyData)(BH:List PyData→Option Xr)(C_TooMany:Addr):List PyData→Option Xr:=Em ["change"] ["change"] (Ed BX BH C_TooMany)
theorem Md{k:Nat}{BX:List PyData→Option PyData}{BH:List PyData→Option Xr}{C_TooMany:Addr}(F:Fn K mg "shown_change" F5 ["change"] f fd)
 {KI:Addr}{JE:FuncData}(Ez:Fn K mg "change_text" Gu ["change"] KI JE)(Gg:AM P w K mg base A2 k KI JE ["change"] (Bu BX))
 {GV:Addr}{Fx:FuncData}(DD:Fn K mg "refuse_no_change" EV ["thing"] GV Fx)(ES:AM P w K mg base (Bz P w) k GV Fx ["thing"] (D0 BH))(Av:mg "len" = none){c_UNKNOWNS:Addr}(Cm:mg "UNKNOWNS" = some (.ref c_UNKNOWNS))(X_TooMany:Exc K mg "TooMany" C_TooMany) :
  AM P w K mg base (Bz P w) (k+1) f fd ["change"] (D0 (Bc BX BH C_TooMany)):=PV F IW fun cdv A outer s H E hr=>by
 have sc:=IW;exact(Hd (by exact LR DD ES hr Ox (by exact(AA (AD (pv 0)) AE)) (fun h=>D8 h))
 (Hd (O3 (BP O1 (EO Hv rfl Av aQ (AA (AD (pv 0)) AE)) (EO Hv rfl Av aQ (AA (P0 rfl Cm) AE)) (Ae _))
  (F0 (by exact J3 X_TooMany Oz BC))
  LX)
 (Mm (AX (BL (An Ez Gg hr rfl (AA (AD (pv 0)) AE)))))))
theorem Gx:Af ["tree", "parents", "change", "knot", "powers"] ["tree"] (AO FE):=⟨rfl,rfl,rfl,by decide +kernel,rfl,by decide +kernel,by decide +kernel⟩
def MK(Ay:List PyData→Option PyData)(Aj:List PyData→Option Xr):Ej :=
 (IA (Jq Aj (AB (nm 0) AF) fun _ δ=>.nx δ)
 (Uk (AQ (Ao 1 (AY Ay (AB (nm 0) AF)))
 (AQ (Nb 2 AF)
 (AQ (FX (Eh Gf (AB (AK BB (AY Io (AB (nm 1) AF)) (fC (.int 1))) AF)) (K6 3)
  (AQ (Ao 4 (AK BB (A8 (AB (fC (.int 0)) AF)) (Cb (CD 1) DP (dk (Bi (CY false) (nm 1) (nm 2)) (fC (.int 1)) (fC (.int 0))) [none,none,some 3] (ER (nm 1)))))
  (O8 2 (A8 (AB (A1 (AB (AY EW (AB (nm 4) AF)) (AB (A1 (AB (fC (.int 1)) (AB (fC (.int 1)) AF))) AF))) AF)))))
 (Js 2 (B5 (A1 (AB (nm 2) (AB (AK FD (A8 (AB (A1 (AB (fC (.int 0)) (AB (fC (.int 1)) AF))) AF)) (AY Io (AB (nm 2) AF))) AF))))))))))
def BV(Ay:List PyData→Option PyData)(Aj:List PyData→Option Xr):List PyData→Option Xr:=Em ["tree"] ["tree", "parents", "change", "knot", "powers"] (MK Ay Aj)
theorem Lc{k:Nat}{Ay:List PyData→Option PyData}{Aj:List PyData→Option Xr}(F:Fn K mg "parting_change" FE ["tree"] f fd)
 {IB:Addr}{Gy:FuncData}(Bl:Fn K mg "parents_within" FG ["tree"] IB Gy)(Cv:AM P w K mg base A2 k IB Gy ["tree"] (Bu Ay))
 {Cu:Addr}{Cg:FuncData}(B0:Fn K mg "refuse_no_tree" Dr ["thing"] Cu Cg)(CL:AM P w K mg base (Bz P w) k Cu Cg ["thing"] (D0 Aj))(Av:mg "len" = none)(Dc:mg "range" = none)(BD:mg "tuple" = none) :
  AM P w K mg base (Bz P w) (k+1) f fd ["tree"] (D0 (BV Ay Aj)):=PV F Gx fun cdv A outer s H E hr=>by
 have sc:=Gx;exact(Hd (by exact LR B0 CL hr Ox (by exact(AA (AD (pv 0)) AE)) (fun h=>D8 h))
 (Mm (AH (Ag (i:=1) sc.nd rfl (Or.inl rfl) (An Bl Cv hr rfl (AA (AD (pv 0)) AE)))
 (AH (Mz (i:=2) sc.nd rfl (Or.inl rfl) AE)
 (AH (Hm aZ rfl (GN rfl Dc (AA (AU A4 (EO Hv rfl Av aQ (AA (AD (pv 1)) AE)) AG) AE)) (JL (Bg (i:=3) sc.nd rfl (Or.inr rfl)))
  (AH (Ag (i:=4) sc.nd rfl (Or.inl rfl) (AU A4 (Al (AA AG AE)) (JT [".0", "parent", "knot"] 1 [none,none,some 3] (D3 (AD (pv 1))) (fun _ _ _ _ _=>C9) (fun _ _ _ _ _=>(WK (BP (Fo (by have:=hr.units;exact this)) (AD (pv 1)) (AD (pv 2)) (Ae _)) AG AG)))))
  (AX (IL (pv 2) (Al (AA (Ab (AA (Dq HZ rfl BD aW (AA (AD (pv 4)) AE)) (AA (Ab (AA AG (AA AG AE))) AE))) AE)) (fun ho ha=>D8 (Jr ax PySem.F.slot_list_append PySem.F.type_list_append GO ho ha))))))
 (AX (GW 2 (BL (Ab (AA (AD (pv 2)) (AA (AU Et (Al (AA (Ab (AA AG (AA AG AE))) AE)) (EO Hv rfl Av aQ (AA (AD (pv 2)) AE))) AE)))))))))))
end
section
variable{P:Program}{w:World}{K:PySem.W.Frag}{mg:Str→Option Value}{base:Heap}{f:Addr}{fd:FuncData}
theorem IY:Af ["_law_script", "_law_k"] ["_law_script", "_law_k"] (AO Ef):=⟨rfl,rfl,rfl,by decide +kernel,rfl,by decide +kernel,by decide +kernel⟩
def Fy:DF :=
 (AQ (EM (Bi (F4 fun i j=>decide (i<j)) (nm 1) (AY Io (AB (nm 0) AF)))
  (B5 (AK FQ (nm 0) (nm 1)))
  CP)
 (B5 (fC (.int 0))))
def Ad:List PyData→Option PyData:=Cy ["_law_script", "_law_k"] ["_law_script", "_law_k"] (Fy)
theorem Mb{k:Nat}(F:Fn K mg "_law_cell_at" Ef ["_law_script", "_law_k"] f fd)(Av:mg "len" = none) :
  AM P w K mg base A2 (k+1) f fd ["_law_script", "_law_k"] (Bu (Ad)):=HA F IY fun cdv A outer s H E hr=>by
 have sc:=IY;exact(AH (CZ (BP Wc (AD (pv 1)) (EO Hv rfl Av aQ (AA (AD (pv 0)) AE)) (Ae _))
  (AX (BL (Dw (AD (pv 0)) (AD (pv 1)) (fun _ _=>rfl))))
  Bk)
 (AX (BL AG)))
theorem KS:Af ["_law_cell", "_law_k", "_law_number"] ["_law_cell", "_law_k"] (AO Fm):=⟨rfl,rfl,rfl,by decide +kernel,rfl,by decide +kernel,by decide +kernel⟩
def Hf:DF :=
 (AQ (Ao 2 (AK Cn (AK BB (AK BB (AK FD (AK Cn (nm 0) (fC (.int 2147483647))) (fC (.int 48271))) (AK FD (nm 1) (fC (.int 69621)))) (fC (.int 11))) (fC (.int 2147483647))))
 (AQ (Ao 2 (AK Cn (AK FD (nm 2) (nm 2)) (fC (.int 2147483629))))
 (B5 (AK Cn (AK FD (nm 2) (nm 2)) (fC (.int 2147483587))))))
def Ap:List PyData→Option PyData:=Cy ["_law_cell", "_law_k"] ["_law_cell", "_law_k", "_law_number"] (Hf)
theorem Ol{k:Nat}(F:Fn K mg "_law_mixed" Fm ["_law_cell", "_law_k"] f fd) :
  AM P w K mg base A2 (k+1) f fd ["_law_cell", "_law_k"] (Bu (Ap)):=HA F KS fun cdv A outer s H E hr=>by
 have sc:=KS;exact(AH (Ag (i:=2) sc.nd rfl (Or.inl rfl) (AU CI (AU A4 (AU A4 (AU Et (AU CI (AD (pv 0)) AG) AG) (AU Et (AD (pv 1)) AG)) AG) AG))
 (AH (Ag (i:=2) sc.nd rfl (Or.inl rfl) (AU CI (AU Et (AD (pv 2)) (AD (pv 2))) AG))
 (AX (BL (AU CI (AU Et (AD (pv 2)) (AD (pv 2))) AG)))))
theorem LC:Af ["_law_script", "_law_k", "_law_cell", "_law_big"] ["_law_script", "_law_k"] (AO Ic):=⟨rfl,rfl,rfl,by decide +kernel,rfl,by decide +kernel,by decide +kernel⟩
def Iu(Ad:List PyData→Option PyData)(Ap:List PyData→Option PyData):DF :=
 (AQ (Ao 2 (AY Ad (AB (nm 0) (AB (nm 1) AF))))
 (AQ (EM (Bi (F4 fun i j=>decide (j≤i)) (AY P8 (AB (nm 2) AF)) (AK Qa (fC (.int 10)) (fC (.int 18))))
  (B5 (nm 2))
  CP)
 (AQ (Ao 3 (AK BB (AY Ap (AB (nm 2) (AB (nm 1) AF))) (AK FD (AY Ap (AB (nm 2) (AB (AK BB (nm 1) (fC (.int 500))) AF))) (fC (.int 2147483587)))))
 (B5 (AK BB (nm 3) (AK FD (AK FD (AY Ap (AB (nm 2) (AB (AK BB (nm 1) (fC (.int 900))) AF))) (fC (.int 2147483587))) (fC (.int 2147483587))))))))
def B8(Ad:List PyData→Option PyData)(Ap:List PyData→Option PyData):List PyData→Option PyData:=Cy ["_law_script", "_law_k"] ["_law_script", "_law_k", "_law_cell", "_law_big"] (Iu Ad Ap)
theorem QY{k:Nat}{Ad:List PyData→Option PyData}{Ap:List PyData→Option PyData}(F:Fn K mg "_law_rest" Ic ["_law_script", "_law_k"] f fd)
 {Dh:Addr}{DJ:FuncData}(CJ:Fn K mg "_law_cell_at" Ef ["_law_script", "_law_k"] Dh DJ)(Ct:AM P w K mg base A2 k Dh DJ ["_law_script", "_law_k"] (Bu Ad))
 {EK:Addr}{D5:FuncData}(CB:Fn K mg "_law_mixed" Fm ["_law_cell", "_law_k"] EK D5)(CS:AM P w K mg base A2 k EK D5 ["_law_cell", "_law_k"] (Bu Ap))(FU:mg "abs" = none) :
  AM P w K mg base A2 (k+1) f fd ["_law_script", "_law_k"] (Bu (B8 Ad Ap)):=HA F LC fun cdv A outer s H E hr=>by
 have sc:=LC;exact(AH (Ag (i:=2) sc.nd rfl (Or.inl rfl) (An CJ Ct hr rfl (AA (AD (pv 0)) (AA (AD (pv 1)) AE))))
 (AH (CZ (BP cZ (EO YZ rfl FU bH (AA (AD (pv 2)) AE)) (AU XJ AG AG) (Ae _))
  (AX (BL (AD (pv 2))))
  Bk)
 (AH (Ag (i:=3) sc.nd rfl (Or.inl rfl) (AU A4 (An CB CS hr rfl (AA (AD (pv 2)) (AA (AD (pv 1)) AE))) (AU Et (An CB CS hr rfl (AA (AD (pv 2)) (AA (AU A4 (AD (pv 1)) AG) AE))) AG)))
 (AX (BL (AU A4 (AD (pv 3)) (AU Et (AU Et (An CB CS hr rfl (AA (AD (pv 2)) (AA (AU A4 (AD (pv 1)) AG) AE))) AG) AG)))))))
theorem JX:Af ["_law_rest_here", "_law_most", "_law_deep", "_law_many", "_law_change_here", "_law_k", "_law_terms", "_law_count", "_law_j", "_law_powers", "_law_turn", "_law_part"] ["_law_rest_here", "_law_most", "_law_deep"] (AO GX):=⟨rfl,rfl,rfl,by decide +kernel,rfl,by decide +kernel,by decide +kernel⟩
def GY(Dd:List PyData→Option PyData):DF :=
 (AQ (Ao 3 (AK BB (fC (.int 1)) (AK Cn (nm 0) (nm 1))))
 (AQ (Ao 0 (AK Cw (nm 0) (nm 1)))
 (AQ (Nb 4 AF)
 (AQ (FX (Eh Gf (AB (nm 3) AF)) (K6 5)
  (AQ (V0 6)
  (AQ (Ao 7 (AK Cn (nm 0) (fC (.int 5))))
  (AQ (Ao 0 (AK Cw (nm 0) (fC (.int 5))))
  (AQ (FX (Eh Gf (AB (nm 7) AF)) (K6 8)
   (AQ (Kt 9 (AK Ik (A8 (AB (fC (.int 0)) AF)) (nm 3)))
   (AQ (FX (Eh Gf (AB (AK Cn (nm 0) (AK BB (nm 2) (fC (.int 1)))) AF)) (K6 10)
    (AQ (O5 9 (AK Cn (AK Cw (nm 0) (fC (.int 5))) (nm 3)) (fC (.int 1)))
    (Ao 0 (AK BB (AK Cw (nm 0) (nm 3)) (nm 10)))))
   (AQ (Ao 0 (AK Cw (nm 0) (AK BB (nm 2) (fC (.int 1)))))
   (AQ (Ao 11 (AY Dd (AB (AK HR (AK Cn (nm 0) (fC (.int 13))) (fC (.int 6))) (AB (AK BB (fC (.int 1)) (AK Cn (AK Cw (nm 0) (fC (.int 13))) (fC (.int 6)))) AF))))
   (AQ (Ao 0 (AK Cw (nm 0) (fC (.int 78))))
   (EM (Bi (CY true) (AK FQ (nm 11) (fC (.int 0))) (fC (.int 0)))
    (Js 9 (Pc 6 (nm 11) (AY EW (AB (nm 9) AF))))
    CP)))))))
  (Js 9 (O8 4 (Jb 2 6 (CD 1) DP (A1 (AB (nm 1) (AB (Oy 2 (nm 1)) AF))) [none,none,some 6] (ER (Rt (fun δ=>(Bs 6 δ).bind E9) (Sh (fC (.int 1)))))))))))))
 (Om 4)))))
def BZ(Dd:List PyData→Option PyData):List PyData→Option PyData:=Cy ["_law_rest_here", "_law_most", "_law_deep"] ["_law_rest_here", "_law_most", "_law_deep", "_law_many", "_law_change_here", "_law_k", "_law_terms", "_law_count", "_law_j", "_law_powers", "_law_turn", "_law_part"] (GY Dd)
theorem Nl{k:Nat}{Dd:List PyData→Option PyData}(F:Fn K mg "_law_change" GX ["_law_rest_here", "_law_most", "_law_deep"] f fd)
 {Kl:Addr}{KJ:FuncData}(FT:Fn K mg "_law_ratio" Hh ["_law_top", "_law_bottom"] Kl KJ)(HQ:AM P w K mg base A2 k Kl KJ ["_law_top", "_law_bottom"] (Bu Dd))(Dc:mg "range" = none)(ML:mg "sorted" = none)(BD:mg "tuple" = none) :
  AM P w K mg base A2 (k+1) f fd ["_law_rest_here", "_law_most", "_law_deep"] (Bu (BZ Dd)):=HA F JX fun cdv A outer s H E hr=>by
 have sc:=JX;exact(AH (Ag (i:=3) sc.nd rfl (Or.inl rfl) (AU A4 AG (AU CI (AD (pv 0)) (AD (pv 1)))))
 (AH (Ag (i:=0) sc.nd rfl (Or.inl rfl) (AU De (AD (pv 0)) (AD (pv 1))))
 (AH (Mz (i:=4) sc.nd rfl (Or.inl rfl) AE)
 (AH (Hm aZ rfl (GN rfl Dc (AA (AD (pv 3)) AE)) (JL (Bg (i:=5) sc.nd rfl (Or.inl rfl)))
  (AH (Zg (i:=6) sc.nd rfl (Or.inr rfl))
  (AH (Ag (i:=7) sc.nd rfl (Or.inl rfl) (AU CI (AD (pv 0)) AG))
  (AH (Ag (i:=0) sc.nd rfl (Or.inl rfl) (AU De (AD (pv 0)) AG))
  (AH (Hm aZ rfl (GN rfl Dc (AA (AD (pv 7)) AE)) (JL (Bg (i:=8) sc.nd rfl (Or.inl rfl)))
   (AH (Tj (i:=9) (Al (AA AG AE)) (AD (pv 3)) sc.nd rfl (Or.inl rfl))
   (AH (Hm aZ rfl (GN rfl Dc (AA (AU CI (AD (pv 0)) (AU A4 (AD (pv 2)) AG)) AE)) (JL (Bg (i:=10) sc.nd rfl (Or.inl rfl)))
    (AH (XA (pv 9) (AU CI (AU De (AD (pv 0)) AG) (AD (pv 3))) AG)
    (AX (Ag (i:=0) sc.nd rfl (Or.inl rfl) (AU A4 (AU De (AD (pv 0)) (AD (pv 3))) (AD (pv 10)))))))
   (AH (Ag (i:=0) sc.nd rfl (Or.inl rfl) (AU De (AD (pv 0)) (AU A4 (AD (pv 2)) AG)))
   (AH (Ag (i:=11) sc.nd rfl (Or.inl rfl) (An FT HQ hr rfl (AA (AU FN (AU CI (AD (pv 0)) AG) AG) (AA (AU A4 AG (AU CI (AU De (AD (pv 0)) AG) AG)) AE))))
   (AH (Ag (i:=0) sc.nd rfl (Or.inl rfl) (AU De (AD (pv 0)) AG))
   (AX (CZ (BP (HK (by have:=hr.units;exact this)) (Dw (AD (pv 11)) AG (fun _ _=>rfl)) AG (Ae _))
    (AX (GW 9 (YD (pv 6) (Dq HZ rfl BD aW (AA (AD (pv 9)) AE)) (AD (pv 11)) (fun h1 h2 h3=>X1 (dg (by have:=hr.units;exact this)) h2 h3 h1 rfl))))
    Bk))))))))
  (AX (GW 9 (IL (pv 4) (VN [".0", "_law_powers", "_law_terms"] 1 [none,none,some 6] 2 6 (D3 (Y1 (VI (by have:=hr.units;exact this) rfl rfl ML (pv 6)) (UU AG))) (fun _ _ _ _ _=>C9) (fun _ _ _ _ _=>(Ab (AA (AD (pv 1)) (AA (Xj (dg (by have:=hr.units;exact this)) (pv 2) (AD (pv 1)) (fun _ _=>rfl)) AE))))) (fun ho ha=>D8 (Jr ax PySem.F.slot_list_append PySem.F.type_list_append GO ho ha))))))))))
 (AX (NU (pv 4)))))))
theorem KQ:Af ["_law_error", "_law_told"] ["_law_error"] (AO Hj):=⟨rfl,rfl,rfl,by decide +kernel,rfl,by decide +kernel,by decide +kernel⟩
def PX(kt_GroveError:Addr→Option Bool)(kt_NoBottom:Addr→Option Bool)(kt_NoChange:Addr→Option Bool)(kt_NoLine:Addr→Option Bool)(kt_NoName:Addr→Option Bool)(kt_NoParts:Addr→Option Bool)(kt_NoStart:Addr→Option Bool)(kt_NoTable:Addr→Option Bool)(kt_NoText:Addr→Option Bool)(kt_NoTree:Addr→Option Bool)(kt_NoWeighing:Addr→Option Bool)(kt_NotAlike:Addr→Option Bool)(kt_TooMany:Addr→Option Bool)(kt_ValueError:Addr→Option Bool):DF :=
 (AQ (EM (QX (Ir (He (FK kt_GroveError (nm 0)))) (Ir (He (FK kt_ValueError (nm 0)))))
  (B5 (fC (.bool false)))
  CP)
 (AQ (Ao 1 (A8 (AB (FK kt_NoBottom (nm 0)) (AB (FK kt_NoChange (nm 0)) (AB (FK kt_NoLine (nm 0)) AF)))))
 (AQ (Ao 1 (AK BB (nm 1) (A8 (AB (FK kt_NoName (nm 0)) (AB (FK kt_NoParts (nm 0)) (AB (FK kt_NoStart (nm 0)) AF))))))
 (AQ (Ao 1 (AK BB (nm 1) (A8 (AB (FK kt_NotAlike (nm 0)) (AB (FK kt_NoTable (nm 0)) (AB (FK kt_NoText (nm 0)) AF))))))
 (AQ (Ao 1 (AK BB (nm 1) (A8 (AB (FK kt_NoTree (nm 0)) (AB (FK kt_NoWeighing (nm 0)) (AB (FK kt_TooMany (nm 0)) AF))))))
 (B5 (AK (CY false) (AY Io (AB (Cb (CD 1) (He (nm 1)) (nm 1) [none,none] (ER (nm 1))) AF)) (fC (.int 1)))))))))
def CA(kt_GroveError:Addr→Option Bool)(kt_NoBottom:Addr→Option Bool)(kt_NoChange:Addr→Option Bool)(kt_NoLine:Addr→Option Bool)(kt_NoName:Addr→Option Bool)(kt_NoParts:Addr→Option Bool)(kt_NoStart:Addr→Option Bool)(kt_NoTable:Addr→Option Bool)(kt_NoText:Addr→Option Bool)(kt_NoTree:Addr→Option Bool)(kt_NoWeighing:Addr→Option Bool)(kt_NotAlike:Addr→Option Bool)(kt_TooMany:Addr→Option Bool)(kt_ValueError:Addr→Option Bool):List PyData→Option PyData:=Cy ["_law_error"] ["_law_error", "_law_told"] (PX kt_GroveError kt_NoBottom kt_NoChange kt_NoLine kt_NoName kt_NoParts kt_NoStart kt_NoTable kt_NoText kt_NoTree kt_NoWeighing kt_NotAlike kt_TooMany kt_ValueError)
theorem Oi{k:Nat}{C_GroveError:Addr}{C_NoBottom:Addr}{C_NoChange:Addr}{C_NoLine:Addr}{C_NoName:Addr}{C_NoParts:Addr}{C_NoStart:Addr}{C_NoTable:Addr}{C_NoText:Addr}{C_NoTree:Addr}{C_NoWeighing:Addr}{C_NotAlike:Addr}{C_TooMany:Addr}{kt_GroveError:Addr→Option Bool}{kt_NoBottom:Addr→Option Bool}{kt_NoChange:Addr→Option Bool}{kt_NoLine:Addr→Option Bool}{kt_NoName:Addr→Option Bool}{kt_NoParts:Addr→Option Bool}{kt_NoStart:Addr→Option Bool}{kt_NoTable:Addr→Option Bool}{kt_NoText:Addr→Option Bool}{kt_NoTree:Addr→Option Bool}{kt_NoWeighing:Addr→Option Bool}{kt_NotAlike:Addr→Option Bool}{kt_TooMany:Addr→Option Bool}{kt_ValueError:Addr→Option Bool}(F:Fn K mg "_law_alone" Hj ["_law_error"] f fd)(Hg:mg "ValueError" = none)(AI:mg "isinstance" = none)(Av:mg "len" = none)(Ho:mg "GroveError" = some (.ref C_GroveError))(Jp:mg "NoBottom" = some (.ref C_NoBottom))(CO:mg "NoChange" = some (.ref C_NoChange))(MC:mg "NoLine" = some (.ref C_NoLine))(MV:mg "NoName" = some (.ref C_NoName))(Kx:mg "NoParts" = some (.ref C_NoParts))(K0:mg "NoStart" = some (.ref C_NoStart))(Dp:mg "NoTable" = some (.ref C_NoTable))(MW:mg "NoText" = some (.ref C_NoText))(E7:mg "NoTree" = some (.ref C_NoTree))(Hr:mg "NoWeighing" = some (.ref C_NoWeighing))(J0:mg "NotAlike" = some (.ref C_NotAlike))(DB:mg "TooMany" = some (.ref C_TooMany))(kh_GroveError:∀C b,kt_GroveError C=some b→Bj K C∧PySem.W.kitOne K (.ref C) (Bq (.ref C_GroveError))=some b)(kh_NoBottom:∀C b,kt_NoBottom C=some b→Bj K C∧PySem.W.kitOne K (.ref C) (Bq (.ref C_NoBottom))=some b)(kh_NoChange:∀C b,kt_NoChange C=some b→Bj K C∧PySem.W.kitOne K (.ref C) (Bq (.ref C_NoChange))=some b)(kh_NoLine:∀C b,kt_NoLine C=some b→Bj K C∧PySem.W.kitOne K (.ref C) (Bq (.ref C_NoLine))=some b)(kh_NoName:∀C b,kt_NoName C=some b→Bj K C∧PySem.W.kitOne K (.ref C) (Bq (.ref C_NoName))=some b)(kh_NoParts:∀C b,kt_NoParts C=some b→Bj K C∧PySem.W.kitOne K (.ref C) (Bq (.ref C_NoParts))=some b)(kh_NoStart:∀C b,kt_NoStart C=some b→Bj K C∧PySem.W.kitOne K (.ref C) (Bq (.ref C_NoStart))=some b)(kh_NoTable:∀C b,kt_NoTable C=some b→Bj K C∧PySem.W.kitOne K (.ref C) (Bq (.ref C_NoTable))=some b)(kh_NoText:∀C b,kt_NoText C=some b→Bj K C∧PySem.W.kitOne K (.ref C) (Bq (.ref C_NoText))=some b)(kh_NoTree:∀C b,kt_NoTree C=some b→Bj K C∧PySem.W.kitOne K (.ref C) (Bq (.ref C_NoTree))=some b)(kh_NoWeighing:∀C b,kt_NoWeighing C=some b→Bj K C∧PySem.W.kitOne K (.ref C) (Bq (.ref C_NoWeighing))=some b)(kh_NotAlike:∀C b,kt_NotAlike C=some b→Bj K C∧PySem.W.kitOne K (.ref C) (Bq (.ref C_NotAlike))=some b)(kh_TooMany:∀C b,kt_TooMany C=some b→Bj K C∧PySem.W.kitOne K (.ref C) (Bq (.ref C_TooMany))=some b)(kh_ValueError:∀C b,kt_ValueError C=some b→Bj K C∧PySem.W.kitOne K (.ref C) (Bq (.ty "ValueError"))=some b) :
  AM P w K mg base A2 (k+1) f fd ["_law_error"] (Bu (CA kt_GroveError kt_NoBottom kt_NoChange kt_NoLine kt_NoName kt_NoParts kt_NoStart kt_NoTable kt_NoText kt_NoTree kt_NoWeighing kt_NotAlike kt_TooMany kt_ValueError)):=HA F KQ fun cdv A outer s H E hr=>by
 have sc:=KQ;exact(AH (CZ (DW.dt (LS (GK (Fp (DN kh_GroveError (fun z=>nomatch z) rfl AI (Bv (v:=.ref C_GroveError) rfl Ho rfl) (AD (pv 0))))) (FV (GK (Fp (DN kh_ValueError (fun z=>nomatch z) rfl AI (C7 (v:=.ty "ValueError") rfl Hg PyProof.Rows.Boot.«ValueError» rfl) (AD (pv 0))))))))
  (AX (BL HB))
  Bk)
 (AH (Ag (i:=1) sc.nd rfl (Or.inl rfl) (Al (AA (DN kh_NoBottom (fun z=>nomatch z) rfl AI (Bv (v:=.ref C_NoBottom) rfl Jp rfl) (AD (pv 0))) (AA (DN kh_NoChange (fun z=>nomatch z) rfl AI (Bv (v:=.ref C_NoChange) rfl CO rfl) (AD (pv 0))) (AA (DN kh_NoLine (fun z=>nomatch z) rfl AI (Bv (v:=.ref C_NoLine) rfl MC rfl) (AD (pv 0))) AE)))))
 (AH (Ag (i:=1) sc.nd rfl (Or.inl rfl) (AU A4 (AD (pv 1)) (Al (AA (DN kh_NoName (fun z=>nomatch z) rfl AI (Bv (v:=.ref C_NoName) rfl MV rfl) (AD (pv 0))) (AA (DN kh_NoParts (fun z=>nomatch z) rfl AI (Bv (v:=.ref C_NoParts) rfl Kx rfl) (AD (pv 0))) (AA (DN kh_NoStart (fun z=>nomatch z) rfl AI (Bv (v:=.ref C_NoStart) rfl K0 rfl) (AD (pv 0))) AE))))))
 (AH (Ag (i:=1) sc.nd rfl (Or.inl rfl) (AU A4 (AD (pv 1)) (Al (AA (DN kh_NotAlike (fun z=>nomatch z) rfl AI (Bv (v:=.ref C_NotAlike) rfl J0 rfl) (AD (pv 0))) (AA (DN kh_NoTable (fun z=>nomatch z) rfl AI (Bv (v:=.ref C_NoTable) rfl Dp rfl) (AD (pv 0))) (AA (DN kh_NoText (fun z=>nomatch z) rfl AI (Bv (v:=.ref C_NoText) rfl MW rfl) (AD (pv 0))) AE))))))
 (AH (Ag (i:=1) sc.nd rfl (Or.inl rfl) (AU A4 (AD (pv 1)) (Al (AA (DN kh_NoTree (fun z=>nomatch z) rfl AI (Bv (v:=.ref C_NoTree) rfl E7 rfl) (AD (pv 0))) (AA (DN kh_NoWeighing (fun z=>nomatch z) rfl AI (Bv (v:=.ref C_NoWeighing) rfl Hr rfl) (AD (pv 0))) (AA (DN kh_TooMany (fun z=>nomatch z) rfl AI (Bv (v:=.ref C_TooMany) rfl DB rfl) (AD (pv 0))) AE))))))
 (AX (BL (UB (Fo (by have:=hr.units;exact this)) (EO Hv rfl Av aQ (AA (JT [".0", "_law_one"] 1 [none,none] (D3 (AD (pv 1))) (fun _ _ _ _ _=>(XD (Fp (AD (pv 1))))) (fun _ _ _ _ _=>(AD (pv 1)))) AE)) AG (Ae _)))))))))
theorem IH:Af ["_law_word", "_law_thing", "_law_error", "_law_told", "e"] ["_law_word", "_law_thing"] (AO F6):=⟨rfl,rfl,rfl,by decide +kernel,rfl,by decide +kernel,by decide +kernel⟩
def F3(CA:List PyData→Option PyData)(Bc:List PyData→Option Xr)(Bn:List PyData→Option Xr)(Bx:List PyData→Option Xr)(C_NoChange:Addr)(C_NoTable:Addr)(C_NoTree:Addr)(C_TooMany:Addr):DF :=
 (AQ (Ao 2 (fC .none))
 (AQ (Ao 3 (fC (.str (Str.ofString "told"))))
 (AQ (Oo 4 (Eu Bc Bn Bx) (fun δ=>((nm 0) δ).bind fun w=>((nm 1) δ).map fun x=>[w,x]) fun C=>(if C=C_NoChange then(AQ (Ao 3 (fC (.str (Str.ofString "change")))) (Ao 2 (nm 4))) else(if C=C_TooMany then(AQ (Ao 3 (fC (.str (Str.ofString "many")))) (Ao 2 (nm 4))) else(if C=C_NoTable then(AQ (Ao 3 (fC (.str (Str.ofString "table")))) (Ao 2 (nm 4))) else(AQ (Ao 3 (fC (.str (Str.ofString "tree")))) (Ao 2 (nm 4)))))))
 (AQ (EM (Rm (Bi (Zp true) (nm 2) (fC .none)) (Ir (He (AY CA (AB (nm 2) AF)))))
  (B5 (fC (.str (Str.ofString "none of these"))))
  CP)
 (B5 (nm 3))))))
def Az(CA:List PyData→Option PyData)(Bc:List PyData→Option Xr)(Bn:List PyData→Option Xr)(Bx:List PyData→Option Xr)(C_NoChange:Addr)(C_NoTable:Addr)(C_NoTree:Addr)(C_TooMany:Addr):List PyData→Option PyData:=Cy ["_law_word", "_law_thing"] ["_law_word", "_law_thing", "_law_error", "_law_told", "e"] (F3 CA Bc Bn Bx C_NoChange C_NoTable C_NoTree C_TooMany)
theorem Mf{k:Nat}{CA:List PyData→Option PyData}{Bc:List PyData→Option Xr}{Bn:List PyData→Option Xr}{Bx:List PyData→Option Xr}{C_NoChange:Addr}{C_NoTable:Addr}{C_NoTree:Addr}{C_TooMany:Addr}(F:Fn K mg "_law_refusal" F6 ["_law_word", "_law_thing"] f fd)
 {LG:Addr}{KC:FuncData}(Fe:Fn K mg "_law_alone" Hj ["_law_error"] LG KC)(Hs:AM P w K mg base A2 k LG KC ["_law_error"] (Bu CA))
 {Jc:Addr}{Ib:FuncData}(Eb:Fn K mg "shown_change" F5 ["change"] Jc Ib)(GA:AM P w K mg base (Bz P w) k Jc Ib ["change"] (D0 Bc))
 {KP:Addr}{JC:FuncData}(Ey:Fn K mg "shown_table" Gj ["table"] KP JC)(Gn:AM P w K mg base (Bz P w) k KP JC ["table"] (D0 Bn))
 {Ko:Addr}{KG:FuncData}(Fc:Fn K mg "shown_tree" HU ["tree"] Ko KG)(Hi:AM P w K mg base (Bz P w) k Ko KG ["tree"] (D0 Bx))(CO:mg "NoChange" = some (.ref C_NoChange))(Dp:mg "NoTable" = some (.ref C_NoTable))(E7:mg "NoTree" = some (.ref C_NoTree))(DB:mg "TooMany" = some (.ref C_TooMany))(hO_three:∀ds C,Eu Bc Bn Bx ds=some (.inr C)→C=C_NoChange∨C=C_TooMany∨C=C_NoTable∨C=C_NoTree)(bt_NoChange_NoChange:A5 K C_NoChange C_NoChange true)(bt_TooMany_NoChange:A5 K C_TooMany C_NoChange false)(bt_TooMany_TooMany:A5 K C_TooMany C_TooMany true)(bt_NoTable_NoChange:A5 K C_NoTable C_NoChange false)(bt_NoTable_TooMany:A5 K C_NoTable C_TooMany false)(bt_NoTable_NoTable:A5 K C_NoTable C_NoTable true)(bt_NoTree_NoChange:A5 K C_NoTree C_NoChange false)(bt_NoTree_TooMany:A5 K C_NoTree C_TooMany false)(bt_NoTree_NoTable:A5 K C_NoTree C_NoTable false)(bt_NoTree_NoTree:A5 K C_NoTree C_NoTree true)(ne_NoChange_TooMany:C_NoChange≠C_TooMany)(ne_NoChange_NoTable:C_NoChange≠C_NoTable)(ne_TooMany_NoTable:C_TooMany≠C_NoTable)(ne_NoChange_NoTree:C_NoChange≠C_NoTree)(ne_TooMany_NoTree:C_TooMany≠C_NoTree)(ne_NoTable_NoTree:C_NoTable≠C_NoTree) :
  AM P w K mg base A2 (k+1) f fd ["_law_word", "_law_thing"] (Bu (Az CA Bc Bn Bx C_NoChange C_NoTable C_NoTree C_TooMany)):=HA F IH fun cdv A outer s H E hr=>by
 have sc:=IH;exact(AH (Ag (i:=2) sc.nd rfl (Or.inl rfl) JS)
 (AH (Ag (i:=3) sc.nd rfl (Or.inl rfl) BC)
 (AH (X6 (k:=4) Eb GA Ey Gn Fc Hi hr (by exact(AD (pv 0))) (by exact AA (AD (pv 1)) AE) (fun _ _=>rfl) sc.nd (fun ds C h=>by rcases hO_three ds C h with h2|h2|h2|h2;(intro ea;rw[h2,if_pos rfl];exact Mh CO bt_NoChange_NoChange (AH (Ag (i:=3) sc.nd rfl (Or.inl rfl) BC) (AX (Ag (i:=2) sc.nd rfl (Or.inl rfl) (AD (pv 4))))));(intro ea;rw[h2,if_neg (Ne.symm ne_NoChange_TooMany),if_pos rfl];exact HP CO bt_TooMany_NoChange (Mh DB bt_TooMany_TooMany (AH (Ag (i:=3) sc.nd rfl (Or.inl rfl) BC) (AX (Ag (i:=2) sc.nd rfl (Or.inl rfl) (AD (pv 4)))))));(intro ea;rw[h2,if_neg (Ne.symm ne_NoChange_NoTable),if_neg (Ne.symm ne_TooMany_NoTable),if_pos rfl];exact HP CO bt_NoTable_NoChange (HP DB bt_NoTable_TooMany (Mh Dp bt_NoTable_NoTable (AH (Ag (i:=3) sc.nd rfl (Or.inl rfl) BC) (AX (Ag (i:=2) sc.nd rfl (Or.inl rfl) (AD (pv 4))))))));(intro ea;rw[h2,if_neg (Ne.symm ne_NoChange_NoTree),if_neg (Ne.symm ne_TooMany_NoTree),if_neg (Ne.symm ne_NoTable_NoTree)];exact HP CO bt_NoTree_NoChange (HP DB bt_NoTree_TooMany (HP Dp bt_NoTree_NoTable (Mh E7 bt_NoTree_NoTree (AH (Ag (i:=3) sc.nd rfl (Or.inl rfl) BC) (AX (Ag (i:=2) sc.nd rfl (Or.inl rfl) (AD (pv 4)))))))))))
 (AH (CZ (DW.dt (Pj (BP VQ (AD (pv 2)) JS (Ae _)) (FV (GK (Fp (An Fe Hs hr rfl (AA (AD (pv 2)) AE)))))))
  (AX (BL BC))
  Bk)
 (AX (BL (AD (pv 3))))))))
theorem Jd:Af ["_law_change_here", "_law_number", "_law_many", "_law_at", "_law_powers", "_law_part", "_law_last", "_law_more", "_law_mode"] ["_law_change_here", "_law_number"] (AO Gv):=⟨rfl,rfl,rfl,by decide +kernel,rfl,by decide +kernel,by decide +kernel⟩
def Gk:DF :=
 (AQ (Js 0 (Ss 0 (Ee (CD 1) DP (AY HN (AB (nm 1) AF)) [none,none] (ER (nm 0)))))
 (AQ (Ao 2 (RL 0))
 (AQ (Ao 3 (AK Cn (AK Cw (nm 1) (fC (.int 16))) (nm 2)))
 (AQ (EM (Wn (Bi (CY false) (AK FQ (nm 0) (nm 3)) (A8 AF)))
  (MO 0 (A8 (AB (A1 (AB (AK BB (A1 (AB (fC (.int 1)) AF)) (AK JR (A1 (AB (fC (.int 0)) AF)) (AK HR (nm 2) (fC (.int 1))))) (AB (A1 (AB (fC (.int 1)) (AB (fC (.int 2)) AF))) AF))) AF)) (nm 3))
  CP)
 (AQ (fK (AK FQ (JK 0 (nm 3)) (fC (.int 0))) (EJ 4 5))
 (AQ (Ao 6 (QL (JK 0 (nm 3)) (M5 (fC (.int 1))) M9))
 (AQ (Ao 7 (A8 (AB (A1 (AB (nm 4) (AB (A1 (AB (fC (.int 0)) (AB (fC (.int 1)) AF))) AF))) (AB (A1 (AB (nm 4) (AB (A1 (AB (fC (.int 2)) (AB (fC (.int 4)) AF))) AF))) (AB (A1 (AB (AK BB (nm 4) (A1 (AB (fC (.int 0)) AF))) (AB (nm 5) AF))) (AB (A1 (AB (AK BB (A1 (AB (Sh (fC (.int 1))) AF)) (QL (nm 4) (M5 (fC (.int 1))) M9)) (AB (nm 5) AF))) AF))))))
 (AQ (Ao 7 (AK BB (nm 7) (A8 (AB (A1 (AB (AK BB (A1 (AB (fC (.bool true)) AF)) (QL (nm 4) (M5 (fC (.int 1))) M9)) (AB (nm 5) AF))) (AB (A1 (AB (QL (nm 4) (M5 (fC (.int 1))) M9) (AB (nm 5) AF))) (AB (A8 (AB (nm 4) (AB (nm 5) AF))) (AB (A1 (AB (nm 4) (AB (nm 5) (AB (fC (.int 1)) AF)))) AF)))))))
 (AQ (Ao 7 (AK BB (nm 7) (A8 (AB (A1 (AB (AY HN (AB (nm 4) AF)) (AB (nm 5) AF))) AF))))
 (AQ (Ao 8 (AK Cn (nm 1) (fC (.int 16))))
 (AQ (EM (Bi (F4 fun i j=>decide (i<j)) (nm 8) (fC (.int 9)))
  (MO 0 (AK BB (A8 (AB (AK FQ (nm 7) (nm 8)) AF)) (nm 6)) (nm 3))
  CP)
 (AQ (EM (Bi (CY false) (nm 8) (fC (.int 9)))
  (MO 0 (AK BB (A8 (AB (A1 (AB (nm 4) (AB (nm 5) AF))) (AB (A1 (AB (nm 4) (AB (nm 5) AF))) AF))) (nm 6)) (nm 3))
  CP)
 (AQ (EM (Bi (CY false) (nm 8) (fC (.int 10)))
  (MO 0 (A8 (AB (A1 (AB (nm 4) (AB (nm 5) AF))) (AB (A1 (AB (AY EW (AB (Cb (CD 1) DP (AK BB (nm 1) (fC (.int 1))) [none,none] (ER (nm 4))) AF)) (AB (nm 5) AF))) AF))) (nm 3))
  CP)
 (AQ (EM (Bi (CY false) (nm 8) (fC (.int 11)))
  (MO 0 (AY EW (AB (JK 0 (nm 3)) AF)) (nm 3))
  CP)
 (AQ (EM (Bi (CY false) (nm 8) (fC (.int 12)))
  (Js 0 (Kt 0 (AK HX (nm 0) (A8 (AB (fC .none) AF)))))
  CP)
 (AQ (EM (Bi (F4 fun i j=>decide (j<i)) (nm 8) (fC (.int 12)))
  (Js 0 (B5 (AK FQ (A8 (AB (A8 AF) (AB (fC .none) (AB (AY EW (AB (nm 0) AF)) AF)))) (AK HR (nm 8) (fC (.int 13))))))
  CP)
 (Om 0)))))))))))))))))
def Ba:List PyData→Option PyData:=Cy ["_law_change_here", "_law_number"] ["_law_change_here", "_law_number", "_law_many", "_law_at", "_law_powers", "_law_part", "_law_last", "_law_more", "_law_mode"] (Gk)
theorem NH{k:Nat}(F:Fn K mg "_law_spoilt" Gv ["_law_change_here", "_law_number"] f fd)(Av:mg "len" = none)(CC:mg "list" = none)(BD:mg "tuple" = none) :
  AM P w K mg base A2 (k+1) f fd ["_law_change_here", "_law_number"] (Bu (Ba)):=HA F Jd fun cdv A outer s H E hr=>by
 have sc:=Jd;exact(AH (GW 0 (RG (i:=0) [".0", "_law_some"] 1 [none,none] sc.nd rfl rfl (D3 (AD (pv 0))) (fun _ _ _ _ _=>C9) (fun _ _ _ _ _=>(Dq Nd rfl CC ak (AA (AD (pv 1)) AE)))))
 (AH (Ag (i:=2) sc.nd rfl (Or.inl rfl) (OA (pv 0) rfl Av))
 (AH (Ag (i:=3) sc.nd rfl (Or.inl rfl) (AU CI (AU De (AD (pv 1)) AG) (AD (pv 2))))
 (AH (CZ (YC (BP (Fo (by have:=hr.units;exact this)) (Dw (AD (pv 0)) (AD (pv 3)) (fun _ _=>rfl)) (Al AE) (Ae _)))
  (AX (Ks (pv 0) (AD (pv 3)) (Al (AA (Ab (AA (AU A4 (Ab (AA AG AE)) (AU J8 (Ab (AA AG AE)) (AU FN (AD (pv 2)) AG))) (AA (Ab (AA AG (AA AG AE))) AE))) AE)) (fun h1 h2 h3=>JG h1 (Kp h2 h3 set_list))))
  Bk)
 (AH (Yr (Dw (MB (pv 0) (AD (pv 3)) (fun _ _=>rfl)) AG (fun _ _=>rfl)) (Pt (Jh rfl (Cd (Bg (i:=4) sc.nd rfl (Or.inl rfl)) (Cd (Bg (i:=5) sc.nd rfl (Or.inl rfl)) HM)))))
 (AH (Ag (i:=6) sc.nd rfl (Or.inl rfl) (Jt (MB (pv 0) (AD (pv 3)) (fun _ _=>rfl)) (LM AG) LI))
 (AH (Ag (i:=7) sc.nd rfl (Or.inl rfl) (Al (AA (Ab (AA (AD (pv 4)) (AA (Ab (AA AG (AA AG AE))) AE))) (AA (Ab (AA (AD (pv 4)) (AA (Ab (AA AG (AA AG AE))) AE))) (AA (Ab (AA (AU A4 (AD (pv 4)) (Ab (AA AG AE))) (AA (AD (pv 5)) AE))) (AA (Ab (AA (AU A4 (Ab (AA (UU AG) AE)) (Jt (AD (pv 4)) (LM AG) LI)) (AA (AD (pv 5)) AE))) AE))))))
 (AH (Ag (i:=7) sc.nd rfl (Or.inl rfl) (AU A4 (AD (pv 7)) (Al (AA (Ab (AA (AU A4 (Ab (AA HB AE)) (Jt (AD (pv 4)) (LM AG) LI)) (AA (AD (pv 5)) AE))) (AA (Ab (AA (Jt (AD (pv 4)) (LM AG) LI) (AA (AD (pv 5)) AE))) (AA (Al (AA (AD (pv 4)) (AA (AD (pv 5)) AE))) (AA (Ab (AA (AD (pv 4)) (AA (AD (pv 5)) (AA AG AE)))) AE)))))))
 (AH (Ag (i:=7) sc.nd rfl (Or.inl rfl) (AU A4 (AD (pv 7)) (Al (AA (Ab (AA (Dq Nd rfl CC ak (AA (AD (pv 4)) AE)) (AA (AD (pv 5)) AE))) AE))))
 (AH (Ag (i:=8) sc.nd rfl (Or.inl rfl) (AU CI (AD (pv 1)) AG))
 (AH (CZ (BP Wc (AD (pv 8)) AG (Ae _))
  (AX (Ks (pv 0) (AD (pv 3)) (AU A4 (Al (AA (Dw (AD (pv 7)) (AD (pv 8)) (fun _ _=>rfl)) AE)) (AD (pv 6))) (fun h1 h2 h3=>JG h1 (Kp h2 h3 set_list))))
  Bk)
 (AH (CZ (BP (Fo (by have:=hr.units;exact this)) (AD (pv 8)) AG (Ae _))
  (AX (Ks (pv 0) (AD (pv 3)) (AU A4 (Al (AA (Ab (AA (AD (pv 4)) (AA (AD (pv 5)) AE))) (AA (Ab (AA (AD (pv 4)) (AA (AD (pv 5)) AE))) AE))) (AD (pv 6))) (fun h1 h2 h3=>JG h1 (Kp h2 h3 set_list))))
  Bk)
 (AH (CZ (BP (Fo (by have:=hr.units;exact this)) (AD (pv 8)) AG (Ae _))
  (AX (Ks (pv 0) (AD (pv 3)) (Al (AA (Ab (AA (AD (pv 4)) (AA (AD (pv 5)) AE))) (AA (Ab (AA (Dq HZ rfl BD aW (AA (JT [".0", "_law_one"] 1 [none,none] (D3 (AD (pv 4))) (fun _ _ _ _ _=>C9) (fun _ _ _ _ _=>(AU A4 (AD (pv 1)) AG))) AE)) (AA (AD (pv 5)) AE))) AE))) (fun h1 h2 h3=>JG h1 (Kp h2 h3 set_list))))
  Bk)
 (AH (CZ (BP (Fo (by have:=hr.units;exact this)) (AD (pv 8)) AG (Ae _))
  (AX (Ks (pv 0) (AD (pv 3)) (Dq HZ rfl BD aW (AA (MB (pv 0) (AD (pv 3)) (fun _ _=>rfl)) AE)) (fun h1 h2 h3=>JG h1 (Kp h2 h3 set_list))))
  Bk)
 (AH (CZ (BP (Fo (by have:=hr.units;exact this)) (AD (pv 8)) AG (Ae _))
  (AX (GW 0 (UE (i:=0) (AD (pv 0)) (Al (AA JS AE)) sc.nd rfl (Or.inl rfl))))
  Bk)
 (AH (CZ (BP O1 (AD (pv 8)) AG (Ae _))
  (AX (GW 0 (BL (Dw (Al (AA (Al AE) (AA JS (AA (Dq HZ rfl BD aW (AA (AD (pv 0)) AE)) AE)))) (AU FN (AD (pv 8)) AG) (fun _ _=>rfl)))))
  Bk)
 (AX (NU (pv 0)))))))))))))))))))
theorem UZ:Af ["_law_script", "_law_rest_here", "_law_change_here", "_law_handed", "_law_number", "_law_other", "_law_bad", "_law_many", "_law_wide", "_law_wider", "_law_some"] ["_law_script"] (AO Wt):=⟨rfl,rfl,rfl,by decide +kernel,rfl,by decide +kernel,by decide +kernel⟩
def Wa(Ad:List PyData→Option PyData)(BZ:List PyData→Option PyData)(Ap:List PyData→Option PyData)(Az:List PyData→Option PyData)(B8:List PyData→Option PyData)(Ba:List PyData→Option PyData)(BV:List PyData→Option Xr):DF :=
 (AQ (Ao 1 (AY B8 (AB (nm 0) (AB (fC (.int 0)) AF))))
 (AQ (Ao 2 (AY BZ (AB (nm 1) (AB (fC (.int 4)) (AB (fC (.int 3)) AF)))))
 (AQ (Ao 3 (Cb (CD 1) DP (AY HN (AB (nm 1) AF)) [none,none] (ER (nm 2))))
 (AQ (EM (QX (Bi (CY true) (AY Az (AB (fC (.int 0)) (AB (nm 3) AF))) (fC (.str (Str.ofString "told")))) (Bi (CY true) (nm 3) (nm 2)))
  (B5 (fC (.bool false)))
  CP)
 (AQ (Ao 4 (AY Ap (AB (AY Ad (AB (nm 0) (AB (fC (.int 1)) AF))) (AB (fC (.int 7)) AF))))
 (AQ (Ao 5 (AY BZ (AB (AY B8 (AB (nm 0) (AB (fC (.int 1)) AF))) (AB (fC (.int 3)) (AB (fC (.int 3)) AF)))))
 (AQ (Ao 6 (AY Ba (AB (nm 5) (AB (nm 4) AF))))
 (AQ (EM (QX (Bi (CY true) (AY Az (AB (fC (.int 0)) (AB (nm 6) AF))) (fC (.str (Str.ofString "change")))) (Bi (CY true) (nm 6) (AY Ba (AB (nm 5) (AB (nm 4) AF)))))
  (B5 (fC (.bool false)))
  CP)
 (AQ (Ao 7 (AK BB (fC (.int 5)) (AK Cn (AK Cw (nm 4) (fC (.int 64))) (fC (.int 3)))))
 (AQ (Ao 8 (Cb (CD 1) DP (A8 (AB (A1 (AB (AK BB (AK BB (AK JR (A1 (AB (fC (.int 0)) AF)) (nm 1)) (A1 (AB (fC (.int 1)) AF))) (AK JR (A1 (AB (fC (.int 0)) AF)) (AK HR (AK HR (nm 2) (fC (.int 1))) (nm 1)))) (AB (A1 (AB (fC (.int 1)) (AB (fC (.int 1)) AF))) AF))) AF)) [none,none,some 7] (Eh Gf (AB (nm 7) AF))))
 (AQ (Ao 9 (AK FQ (AY (good BV) (AB (AK JR (A1 (AB (A1 AF) AF)) (AK HR (nm 7) (fC (.int 1)))) AF)) (fC (.int 0))))
 (AQ (EM (QX (Bi (CY true) (AY Az (AB (fC (.int 0)) (AB (nm 8) AF))) (fC (.str (Str.ofString "many")))) (Bi (CY true) (AY Az (AB (fC (.int 0)) (AB (nm 9) AF))) (fC (.str (Str.ofString "many")))))
  (B5 (fC (.bool false)))
  CP)
 (AQ (Ao 10 (A8 (AB (fC .none) (AB (A8 AF) (AB (A1 AF) (AB (A1 (AB (A8 AF) (AB (A8 AF) AF))) (AB (A1 (AB (A8 (AB (A8 AF) AF)) (AB (A8 (AB (A1 (AB (fC (.int 1)) (AB (fC (.int 1)) AF))) AF)) (AB (fC (.int 1)) AF)))) (AB (A1 (AB (A8 (AB (A8 AF) (AB (A8 AF) AF))) (AB (A8 (AB (A1 (AB (fC (.int 1)) (AB (fC (.int 1)) AF))) (AB (A1 (AB (fC (.int 1)) (AB (fC (.int 1)) AF))) AF))) AF))) (AB (A1 (AB (A8 (AB (A8 AF) AF)) (AB (A8 (AB (fC (.int 1)) AF)) AF))) AF)))))))))
 (AQ (EM (QX (Bi (CY true) (AY Az (AB (fC (.int 1)) (AB (AK FQ (nm 10) (AK Cn (AK Cw (nm 4) (fC (.int 8))) (fC (.int 7)))) AF))) (fC (.str (Str.ofString "table")))) (Bi (CY true) (AY Az (AB (fC (.int 1)) (AB (A1 (AB (A8 (AB (A8 AF) AF)) (AB (A8 (AB (A1 (AB (fC (.int 1)) (AB (fC (.int 1)) AF))) AF)) AF))) AF))) (fC (.str (Str.ofString "told")))))
  (B5 (fC (.bool false)))
  CP)
 (B5 (AK (CY false) (AY Az (AB (fC (.int 2)) (AB (AK FQ (A8 (AB (A8 AF) (AB (A1 (AB (fC (.int 1)) AF)) (AB (A1 (AB (A1 AF) (AB (A1 (AB (A1 AF) AF)) AF))) (AB (fC .none) (AB (fC (.str (Str.ofString "[]"))) (AB (A1 (AB (A8 AF) AF)) AF))))))) (AK Cn (AK Cw (nm 4) (fC (.int 8))) (fC (.int 6)))) AF))) (fC (.str (Str.ofString "tree")))))))))))))))))))
def Wg(Ad:List PyData→Option PyData)(BZ:List PyData→Option PyData)(Ap:List PyData→Option PyData)(Az:List PyData→Option PyData)(B8:List PyData→Option PyData)(Ba:List PyData→Option PyData)(BV:List PyData→Option Xr):List PyData→Option PyData:=Cy ["_law_script"] ["_law_script", "_law_rest_here", "_law_change_here", "_law_handed", "_law_number", "_law_other", "_law_bad", "_law_many", "_law_wide", "_law_wider", "_law_some"] (Wa Ad BZ Ap Az B8 Ba BV)
theorem Zt{k:Nat}{Ad:List PyData→Option PyData}{BZ:List PyData→Option PyData}{Ap:List PyData→Option PyData}{Az:List PyData→Option PyData}{B8:List PyData→Option PyData}{Ba:List PyData→Option PyData}{BV:List PyData→Option Xr}(F:Fn K mg "law" Wt ["_law_script"] f fd)
 {Dh:Addr}{DJ:FuncData}(CJ:Fn K mg "_law_cell_at" Ef ["_law_script", "_law_k"] Dh DJ)(Ct:AM P w K mg base A2 k Dh DJ ["_law_script", "_law_k"] (Bu Ad))
 {KN:Addr}{Je:FuncData}(D4:Fn K mg "_law_change" GX ["_law_rest_here", "_law_most", "_law_deep"] KN Je)(E1:AM P w K mg base A2 k KN Je ["_law_rest_here", "_law_most", "_law_deep"] (Bu BZ))
 {EK:Addr}{D5:FuncData}(CB:Fn K mg "_law_mixed" Fm ["_law_cell", "_law_k"] EK D5)(CS:AM P w K mg base A2 k EK D5 ["_law_cell", "_law_k"] (Bu Ap))
 {JB:Addr}{IX:FuncData}(Be:Fn K mg "_law_refusal" F6 ["_law_word", "_law_thing"] JB IX)(Bo:AM P w K mg base A2 k JB IX ["_law_word", "_law_thing"] (Bu Az))
 {Lg:Addr}{K5:FuncData}(Er:Fn K mg "_law_rest" Ic ["_law_script", "_law_k"] Lg K5)(GI:AM P w K mg base A2 k Lg K5 ["_law_script", "_law_k"] (Bu B8))
 {KL:Addr}{Ja:FuncData}(D6:Fn K mg "_law_spoilt" Gv ["_law_change_here", "_law_number"] KL Ja)(E4:AM P w K mg base A2 k KL Ja ["_law_change_here", "_law_number"] (Bu Ba))
 {Hy:Addr}{G8:FuncData}(Ds:Fn K mg "parting_change" FE ["tree"] Hy G8)(E6:AM P w K mg base (Bz P w) k Hy G8 ["tree"] (D0 BV))(CC:mg "list" = none)(Dc:mg "range" = none) :
  AM P w K mg base A2 (k+1) f fd ["_law_script"] (Bu (Wg Ad BZ Ap Az B8 Ba BV)):=HA F UZ fun cdv A outer s H E hr=>by
 have sc:=UZ;exact(AH (Ag (i:=1) sc.nd rfl (Or.inl rfl) (An Er GI hr rfl (AA (AD (pv 0)) (AA AG AE))))
 (AH (Ag (i:=2) sc.nd rfl (Or.inl rfl) (An D4 E1 hr rfl (AA (AD (pv 1)) (AA AG (AA AG AE)))))
 (AH (Mp (i:=3) [".0", "_law_some"] 1 [none,none] sc.nd rfl rfl (D3 (AD (pv 2))) (fun _ _ _ _ _=>C9) (fun _ _ _ _ _=>(Dq Nd rfl CC ak (AA (AD (pv 1)) AE))))
 (AH (CZ (DW.dt (LS (BP (HK (by have:=hr.units;exact this)) (An Be Bo hr rfl (AA AG (AA (AD (pv 3)) AE))) BC (Ae _)) (FV (BP (HK (by have:=hr.units;exact this)) (AD (pv 3)) (AD (pv 2)) (Ae _)))))
  (AX (BL HB))
  Bk)
 (AH (Ag (i:=4) sc.nd rfl (Or.inl rfl) (An CB CS hr rfl (AA (An CJ Ct hr rfl (AA (AD (pv 0)) (AA AG AE))) (AA AG AE))))
 (AH (Ag (i:=5) sc.nd rfl (Or.inl rfl) (An D4 E1 hr rfl (AA (An Er GI hr rfl (AA (AD (pv 0)) (AA AG AE))) (AA AG (AA AG AE)))))
 (AH (Ag (i:=6) sc.nd rfl (Or.inl rfl) (An D6 E4 hr rfl (AA (AD (pv 5)) (AA (AD (pv 4)) AE))))
 (AH (CZ (DW.dt (LS (BP (HK (by have:=hr.units;exact this)) (An Be Bo hr rfl (AA AG (AA (AD (pv 6)) AE))) BC (Ae _)) (FV (BP (HK (by have:=hr.units;exact this)) (AD (pv 6)) (An D6 E4 hr rfl (AA (AD (pv 5)) (AA (AD (pv 4)) AE))) (Ae _)))))
  (AX (BL HB))
  Bk)
 (AH (Ag (i:=7) sc.nd rfl (Or.inr rfl) (AU A4 AG (AU CI (AU De (AD (pv 4)) AG) AG)))
 (AH (Mp (i:=8) [".0", "_law_k", "_law_many"] 1 [none,none,some 7] sc.nd rfl rfl (GN rfl Dc (AA (AD (pv 7)) AE)) (fun _ _ _ _ _=>C9) (fun _ _ _ _ _=>(Al (AA (Ab (AA (AU A4 (AU A4 (AU J8 (Ab (AA AG AE)) (AD (pv 1))) (Ab (AA AG AE))) (AU J8 (Ab (AA AG AE)) (AU FN (AU FN (AD (pv 2)) AG) (AD (pv 1))))) (AA (Ab (AA AG (AA AG AE))) AE))) AE))))
 (AH (Ag (i:=9) sc.nd rfl (Or.inl rfl) (Dw (An Ds (dJ E6) hr rfl (AA (AU J8 (Ab (AA (Ab AE) AE)) (AU FN (AD (pv 7)) AG)) AE)) AG (fun _ _=>rfl)))
 (AH (CZ (DW.dt (LS (BP (HK (by have:=hr.units;exact this)) (An Be Bo hr rfl (AA AG (AA (AD (pv 8)) AE))) BC (Ae _)) (FV (BP (HK (by have:=hr.units;exact this)) (An Be Bo hr rfl (AA AG (AA (AD (pv 9)) AE))) BC (Ae _)))))
  (AX (BL HB))
  Bk)
 (AH (Ag (i:=10) sc.nd rfl (Or.inl rfl) (Al (AA JS (AA (Al AE) (AA (Ab AE) (AA (Ab (AA (Al AE) (AA (Al AE) AE))) (AA (Ab (AA (Al (AA (Al AE) AE)) (AA (Al (AA (Ab (AA AG (AA AG AE))) AE)) (AA AG AE)))) (AA (Ab (AA (Al (AA (Al AE) (AA (Al AE) AE))) (AA (Al (AA (Ab (AA AG (AA AG AE))) (AA (Ab (AA AG (AA AG AE))) AE))) AE))) (AA (Ab (AA (Al (AA (Al AE) AE)) (AA (Al (AA AG AE)) AE))) AE)))))))))
 (AH (CZ (DW.dt (LS (BP (HK (by have:=hr.units;exact this)) (An Be Bo hr rfl (AA AG (AA (Dw (AD (pv 10)) (AU CI (AU De (AD (pv 4)) AG) AG) (fun _ _=>rfl)) AE))) BC (Ae _)) (FV (BP (HK (by have:=hr.units;exact this)) (An Be Bo hr rfl (AA AG (AA (Ab (AA (Al (AA (Al AE) AE)) (AA (Al (AA (Ab (AA AG (AA AG AE))) AE)) AE))) AE))) BC (Ae _)))))
  (AX (BL HB))
  Bk)
 (AX (BL (UB (Fo (by have:=hr.units;exact this)) (An Be Bo hr rfl (AA AG (AA (Dw (Al (AA (Al AE) (AA (Ab (AA AG AE)) (AA (Ab (AA (Ab AE) (AA (Ab (AA (Ab AE) AE)) AE))) (AA JS (AA BC (AA (Ab (AA (Al AE) AE)) AE))))))) (AU CI (AU De (AD (pv 4)) AG) AG) (fun _ _=>rfl)) AE))) BC (Ae _))))))))))))))))))
end
theorem Px{n:Nat}{ds:List PyData}(h:∀d∈ds,Ok n d):Sv n ds:=by
 induction ds with
 |nil=>exact⟨by simp[PyData.canLayAll0],by simp[PyData.depthAll]⟩
 |cons d ds ih =>
  obtain⟨a,b⟩:=h d (.head _);obtain⟨a',b'⟩:=ih fun e he=>h e (.tail _ he);exact⟨by simp only[PyData.canLayAll0];rw[a,a'];rfl,by simp only[PyData.depthAll];lia⟩
theorem Gi{n:Nat}{ds:List PyData}(h:∀d∈ds,Ok n d):Ok (n+1) (.list ds):=.lst (Px h)
theorem Jn{n:Nat}{ds:List PyData}(h:∀d∈ds,Ok n d):Ok (n+1) (.tuple ds):=.tup (Px h)
theorem TC(r:Rat):Ok 1 (CG r):=Jn (n:=0) fun d hd=>by
 rcases aI.mp hd with rfl|hd
 ·exact .int
 ·rw[List.mem_singleton.mp hd];exact .int
theorem ne_self{x:PyData}{n:Nat}(h:Ok n x)(hn:n≤64):CY true x x=some (.bool false):=by
 refine(if_pos ⟨h.shaped hn,h.shaped hn⟩).trans ?_;rw[MF x h.1];rfl
theorem VO{x:PyData}{n:Nat}(h:Ok n x)(hn:n≤64):CY false x x=some (.bool true):=by
 refine(if_pos ⟨h.shaped hn,h.shaped hn⟩).trans ?_;rw[MF x h.1];rfl
theorem LO(x y:Int):CY false (.int x) (.int y)=some (.bool (decide (x=y))):=by
 have h:SeqAt.shaped (.int x)=true∧SeqAt.shaped (.int y)=true:=⟨(Ok.int (n:=0)).shaped (by decide),(Ok.int (n:=0)).shaped (by decide)⟩;refine(if_pos h).trans ?_;simp[PyData.eqv];exact Bool.eq_iff_iff.mpr (by simp)
theorem Kd{i:Nat}{f g:Dv→Option PyData}{δ:Dv}{y:PyData}{p:Nat}{xs:List PyData}(h:f δ=some y)(k:g δ=some (.int (p:Nat)))(o:ow i δ=some xs)(hp:p<xs.length):MO i f g δ=some (.nx (δ.set i (.own (.lst (xs.set p y))))):=by
 show(f δ).bind _=_;rw[h];show(g δ).bind _=_;rw[k];show(ow i δ).bind _=_;rw[o];show(HS xs.length (p:Int)).map _=_;have:HS xs.length (p:Int)=some p:=by
  unfold HS;rw[if_pos (by lia)]
  first|rfl|(rw[if_pos (by lia)];simp)|simp[hp]
 rw[this];rfl
section
variable{P:Program}{w:World}{K:PySem.W.Frag}{mg:Str→Option Value}{base:Heap}{f:Addr}{fd:FuncData}{CX:Fs}{k:Nat}{ps:List Str}
def RH(ds:List PyData):Option PyData:=match ds with
 |[.int t,.int b]=>if b≠0∧b.natAbs<2^400 then some (CG (Rat.divInt t b)) else none
 |_=>none
theorem ed(F:AM P w K mg base CX k f fd ps bI):AM P w K mg base CX k f fd ps (Bu RH) :=
 Rc F fun ds x hm G H vs Q E d e kk=>by
  unfold RH at hm;split at hm
  ·split at hm
   ·rename_i hh;cases hm;obtain⟨v1,v2,rfl,d1,d2⟩:=d.WT;rw[Du]at d1 d2;subst d1 d2;refine⟨_,_,400,rfl,hh.1,by decide,hh.2,fun l H' e' hl'=>?_⟩;obtain⟨G',n1,n2,n3,n4⟩:=bg e e' hl' (QT [(Rat.divInt _ _).num,((Rat.divInt _ _).den:Int)]);exact kk _ G' H' n1 n2 n3 e' n4
   ·cases hm
  ·cases hm
end
abbrev TG:=List Int×Rat
def Fv(t:TG):PyData:=.tuple [tupI t.1,CG t.2]
def BA(ts:List TG):PyData:=.list (ts.map Fv)
def EX(ps:List (List TG)):PyData:=.list (ps.map BA)
structure S9(n:Nat)(t:TG):Prop where
 len:t.1.length=n
 pos:∀x∈t.1,0≤x∧x≤3
 ne:t.2≠0
 top:t.2.num.natAbs≤6
 bot:t.2.den≤6
structure IK(n:Nat)(ts:List TG):Prop where
 Bt:ts.length≤4
 tm:∀t∈ts,S9 n t
 ord:ts.Pairwise fun a b=>IT.lt b.1 a.1=true
structure Pf(ps:List (List TG)):Prop where
 pos:1≤ps.length
 Bt:ps.length≤4
 Vy:∀ts∈ps,IK ps.length ts
def DQ(ds:List TG):List (List Key×PyData):=ds.map fun t=>(t.1.map Sum.inl,CG t.2)
structure L9(n m:Nat)(ds:List TG):Prop where
 Bt:ds.length≤m
 tm:∀t∈ds,S9 n t
 nd:(ds.map (·.1)).Nodup
def QG(ds:List TG)(p:List Int)(a:Rat):List TG:=if(ds.any fun t=>decide (t.1=p))=true then ds.map (fun t=>if t.1=p then(t.1,a) else t) else ds++[(p,a)]
theorem Nf{p q:List Int}:p.map (Sum.inl:Int→Key)=q.map Sum.inl ↔ p=q:=List.map_inj_right fun _ _ h=>Sum.inl.inj h
theorem Xg{ds:List TG}{p:List Int}{a:Rat}:putD (DQ ds) (p.map Sum.inl) (CG a)=DQ (QG ds p a):=by
 unfold putD QG DQ;have e:((ds.map fun t:TG=>((t.1.map Sum.inl:List Key),CG t.2)).any fun kv=>decide (kv.1=p.map Sum.inl))=ds.any fun t=>decide (t.1=p):=by
  rw[List.any_map]
  congr 1
  funext t
  simp only[Function.comp_apply,Nf]
 rw[e];split
 ·rw[List.map_map,List.map_map];refine ao fun t _=>?_;simp only[Function.comp_apply,Nf];by_cases h:t.1=p
  ·rw[if_pos h,if_pos h]
  ·rw[if_neg h,if_neg h]
 ·rw[List.map_append];rfl
theorem L9.put{n m:Nat}{ds:List TG}{p:List Int}{a:Rat}(h:L9 n m ds)(t:S9 n (p,a)):L9 n (m+1) (QG ds p a):=by
 unfold QG;split
 ·rename_i c;refine⟨by rw[List.length_map];have:=h.Bt;lia,fun q hq=>?_,?_⟩
  ·obtain⟨u,hu,rfl⟩:=aP.mp hq;by_cases e:u.1=p
   ·rw[if_pos e];exact⟨(h.tm u hu).len,(h.tm u hu).pos,t.ne,t.top,t.bot⟩
   ·rw[if_neg e];exact h.tm u hu
  ·have e:(ds.map fun t=>if t.1=p then(t.1,a) else t).map (·.1)=ds.map (·.1):=by
    rw[List.map_map];refine ao fun t _=>?_;simp only[Function.comp_apply];split<;>rfl
   rw[e];exact h.nd
 ·rename_i c;refine⟨by rw[List.length_append];have:=h.Bt;simp;lia,fun q hq=>?_,?_⟩
  ·rcases ay.mp hq with hq|hq
   ·exact h.tm q hq
   ·rw[List.mem_singleton.mp hq];exact t
  ·rw[List.map_append,List.nodup_append];refine⟨h.nd,by simp,fun x hx y hy z=>c ?_⟩;rw[List.any_eq_true];obtain⟨u,hu,rfl⟩:=aP.mp hx;simp at hy;exact⟨u,hu,by rw[z,hy];simp⟩
theorem XO{ds:List TG}{t:TG}(nd:(ds.map (·.1)).Nodup)(h:t∈ds):NQ (DQ ds) (t.1.map Sum.inl)=some (CG t.2):=by
 unfold NQ DQ
 induction ds with
 |nil=>cases h
 |cons u ds ih =>
  rw[List.map_cons,List.nodup_cons]at nd;rw[List.map_cons,List.find?_cons];rcases aI.mp h with rfl|h
  ·simp
  ·have:¬u.1=t.1:=fun z=>nd.1 (by rw[z];exact aP.mpr ⟨t,h,rfl⟩);simp only[Nf,this,decide_false];exact ih nd.2 h
theorem Sj(ds:List TG):JQ ((DQ ds).map (·.1))=some (ds.map (·.1)):=by
 have key:∀p:List Int,Mw (p.map Sum.inl)=some p:=fun p=>by
  induction p with
  |nil=>rfl
  |cons i p ih=>rw[List.map_cons,Mw,ih];rfl
 induction ds with
 |nil=>rfl
 |cons t ds ih =>
  show JQ (t.1.map Sum.inl::(DQ ds).map (·.1))=_;rw[JQ,key,ih];rfl
theorem Jx:∀p:List Int,IQ (p.map .int)=some (p.map Sum.inl)
 |[]=>rfl
 |i::p=>by rw[List.map_cons,IQ,Jx p];rfl
theorem VZ{n m:Nat}{ds:List TG}(h:L9 n m ds)(hn:1≤n)(hm:m≤4):∃ts:List TG,IK n ts∧ts.map (·.1)=(sortI (ds.map (·.1))).reverse∧∀t∈ts,t∈ds:=by
 let look:List Int→Rat:=fun p=>((ds.find? fun t=>decide (t.1=p)).map (·.2)).getD 0
 have hl:∀t∈ds,look t.1=t.2:=fun t ht=>by
  have nd:=h.nd;show((ds.find? fun u=>decide (u.1=t.1)).map (·.2)).getD 0=t.2;clear h
  induction ds with
  |nil=>cases ht
  |cons u ds ih =>
   rw[List.map_cons,List.nodup_cons]at nd;rw[List.find?_cons];rcases aI.mp ht with rfl|ht
   ·simp
   ·have:¬u.1=t.1:=fun z=>nd.1 (by rw[z];exact aP.mpr ⟨t,ht,rfl⟩);simp only[this,decide_false];exact ih ht nd.2
 refine⟨(sortI (ds.map (·.1))).reverse.map fun p=>(p,look p),?_,by rw[List.map_map];simp[Function.comp_def],?_⟩
 all_goals
  have mem:∀t:TG,t∈(sortI (ds.map (·.1))).reverse.map (fun p=>(p,look p))→t∈ds:=fun t ht=>by
   obtain⟨p,hp,rfl⟩:=aP.mp ht;have hp:=(sortI_perm _).mem_iff.mp (List.mem_reverse.mp hp);obtain⟨u,hu,rfl⟩:=aP.mp hp;rw[hl u hu];exact hu
 ·refine⟨?_,fun t ht=>h.tm t (mem t ht),?_⟩
  ·rw[List.length_map,List.length_reverse,(sortI_perm _).length_eq,List.length_map];have:=h.Bt;lia
  ·rw[List.pairwise_map,List.pairwise_reverse];have nd:=(sortI_perm (ds.map (·.1))).nodup_iff.mpr h.nd;refine((Ke _).and nd).imp fun {p q} ⟨h1,h2⟩=>?_;show IT.lt p q=true;cases e:IT.lt p q with
   |true=>rfl
   |false=>exact absurd (IT.HV _ _ e (F9.mp h1)) h2
 ·exact mem
theorem XW(x y:Int):CY true (.int x) (.int y)=some (.bool (!decide (x=y))):=by
 unfold CY;rw[if_pos ⟨rfl,rfl⟩,if_pos rfl];simp[PyData.eqv];exact Bool.eq_iff_iff.mpr (by simp)
theorem div_is{i j:Int}(h:0<j)(h2:j.natAbs<2^64):Cw (.int i) (.int j)=some (.int (i / j)):=by
 unfold Cw;dsimp only;rw[if_pos ⟨by lia,Tb (aJ h2 (Nat.pow_le_pow_right (by decide) (by decide)))⟩,Int.fdiv_eq_ediv_of_nonneg _ (by lia)]
theorem S7:∀(i:Fin 13) (j:Fin 6),(Rat.divInt ((i.val:Int)-6) (1+(j.val:Int))).num.natAbs≤6∧(Rat.divInt ((i.val:Int)-6) (1+(j.val:Int))).den≤6:=by decide +kernel
theorem TK{x y:Int}:(Rat.divInt (x % 13-6) (1+y % 6)).num.natAbs≤6∧(Rat.divInt (x % 13-6) (1+y % 6)).den≤6:=by
 have h:=S7 ⟨(x % 13).toNat,by lia⟩ ⟨(y % 6).toNat,by lia⟩;have e1:((x % 13).toNat:Int)=x % 13:=by lia
 have e2:((y % 6).toNat:Int)=y % 6:=by lia
 simp only[e1,e2]at h;exact h
theorem Vk(n:Nat):(List.replicate n [PyData.int 0]).flatten=(List.replicate n (0:Int)).map .int:=by
 induction n with
 |zero=>rfl
 |succ n ih=>rw[List.replicate_succ,List.replicate_succ,List.flatten_cons,ih];rfl
theorem eZ(a0 a1 a2 a3 a4 a5 a6 a7 a8 s9 a10 a11:L):∃s,DV 9 [a0,a1,a2,a3,a4,a5,a6,a7,a8,s9,a10,a11]=[a0,a1,a2,a3,a4,a5,a6,a7,a8,s,a10,a11]:=by
 rcases s9 with _|_|(_|_|_)<;>exact⟨_,rfl⟩
theorem M7{one:PyData→Option (Option PyData)}{α:Type}{g h:α→PyData}:∀ {xs:List α},(∀x∈xs,one (g x)=some (some (h x)))→collect one (xs.map g)=some (xs.map h)
 |[],_=>rfl
 |x::xs,k=>by
  rw[List.map_cons,L2.collect,k x (.head _),M7 fun y hy=>k y (.tail _ hy)];rfl
theorem Ux{r:Int}{many:Nat}{most s4 s5 s6 s7 s8 s10 s11:_}(hm:1≤many)(hm4:many≤4) :
  ∃δ',FX (Eh Gf (AB (AK Cn (nm 0) (AK BB (nm 2) (fC (.int 1)))) AF)) (K6 10)
    (AQ (O5 9 (AK Cn (AK Cw (nm 0) (fC (.int 5))) (nm 3)) (fC (.int 1)))
    (Ao 0 (AK BB (AK Cw (nm 0) (nm 3)) (nm 10))))
   [.d (.int r),most,.d (.int 3),.d (.int (many:Nat)),s4,s5,s6,s7,s8,.own (.lst ((List.replicate many (0:Int)).map .int)),s10,s11]=some (.nx δ') ∧
   ∃(r':Int) (q:List Int) (s:L),δ'=[.d (.int r'),most,.d (.int 3),.d (.int (many:Nat)),s4,s5,s6,s7,s8,.own (.lst (q.map .int)),s,s11]∧q.length=many∧∀x∈q,0≤x∧x≤3:=by
 refine LW (xs:=El 0 (r % 4).toNat) (fun t δ=>∃(r':Int) (q:List Int) (s:L),δ=[.d (.int r'),most,.d (.int 3),.d (.int (many:Nat)),s4,s5,s6,s7,s8,.own (.lst (q.map .int)),s,s11]∧q.length=many∧∀x∈q,0≤x∧x≤t) ?_ ?_ ?_ ?_
 ·exact Pe (AV rfl rfl (mod_is (by decide))) (by lia) (by lia)
 ·exact⟨r,_,s10,rfl,by simp,fun x hx=>by rw[List.eq_of_mem_replicate hx];simp⟩
 ·rintro i x δ hx ⟨r',q,s,rfl,hq,hp⟩;obtain⟨rfl,hi⟩:=NV hx;refine⟨_,rfl,?_⟩;have hmod:0≤(r' / 5) % (many:Int)∧(r' / 5) % (many:Int)<many:=⟨Int.emod_nonneg _ (by lia),Int.emod_lt_of_pos _ (by lia)⟩;obtain⟨j,hj,ej⟩:∃j:Nat,j<many∧(r' / 5) % (many:Int)=j:=⟨((r' / 5) % (many:Int)).toNat,by lia,by lia⟩;have hjq:j<q.length:=by lia
  refine GH (δ':=[.d (.int r'),most,.d (.int 3),.d (.int (many:Nat)),s4,s5,s6,s7,s8,.own (.lst ((q.set j (q[j]+1)).map .int)),.d (.int (0+(i:Nat))),s11]) ?_ ⟨_,Am (AV (AV rfl rfl (div_is (by lia) (by lia))) rfl rfl),_,_,_,rfl,by rw[List.length_set];exact hq,?_⟩
  ·show((AK Cn (AK Cw (nm 0) (fC (.int 5))) (nm 3)) _).bind _=_;rw[AV (AV rfl rfl (div_is (by decide) (by decide))) rfl (mod_is (by lia)),ej];show((q.map PyData.int)[((j:Int)).toNat]?.bind JO).bind _=_;rw[Int.toNat_natCast,List.getElem?_map,List.getElem?_eq_getElem hjq];show(if(0:Int)≤(j:Int) then(HS (q.map PyData.int).length (j:Int)).map _ else none)=_;rw[if_pos (by lia)];unfold HS;rw[if_pos (by lia),if_pos (by rw[List.length_map];lia),Int.toNat_natCast];rw[List.map_set];rfl
  ·intro x hx;rcases List.mem_or_eq_of_mem_set hx with h|rfl
   ·have:=hp x h;lia
   ·have:=hp q[j] (List.getElem_mem hjq);lia
 ·rintro δ ⟨r',q,s,e,h1,h2⟩;refine⟨r',q,s,e,h1,fun x hx=>?_⟩;have:=h2 x hx;have hl:(El 0 (r % 4).toNat).length≤3:=by simp[El];lia
  lia
theorem YG{r:Int}{c many:Nat}{most s4 s5 s8 s9 s10 s11:L}(hc:c≤4)(hm:1≤many)(hm4:many≤4) :
  ∃δ',FX (Eh Gf (AB (nm 7) AF)) (K6 8)
   (AQ (Kt 9 (AK Ik (A8 (AB (fC (.int 0)) AF)) (nm 3)))
   (AQ (FX (Eh Gf (AB (AK Cn (nm 0) (AK BB (nm 2) (fC (.int 1)))) AF)) (K6 10)
    (AQ (O5 9 (AK Cn (AK Cw (nm 0) (fC (.int 5))) (nm 3)) (fC (.int 1)))
    (Ao 0 (AK BB (AK Cw (nm 0) (nm 3)) (nm 10)))))
   (AQ (Ao 0 (AK Cw (nm 0) (AK BB (nm 2) (fC (.int 1)))))
   (AQ (Ao 11 (AY RH (AB (AK HR (AK Cn (nm 0) (fC (.int 13))) (fC (.int 6))) (AB (AK BB (fC (.int 1)) (AK Cn (AK Cw (nm 0) (fC (.int 13))) (fC (.int 6)))) AF))))
   (AQ (Ao 0 (AK Cw (nm 0) (fC (.int 78))))
   (EM (Bi (CY true) (AK FQ (nm 11) (fC (.int 0))) (fC (.int 0)))
    (Js 9 (Pc 6 (nm 11) (AY EW (AB (nm 9) AF))))
    CP))))))
   [.d (.int r),most,.d (.int 3),.d (.int (many:Nat)),s4,s5,.own (.Bs []),.d (.int (c:Nat)),s8,s9,s10,s11]=some (.nx δ') ∧
   ∃(r':Int) (ds:List TG) (t8 t9 t10 t11:L),δ'=[.d (.int r'),most,.d (.int 3),.d (.int (many:Nat)),s4,s5,.own (.Bs (DQ ds)),.d (.int (c:Nat)),t8,t9,t10,t11]∧L9 many c ds:=by
 refine LW (xs:=El 0 c) (fun j δ=>∃(r':Int) (ds:List TG) (t8 t9 t10 t11:L),δ=[.d (.int r'),most,.d (.int 3),.d (.int (many:Nat)),s4,s5,.own (.Bs (DQ ds)),.d (.int (c:Nat)),t8,t9,t10,t11]∧L9 many j ds) ?_ ?_ ?_ ?_
 ·exact Pe (j:=(c:Int)) rfl (by lia) (by lia)
 ·exact⟨r,[],s8,s9,s10,s11,rfl,⟨by simp,fun t ht=>(by cases ht),by simp⟩⟩
 ·rintro j x δ hx ⟨r',ds,t8,t9,t10,t11,rfl,hd⟩;obtain⟨rfl,hj⟩:=NV hx;refine⟨_,rfl,?_⟩;refine GH (δ':=[.d (.int r'),most,.d (.int 3),.d (.int (many:Nat)),s4,s5,.own (.Bs (DQ ds)),.d (.int (c:Nat)),.d (.int (0+(j:Nat))),.own (.lst ((List.replicate many (0:Int)).map .int)),t10,t11]) ?_ ?_
  ·show(AK Ik (A8 (AB (fC (.int 0)) AF)) (nm 3) _).bind _=_;rw[AV (x:=.list [.int 0]) (y:=.int (many:Nat)) rfl rfl (if_pos ⟨by show 1*((many:Int)).toNat≤1000;lia,by lia,by lia⟩),Int.toNat_natCast,Vk]
   rfl
  obtain⟨δ1,e1,r1,q,s,rfl,hq,hp⟩:=Ux (r:=r') (most:=most) (s4:=s4) (s5:=s5) (s6:=.own (.Bs (DQ ds))) (s7:=.d (.int (c:Nat))) (s8:=.d (.int (0+(j:Nat)))) (s10:=t10) (s11:=t11) hm hm4;refine GH e1 ?_;refine GH (Am (AV (x:=.int r1) (y:=.int 4) rfl rfl (div_is (by decide) (by decide)))) ?_;have hb:(1+r1 / 4 / 13 % 6).natAbs<2^400:=aJ (show _<2^3 by show(1+r1 / 4 / 13 % 6).natAbs<8;lia) (Nat.pow_le_pow_right (by decide) (show 3≤400 by decide));refine GH (Am (y:=CG (Rat.divInt (r1 / 4 % 13-6) (1+r1 / 4 / 13 % 6))) (Aw (xs:=[.int (r1 / 4 % 13-6),.int (1+r1 / 4 / 13 % 6)]) (Ak (AV (x:=.int (r1 / 4 % 13)) (y:=.int 6) (AV (x:=.int (r1 / 4)) (y:=.int 13) rfl rfl (mod_is (by decide))) rfl rfl) (Ak (AV (x:=.int 1) (y:=.int (r1 / 4 / 13 % 6)) rfl (AV (x:=.int (r1 / 4 / 13)) (y:=.int 6) (AV (x:=.int (r1 / 4)) (y:=.int 13) rfl rfl (div_is (by decide) (by decide))) rfl (mod_is (by decide))) rfl) rfl)) (if_pos ⟨by lia,hb⟩))) ?_;generalize ea:Rat.divInt (r1 / 4 % 13-6) (1+r1 / 4 / 13 % 6)=a;have hs:=TK (x:=r1 / 4) (y:=r1 / 4 / 13);rw[ea]at hs;refine GH (Am (AV (x:=.int (r1 / 4)) (y:=.int 78) rfl rfl (div_is (by decide) (by decide)))) ?_;have hcond:Bi (CY true) (AK FQ (nm 11) (fC (.int 0))) (fC (.int 0)) [.d (.int (r1 / 4 / 78)),most,.d (.int 3),.d (.int (many:Nat)),s4,s5,.own (.Bs (DQ ds)),.d (.int (c:Nat)),.d (.int (0+(j:Nat))),.own (.lst (q.map .int)),s,.d (CG a)]=some (!decide (a.num=0)):=BO rfl rfl (XW _ _);by_cases hz:a.num=0
  ·rw[decide_eq_true hz]at hcond;exact⟨_,BW hcond rfl,_,ds,_,_,_,_,rfl,⟨by have:=hd.Bt;lia,hd.tm,hd.nd⟩⟩
  ·rw[decide_eq_false hz]at hcond;refine⟨_,E3 hcond ?_,r1 / 4 / 78,QG ds q a,.d (.int (0+(j:Nat))),.d (.list (q.map .int)),s,.d (CG a),rfl,hd.put ⟨hq,hp,fun z=>hz (by have z:a=0:=z;rw[z];rfl),hs.1,hs.2⟩⟩;show(Nk (tupI q)).bind _=_;show(IQ (q.map .int)).bind _=_;rw[Jx];show(if(DQ ds).length<Co then _ else none)=_;rw[if_pos (by unfold DQ;rw[List.length_map];have:=hd.Bt;show _<1000;lia),Xg]
   rfl
 ·rintro δ ⟨r',ds,t8,t9,t10,t11,e,h⟩;refine⟨r',ds,t8,t9,t10,t11,e,?_⟩
  rwa [show(El 0 c).length=c by simp[El]]at h
theorem Xe{n m:Nat}{ds:List TG}{a0 a1 a2 a3 a4 a5 a7 a8 a9 a10 a11:L}(h:L9 n m ds)(hn:1≤n)(hm:m≤4):∃ts,IK n ts ∧
  Jb 2 6 (CD 1) DP (A1 (AB (nm 1) (AB (Oy 2 (nm 1)) AF))) [none,none,some 6] (ER (Rt (fun δ=>(Bs 6 δ).bind E9) (Sh (fC (.int 1))))) [a0,a1,a2,a3,a4,a5,.own (.Bs (DQ ds)),a7,a8,a9,a10,a11]=some (BA ts):=by
 obtain⟨ts,hp,e1,e2⟩:=VZ h hn hm;refine⟨ts,hp,?_⟩;have hk:E9 (DQ ds)=some (.list ((sortI (ds.map (·.1))).map tupI)):=by
  unfold E9;rw[Sj];refine if_pos ⟨by rw[List.length_map];have:=h.Bt;lia,List.all_eq_true.mpr fun p hp=>?_⟩;obtain⟨t,ht,rfl⟩:=aP.mp hp;have:=(h.tm t ht).len;exact av fun z=>by rw[z]at this;simp at this;lia
 have hx:ER (Rt (fun δ=>(Bs 6 δ).bind E9) (Sh (fC (.int 1)))) [a0,a1,a2,a3,a4,a5,.own (.Bs (DQ ds)),a7,a8,a9,a10,a11]=some (ts.map fun t=>tupI t.1):=by
  refine W3 (x:=.list (ts.map fun t=>tupI t.1)) (AV (x:=.list ((sortI (ds.map (·.1))).map tupI)) (y:=.int (-1)) hk rfl ?_) rfl;show(if(-1:Int)=-1 then some (PyData.list ((sortI (ds.map (·.1))).map tupI).reverse) else none)=_;rw[if_pos rfl,←List.map_reverse,←e1,List.map_map];rfl
 unfold Jb Ml;rw[hx];show(((L2.collect _ (ts.map fun t=>tupI t.1)).bind Bt).map PyData.list)=_;rw[M7 (h:=Fv) fun t ht=>?_]
 ·show((Bt (ts.map Fv)).map PyData.list)=_;unfold Bt;rw[if_pos (by rw[List.length_map];have:=hp.Bt;show _≤1000;lia)];rfl
 ·show(A1 (AB (nm 1) (AB (Oy 2 (nm 1)) AF)) [.no,.d (tupI t.1),.own (.Bs (DQ ds))]).map some=_;rw[Fz (xs:=[tupI t.1,CG t.2]) (Ak rfl (Ak ?_ rfl)) (by show 2≤1000;decide)]
  ·rfl
  ·show(Nk (tupI t.1)).bind (fun q=>NQ (DQ ds) q)=_;show(IQ (t.1.map .int)).bind _=_;rw[Jx];exact XO h.nd (e2 t ht)
theorem V7{F1 F2:DF}{δ δ':Dv}{Q:List PyData→Prop}(h:F1 δ=some (.nx δ'))(k:∃xs,F2 δ'=some (.rn xs)∧Q xs):∃xs,AQ F1 F2 δ=some (.rn xs)∧Q xs:=let⟨xs,a,b⟩:=k;⟨xs,Ah h a,b⟩
theorem fU{F1 F2:DF}{δ:Dv}{R:Dv→Prop}{Q:List PyData→Prop}(h:∃δ',F1 δ=some (.nx δ')∧R δ')(k:∀δ',R δ'→∃xs,F2 δ'=some (.rn xs)∧Q xs):∃xs,AQ F1 F2 δ=some (.rn xs)∧Q xs:=let⟨δ',a,b⟩:=h;V7 a (k δ' b)
theorem OC(r:Int){most:Nat}(h1:1≤most)(h4:most≤4):∃ps,Pf ps∧ps.length≤most∧BZ RH [.int r,.int (most:Nat),.int 3]=some (EX ps):=by
 obtain⟨many,hm,hm4,em⟩:∃many:Nat,1≤many∧many≤most∧1+r % (most:Int)=many:=by
  have h1:=Int.emod_nonneg r (show(most:Int)≠0 by lia);have h2:=Int.emod_lt_of_pos r (show 0<(most:Int) by lia);exact⟨(1+r % (most:Int)).toNat,by lia,by lia,by lia⟩
 have main:∃xs,GY RH [.d (.int r),.d (.int (most:Nat)),.d (.int 3),.no,.no,.no,.no,.no,.no,.no,.no,.no]=some (.rn xs)∧∃ps:List (List TG),xs=ps.map BA∧ps.length=many∧∀ts∈ps,IK many ts:=by
  unfold GY;refine V7 (Am (y:=.int (many:Nat)) (AV (x:=.int 1) (y:=.int (r % (most:Int))) rfl (AV (x:=.int r) (y:=.int (most:Nat)) rfl rfl (mod_is (by lia))) (by show some (PyData.int (1+r % (most:Int)))=_;rw[em]))) ?_;refine V7 (Am (AV (x:=.int r) (y:=.int (most:Nat)) rfl rfl (div_is (by lia) (by lia)))) ?_;refine V7 (show Nb 4 AF _=some (.nx [.d (.int (r / (most:Int))),.d (.int (most:Nat)),.d (.int 3),.d (.int (many:Nat)),.own (.lst []),.no,.no,.no,.no,.no,.no,.no]) from rfl) ?_;refine fU (R:=fun δ'=>∃(r':Int) (ps:List (List TG)) (t5 t6 t7 t8 t9 t10 t11:L),δ'=[.d (.int r'),.d (.int (most:Nat)),.d (.int 3),.d (.int (many:Nat)),.own (.lst (ps.map BA)),t5,t6,t7,t8,t9,t10,t11]∧ps.length=many∧∀ts∈ps,IK many ts) ?_ fun δ' ⟨r',ps,t5,t6,t7,t8,t9,t10,t11,e,h1,h2⟩=>⟨_,by rw[e];rfl,ps,rfl,h1,h2⟩;refine LW (xs:=El 0 many) (fun i δ=>∃(r':Int) (ps:List (List TG)) (t5 t6 t7 t8 t9 t10 t11:L),δ=[.d (.int r'),.d (.int (most:Nat)),.d (.int 3),.d (.int (many:Nat)),.own (.lst (ps.map BA)),t5,t6,t7,t8,t9,t10,t11]∧ps.length=i∧∀ts∈ps,IK many ts) ?_ ?_ ?_ ?_
  ·exact Pe (j:=(many:Int)) rfl (by lia) (by lia)
  ·exact⟨_,[],_,_,_,_,_,_,_,rfl,rfl,fun t ht=>by cases ht⟩
  ·rintro i x δ hx ⟨r',ps,t5,t6,t7,t8,t9,t10,t11,rfl,hl,hp⟩;obtain⟨rfl,hi⟩:=NV hx;refine⟨_,rfl,?_⟩;refine GH (show V0 6 _=some (.nx [.d (.int r'),.d (.int (most:Nat)),.d (.int 3),.d (.int (many:Nat)),.own (.lst (ps.map BA)),.d (.int (0+(i:Nat))),.own (.Bs []),t7,t8,t9,t10,t11]) from rfl) ?_;obtain⟨c,hc,ec⟩:∃c:Nat,c≤4∧r' % 5=c:=⟨(r' % 5).toNat,by lia,by lia⟩;refine GH (Am (y:=.int (c:Nat)) (AV (x:=.int r') (y:=.int 5) rfl rfl (by rw[mod_is (by decide),ec]))) ?_;refine GH (Am (AV (x:=.int r') (y:=.int 5) rfl rfl (div_is (by decide) (by decide)))) ?_;obtain⟨δ1,e1,r1,ds,u8,u9,u10,u11,rfl,hd⟩:=YG (r:=r' / 5) (most:=.d (.int (most:Nat))) (s4:=.own (.lst (ps.map BA))) (s5:=.d (.int (0+(i:Nat)))) (s8:=t8) (s9:=t9) (s10:=t10) (s11:=t11) hc hm (by lia:many≤4);refine GH e1 ?_;obtain⟨v9,e9⟩:=eZ (.d (.int r1)) (.d (.int (most:Nat))) (.d (.int 3)) (.d (.int (many:Nat))) (.own (.lst (ps.map BA))) (.d (.int (0+(i:Nat)))) (.own (.Bs (DQ ds))) (.d (.int (c:Nat))) u8 u9 u10 u11;obtain⟨ts,hts,e2⟩:=Xe (a0:=.d (.int r1)) (a1:=.d (.int (most:Nat))) (a2:=.d (.int 3)) (a3:=.d (.int (many:Nat))) (a4:=.own (.lst (ps.map BA))) (a5:=.d (.int (0+(i:Nat)))) (a7:=.d (.int (c:Nat))) (a8:=u8) (a9:=v9) (a10:=u10) (a11:=u11) hd hm hc;refine⟨[.d (.int r1),.d (.int (most:Nat)),.d (.int 3),.d (.int (many:Nat)),.own (.lst ((ps++[ts]).map BA)),.d (.int (0+(i:Nat))),.own (.Bs (DQ ds)),.d (.int (c:Nat)),u8,v9,u10,u11],?_,r1,ps++[ts],_,_,_,_,_,_,_,rfl,by simp[hl],fun t ht=>?_⟩
   ·show O8 4 _ (DV 9 _)=_;rw[e9];show(Jb _ _ _ _ _ _ _ _).bind _=_;rw[e2];show(if(ps.map BA).length<Co then _ else none)=_;rw[if_pos (by rw[List.length_map];show _<1000;lia),List.map_append]
    rfl
   ·rcases ay.mp ht with ht|ht
    ·exact hp t ht
    ·rw[List.mem_singleton.mp ht];exact hts
  ·rintro δ ⟨r',ps,t5,t6,t7,t8,t9,t10,t11,e,h1,h2⟩;exact⟨r',ps,t5,t6,t7,t8,t9,t10,t11,e,by rw[h1];simp[El],h2⟩
 obtain⟨xs,e,ps,rfl,hl,hp⟩:=main;exact⟨ps,⟨by lia,by lia,fun ts ht=>by rw[hl];exact hp ts ht⟩,by lia,Q6 (xs:=ps.map BA) rfl e⟩
theorem Yd(r:Rat):Ck (CG r)=true:=by
 have h:=r.den_nz;have k:=r.reduced;rw[CG,Ck,decide_eq_true (show(1:Int)≤(r.den:Int) by lia),Bool.true_and];rw[beq_iff_eq];unfold FM.gi;unfold Nat.Coprime at k;rw[show r.num.gcd (r.den:Int)=1 from k]
 rfl
theorem RU{i:Int}(h:i.natAbs≤6):(Str.ofString (toString i)).length≤4:=by
 rw[ofString_length];exact int_text_length_le (k:=3) (by decide) (by
  by_cases z:i.natAbs=0
  ·rw[z];decide
  ·exact(Nat.log2_lt z).mpr (by lia))
theorem Tw{i:Int}(h:i.natAbs≤6):GZ (.int i)=some (.str (Str.ofString (toString i))):=if_pos (Nat.lt_of_le_of_lt (Nat.log2_le_self _) (by lia))
theorem Uh{a:Rat}(h1:a.num.natAbs≤6)(h2:a.den≤6):∃s:Str,AN [CG a]=some (.str s)∧s.length≤9:=by
 have e1:=Tw h1;have e2:=Tw (i:=(a.den:Int)) (by lia);have l1:=RU h1;have l2:=RU (i:=(a.den:Int)) (by lia);by_cases hd:(a.den:Int)=1
 ·refine⟨Str.ofString (toString a.num),C8 rfl ?_,by lia⟩;unfold FW;refine Ah (Am (y:=.int a.num) rfl) (Ah (Am (y:=.int (a.den:Int)) rfl) (D9 ?_));show((Bi (CY false) (nm 2) (fC (.int 1)) _).bind _)=_;rw[BO (x:=.int (a.den:Int)) (y:=.int 1) rfl rfl (LO _ _),decide_eq_true hd];exact e1
 ·refine⟨Str.empty++Str.ofString (toString a.num)++Str.ofString "/" ++ Str.ofString (toString (a.den:Int)),C8 rfl ?_,?_⟩
  ·unfold FW;refine Ah (Am (y:=.int a.num) rfl) (Ah (Am (y:=.int (a.den:Int)) rfl) (D9 ?_));show((Bi (CY false) (nm 2) (fC (.int 1)) _).bind _)=_;rw[BO (x:=.int (a.den:Int)) (y:=.int 1) rfl rfl (LO _ _),decide_eq_false hd];show((GZ (.int a.num)).bind fun x=>(some (PyData.str (Str.ofString "/"))).bind fun y=>(GZ (.int (a.den:Int))).bind fun z=>SG x y z)=_;rw[e1,e2];exact if_pos ⟨by lia,by decide,by lia⟩
  ·have e0:Str.empty.length=0:=rfl;have e3:(Str.ofString "/").length=1:=rfl;rw[strLen_append,strLen_append,strLen_append,e0,e3];lia
theorem QN(s:Str)(b:Nat):∀ys:List Str,(∀y∈ys,y.length≤b)→(ys.map (·.length)).sum≤ys.length*b
 |[],_=>by simp
 |y::ys,h=>by
  have h1:=h y (.head _);have h2:=QN s b ys fun z hz=>h z (.tail _ hz);simp only[List.map_cons,List.sum_cons,List.length_cons,Nat.add_mul,Nat.one_mul]
  lia
theorem Nr{s:Str}{ys:List Str}{b n:Nat}(hb:∀y∈ys,y.length≤b)(hn:ys.length≤n)(hs:n*(b+s.length)≤100000):∃t:Str,Es (.str s) (.list (ys.map .str))=some (.str t)∧t.length≤n*(b+s.length):=by
 have h1:=QN s b ys hb;have h2:ys.length*b+ys.length*s.length≤n*(b+s.length):=by rw[←Nat.mul_add];exact Nat.mul_le_mul_right _ hn
 refine⟨Txt.join s ys,?_,?_⟩
 ·show(strsOf (ys.map PyData.str)).bind _=_;rw[M4];exact if_pos (by lia)
 ·cases ys with
  |nil=>show(Txt.join s []).length≤_;exact ar _
  |cons y ys =>
   show(Builtin.Str.glued s (y::ys)).length≤_;rw[StrLaws.glued_eq_join,PyProof.Rows.len_join_cons];simp only[List.length_cons,Nat.add_mul,Nat.one_mul]at h2 h1
   lia
theorem Tp{n:Nat}{t:TG}(h:S9 n t)(hn:n≤4):∃s:Str,A6 AN [tupI t.1,CG t.2]=some (.str s)∧s.length≤130:=by
 obtain⟨s0,e0,l0⟩:=Uh h.top h.bot;have main:∃δ',FX (Eh zip2 (AB (fC PR) (AB (nm 0) AF))) (EJ 3 4) (VE 2 (AK FD (A8 (AB (nm 3) AF)) (nm 4))) [.d (tupI t.1),.d (CG t.2),.own (.lst ([s0].map .str)),.no,.no]=some (.nx δ') ∧
   ∃(ys:List Str) (u v:L),δ'=[.d (tupI t.1),.d (CG t.2),.own (.lst (ys.map .str)),u,v]∧ys.length≤13∧∀y∈ys,y.length≤9:=by
  refine LW (xs:=Gh [.str "x",.str "y",.str "z",.str "w"] (t.1.map .int)) (fun i δ=>∃(ys:List Str) (u v:L),δ=[.d (tupI t.1),.d (CG t.2),.own (.lst (ys.map .str)),u,v]∧ys.length≤1+3*i∧∀y∈ys,y.length≤9) rfl ?_ ?_ ?_
  ·exact⟨[s0],.no,.no,rfl,by simp,fun y hy=>by rw[List.mem_singleton.mp hy];exact l0⟩
  ·rintro i d δ hd ⟨ys,u,v,rfl,hl,hy⟩;have hil:i<4:=by
    have:=(aG.mp hd).1;simp[Gh]at this;lia
   obtain⟨x,y,h1,h2,rfl⟩:=L8 hd;obtain⟨c,hc,lc⟩:∃c:Str,x=.str c∧c.length=1:=by
    match i,hil,h1 with
    |0,_,h1=>cases h1;exact⟨_,rfl,rfl⟩
    |1,_,h1=>cases h1;exact⟨_,rfl,rfl⟩
    |2,_,h1=>cases h1;exact⟨_,rfl,rfl⟩
    |3,_,h1=>cases h1;exact⟨_,rfl,rfl⟩
   subst hc;rw[List.getElem?_map]at h2;obtain⟨p,h3,rfl⟩:=aC.mp h2;have hp:=h.pos p (au h3);refine⟨_,rfl,[.d (tupI t.1),.d (CG t.2),.own (.lst ((ys++List.replicate p.toNat c).map .str)),.d (.str c),.d (.int p)],?_,ys++List.replicate p.toNat c,_,_,rfl,?_,fun y hm=>?_⟩
   ·have e:(List.replicate p.toNat [PyData.str c]).flatten=(List.replicate p.toNat c).map .str:=by
     generalize p.toNat=m
     induction m with
     |zero=>rfl
     |succ m ih=>rw[List.replicate_succ,List.replicate_succ,List.flatten_cons,ih];rfl
    show(AK FD (A8 (AB (nm 3) AF)) (nm 4) [.d (tupI t.1),.d (CG t.2),.own (.lst (ys.map .str)),.d (.str c),.d (.int p)]).bind _=_;rw[AV (x:=.list [.str c]) (y:=.int p) (z:=some (.list ((List.replicate p.toNat c).map .str))) rfl rfl ?_]
    ·show(if(ys.map PyData.str).length+((List.replicate p.toNat c).map PyData.str).length≤Co then _ else none)=_;rw[if_pos (by simp;show _≤1000;lia),List.map_append];rfl
    ·show(Ik (.list [.str c]) (.int p))=_;refine(if_pos ⟨by show 1*p.toNat≤1000;lia,by lia,by lia⟩).trans ?_;rw[e]
   ·rw[List.length_append,List.length_replicate];lia
   ·rcases ay.mp hm with hm|hm
    ·exact hy y hm
    ·rw[List.eq_of_mem_replicate hm,lc];decide
  ·rintro δ ⟨ys,u,v,e,h1,h2⟩;refine⟨ys,u,v,e,?_,h2⟩;have hl:(Gh [.str "x",.str "y",.str "z",.str "w"] (t.1.map .int)).length≤4:=by simp[Gh];lia
   lia
 obtain⟨δ',e1,ys,u,v,rfl,h1,h2⟩:=main;obtain⟨s,e2,l2⟩:=Nr (s:=Str.ofString "*") (n:=13) h2 h1 (by decide);refine⟨s,C8 rfl ?_,Nat.le_trans l2 (by decide)⟩;unfold Lx;refine Ah (show Nb 2 (AB (AY AN (AB (nm 1) AF)) AF) [.d (tupI t.1),.d (CG t.2),.no,.no,.no]=some (.nx [.d (tupI t.1),.d (CG t.2),.own (.lst ([s0].map .str)),.no,.no]) from ?_) (Ah e1 ?_)
 ·show((AB (AY AN (AB (nm 1) AF)) AF [.d (tupI t.1),.d (CG t.2),.no,.no,.no]).bind Bt).map _=_;rw[Ak (x:=.str s0) (xs:=[]) (Aw (xs:=[CG t.2]) rfl e0) rfl];rfl
 ·exact D9 (AV (x:=.str (Str.ofString "*")) (y:=.list (ys.map .str)) rfl rfl e2)
theorem J9{α:Type}{one:PyData→Option (Option PyData)}{g:α→PyData}{b:Nat}:∀ {xs:List α},(∀x∈xs,∃s:Str,one (g x)=some (some (.str s))∧s.length≤b)→∃ys:List Str,L2.collect one (xs.map g)=some (ys.map .str)∧ys.length=xs.length∧∀y∈ys,y.length≤b
 |[],_=>⟨[],rfl,rfl,fun y hy=>by cases hy⟩
 |x::xs,h=>by
  obtain⟨s,e1,l1⟩:=h x (.head _);obtain⟨ys,e2,l2,h2⟩:=J9 fun y hy=>h y (.tail _ hy);refine⟨s::ys,?_,by simp[l2],fun y hy=>?_⟩
  ·rw[List.map_cons,L2.collect,e1,e2];rfl
  ·rcases aI.mp hy with rfl|hy
   ·exact l1
   ·exact h2 y hy
theorem Tq{n:Nat}{ts:List TG}(h:IK n ts)(hn:n≤4):∃s:Str,BS (A6 AN) [BA ts]=some (.str s)∧s.length≤532:=by
 by_cases hz:ts=[]
 ·subst hz;exact⟨Str.ofString "0",rfl,by decide⟩
 obtain⟨ys,e1,l1,h1⟩:=J9 (one:=F7 (EJ 1 2) DP (AY (A6 AN) (AB (nm 1) (AB (nm 2) AF))) [.no,.no,.no]) (g:=Fv) (b:=130) (xs:=ts) fun t ht=>by
  obtain⟨s,e,l⟩:=Tp (h.tm t ht) hn;refine⟨s,?_,l⟩;show(AY (A6 AN) (AB (nm 1) (AB (nm 2) AF)) [.no,.d (tupI t.1),.d (CG t.2)]).map some=_;rw[Aw (xs:=[tupI t.1,CG t.2]) rfl e];rfl
 obtain⟨s,e2,l2⟩:=Nr (s:=Str.ofString " + ") (n:=4) h1 (by rw[l1];exact h.Bt) (by decide);refine⟨s,C8 rfl ?_,Nat.le_trans l2 (by decide)⟩;unfold Lk;have hlen:(ts.map Fv).length≠0:=by rw[List.length_map];exact fun z=>hz (List.length_eq_zero_iff.mp z)
 refine Ah (BW (BO (x:=.int ((ts.map Fv).length:Nat)) (y:=.int 0) rfl rfl ((LO _ _).trans (by rw[decide_eq_false (by lia)]))) rfl) (D9 (AV (x:=.str (Str.ofString " + ")) (y:=.list (ys.map .str)) rfl ?_ e2));show(((some (ts.map Fv)).bind fun xs=>(L2.collect (F7 (EJ 1 2) DP (AY (A6 AN) (AB (nm 1) (AB (nm 2) AF))) [.no,.no,.no]) xs).bind Bt).map PyData.list)=_;rw[Option.bind_some,e1];show((Bt (ys.map PyData.str)).map PyData.list)=_;unfold Bt;rw[if_pos (by rw[List.length_map,l1];have:=h.Bt;show _≤1000;lia)];rfl
theorem Qm{ps:List (List TG)}(h:Pf ps):∃s:Str,BX (BS (A6 AN)) [EX ps]=some (.str s):=by
 let nms:List Str:=["x", "y", "z", "w"]
 have hzip:Gh (nms.map .str) (ps.map BA)=(nms.zip ps).map fun q=>.tuple [.str q.1,BA q.2]:=by
  unfold Gh;rw[List.zip_map,List.map_map];rfl
 obtain⟨ys,e1,l1,h1⟩:=J9 (one:=F7 (EJ 1 2) DP (AK BB (AK LU (fun δ=>((nm 1) δ).bind GZ) (fC (.str (Str.ofString " = ")))) (AY (BS (A6 AN)) (AB (nm 2) AF))) [.no,.no,.no]) (g:=fun q:Str×List TG=>.tuple [.str q.1,BA q.2]) (b:=600) (xs:=nms.zip ps) fun q hq=>by
  have hc:q.1.length=1:=by
   have hm:=(List.of_mem_zip (show(q.1,q.2)∈nms.zip ps from hq)).1;rcases aI.mp hm with e|hm
   ·rw[e];rfl
   rcases aI.mp hm with e|hm
   ·rw[e];rfl
   rcases aI.mp hm with e|hm
   ·rw[e];rfl
   rw[List.mem_singleton.mp hm];rfl
  obtain⟨s,e,l⟩:=Tq (h.Vy q.2 (List.of_mem_zip (show(q.1,q.2)∈nms.zip ps from hq)).2) h.Bt;have l0:Str.empty.length=0:=rfl;have l3:(Str.ofString " = ").length=3:=rfl;have l4:(Str.empty++q.1++Str.ofString " = ").length=4:=by rw[strLen_append,strLen_append,l0,l3,hc]
  refine⟨Str.empty++q.1++Str.ofString " = " ++ s,?_,by rw[strLen_append,l4];lia⟩;show(AK BB (AK LU (fun δ=>((nm 1) δ).bind GZ) (fC (.str (Str.ofString " = ")))) (AY (BS (A6 AN)) (AB (nm 2) AF)) [.no,.d (.str q.1),.d (BA q.2)]).map some=_;rw[AV (x:=.str (Str.empty++q.1++Str.ofString " = ")) (y:=.str s) (z:=some (.str (Str.empty++q.1++Str.ofString " = " ++ s))) (AV (x:=.str q.1) (y:=.str (Str.ofString " = ")) (if_pos (by rw[hc];decide)) rfl (if_pos ⟨by rw[hc];decide,by decide⟩)) (Aw (xs:=[BA q.2]) rfl e) ?_]
  ·rfl
  ·show NN (.str _) (.str s)=_;exact if_pos (by rw[l4];show _≤1000;lia)
 have hl:ys.length≤4:=by rw[l1];simp[nms];lia
 obtain⟨s,e2,l2⟩:=Nr (s:=Str.ofString "\n") (n:=4) h1 hl (by decide);refine⟨s,C8 rfl ?_⟩;unfold KO;refine D9 (AV (x:=.str (Str.ofString "\n")) (y:=.list (ys.map .str)) rfl ?_ e2);show(((some (Gh (nms.map .str) (ps.map BA))).bind fun xs=>(L2.collect (F7 (EJ 1 2) DP (AK BB (AK LU (fun δ=>((nm 1) δ).bind GZ) (fC (.str (Str.ofString " = ")))) (AY (BS (A6 AN)) (AB (nm 2) AF))) [.no,.no,.no]) xs).bind Bt).map PyData.list)=_;rw[Option.bind_some,hzip,e1];show((Bt (ys.map PyData.str)).map PyData.list)=_;unfold Bt;rw[if_pos (by rw[List.length_map];show _≤1000;lia)];rfl
theorem FP(p:List Int):Ok 1 (tupI p):=Jn (n:=0) fun d hd=>by
 obtain⟨i,_,rfl⟩:=aP.mp hd;exact .int
theorem Wv(t:TG):Ok 2 (Fv t):=Jn (n:=1) fun d hd=>by
 rcases aI.mp hd with rfl|hd
 ·exact FP _
 ·rw[List.mem_singleton.mp hd];exact TC _
theorem Nx(ts:List TG):Ok 3 (BA ts):=Gi fun d hd=>by
 obtain⟨t,_,rfl⟩:=aP.mp hd;exact Wv t
theorem TB(ps:List (List TG)):Ok 4 (EX ps):=Gi fun d hd=>by
 obtain⟨t,_,rfl⟩:=aP.mp hd;exact Nx t
theorem Wm(t:TG):JJ (Fv t)=t.1:=by
 show(t.1.map PyData.int).map intD=t.1;rw[List.map_map];exact(ao fun _ _=>rfl).trans (List.map_id _)
theorem Xz{n:Nat}{t:TG}(h:S9 n t):C5 n (Fv t)=true:=by
 show(DR n (tupI t.1)&&(Ck (CG t.2) && !decide (t.2.num=0)))=true;have h1:DR n (tupI t.1)=true:=by
  show(decide (((t.1.map PyData.int).length:Int)=n)&&(t.1.map PyData.int).all Fl)=true;rw[decide_eq_true (by rw[List.length_map,h.len]),Bool.true_and,List.all_eq_true];intro d hd;obtain⟨i,hi,rfl⟩:=aP.mp hd;exact av (h.pos i hi).1
 rw[h1,Yd,decide_eq_false fun z=>h.ne (Rat.num_eq_zero.mp z)];rfl
theorem T5{n:Nat}{ts:List TG}(h:IK n ts):Cj n (BA ts)=true:=by
 show(List.range (ts.map Fv).length).all (Dz n (ts.map Fv))=true;rw[List.all_eq_true];intro k hk;have hk:k<ts.length:=by simpa using hk
 unfold Dz;rw[List.getElem?_map,List.getElem?_eq_getElem hk];show(C5 n (Fv ts[k])&&_)=true;rw[Xz (h.tm _ (List.getElem_mem hk)),Bool.true_and];by_cases hz:k=0
 ·rw[decide_eq_true hz];rfl
 ·rw[decide_eq_false hz,Bool.false_or,List.getElem?_map,List.getElem?_eq_getElem (show k-1<ts.length by lia)];show IT.lt (JJ (Fv ts[k])) (JJ (Fv ts[k-1]))=true;rw[Wm,Wm];exact List.pairwise_iff_getElem.mp h.ord (k-1) k (by lia) hk (by lia)
theorem VB{ps:List (List TG)}(h:Pf ps):Ep (EX ps)=true:=by
 show(!decide ((ps.map BA).length=0)&&(ps.map BA).all (Cj (ps.map BA).length))=true;have:=h.pos;rw[List.length_map,decide_eq_false (by lia),Bool.not_false,Bool.true_and,List.all_eq_true];intro d hd;obtain⟨ts,ht,rfl⟩:=aP.mp hd;exact T5 (h.Vy ts ht)
theorem Rx{a b:List PyData}(h:a.length+b.length≤Co):BB (.tuple a) (.tuple b)=some (.tuple (a++b)):=by
 show Ft Sw (Ft HX (Ft Jz NN)) (.tuple a) (.tuple b)=_;have:Jz (.tuple a) (.tuple b)=some (.tuple (a++b)):=if_pos h;unfold Ft;show(match Jz (.tuple a) (.tuple b) with|some z=>some z|none=>_)=_;rw[this]
def Tells(o:Option Ou):Prop:=∃bad,Ok 6 bad∧Ep bad=false∧(o=some (.rt bad)∨∃ys,bad=.list ys∧o=some (.rn ys))
theorem BI{F1 F2:DF}{δ δ':Dv}(h:F1 δ=some (.nx δ'))(k:Tells (F2 δ')):Tells (AQ F1 F2 δ):=by rw[Ah h rfl];exact k
theorem cE{F1 F2:DF}{δ:Dv}{R:Dv→Prop}(h:∃δ',F1 δ=some (.nx δ')∧R δ')(k:∀δ',R δ'→Tells (F2 δ')):Tells (AQ F1 F2 δ):=let⟨δ',a,b⟩:=h;BI a (k δ' b)
theorem Te{n:Nat}{x:PyData}{r:List PyData}(h:C5 n x=false):Cj n (.list (x::r))=false:=by
 show(List.range (x::r).length).all (Dz n (x::r))=false;rw[List.all_eq_false];refine⟨0,by simp,?_⟩;show ¬(C5 n x&&_)=true;rw[h];simp
theorem QA{n:Nat}{x y:PyData}{r:List PyData}(h:IT.lt (JJ y) (JJ x)=false):Cj n (.list (x::y::r))=false:=by
 show(List.range (x::y::r).length).all (Dz n (x::y::r))=false;rw[List.all_eq_false];refine⟨1,by simp,?_⟩;show ¬(C5 n y&&(false||IT.lt (JJ y) (JJ x)))=true;rw[h];simp
theorem YV{n a:Nat}{xs:List PyData}{y:PyData}(hx:xs.length=n)(ha:a<n)(h:Cj n y=false):Ep (.list (xs.set a y))=false:=by
 show(!decide ((xs.set a y).length=0)&&(xs.set a y).all (Cj (xs.set a y).length))=false;rw[Bool.and_eq_false_iff]
 right
 rw[List.all_eq_false,List.length_set,hx];exact⟨y,List.mem_set (by lia) y,by rw[h];simp⟩
theorem Yn{m a:Nat}{xs:List PyData}{y:PyData}(h:∀d∈xs,Ok m d)(k:Ok m y):Ok (m+1) (.list (xs.set a y)):=Gi fun d hd=>by
 rcases List.mem_or_eq_of_mem_set hd with hd|rfl
 ·exact h d hd
 ·exact k
theorem GJ{n:Nat}{x y:PyData}(h:Ok n x)(k:Ok n y):Ok (n+1) (.tuple [x,y]):=Jn fun d hd=>by
 rcases aI.mp hd with rfl|hd
 ·exact h
 ·rw[List.mem_singleton.mp hd];exact k
theorem bp:∀ {p:List Int},p≠[]→IT.lt (p.map (· + 1)) p=false
 |[],h=>absurd rfl h
 |i::p,_=>by
  show(if i+1=i then _ else decide (i+1<i))=false;rw[if_neg (by lia)];exact aO (by lia)
theorem PK(p:List Int)(fr:PyData):JJ (.tuple [tupI p,fr])=p:=by
 show(p.map PyData.int).map intD=p;rw[List.map_map];exact(ao fun _ _=>rfl).trans (List.map_id _)
theorem HL{xs:List PyData}{a:Nat}{y:PyData}(h:xs[a]? = some y):ED xs (a:Int)=some y:=by
 have:=(aG.mp h).1;unfold ED HS;rw[if_pos (by lia),if_pos (by lia)];exact h
theorem Ry{F1 F2:DF}{δ:Dv}{bad:PyData}(h:F1 δ=some (.rt bad))(o:Ok 6 bad)(c:Ep bad=false):Tells (AQ F1 F2 δ):=⟨bad,o,c,.inl (Ng h)⟩
theorem c8{δ:Dv}{m c:Int}{b:Bool}(h:nm 8 δ=some (.int m))(e:decide (m=c)=b):Bi (CY false) (nm 8) (fC (.int c)) δ=some b:=by rw[BO h rfl (LO _ _),e]
def FI(p:List Int)(fr:PyData):List PyData:=[.tuple [tupI p,.tuple [.int 0,.int 1]],.tuple [tupI p,.tuple [.int 2,.int 4]],.tuple [.tuple (p.map .int++[.int 0]),fr],.tuple [.tuple ([.int (-1)]++(p.map .int).drop 1),fr],
 .tuple [.tuple ([.bool true]++(p.map .int).drop 1),fr],.tuple [.tuple ((p.map .int).drop 1),fr],.list [tupI p,fr],.tuple [tupI p,fr,.int 1],.tuple [.list (p.map .int),fr]]
theorem NR(p:List Int)(x:List PyData)(h:∀d∈x,Ok 0 d):Ok 1 (.tuple (x++(p.map .int).drop 1)):=Jn (n:=0) fun d hd=>by
 rcases ay.mp hd with hd|hd
 ·exact h d hd
 ·obtain⟨i,_,rfl⟩:=aP.mp (List.mem_of_mem_drop hd);exact .int
theorem XH{n:Nat}{p:List Int}{fr:PyData}(hp:p.length=n)(hn:1≤n)(of:Ok 1 fr):∀x∈FI p fr,C5 n x=false∧Ok 3 x:=by
 have hl:(p.map PyData.int).length=n:=by rw[List.length_map];exact hp
 have two:∀ {x y:PyData},Ok 1 x→Ok 1 y→Ok 3 (.tuple [x,y]):=fun h k=>(GJ h k).mono;have pw:∀(ds:List PyData) (f:PyData),DR n (.tuple ds)=false→C5 n (.tuple [.tuple ds,f])=false:=fun ds f h=>by
  show(DR n (.tuple ds)&&_)=false;rw[h];rfl
 intro x hx;unfold FI at hx;rcases aI.mp hx with rfl|hx
 ·refine⟨?_,two (FP _) (GJ (n:=0) .int .int)⟩;show(DR n (tupI p)&&(Ck (.tuple [.int 0,.int 1]) && !decide ((0:Int)=0)))=false;rw[decide_eq_true rfl];simp
 rcases aI.mp hx with rfl|hx
 ·refine⟨?_,two (FP _) (GJ (n:=0) .int .int)⟩;show(DR n (tupI p)&&(Ck (.tuple [.int 2,.int 4])&&_))=false;rw[show Ck (.tuple [.int 2,.int 4])=false by decide +kernel];simp
 rcases aI.mp hx with rfl|hx
 ·refine⟨pw _ _ ?_,two (Jn (n:=0) fun d hd=>?_) of⟩
  ·show(decide (((p.map PyData.int++[PyData.int 0]).length:Int)=n)&&_)=false;rw[decide_eq_false (by rw[List.length_append,hl];simp;lia)];rfl
  ·rcases ay.mp hd with hd|hd
   ·obtain⟨i,_,rfl⟩:=aP.mp hd;exact .int
   ·rw[List.mem_singleton.mp hd];exact .int
 rcases aI.mp hx with rfl|hx
 ·refine⟨pw _ _ ?_,two (NR p _ fun d hd=>by rw[List.mem_singleton.mp hd];exact .int) of⟩;show(_&&(decide ((0:Int)≤-1)&&_))=false;simp
 rcases aI.mp hx with rfl|hx
 ·refine⟨pw _ _ ?_,two (NR p _ fun d hd=>by rw[List.mem_singleton.mp hd];exact .bool) of⟩;show(_&&(false&&_))=false;simp
 rcases aI.mp hx with rfl|hx
 ·refine⟨pw _ _ ?_,two (by have:=NR p [] fun d hd=>(by cases hd);simpa using this) of⟩;show(decide ((((p.map PyData.int).drop 1).length:Int)=n)&&_)=false;rw[decide_eq_false (by rw[List.length_drop,hl];lia)];rfl
 rcases aI.mp hx with rfl|hx
 ·refine⟨rfl,(Gi (n:=1) fun d hd=>?_).mono⟩;rcases aI.mp hd with rfl|hd
  ·exact FP _
  ·rw[List.mem_singleton.mp hd];exact of
 rcases aI.mp hx with rfl|hx
 ·refine⟨rfl,(Jn (n:=1) fun d hd=>?_).mono⟩;rcases aI.mp hd with rfl|hd
  ·exact FP _
  rcases aI.mp hd with rfl|hd
  ·exact of
  ·rw[List.mem_singleton.mp hd];exact .int
 ·rw[List.mem_singleton.mp hx];refine⟨rfl,two (Gi (n:=0) fun d hd=>?_) of⟩;obtain⟨i,_,rfl⟩:=aP.mp hd;exact .int
theorem TV{ps:List (List TG)}(h:Pf ps)(num:Int):∃bad,Ok 6 bad∧Ep bad=false∧Ba [EX ps,.int num]=some bad:=by
 suffices T:Tells (Gk [.d (EX ps),.d (.int num),.no,.no,.no,.no,.no,.no,.no]) by
  obtain⟨bad,o1,o2,o3⟩:=T;refine⟨bad,o1,o2,?_⟩;rcases o3 with e|⟨ys,rfl,e⟩
  ·exact C8 rfl e
  ·exact Q6 rfl e
 obtain⟨n,hn⟩:∃n,ps.length=n:=⟨_,rfl⟩;have hn1:1≤n:=hn ▸ h.pos
 have hn4:n≤4:=hn ▸ h.Bt
 obtain⟨a,ha,ea⟩:∃a:Nat,a<n∧num / 16 % (n:Int)=a:=by
  have h1:=Int.emod_nonneg (num / 16) (show(n:Int)≠0 by lia);have h2:=Int.emod_lt_of_pos (num / 16) (show 0<(n:Int) by lia);exact⟨(num / 16 % (n:Int)).toNat,by lia,by lia⟩
 unfold Gk;refine BI (δ':=[.own (.lst (ps.map BA)),.d (.int num),.no,.no,.no,.no,.no,.no,.no]) ?_ ?_
 ·show(Ee (CD 1) DP (AY HN (AB (nm 1) AF)) [none,none] (ER (nm 0)) [.d (EX ps),.d (.int num),.no,.no,.no,.no,.no,.no,.no]).map _=_;rw[Tn (xs:=ps.map BA) (g:=fun x=>x) rfl (by rw[List.length_map];show _≤1000;lia) fun x hx=>?_]
  ·rw[List.map_id'];rfl
  ·obtain⟨ts,_,rfl⟩:=aP.mp hx
   rfl
 refine BI (Am (y:=.int (n:Nat)) (by show some (PyData.int ((ps.map BA).length:Nat))=_;rw[List.length_map,hn])) ?_;refine BI (Am (y:=.int (a:Nat)) (AV (x:=.int (num / 16)) (y:=.int (n:Nat)) (AV (x:=.int num) (y:=.int 16) rfl rfl (div_is (by decide) (by decide))) rfl (by rw[mod_is (by lia),ea]))) ?_;refine cE (R:=fun δ'=>∃(xs last:List PyData) (p:List Int) (fr:PyData),δ'=[.own (.lst xs),.d (.int num),.d (.int (n:Nat)),.d (.int (a:Nat)),.no,.no,.no,.no,.no]∧xs.length=n∧xs[a]? = some (.list (.tuple [tupI p,fr]::last))∧p.length=n∧Ok 1 fr∧(∀d∈last,Ok 2 d)∧last.length≤4∧∀d∈xs,Ok 5 d) ?_ ?_
 ·have Aa:∀d∈ps.map BA,Ok 5 d:=fun d hd=>by
   obtain⟨ts,_,rfl⟩:=aP.mp hd;exact(Nx ts).mono
  have hax:(ps.map BA)[a]? = some (BA ps[a]):=by rw[List.getElem?_map,List.getElem?_eq_getElem (by lia)];rfl
  have hP:=h.Vy ps[a] (List.getElem_mem _);cases hts:ps[a]with
  |nil =>
   rw[hts]at hax;obtain⟨pw,hpw,epw⟩:∃pw:List Int,pw.length=n∧AK BB (A1 (AB (fC (.int 1)) AF)) (AK JR (A1 (AB (fC (.int 0)) AF)) (AK HR (nm 2) (fC (.int 1)))) [.own (.lst (ps.map BA)),.d (.int num),.d (.int (n:Nat)),.d (.int (a:Nat)),.no,.no,.no,.no,.no]=some (tupI pw):=by
    rcases(show n=1∨n=2∨n=3∨n=4 by lia) with e|e|e|e
    ·rw[e];exact⟨[1],rfl,by kernel_rfl⟩
    ·rw[e];exact⟨[1,0],rfl,by kernel_rfl⟩
    ·rw[e];exact⟨[1,0,0],rfl,by kernel_rfl⟩
    ·rw[e];exact⟨[1,0,0,0],rfl,by kernel_rfl⟩
   refine⟨_,E3 (BO (x:=.list []) (y:=.list []) ?_ rfl (VO (n:=1) (Gi fun d hd=>by cases hd) (by decide))) (Kd (y:=.list [.tuple [tupI pw,.tuple [.int 1,.int 2]]]) (xs:=ps.map BA) ?_ rfl rfl (by rw[List.length_map];lia)),_,[],pw,.tuple [.int 1,.int 2],rfl,by rw[List.length_set,List.length_map,hn],?_,hpw,GJ .int .int,fun d hd=>(by cases hd),by simp,fun d hd=>?_⟩
   ·exact AV (x:=.list (ps.map BA)) (y:=.int (a:Nat)) rfl rfl (HL hax)
   ·exact JW (Ak (Fz (Ak epw (Ak (x:=.tuple [.int 1,.int 2]) rfl rfl)) (by show 2≤1000;decide)) rfl) (by show 1≤1000;decide)
   ·rw[List.getElem?_set_self (by rw[List.length_map];lia)]
   ·rcases List.mem_or_eq_of_mem_set hd with hd|rfl
    ·exact Aa d hd
    ·exact(Gi (n:=2) fun d hd=>by rw[List.mem_singleton.mp hd];exact GJ (FP _) (GJ (n:=0) .int .int)).mono
  |cons t r =>
   rw[hts]at hax hP;refine⟨_,BW (BO (x:=BA (t::r)) (y:=.list []) ?_ rfl ?_) rfl,ps.map BA,r.map Fv,t.1,CG t.2,rfl,by rw[List.length_map,hn],hax,by rw[(hP.tm t (.head _)).len,hn],TC _,fun d hd=>?_,?_,Aa⟩
   ·exact AV (x:=.list (ps.map BA)) (y:=.int (a:Nat)) rfl rfl (HL hax)
   ·refine(if_pos ⟨(Nx _).shaped (by decide),(Gi (n:=1) (ds:=[]) fun d hd=>by cases hd).shaped (by decide)⟩).trans ?_;show some (PyData.bool (PyData.eqv (.list (Fv t::r.map Fv)) (.list [])))=_;simp[PyData.eqv,PyData.eqvAll]
   ·obtain⟨u,_,rfl⟩:=aP.mp hd;exact Wv u
   ·have:=hP.Bt;rw[List.length_map];simp at this;lia
 rintro δ' ⟨xs,last,p,fr,rfl,hx,hxa,hp,ofr,olast,llast,oxs⟩;have hpl:(p.map PyData.int).length=n:=by rw[List.length_map];exact hp
 refine BI (δ':=[.own (.lst xs),.d (.int num),.d (.int (n:Nat)),.d (.int (a:Nat)),.d (tupI p),.d fr,.no,.no,.no]) ?_ ?_
 ·show(AK FQ (JK 0 (nm 3)) (fC (.int 0)) [.own (.lst xs),.d (.int num),.d (.int (n:Nat)),.d (.int (a:Nat)),.no,.no,.no,.no,.no]).bind _=_;rw[AV (x:=.list (.tuple [tupI p,fr]::last)) (y:=.int 0) (z:=some (.tuple [tupI p,fr])) (HL hxa) rfl (HL (a:=0) rfl)];rfl
 refine BI (Am (y:=.list last) ?_) ?_
 ·show(JK 0 (nm 3) [.own (.lst xs),.d (.int num),.d (.int (n:Nat)),.d (.int (a:Nat)),.d (tupI p),.d fr,.no,.no,.no]).bind _=_;rw[show JK 0 (nm 3) [.own (.lst xs),.d (.int num),.d (.int (n:Nat)),.d (.int (a:Nat)),.d (tupI p),.d fr,.no,.no,.no]=some (.list (.tuple [tupI p,fr]::last)) from HL hxa];show some (PyData.list (cutD (.tuple [tupI p,fr]::last) (some ((1:Nat):Int)) none))=_;rw[UJ];rfl
 have hcut:∀s6 s7 s8:L,QL (nm 4) (M5 (fC (.int 1))) M9 [.own (.lst xs),.d (.int num),.d (.int (n:Nat)),.d (.int (a:Nat)),.d (tupI p),.d fr,s6,s7,s8]=some (.tuple ((p.map .int).drop 1)):=fun s6 s7 s8=>by
  show Su (.tuple (p.map .int)) (some ((1:Nat):Int)) none=_;refine(if_pos ?_).trans (by rw[UJ]);rw[HT.Q1,hpl]
  lia
 have k4:∀ {m:Nat},m≤9→m≤Co:=fun h=>by show _≤1000;lia
 have hd1:((p.map PyData.int).drop 1).length≤4:=by rw[List.length_drop,hpl];lia
 refine BI (Am (y:=.list ((FI p fr).take 4)) (JW (Ak rfl (Ak rfl (Ak (Fz (Ak (AV rfl rfl (Rx (by rw[hpl];show n+1≤1000;lia))) rfl) (k4 (aY rfl))) (Ak (Fz (Ak (AV (x:=.tuple [.int (-1)]) rfl (hcut _ _ _) (Rx (by show 1+_≤1000;lia))) rfl) (k4 (aY rfl))) rfl)))) (k4 (aY rfl)))) ?_;refine BI (Am (y:=.list ((FI p fr).take 8)) (AV (x:=.list ((FI p fr).take 4)) (y:=.list (((FI p fr).drop 4).take 4)) rfl (JW (Ak (Fz (Ak (AV (x:=.tuple [.bool true]) rfl (hcut _ _ _) (Rx (by show 1+_≤1000;lia))) rfl) (k4 (aY rfl))) (Ak (Fz (Ak (hcut _ _ _) rfl) (k4 (aY rfl))) (Ak rfl (Ak rfl rfl)))) (k4 (aY rfl))) rfl)) ?_;refine BI (Am (y:=.list (FI p fr)) (AV (x:=.list ((FI p fr).take 8)) (y:=.list ((FI p fr).drop 8)) rfl rfl rfl)) ?_;obtain⟨m,hm,em⟩:∃m:Nat,m<16∧num % 16=m:=⟨(num % 16).toNat,by lia,by lia⟩;refine BI (Am (y:=.int (m:Nat)) (AV (x:=.int num) (y:=.int 16) rfl rfl (by rw[mod_is (by decide),em]))) ?_;have hB:=XH hp hn1 ofr;have fin:∀y:PyData,Ok 5 y→Cj n y=false→Ok 6 (.list (xs.set a y))∧Ep (.list (xs.set a y))=false:=fun y o c=>⟨Yn oxs o,YV hx ha c⟩;have ol:∀ys:List PyData,(∀d∈ys,Ok 3 d)→Ok 5 (.list (ys++last)):=fun ys h=>(Gi (n:=3) fun d hd=>by
  rcases ay.mp hd with hd|hd
  ·exact h d hd
  ·exact(olast d hd).mono).mono
 have otm:Ok 3 (.tuple [tupI p,fr]):=(GJ (FP p) ofr).mono;have hpne:p≠[]:=fun z=>by rw[z]at hp;simp at hp;lia
 by_cases h9:m<9
 ·obtain⟨x,hx9⟩:∃x,(FI p fr)[m]? = some x:=⟨_,List.getElem?_eq_getElem (show m<(FI p fr).length from h9)⟩;obtain⟨hxb,hxo⟩:=hB x (au hx9);obtain⟨f1,f2⟩:=fin (.list ([x]++last)) (ol [x] fun d hd=>by rw[List.mem_singleton.mp hd];exact hxo) (Te hxb);refine BI (E3 (BO (x:=.int (m:Nat)) (y:=.int 9) (b:=true) rfl rfl (by show some (PyData.bool (decide ((m:Int)<9)))=_;rw[decide_eq_true (by lia)])) (Kd (y:=.list ([x]++last)) (xs:=xs) (AV (x:=.list [x]) (y:=.list last) (JW (Ak (AV (x:=.list (FI p fr)) (y:=.int (m:Nat)) rfl rfl (HL hx9)) rfl) (k4 (aY rfl))) rfl (add_l (by show 1+_≤1000;lia))) rfl rfl (by lia))) ?_;refine BI (BW (c8 (m:=(m:Int)) rfl (aO (by lia))) rfl) ?_;refine BI (BW (c8 (m:=(m:Int)) rfl (aO (by lia))) rfl) ?_;refine BI (BW (c8 (m:=(m:Int)) rfl (aO (by lia))) rfl) ?_;refine BI (BW (c8 (m:=(m:Int)) rfl (aO (by lia))) rfl) ?_;refine BI (BW (BO (x:=.int (m:Nat)) (y:=.int 12) (b:=false) rfl rfl (by show some (PyData.bool (decide ((12:Int)<(m:Int))))=_;rw[decide_eq_false (by lia)])) rfl) ?_;exact⟨_,f1,f2,.inr ⟨_,rfl,rfl⟩⟩
 refine BI (BW (BO (x:=.int (m:Nat)) (y:=.int 9) (b:=false) rfl rfl (by show some (PyData.bool (decide ((m:Int)<9)))=_;rw[decide_eq_false (by lia)])) rfl) ?_;by_cases e9:m=9
 ·subst e9;obtain⟨f1,f2⟩:=fin (.list ([.tuple [tupI p,fr],.tuple [tupI p,fr]]++last)) (ol _ fun d hd=>by
   rcases aI.mp hd with rfl|hd
   ·exact otm
   ·rw[List.mem_singleton.mp hd];exact otm) (QA (by rw[PK];exact IT.lt_irrefl p))
  refine BI (E3 (c8 (m:=9) rfl rfl) (Kd (y:=.list ([.tuple [tupI p,fr],.tuple [tupI p,fr]]++last)) (xs:=xs) (AV (x:=.list [.tuple [tupI p,fr],.tuple [tupI p,fr]]) (y:=.list last) rfl rfl (add_l (by show 2+_≤1000;lia))) rfl rfl (by lia))) ?_;refine BI (BW (c8 (m:=9) rfl rfl) rfl) (BI (BW (c8 (m:=9) rfl rfl) rfl) (BI (BW (c8 (m:=9) rfl rfl) rfl) (BI (BW rfl rfl) ?_)));exact⟨_,f1,f2,.inr ⟨_,rfl,rfl⟩⟩
 refine BI (BW (c8 (m:=(m:Int)) rfl (aO (by lia))) rfl) ?_;by_cases e10:m=10
 ·subst e10;obtain⟨f1,f2⟩:=fin (.list ([.tuple [tupI p,fr],.tuple [tupI (p.map (· + 1)),fr]])) ((Gi (n:=3) fun d hd=>by
   rcases aI.mp hd with rfl|hd
   ·exact otm
   ·rw[List.mem_singleton.mp hd];exact(GJ (FP _) ofr).mono).mono) (QA (by rw[PK,PK];exact bp hpne))
  have hc:∀s6 s7 s8:L,Cb (CD 1) DP (AK BB (nm 1) (fC (.int 1))) [none,none] (ER (nm 4)) [.own (.lst xs),.d (.int num),.d (.int (n:Nat)),.d (.int (a:Nat)),.d (tupI p),.d fr,s6,s7,s8]=some (.list ((p.map (· + 1)).map .int)):=fun s6 s7 s8=>by
   rw[comp_map (xs:=p.map .int) (g:=fun d=>match d with|.int i=>.int (i+1)|d=>d) rfl (k4 (by rw[hpl];lia)) fun x hx=>?_]
   ·rw[List.map_map,List.map_map];rfl
   ·obtain⟨i,_,rfl⟩:=aP.mp hx
    rfl
  refine BI (E3 (c8 (m:=10) rfl rfl) (Kd (y:=.list [.tuple [tupI p,fr],.tuple [tupI (p.map (· + 1)),fr]]) (xs:=xs) (JW (Ak rfl (Ak (Fz (Ak (Aw (xs:=[.list ((p.map (· + 1)).map .int)]) (Ak (hc _ _ _) rfl) rfl) rfl) (k4 (aY rfl))) rfl)) (k4 (aY rfl))) rfl rfl (by lia))) ?_;refine BI (BW (c8 (m:=10) rfl rfl) rfl) (BI (BW (c8 (m:=10) rfl rfl) rfl) (BI (BW rfl rfl) ?_));exact⟨_,f1,f2,.inr ⟨_,rfl,rfl⟩⟩
 refine BI (BW (c8 (m:=(m:Int)) rfl (aO (by lia))) rfl) ?_;by_cases e11:m=11
 ·subst e11;obtain⟨f1,f2⟩:=fin (.tuple (.tuple [tupI p,fr]::last)) ((Jn (n:=3) fun d hd=>by
   rcases aI.mp hd with rfl|hd
   ·exact otm
   ·exact(olast d hd).mono).mono) rfl
  refine BI (E3 (c8 (m:=11) rfl rfl) (Kd (y:=.tuple (.tuple [tupI p,fr]::last)) (xs:=xs) (Aw (xs:=[.list (.tuple [tupI p,fr]::last)]) (Ak (HL hxa) rfl) rfl) rfl rfl (by lia))) ?_;refine BI (BW (c8 (m:=11) rfl rfl) rfl) (BI (BW rfl rfl) ?_);exact⟨_,f1,f2,.inr ⟨_,rfl,rfl⟩⟩
 refine BI (BW (c8 (m:=(m:Int)) rfl (aO (by lia))) rfl) ?_;by_cases e12:m=12
 ·subst e12;refine BI (δ':=[.own (.lst (xs++[.none])),.d (.int num),.d (.int (n:Nat)),.d (.int (a:Nat)),.d (tupI p),.d fr,.d (.list last),.d (.list (FI p fr)),.d (.int 12)]) (E3 (c8 (m:=12) rfl rfl) ?_) (BI (BW rfl rfl) ?_)
  ·show(AK HX (nm 0) (A8 (AB (fC .none) AF)) [.d (.list xs),.d (.int num),.d (.int (n:Nat)),.d (.int (a:Nat)),.d (tupI p),.d fr,.d (.list last),.d (.list (FI p fr)),.d (.int 12)]).bind _=_;rw[AV (x:=.list xs) (y:=.list [.none]) (z:=some (.list (xs++[.none]))) rfl rfl (if_pos (by rw[hx];show n+1≤1000;lia))];rfl
  ·refine⟨_,Gi fun d hd=>?_,?_,.inr ⟨xs++[.none],rfl,rfl⟩⟩
   ·rcases ay.mp hd with hd|hd
    ·exact oxs d hd
    ·rw[List.mem_singleton.mp hd];exact .BR
   ·show(_&&(xs++[PyData.none]).all _)=false;rw[List.all_append];show(_&&(_&&(false&&true)))=false;simp
 refine BI (BW (c8 (m:=(m:Int)) rfl (aO (by lia))) rfl) ?_;have c12:Bi (F4 fun i j=>decide (j<i)) (nm 8) (fC (.int 12)) [.own (.lst xs),.d (.int num),.d (.int (n:Nat)),.d (.int (a:Nat)),.d (tupI p),.d fr,.d (.list last),.d (.list (FI p fr)),.d (.int (m:Nat))]=some true:=BO (x:=.int (m:Nat)) (y:=.int 12) (b:=true) rfl rfl (by show some (PyData.bool (decide ((12:Int)<(m:Int))))=_;rw[decide_eq_true (by lia)]);rcases(show m=13∨m=14∨m=15 by lia) with e|e|e
 ·subst e;exact Ry (bad:=.list []) (E3 c12 rfl) (Gi fun d hd=>by cases hd) rfl
 ·subst e;exact Ry (bad:=.none) (E3 c12 rfl) .BR rfl
 ·subst e;exact Ry (bad:=.tuple xs) (E3 c12 rfl) (Jn oxs) rfl
theorem Jl(c k:Int):∃v,Ap [.int c,.int k]=some (.int v):=by
 suffices hh:∃v,Hf [.d (.int c),.d (.int k),.no]=some (.rt (.int v)) by
  obtain⟨v,h⟩:=hh;exact⟨v,C8 rfl h⟩
 have hn:∀(a m:Int),0<m→m<2^60→(a % m).natAbs<2^64:=fun a m h0 h1=>by
  have:=Int.emod_nonneg a (by lia:m≠0);have:=Int.emod_lt_of_pos a h0
  lia
 unfold Hf;generalize hv:(c % 2147483647*48271+k*69621+11) % 2147483647=v;have v1:v.natAbs<2^64:=by rw[←hv];exact hn _ _ (by decide) (by decide)
 generalize hu:v*v % 2147483629=u;have u1:u.natAbs<2^64:=by rw[←hu];exact hn _ _ (by decide) (by decide)
 refine⟨_,Ah (Am (y:=.int v) ?_) (Ah (Am (y:=.int u) ?_) (D9 (AV (x:=.int (u*u)) (y:=.int 2147483587) (AV (x:=.int u) (y:=.int u) rfl rfl (mul_r u1)) rfl (mod_is (by decide)))))⟩
 ·refine AV (x:=.int (c % 2147483647*48271+k*69621+11)) (y:=.int 2147483647) (AV (x:=.int (c % 2147483647*48271+k*69621)) (y:=.int 11) (AV (x:=.int (c % 2147483647*48271)) (y:=.int (k*69621)) (AV (x:=.int (c % 2147483647)) (y:=.int 48271) (AV (x:=.int c) (y:=.int 2147483647) rfl rfl (mod_is (by decide))) rfl (mul_r (by decide))) (AV (x:=.int k) (y:=.int 69621) rfl rfl (mul_r (by decide))) rfl) rfl rfl) rfl ((mod_is (by decide)).trans ?_);rw[hv]
 ·refine AV (x:=.int (v*v)) (y:=.int 2147483629) (AV (x:=.int v) (y:=.int v) rfl rfl (mul_r v1)) rfl ((mod_is (by decide)).trans ?_);rw[hu]
theorem RT(xs:List Int)(k:Nat):∃c,Ad [EA xs,.int (k:Nat)]=some (.int c):=by
 suffices hh:∃c,Fy [.d (EA xs),.d (.int (k:Nat))]=some (.rt (.int c)) by
  obtain⟨c,h⟩:=hh;exact⟨c,C8 rfl h⟩
 unfold Fy;have t:Bi (F4 fun i j=>decide (i<j)) (nm 1) (AY Io (AB (nm 0) AF)) [.d (EA xs),.d (.int (k:Nat))]=some (decide ((k:Int)<((xs.map PyData.int).length:Nat))):=BO (x:=.int (k:Nat)) (y:=.int ((xs.map PyData.int).length:Nat)) rfl rfl rfl;rw[List.length_map]at t;by_cases z:k<xs.length
 ·rw[decide_eq_true (show(k:Int)<(xs.length:Nat) by lia)]at t;exact⟨xs[k],Ng (E3 t (D9 (AV (x:=EA xs) (y:=.int (k:Nat)) rfl rfl (RD (by rw[List.getElem?_map,List.getElem?_eq_getElem z];rfl)))))⟩
 ·rw[decide_eq_false (show ¬(k:Int)<(xs.length:Nat) by lia)]at t;exact⟨0,Ah (BW t rfl) rfl⟩
abbrev WW:List PyData→Option PyData:=B8 Ad Ap
theorem RK(xs:List Int)(k:Nat):∃r,WW [EA xs,.int (k:Nat)]=some (.int r):=by
 suffices hh:∃r,Iu Ad Ap [.d (EA xs),.d (.int (k:Nat)),.no,.no]=some (.rt (.int r)) by
  obtain⟨r,h⟩:=hh;exact⟨r,C8 rfl h⟩
 obtain⟨c,hc⟩:=RT xs k;obtain⟨a,ha⟩:=Jl c (k:Nat);obtain⟨b,hb⟩:=Jl c ((k:Int)+500);obtain⟨d,hd⟩:=Jl c ((k:Int)+900);unfold Iu;have p18:∀δ:Dv,AK Qa (fC (.int 10)) (fC (.int 18)) δ=some (.int ((10:Int)^18)):=fun δ=>AV (x:=.int 10) (y:=.int 18) rfl rfl (YU (n:=18) (by decide) (by decide));have s1:(Ao 2 (AY Ad (AB (nm 0) (AB (nm 1) AF)))) [.d (EA xs),.d (.int (k:Nat)),.no,.no]=some (.nx [.d (EA xs),.d (.int (k:Nat)),.d (.int c),.no]):=Am (Aw (xs:=[EA xs,.int (k:Nat)]) rfl hc);have hab:∃y:Int,AY P8 (AB (nm 2) AF) [.d (EA xs),.d (.int (k:Nat)),.d (.int c),.no]=some (.int y):=⟨_,rfl⟩;obtain⟨y,hy⟩:=hab;have t:Bi (F4 fun i j=>decide (j≤i)) (AY P8 (AB (nm 2) AF)) (AK Qa (fC (.int 10)) (fC (.int 18))) [.d (EA xs),.d (.int (k:Nat)),.d (.int c),.no]=some (decide ((10:Int)^18≤y)):=BO (x:=.int y) (y:=.int ((10:Int)^18)) hy (p18 _) rfl;by_cases z:(10:Int)^18≤y
 ·rw[decide_eq_true z]at t;exact⟨c,Ah s1 (Ng (E3 t rfl))⟩
 ·rw[decide_eq_false z]at t;refine⟨_,Ah s1 (Ah (BW t rfl) (Ah (Am (AV (x:=.int a) (y:=.int (b*2147483587)) (Aw (xs:=[.int c,.int (k:Nat)]) rfl ha) (AV (x:=.int b) (y:=.int 2147483587) (Aw (xs:=[.int c,.int ((k:Int)+500)]) rfl hb) rfl (mul_r (by decide))) rfl)) (D9 (AV (x:=.int (a+b*2147483587)) (y:=.int (d*2147483587*2147483587)) rfl (AV (x:=.int (d*2147483587)) (y:=.int 2147483587) (AV (x:=.int d) (y:=.int 2147483587) (Aw (xs:=[.int c,.int ((k:Int)+900)]) rfl hd) rfl (mul_r (by decide))) rfl (mul_r (by decide))) rfl))))⟩
def II(c:Nat):Addr→Option Bool:=fun(C:Nat)=>if C=61 then some (decide (61=c)) else if C=49 then some (decide (49=c)) else if C=85 then some (decide (85=c)) else if C=145 then some (decide (145=c)) else none
def V8:Addr→Option Bool:=fun(C:Nat)=>if C=61∨C=49∨C=85∨C=145 then some true else none
theorem E2{K:PySem.W.Frag}{c:Nat}{cv:V}(x1:Bj K 61)(x2:Bj K 49)(x3:Bj K 85)(x4:Bj K 145)(k1:PySem.W.kitOne K (.ref 61) (Bq cv)=some (decide (61=c)):=by kernel_rfl)(k2:PySem.W.kitOne K (.ref 49) (Bq cv)=some (decide (49=c)):=by kernel_rfl)(k3:PySem.W.kitOne K (.ref 85) (Bq cv)=some (decide (85=c)):=by kernel_rfl)(k4:PySem.W.kitOne K (.ref 145) (Bq cv)=some (decide (145=c)):=by kernel_rfl):∀C z,II c C=some z→Bj K C∧PySem.W.kitOne K (.ref C) (Bq cv)=some z:=fun C z h=>by
 unfold II at h;split at h
 ·rename_i e;cases e;cases h;exact⟨x1,k1⟩
 split at h
 ·rename_i e;cases e;cases h;exact⟨x2,k2⟩
 split at h
 ·rename_i e;cases e;cases h;exact⟨x3,k3⟩
 split at h
 ·rename_i e;cases e;cases h;exact⟨x4,k4⟩
 cases h
theorem WA{K:PySem.W.Frag}{cv:V}(x1:Bj K 61)(x2:Bj K 49)(x3:Bj K 85)(x4:Bj K 145)(k1:PySem.W.kitOne K (.ref 61) (Bq cv)=some true:=by kernel_rfl)(k2:PySem.W.kitOne K (.ref 49) (Bq cv)=some true:=by kernel_rfl)(k3:PySem.W.kitOne K (.ref 85) (Bq cv)=some true:=by kernel_rfl)(k4:PySem.W.kitOne K (.ref 145) (Bq cv)=some true:=by kernel_rfl):∀C z,V8 C=some z→Bj K C∧PySem.W.kitOne K (.ref C) (Bq cv)=some z:=fun C z h=>by
 unfold V8 at h;split at h
 ·rename_i e;cases h;rcases e with e|e|e|e<;>cases e
  ·exact⟨x1,k1⟩
  ·exact⟨x2,k2⟩
  ·exact⟨x3,k3⟩
  ·exact⟨x4,k4⟩
 ·cases h
abbrev refs:List Addr:=[61,145,85,49]
abbrev df:=BS (A6 AN)
abbrev ZJ:List PyData→Option Xr:=BH (mB Ep) 61
abbrev fL:List PyData→Option Xr:=Bc (BX df) ZJ 145
abbrev PL:List PyData→Option Xr:=only refs fL
abbrev Ws:List PyData→Option Xr:=only refs (Bn (BK AN) (BN (mB JF) 85))
abbrev dz:List PyData→Option Xr:=Aj (B1 9) 49
abbrev Wd:List PyData→Option Xr:=only refs (Bx dz (Bf 9))
abbrev PU:List PyData→Option PyData:=CA V8 (II 37) (II 61) (II 169) (II 97) (II 133) (II 73) (II 85) (II 157) (II 49) (II 109) (II 121) (II 145) V8
abbrev KW:List PyData→Option PyData:=Az PU PL Ws Wd 61 85 49 145
def cM(C:Addr):Str:=if C=61 then Str.ofString "change" else if C=145 then Str.ofString "many" else if C=85 then Str.ofString "table" else Str.ofString "tree"
theorem Vv:PU [FA 61]=some (.bool true)∧PU [FA 145]=some (.bool true)∧PU [FA 85]=some (.bool true)∧PU [FA 49]=some (.bool true):=⟨by kernel_rfl,by kernel_rfl,by kernel_rfl,by kernel_rfl⟩
theorem dP{w:Int}{x y:PyData}(h:Eu PL Ws Wd [.int w,x]=some (.inl y)):KW [.int w,x]=some (.str (Str.ofString "told")):=by
 refine C8 rfl ?_;unfold F3;refine Ah (Am (y:=.none) rfl) (Ah (Am (y:=.str (Str.ofString "told")) rfl) (Ah (U8 (ds:=[.int w,x]) rfl h) (Ah (BW rfl rfl) rfl)))
theorem Wh{w:Int}{x:PyData}{C:Addr}(h:Eu PL Ws Wd [.int w,x]=some (.inr C))(hC:C∈refs):KW [.int w,x]=some (.str (cM C)):=by
 have key:∀(C:Addr) (F:DF) (s:Str),PU [FA C]=some (.bool true)→F=(AQ (Ao 3 (fC (.str s))) (Ao 2 (nm 4)))→(if C=61 then(AQ (Ao 3 (fC (.str (Str.ofString "change")))) (Ao 2 (nm 4))) else(if C=145 then(AQ (Ao 3 (fC (.str (Str.ofString "many")))) (Ao 2 (nm 4))) else(if C=85 then(AQ (Ao 3 (fC (.str (Str.ofString "table")))) (Ao 2 (nm 4))) else(AQ (Ao 3 (fC (.str (Str.ofString "tree")))) (Ao 2 (nm 4))))))=F→Eu PL Ws Wd [.int w,x]=some (.inr C)→KW [.int w,x]=some (.str s):=fun C F s ha e1 e2 h=>by
  refine C8 rfl ?_;unfold F3;refine Ah (Am (y:=.none) rfl) (Ah (Am (y:=.str (Str.ofString "told")) rfl) (Ah (δ':=[.d (.int w),.d x,.d (FA C),.d (.str s),.no]) (Vg (δ':=[.d (.int w),.d x,.d (FA C),.d (.str s),.d (FA C)]) (ds:=[.int w,x]) rfl h ?_) (Ah (BW ?_ rfl) rfl)))
  ·rw[show _=_ from e2,e1]
   rfl
  ·show(Rm _ _ _)=_;show(((some true).bind fun c=>if c=true then Ir (He (AY PU (AB (nm 2) AF))) [.d (.int w),.d x,.d (FA C),.d (.str s),.no] else some false))=_;rw[Option.bind_some,if_pos rfl,NX (b:=true) (Nt (Aw (xs:=[FA C]) rfl ha))];rfl
 obtain⟨a1,a2,a3,a4⟩:=Vv;rcases aI.mp hC with rfl|hC
 ·exact key _ _ _ a1 rfl rfl h
 rcases aI.mp hC with rfl|hC
 ·exact key _ _ _ a2 rfl rfl h
 rcases aI.mp hC with rfl|hC
 ·exact key _ _ _ a3 rfl rfl h
 rw[List.mem_singleton.mp hC]at h ⊢;exact key _ _ _ a4 rfl rfl h
theorem WY{c:PyData}(hc:c.canLay0=true)(h:Ep c=true):ZJ [c]=some (.inl .none):=by
 refine XC (δ:=[.d c]) rfl ?_;unfold EY;exact WN (NX (b:=true) (Nt (Aw (xs:=[c]) rfl (Z8 hc h)))) rfl
theorem b5{c:PyData}(hc:c.canLay0=true)(h:Ep c=false):ZJ [c]=some (.inr 61):=by
 refine NI rfl ?_;unfold EY;exact WX (NX (b:=false) (Nt (Aw (xs:=[c]) rfl (Z8 hc h)))) rfl
theorem Sy{ps:List (List TG)}(h:Pf ps):KW [.int 0,EX ps]=some (.str (Str.ofString "told")):=by
 obtain⟨s,e⟩:=Qm h;refine dP (y:=.str s) ?_;show PL [EX ps]=_;refine Xc (XY rfl ?_);unfold Ed;refine Nv (PM (ds:=[EX ps]) rfl (WY (TB ps).1 (VB h))) (Nv (WN (BO (x:=.int ((ps.map BA).length:Nat)) (y:=.int 4) (b:=false) rfl rfl ?_) rfl) ?_)
 ·show some (PyData.bool (decide ((4:Int)<((ps.map BA).length:Nat))))=_;rw[decide_eq_false (by rw[List.length_map];have:=h.Bt;lia)]
 ·show(B5 (AY (BX df) (AB (nm 0) AF)) _).map _=_;rw[D9 (Aw (xs:=[EX ps]) rfl e)];rfl
theorem Tg{c:PyData}(hc:c.canLay0=true)(h:Ep c=false):KW [.int 0,c]=some (.str (Str.ofString "change")):=by
 refine Wh (C:=61) ?_ (.head _);show PL [c]=_;refine Q2 (NI rfl ?_) (.head _);unfold Ed;exact RF (Vx (ds:=[c]) rfl (b5 hc h))
theorem Qc{cs:List PyData}(hc:(PyData.list cs).canLay0=true)(h:Ep (.list cs)=true)(h5:4<cs.length):KW [.int 0,.list cs]=some (.str (Str.ofString "many")):=by
 refine Wh (C:=145) ?_ (.tail _ (.head _));show PL [.list cs]=_;refine Q2 (NI rfl ?_) (.tail _ (.head _));unfold Ed;refine Nv (PM (ds:=[.list cs]) rfl (WY hc h)) (RF (WX (BO (x:=.int (cs.length:Nat)) (y:=.int 4) (b:=true) rfl rfl ?_) rfl));show some (PyData.bool (decide ((4:Int)<(cs.length:Nat))))=_;rw[decide_eq_true (by lia)]
abbrev ff:List PyData→Option Xr:=BV (Ay 9) dz
abbrev YR:List PyData→Option PyData:=Wg Ad (BZ RH) Ap KW WW Ba ff
def VW(p:List Int):PyData:=.list [.tuple [tupI p,.tuple [.int 1,.int 1]]]
def R8(M:Nat):List PyData:=(List.range M).map fun k=>VW ((List.range M).map fun j=>if j=k then 1 else 0)
def Pd(M:Nat):List PyData:=VW (0::List.replicate (M-1) 1)::List.replicate (M-1) (VW (List.replicate M 0))
def Rl:List PyData:=[.none,.list [],.tuple [],.tuple [.list [],.list []],.tuple [.list [.list []],.list [.tuple [.int 1,.int 1]],.int 1],.tuple [.list [.list [],.list []],.list [.tuple [.int 1,.int 1],.tuple [.int 1,.int 1]]],.tuple [.list [.list []],.list [.int 1]]]
def Uj:List PyData:=[.list [],.tuple [.int 1],.tuple [.tuple [],.tuple [.tuple []]],.none,.str (Str.ofString "[]"),.tuple [.list []]]
theorem X2:∀i:Fin 7,(Rl[i.val]?.bind fun d=>KW [.int 1,d])=some (.str (Str.ofString "table")):=fun i=>match i with
 |0=>by kernel_rfl
 |1=>by kernel_rfl
 |2=>by kernel_rfl
 |3=>by kernel_rfl
 |4=>by kernel_rfl
 |5=>by kernel_rfl
 |6=>by kernel_rfl
theorem U9:∀i:Fin 6,(Uj[i.val]?.bind fun d=>KW [.int 2,d])=some (.str (Str.ofString "tree")):=fun i=>match i with
 |0=>by kernel_rfl
 |1=>by kernel_rfl
 |2=>by kernel_rfl
 |3=>by kernel_rfl
 |4=>by kernel_rfl
 |5=>by kernel_rfl
theorem Zk:KW [.int 1,.tuple [.list [.list []],.list [.tuple [.int 1,.int 1]]]]=some (.str (Str.ofString "told")):=by kernel_rfl
theorem TU{M:Nat}(h:M=5∨M=6∨M=7):KW [.int 0,.list (R8 M)]=some (.str (Str.ofString "many"))∧KW [.int 0,.list (Pd M)]=some (.str (Str.ofString "many")):=by
 rcases h with rfl|rfl|rfl<;>exact⟨Qc (by kernel_rfl) (by kernel_rfl) (by decide),Qc (by kernel_rfl) (by kernel_rfl) (by decide)⟩
theorem ZN(ns:List Int):YR [EA ns]=some (.bool true):=by
 obtain⟨r0,h0⟩:=RK ns 0;obtain⟨ps,hp,_,e0⟩:=OC r0 (most:=4) (by decide) (by decide);obtain⟨c1,hc1⟩:=RT ns 1;obtain⟨num,hnum⟩:=Jl c1 7;obtain⟨r1,h1⟩:=RK ns 1;obtain⟨qs,hq,_,e1⟩:=OC r1 (most:=3) (by decide) (by decide);obtain⟨bad,ob,cb,e2⟩:=TV hq num;obtain⟨M,hM,eM⟩:∃M:Nat,(M=5∨M=6∨M=7)∧5+num / 64 % 3=M:=⟨(5+num / 64 % 3).toNat,by lia,by lia⟩;obtain⟨i7,hi7,e7⟩:∃i:Nat,i<7∧num / 8 % 7=i:=⟨(num / 8 % 7).toNat,by lia,by lia⟩;obtain⟨i6,hi6,e6⟩:∃i:Nat,i<6∧num / 8 % 6=i:=⟨(num / 8 % 6).toNat,by lia,by lia⟩;have n64:∀d:Int,0<d→d.natAbs<2^64→Cw (.int num) (.int d)=some (.int (num / d)):=fun d h k=>div_is h k;refine C8 rfl ?_;unfold Wa;refine Ah (Am (Aw (xs:=[EA ns,.int 0]) rfl h0)) ?_;refine Ah (Am (Aw (xs:=[.int r0,.int 4,.int 3]) rfl e0)) ?_;refine Ah (Am (y:=EX ps) ?_) ?_
 ·rw[comp_map (xs:=ps.map BA) (g:=fun x=>x) rfl (by rw[List.length_map];have:=hp.Bt;show _≤1000;lia) fun x hx=>?_]
  ·rw[List.map_id'];rfl
  ·obtain⟨ts,_,rfl⟩:=aP.mp hx
   rfl
 refine Ah (BW (O2 (BO (x:=.str (Str.ofString "told")) (y:=.str (Str.ofString "told")) (b:=false) (Aw (xs:=[.int 0,EX ps]) rfl (Sy hp)) rfl (by kernel_rfl)) (BO (x:=EX ps) (y:=EX ps) rfl rfl (ne_self (TB ps) (by decide)))) rfl) ?_;refine Ah (Am (Aw (xs:=[.int c1,.int 7]) (Ak (Aw (xs:=[EA ns,.int 1]) rfl hc1) rfl) hnum)) ?_;refine Ah (Am (Aw (xs:=[.int r1,.int 3,.int 3]) (Ak (Aw (xs:=[EA ns,.int 1]) rfl h1) rfl) e1)) ?_;refine Ah (Am (Aw (xs:=[EX qs,.int num]) rfl e2)) ?_;refine Ah (BW (O2 (BO (x:=.str (Str.ofString "change")) (y:=.str (Str.ofString "change")) (b:=false) (Aw (xs:=[.int 0,bad]) rfl (Tg ob.1 cb)) rfl (by kernel_rfl)) (BO (x:=bad) (y:=bad) rfl (Aw (xs:=[EX qs,.int num]) rfl e2) (ne_self ob (by decide)))) rfl) ?_;refine Ah (Am (y:=.int (M:Nat)) (AV (x:=.int 5) (y:=.int (num / 64 % 3)) rfl (AV (x:=.int (num / 64)) (y:=.int 3) (AV (x:=.int num) (y:=.int 64) rfl rfl (div_is (by decide) (by decide))) rfl (mod_is (by decide))) (by show some (PyData.int (5+num / 64 % 3))=_;rw[eM]))) ?_;refine Ah (Am (y:=.list (R8 M)) ?_) ?_
 ·rcases hM with rfl|rfl|rfl<;>kernel_rfl
 refine Ah (Am (y:=.list (Pd M)) ?_) ?_
 ·rcases hM with rfl|rfl|rfl<;>kernel_rfl
 obtain⟨w1,w2⟩:=TU hM;refine Ah (BW (O2 (BO (x:=.str (Str.ofString "many")) (y:=.str (Str.ofString "many")) (b:=false) (Aw (xs:=[.int 0,.list (R8 M)]) rfl w1) rfl (by kernel_rfl)) (BO (x:=.str (Str.ofString "many")) (y:=.str (Str.ofString "many")) (b:=false) (Aw (xs:=[.int 0,.list (Pd M)]) rfl w2) rfl (by kernel_rfl))) rfl) ?_;refine Ah (Am (y:=.list Rl) rfl) ?_;have t7:=X2 ⟨i7,hi7⟩;obtain⟨d7,g7,t7⟩:=aB.mp t7;refine Ah (BW (O2 (BO (x:=.str (Str.ofString "table")) (y:=.str (Str.ofString "table")) (b:=false) (Aw (xs:=[.int 1,d7]) (Ak rfl (Ak (AV (x:=.list Rl) (y:=.int (i7:Nat)) rfl (AV (x:=.int (num / 8)) (y:=.int 7) (AV (x:=.int num) (y:=.int 8) rfl rfl (div_is (by decide) (by decide))) rfl ((mod_is (by decide)).trans (by rw[e7]))) (HL g7)) rfl)) t7) rfl (by kernel_rfl)) (BO (x:=.str (Str.ofString "told")) (y:=.str (Str.ofString "told")) (b:=false) (Aw (xs:=[.int 1,.tuple [.list [.list []],.list [.tuple [.int 1,.int 1]]]]) rfl Zk) rfl (by kernel_rfl))) rfl) ?_;have t6:=U9 ⟨i6,hi6⟩;obtain⟨d6,g6,t6⟩:=aB.mp t6;exact D9 (AV (x:=.str (Str.ofString "tree")) (y:=.str (Str.ofString "tree")) (Aw (xs:=[.int 2,d6]) (Ak rfl (Ak (AV (x:=.list Uj) (y:=.int (i6:Nat)) rfl (AV (x:=.int (num / 8)) (y:=.int 6) (AV (x:=.int num) (y:=.int 8) rfl rfl (div_is (by decide) (by decide))) rfl ((mod_is (by decide)).trans (by rw[e6]))) (HL g6)) rfl)) t6) rfl (by kernel_rfl))
def Rk(K:PySem.W.Frag):Sp:=fun vs H Q _=>∃(a:Addr) (ns:List Int),vs=[.ref a]∧A3 K H a (ns.map V.int)∧ns.length≤63∧∀H',Q (.bl true) H'
theorem ZH{P:Program}{w:World}{K:PySem.W.Frag}{mg:Str→Option Value}{base:Heap}{f:Addr}{fd:FuncData}{k:Nat}(hK:O4 K=true)(F:AM P w K mg base A2 k f fd ["_law_script"] (Bu YR)):AM P w K mg base A2 k f fd ["_law_script"] (Rk K) :=
 F.imp fun vs H Q E z=>by
  obtain⟨a,ns,rfl,hS,hn,q⟩:=z;refine⟨[EA ns],.bool true,H,ZN ns,.cons (Yb (Y0 hK hS)) .nil,.refl _,fun v G' H' _ _ _ _ dv=>?_⟩;rw[Du]at dv;subst dv;exact q H'
theorem Vc{a b c:List PyData→Option Xr}:∀ds C,Eu (only refs a) (only refs b) (only refs c) ds=some (.inr C)→C=61∨C=145∨C=85∨C=49:=fun ds C h=>by
 have hm:C∈refs:=by
  unfold Eu at h;split at h
  ·split at h
   ·exact NF h
   split at h
   ·exact NF h
   split at h
   ·exact NF h
   ·cases h
  ·cases h
 simpa using hm
section
open PySem.W
theorem fnX{w:World}{mg:Str→Option Value}{h:Heap}(X:(kH w.params).In h)(G:h.Ns mainGlobals mg)(n:String)(i:Nat)(m:String×Nat)(c:Nat)(ps:List Str)
 (ha:nsIn (kH w.params) mainGlobals (Str.ofString n)=some (some (.ref (c+1))):=by kernel_rfl)(hl:(kH w.params).lookup (c+1)=some (fO n i m.1 m.2 c):=by kernel_rfl)(hc:codeIn (kH w.params) (.ref c) (Str.ofString n)=true:=by kernel_rfl)(hk:keepIn (kH w.params) (.ref (c+1))=true:=by kernel_rfl)
 (hb:∀(kV doc pm:Value) (an:Option Addr) (cdv ct:Value) (us:List Value),us.length=ps.length→bindArgs (fnOf (Str.ofString n) (Str.ofString n) (EZ (top i)) (Cs (top i)) (AO (top i)) .none kV doc pm an cdv ct) ⟨us,[]⟩=pure (ps.zip us):=by first|(exact fun _ _ _ _ _ _ us hl=>match us,hl with|[_],_=>rfl)|(exact fun _ _ _ _ _ _ us hl=>match us,hl with|[_,_],_=>rfl)|(exact fun _ _ _ _ _ _ us hl=>match us,hl with|[_,_,_],_=>rfl)|(exact fun _ _ _ _ _ _ us hl=>match us,hl with|[_,_,_,_],_=>rfl)|(exact fun _ _ _ _ _ _ us hl=>match us,hl with|[_,_,_,_,_],_=>rfl)|(exact fun _ _ _ _ _ _ us hl=>match us,hl with|[],_=>rfl)) :
  Fn (kH w.params) mg (Str.ofString n) (top i) ps (c+1) (fnOf (Str.ofString n) (Str.ofString n) (EZ (top i)) (Cs (top i)) (AO (top i)) .none .none .none (.str (Str.ofString m.1) m.2) none (.ref c) .none) :=
 ⟨Us hl hc hk,(Us (st:=top i) hl hc hk).binds hb,mg_of X G ha⟩
theorem Jj{w:World}{mg:Str→Option Value}{h:Heap}(X:(kH w.params).In h)(G:h.Ns mainGlobals mg)(n:String)(v:Value)(e:nsIn (kH w.params) mainGlobals (Str.ofString n)=some (some v):=by kernel_rfl):mg (Str.ofString n)=some v:=mg_of X G e
theorem JP{w:World}{mg:Str→Option Value}{h:Heap}(X:(kH w.params).In h)(G:h.Ns mainGlobals mg)(n:String)(e:nsIn (kH w.params) mainGlobals (Str.ofString n)=some none:=by kernel_rfl):mg (Str.ofString n)=none:=mg_none_of X G e
set_option maxHeartbeats 4000000 in
theorem eC(w:World)(mg:Str→Option Value)(fa:Addr)(h:Heap)(X:(kH w.params).In h)(G:h.Ns mainGlobals mg)(hfa:mg "law" = some (.ref fa)) :
  ∃fd:FuncData,(∀(s:Shared) (v:Value),BindsTo s fd ⟨[v],[]⟩ [("_law_script",v)])∧∀base:Heap,(kH w.params).In base→base.Ns mainGlobals mg→AM B6.prog w (kH w.params) mg base A2 16 fa fd ["_law_script"] (Rk (kH w.params)):=by
 have e:=hfa.symm.trans (mg_of X G (v:=.ref 402) (by kernel_rfl));cases e;have Ce:=fnX X G "is_fraction" 15 N1 177 ["thing"];have B9:=fnX X G "are_fractions" 16 N1 184 ["thing"];have DM:=fnX X G "is_whole" 17 N1 191 ["thing"];have DK:=fnX X G "greatest_divisor" 18 N1 198 ["one", "other"];have IU:=fnX X G "is_poly" 20 Rb 205 ["thing", "unknowns"];have IJ:=fnX X G "is_term" 21 Rb 212 ["thing", "unknowns"];have FY:=fnX X G "are_powers" 22 Rb 219 ["thing", "unknowns"];have Dk:=fnX X G "is_tree" 24 Q3 226 ["thing"];have B0:=fnX X G "refuse_no_tree" 25 Q3 233 ["thing"];have Bl:=fnX X G "parents_within" 26 Q3 238 ["tree"];have GG:=fnX X G "is_change" 28 Wi 245 ["thing"];have DD:=fnX X G "refuse_no_change" 29 Wi 252 ["thing"];have HI:=fnX X G "is_table" 32 Q8 259 ["thing"];have DZ:=fnX X G "refuse_no_table" 33 Q8 266 ["thing"];have HF:=fnX X G "are_rows" 34 Q8 273 ["thing"];have Fc:=fnX X G "shown_tree" 37 Fu 281 ["tree"];have Ey:=fnX X G "shown_table" 38 Fu 286 ["table"];have Eb:=fnX X G "shown_change" 39 Fu 293 ["change"];have CF:=fnX X G "fraction_text" 40 Fu 300 ["part"];have C3:=fnX X G "fraction_texts" 41 Fu 305 ["some"];have Cq:=fnX X G "tree_text" 42 Fu 310 ["tree"];have Ez:=fnX X G "change_text" 43 Fu 315 ["change"];have GF:=fnX X G "poly_text" 44 Fu 320 ["some"];have GD:=fnX X G "term_text" 45 Fu 327 ["powers", "part"];have Ds:=fnX X G "parting_change" 47 dm 332 ["tree"];have CJ:=fnX X G "_law_cell_at" 49 Fq 339 ["_law_script", "_law_k"];have CB:=fnX X G "_law_mixed" 50 Fq 346 ["_law_cell", "_law_k"];have Er:=fnX X G "_law_rest" 51 Fq 353 ["_law_script", "_law_k"];have FT:=fnX X G "_law_ratio" 52 Fq 360 ["_law_top", "_law_bottom"];have D4:=fnX X G "_law_change" 55 Fq 379 ["_law_rest_here", "_law_most", "_law_deep"];have Fe:=fnX X G "_law_alone" 56 Fq 384 ["_law_error"];have Be:=fnX X G "_law_refusal" 57 Fq 391 ["_law_word", "_law_thing"];have D6:=fnX X G "_law_spoilt" 58 Fq 396 ["_law_change_here", "_law_number"];have cT:=fnX X G "law" 59 Fq 401 ["_law_script"];have Av:=JP X G "len";have Dc:=JP X G "range";have FU:=JP X G "abs";have AI:=JP X G "isinstance";have Sl:=JP X G "int";have QU:=JP X G "bool";have BD:=JP X G "tuple";have CC:=JP X G "list";have B7:=JP X G "enumerate";have ML:=JP X G "sorted";have fq:=JP X G "sum";have LZ:=JP X G "zip";have Hg:=JP X G "ValueError";have a_MR:nsIn (kH w.params) mainGlobals "MOST_ROWS" = some (some (.int 40 506)):=by kernel_rfl
 have a_UN:nsIn (kH w.params) mainGlobals "UNKNOWNS" = some (some (.ref 275)):=by kernel_rfl
 have Ho:=Jj X G "GroveError" (.ref 24);have Jp:=Jj X G "NoBottom" (.ref 37);have E7:=Jj X G "NoTree" (.ref 49);have CO:=Jj X G "NoChange" (.ref 61);have K0:=Jj X G "NoStart" (.ref 73);have Dp:=Jj X G "NoTable" (.ref 85);have MV:=Jj X G "NoName" (.ref 97);have Hr:=Jj X G "NoWeighing" (.ref 109);have J0:=Jj X G "NotAlike" (.ref 121);have Kx:=Jj X G "NoParts" (.ref 133);have DB:=Jj X G "TooMany" (.ref 145);have MW:=Jj X G "NoText" (.ref 157);have MC:=Jj X G "NoLine" (.ref 169);have X_NoTree:Exc (kH w.params) mg "NoTree" 49:=⟨E7,by kernel_rfl⟩;have be_NoTree:A5 (kH w.params) 49 24 true:=by constructor<;>kernel_rfl
 have xk_NoTree:Bj (kH w.params) 49:=by constructor<;>kernel_rfl
 have X_NoTable:Exc (kH w.params) mg "NoTable" 85:=⟨Dp,by kernel_rfl⟩;have be_NoTable:A5 (kH w.params) 85 24 true:=by constructor<;>kernel_rfl
 have xk_NoTable:Bj (kH w.params) 85:=by constructor<;>kernel_rfl
 have X_NoChange:Exc (kH w.params) mg "NoChange" 61:=⟨CO,by kernel_rfl⟩;have be_NoChange:A5 (kH w.params) 61 24 true:=by constructor<;>kernel_rfl
 have xk_NoChange:Bj (kH w.params) 61:=by constructor<;>kernel_rfl
 have X_TooMany:Exc (kH w.params) mg "TooMany" 145:=⟨DB,by kernel_rfl⟩;have be_TooMany:A5 (kH w.params) 145 24 true:=by constructor<;>kernel_rfl
 have xk_TooMany:Bj (kH w.params) 145:=by constructor<;>kernel_rfl
 have bt_NoChange_NoChange:A5 (kH w.params) 61 61 true:=by constructor<;>kernel_rfl
 have bt_TooMany_NoChange:A5 (kH w.params) 145 61 false:=by constructor<;>kernel_rfl
 have bt_TooMany_TooMany:A5 (kH w.params) 145 145 true:=by constructor<;>kernel_rfl
 have bt_NoTable_NoChange:A5 (kH w.params) 85 61 false:=by constructor<;>kernel_rfl
 have bt_NoTable_TooMany:A5 (kH w.params) 85 145 false:=by constructor<;>kernel_rfl
 have bt_NoTable_NoTable:A5 (kH w.params) 85 85 true:=by constructor<;>kernel_rfl
 have bt_NoTree_NoChange:A5 (kH w.params) 49 61 false:=by constructor<;>kernel_rfl
 have bt_NoTree_TooMany:A5 (kH w.params) 49 145 false:=by constructor<;>kernel_rfl
 have bt_NoTree_NoTable:A5 (kH w.params) 49 85 false:=by constructor<;>kernel_rfl
 have bt_NoTree_NoTree:A5 (kH w.params) 49 49 true:=by constructor<;>kernel_rfl
 have hK:O4 (kH w.params)=true:=by kernel_rfl
 refine⟨fnOf (Str.ofString "law") (Str.ofString "law") (EZ (top 59)) (Cs (top 59)) (AO (top 59)) .none .none .none (.str (Str.ofString "law_stepgrove_k81_refused_things_to_show") 610) none (.ref 401) .none,fun s v=>.of_eq rfl,fun base _ _=>?_⟩;have Ih:=PySem.W.mg_of X G a_MR;have Cm:=PySem.W.mg_of X G a_UN;have eP:=Kb (P:=B6.prog) (w:=w) (base:=base) DK FU;have Zf:=Qp (P:=B6.prog) (w:=w) (base:=base) DM AI Sl QU;have S8:=Nh Ce DM DK Zf eP AI BD Av;have Zn:=MH B9 Ce S8 AI CC;have eh:=Qn HF B9 Zn Ih AI CC Av B7;have fE:=Qo HI HF B9 eh (Zn.mono) AI BD Av;have dH:=Od FY DM Zf AI BD Av;have eJ:=SJ IJ FY Ce dH S8 AI BD Av;have eY:=SA IU IJ eJ AI CC B7;have fN:=Pp GG IU eY AI CC Av;have Il:=di (q:=Ep) fN (fun l d v H Q E hd hq=>⟨l,d,v,rfl,hd,hq⟩);have Jo:=di (q:=JF) fE (fun l d v H Q E hd hq=>⟨l,d,v,rfl,hd,hq⟩);have ES:=KZ (P:=B6.prog) (w:=w) (base:=base) (k:=6) DD GG (Il.mono) X_NoChange;have En:=K4 (P:=B6.prog) (w:=w) (base:=base) (k:=6) DZ HI (Jo.mono) X_NoTable;have GP:=Mk (P:=B6.prog) (w:=w) (base:=base) (k:=0) Dk B7 AI BD 9;have CL:=Lb (P:=B6.prog) (w:=w) (base:=base) (k:=10) B0 Dk (GP.mono) X_NoTree;have Cv:=Gz (P:=B6.prog) (w:=w) (base:=base) (k:=0) Bl Av 9;have Cc:=L7 (P:=B6.prog) (w:=w) (base:=base) (k:=0) CF;have Dx:=La (P:=B6.prog) (w:=w) (base:=base) (k:=1) C3 CF (Cc.mono);have Ew:=LB (P:=B6.prog) (w:=w) (base:=base) (k:=0) Cq 9;have I0:=QJ (P:=B6.prog) (w:=w) (base:=base) (k:=1) GD CF (Cc.mono) LZ Cm;have Ip:=QZ (P:=B6.prog) (w:=w) (base:=base) (k:=2) GF GD (I0.mono) Av;have Gg:=Nm (P:=B6.prog) (w:=w) (base:=base) (k:=3) Ez GF (Ip.mono) LZ Cm;have Hi:=Oh (P:=B6.prog) (w:=w) (base:=base) (k:=11) Fc B0 (CL.mono) Cq (Ew.mono);have Gn:=Nn (P:=B6.prog) (w:=w) (base:=base) (k:=7) Ey C3 (Dx.mono) DZ (En.mono);have GA:=Md (P:=B6.prog) (w:=w) (base:=base) (k:=7) Eb Ez (Gg.mono) DD (ES.mono) Av Cm X_TooMany;have E6:=Lc (P:=B6.prog) (w:=w) (base:=base) (k:=11) Ds Bl (Cv.mono) B0 (CL.mono) Av Dc BD;have Ct:=Mb (P:=B6.prog) (w:=w) (base:=base) (k:=0) CJ Av;have CS:=Ol (P:=B6.prog) (w:=w) (base:=base) (k:=0) CB;have GI:=QY (P:=B6.prog) (w:=w) (base:=base) (k:=1) Er CJ (Ct.mono) CB (CS.mono) FU;have HQ:=ed (Oj (P:=B6.prog) (w:=w) (base:=base) FT FU);have E1:=Nl (P:=B6.prog) (w:=w) (base:=base) (k:=1) D4 FT (HQ.mono) Dc ML BD;have Hs:=Oi (P:=B6.prog) (w:=w) (base:=base) (k:=0) Fe Hg AI Av Ho Jp CO MC MV Kx K0 Dp MW E7 Hr J0 DB (WA xk_NoChange xk_NoTree xk_NoTable xk_TooMany) (E2 (c:=37) xk_NoChange xk_NoTree xk_NoTable xk_TooMany) (E2 (c:=61) xk_NoChange xk_NoTree xk_NoTable xk_TooMany) (E2 (c:=169) xk_NoChange xk_NoTree xk_NoTable xk_TooMany) (E2 (c:=97) xk_NoChange xk_NoTree xk_NoTable xk_TooMany) (E2 (c:=133) xk_NoChange xk_NoTree xk_NoTable xk_TooMany) (E2 (c:=73) xk_NoChange xk_NoTree xk_NoTable xk_TooMany) (E2 (c:=85) xk_NoChange xk_NoTree xk_NoTable xk_TooMany) (E2 (c:=157) xk_NoChange xk_NoTree xk_NoTable xk_TooMany) (E2 (c:=49) xk_NoChange xk_NoTree xk_NoTable xk_TooMany) (E2 (c:=109) xk_NoChange xk_NoTree xk_NoTable xk_TooMany) (E2 (c:=121) xk_NoChange xk_NoTree xk_NoTable xk_TooMany) (E2 (c:=145) xk_NoChange xk_NoTree xk_NoTable xk_TooMany) (WA xk_NoChange xk_NoTree xk_NoTable xk_TooMany)
 have O_shown_change:=MG refs GA;have O_shown_table:=MG refs Gn;have O_shown_tree:=MG refs Hi;have Bo:=Mf (P:=B6.prog) (w:=w) (base:=base) (k:=12) Be Fe (Hs.mono) Eb (O_shown_change.mono) Ey (O_shown_table.mono) Fc (O_shown_tree.mono) CO Dp E7 DB Vc bt_NoChange_NoChange bt_TooMany_NoChange bt_TooMany_TooMany bt_NoTable_NoChange bt_NoTable_TooMany bt_NoTable_NoTable bt_NoTree_NoChange bt_NoTree_TooMany bt_NoTree_NoTable bt_NoTree_NoTree (by decide) (by decide) (by decide) (by decide) (by decide) (by decide);have E4:=NH (P:=B6.prog) (w:=w) (base:=base) (k:=0) D6 Av CC BD;have b9:=Zt (P:=B6.prog) (w:=w) (base:=base) (k:=15) cT CJ (Ct.mono) D4 (E1.mono) CB (CS.mono) Be (Bo.mono) Er (GI.mono) D6 (E4.mono) Ds (E6.mono) CC Dc;exact ZH hK b9
theorem walkX:WalkO qX [] (XL qX []) hX.says B6.row.toRowW dX [] (fun f vs=>PySem.call f vs) :=
 L2.V1 (l:=B6) (n:=63) (k:=16) (x := "_law_script") (CX:=fun _=>A2) (K:=kH) (da:=275) (its:=YK) (sp:=fun w=>Rk (kH w.params)) rfl (by decide) rfl ⟨rfl,by decide,by decide⟩ (fun w h Y=>kIn_of Y) (by kernel_rfl) (by decide) (fun P=>by kernel_rfl) (fun w mg h X G=>⟨mg_of X G (v:=.ref 275) (by kernel_rfl),mg_none_of X G (by kernel_rfl)⟩) eC (fun _ _ a ns hl hS=>⟨a,ns,rfl,hS,hl,fun _=>rfl⟩) fun _ _ _ _ _ z=>z
end
end Q81
open PySem PySem.W PyProof.Rows
set_option maxRecDepth 100000 in
theorem PySem.Challenge.cw_stepgrove_k81_refused_things_to_show_holds : PySem.Challenge.rw_stepgrove_k81_refused_things_to_show.Holds := by
  refine Q81.openX ?hw Q81.walkX
  w_witness2
#print axioms PySem.Challenge.cw_stepgrove_k81_refused_things_to_show_holds
